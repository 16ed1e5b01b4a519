/- The statement CodecStrings returns true where what comes in is small: its walk. -/
import Derived.Test.YtjpcnnofjfmkeaaFit
import Derived.Test.YtjpcnnofjfmkeaaSeq
import Derived.Test.YtjpcnnofjfmkeaaPrefWalk
import Derived.Test.YtjpcnnofjfmkeaaNumWalk
import Derived.Laws.AppendOwnNone
import Derived.Laws.IdiomStrings
namespace Go.Proofs.Ytjpcnnofjfmkeaa
open Go.RowKit

/-- What the walk is told of a slice of strings that came in. -/
def Strs (w : World) (A : Option Addr) (ss : List ByteArray) : Prop :=
  ∀ i, i < ss.length → ∃ b o, A = some ⟨b, o, none⟩ ∧ b < w.heap.size ∧ w.cell? ⟨b, o + i, none⟩ = some (.string (ss.getD i ByteArray.empty))
theorem Strs.below {w w' : World} {A : Option Addr} {ss : List ByteArray} (h : Strs w A ss) (hb : Below w.heap.size w w') : Strs w' A ss := by
  intro i hi
  obtain ⟨b, o, h1, h2, h3⟩ := h i hi
  exact ⟨b, o, h1, by have := hb.size; omega, (hb.cell (p := ⟨b, o + i, none⟩) h2).trans h3⟩

/-- What the walk is told of a slice of bytes that came in. -/
def Bytes (w : World) (B : Option Addr) (cap : Nat) (bs : List UInt8) : Prop :=
  (B = none ∧ cap = 0 ∧ bs = []) ∨ ∃ x, B = some x ∧ ∀ j u, (bcells bs)[j]? = some u → w.cell? (x.add j) = some u
theorem add_block (a : Addr) (n : Nat) : (a.add n).block = a.block := by unfold Addr.add; split <;> rfl
theorem Bytes.below {w w' : World} {B : Option Addr} {cap : Nat} {bs : List UInt8} (h : Bytes w B cap bs) (hb : Below w.heap.size w w') : Bytes w' B cap bs := by
  rcases h with h | ⟨x, h1, h2⟩
  · exact .inl h
  · refine .inr ⟨x, h1, fun j u hu => ?_⟩
    have := h2 j u hu
    exact (hb.cell (World.block_lt_of_cell? w _ this)).trans this
theorem conv_bytes {w : World} {B : Option Addr} {cap : Nat} {bs : List UInt8} (h : Bytes w B cap bs) :
    (convert 26 9 (.slice B bs.length cap)).run Try.prog w = .ok (.string (str bs)) w := by
  rcases h with ⟨rfl, rfl, rfl⟩ | ⟨x, rfl, h⟩
  · exact run_convert_bytes_nil w 26 5 Try.underlying26 Try.underlying5 _ _ 9 Try.underlying9
  · refine run_convert_bytes_back w 26 9 5 x cap bs Try.underlying26 Try.underlying5 Try.underlying9 (fun j hj => h j _ ?_)
    simp [bcells, hj]

/-- The strings, each behind its length. -/
def encS : List ByteArray → List UInt8
  | [] => []
  | s :: r => (Num.enc s.size ++ s.data.toList) ++ encS r
theorem encS_snoc (a : List ByteArray) (s : ByteArray) : encS (a ++ [s]) = encS a ++ (Num.enc s.size ++ s.data.toList) := by
  induction a with
  | nil => simp [encS]
  | cons t a ih => simp only [List.cons_append, encS, ih, List.append_assoc]
/-- How many letters there are. -/
def sizes : List ByteArray → Nat
  | [] => 0
  | s :: r => s.size + sizes r
theorem sizes_mem {s : ByteArray} {l : List ByteArray} (h : s ∈ l) : s.size ≤ sizes l := by
  induction l with
  | nil => cases h
  | cons t l ih =>
    simp only [sizes]
    rcases List.mem_cons.1 h with rfl | h
    · omega
    · have := ih h; omega
theorem sizes_take (l : List ByteArray) (k : Nat) : sizes (l.take k) ≤ sizes l := by
  induction l generalizing k with
  | nil => simp
  | cons t l ih =>
    cases k with
    | zero => simp [sizes]
    | succ k => have := ih k; simp only [List.take_succ_cons, sizes]; omega
theorem encS_len {l : List ByteArray} (h : sizes l ≤ 1048576) : (encS l).length ≤ 10 * l.length + sizes l := by
  induction l with
  | nil => simp [encS]
  | cons t l ih =>
    simp only [sizes] at h
    have h1 := Num.enc_len10 (n := t.size) (by unfold Num.top; omega)
    have h2 := ih (by omega)
    have h3 : t.data.toList.length = t.size := rfl
    simp only [encS, sizes, List.length_append, List.length_cons]; omega
theorem take_getD' (l : List ByteArray) (k : Nat) (h : k < l.length) : l.take (k + 1) = l.take k ++ [l.getD k ByteArray.empty] := by
  rw [List.take_succ_eq_append_getElem h]
  simp [List.getD, h]

theorem encS_append (a b : List ByteArray) : encS (a ++ b) = encS a ++ encS b := by
  induction a with
  | nil => simp [encS]
  | cons t a ih => simp only [List.cons_append, encS, ih, List.append_assoc]
theorem seq_at (bs : List UInt8) (ss : List ByteArray) (k : Nat) (hk : k < ss.length) (hs : (ss.getD k ByteArray.empty).size < Num.top) :
    rdStr (str (bs ++ encS ss)) (((bs ++ encS (ss.take k)).length : Nat) : Int) 0 = ((ss.getD k ByteArray.empty).data.toList, (((bs ++ encS (ss.take (k + 1))).length : Nat) : Int), 0) := by
  obtain ⟨s, hs'⟩ : ∃ s, ss.getD k ByteArray.empty = s := ⟨_, rfl⟩
  have htk := take_getD' ss k hk
  rw [hs'] at htk hs ⊢
  have hsp : encS ss = encS (ss.take k) ++ ((Num.enc s.size ++ s.data.toList) ++ encS (ss.drop (k + 1))) := by
    conv => lhs; rw [← List.take_append_drop (k + 1) ss]
    rw [encS_append, htk, encS_snoc, List.append_assoc]
  have e1 : bs ++ encS ss = (bs ++ encS (ss.take k)) ++ ((Num.enc s.data.toList.length ++ s.data.toList) ++ encS (ss.drop (k + 1))) := by
    rw [hsp, ← List.append_assoc]; rfl
  rw [e1, seq_str _ _ s.data.toList hs, htk, encS_snoc]; simp only [List.append_assoc]; rfl

set_option maxRecDepth 100000 in
set_option maxHeartbeats 2000000 in
theorem strings_walk (A : Option Addr) (cap : Nat) (ss : List ByteArray) (B : Option Addr) (capB : Nat) (bs : List UInt8) (w : World) (hA : Strs w A ss) (hB : Bytes w B capB bs)
    (h1 : sizes ss ≤ 1048576) (h2 : ss.length ≤ 1048576) (h3 : bs.length ≤ 1048576) :
    Calls Try.prog 4 #[.slice A ss.length cap, .slice B bs.length capB] w fun e w' => e = .returned (.bool true) ∧ Below w.heap.size w w' := by
  obtain ⟨i0, hi, hz0, hz1, hz2⟩ := info_parts byteInfo
  go_enter Try.func4, Try.ntmps4
  go_wp2_with fail
  refine (fit_any _).mono ?_
  rintro f w1 ⟨rfl, hb1⟩
  have hA1 := hA.below hb1
  have hB1 := hB.below hb1
  have HB1 := Lib.hid hb1
  clear hb1 hA hB
  have hown := World.ownsRow_lit (e := 5) (size := 1) (base := w1.heap.size) w1 #[] 0 (Nat.le_refl _) (Nat.zero_le _) rfl
  rcases hB1 with ⟨rfl, rfl, rfl⟩ | ⟨x, rfl, hx⟩
  case' inl =>
    have hconv : ∀ X : World, (convert 26 9 (.slice none 0 0)).run Try.prog X = .ok (.string (str [])) X := fun X => conv_bytes (w := X) (B := none) (cap := 0) (bs := []) (.inl ⟨rfl, rfl, rfl⟩)
    go_wp2_with (at_builtin; refine wpList_append_own_none _ (.tmp 14) (.tmp 15) 26 rfl w1.heap.size 5 i0 1 Try.underlying26 hi _ 0 [] rfl hown rfl ?_)
    obtain ⟨X, hX⟩ : ∃ X, (w1.alloc (.cells #[] 5)).alloc (.cells #[.slice (some ⟨w1.heap.size, 0, none⟩) 0 0] 28) = X := ⟨_, rfl⟩
    obtain ⟨b, hb⟩ : ∃ b, w1.heap.size + 1 = b := ⟨_, rfl⟩
    have hwr : Wr 28 5 X w1.heap.size b [] := by
      refine ⟨some ⟨w1.heap.size, 0, none⟩, 0, ?_, by omega, ?_⟩
      · have := Whole.new (w1.alloc (.cells #[] 5)) #[.slice (some ⟨w1.heap.size, 0, none⟩) 0 0] 28
        rw [← hX, ← hb]; simpa using this
      · rw [← hX]; exact hown.alloc _
    have hbX : Below w1.heap.size w1 X := by rw [← hX]; exact ((Below.refl _ _).alloc (Nat.le_refl _) _).alloc (by simp) _
    obtain ⟨bs, hbs⟩ : ∃ l : List UInt8, l = [] := ⟨_, rfl⟩
    have hat : ((0 : Nat) : Int) = (bs.length : Int) := by rw [hbs]; rfl
    rw [hX, hb, ← hbs]
    rw [← hbs] at hwr h3
    have HW := Lib.hid hwr
    have HX := Lib.hid hbX
    have HAT := Lib.hid hat
    clear hconv hX hb hown hbs hwr hbX hat
  case' inr =>
    have hlen := bcells_length bs
    go_wp2_with (at_builtin; refine wpList_append_own _ rfl (.tmp 14) (.tmp 15) 26 rfl w1.heap.size 5 i0 (.int .u8 0) 1 1 Try.underlying26 hi hz0 hz1 hz2 rfl (by decide) _ 0 [] rfl hown x bs.length capB (bcells bs) rfl ?c0 ?c1 ?c2 ?c3 ?c4 ?c5 ?_)
    case c0 => rw [hlen, Nat.mul_one]
    case c1 =>
      intro j u hu
      have := hx j u hu
      exact ((Below.refl _ _).alloc (Nat.le_refl _) _ : Below w1.heap.size w1 _).cell (World.block_lt_of_cell? w1 _ this) |>.trans this
    case c2 =>
      intro u hu
      simp only [bcells, List.mem_map] at hu
      obtain ⟨y, _, rfl⟩ := hu
      rfl
    case c3 => unfold maxLen; omega
    case c4 => omega
    case c5 => simp
    intro v2 w2 ho2 hg2 _
    obtain ⟨A2, c2, rfl⟩ := own_form ho2
    have hb2 : Below w1.heap.size w1 w2 := ((Below.refl _ _).alloc (Nat.le_refl _) _).grown hg2 (by simp) (fun k hk => by simp [Value.ownBlock] at hk; omega)
    have hconv := conv_bytes (w := w2.alloc (.cells #[.slice A2 bs.length c2] 28)) (B := some x) (cap := capB) (bs := bs) (.inr ⟨x, rfl, fun j u hu => by
      have := hx j u hu
      have h3 := (hb2.cell (World.block_lt_of_cell? w1 _ this)).trans this
      exact (((Below.refl _ _).alloc (Nat.le_refl _) _ : Below w2.heap.size w2 _).cell (World.block_lt_of_cell? w2 _ h3)).trans h3⟩)
    go_wp2_with fail
    obtain ⟨X, hX⟩ : ∃ X, w2.alloc (.cells #[.slice A2 bs.length c2] 28) = X := ⟨_, rfl⟩
    obtain ⟨b, hb⟩ : ∃ b, w2.heap.size = b := ⟨_, rfl⟩
    have hwr : Wr 28 5 X w1.heap.size b bs := by
      refine ⟨A2, c2, ?_, by rw [← hb]; exact hb2.size, ?_⟩
      · rw [← hX, ← hb]; exact Whole.new _ _ _
      · rw [← hX]; exact ho2.alloc _
    have hbX : Below w1.heap.size w1 X := by rw [← hX]; exact hb2.alloc hb2.size _
    have hat : (bs.length : Int) = (bs.length : Int) := rfl
    rw [hX, hb]
    have HW := Lib.hid hwr
    have HX := Lib.hid hbX
    have HAT := Lib.hid hat
    clear hconv hX hb hown hwr hbX hat hx ho2 hg2 hb2 hlen
  all_goals
    go_loopw [6, 22] (fun v6 v22 wr => ∃ k : Nat, k ≤ ss.length ∧ v22 = .int .i64 k ∧ v6 = .string (str (bs ++ encS (ss.take k))) ∧ Wr 28 5 wr w1.heap.size b (bs ++ encS (ss.take k)) ∧ Below w1.heap.size w1 wr) (fun _ v22 _ => ss.length - (intOf v22).toNat)
    case atStart => exact ⟨0, Nat.zero_le _, rfl, by simp [encS], by simpa [encS] using HW.out, HX.out⟩
    case round =>
      obtain ⟨X2, rfl⟩ : ∃ wo : World, wo = wr := ⟨_, rfl⟩
      obtain ⟨k, hk, rfl, rfl, hwr, hbel⟩ := hrel
      by_cases hlt : k < ss.length
      · obtain ⟨xb, xo, rfl, hxb, hxc⟩ := hA1.below hbel k hlt
        have hp0 : (k : Int) < (ss.length : Int) := by omega
        obtain ⟨s, hs⟩ : ∃ s, ss.getD k ByteArray.empty = s := ⟨_, rfl⟩
        have htk := take_getD' ss k hlt
        have hsz := sizes_mem (s := s) (l := ss) (by rw [← hs]; simp [List.getD, hlt])
        rw [hs] at hxc htk
        have hel := encS_len (l := ss.take k) (by have := sizes_take ss k; omega)
        have hst := sizes_take ss k
        have htl : (ss.take k).length = k := by rw [List.length_take]; omega
        have hen := Num.enc_len10 (n := s.size) (by unfold Num.top; omega)
        obtain ⟨L, hL⟩ : ∃ L, bs ++ encS (ss.take k) = L := ⟨_, rfl⟩
        have hLl : L.length ≤ 15000000 := by rw [← hL, List.length_append]; omega
        have hss : s.size ≤ 1048576 := by omega
        have hLn : bs ++ encS (ss.take (k + 1)) = L ++ (Num.enc s.size ++ s.data.toList) := by rw [htk, encS_snoc, ← List.append_assoc, hL]
        have HL := Lib.hid hLn
        rw [hL] at hwr ⊢
        clear hLn hL htk hel hst htl hs hsz
        go_wp2_with fail
        refine (wstring_any _ (by decide) s w1.heap.size b L _ (by omega) hwr).mono ?_
        rintro e w3 ⟨rfl, hwr3, hb3⟩
        have hes : (str (Num.enc s.size)).size ≤ 10 := by rw [str_size]; exact hen
        have hLs : (str L).size ≤ 15000000 := by rw [str_size]; exact hLl
        have hsum : (str (Num.enc s.size) ++ s).size ≤ 1048600 := by rw [ByteArray.size_append]; omega
        have had1 : ∀ W : World, (Op.stringOp .add (str (Num.enc s.size)) s).run Try.prog W = .ok (.string (str (Num.enc s.size) ++ s)) W := fun W => run_string_add_sum W _ _ (by omega)
        have had2 : ∀ W : World, (Op.stringOp .add (str L) (str (Num.enc s.size) ++ s)).run Try.prog W = .ok (.string (str L ++ (str (Num.enc s.size) ++ s))) W := fun W => run_string_add_sum W _ _ (by omega)
        go_wp2_with fail
        refine (ruint_any s.size _ (by unfold Num.top; omega)).mono ?_
        rintro e w4 ⟨rfl, hb4⟩
        go_wp2_with fail
        go_roundw
        case rel =>
          refine ⟨k + 1, by omega, by go_num, ?_, ?_, (hbel.trans hb3).trans (hb4.mono (hbel.trans hb3).size)⟩
          · rw [HL.out, ← str_append, ← str_append, str_of]
          · rw [HL.out]; exact hwr3.keep hb4
        case measure => simp [intOf]; omega
      · have ek : k = ss.length := by omega
        subst ek
        rw [List.take_length] at hwr ⊢
        have hle : (encS ss).length ≤ 14000000 := by have := encS_len (l := ss) h1; omega
        have hD0 : (str (bs ++ encS ss)).size ≤ 281474976710656 := by rw [str_size, List.length_append]; omega
        have hseq := fun k hk => seq_at bs ss k hk (by have := sizes_mem (s := ss.getD k ByteArray.empty) (l := ss) (by simp [List.getD, hk]); unfold Num.top; omega)
        have hdone := seq_done (bs ++ encS ss)
        obtain ⟨A3, c3, hw3, _, ho3⟩ := id hwr
        have hbb := hw3.lt
        obtain ⟨L, hL⟩ : ∃ L, bs ++ encS ss = L := ⟨_, rfl⟩
        rw [hL] at hD0 hdone hwr
        rw [hL]
        have hLk : (bs ++ encS (ss.take ss.length)).length = L.length := by rw [List.take_length, hL]
        have hL0 : (bs ++ encS (ss.take 0)).length = bs.length := by simp [encS]
        obtain ⟨D, hD⟩ : ∃ D, str L = D := ⟨_, rfl⟩
        rw [hD] at hD0 hdone
        rw [hD]
        simp only [hL, hD] at hseq
        have HS := Lib.hid hseq
        have HD := Lib.hid hdone
        have HLD := Lib.hid hD
        have HLK := Lib.hid hLk
        have HL0 := Lib.hid hL0
        have HWR := Lib.hid hwr
        have HBX := Lib.hid hbel
        clear hseq hdone hw3 ho3 hD hL hLk hL0 hwr hle hbel
        go_wp2_with fail
        have hA2 := hA1.below HBX.out
        go_loopw [43] (fun v43 wr' => ∃ k : Nat, k ≤ ss.length ∧ v43 = .int .i64 k ∧ Rd 37 wr' X2.heap.size D (((bs ++ encS (ss.take k)).length : Nat) : Int) 0 ∧ Below X2.heap.size X2 wr') (fun v43 _ => ss.length - (intOf v43).toNat)
        case atStart => exact ⟨0, Nat.zero_le _, rfl, by first | (rw [HL0.out]; exact Whole.new _ _ _) | (rw [HL0.out, ← HAT.out]; exact Whole.new _ _ _), (Below.refl _ _).alloc (Nat.le_refl _) _⟩
        case round =>
          obtain ⟨X3, rfl⟩ : ∃ wo : World, wo = wr := ⟨_, rfl⟩
          obtain ⟨k, hk, rfl, hrd, hbel2⟩ := hrel
          by_cases hlt : k < ss.length
          · obtain ⟨xb, xo, rfl, hxb, hxc⟩ := hA2.below hbel2 k hlt
            have hp0 : (k : Int) < (ss.length : Int) := by omega
            have hsk := HS.out k hlt
            obtain ⟨s, hs⟩ : ∃ s, ss.getD k ByteArray.empty = s := ⟨_, rfl⟩
            rw [hs] at hxc hsk
            clear hs
            go_wp2_with fail
            refine (str_seq (T := 37) hsk hD0 hrd).mono ?_
            rintro e w5 ⟨rfl, hrd5, hg5⟩
            have hb5 : Below X2.heap.size X2 w5 := hbel2.grown hg5 hbel2.size (fun k hk => by injection hk; omega)
            rw [str_of]
            have HRD := Lib.hid hrd5
            clear hrd5 hg5 hsk
            have hteq : (s.toList == s.toList) = true := by simp
            go_wp2_with fail
            go_roundw
            case rel => exact ⟨k + 1, by omega, by go_num, HRD.out, hb5⟩
            case measure => simp [intOf]; omega
          · have ek : k = ss.length := by omega
            subst ek
            rw [HLK.out] at hrd
            have hwr3 := HWR.out.keep hbel2
            obtain ⟨A3, c3, hw3, _, ho3⟩ := hwr3
            have hcell : X3.cell? ⟨b, 0, none⟩ = some (.slice A3 L.length c3) := hw3.cell 0
            have hconv := conv_own ho3
            rw [HLD.out] at hconv
            have hteq : (D.toList == D.toList) = true := by simp
            go_wp2_with fail
            refine (done_seq (T := 37) HD.out hD0 hrd).mono ?_
            rintro e w5 ⟨rfl, hrd5, hg5⟩
            have hb5 : Below X2.heap.size X2 w5 := hbel2.grown hg5 hbel2.size (fun k hk => by injection hk; omega)
            go_wp2_with fail
            go_ret
            have z1 := HB1.out.size
            have z2 := HBX.out.size
            exact ⟨rfl, (HB1.out.trans (HBX.out.mono z1)).trans (hb5.mono (by omega))⟩

end Go.Proofs.Ytjpcnnofjfmkeaa
