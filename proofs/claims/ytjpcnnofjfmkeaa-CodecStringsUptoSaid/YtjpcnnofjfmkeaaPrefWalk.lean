/- The statement CodecPrefix returns true: its walk. -/
import Derived.Test.YtjpcnnofjfmkeaaPrefRead
import Derived.Test.YtjpcnnofjfmkeaaFit
import Derived.Lib.MinMax
namespace Go.Proofs.Ytjpcnnofjfmkeaa
open Go.RowKit

/-- What the walk is told of a slice of integers that came in. -/
def Ints (k : IntKind) (w : World) (A : Option Addr) (zs : List Int) : Prop :=
  ∀ i, i < zs.length → ∃ b o, A = some ⟨b, o, none⟩ ∧ b < w.heap.size ∧ w.cell? ⟨b, o + i, none⟩ = some (.int k (zs.getD i 0))
theorem Ints.below {k : IntKind} {w w' : World} {A : Option Addr} {zs : List Int} (h : Ints k w A zs) (hb : Below w.heap.size w w') : Ints k w' A zs := by
  intro i hi
  obtain ⟨b, o, h1, h2, h3⟩ := h i hi
  exact ⟨b, o, h1, by have := hb.size; omega, (hb.cell (p := ⟨b, o + i, none⟩) h2).trans h3⟩

/-- What the walk is told of a slice of integers: nil, or a row of cells with its numbers. -/
def IsRow (k : IntKind) (w : World) (a : Option Addr) (len cap : Nat) (zs : List Int) : Prop :=
  (a = none ∧ len = 0 ∧ cap = 0 ∧ zs = []) ∨
  ∃ x, a = some x ∧ len ≤ cap ∧ cap ≤ maxLen ∧ zs.length = cap ∧ (∀ i, i < zs.length → w.cell? (x.add i) = some (.int k (zs.getD i 0))) ∧ ∀ n ∈ zs, (Lit.int k n).wf = true
section
variable {k : IntKind} {w : World} {a : Option Addr} {len cap : Nat} {zs : List Int}
theorem IsRow.length (h : IsRow k w a len cap zs) : (zs.take len).length = len := by
  rcases h with ⟨_, rfl, _, rfl⟩ | ⟨x, _, hl, _, hz, _⟩
  · rfl
  · rw [List.length_take]; omega
theorem IsRow.max (h : IsRow k w a len cap zs) : len ≤ maxLen := by
  rcases h with ⟨_, rfl, _, rfl⟩ | ⟨x, _, hl, hm, _⟩
  · exact Nat.zero_le _
  · omega
theorem IsRow.wf (h : IsRow k w a len cap zs) : ∀ n ∈ zs.take len, (Lit.int k n).wf = true := by
  intro n hn
  rcases h with ⟨_, rfl, _, rfl⟩ | ⟨x, _, _, _, _, _, hw⟩
  · simp at hn
  · exact hw n (List.mem_of_mem_take hn)
theorem IsRow.ints (h : IsRow k w a len cap zs) : Ints k w a (zs.take len) := by
  intro i hi
  have hil : i < len := by rw [h.length] at hi; exact hi
  rcases h with ⟨_, rfl, _, rfl⟩ | ⟨x, rfl, hl, _, hz, hc, _⟩
  · omega
  · obtain ⟨b, o, sp⟩ := x
    have hci := hc i (by omega)
    have hsp : sp = none := by simpa [Addr.add] using World.cell?_spot (hc 0 (by omega))
    subst hsp
    have hadd : (⟨b, o, none⟩ : Addr).add i = ⟨b, o + i, none⟩ := by unfold Addr.add; split <;> simp_all
    rw [hadd] at hci
    refine ⟨b, o, rfl, World.block_lt_of_cell? w _ hci, ?_⟩
    rw [hci]
    simp [List.getD, hil]
end

theorem i64_of' (n : Int) (h : (Lit.int .i64 n).wf = true) : -9223372036854775808 ≤ n ∧ n ≤ 9223372036854775807 := by
  simpa [Lit.wf, IntKind.min, IntKind.max, IntKind.bits, IntKind.signed] using h

theorem take_getD (zs : List Int) (k : Nat) (h : k < zs.length) : zs.take (k + 1) = zs.take k ++ [zs.getD k 0] := by
  rw [List.take_succ_eq_append_getElem h]
  simp [List.getD, h]

theorem below_drewN' {B : Nat} {a w : World} (h : Below B a w) (n : Nat) : Below B a (w.drewN n) := h.trans ⟨rfl, rfl, rfl, Nat.le_refl _, fun _ _ => rfl⟩

/-- A text out of which not all can be read, or more than all. -/
def Good (D : ByteArray) (m : Nat) (s T : ByteArray) : Prop :=
  D.size ≤ 1000 ∧ rdDone D (fin D m).2.1 (fin D m).2.2 = 3 ∧ (str (fin D m).1 = s ∨ D.size ≤ T.size)

set_option maxRecDepth 100000 in
set_option maxHeartbeats 1000000 in
theorem prefix_walk (A : Option Addr) (cap : Nat) (zs : List Int) (s : ByteArray) (cut : Int) (w : World) (hA : Ints .i64 w A zs) (hz : ∀ z ∈ zs, -9223372036854775808 ≤ z ∧ z ≤ 9223372036854775807)
    (hl : zs.length ≤ 9223372036854775807) (hs : s.size ≤ 140737488351232) (h2 : cut ≤ 9223372036854775807) :
    Calls Try.prog 7 #[.slice A zs.length cap, .string s, .int .i64 cut] w fun e w' => e = .returned (.bool true) ∧ Below w.heap.size w w' := by
  by_cases hbig : 20 < zs.length ∨ 200 < s.size
  · rcases hbig with h | h
    · go_enter Try.func7, Try.ntmps7
      go_wp2_with fail
      refine (fit_any w).mono ?_
      rintro e w1 ⟨rfl, hb1⟩
      go_wp2_with fail
      go_ret
      exact ⟨rfl, hb1⟩
    · go_enter Try.func7, Try.ntmps7
      go_wp2_with fail
      refine (fit_any w).mono ?_
      rintro e w1 ⟨rfl, hb1⟩
      go_wp2_with fail
      all_goals
        go_ret
        exact ⟨rfl, hb1⟩
  · have hl20 : zs.length ≤ 20 := by omega
    have hs200 : s.size ≤ 200 := by omega
    clear hbig hl hs
    go_enter Try.func7, Try.ntmps7
    go_wp2_with fail
    refine (fit_any w).mono ?_
    rintro e w1 ⟨rfl, hb1⟩
    have hA1 := hA.below hb1
    have HB1 := Lib.hid hb1
    clear hA hb1
    go_wp2_with fail
    have hzig : ∀ z ∈ zs, Num.zig z < Num.top := fun z hz' => Num.zig_lt (hz z hz').1 (hz z hz').2
    have HZ := Lib.hid hzig
    have HZ2 := Lib.hid hz
    clear hzig hz
    go_loopw [9, 27] (fun _ i wr => ∃ k : Nat, k ≤ zs.length ∧ i = .int .i64 k ∧ Wr 28 5 wr w1.heap.size w1.heap.size (Num.encI (zs.take k)) ∧ Below w1.heap.size w1 wr) (fun _ i _ => zs.length - (intOf i).toNat)
    case atStart => exact ⟨0, Nat.zero_le _, rfl, Wr.new (Nat.le_refl _), (Below.refl _ _).alloc (Nat.le_refl _) _⟩
    case round =>
      obtain ⟨k, hk, rfl, hwr, hbel⟩ := hrel
      by_cases hlt : k < zs.length
      · obtain ⟨xb, xo, rfl, hxb, hxc⟩ := hA1.below hbel k hlt
        have hp0 : (k : Int) < (zs.length : Int) := by omega
        have hmem : zs.getD k 0 ∈ zs := by simp [List.getD, hlt]
        obtain ⟨z1, z2⟩ := HZ2.out _ hmem
        have hln : (Num.encI (zs.take k)).length ≤ 140737488355300 := by
          have := Num.encI_len (zs := zs.take k) (fun z hz => HZ.out z (List.mem_of_mem_take hz))
          rw [List.length_take] at this; omega
        obtain ⟨z, hz⟩ : ∃ z, zs.getD k 0 = z := ⟨_, rfl⟩
        have htk := take_getD zs k hlt
        rw [hz] at hxc z1 z2 htk
        have HT := Lib.hid htk
        clear htk hz hmem
        go_wp2_with fail
        refine (wint_any _ (by decide) z w1.heap.size w1.heap.size _ _ z1 z2 hln hwr).mono ?_
        rintro e w2 ⟨rfl, hwr2, hb2⟩
        go_wp2_with fail
        go_roundw
        case rel => exact ⟨k + 1, by omega, by go_num, by rw [HT.out, Num.encI_snoc]; exact hwr2, hbel.trans hb2⟩
        case measure => simp [intOf]; omega
      · have ek : k = zs.length := by omega
        subst ek
        rw [List.take_length] at hwr
        go_wp2_with fail
        have hln : (Num.encI zs).length ≤ 200 := by
          have := Num.encI_len HZ.out
          omega
        refine (wstring_any _ (by decide) s w1.heap.size w1.heap.size _ _ (by omega) hwr).mono ?_
        rintro e w2 ⟨rfl, hwr2, hb2⟩
        have hel := Num.enc_len10 (n := s.size) (by unfold Num.top; omega)
        have hll : s.data.toList.length = s.size := rfl
        obtain ⟨L, hL⟩ : ∃ L, Num.encI zs ++ (Num.enc s.size ++ s.data.toList) = L := ⟨_, rfl⟩
        have hLf : full zs s.data.toList = L ++ [0] := by rw [← hL, full, hll]; simp only [List.append_assoc]
        have hLl : L.length ≤ 410 ∧ 1 ≤ L.length := by
          have := congrArg List.length hL
          have hp := Num.enc_pos s.size
          rw [List.length_append, List.length_append, hll] at this
          omega
        obtain ⟨hLu, hLp⟩ := hLl
        rw [hL] at hwr2
        have HL := Lib.hid hLf
        have HBW := Lib.hid (hbel.trans hb2)
        clear hL hLf hll hel hln hwr hbel hb2
        obtain ⟨A2, c2, hw2, _, ho2⟩ := hwr2
        have hcell := hw2.cell 0
        have hcell' : w2.cell? ⟨w1.heap.size, 0, none⟩ = some (.slice A2 L.length c2) := hcell
        have hconv := conv_own ho2
        obtain ⟨T, hT⟩ : ∃ T, str L = T := ⟨_, rfl⟩
        have hTs : T.size = L.length := by rw [← hT, str_size]
        rw [hT] at hconv
        obtain ⟨m, hm⟩ : ∃ m : Nat, m = (max cut 0).toNat := ⟨_, rfl⟩
        obtain ⟨i, hi⟩ : ∃ i : Nat, i = min m (T.size - 1) := ⟨_, rfl⟩
        have hmax : max cut 0 = (m : Int) := by omega
        have hmin : min (m : Int) ((T.size : Int) - 1) = (i : Int) := by omega
        have hit : i < T.size := by omega
        have hiL : i < L.length := by omega
        have hup : (T.size : Int) ≤ 410 := by omega
        have HT := Lib.hid hT
        have HTS := Lib.hid hTs
        clear hm hi hcell hT hTs
        go_wp2_with fail
        have hi0 : T.extract 0 i = str ((full zs s.data.toList).take i) := by
          rw [HL.out, List.take_append_of_le_length (by omega), ← HT.out, ← Nat.zero_add i, extract_str, str_data, Nat.zero_add]; rfl
        have hi1 : T ++ ⟨#[0]⟩ = str (full zs s.data.toList) := by
          rw [HL.out, ← HT.out, ← str_append]; rfl
        have hsn : s.data.toList.length < Num.top := by
          have : s.data.toList.length = s.size := rfl
          unfold Num.top; omega
        have hfl : (full zs s.data.toList).length = L.length + 1 := by rw [HL.out]; simp
        have hD0 : Good (T.extract 0 i) zs.length s T := by
          rw [hi0]
          refine ⟨by rw [str_size, List.length_take]; omega, ?_, .inr ?_⟩
          · rw [fin_cut HZ.out hsn (by omega)]; exact done_three _ _
          · rw [str_size, List.length_take, HTS.out]; omega
        have hD1 : Good (T ++ ⟨#[0]⟩) zs.length s T := by
          rw [hi1]
          refine ⟨by rw [str_size]; omega, ?_, .inl ?_⟩
          · rw [fin_full HZ.out hsn]
            show rdDone _ (((full zs s.data.toList).length : Int) - 1) 0 = 3
            unfold rdDone
            rw [if_neg (by simp), if_pos]
            rw [str_size]; omega
          · rw [fin_full HZ.out hsn]; rfl
        have HD0 := Lib.hid hD0
        have HD1 := Lib.hid hD1
        clear hi0 hi1 hfl hD0 hD1 hsn
        generalize T.extract 0 i = D0 at *
        generalize T ++ ⟨#[0]⟩ = D1 at *
        go_loopw [52] (fun q wr => ∃ k : Nat, k ≤ 2 ∧ q = .int .i64 k ∧ Whole wr w2.heap.size #[.string D0, .string D1] 9 ∧ Below w2.heap.size w2 wr) (fun q _ => 2 - (intOf q).toNat)
        case atStart => exact ⟨0, by omega, rfl, Whole.new _ _ _, (Below.refl _ _).alloc (Nat.le_refl _) _⟩
        case round =>
          obtain ⟨wr2, rfl⟩ : ∃ wo : World, wo = wr := ⟨_, rfl⟩
          obtain ⟨q, hq, rfl, hwh, hbel2⟩ := hrel
          by_cases hq2 : q < 2
          · obtain ⟨D, hDc, HD⟩ : ∃ D, wr2.cell? ⟨w2.heap.size, q, none⟩ = some (.string D) ∧ Hid (Good D zs.length s T) := by
              match q, hq2 with
              | 0, _ => exact ⟨D0, hwh.cell 0, HD0⟩
              | 1, _ => exact ⟨D1, hwh.cell 1, HD1⟩
            have hDs : D.size ≤ 281474976710656 := by have := HD.out.1; omega
            have hq3 : (q : Int) < 2 := by omega
            go_wp2_with fail
            go_loopw [60] (fun k wr => ∃ j : Nat, j ≤ zs.length ∧ k = .int .i64 j ∧ Rd 37 wr wr2.heap.size D (st D j).1 (st D j).2 ∧ Below wr2.heap.size wr2 wr) (fun k _ => zs.length - (intOf k).toNat)
            case atStart => exact ⟨0, Nat.zero_le _, rfl, Whole.new _ _ _, (Below.refl _ _).alloc (Nat.le_refl _) _⟩
            case round =>
              obtain ⟨wr3, rfl⟩ : ∃ wo : World, wo = wr := ⟨_, rfl⟩
              obtain ⟨j, hj, rfl, hrd, hbel3⟩ := hrel
              by_cases hjl : j < zs.length
              · have hj3 : (j : Int) < (zs.length : Int) := by omega
                go_wp2_with fail
                refine (int_any _ _ D (st D j).1 (st D j).2 _ hDs hrd).mono ?_
                rintro e w4 ⟨rfl, hrd4, hg4⟩
                have hb4 : Below wr2.heap.size wr2 w4 := hbel3.grown hg4 hbel3.size (fun k hk => by injection hk; omega)
                have HR4 : Hid (Rd 37 w4 wr2.heap.size D (st D (j + 1)).1 (st D (j + 1)).2) := hrd4
                clear hrd4 hg4
                go_wp2_with fail
                go_roundw
                case rel => exact ⟨j + 1, by omega, by go_num, HR4.out, hb4⟩
                case measure => simp [intOf]; omega
              · have ej : j = zs.length := by omega
                subst ej
                go_wp2_with fail
                refine (string_any _ _ D _ _ _ hDs hrd).mono ?_
                rintro e w4 ⟨rfl, hrd4, hg4⟩
                have hb4 : Below wr2.heap.size wr2 w4 := hbel3.grown hg4 hbel3.size (fun k hk => by injection hk; omega)
                go_wp2_with fail
                refine (done_any _ _ D _ _ _ hDs hrd4).mono ?_
                rintro e w5 ⟨he, n5, rfl⟩
                rw [show rdDone D (rdStr D (st D zs.length).1 (st D zs.length).2).2.1 (rdStr D (st D zs.length).1 (st D zs.length).2).2.2 = 3 from HD.out.2.1] at he
                subst he
                have hb5 := below_drewN' hb4 n5
                have hwh5 := Whole.below hwh hb5 (Whole.lt hwh)
                have HB5 := Lib.hid (hbel2.trans (hb5.mono hbel2.size))
                have HW5 := Lib.hid hwh5
                have hsz : Hid (str (rdStr D (st D zs.length).1 (st D zs.length).2).1 = s ∨ D.size ≤ T.size) := HD.out.2.2
                clear hrd4 hg4 hb4 hb5 hwh5 hbel3 hrd
                generalize (rdStr D (st D zs.length).1 (st D zs.length).2).1 = t at *
                by_cases hgt : D.size ≤ T.size
                · go_wp2_with fail
                  go_roundw
                  case rel => exact ⟨q + 1, by omega, by go_num, HW5.out, HB5.out⟩
                  case measure => simp [intOf]; omega
                · have ht : str t = s := by
                    rcases hsz.out with h | h
                    · exact h
                    · exact absurd h hgt
                  have hteq : ((str t).toList == s.toList) = true := by rw [ht]; simp
                  clear ht
                  go_wp2_with fail
                  go_roundw
                  case rel => exact ⟨q + 1, by omega, by go_num, HW5.out, HB5.out⟩
                  case measure => simp [intOf]; omega
          · go_wp2_with fail
            go_ret
            have s1 := HB1.out.size
            have s2 := HBW.out.size
            exact ⟨rfl, (HB1.out.trans (HBW.out.mono s1)).trans (hbel2.mono (by omega))⟩

end Go.Proofs.Ytjpcnnofjfmkeaa
