/- Each method of a Writer appends the encoding of the plain text Num to the bytes that are there, and turns nothing below its base. -/
import Derived.Test.YtjpcnnofjfmkeaaProg
import Derived.Test.YtjpcnnofjfmkeaaNum
import Derived.Test.YtjpcnnofjfmkeaaMem
import Derived.WalkKit
import Derived.Lib.Hide
import Derived.OwnWalk
namespace Go.Proofs.Ytjpcnnofjfmkeaa
open Go.RowKit

theorem byteInfo : (Try.prog.info? 5).map (fun i => (i.zero, i.size, i.bytes)) = some (some (.int .u8 0), 1, 1) := by kernel_rfl

/-- What a method of a Writer leaves. -/
def Wrote (T : TypeId) (w : World) (base b : Nat) (l : List UInt8) (e : Ending) (w' : World) : Prop :=
  e = .returned (.tuple #[]) ∧ Wr T 5 w' base b l ∧ Below base w w'

/-- A byte appended: the steps of memory in one. -/
theorem wr_push {T : TypeId} {w w1 : World} {base b : Nat} {l : List UInt8} {A : Option Addr} {c : Nat} {x : UInt8} {o : Obj} {v : Value} (hT : 5 ≠ T)
    (hw : Whole w b #[.slice A l.length c] T) (hb : base ≤ b) (ho : w.ownsRow base 5 1 (.slice A l.length c) l.length (bcells l))
    (hg : (w.alloc o).grownBy w1 (Value.slice A l.length c).ownBlock) (ho1 : w1.ownsRow base 5 1 v (l.length + 1) (bcells l ++ [.int .u8 x.toNat])) :
    Wr T 5 (w1.setCell ⟨b, 0, none⟩ v) base b (l ++ [x]) ∧ Below base w (w1.setCell ⟨b, 0, none⟩ v) := by
  have hne := own_apart ho hw hT
  have hw1 := (hw.alloc o).grown hg (fun e => hne e.symm)
  obtain ⟨A', c', rfl⟩ := own_form ho1
  have hlt := hw.lt
  constructor
  · refine ⟨A', c', ?_, hb, ?_⟩
    · have := hw1.put 0 (.slice A' (l.length + 1) c')
      simpa using this
    · have := ownsRow_setCell_other ho1 (a := ⟨b, 0, none⟩) (own_apart ho1 hw1 hT) (.slice A' (l.length + 1) c')
      simpa [bcells] using this
  · have h1 : Below base w (w.alloc o) := (Below.refl base w).alloc (by omega) o
    refine (h1.grown hg (by simp; omega) (fun k hk => ?_)).setCell (p := ⟨b, 0, none⟩) hb _
    exact (ho.lt k hk).1

theorem or128 (k : Nat) : bits .or .u8 ((k : Int) % 256) 128 = ((UInt8.ofNat (128 + k % 128)).toNat : Int) := by
  have h : ∀ a : Fin 256, a.val ||| 128 = 128 + a.val % 128 := by decide +kernel
  have h1 := h ⟨k % 256, by omega⟩
  simp only at h1
  rw [show (k : Int) % 256 = ((k % 256 : Nat) : Int) from by omega, show (128 : Int) = ((128 : Nat) : Int) from rfl, u8_or_nat _ _ (by omega) (by decide), h1]
  simp; omega
theorem low256 (k : Nat) (h : k < 128) : (k : Int) = ((UInt8.ofNat k).toNat : Int) := by
  simp; omega

set_option maxRecDepth 100000 in
set_option maxHeartbeats 400000 in
theorem wuint_any (T : TypeId) (hT : 5 ≠ T) (n base b : Nat) (l : List UInt8) (w : World) (hn : n < Num.top) (hl : l.length ≤ 140737488355300) (h : Wr T 5 w base b l) :
    Calls Try.prog 12 #[.pointer (some ⟨b, 0, none⟩), .int .u64 n] w (Wrote T w base b (l ++ Num.enc n)) := by
  obtain ⟨i0, hi, hz0, hz1, hz2⟩ := info_parts byteInfo
  have hlen := Num.enc_len10 hn
  go_enter Try.func12, Try.ntmps12
  go_wp2
  go_loopw [1] (fun m wr => ∃ (k : Nat) (pre : List UInt8), m = .int .u64 k ∧ k < Num.top ∧ pre ++ Num.enc k = Num.enc n ∧ Wr T 5 wr base b (l ++ pre) ∧ Below base w wr) (fun m _ => (intOf m).toNat)
  case atStart => exact ⟨n, [], rfl, hn, rfl, by simpa using h, Below.refl _ _⟩
  case round =>
    rename_i wr _
    obtain ⟨k, pre, rfl, hk, hpre, hwr, hbel⟩ := hrel
    have HP := Lib.hid hpre
    clear hpre
    have hpl : pre.length ≤ 10 := by have := congrArg List.length HP.out; simp at this; omega
    have HB := Lib.hid hbel
    clear hbel
    obtain ⟨L, hL⟩ : ∃ L, L = l ++ pre := ⟨_, rfl⟩
    rw [← hL] at hwr
    have hLl : L.length ≤ 140737488355310 := by rw [hL, List.length_append]; omega
    have HL := Lib.hid hL
    clear hL
    have hwr0 := hwr
    obtain ⟨A, c, hw, hb, ho⟩ := hwr
    have hc : wr.cell? ⟨b, 0, none⟩ = some (.slice A L.length c) := hw.cell 0
    have hf := hw.free 0
    have hlt := hw.lt
    by_cases h128 : k < 128
    · go_wp2_with (at_builtin; refine wpList_append_own _ rfl (.tmp 24) (.tmp 27) 26 rfl base 5 i0 (.int .u8 0) 1 1 Try.underlying26 hi hz0 hz1 hz2 rfl (by decide) _ L.length (bcells L) rfl (ho.alloc _) ⟨wr.heap.size, 0, none⟩ 1 1 [.int .u8 (k : Int)] rfl rfl ?c1 ?c2 ?c3 ?c4 ?c5 ?_)
      case c1 => intro j u hj; match j, hj with | 0, hj => simp at hj; subst hj; simp [Addr.add]
      case c2 => intro u hu; simp at hu; subst hu; rfl
      case c3 => unfold maxLen; omega
      case c4 => omega
      case c5 => simp; omega
      intro v' w1 ho1 hg1 _
      have hw1 := (hw.alloc (.cells #[.int .u8 (k : Int)] 5)).grown hg1 (fun e => own_apart ho hw hT e.symm)
      have hc1 : w1.cell? ⟨b, 0, none⟩ = some (.slice A L.length c) := hw1.cell 0
      have hf1 := hw1.free 0
      obtain ⟨A', c', rfl⟩ := own_form ho1
      have hfin := wr_push (x := UInt8.ofNat k) hT hw hb ho hg1 (by rw [← low256 k h128]; exact ho1)
      have HF := Lib.hid hfin
      clear hfin hc hf
      go_wp2
      go_end0
      refine ⟨rfl, ?_, HB.out.trans HF.out.2⟩
      have e : l ++ Num.enc n = L ++ [UInt8.ofNat k] := by rw [← HP.out, HL.out, Num.enc_small h128, List.append_assoc]
      rw [e]
      exact HF.out.1
    · have hor := or128 k
      have hor' := hor
      have hk' : (k : Int) / 128 = ((k / 128 : Nat) : Int) := by omega
      have HO := Lib.hid hor
      have HK := Lib.hid hk'
      clear hor hor' hk'
      have h0 : (0 : Int) ≤ k := by omega
      go_wp2_with (at_builtin; refine wpList_append_own _ rfl (.tmp 10) (.tmp 14) 26 rfl base 5 i0 (.int .u8 0) 1 1 Try.underlying26 hi hz0 hz1 hz2 rfl (by decide) _ L.length (bcells L) rfl (ho.alloc _) ⟨wr.heap.size, 0, none⟩ 1 1 [.int .u8 (bits .or .u8 ((k : Int) % 256) 128)] rfl rfl ?c1 ?c2 ?c3 ?c4 ?c5 ?_)
      case c1 => intro j u hj; match j, hj with | 0, hj => simp at hj; subst hj; simp [Addr.add]
      case c2 => intro u hu; simp at hu; subst hu; rfl
      case c3 => unfold maxLen; omega
      case c4 => omega
      case c5 => simp; omega
      intro v' w1 ho1 hg1 _
      have hw1 := (hw.alloc (.cells #[.int .u8 (bits .or .u8 ((k : Int) % 256) 128)] 5)).grown hg1 (fun e => own_apart ho hw hT e.symm)
      have hc1 : w1.cell? ⟨b, 0, none⟩ = some (.slice A L.length c) := hw1.cell 0
      have hf1 := hw1.free 0
      obtain ⟨A', c', rfl⟩ := own_form ho1
      have hfin := wr_push (x := UInt8.ofNat (128 + k % 128)) hT hw hb ho hg1 (by rw [← HO.out]; exact ho1)
      have HF := Lib.hid hfin
      clear hfin hc hf
      go_wp2
      go_roundw
      case rel =>
        refine ⟨k / 128, pre ++ [UInt8.ofNat (128 + k % 128)], by rw [HK.out], by omega, ?_, ?_, HB.out.trans HF.out.2⟩
        · rw [← HP.out, Num.enc_large h128, List.append_assoc]; rfl
        · rw [← List.append_assoc, ← HL.out]; exact HF.out.1
      case measure => simp [intOf]; omega

/-- The same, the number spelled as the caller has it. -/
theorem wuint_int (T : TypeId) (hT : 5 ≠ T) (m : Int) (n base b : Nat) (l : List UInt8) (w : World) (hm : m = n) (hn : n < Num.top) (hl : l.length ≤ 140737488355300) (h : Wr T 5 w base b l) :
    Calls Try.prog 12 #[.pointer (some ⟨b, 0, none⟩), .int .u64 m] w (Wrote T w base b (l ++ Num.enc n)) := by
  subst hm
  exact wuint_any T hT n base b l w hn hl h

set_option maxHeartbeats 400000 in
theorem wint_any (T : TypeId) (hT : 5 ≠ T) (n : Int) (base b : Nat) (l : List UInt8) (w : World) (h1 : -9223372036854775808 ≤ n) (h2 : n ≤ 9223372036854775807) (hl : l.length ≤ 140737488355300) (h : Wr T 5 w base b l) :
    Calls Try.prog 13 #[.pointer (some ⟨b, 0, none⟩), .int .i64 n] w (Wrote T w base b (l ++ Num.enc (Num.zig n))) := by
  have hz := Num.zig_lt h1 h2
  by_cases h0 : 0 ≤ n
  · go_enter Try.func13, Try.ntmps13
    go_wp2_with fail
    refine (wuint_int T hT _ (Num.zig n) base b l w (by unfold Num.zig; rw [if_pos (by omega)]; omega) hz hl h).mono ?_
    rintro e w1 ⟨rfl, hw1, hb1⟩
    go_wp2_with fail
    refine bodyPost_ret (results_none rfl _ _ _) rfl ⟨rfl, hw1, hb1⟩
  · go_enter Try.func13, Try.ntmps13
    go_wp2_with fail
    refine (wuint_int T hT _ (Num.zig n) base b l w (by unfold Num.zig; rw [if_neg (by omega)]; omega) hz hl h).mono ?_
    rintro e w1 ⟨rfl, hw1, hb1⟩
    go_wp2_with fail
    go_end0
    exact ⟨rfl, hw1, hb1⟩

/-- The bytes of a truth value. -/
def tb (t : Bool) : List UInt8 := [if t then 1 else 0]

set_option maxHeartbeats 400000 in
theorem wbool_any (T : TypeId) (hT : 5 ≠ T) (t : Bool) (base b : Nat) (l : List UInt8) (w : World) (hl : l.length ≤ 140737488355300) (h : Wr T 5 w base b l) :
    Calls Try.prog 14 #[.pointer (some ⟨b, 0, none⟩), .bool t] w (Wrote T w base b (l ++ tb t)) := by
  obtain ⟨i0, hi, hz0, hz1, hz2⟩ := info_parts byteInfo
  obtain ⟨A, c, hw, hb, ho⟩ := h
  have hc : w.cell? ⟨b, 0, none⟩ = some (.slice A l.length c) := hw.cell 0
  have hf := hw.free 0
  have hlt := hw.lt
  cases t
  · go_enter Try.func14, Try.ntmps14
    go_wp2_with (at_builtin; refine wpList_append_own _ rfl (.tmp 18) (.tmp 19) 26 rfl base 5 i0 (.int .u8 0) 1 1 Try.underlying26 hi hz0 hz1 hz2 rfl (by decide) _ l.length (bcells l) rfl (ho.alloc _) ⟨w.heap.size, 0, none⟩ 1 1 [.int .u8 0] rfl rfl ?c1 ?c2 ?c3 ?c4 ?c5 ?_)
    case c1 => intro j u hj; match j, hj with | 0, hj => simp at hj; subst hj; simp [Addr.add]
    case c2 => intro u hu; simp at hu; subst hu; rfl
    case c3 => unfold maxLen; omega
    case c4 => omega
    case c5 => simp; omega
    intro v' w1 ho1 hg1 _
    have hw1 := (hw.alloc (.cells #[.int .u8 0] 5)).grown hg1 (fun e => own_apart ho hw hT e.symm)
    have hc1 : w1.cell? ⟨b, 0, none⟩ = some (.slice A l.length c) := hw1.cell 0
    have hf1 := hw1.free 0
    obtain ⟨A', c', rfl⟩ := own_form ho1
    have HF := Lib.hid (wr_push (x := 0) hT hw hb ho hg1 ho1)
    clear hc hf
    go_wp2
    go_end0
    exact ⟨rfl, HF.out.1, HF.out.2⟩
  · go_enter Try.func14, Try.ntmps14
    go_wp2_with (at_builtin; refine wpList_append_own _ rfl (.tmp 9) (.tmp 10) 26 rfl base 5 i0 (.int .u8 0) 1 1 Try.underlying26 hi hz0 hz1 hz2 rfl (by decide) _ l.length (bcells l) rfl (ho.alloc _) ⟨w.heap.size, 0, none⟩ 1 1 [.int .u8 1] rfl rfl ?c1 ?c2 ?c3 ?c4 ?c5 ?_)
    case c1 => intro j u hj; match j, hj with | 0, hj => simp at hj; subst hj; simp [Addr.add]
    case c2 => intro u hu; simp at hu; subst hu; rfl
    case c3 => unfold maxLen; omega
    case c4 => omega
    case c5 => simp; omega
    intro v' w1 ho1 hg1 _
    have hw1 := (hw.alloc (.cells #[.int .u8 1] 5)).grown hg1 (fun e => own_apart ho hw hT e.symm)
    have hc1 : w1.cell? ⟨b, 0, none⟩ = some (.slice A l.length c) := hw1.cell 0
    have hf1 := hw1.free 0
    obtain ⟨A', c', rfl⟩ := own_form ho1
    have HF := Lib.hid (wr_push (x := 1) hT hw hb ho hg1 ho1)
    clear hc hf
    go_wp2
    refine bodyPost_ret (results_none rfl _ _ _) rfl ⟨rfl, HF.out.1, HF.out.2⟩

set_option maxHeartbeats 400000 in
theorem wcount_any (T : TypeId) (hT : 5 ≠ T) (n : Int) (base b : Nat) (l : List UInt8) (w : World) (h2 : n ≤ 9223372036854775807) (hl : l.length ≤ 140737488355300) (h : Wr T 5 w base b l) :
    Calls Try.prog 15 #[.pointer (some ⟨b, 0, none⟩), .int .i64 n] w (Wrote T w base b (l ++ Num.enc n.toNat)) := by
  have hz : n.toNat < Num.top := by unfold Num.top; omega
  by_cases h0 : 0 ≤ n
  all_goals
    go_enter Try.func15, Try.ntmps15
    go_wp2_with fail
    refine (wuint_int T hT _ n.toNat base b l w (by omega) hz hl h).mono ?_
    rintro e w1 ⟨rfl, hw1, hb1⟩
    go_wp2_with fail
    go_end0
    exact ⟨rfl, hw1, hb1⟩

set_option maxHeartbeats 400000 in
theorem wstring_any (T : TypeId) (hT : 5 ≠ T) (s : ByteArray) (base b : Nat) (l : List UInt8) (w : World) (hl : l.length + s.size ≤ 140737488355300) (h : Wr T 5 w base b l) :
    Calls Try.prog 23 #[.pointer (some ⟨b, 0, none⟩), .string s] w (Wrote T w base b (l ++ (Num.enc s.size ++ s.data.toList))) := by
  obtain ⟨i0, hi, hz0, hz1, hz2⟩ := info_parts byteInfo
  have hel := Num.enc_len10 (n := s.size) (by unfold Num.top; omega)
  have hbase : base ≤ w.heap.size := by have := h.lt; omega
  go_enter Try.func23, Try.ntmps23
  go_wp2_with fail
  refine (wcount_any T hT _ base b l w (by omega) (by omega) h).mono ?_
  rintro e w1 ⟨rfl, hw1, hb1⟩
  rw [Int.toNat_natCast] at hw1
  obtain ⟨L, hL⟩ : ∃ L, L = l ++ Num.enc s.size := ⟨_, rfl⟩
  rw [← hL] at hw1
  have hLl : L.length + s.size ≤ 140737488355320 := by rw [hL, List.length_append]; omega
  have HL := Lib.hid hL
  have HB := Lib.hid hb1
  have hs1 := hb1.size
  clear hL hb1 h
  obtain ⟨A, c, hw, hb, ho⟩ := hw1
  have hc : w1.cell? ⟨b, 0, none⟩ = some (.slice A L.length c) := hw.cell 0
  have hf := hw.free 0
  have hlt := hw.lt
  go_wp2_with (at_builtin; refine Lib.wpList_append_own_string _ rfl (.tmp 12) (.tmp 13) 26 9 rfl base 5 i0 Try.underlying26 Try.underlying9 hi hz0 hz1 hz2 _ L.length (bcells L) rfl ho s rfl ?c3 ?c4 ?c5 ?_)
  case c3 => unfold maxLen; omega
  case c4 => omega
  case c5 => omega
  intro v' w2 ho2 hg2 _
  have hne := own_apart ho hw hT
  have hw2 := hw.grown hg2 (fun e => hne e.symm)
  have hc1 : w2.cell? ⟨b, 0, none⟩ = some (.slice A L.length c) := hw2.cell 0
  have hf1 := hw2.free 0
  obtain ⟨A', c', rfl⟩ := own_form ho2
  have hfin : Wr T 5 (w2.setCell ⟨b, 0, none⟩ (.slice A' (L.length + s.size) c')) base b (L ++ s.data.toList) := by
    have el : (L ++ s.data.toList).length = L.length + s.size := by rw [List.length_append]; rfl
    refine ⟨A', c', ?_, hb, ?_⟩
    · rw [el]
      have := hw2.put 0 (.slice A' (L.length + s.size) c')
      simpa using this
    · have := ownsRow_setCell_other ho2 (a := ⟨b, 0, none⟩) (own_apart ho2 hw2 hT) (.slice A' (L.length + s.size) c')
      rw [bcells_append, el, ← bcells_str]
      exact this
  have hbel : Below base w1 (w2.setCell ⟨b, 0, none⟩ (.slice A' (L.length + s.size) c')) :=
    ((Below.refl base w1).grown hg2 (by omega) (fun k hk => (ho.lt k hk).1)).setCell (p := ⟨b, 0, none⟩) hb _
  have HF := Lib.hid hfin
  clear hfin hc hf
  go_wp2
  go_end0
  refine ⟨rfl, ?_, HB.out.trans hbel⟩
  rw [← List.append_assoc, ← HL.out]
  exact HF.out

end Go.Proofs.Ytjpcnnofjfmkeaa
