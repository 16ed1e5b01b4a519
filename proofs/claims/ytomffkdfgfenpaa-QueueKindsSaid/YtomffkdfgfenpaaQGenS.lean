/- The methods of a queue of string: Push, Peek, Pop and Len. -/
import Derived.Test.YtomffkdfgfenpaaProg
import Derived.Test.YtomffkdfgfenpaaQMem
import Derived.Lib.Hide
import Derived.StillTailTactics
import Derived.Deep.DeepCutAuto
namespace Go.Proofs.Ytomffkdfgfenpaa
open Go.RowKit

theorem qInfoS : (Try.prog.info? 9).map (fun i => (i.zero, i.size, i.bytes)) = some (some (.string ⟨#[]⟩), 1, 16) := by kernel_rfl
set_option maxRecDepth 100000 in
set_option maxHeartbeats 1000000 in
theorem qpushS (base Q : Nat) (v : Value) (n : Nat) (xs : List Value) (x : ByteArray) (w : World) (h : QM 35 9 1 base w Q v n xs) (hb : base ≤ w.heap.size) (hn : n ≤ 100000) :
    Calls Try.prog 16 #[.pointer (some ⟨Q, 0, none⟩), .string x] w fun e w' => e = .returned (.tuple #[]) ∧ ∃ v', QM 35 9 1 base w' Q v' (n + 1) (xs ++ [.string x]) ∧ AStep w w' (Foot Q v) (Foot Q v') := by
  obtain ⟨i0, hi0, hz0, hz1, hz2⟩ := info_parts qInfoS
  obtain ⟨k1, k2⟩ := h.cell
  obtain ⟨A0, c0, rfl⟩ := h.row.form
  go_enter Try.func16, Try.ntmps16
  have hB1 := (Below.refl _ w).alloc (Nat.le_refl _) (.cells #[.string x] 9)
  have hr1 := h.row.below hB1
  have hs1 := one_source w 9 [.string x]
  have hbs : base ≤ (w.alloc (.cells #[.string x] 9)).heap.size := by simp; omega
  go_wp2_with (at_builtin; refine wpList_append_tail rfl _ _ 33 rfl base 9 i0 (.string ⟨#[]⟩) 1 16 Try.underlying33 hi0 hz0 hz1 hz2 rfl (by decide) _ n xs rfl hr1 _ 1 [.string x] rfl rfl hs1 ?c3 ?c4 ?c5 hbs ?_)
  case c3 => intro u hu; simp at hu; subst hu; rfl
  case c4 => unfold maxLen; omega
  case c5 => omega
  intro v2 w2 o2 g2 f2
  obtain ⟨A2, c2, rfl⟩ := o2.form
  obtain ⟨j1, j2, j3⟩ := h.grow (by decide) hB1 g2 o2 f2
  have j4 := j1.cell 0
  have j5 := j1.free 0
  simp only [List.getElem?_toArray, List.getElem?_cons_zero] at j4
  have J2 := Lib.hid j2
  have J3 := Lib.hid j3
  clear h j1 j2 j3 hr1 hs1 o2 g2 f2 hB1 k1 k2
  go_wp2_with fail
  exact bodyPost_end (results_none rfl _ _ _) rfl ⟨rfl, _, J2.out, J3.out⟩

set_option maxRecDepth 100000 in
set_option maxHeartbeats 1000000 in
theorem qpeekS (base Q : Nat) (v : Value) (n : Nat) (x : ByteArray) (xs : List Value) (w : World) (h : QM 35 9 1 base w Q v (n + 1) (.string x :: xs)) (hn : n ≤ 100000) :
    Calls Try.prog 36 #[.pointer (some ⟨Q, 0, none⟩)] w fun e w' => e = .returned (.tuple #[.string x, .bool true]) ∧ Below w.heap.size w w' := by
  obtain ⟨k1, k2⟩ := h.cell
  obtain ⟨A0, c0, rfl⟩ := h.row.form
  obtain ⟨g, off, rfl, _, _, hc, _⟩ := h.row.cells (by omega)
  have c1 := hc 0 (.string x) (by omega) rfl
  rw [Nat.add_zero] at c1
  go_enter Try.func36, Try.ntmps36
  clear h hc
  go_wp2_with fail
  refine bodyPost_ret (v := .tuple #[.string x, .bool true]) ?_ rfl ⟨rfl, Below.refl _ w⟩
  simp [results, Try.f36, go_sem]
set_option maxRecDepth 100000 in
set_option maxHeartbeats 1000000 in
theorem qpeek0S (base Q : Nat) (v : Value) (xs : List Value) (w : World) (h : QM 35 9 1 base w Q v 0 xs) :
    Calls Try.prog 36 #[.pointer (some ⟨Q, 0, none⟩)] w fun e w' => e = .returned (.tuple #[.string ⟨#[]⟩, .bool false]) ∧ Below w.heap.size w w' := by
  obtain ⟨k1, k2⟩ := h.cell
  obtain ⟨A0, c0, rfl⟩ := h.row.form
  go_enter Try.func36, Try.ntmps36
  clear h
  go_wp2_with fail
  refine bodyPost_ret (v := .tuple #[.string ⟨#[]⟩, .bool false]) ?_ rfl ⟨rfl, Below.refl _ w⟩
  simp [results, Try.f36, go_sem]

set_option maxRecDepth 100000 in
set_option maxHeartbeats 1000000 in
theorem qpopS (base Q : Nat) (v : Value) (n : Nat) (x : ByteArray) (xs : List Value) (w : World) (h : QM 35 9 1 base w Q v (n + 1) (.string x :: xs)) (hn : n ≤ 100000) :
    Calls Try.prog 18 #[.pointer (some ⟨Q, 0, none⟩)] w fun e w' => e = .returned (.tuple #[.string x, .bool true]) ∧ QM 35 9 1 base w' Q (tailV v 1 1) n xs ∧ AStep w w' (Foot Q v) (Foot Q (tailV v 1 1)) := by
  go_enter Try.func18, Try.ntmps18
  go_wp2_with fail
  refine (qpeekS base Q v n x xs w h hn).mono ?_
  rintro e w1 ⟨rfl, hb1⟩
  have h1 := h.below hb1
  obtain ⟨k1, k2⟩ := h1.cell
  have ht := h1.row.tail (k := 1) (by omega)
  obtain ⟨j2, j3⟩ := h1.cut (by decide) ht (tailV_own v 1 1)
  have j3' := (AStep.of_below (F := Foot Q v) hb1).trans j3
  obtain ⟨A0, c0, rfl⟩ := h.row.form
  obtain ⟨g, off, rfl, _, hnc, hc, _⟩ := h.row.cells (by omega)
  simp only [Nat.add_sub_cancel, Nat.one_mul, List.drop_succ_cons, List.drop_zero] at j2
  have J2 := Lib.hid j2
  have J3 := Lib.hid j3'
  clear h h1 ht j2 j3 j3' hc hb1
  go_wp2_with fail
  case inl =>
    subst h
    have e1 : tailV (.slice (some ⟨g, off, none⟩) (n + 1) 1) 1 1 = .slice (some ⟨g, off, none⟩) n 0 := by simp [tailV]
    rw [e1] at J2 J3 ⊢
    refine bodyPost_ret (v := .tuple #[.string x, .bool true]) ?_ rfl ⟨rfl, J2.out, J3.out⟩
    simp [results, Try.f18, go_sem]
  case inr =>
    have e1 : tailV (.slice (some ⟨g, off, none⟩) (n + 1) c0) 1 1 = .slice (some ⟨g, off + 1, none⟩) n (c0 - 1) := by simp [tailV, h, Addr.add]
    rw [e1] at J2 J3 ⊢
    refine bodyPost_ret (v := .tuple #[.string x, .bool true]) ?_ rfl ⟨rfl, J2.out, J3.out⟩
    simp [results, Try.f18, go_sem]
set_option maxRecDepth 100000 in
set_option maxHeartbeats 1000000 in
theorem qpop0S (base Q : Nat) (v : Value) (xs : List Value) (w : World) (h : QM 35 9 1 base w Q v 0 xs) :
    Calls Try.prog 18 #[.pointer (some ⟨Q, 0, none⟩)] w fun e w' => e = .returned (.tuple #[.string ⟨#[]⟩, .bool false]) ∧ Below w.heap.size w w' := by
  go_enter Try.func18, Try.ntmps18
  go_wp2_with fail
  refine (qpeek0S base Q v xs w h).mono ?_
  rintro e w1 ⟨rfl, hb1⟩
  clear h
  go_wp2_with fail
  refine bodyPost_ret (v := .tuple #[.string ⟨#[]⟩, .bool false]) ?_ rfl ⟨rfl, hb1⟩
  simp [results, Try.f18, go_sem]
end Go.Proofs.Ytomffkdfgfenpaa
