/- The methods of a queue of int: Push, Peek, Pop and Len. -/
import Derived.Test.YtomffkdfgfenpaaProg
import Derived.Test.YtomffkdfgfenpaaQMem
import Derived.Lib.Hide
import Derived.StillTailTactics
import Derived.Deep.DeepCutAuto
namespace Go.Proofs.Ytomffkdfgfenpaa
open Go.RowKit

theorem qInfoI : (Try.prog.info? 3).map (fun i => (i.zero, i.size, i.bytes)) = some (some (.int .i64 0), 1, 8) := by kernel_rfl
set_option maxRecDepth 100000 in
set_option maxHeartbeats 1000000 in
theorem qpushI (base Q : Nat) (v : Value) (n : Nat) (xs : List Value) (x : Int) (w : World) (h : QM 26 3 1 base w Q v n xs) (hb : base ≤ w.heap.size) (hn : n ≤ 100000) :
    Calls Try.prog 12 #[.pointer (some ⟨Q, 0, none⟩), .int .i64 x] w fun e w' => e = .returned (.tuple #[]) ∧ ∃ v', QM 26 3 1 base w' Q v' (n + 1) (xs ++ [.int .i64 x]) ∧ AStep w w' (Foot Q v) (Foot Q v') := by
  obtain ⟨i0, hi0, hz0, hz1, hz2⟩ := info_parts qInfoI
  obtain ⟨k1, k2⟩ := h.cell
  obtain ⟨A0, c0, rfl⟩ := h.row.form
  go_enter Try.func12, Try.ntmps12
  have hB1 := (Below.refl _ w).alloc (Nat.le_refl _) (.cells #[.int .i64 x] 3)
  have hr1 := h.row.below hB1
  have hs1 := one_source w 3 [.int .i64 x]
  have hbs : base ≤ (w.alloc (.cells #[.int .i64 x] 3)).heap.size := by simp; omega
  go_wp2_with (at_builtin; refine wpList_append_tail rfl _ _ 24 rfl base 3 i0 (.int .i64 0) 1 8 Try.underlying24 hi0 hz0 hz1 hz2 rfl (by decide) _ n xs rfl hr1 _ 1 [.int .i64 x] rfl rfl hs1 ?c3 ?c4 ?c5 hbs ?_)
  case c3 => intro u hu; simp at hu; subst hu; rfl
  case c4 => unfold maxLen; omega
  case c5 => omega
  intro v2 w2 o2 g2 f2
  obtain ⟨A2, c2, rfl⟩ := o2.form
  obtain ⟨j1, j2, j3⟩ := h.grow (by decide) hB1 g2 o2 f2
  have j4 := j1.cell 0
  have j5 := j1.free 0
  simp only [List.getElem?_toArray, List.getElem?_cons_zero] at j4
  have J2 := Lib.hid j2
  have J3 := Lib.hid j3
  clear h j1 j2 j3 hr1 hs1 o2 g2 f2 hB1 k1 k2
  go_wp2_with fail
  exact bodyPost_end (results_none rfl _ _ _) rfl ⟨rfl, _, J2.out, J3.out⟩

set_option maxRecDepth 100000 in
set_option maxHeartbeats 1000000 in
theorem qpeekI (base Q : Nat) (v : Value) (n : Nat) (x : Int) (xs : List Value) (w : World) (h : QM 26 3 1 base w Q v (n + 1) (.int .i64 x :: xs)) (hn : n ≤ 100000) :
    Calls Try.prog 13 #[.pointer (some ⟨Q, 0, none⟩)] w fun e w' => e = .returned (.tuple #[.int .i64 x, .bool true]) ∧ Below w.heap.size w w' := by
  obtain ⟨k1, k2⟩ := h.cell
  obtain ⟨A0, c0, rfl⟩ := h.row.form
  obtain ⟨g, off, rfl, _, _, hc, _⟩ := h.row.cells (by omega)
  have c1 := hc 0 (.int .i64 x) (by omega) rfl
  rw [Nat.add_zero] at c1
  go_enter Try.func13, Try.ntmps13
  clear h hc
  go_wp2_with fail
  refine bodyPost_ret (v := .tuple #[.int .i64 x, .bool true]) ?_ rfl ⟨rfl, Below.refl _ w⟩
  simp [results, Try.f13, go_sem]
set_option maxRecDepth 100000 in
set_option maxHeartbeats 1000000 in
theorem qpeek0I (base Q : Nat) (v : Value) (xs : List Value) (w : World) (h : QM 26 3 1 base w Q v 0 xs) :
    Calls Try.prog 13 #[.pointer (some ⟨Q, 0, none⟩)] w fun e w' => e = .returned (.tuple #[.int .i64 0, .bool false]) ∧ Below w.heap.size w w' := by
  obtain ⟨k1, k2⟩ := h.cell
  obtain ⟨A0, c0, rfl⟩ := h.row.form
  go_enter Try.func13, Try.ntmps13
  clear h
  go_wp2_with fail
  refine bodyPost_ret (v := .tuple #[.int .i64 0, .bool false]) ?_ rfl ⟨rfl, Below.refl _ w⟩
  simp [results, Try.f13, go_sem]

set_option maxRecDepth 100000 in
set_option maxHeartbeats 1000000 in
theorem qpopI (base Q : Nat) (v : Value) (n : Nat) (x : Int) (xs : List Value) (w : World) (h : QM 26 3 1 base w Q v (n + 1) (.int .i64 x :: xs)) (hn : n ≤ 100000) :
    Calls Try.prog 14 #[.pointer (some ⟨Q, 0, none⟩)] w fun e w' => e = .returned (.tuple #[.int .i64 x, .bool true]) ∧ QM 26 3 1 base w' Q (tailV v 1 1) n xs ∧ AStep w w' (Foot Q v) (Foot Q (tailV v 1 1)) := by
  go_enter Try.func14, Try.ntmps14
  go_wp2_with fail
  refine (qpeekI base Q v n x xs w h hn).mono ?_
  rintro e w1 ⟨rfl, hb1⟩
  have h1 := h.below hb1
  obtain ⟨k1, k2⟩ := h1.cell
  have ht := h1.row.tail (k := 1) (by omega)
  obtain ⟨j2, j3⟩ := h1.cut (by decide) ht (tailV_own v 1 1)
  have j3' := (AStep.of_below (F := Foot Q v) hb1).trans j3
  obtain ⟨A0, c0, rfl⟩ := h.row.form
  obtain ⟨g, off, rfl, _, hnc, hc, _⟩ := h.row.cells (by omega)
  simp only [Nat.add_sub_cancel, Nat.one_mul, List.drop_succ_cons, List.drop_zero] at j2
  have J2 := Lib.hid j2
  have J3 := Lib.hid j3'
  clear h h1 ht j2 j3 j3' hc hb1
  go_wp2_with fail
  case inl =>
    subst h
    have e1 : tailV (.slice (some ⟨g, off, none⟩) (n + 1) 1) 1 1 = .slice (some ⟨g, off, none⟩) n 0 := by simp [tailV]
    rw [e1] at J2 J3 ⊢
    refine bodyPost_ret (v := .tuple #[.int .i64 x, .bool true]) ?_ rfl ⟨rfl, J2.out, J3.out⟩
    simp [results, Try.f14, go_sem]
  case inr =>
    have e1 : tailV (.slice (some ⟨g, off, none⟩) (n + 1) c0) 1 1 = .slice (some ⟨g, off + 1, none⟩) n (c0 - 1) := by simp [tailV, h, Addr.add]
    rw [e1] at J2 J3 ⊢
    refine bodyPost_ret (v := .tuple #[.int .i64 x, .bool true]) ?_ rfl ⟨rfl, J2.out, J3.out⟩
    simp [results, Try.f14, go_sem]
set_option maxRecDepth 100000 in
set_option maxHeartbeats 1000000 in
theorem qpop0I (base Q : Nat) (v : Value) (xs : List Value) (w : World) (h : QM 26 3 1 base w Q v 0 xs) :
    Calls Try.prog 14 #[.pointer (some ⟨Q, 0, none⟩)] w fun e w' => e = .returned (.tuple #[.int .i64 0, .bool false]) ∧ Below w.heap.size w w' := by
  go_enter Try.func14, Try.ntmps14
  go_wp2_with fail
  refine (qpeek0I base Q v xs w h).mono ?_
  rintro e w1 ⟨rfl, hb1⟩
  clear h
  go_wp2_with fail
  refine bodyPost_ret (v := .tuple #[.int .i64 0, .bool false]) ?_ rfl ⟨rfl, hb1⟩
  simp [results, Try.f14, go_sem]

set_option maxRecDepth 100000 in
set_option maxHeartbeats 1000000 in
theorem qlenI (base Q : Nat) (v : Value) (n : Nat) (xs : List Value) (w : World) (h : QM 26 3 1 base w Q v n xs) :
    Calls Try.prog 15 #[.pointer (some ⟨Q, 0, none⟩)] w fun e w' => e = .returned (.int .i64 (n : Nat)) ∧ Below w.heap.size w w' := by
  obtain ⟨k1, k2⟩ := h.cell
  obtain ⟨A0, c0, rfl⟩ := h.row.form
  go_enter Try.func15, Try.ntmps15
  clear h
  go_wp2_with fail
  go_ret
  exact ⟨rfl, Below.refl _ w⟩
end Go.Proofs.Ytomffkdfgfenpaa
