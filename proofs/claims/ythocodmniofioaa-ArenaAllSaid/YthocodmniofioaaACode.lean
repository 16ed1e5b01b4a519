/- Contracts of package arena's plain functions: Norm, Handle and Index return what the plain functions say. -/
import Derived.Test.YthocodmniofioaaARef
import Derived.Test.YthocodmniofioaaMem
namespace Go.Proofs.Ythocodmniofioaa
open Go.RowKit

set_option maxHeartbeats 400000 in
theorem limited_any (n : Int) (w : World) :
    Calls Try.prog 47 #[.int .i64 n] w fun e w' => e = .returned (.int .i64 (Ar.nrm n)) ∧ w' = w := by
  go_enter Try.func47, Try.ntmps47
  go_wp2
  all_goals go_ret
  all_goals exact ⟨aretI (by unfold Ar.nrm; omega), rfl⟩

set_option maxHeartbeats 1000000 in
theorem anorm_any (b s : Int) (w : World) :
    Calls Try.prog 23 #[saltV b s] w fun e w' => e = .returned (saltV (Ar.nrm b) (Ar.nrm s)) ∧ Below w.heap.size w w' := by
  have hb0 := (Below.refl _ w).alloc (Nat.le_refl _) (.cells #[.int .i64 b, .int .i64 s] 23)
  go_enter Try.func23, Try.ntmps23
  go_wp2_with fail
  go_region_with (go_at_call 47; refine (limited_any _ _).mono ?_; rintro e w2 ⟨rfl, rfl⟩)
  all_goals go_wp2_with fail
  all_goals refine bodyPost_ret (v := saltV (Ar.nrm b) (Ar.nrm s)) ?_ rfl ⟨rfl, (hb0.alloc (by simp) _).trans ⟨rfl, rfl, rfl, Nat.le_refl _, fun _ _ => rfl⟩⟩
  all_goals simp [results, Try.f23, go_sem]

theorem salt_put {w : World} {B : Nat} {b s : Int} (h : Whole w B #[.int .i64 b, .int .i64 s] 23) (x y : Int) :
    ∃ w', (w.setCell ⟨B, 0, none⟩ (.int .i64 x)).setCell ⟨B, 1, none⟩ (.int .i64 y) = w' ∧ Whole w' B #[.int .i64 x, .int .i64 y] 23 ∧ w.grownBy w' (some B) :=
  ⟨_, rfl, (h.put 0 _).put 1 _, gb_put (gb_put (gb_of_below (Below.refl w.heap.size w) (some B)) 0 _) 1 _⟩

set_option maxHeartbeats 1000000 in
theorem ahandle_any (b s i : Int) (w : World) (_hi : I64 i) :
    Calls Try.prog 25 #[saltV b s, .int .i64 i] w fun e w' => e = .returned (.int .i64 (Ar.hdl b s i)) ∧ Below w.heap.size w w' := by
  have hb0 := (Below.refl _ w).alloc (Nat.le_refl _) (.cells #[.int .i64 b, .int .i64 s] 23)
  by_cases hc : i < 0 ∨ 2147483647 < i
  · have hr : Ar.hdl b s i = 0 := by unfold Ar.hdl; rw [if_pos hc]
    rw [hr]
    rcases hc with hc | hc
    · go_enter Try.func25, Try.ntmps25
      go_wp2_with fail
      go_ret
      exact ⟨rfl, hb0⟩
    · have hc' : ¬ i < 0 := by omega
      go_enter Try.func25, Try.ntmps25
      go_wp2_with fail
      go_ret
      exact ⟨rfl, hb0⟩
  · have hr : Ar.hdl b s i = Ar.nrm b + Ar.nrm s * i := by unfold Ar.hdl; rw [if_neg hc]
    have hm := Ar.mul_le s i (by omega) (by omega)
    have hn := Ar.nrm_pos b
    have h1 := w64i (x := Ar.nrm s * i) (by omega) (by omega)
    have h2 := w64i (x := Ar.nrm b + Ar.nrm s * i) (by omega) (by omega)
    have hc1 : ¬ i < 0 := by omega
    have hc2 : ¬ 2147483647 < i := by omega
    rw [hr]
    clear hc hr
    go_enter Try.func25, Try.ntmps25
    go_wp2_with fail
    refine (anorm_any b s _).mono ?_
    rintro e w2 ⟨rfl, hb2⟩
    have hS2 : Whole w2 w.heap.size #[.int .i64 b, .int .i64 s] 23 := Whole.below (Whole.new w _ _) hb2 (by simp)
    have k0 : w2.cell? ⟨w.heap.size, 0, none⟩ = some (.int .i64 b) := hS2.cell 0
    have k1 : w2.cell? ⟨w.heap.size, 1, none⟩ = some (.int .i64 s) := hS2.cell 1
    have z0 := hS2.free 0
    have z1 := hS2.free 1
    have hB2 : Below w.heap.size w w2 := hb0.trans (hb2.mono (by simp))
    clear hb2 hb0
    go_wp2_with fail
    obtain ⟨w3, hw3, hS3, g3⟩ := salt_put hS2 (Ar.nrm b) (Ar.nrm s)
    rw [hw3]
    have a0 : w3.cell? ⟨w.heap.size, 0, none⟩ = some (.int .i64 (Ar.nrm b)) := hS3.cell 0
    have a1 : w3.cell? ⟨w.heap.size, 1, none⟩ = some (.int .i64 (Ar.nrm s)) := hS3.cell 1
    have hB3 := hB2.grown g3 hB2.size (fun j hj => by simp at hj; omega)
    clear hw3 z0 z1 k0 k1
    go_wp2_with fail
    go_ret
    exact ⟨rfl, hB3⟩

set_option maxHeartbeats 1000000 in
theorem aindex_any (b s h : Int) (w : World) (hh : I64 h) :
    Calls Try.prog 27 #[saltV b s, .int .i64 h] w fun e w' => e = .returned (.int .i64 (Ar.idx b s h)) ∧ Below w.heap.size w w' := by
  have hb0 := (Below.refl _ w).alloc (Nat.le_refl _) (.cells #[.int .i64 b, .int .i64 s] 23)
  have hs := Ar.nrm_pos s
  have hs0 : ¬ Ar.nrm s = 0 := by omega
  have hw := Ar.idx_ways b s h hh.2
  obtain ⟨I, hI⟩ : ∃ I, Ar.idx b s h = I := ⟨_, rfl⟩
  rw [hI] at hw ⊢
  have HW := Lib.hid hw
  clear hs hw hI
  go_enter Try.func27, Try.ntmps27
  go_wp2_with fail
  refine (anorm_any b s _).mono ?_
  rintro e w2 ⟨rfl, hb2⟩
  have hS2 : Whole w2 w.heap.size #[.int .i64 b, .int .i64 s] 23 := Whole.below (Whole.new w _ _) hb2 (by simp)
  have k0 : w2.cell? ⟨w.heap.size, 0, none⟩ = some (.int .i64 b) := hS2.cell 0
  have k1 : w2.cell? ⟨w.heap.size, 1, none⟩ = some (.int .i64 s) := hS2.cell 1
  have z0 := hS2.free 0
  have z1 := hS2.free 1
  have hB2 : Below w.heap.size w w2 := hb0.trans (hb2.mono (by simp))
  clear hb2 hb0
  rcases HW.out with ⟨h1, h9⟩ | ⟨h1, h2, h3, h7, h9⟩ | ⟨h1, h2, h3, h7, q, h4, h6, h9⟩ | ⟨h1, h2, h3, h7, q, h4, h6, h9⟩
  all_goals (have hx := Lib.hid h9)
  all_goals clear HW h9
  all_goals go_wp2_with fail
  all_goals obtain ⟨w3, hw3, hS3, g3⟩ := salt_put hS2 (Ar.nrm b) (Ar.nrm s)
  all_goals rw [hw3]
  all_goals have a0 : w3.cell? ⟨w.heap.size, 0, none⟩ = some (.int .i64 (Ar.nrm b)) := hS3.cell 0
  all_goals have a1 : w3.cell? ⟨w.heap.size, 1, none⟩ = some (.int .i64 (Ar.nrm s)) := hS3.cell 1
  all_goals have hB3 := hB2.grown g3 hB2.size (fun j hj => by simp at hj; omega)
  all_goals clear hw3 z0 z1 k0 k1
  all_goals go_wp2_with fail
  all_goals go_ret
  all_goals first
    | exact ⟨aretI hx.out.symm, hB3⟩
    | exact ⟨aretI (hx.out ▸ (by first | exact h4 | (rw [h2]; exact h4))), hB3⟩

end Go.Proofs.Ythocodmniofioaa
