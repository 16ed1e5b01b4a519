/- The statement ArenaHandles returns true: its walk. -/
import Derived.Test.YthocodmniofioaaACodeG
import Derived.Test.YthocodmniofioaaMem
namespace Go.Proofs.Ythocodmniofioaa
open Go.RowKit

theorem abelow_trans {w w1 w2 : World} (h1 : Below w.heap.size w w1) (h2 : Below w1.heap.size w1 w2) : Below w.heap.size w w2 := h1.trans (h2.mono h1.size)
theorem acell {w w' : World} {a : Addr} {v : Value} (h : w.cell? a = some v) (hb : Below w.heap.size w w') : w'.cell? a = some v := (hb.cell (World.block_lt_of_cell? w a h)).trans h
theorem held4 {w0 : World} {a1 a2 a3 a4 : Addr} {v1 v2 v3 v4 : Value} {W W' : World} (h : W.cell? a1 = some v1 ∧ W.cell? a2 = some v2 ∧ W.cell? a3 = some v3 ∧ W.cell? a4 = some v4 ∧ Below w0.heap.size w0 W) (hb : Below W.heap.size W W') :
    W'.cell? a1 = some v1 ∧ W'.cell? a2 = some v2 ∧ W'.cell? a3 = some v3 ∧ W'.cell? a4 = some v4 ∧ Below w0.heap.size w0 W' :=
  ⟨acell h.1 hb, acell h.2.1 hb, acell h.2.2.1 hb, acell h.2.2.2.1 hb, abelow_trans h.2.2.2.2 hb⟩

theorem held4q {w0 : World} {a1 a2 a3 a4 : Addr} {v1 v2 v3 v4 : Value} {W W' : World} {n : Nat} (h : W.cell? a1 = some v1 ∧ W.cell? a2 = some v2 ∧ W.cell? a3 = some v3 ∧ W.cell? a4 = some v4 ∧ Below w0.heap.size w0 W) (hb : Below (W.drewN n).heap.size (W.drewN n) W') :
    W'.cell? a1 = some v1 ∧ W'.cell? a2 = some v2 ∧ W'.cell? a3 = some v3 ∧ W'.cell? a4 = some v4 ∧ Below w0.heap.size w0 W' := by
  have hd : Below W.heap.size W (W.drewN n) := ⟨rfl, rfl, rfl, Nat.le_refl _, fun _ _ => rfl⟩
  exact held4 (held4 h hd) hb
theorem dec_neg {i : Int} (h : i < 0) : decide (0 ≤ i) = false := decide_eq_false (by omega)
theorem dec_big {i : Int} (h : 2147483648 ≤ i) : decide (i < 2147483648) = false := decide_eq_false (by omega)
attribute [local go_sem] dec_neg dec_big

set_option maxHeartbeats 1000000 in
theorem handles_walk (b s i h : Int) (w : World) (_hb : I64 b) (_hs : I64 s) (hi : I64 i) (hh : I64 h) :
    Calls Try.prog 4 #[saltV b s, .int .i64 i, .int .i64 h] w fun e w' => e = .returned (.bool true) ∧ Below w.heap.size w w' := by
  go_enter Try.func4, Try.ntmps4
  go_wp2_with fail
  refine (aawake_any _).mono ?_
  rintro e w1 ⟨rfl, hb1⟩
  have hS1 : Whole w1 w.heap.size #[.int .i64 b, .int .i64 s] 23 := Whole.below (Whole.new w _ _) hb1 (by simp)
  have c1 : w1.cell? ⟨w.heap.size, 0, none⟩ = some (.int .i64 b) := hS1.cell 0
  have c2 : w1.cell? ⟨w.heap.size, 1, none⟩ = some (.int .i64 s) := hS1.cell 1
  go_wp2_with fail
  refine (anorm_any b s w1).mono ?_
  rintro e w2 ⟨rfl, hb2⟩
  have d1 := acell c1 hb2
  have d2 := acell c2 hb2
  have hB2 : Below w.heap.size w w2 := abelow_trans (((Below.refl _ w).alloc (Nat.le_refl _) _).trans (hb1.mono (by simp))) hb2
  have hB3 := hB2.alloc hB2.size (.cells #[.int .i64 (Ar.nrm b), .int .i64 (Ar.nrm s)] 23)
  have HB3 := Lib.hid hB3
  clear c1 c2 hS1 hb1 hb2 hB2 hB3
  go_wp2_with fail
  have hS4 : (w2.alloc (.cells #[.int .i64 (Ar.nrm b), .int .i64 (Ar.nrm s)] 23)).cell? ⟨w.heap.size, 0, none⟩ = some (.int .i64 b) ∧ (w2.alloc (.cells #[.int .i64 (Ar.nrm b), .int .i64 (Ar.nrm s)] 23)).cell? ⟨w.heap.size, 1, none⟩ = some (.int .i64 s) ∧ (w2.alloc (.cells #[.int .i64 (Ar.nrm b), .int .i64 (Ar.nrm s)] 23)).cell? ⟨w2.heap.size, 0, none⟩ = some (.int .i64 (Ar.nrm b)) ∧ (w2.alloc (.cells #[.int .i64 (Ar.nrm b), .int .i64 (Ar.nrm s)] 23)).cell? ⟨w2.heap.size, 1, none⟩ = some (.int .i64 (Ar.nrm s)) ∧ Below w.heap.size w (w2.alloc (.cells #[.int .i64 (Ar.nrm b), .int .i64 (Ar.nrm s)] 23)) :=
    ⟨acell d1 ((Below.refl _ _).alloc (Nat.le_refl _) _), acell d2 ((Below.refl _ _).alloc (Nat.le_refl _) _), (Whole.new w2 _ _).cell 0, (Whole.new w2 _ _).cell 1, HB3.out⟩
  obtain ⟨W4, hW4⟩ : ∃ W4, w2.alloc (.cells #[.int .i64 (Ar.nrm b), .int .i64 (Ar.nrm s)] 23) = W4 := ⟨_, rfl⟩
  rw [hW4] at hS4 ⊢
  clear hW4 d1 d2 HB3
  go_region_held3 (fun W => W.cell? ⟨w.heap.size, 0, none⟩ = some (.int .i64 b) ∧ W.cell? ⟨w.heap.size, 1, none⟩ = some (.int .i64 s) ∧ W.cell? ⟨w2.heap.size, 0, none⟩ = some (.int .i64 (Ar.nrm b)) ∧ W.cell? ⟨w2.heap.size, 1, none⟩ = some (.int .i64 (Ar.nrm s)) ∧ Below w.heap.size w W) (first | assumption | exact held4 (by assumption) (by assumption) | exact held4 (by assumption) (Below.drew (Below.refl _ _)))
    (first
      | (go_at_call 24; refine (bound_any _ _).mono ?_; rintro e w9 ⟨rfl, rfl⟩)
      | (go_at_call 25; refine (ahandle_any b s i _ hi).mono ?_; rintro e w9 ⟨rfl, hb9⟩)
      | (go_at_call 26; refine (rhandle_any b s i _ hi).mono ?_; rintro e w9 ⟨rfl, hb9⟩)
      | (go_at_call 27; refine (aindex_any b s h _ hh).mono ?_; rintro e w9 ⟨rfl, hb9⟩)
      | (go_at_call 28; refine (rindex_any b s h _ hh).mono ?_; rintro e w9 ⟨rfl, hb9⟩))
  clear hS4
  rename_i w9 hb9 hS9
  clear hb9
  have hway : (i < 0) ∨ (0 ≤ i ∧ 2147483648 ≤ i) ∨ (0 ≤ i ∧ i < 2147483648 ∧ Ar.idx b s (Ar.hdl b s i) = i) := by
    by_cases h0 : 0 ≤ i
    · by_cases h1 : i < 2147483648
      · exact .inr (.inr ⟨h0, h1, Ar.hdl_slot b s i h0 (by omega)⟩)
      · exact .inr (.inl ⟨h0, by omega⟩)
    · exact .inl (by omega)
  have hdr := Ar.hdl_range b s i
  have hir := Ar.idx_range b s h
  have hway2 : Ar.idx b s h = -1 ∨ (¬ Ar.idx b s h = -1 ∧ 0 ≤ Ar.idx b s h ∧ Ar.hdl b s (Ar.idx b s h) = h) := by
    by_cases h0 : Ar.idx b s h = -1
    · exact .inl h0
    · exact .inr ⟨h0, (Ar.idx_handle b s h h0).1, (Ar.idx_handle b s h h0).2.2⟩
  have HW2 := Lib.hid hway2
  clear hway2
  rcases hway with h0 | ⟨h0, h1⟩ | ⟨h0, h1, h2⟩
  case' inl =>
    have q0 : decide (0 ≤ i) = false := decide_eq_false (by omega)
    go_wp2_with fail
    go_quiet (fail)
  case' inr.inl =>
    have q0 : decide (0 ≤ i) = true := decide_eq_true h0
    have q1 : decide (i < 2147483648) = false := decide_eq_false (by omega)
    go_wp2_with fail
    go_quiet (fail)
  case' inr.inr =>
    go_wp2_with fail
    go_region_held3 (fun W => W.cell? ⟨w.heap.size, 0, none⟩ = some (.int .i64 b) ∧ W.cell? ⟨w.heap.size, 1, none⟩ = some (.int .i64 s) ∧ W.cell? ⟨w2.heap.size, 0, none⟩ = some (.int .i64 (Ar.nrm b)) ∧ W.cell? ⟨w2.heap.size, 1, none⟩ = some (.int .i64 (Ar.nrm s)) ∧ Below w.heap.size w W) (first | assumption | exact held4 (by assumption) (by assumption) | exact held4 (by assumption) (Below.drew (Below.refl _ _)))
      (first
        | (go_at_call 25; refine (ahandle_any b s i _ hi).mono ?_; rintro e w9 ⟨rfl, hb9⟩)
        | (go_at_call 27; refine (aindex_any b s (Ar.hdl b s i) _ ⟨by omega, by omega⟩).mono ?_; rintro e w9 ⟨rfl, hb9⟩))
  all_goals go_wp2_with fail
  all_goals
    refine (aindex_any b s h _ hh).mono ?_
    rintro e wA ⟨rfl, hbA⟩
    have hSA : wA.cell? ⟨w.heap.size, 0, none⟩ = some (.int .i64 b) ∧ wA.cell? ⟨w.heap.size, 1, none⟩ = some (.int .i64 s) ∧ wA.cell? ⟨w2.heap.size, 0, none⟩ = some (.int .i64 (Ar.nrm b)) ∧ wA.cell? ⟨w2.heap.size, 1, none⟩ = some (.int .i64 (Ar.nrm s)) ∧ Below w.heap.size w wA := by
      first | exact held4 (by assumption) hbA | exact held4q hS9 hbA
    clear hbA
    clear hS9
    obtain ⟨I, hI⟩ : ∃ I, Ar.idx b s h = I := ⟨_, rfl⟩
    have hw2 := HW2.out
    rw [hI] at hw2 hir ⊢
    clear HW2 hI
  all_goals rcases hw2 with rfl | ⟨h5, h6, h7⟩
  all_goals
    first
      | (have q5 : (I == -1) = false := by simpa using h5
         have q6 : decide (0 ≤ I) = true := decide_eq_true h6
         go_wp2_with fail
         refine (ahandle_any b s I _ ⟨by omega, by omega⟩).mono ?_
         rintro e w9 ⟨rfl, hb9⟩
         rw [h7]
         go_wp2_with fail
         go_ret
         exact ⟨rfl, abelow_trans hSA.2.2.2.2 hb9⟩)
      | (go_wp2_with fail
         go_ret
         exact ⟨rfl, hSA.2.2.2.2⟩)

end Go.Proofs.Ythocodmniofioaa
