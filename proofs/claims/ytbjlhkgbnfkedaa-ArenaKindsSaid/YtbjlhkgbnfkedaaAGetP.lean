/- The methods of an arena of records (knapsack/knapsacklaw03.Pair): Get, Len and New. -/
import Derived.Test.YtbjlhkgbnfkedaaAGenP
namespace Go.Proofs.Ytbjlhkgbnfkedaa
open Go.RowKit


/-- A variable of two cells that is given a pair. -/
theorem box2 {W : World} {B : Nat} {x0 x1 : Value} {T : TypeId} (r : Whole W B #[x0, x1] T) (y0 y1 : Value) :
    ∃ W', (W.setCell ⟨B, 0, none⟩ y0).setCell ⟨B, 1, none⟩ y1 = W' ∧ Whole W' B #[y0, y1] T ∧ W.grownBy W' (some B) :=
  ⟨_, rfl, (r.put 0 y0).put 1 y1, gb_put (gb_put (gb_of_below (Below.refl W.heap.size W) (some B)) 0 y0) 1 y1⟩

set_option maxRecDepth 100000 in
set_option maxHeartbeats 1000000 in
theorem aget_anyP (f : Int → ByteArray) (base B : Nat) (b s h : Int) (live : Nat) (cs : List (Option Int)) (fr : List Nat) (F : Nat → Prop) (w : World) (hm : AM 80 99 3 3 base w B b s cs.length (Ar.rows (slotP f) cs) fr live F) (hh : I64 h) (hl : cs.length ≤ 1000) :
    Calls Try.prog 41 #[.pointer (some ⟨B, 0, none⟩), .int .i64 h] w fun e w' => e = .returned (.tuple #[.agg #[.string (strOf f (Ar.get b s cs h)), .int .i64 ((Ar.get b s cs h).getD 0)], .bool (Ar.get b s cs h).isSome]) ∧ Below w.heap.size w w' := by
  obtain ⟨A, c, A', c', hM, hF⟩ := hm.opened (by decide) (by decide) (by decide)
  have hcase : (∃ i : Nat, Ar.has b s cs h = some i) ∨ Ar.has b s cs h = none := by cases Ar.has b s cs h with | none => exact .inr rfl | some i => exact .inl ⟨i, rfl⟩
  have hB1 := (Below.refl _ w).alloc (Nat.le_refl _) (.cells #[.string ⟨#[]⟩, .int .i64 0] 83)
  have hX := Whole.new w #[.string ⟨#[]⟩, .int .i64 0] 83
  have hM1 := hM.below hB1
  rcases hcase with ⟨i, e1⟩ | e1
  · obtain ⟨_, h2, v, h3⟩ := Ar.has_some e1
    have hget : Ar.get b s cs h = some v := by unfold Ar.get; rw [e1]; simp [h3]
    rw [hget]
    go_enter Try.func41, Try.ntmps41
    go_wp2_with fail
    refine (aat_anyP f base B b s h live cs fr _ _ _ hM1 hh hl).mono ?_
    rintro e w2 ⟨rfl, hb2⟩
    rw [e1]
    have hM2 := hM1.below hb2
    obtain ⟨g, rfl, hgB, hcell⟩ := hM2.slot (by omega)
    have t0 : w2.cell? ⟨g, i * 3, none⟩ = some (.bool (some v).isSome) := by rw [(hcell (i * 3) (by omega)).1]; exact (Ar.rows_get (slotLenP f ) h3 (by omega : 0 < 3)).trans rfl
    have f0 := (hcell (i * 3) (by omega)).2
    have t1 : w2.cell? ⟨g, i * 3 + 1, none⟩ = some (.string (strOf f (some v))) := by rw [(hcell (i * 3 + 1) (by omega)).1]; exact (Ar.rows_get (slotLenP f ) h3 (by omega : 1 < 3)).trans rfl
    have f1 := (hcell (i * 3 + 1) (by omega)).2
    have t2 : w2.cell? ⟨g, i * 3 + 2, none⟩ = some (.int .i64 ((some v).getD 0)) := by rw [(hcell (i * 3 + 2) (by omega)).1]; exact (Ar.rows_get (slotLenP f ) h3 (by omega : 2 < 3)).trans rfl
    have f2 := (hcell (i * 3 + 2) (by omega)).2
    have hpt : slotPtr 3 (.slice (some ⟨g, 0, none⟩) cs.length c) (some i) = some ⟨g, i * 3 + 1, none⟩ := rfl
    rw [hpt]
    have hX2 := hX.below hb2 hX.lt
    have x0 : w2.cell? ⟨w.heap.size, 0, none⟩ = some (.string ⟨#[]⟩) := hX2.cell 0
    have x1 : w2.cell? ⟨w.heap.size, 1, none⟩ = some (.int .i64 0) := hX2.cell 1
    have z0 := hX2.free 0
    have z1 := hX2.free 1
    have hB2 : Below w.heap.size w w2 := hB1.trans (hb2.mono hB1.size)
    obtain ⟨w3, hw3, hX3, g3⟩ := box2 hX2 (.string (f v)) (.int .i64 v)
    have hB3 := hB2.grown g3 hB2.size (fun j hj => by simp at hj; omega)
    have y0 : w3.cell? ⟨w.heap.size, 0, none⟩ = some (.string (f v)) := hX3.cell 0
    have y1 : w3.cell? ⟨w.heap.size, 1, none⟩ = some (.int .i64 v) := hX3.cell 1
    have e9 : strOf f (some v) = f v := rfl
    rw [e9] at t1
    clear hM2 hM hM1 hm hcell h3 e1 hget hF hpt hX hX2 hX3 g3 hB1 e9
    go_wp2_with fail
    refine bodyPost_ret (v := .tuple #[.agg #[.string (f v), .int .i64 v], .bool true]) ?_ rfl ⟨rfl, hB3⟩
    simp [results, Try.f41, go_sem, y0, y1]
  · have hget : Ar.get b s cs h = none := by unfold Ar.get; rw [e1]
    rw [hget]
    go_enter Try.func41, Try.ntmps41
    go_wp2_with fail
    refine (aat_anyP f base B b s h live cs fr _ _ _ hM1 hh hl).mono ?_
    rintro e w2 ⟨rfl, hb2⟩
    rw [e1]
    have hpt : slotPtr 3 (.slice A cs.length c) none = none := rfl
    rw [hpt]
    have hX2 := hX.below hb2 hX.lt
    have hB2 : Below w.heap.size w w2 := hB1.trans (hb2.mono hB1.size)
    have hX3 := hX2.alloc (.cells #[.string ⟨#[]⟩, .int .i64 0] 83)
    have hY3 := Whole.new w2 #[.string ⟨#[]⟩, .int .i64 0] 83
    have hB3 := hB2.alloc hB2.size (.cells #[.string ⟨#[]⟩, .int .i64 0] 83)
    obtain ⟨w3, hw3⟩ : ∃ w3, w2.alloc (.cells #[.string ⟨#[]⟩, .int .i64 0] 83) = w3 := ⟨_, rfl⟩
    rw [hw3] at hX3 hY3 hB3
    have x0 : w3.cell? ⟨w.heap.size, 0, none⟩ = some (.string ⟨#[]⟩) := hX3.cell 0
    have x1 : w3.cell? ⟨w.heap.size, 1, none⟩ = some (.int .i64 0) := hX3.cell 1
    have z0 := hX3.free 0
    have z1 := hX3.free 1
    have x2 : w3.cell? ⟨w2.heap.size, 0, none⟩ = some (.string ⟨#[]⟩) := hY3.cell 0
    have x3 : w3.cell? ⟨w2.heap.size, 1, none⟩ = some (.int .i64 0) := hY3.cell 1
    obtain ⟨w4, hw4, hX4, g4⟩ := box2 hX3 (.string ⟨#[]⟩) (.int .i64 0)
    have hB4 := hB3.grown g4 hB3.size (fun j hj => by simp at hj; omega)
    have y0 : w4.cell? ⟨w.heap.size, 0, none⟩ = some (.string ⟨#[]⟩) := hX4.cell 0
    have y1 : w4.cell? ⟨w.heap.size, 1, none⟩ = some (.int .i64 0) := hX4.cell 1
    clear hM hM1 hm e1 hget hF hpt hX hX2 hB1 hX3 hY3 hX4 g4
    go_wp2_with fail
    refine bodyPost_ret (v := .tuple #[.agg #[.string ⟨#[]⟩, .int .i64 0], .bool false]) ?_ rfl ⟨rfl, hB4⟩
    simp [results, Try.f41, go_sem, y0, y1]

set_option maxHeartbeats 1000000 in
theorem anew_anyP (b s : Int) (w : World) :
    Calls Try.prog 35 #[saltV b s] w fun e w' => e = .returned (.agg #[.int .i64 b, .int .i64 s, .slice none 0 0, .slice none 0 0, .int .i64 0]) ∧ Below w.heap.size w w' := by
  have hb0 := (Below.refl _ w).alloc (Nat.le_refl _) (.cells #[.int .i64 b, .int .i64 s] 23)
  go_enter Try.func35, Try.ntmps35
  go_wp2_with fail
  refine bodyPost_ret (v := .agg #[.int .i64 b, .int .i64 s, .slice none 0 0, .slice none 0 0, .int .i64 0]) ?_ rfl ⟨rfl, hb0.alloc (by simp) _⟩
  simp [results, Try.f35, go_sem]
end Go.Proofs.Ytbjlhkgbnfkedaa
