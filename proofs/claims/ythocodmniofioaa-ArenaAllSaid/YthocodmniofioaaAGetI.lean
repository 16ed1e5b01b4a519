/- The methods of an arena of records (int): Get, Len and New. -/
import Derived.Test.YthocodmniofioaaAGenI
namespace Go.Proofs.Ythocodmniofioaa
open Go.RowKit


set_option maxRecDepth 100000 in
set_option maxHeartbeats 1000000 in
theorem aget_anyI (base B : Nat) (b s h : Int) (live : Nat) (cs : List (Option Int)) (fr : List Nat) (F : Nat → Prop) (w : World) (hm : AM 29 57 3 2 base w B b s cs.length (Ar.rows Ar.slot cs) fr live F) (hh : I64 h) (hl : cs.length ≤ 1000) :
    Calls Try.prog 20 #[.pointer (some ⟨B, 0, none⟩), .int .i64 h] w fun e w' => e = .returned (.tuple #[.int .i64 ((Ar.get b s cs h).getD 0), .bool (Ar.get b s cs h).isSome]) ∧ Below w.heap.size w w' := by
  obtain ⟨A, c, A', c', hM, hF⟩ := hm.opened (by decide) (by decide) (by decide)
  have hcase : (∃ i : Nat, Ar.has b s cs h = some i) ∨ Ar.has b s cs h = none := by cases Ar.has b s cs h with | none => exact .inr rfl | some i => exact .inl ⟨i, rfl⟩
  rcases hcase with ⟨i, e1⟩ | e1
  · obtain ⟨_, h2, v, h3⟩ := Ar.has_some e1
    have hget : Ar.get b s cs h = some v := by unfold Ar.get; rw [e1]; simp [h3]
    rw [hget]
    go_enter Try.func20, Try.ntmps20
    go_wp2_with fail
    refine (aat_anyI base B b s h live cs fr _ _ w hM hh hl).mono ?_
    rintro e w2 ⟨rfl, hb2⟩
    rw [e1]
    have hM2 := hM.below hb2
    obtain ⟨g, rfl, hgB, hcell⟩ := hM2.slot (by omega)
    have t0 : w2.cell? ⟨g, i * 2, none⟩ = some (.bool (some v).isSome) := by rw [(hcell (i * 2) (by omega)).1]; exact (Ar.rows_get (slotLenI ) h3 (by omega : 0 < 2)).trans rfl
    have f0 := (hcell (i * 2) (by omega)).2
    have t1 : w2.cell? ⟨g, i * 2 + 1, none⟩ = some (.int .i64 ((some v).getD 0)) := by rw [(hcell (i * 2 + 1) (by omega)).1]; exact (Ar.rows_get (slotLenI ) h3 (by omega : 1 < 2)).trans rfl
    have f1 := (hcell (i * 2 + 1) (by omega)).2
    have hpt : slotPtr 2 (.slice (some ⟨g, 0, none⟩) cs.length c) (some i) = some ⟨g, i * 2 + 1, none⟩ := rfl
    rw [hpt]
    clear hM2 hM hm hcell h3 e1 hget hF hpt
    go_wp2_with fail
    refine bodyPost_ret (v := .tuple #[.int .i64 v, .bool true]) ?_ rfl ⟨rfl, hb2⟩
    simp [results, Try.f20, go_sem]
  · have hget : Ar.get b s cs h = none := by unfold Ar.get; rw [e1]
    rw [hget]
    go_enter Try.func20, Try.ntmps20
    go_wp2_with fail
    refine (aat_anyI base B b s h live cs fr _ _ _ (hM) hh hl).mono ?_
    rintro e w2 ⟨rfl, hb2⟩
    rw [e1]
    have hpt : slotPtr 2 (.slice A cs.length c) none = none := rfl
    rw [hpt]
    clear hM hm e1 hget hF hpt
    go_wp2_with fail
    refine bodyPost_ret (v := .tuple #[.int .i64 0, .bool false]) ?_ rfl ⟨rfl, hb2⟩
    simp [results, Try.f20, go_sem]

set_option maxHeartbeats 400000 in
theorem alen_anyI (base B : Nat) (b s : Int) (live : Nat) (cs : List (Option Int)) (fr : List Nat) (F : Nat → Prop) (w : World) (hm : AM 29 57 3 2 base w B b s cs.length (Ar.rows Ar.slot cs) fr live F) :
    Calls Try.prog 29 #[.pointer (some ⟨B, 0, none⟩)] w fun e w' => e = .returned (.int .i64 (live : Nat)) ∧ Below w.heap.size w w' := by
  obtain ⟨vs, vf, hW, _⟩ := hm
  have k4 : w.cell? ⟨B, 4, none⟩ = some (.int .i64 live) := hW.cell 4
  go_enter Try.func29, Try.ntmps29
  go_wp2_with fail
  go_ret
  exact ⟨rfl, Below.refl _ w⟩

set_option maxHeartbeats 1000000 in
theorem anew_anyI (b s : Int) (w : World) :
    Calls Try.prog 12 #[saltV b s] w fun e w' => e = .returned (.agg #[.int .i64 b, .int .i64 s, .slice none 0 0, .slice none 0 0, .int .i64 0]) ∧ Below w.heap.size w w' := by
  have hb0 := (Below.refl _ w).alloc (Nat.le_refl _) (.cells #[.int .i64 b, .int .i64 s] 23)
  go_enter Try.func12, Try.ntmps12
  go_wp2_with fail
  refine bodyPost_ret (v := .agg #[.int .i64 b, .int .i64 s, .slice none 0 0, .slice none 0 0, .int .i64 0]) ?_ rfl ⟨rfl, hb0.alloc (by simp) _⟩
  simp [results, Try.f12, go_sem]
end Go.Proofs.Ythocodmniofioaa
