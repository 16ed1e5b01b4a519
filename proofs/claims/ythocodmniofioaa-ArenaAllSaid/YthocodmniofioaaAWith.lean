/- The reference's model with another cell. -/
import Derived.Test.YthocodmniofioaaAHas
import Derived.Laws.IdiomStrings
import Derived.RangeFuncBox
namespace Go.Proofs.Ythocodmniofioaa
open Go.RowKit

theorem cellInfo : (Try.prog.info? 49).map (fun i => (i.zero, i.size, i.bytes)) = some (some (.agg #[.bool false, .int .i64 0]), 2, 16) := by kernel_rfl
theorem intInfo : (Try.prog.info? 3).map (fun i => (i.zero, i.size, i.bytes)) = some (some (.int .i64 0), 1, 8) := by kernel_rfl

theorem slots_one (cs : List (Option Int)) : ∀ u ∈ Ar.slots cs, u.oneCell' = true := by
  intro u hu
  unfold Ar.slots at hu
  obtain ⟨c, _, hc⟩ := List.mem_flatMap.1 hu
  cases c <;> simp [Ar.slot] at hc <;> rcases hc with rfl | rfl <;> rfl

set_option maxRecDepth 100000 in
set_option maxHeartbeats 1000000 in
theorem rwith_any (b s : Int) (i : Nat) (x : Option Int) (vc vf : Value) (cs : List (Option Int)) (fr : List Nat) (w : World) (hm : MR w vc vf cs fr) (hl : cs.length ≤ 10000) (hi : i < cs.length) :
    Calls Try.prog 43 #[modelV b s vc vf, .int .i64 i, .agg #[.bool x.isSome, .int .i64 (x.getD 0)]] w fun e w' => ∃ v, e = .returned (modelV b s v vf) ∧ MR w' v vf (cs.set i x) fr ∧ Below w.heap.size w w' := by
  obtain ⟨i0, hi0, hz0, hz1, hz2⟩ := info_parts cellInfo
  obtain ⟨Af, cf, rfl⟩ := own_slice hm.2
  obtain ⟨A, c, rfl⟩ := own_slice hm.1
  obtain ⟨g, rfl, hg, _⟩ := own_cells hm.1 (by omega)
  obtain ⟨W4, hW4⟩ : ∃ W4, (((w.alloc (.cells #[.int .i64 b, .int .i64 s, .slice (some ⟨g, 0, none⟩) cs.length c, (.slice Af fr.length cf)] 33)).alloc (.cells #[.bool x.isSome, .int .i64 (x.getD 0)] 49)).alloc (.cells #[.int .i64 0, .int .i64 0, .slice none 0 0, .slice none 0 0] 33)).alloc (.cells #[] 49) = W4 := ⟨_, rfl⟩
  have hB4 : Below w.heap.size w W4 := by
    rw [← hW4]; exact ((((Below.refl _ w).alloc (Nat.le_refl _) _).alloc (by simp) _).alloc (by simp; omega) _).alloc (by simp; omega) _
  have hs4 : W4.heap.size = w.heap.size + 4 := by rw [← hW4]; simp
  have m4 : Whole W4 w.heap.size #[.int .i64 b, .int .i64 s, .slice (some ⟨g, 0, none⟩) cs.length c, (.slice Af fr.length cf)] 33 := by
    rw [← hW4]; exact (((Whole.new w _ _).alloc _).alloc _).alloc _
  have k4 : Whole W4 (w.heap.size + 1) #[.bool x.isSome, .int .i64 (x.getD 0)] 49 := by
    have h := Whole.new (w.alloc (.cells #[.int .i64 b, .int .i64 s, .slice (some ⟨g, 0, none⟩) cs.length c, (.slice Af fr.length cf)] 33)) #[.bool x.isSome, .int .i64 (x.getD 0)] 49
    rw [World.size_alloc] at h
    rw [← hW4]; exact (h.alloc _).alloc _
  have r4 : Whole W4 (w.heap.size + 1 + 1) #[.int .i64 0, .int .i64 0, .slice none 0 0, .slice none 0 0] 33 := by
    have h := Whole.new ((w.alloc (.cells #[.int .i64 b, .int .i64 s, .slice (some ⟨g, 0, none⟩) cs.length c, (.slice Af fr.length cf)] 33)).alloc (.cells #[.bool x.isSome, .int .i64 (x.getD 0)] 49)) #[.int .i64 0, .int .i64 0, .slice none 0 0, .slice none 0 0] 33
    rw [World.size_alloc, World.size_alloc] at h
    rw [← hW4]; exact h.alloc _
  have e4 : W4.ownsRow (w.heap.size + 3) 49 2 (.slice (some ⟨w.heap.size + 1 + 1 + 1, 0, none⟩) 0 0) 0 [] := by
    have h := World.ownsRow_lit (base := w.heap.size + 3) (e := 49) (size := 2) (((w.alloc (.cells #[.int .i64 b, .int .i64 s, .slice (some ⟨g, 0, none⟩) cs.length c, (.slice Af fr.length cf)] 33)).alloc (.cells #[.bool x.isSome, .int .i64 (x.getD 0)] 49)).alloc (.cells #[.int .i64 0, .int .i64 0, .slice none 0 0, .slice none 0 0] 33)) #[] 0 (by simp) (Nat.zero_le _) rfl
    rw [hW4] at h
    simpa using h
  have c4 : W4.cell? ⟨w.heap.size, 2, none⟩ = some (.slice (some ⟨g, 0, none⟩) cs.length c) := m4.cell 2
  have hcells : ∀ j u, (Ar.slots cs)[j]? = some u → W4.cell? ((⟨g, 0, none⟩ : Addr).add j) = some u := (hm.below hB4).1.cells rfl
  go_enter Try.func43, Try.ntmps43
  go_wp2_with (at_builtin; refine wpList_append_own _ rfl _ _ 31 rfl (w.heap.size + 3) 49 i0 (.agg #[.bool false, .int .i64 0]) 2 16 Try.underlying31 hi0 hz0 hz1 hz2 rfl (by decide) _ 0 [] rfl e4 ⟨g, 0, none⟩ cs.length c (Ar.slots cs) rfl (Ar.slots_len cs) hcells ?c2 ?c3 ?c4 ?c5 ?_)
  case c2 => exact slots_one cs
  case c3 => unfold maxLen; omega
  case c4 => omega
  case c5 => omega
  intro v5 w5 ho5 hg5 _
  obtain ⟨N, hN⟩ : ∃ N, cs.length = N + 1 := ⟨cs.length - 1, by omega⟩
  rw [hN] at ho5
  obtain ⟨g5, cap5, rfl⟩ := ownsRow_succ ho5
  rw [← hN] at ho5 ⊢
  have hlt5 := ho5.lt g5 rfl
  have hsz5 := hg5.size
  have m5 : Whole w5 w.heap.size #[.int .i64 b, .int .i64 s, .slice (some ⟨g, 0, none⟩) cs.length c, (.slice Af fr.length cf)] 33 := m4.grown hg5 (by simp [Value.ownBlock]; omega)
  have k5 : Whole w5 (w.heap.size + 1) #[.bool x.isSome, .int .i64 (x.getD 0)] 49 := k4.grown hg5 (by simp [Value.ownBlock])
  have r5 : Whole w5 (w.heap.size + 1 + 1) #[.int .i64 0, .int .i64 0, .slice none 0 0, .slice none 0 0] 33 := r4.grown hg5 (by simp [Value.ownBlock])
  have hB5 : Below w.heap.size w w5 := hB4.grown hg5 (by omega) (fun j hj => by simp [Value.ownBlock] at hj; omega)
  have kc0 : w5.cell? ⟨w.heap.size + 1, 0, none⟩ = some (.bool x.isSome) := k5.cell 0
  have kc1 : w5.cell? ⟨w.heap.size + 1, 1, none⟩ = some (.int .i64 (x.getD 0)) := k5.cell 1
  obtain ⟨y, hy⟩ : ∃ y, cs[i]? = some y := ⟨_, List.getElem?_eq_getElem hi⟩
  obtain ⟨s0, s1⟩ := Ar.slots_get cs i y hy
  have t0 : w5.cell? ⟨g5, i * 2, none⟩ = some (.bool y.isSome) := by rw [ho5.cellAt (i * 2) (by omega)]; exact s0
  have t1 : w5.cell? ⟨g5, i * 2 + 1, none⟩ = some (.int .i64 (y.getD 0)) := by rw [ho5.cellAt (i * 2 + 1) (by omega)]; exact s1
  have f0 := ho5.frozenAt (i * 2)
  have f1 := ho5.frozenAt (i * 2 + 1)
  have hii : (i : Int) < (cs.length : Int) := by omega
  obtain ⟨o6, q6⟩ := ho5.stored (i * 2) (.bool x.isSome)
  obtain ⟨o7, q7⟩ := o6.stored (i * 2 + 1) (.int .i64 (x.getD 0))
  obtain ⟨W7, hW7⟩ : ∃ W7, (w5.setCell ⟨g5, i * 2, none⟩ (.bool x.isSome)).setCell ⟨g5, i * 2 + 1, none⟩ (.int .i64 (x.getD 0)) = W7 := ⟨_, rfl⟩
  rw [hW7] at o7 q7
  have g57 : w5.grownBy W7 (some g5) := gb_trans q6 q7
  have m7 : Whole W7 w.heap.size #[.int .i64 b, .int .i64 s, .slice (some ⟨g, 0, none⟩) cs.length c, (.slice Af fr.length cf)] 33 := m5.grown g57 (by simp; omega)
  have r7 : Whole W7 (w.heap.size + 1 + 1) #[.int .i64 0, .int .i64 0, .slice none 0 0, .slice none 0 0] 33 := r5.grown g57 (by simp; omega)
  have hB7 : Below w.heap.size w W7 := hB5.grown g57 (by omega) (fun j hj => by simp at hj; omega)
  have d0 : W7.cell? ⟨w.heap.size, 0, none⟩ = some (.int .i64 b) := m7.cell 0
  have d1 : W7.cell? ⟨w.heap.size, 1, none⟩ = some (.int .i64 s) := m7.cell 1
  have d3 : W7.cell? ⟨w.heap.size, 3, none⟩ = some (.slice Af fr.length cf) := m7.cell 3
  have e0 : W7.cell? ⟨w.heap.size + 1 + 1, 0, none⟩ = some (.int .i64 0) := r7.cell 0
  have e1 : W7.cell? ⟨w.heap.size + 1 + 1, 1, none⟩ = some (.int .i64 0) := r7.cell 1
  have e2 : W7.cell? ⟨w.heap.size + 1 + 1, 2, none⟩ = some (.slice none 0 0) := r7.cell 2
  have e3 : W7.cell? ⟨w.heap.size + 1 + 1, 3, none⟩ = some (.slice none 0 0) := r7.cell 3
  have z0 := r7.free 0
  have z1 := r7.free 1
  have z2 := r7.free 2
  have z3 := r7.free 3
  have HM := Lib.hid hm
  clear hW4 e4 hcells hm hN
  go_wp2_with fail
  have r8 := (((r7.put 0 (.int .i64 b)).put 1 (.int .i64 s)).put 2 (.slice (some ⟨g5, 0, none⟩) cs.length cap5)).put 3 (.slice Af fr.length cf)
  have hb8 := (((hB7.setCell (p := ⟨w.heap.size + 1 + 1, 0, none⟩) (by simp; omega) (.int .i64 b)).setCell (p := ⟨w.heap.size + 1 + 1, 1, none⟩) (by simp; omega) (.int .i64 s)).setCell (p := ⟨w.heap.size + 1 + 1, 2, none⟩) (by simp; omega) (.slice (some ⟨g5, 0, none⟩) cs.length cap5)).setCell (p := ⟨w.heap.size + 1 + 1, 3, none⟩) (by simp; omega) (.slice Af fr.length cf)
  have hg8 := gb_put (gb_put (gb_put (gb_put (gb_of_below (Below.refl W7.heap.size W7) (some (w.heap.size + 1 + 1))) 0 (.int .i64 b)) 1 (.int .i64 s)) 2 (.slice (some ⟨g5, 0, none⟩) cs.length cap5)) 3 (.slice Af fr.length cf)
  have o8 := o7.kept hg8 (.inr (by simp [Value.ownBlock]; omega))
  rw [Ar.slots_set cs i x hi] at o8
  obtain ⟨W8, hW8⟩ : ∃ W8, (((W7.setCell ⟨w.heap.size + 1 + 1, 0, none⟩ (.int .i64 b)).setCell ⟨w.heap.size + 1 + 1, 1, none⟩ (.int .i64 s)).setCell ⟨w.heap.size + 1 + 1, 2, none⟩ (.slice (some ⟨g5, 0, none⟩) cs.length cap5)).setCell ⟨w.heap.size + 1 + 1, 3, none⟩ (.slice Af fr.length cf) = W8 := ⟨_, rfl⟩
  rw [hW8] at r8 hb8 o8 ⊢
  have c80 : W8.cell? ⟨w.heap.size + 1 + 1, 0, none⟩ = some (.int .i64 b) := r8.cell 0
  have c81 : W8.cell? ⟨w.heap.size + 1 + 1, 1, none⟩ = some (.int .i64 s) := r8.cell 1
  have c82 : W8.cell? ⟨w.heap.size + 1 + 1, 2, none⟩ = some (.slice (some ⟨g5, 0, none⟩) cs.length cap5) := r8.cell 2
  have c83 : W8.cell? ⟨w.heap.size + 1 + 1, 3, none⟩ = some (.slice Af fr.length cf) := r8.cell 3
  refine bodyPost_ret (v := modelV b s (.slice (some ⟨g5, 0, none⟩) cs.length cap5) (.slice Af fr.length cf)) ?_ rfl ⟨_, rfl, ⟨?_, own_below HM.out.2 hb8⟩, hb8⟩
  · simp [results, Try.f43, go_sem, c80, c81, c82, c83]
  · rw [List.length_set]
    exact own_zero o8

end Go.Proofs.Ythocodmniofioaa
