/- The reference's model with a number more. -/
import Derived.Test.YthocodmniofioaaADrop
import Derived.Test.YthocodmniofioaaARow
import Derived.StillTailTactics
namespace Go.Proofs.Ythocodmniofioaa
open Go.RowKit

/-- The first m of a row's elements. -/
theorem own_prefix {w : World} {B g n c : Nat} {e : TypeId} {size : Nat} {xs : List Value} (h : w.ownsRow B e size (.slice (some ⟨g, 0, none⟩) n c) n xs) (m : Nat) (hm : m ≤ n) : w.ownsRow B e size (.slice (some ⟨g, 0, none⟩) m c) m (xs.take (m * size)) := by
  rcases h.2 with ⟨hv, _⟩ | ⟨g', cap, cur, hv, hb, hg, hn, hc, hs, ht⟩
  · cases hv
  · injection hv with h1 h2 h3
    injection h1 with h1
    injection h1 with h1 _ _
    subst h1 h3
    refine ⟨?_, .inr ⟨_, _, cur, rfl, hb, hg, by omega, hc, hs, ?_⟩⟩
    · rw [List.length_take, h.1]; exact Nat.min_eq_left (Nat.mul_le_mul_right _ hm)
    · rw [← ht, List.take_take, Nat.min_eq_left (Nat.mul_le_mul_right _ hm)]
theorem own_cap {w : World} {B g n c : Nat} {e : TypeId} {size : Nat} {xs : List Value} (h : w.ownsRow B e size (.slice (some ⟨g, 0, none⟩) n c) n xs) : n ≤ c := by
  rcases h.2 with ⟨hv, _⟩ | ⟨g', cap, cur, hv, _, _, hn, _⟩
  · cases hv
  · injection hv with _ _ h3
    omega

theorem own_far {w : World} {N B size : Nat} {e : TypeId} {v : Value} {n : Nat} {xs : List Value} (h : w.ownsRow N e size v n xs) (hB : B < N) : some B ≠ v.ownBlock := fun x => by have := (h.lt B x.symm).1; omega
theorem S_model {W : World} {B : Nat} {b s : Int} {vc vf : Value} {T : TypeId} (h : Whole W B #[.int .i64 b, .int .i64 s, vc, vf] T) :
    W.cell? ⟨B, 0, none⟩ = some (.int .i64 b) ∧ W.cell? ⟨B, 1, none⟩ = some (.int .i64 s) ∧ W.cell? ⟨B, 2, none⟩ = some vc := ⟨h.cell 0, h.cell 1, h.cell 2⟩

set_option maxRecDepth 100000 in
set_option maxHeartbeats 1000000 in
theorem radd_any (b s v : Int) (vc vf : Value) (cs : List (Option Int)) (fr : List Nat) (w : World) (hm : MR w vc vf cs fr) (hok : Ar.Ok cs fr) (hl : cs.length ≤ 10000) (hf : fr.length ≤ 10000) :
    Calls Try.prog 14 #[modelV b s vc vf, .int .i64 v] w fun e w' => ∃ vc' vf', e = .returned (.tuple #[modelV b s vc' vf', .int .i64 (Ar.hdl b s (Ar.add cs fr v).2.2)]) ∧ MR w' vc' vf' (Ar.add cs fr v).1 (Ar.add cs fr v).2.1 ∧ NewOr w vf vf' ∧ Below w.heap.size w w' := by
  obtain ⟨Af, cf, rfl⟩ := own_slice hm.2
  obtain ⟨A, c, rfl⟩ := own_slice hm.1
  obtain ⟨i0, hi0, hz0, hz1, hz2⟩ := info_parts intInfo
  go_enter Try.func14, Try.ntmps14
  by_cases hz : fr = []
  · subst hz
    obtain ⟨i1, hi1, hy0, hy1, hy2⟩ := info_parts cellInfo
    have hadd : Ar.add cs [] v = (cs ++ [some v], [], cs.length) := rfl
    have HADD := Lib.hid hadd
    clear hadd hok
    rw [List.length_nil] at hm hf ⊢
    obtain ⟨W2, hW2⟩ : ∃ W2, (w.alloc (.cells #[.int .i64 b, .int .i64 s, .slice A cs.length c, .slice Af 0 cf] 33)).alloc (.cells #[.int .i64 0, .int .i64 0, .slice none 0 0, .slice none 0 0] 33) = W2 := ⟨_, rfl⟩
    have hB2 : Below w.heap.size w W2 := by rw [← hW2]; exact ((Below.refl _ w).alloc (Nat.le_refl _) _).alloc (by simp) _
    have m2 : Whole W2 w.heap.size #[.int .i64 b, .int .i64 s, .slice A cs.length c, .slice Af 0 cf] 33 := by rw [← hW2]; exact (Whole.new w _ _).alloc _
    have r2 : Whole W2 (w.heap.size + 1) #[.int .i64 0, .int .i64 0, .slice none 0 0, .slice none 0 0] 33 := by
      have h := Whole.new (w.alloc (.cells #[.int .i64 b, .int .i64 s, .slice A cs.length c, .slice Af 0 cf] 33)) #[.int .i64 0, .int .i64 0, .slice none 0 0, .slice none 0 0] 33
      rw [World.size_alloc] at h
      rw [← hW2]; exact h
    have a2 : W2.cell? ⟨w.heap.size, 2, none⟩ = some (.slice A cs.length c) := m2.cell 2
    have a3 : W2.cell? ⟨w.heap.size, 3, none⟩ = some (.slice Af 0 cf) := m2.cell 3
    have hlt2 := m2.lt
    have hlr2 := r2.lt
    have hm2 := hm.below hB2
    have hown := hm2.1
    have HM2 := Lib.hid hm2
    clear hm hm2
    go_wp2_with fail
    first | rw [hW2] | skip
    clear a2 a3 hW2
    have m2d : Whole W2.drew w.heap.size #[.int .i64 b, .int .i64 s, .slice A cs.length c, .slice Af 0 cf] 33 := m2
    have r2d : Whole W2.drew (w.heap.size + 1) #[.int .i64 0, .int .i64 0, .slice none 0 0, .slice none 0 0] 33 := r2
    have hd0 : Below W2.heap.size W2 W2.drew := ⟨rfl, rfl, rfl, Nat.le_refl _, fun _ _ => rfl⟩
    have hdE : Below W2.heap.size W2 (W2.drew.alloc (.cells #[] 49)) := hd0.alloc (Nat.le_refl _) _
    have hdO : Below W2.heap.size W2 (W2.drew.alloc (.cells #[.bool true, .int .i64 v] 49)) := hd0.alloc (Nat.le_refl _) _
    have hdEO : Below W2.heap.size W2 ((W2.drew.alloc (.cells #[] 49)).alloc (.cells #[.bool true, .int .i64 v] 49)) := hdE.alloc hdE.size _
    have hdOE : Below W2.heap.size W2 ((W2.drew.alloc (.cells #[.bool true, .int .i64 v] 49)).alloc (.cells #[] 49)) := hdO.alloc hdO.size _
    have hA1 : (W2.drew.alloc (.cells #[] 49)).ownsRow W2.heap.size 49 2 (.slice (some ⟨W2.heap.size, 0, none⟩) 0 0) 0 [] := World.ownsRow_lit W2.drew #[] 0 (Nat.le_refl _) (Nat.zero_le _) rfl
    have sA1 : (W2.drew.alloc (.cells #[] 49)).ownsRow 0 49 2 (.slice A cs.length c) cs.length (Ar.slots cs) := own_below hown hdE
    have nA1 : W2.heap.size ≤ (W2.drew.alloc (.cells #[] 49)).heap.size := hdE.size
    have hB1 : ((W2.drew.alloc (.cells #[] 49)).alloc (.cells #[.bool true, .int .i64 v] 49)).ownsRow W2.heap.size 49 2 (.slice (some ⟨W2.heap.size, 0, none⟩) 0 0) 0 [] := hA1.alloc _
    have sB1 : ((W2.drew.alloc (.cells #[] 49)).alloc (.cells #[.bool true, .int .i64 v] 49)).ownsRow 0 49 2 (.slice A cs.length c) cs.length (Ar.slots cs) := own_below hown hdEO
    have oB1 : ((W2.drew.alloc (.cells #[] 49)).alloc (.cells #[.bool true, .int .i64 v] 49)).ownsRow 0 49 2 (.slice (some ⟨W2.heap.size + 1, 0, none⟩) 1 1) 1 [.bool true, .int .i64 v] := by
      have h := World.ownsRow_lit (base := 0) (e := 49) (size := 2) (W2.drew.alloc (.cells #[] 49)) #[.bool true, .int .i64 v] 1 (Nat.zero_le _) (by unfold maxLen; omega) rfl
      rw [World.size_alloc] at h
      exact h
    have nB1 : W2.heap.size ≤ ((W2.drew.alloc (.cells #[] 49)).alloc (.cells #[.bool true, .int .i64 v] 49)).heap.size := hdEO.size
    have hC1 : ((W2.drew.alloc (.cells #[.bool true, .int .i64 v] 49)).alloc (.cells #[] 49)).ownsRow W2.heap.size 49 2 (.slice (some ⟨W2.heap.size + 1, 0, none⟩) 0 0) 0 [] := by
      have h := World.ownsRow_lit (base := W2.heap.size) (e := 49) (size := 2) (W2.drew.alloc (.cells #[.bool true, .int .i64 v] 49)) #[] 0 hdO.size (Nat.zero_le _) rfl
      rw [World.size_alloc] at h
      exact h
    have sC1 : ((W2.drew.alloc (.cells #[.bool true, .int .i64 v] 49)).alloc (.cells #[] 49)).ownsRow 0 49 2 (.slice A cs.length c) cs.length (Ar.slots cs) := own_below hown hdOE
    have oC1 : ((W2.drew.alloc (.cells #[.bool true, .int .i64 v] 49)).alloc (.cells #[] 49)).ownsRow 0 49 2 (.slice (some ⟨W2.heap.size, 0, none⟩) 1 1) 1 [.bool true, .int .i64 v] :=
      (World.ownsRow_lit (base := 0) (e := 49) (size := 2) W2.drew #[.bool true, .int .i64 v] 1 (Nat.zero_le _) (by unfold maxLen; omega) rfl).alloc _
    have nC1 : W2.heap.size ≤ ((W2.drew.alloc (.cells #[.bool true, .int .i64 v] 49)).alloc (.cells #[] 49)).heap.size := hdOE.size
    have hone : ∀ u ∈ ([.bool true, .int .i64 v] : List Value), u.oneCell' = true := by intro u hu; simp at hu; rcases hu with rfl | rfl <;> rfl
    have mA1 : Whole (W2.drew.alloc (.cells #[] 49)) w.heap.size #[.int .i64 b, .int .i64 s, .slice A cs.length c, .slice Af 0 cf] 33 := m2d.alloc _
    have mB1 : Whole ((W2.drew.alloc (.cells #[] 49)).alloc (.cells #[.bool true, .int .i64 v] 49)) w.heap.size #[.int .i64 b, .int .i64 s, .slice A cs.length c, .slice Af 0 cf] 33 := mA1.alloc _
    have mC0 : Whole (W2.drew.alloc (.cells #[.bool true, .int .i64 v] 49)) w.heap.size #[.int .i64 b, .int .i64 s, .slice A cs.length c, .slice Af 0 cf] 33 := m2d.alloc _
    have mC1 : Whole ((W2.drew.alloc (.cells #[.bool true, .int .i64 v] 49)).alloc (.cells #[] 49)) w.heap.size #[.int .i64 b, .int .i64 s, .slice A cs.length c, .slice Af 0 cf] 33 := mC0.alloc _
    have hcl : I64 (cs.length : Int) := by constructor <;> omega
    go_region_held3 (fun W => W.cell? ⟨w.heap.size, 0, none⟩ = some (.int .i64 b) ∧ W.cell? ⟨w.heap.size, 1, none⟩ = some (.int .i64 s) ∧ W.cell? ⟨w.heap.size, 2, none⟩ = some (.slice A cs.length c))
      (first | (refine ⟨?_, ?_, ?_⟩ <;> (go_simp; done)) | exact S_model mA1 | exact S_model mB1 | exact S_model mC0 | exact S_model mC1 | exact S_model m2d | exact S_model m5 | exact S_model m8 | exact S_model m9 | exact S_model m14)
      (first
        | (refine step_append_src rfl (.tmp 20) (.tmp 22) 31 rfl W2.heap.size 0 49 i1 (.agg #[.bool false, .int .i64 0]) 2 16 Try.underlying31 hi1 hy0 hy1 hy2 rfl (by decide) (.slice (some ⟨W2.heap.size, 0, none⟩) 0 0) 0 [] (by simp [Act.eval]) hA1 (.slice A cs.length c) cs.length (Ar.slots cs) (by simp [Act.eval]) sA1 (slots_one cs) (by unfold maxLen; omega) (by omega) (by assumption) ?_; intro v5 w5 o5 g5 f5; have m5 : Whole w5 w.heap.size #[.int .i64 b, .int .i64 s, .slice A cs.length c, .slice Af 0 cf] 33 := (m2d.alloc (.cells #[] 49)).grown g5 (by simp [Value.ownBlock]; omega); have r5 : Whole w5 (w.heap.size + 1) #[.int .i64 0, .int .i64 0, .slice none 0 0, .slice none 0 0] 33 := (r2d.alloc (.cells #[] 49)).grown g5 (by simp [Value.ownBlock]; omega); have hb5 : Below W2.heap.size W2 w5 := hdE.grown g5 nA1 (fun j hj => by simp [Value.ownBlock] at hj; omega); have h9 : (w5.alloc (.cells #[.bool true, .int .i64 v] 49)).ownsRow W2.heap.size 49 2 v5 (0 + cs.length) ([] ++ Ar.slots cs) := o5.alloc _; have s9 : (w5.alloc (.cells #[.bool true, .int .i64 v] 49)).ownsRow 0 49 2 (.slice (some ⟨w5.heap.size, 0, none⟩) 1 1) 1 [.bool true, .int .i64 v] := World.ownsRow_lit (base := 0) (e := 49) (size := 2) w5 #[.bool true, .int .i64 v] 1 (Nat.zero_le _) (by unfold maxLen; omega) rfl; have hb8 : Below W2.heap.size W2 (w5.alloc (.cells #[.bool true, .int .i64 v] 49)) := hb5.alloc hb5.size _; have m8 := m5.alloc (.cells #[.bool true, .int .i64 v] 49); have r8 := r5.alloc (.cells #[.bool true, .int .i64 v] 49); have n9 : W2.heap.size ≤ (w5.alloc (.cells #[.bool true, .int .i64 v] 49)).heap.size := hb8.size)
        | (refine step_append_src rfl (.tmp 20) (.tmp 22) 31 rfl W2.heap.size 0 49 i1 (.agg #[.bool false, .int .i64 0]) 2 16 Try.underlying31 hi1 hy0 hy1 hy2 rfl (by decide) (.slice (some ⟨W2.heap.size, 0, none⟩) 0 0) 0 [] (by simp [Act.eval]) hB1 (.slice A cs.length c) cs.length (Ar.slots cs) (by simp [Act.eval]) sB1 (slots_one cs) (by unfold maxLen; omega) (by omega) (by assumption) ?_; intro v5 w5 o5 g5 f5; have m5 : Whole w5 w.heap.size #[.int .i64 b, .int .i64 s, .slice A cs.length c, .slice Af 0 cf] 33 := ((m2d.alloc (.cells #[] 49)).alloc (.cells #[.bool true, .int .i64 v] 49)).grown g5 (by simp [Value.ownBlock]; omega); have m8 := m5; have r8 : Whole w5 (w.heap.size + 1) #[.int .i64 0, .int .i64 0, .slice none 0 0, .slice none 0 0] 33 := ((r2d.alloc (.cells #[] 49)).alloc (.cells #[.bool true, .int .i64 v] 49)).grown g5 (by simp [Value.ownBlock]; omega); have hb8 : Below W2.heap.size W2 w5 := hdEO.grown g5 nB1 (fun j hj => by simp [Value.ownBlock] at hj; omega); have h9 : w5.ownsRow W2.heap.size 49 2 v5 (0 + cs.length) ([] ++ Ar.slots cs) := o5; have s9 : w5.ownsRow 0 49 2 (.slice (some ⟨W2.heap.size + 1, 0, none⟩) 1 1) 1 [.bool true, .int .i64 v] := oB1.kept g5 (.inr (by simp [Value.ownBlock])); have n9 : W2.heap.size ≤ w5.heap.size := hb8.size)
        | (refine step_append_src rfl (.tmp 20) (.tmp 22) 31 rfl W2.heap.size 0 49 i1 (.agg #[.bool false, .int .i64 0]) 2 16 Try.underlying31 hi1 hy0 hy1 hy2 rfl (by decide) (.slice (some ⟨W2.heap.size + 1, 0, none⟩) 0 0) 0 [] (by simp [Act.eval]) hC1 (.slice A cs.length c) cs.length (Ar.slots cs) (by simp [Act.eval]) sC1 (slots_one cs) (by unfold maxLen; omega) (by omega) (by assumption) ?_; intro v5 w5 o5 g5 f5; have m5 : Whole w5 w.heap.size #[.int .i64 b, .int .i64 s, .slice A cs.length c, .slice Af 0 cf] 33 := ((m2d.alloc (.cells #[.bool true, .int .i64 v] 49)).alloc (.cells #[] 49)).grown g5 (by simp [Value.ownBlock]; omega); have m8 := m5; have r8 : Whole w5 (w.heap.size + 1) #[.int .i64 0, .int .i64 0, .slice none 0 0, .slice none 0 0] 33 := ((r2d.alloc (.cells #[.bool true, .int .i64 v] 49)).alloc (.cells #[] 49)).grown g5 (by simp [Value.ownBlock]; omega); have hb8 : Below W2.heap.size W2 w5 := hdOE.grown g5 nC1 (fun j hj => by simp [Value.ownBlock] at hj; omega); have h9 : w5.ownsRow W2.heap.size 49 2 v5 (0 + cs.length) ([] ++ Ar.slots cs) := o5; have s9 : w5.ownsRow 0 49 2 (.slice (some ⟨W2.heap.size, 0, none⟩) 1 1) 1 [.bool true, .int .i64 v] := oC1.kept g5 (.inr (by simp [Value.ownBlock])); have n9 : W2.heap.size ≤ w5.heap.size := hb8.size)
        | (refine step_append_src rfl (.tmp 23) (.tmp 26) 31 rfl W2.heap.size 0 49 i1 (.agg #[.bool false, .int .i64 0]) 2 16 Try.underlying31 hi1 hy0 hy1 hy2 rfl (by decide) v5 (0 + cs.length) ([] ++ Ar.slots cs) (by simp [Act.eval]) h9 _ 1 [.bool true, .int .i64 v] (by simp [Act.eval]) s9 hone (by unfold maxLen; omega) (by omega) (by assumption) ?_; intro v9 w9 o9 g9 f9; obtain ⟨A9, c9, rfl⟩ := own_slice (own_zero o9); have m9 : Whole w9 w.heap.size #[.int .i64 b, .int .i64 s, .slice A cs.length c, .slice Af 0 cf] 33 := m8.grown g9 (own_far h9 hlt2); have r9 : Whole w9 (w.heap.size + 1) #[.int .i64 0, .int .i64 0, .slice none 0 0, .slice none 0 0] 33 := r8.grown g9 (own_far h9 hlr2); have hb9 : Below W2.heap.size W2 w9 := hb8.grown g9 hb8.size (fun j hj => (h9.lt j hj).1))
        | (go_at_call 26; refine (rhandle_any b s cs.length _ hcl).mono ?_; rintro e w14 ⟨rfl, hb14⟩; have m14 := Whole.below m9 hb14 m9.lt; have q0 : w14.cell? ⟨w.heap.size, 0, none⟩ = some (.int .i64 b) := m14.cell 0; have q1 : w14.cell? ⟨w.heap.size, 1, none⟩ = some (.int .i64 s) := m14.cell 1; have q2 : w14.cell? ⟨w.heap.size, 2, none⟩ = some (.slice A cs.length c) := m14.cell 2; have r14 := Whole.below r9 hb14 r9.lt; have k0 : w14.cell? ⟨w.heap.size + 1, 0, none⟩ = some (.int .i64 0) := r14.cell 0; have k1 : w14.cell? ⟨w.heap.size + 1, 1, none⟩ = some (.int .i64 0) := r14.cell 1; have k2 : w14.cell? ⟨w.heap.size + 1, 2, none⟩ = some (.slice none 0 0) := r14.cell 2; have k3 : w14.cell? ⟨w.heap.size + 1, 3, none⟩ = some (.slice none 0 0) := r14.cell 3; have z0 := r14.free 0; have z1 := r14.free 1; have z2 := r14.free 2; have z3 := r14.free 3; clear hA1 sA1 nA1 hB1 sB1 oB1 nB1 hC1 sC1 oC1 nC1 hdE hdO hdEO hdOE hone h9 s9 g9 f9 g5 f5 o5 m8 r8 n9))
    all_goals
      obtain ⟨W5, hW5, r5', g5'⟩ := box4 r14 (.int .i64 b) (.int .i64 s) (.slice A9 (0 + cs.length + 1) c9) (.slice none 0 0)
      first | rw [hW5] | (simp only [Nat.zero_add] at hW5; rw [hW5])
      simp only [Nat.zero_add] at r5' o9
      have c50 : W5.cell? ⟨w.heap.size + 1, 0, none⟩ = some (.int .i64 b) := r5'.cell 0
      have c51 : W5.cell? ⟨w.heap.size + 1, 1, none⟩ = some (.int .i64 s) := r5'.cell 1
      have c52 : W5.cell? ⟨w.heap.size + 1, 2, none⟩ = some (.slice A9 (cs.length + 1) c9) := r5'.cell 2
      have c53 : W5.cell? ⟨w.heap.size + 1, 3, none⟩ = some (.slice none 0 0) := r5'.cell 3
      have hB14 : Below w.heap.size w w14 := hB2.trans ((hb9.trans (hb14.mono hb9.size)).mono hB2.size)
      have hB5 : Below w.heap.size w W5 := hB14.grown g5' hB14.size (fun j hj => by simp at hj; omega)
      have o14 := own_below (own_zero o9) hb14
      clear k0 k1 k2 k3 z0 z1 z2 z3 q0 q1 q2
      go_wp2_with fail
      refine bodyPost_ret (v := .tuple #[modelV b s (.slice A9 (cs.length + 1) c9) (.slice none 0 0), .int .i64 (Ar.hdl b s cs.length)]) ?_ rfl ⟨_, _, by rw [HADD.out], ?_, NewOr.nil _ _, hB5⟩
      · simp [results, Try.f14, go_sem, c50, c51, c52, c53]
      · rw [HADD.out]
        have f1 := o14.kept g5' (.inr (own_unlike o14 r14 (by decide)))
        refine ⟨?_, World.ownsRow_nil _ _ _ _⟩
        show W5.ownsRow 0 _ 2 _ (cs ++ [some v]).length (Ar.slots (cs ++ [some v]))
        rw [Ar.slots_append, List.length_append]
        exact f1
  · obtain ⟨L, i, rfl⟩ : ∃ L i, fr = L ++ [i] := ⟨fr.dropLast, fr.getLast hz, (List.dropLast_concat_getLast hz).symm⟩
    have hadd : Ar.add cs (L ++ [i]) v = (cs.set i (some v), L, i) := by unfold Ar.add; simp
    have hil : i < cs.length := (List.getElem?_eq_some_iff.1 (hok.2 i (by simp))).1
    have HADD := Lib.hid hadd
    clear hadd hok hz
    rw [List.length_append, List.length_singleton] at hf
    have hfl : (L ++ [i]).length = L.length + 1 := by simp
    rw [hfl]
    obtain ⟨m, hmL⟩ : ∃ m, L.length = m := ⟨_, rfl⟩
    rw [hmL] at hf ⊢
    have hm1 : MR w (.slice A cs.length c) (.slice Af (m + 1) cf) cs (L ++ [i]) := by rw [← hmL, ← hfl]; exact hm
    clear hm
    obtain ⟨W2, hW2⟩ : ∃ W2, (w.alloc (.cells #[.int .i64 b, .int .i64 s, .slice A cs.length c, .slice Af (m + 1) cf] 33)).alloc (.cells #[.int .i64 0, .int .i64 0, .slice none 0 0, .slice none 0 0] 33) = W2 := ⟨_, rfl⟩
    have hB2 : Below w.heap.size w W2 := by rw [← hW2]; exact ((Below.refl _ w).alloc (Nat.le_refl _) _).alloc (by simp) _
    have m2 : Whole W2 w.heap.size #[.int .i64 b, .int .i64 s, .slice A cs.length c, .slice Af (m + 1) cf] 33 := by rw [← hW2]; exact (Whole.new w _ _).alloc _
    have r2 : Whole W2 (w.heap.size + 1) #[.int .i64 0, .int .i64 0, .slice none 0 0, .slice none 0 0] 33 := by
      have h := Whole.new (w.alloc (.cells #[.int .i64 b, .int .i64 s, .slice A cs.length c, .slice Af (m + 1) cf] 33)) #[.int .i64 0, .int .i64 0, .slice none 0 0, .slice none 0 0] 33
      rw [World.size_alloc] at h
      rw [← hW2]; exact h
    have a0 : W2.cell? ⟨w.heap.size, 0, none⟩ = some (.int .i64 b) := m2.cell 0
    have a1 : W2.cell? ⟨w.heap.size, 1, none⟩ = some (.int .i64 s) := m2.cell 1
    have a2 : W2.cell? ⟨w.heap.size, 2, none⟩ = some (.slice A cs.length c) := m2.cell 2
    have a3 : W2.cell? ⟨w.heap.size, 3, none⟩ = some (.slice Af (m + 1) cf) := m2.cell 3
    have hs2 : W2.heap.size = w.heap.size + 2 := by rw [← hW2]; simp
    have hm2 := hm1.below hB2
    have hfl2 := hm2.2
    rw [hfl, hmL] at hfl2
    obtain ⟨g, hg, hgl, hgc⟩ := own_cells hfl2 (by omega)
    subst hg
    have hci : W2.cell? ⟨g, m, none⟩ = some (.int .i64 (i : Int)) := hgc m _ (by rw [← hmL]; simp [Ar.nums])
    clear hgc
    have HM2 := Lib.hid hm2
    have HF2 := Lib.hid hfl2
    clear hm2 hfl2 hm1
    have hs2' := hs2
    have HML := Lib.hid hmL
    clear hmL hfl
    go_wp2_with fail
    refine (rwith_any b s i (some v) _ _ cs (L ++ [i]) W2 HM2.out hl hil).mono ?_
    rintro e W4 ⟨vc4, rfl, hm4, hb4⟩
    obtain ⟨A4, c4, rfl⟩ := own_slice hm4.1
    rw [List.length_set] at hm4 ⊢
    have hs4 := hb4.size
    have hB4 : Below w.heap.size w W4 := hB2.trans (hb4.mono hB2.size)
    have m4 := m2.below hb4 m2.lt
    have r4 := r2.below hb4 r2.lt
    obtain ⟨W6, hW6⟩ : ∃ W6, (W4.alloc (.cells #[.int .i64 b, .int .i64 s, .slice A4 cs.length c4, .slice (some ⟨g, 0, none⟩) (m + 1) cf] 33)).alloc (.cells #[] 3) = W6 := ⟨_, rfl⟩
    have hb6 : Below W4.heap.size W4 W6 := by rw [← hW6]; exact ((Below.refl _ W4).alloc (Nat.le_refl _) _).alloc (by simp) _
    have hs6 : W6.heap.size = W4.heap.size + 2 := by rw [← hW6]; simp
    have t6 : Whole W6 W4.heap.size #[.int .i64 b, .int .i64 s, .slice A4 cs.length c4, .slice (some ⟨g, 0, none⟩) (m + 1) cf] 33 := by rw [← hW6]; exact (Whole.new W4 _ _).alloc _
    have e6 : W6.ownsRow (W4.heap.size + 1) 3 1 (.slice (some ⟨W4.heap.size + 1, 0, none⟩) 0 0) 0 [] := by
      have h := World.ownsRow_lit (base := W4.heap.size + 1) (e := 3) (size := 1) (W4.alloc (.cells #[.int .i64 b, .int .i64 s, .slice A4 cs.length c4, .slice (some ⟨g, 0, none⟩) (m + 1) cf] 33)) #[] 0 (by simp) (Nat.zero_le _) rfl
      rw [hW6] at h
      simpa using h
    have hF4 := own_below HF2.out hb4
    have s6 : W6.ownsRow 0 3 1 (.slice (some ⟨g, 0, none⟩) m cf) m (Ar.nums L) := by
      have h := own_prefix (own_below hF4 hb6) m (by omega)
      have e : (Ar.nums (L ++ [i])).take (m * 1) = Ar.nums L := by rw [Ar.nums_append, Nat.mul_one]; exact List.take_left' (by simp [Ar.nums, HML.out])
      rw [e] at h
      exact h
    have hcap : m + 1 ≤ cf := own_cap hF4
    have m6 := m4.below hb6 m4.lt
    have r6 := r4.below hb6 r4.lt
    have n3 : W6.cell? ⟨w.heap.size, 3, none⟩ = some (.slice (some ⟨g, 0, none⟩) (m + 1) cf) := m6.cell 3
    have HA0 := Lib.hid a0
    clear hW2 a0 a1 a2 a3 hci hF4
    go_wp2_with (at_builtin; refine wpList_append_src rfl _ _ 27 rfl (W4.heap.size + 1) 0 3 i0 (.int .i64 0) 1 8 Try.underlying27 hi0 hz0 hz1 hz2 rfl (by decide) _ 0 [] rfl e6 _ m (Ar.nums L) rfl s6 (nums_one L) ?c3 ?c4 ?c5 ?_)
    case c3 => unfold maxLen; omega
    case c4 => omega
    case c5 => omega
    intro v9 w9 o9 g9 _
    obtain ⟨A9, c9, rfl⟩ := own_slice (own_zero o9)
    have HNW : NewOr w (.slice (some ⟨g, 0, none⟩) (m + 1) cf) (.slice A9 m c9) := NewOr.of_own o9 (by have := hB4.size; omega)
    have hs9 := g9.size
    have hB9 : Below (W4.heap.size + 1) W6 w9 := (Below.refl _ W6).grown g9 (by omega) (fun j hj => by simp [Value.ownBlock] at hj; omega)
    have hB49 : Below W4.heap.size W4 w9 := hb6.trans (hB9.mono (by omega))
    have t9 := t6.below hB9 (by omega)
    have t90 := t9.free 3
    have t93 : w9.cell? ⟨W4.heap.size, 3, none⟩ = some (.slice (some ⟨g, 0, none⟩) (m + 1) cf) := t9.cell 3
    obtain ⟨W10, hW10⟩ : ∃ W10, w9.setCell ⟨W4.heap.size, 3, none⟩ (.slice A9 m c9) = W10 := ⟨_, rfl⟩
    have t10 : Whole W10 W4.heap.size #[.int .i64 b, .int .i64 s, .slice A4 cs.length c4, .slice A9 m c9] 33 := by rw [← hW10]; exact t9.put 3 _
    have g10 : w9.grownBy W10 (some W4.heap.size) := by rw [← hW10]; exact gb_put (gb_of_below (Below.refl w9.heap.size w9) _) 3 _
    have hs10 := g10.size
    have d0 : W10.cell? ⟨W4.heap.size, 0, none⟩ = some (.int .i64 b) := t10.cell 0
    have d1 : W10.cell? ⟨W4.heap.size, 1, none⟩ = some (.int .i64 s) := t10.cell 1
    have d2 : W10.cell? ⟨W4.heap.size, 2, none⟩ = some (.slice A4 cs.length c4) := t10.cell 2
    have d3 : W10.cell? ⟨W4.heap.size, 3, none⟩ = some (.slice A9 m c9) := t10.cell 3
    have hB10 : Below W4.heap.size W4 W10 := hB49.grown g10 (by omega) (fun j hj => by simp at hj; omega)
    have r10 := r4.below hB10 r4.lt
    have m10 := m4.below hB10 m4.lt
    have y0 : W10.cell? ⟨w.heap.size, 0, none⟩ = some (.int .i64 b) := m10.cell 0
    have y1 : W10.cell? ⟨w.heap.size, 1, none⟩ = some (.int .i64 s) := m10.cell 1
    have k0 : W10.cell? ⟨w.heap.size + 1, 0, none⟩ = some (.int .i64 0) := r10.cell 0
    have k1 : W10.cell? ⟨w.heap.size + 1, 1, none⟩ = some (.int .i64 0) := r10.cell 1
    have k2 : W10.cell? ⟨w.heap.size + 1, 2, none⟩ = some (.slice none 0 0) := r10.cell 2
    have k3 : W10.cell? ⟨w.heap.size + 1, 3, none⟩ = some (.slice none 0 0) := r10.cell 3
    have z0 := r10.free 0
    have z1 := r10.free 1
    have z2 := r10.free 2
    have z3 := r10.free 3
    have o10 : W10.ownsRow 0 3 1 (.slice A9 m c9) m (Ar.nums L) := own_zero (o9.kept g10 (.inr (own_unlike o9 t9 (by decide))))
    clear n3 hW6 s6 e6 m6 r6
    go_wp2_with fail
    have hii : I64 (i : Int) := by constructor <;> omega
    go_region_with (go_at_call 26; refine (rhandle_any b s i W10.drew hii).mono ?_; rintro e w11 ⟨rfl, hb11⟩; have r11 := Whole.below (w := W10.drew) r10 hb11 r10.lt; have t11 := Whole.below (w := W10.drew) t10 hb11 t10.lt; have e0 : w11.cell? ⟨W4.heap.size, 0, none⟩ = some (.int .i64 b) := t11.cell 0; have e1 : w11.cell? ⟨W4.heap.size, 1, none⟩ = some (.int .i64 s) := t11.cell 1; have e2 : w11.cell? ⟨W4.heap.size, 2, none⟩ = some (.slice A4 cs.length c4) := t11.cell 2; have e3 : w11.cell? ⟨W4.heap.size, 3, none⟩ = some (.slice A9 m c9) := t11.cell 3; have f0 : w11.cell? ⟨w.heap.size + 1, 0, none⟩ = some (.int .i64 0) := r11.cell 0; have f1 : w11.cell? ⟨w.heap.size + 1, 1, none⟩ = some (.int .i64 0) := r11.cell 1; have f2 : w11.cell? ⟨w.heap.size + 1, 2, none⟩ = some (.slice none 0 0) := r11.cell 2; have f3 : w11.cell? ⟨w.heap.size + 1, 3, none⟩ = some (.slice none 0 0) := r11.cell 3; have x0 := r11.free 0; have x1 := r11.free 1; have x2 := r11.free 2; have x3 := r11.free 3)
    all_goals
      obtain ⟨W5, hW5, r5, g5⟩ := box4 r11 (.int .i64 b) (.int .i64 s) (.slice A4 cs.length c4) (.slice A9 m c9)
      rw [hW5]
      have c50 : W5.cell? ⟨w.heap.size + 1, 0, none⟩ = some (.int .i64 b) := r5.cell 0
      have c51 : W5.cell? ⟨w.heap.size + 1, 1, none⟩ = some (.int .i64 s) := r5.cell 1
      have c52 : W5.cell? ⟨w.heap.size + 1, 2, none⟩ = some (.slice A4 cs.length c4) := r5.cell 2
      have c53 : W5.cell? ⟨w.heap.size + 1, 3, none⟩ = some (.slice A9 m c9) := r5.cell 3
      have hbd : Below W10.heap.size W10 w11 := Below.trans (b := W10.drew) ⟨rfl, rfl, rfl, Nat.le_refl _, fun _ _ => rfl⟩ hb11
      have hB11 : Below W4.heap.size W4 w11 := hB10.trans (hbd.mono hB10.size)
      have hB5 : Below w.heap.size w W5 := (hB4.trans (hB11.mono hB4.size)).grown g5 (hB4.trans (hB11.mono hB4.size)).size (fun j hj => by simp at hj; omega)
      have o11 := own_below o10 hbd
      clear e0 e1 e2 e3 f0 f1 f2 f3 x0 x1 x2 x3 k0 k1 k2 k3 z0 z1 z2 z3 d0 d1 d2 d3 y0 y1 hW10
      go_wp2_with fail
      refine bodyPost_ret (v := .tuple #[modelV b s (.slice A4 cs.length c4) (.slice A9 m c9), .int .i64 (Ar.hdl b s i)]) ?_ rfl ⟨_, _, by rw [HADD.out], ?_, HNW, hB5⟩
      · simp [results, Try.f14, go_sem, c50, c51, c52, c53]
      · rw [HADD.out]
        have f1 := (own_below hm4.1 hB11).kept g5 (.inr (own_unlike (own_below hm4.1 hB11) r11 (by decide)))
        have f2 := o11.kept g5 (.inr (own_unlike o11 r11 (by decide)))
        refine ⟨?_, ?_⟩
        · show W5.ownsRow 0 _ 2 _ (cs.set i (some v)).length _
          rw [List.length_set] at f1 ⊢; exact f1
        · show W5.ownsRow 0 _ 1 _ L.length _
          rw [HML.out]; exact f2
end Go.Proofs.Ythocodmniofioaa
