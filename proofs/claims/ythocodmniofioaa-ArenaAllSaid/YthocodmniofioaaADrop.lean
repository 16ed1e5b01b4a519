/- The reference's model without a number. -/
import Derived.Test.YthocodmniofioaaASet
import Derived.Test.YthocodmniofioaaAApp
namespace Go.Proofs.Ythocodmniofioaa
open Go.RowKit

theorem nums_one (fr : List Nat) : ∀ u ∈ Ar.nums fr, u.oneCell' = true := by
  intro u hu
  obtain ⟨i, _, rfl⟩ := List.mem_map.1 hu
  rfl

set_option maxRecDepth 100000 in
set_option maxHeartbeats 1000000 in
theorem rdrop_any (b s h : Int) (vc vf : Value) (cs : List (Option Int)) (fr : List Nat) (w : World) (hh : I64 h) (hm : MR w vc vf cs fr) (hl : cs.length ≤ 10000) (hf : fr.length ≤ 10000) :
    Calls Try.prog 18 #[modelV b s vc vf, .int .i64 h] w fun e w' => ∃ v u, e = .returned (.tuple #[modelV b s v u, .bool (Ar.has b s cs h).isSome]) ∧ MR w' v u (Ar.drop b s cs fr h).1 (Ar.drop b s cs fr h).2 ∧ NewOr w vf u ∧ Below w.heap.size w w' := by
  obtain ⟨Af, cf, rfl⟩ := own_slice hm.2
  obtain ⟨A, c, rfl⟩ := own_slice hm.1
  obtain ⟨W2, hW2⟩ : ∃ W2, (w.alloc (.cells #[.int .i64 b, .int .i64 s, .slice A cs.length c, .slice Af fr.length cf] 33)).alloc (.cells #[.int .i64 0, .int .i64 0, .slice none 0 0, .slice none 0 0] 33) = W2 := ⟨_, rfl⟩
  have hB2 : Below w.heap.size w W2 := by rw [← hW2]; exact ((Below.refl _ w).alloc (Nat.le_refl _) _).alloc (by simp) _
  have m2 : Whole W2 w.heap.size #[.int .i64 b, .int .i64 s, .slice A cs.length c, .slice Af fr.length cf] 33 := by rw [← hW2]; exact (Whole.new w _ _).alloc _
  have r2 : Whole W2 (w.heap.size + 1) #[.int .i64 0, .int .i64 0, .slice none 0 0, .slice none 0 0] 33 := by
    have h := Whole.new (w.alloc (.cells #[.int .i64 b, .int .i64 s, .slice A cs.length c, .slice Af fr.length cf] 33)) #[.int .i64 0, .int .i64 0, .slice none 0 0, .slice none 0 0] 33
    rw [World.size_alloc] at h
    rw [← hW2]; exact h
  have a0 : W2.cell? ⟨w.heap.size, 0, none⟩ = some (.int .i64 b) := m2.cell 0
  have a1 : W2.cell? ⟨w.heap.size, 1, none⟩ = some (.int .i64 s) := m2.cell 1
  have a2 : W2.cell? ⟨w.heap.size, 2, none⟩ = some (.slice A cs.length c) := m2.cell 2
  have a3 : W2.cell? ⟨w.heap.size, 3, none⟩ = some (.slice Af fr.length cf) := m2.cell 3
  have hs2 : W2.heap.size = w.heap.size + 2 := by rw [← hW2]; simp
  have hm2 := hm.below hB2
  go_enter Try.func18, Try.ntmps18
  go_wp2_with fail
  refine (rhas_any b s h _ _ cs fr W2 hh hm2 hl).mono ?_
  rintro e W3 ⟨rfl, hb3⟩
  have m3 := m2.below hb3 m2.lt
  have r3 := r2.below hb3 r2.lt
  have hB3 : Below w.heap.size w W3 := hB2.trans (hb3.mono (by omega))
  have hs3 := hb3.size
  have hm3 := hm2.below hb3
  have b0 : W3.cell? ⟨w.heap.size, 0, none⟩ = some (.int .i64 b) := m3.cell 0
  have b1 : W3.cell? ⟨w.heap.size, 1, none⟩ = some (.int .i64 s) := m3.cell 1
  have b2 : W3.cell? ⟨w.heap.size, 2, none⟩ = some (.slice A cs.length c) := m3.cell 2
  have b3 : W3.cell? ⟨w.heap.size, 3, none⟩ = some (.slice Af fr.length cf) := m3.cell 3
  clear hW2 a0 a1 a2 a3
  rcases hasI_cases b s cs h with ⟨i, e1, e2, e3⟩ | ⟨e1, e2⟩
  · have hst : Ar.drop b s cs fr h = (cs.set i none, fr ++ [i]) := by unfold Ar.drop; rw [e1]
    obtain ⟨i0, hi0, hz0, hz1, hz2⟩ := info_parts intInfo
    rw [e2]
    have HS := Lib.hid hst
    have HE := Lib.hid e1
    have HM := Lib.hid hm
    clear hst e1 e2 hm hm2
    have q : ¬ (i : Int) < 0 := by omega
    go_wp2_with fail
    refine (rwith_any b s i none _ _ cs fr W3 hm3 hl e3).mono ?_
    rintro e W4 ⟨v, rfl, hm4, hb4⟩
    obtain ⟨A4, c4, rfl⟩ := own_slice hm4.1
    rw [List.length_set] at hm4 ⊢
    have hs4 := hb4.size
    have hB4 : Below w.heap.size w W4 := hB3.trans (hb4.mono hB3.size)
    have m4 := m3.below hb4 m3.lt
    have r4 := r3.below hb4 r3.lt
    obtain ⟨W6, hW6⟩ : ∃ W6, (W4.alloc (.cells #[.int .i64 b, .int .i64 s, .slice A4 cs.length c4, .slice Af fr.length cf] 33)).alloc (.cells #[] 3) = W6 := ⟨_, rfl⟩
    have hb6 : Below W4.heap.size W4 W6 := by rw [← hW6]; exact ((Below.refl _ W4).alloc (Nat.le_refl _) _).alloc (by simp) _
    have hs6 : W6.heap.size = W4.heap.size + 2 := by rw [← hW6]; simp
    have t6 : Whole W6 W4.heap.size #[.int .i64 b, .int .i64 s, .slice A4 cs.length c4, .slice Af fr.length cf] 33 := by rw [← hW6]; exact (Whole.new W4 _ _).alloc _
    have e6 : W6.ownsRow (W4.heap.size + 1) 3 1 (.slice (some ⟨W4.heap.size + 1, 0, none⟩) 0 0) 0 [] := by
      have h := World.ownsRow_lit (base := W4.heap.size + 1) (e := 3) (size := 1) (W4.alloc (.cells #[.int .i64 b, .int .i64 s, .slice A4 cs.length c4, .slice Af fr.length cf] 33)) #[] 0 (by simp) (Nat.zero_le _) rfl
      rw [hW6] at h
      simpa using h
    have s6 : W6.ownsRow 0 3 1 (.slice Af fr.length cf) fr.length (Ar.nums fr) := own_below hm4.2 hb6
    have m6 := m4.below hb6 m4.lt
    have r6 := r4.below hb6 r4.lt
    have n3 : W6.cell? ⟨w.heap.size, 3, none⟩ = some (.slice Af fr.length cf) := m6.cell 3
    go_wp2_with (at_builtin; refine wpList_append_src rfl _ _ 27 rfl (W4.heap.size + 1) 0 3 i0 (.int .i64 0) 1 8 Try.underlying27 hi0 hz0 hz1 hz2 rfl (by decide) _ 0 [] rfl e6 _ fr.length (Ar.nums fr) rfl s6 (nums_one fr) ?c3 ?c4 ?c5 ?_)
    case c3 => unfold maxLen; omega
    case c4 => omega
    case c5 => omega
    intro v7 w7 o7 g7 _
    have hs7 := g7.size
    have hB7 : Below (W4.heap.size + 1) W6 w7 := (Below.refl _ W6).grown g7 (by omega) (fun j hj => by simp [Value.ownBlock] at hj; omega)
    obtain ⟨W8, hW8⟩ : ∃ W8, w7.alloc (.cells #[.int .i64 (i : Int)] 3) = W8 := ⟨_, rfl⟩
    have hb8 : Below w7.heap.size w7 W8 := by rw [← hW8]; exact (Below.refl _ w7).alloc (Nat.le_refl _) _
    have hs8 : W8.heap.size = w7.heap.size + 1 := by rw [← hW8]; simp
    have s8 : W8.ownsRow 0 3 1 (.slice (some ⟨w7.heap.size, 0, none⟩) 1 1) 1 (Ar.nums [i]) := by
      have h := World.ownsRow_lit (base := 0) (e := 3) (size := 1) w7 #[.int .i64 (i : Int)] 1 (by simp) (by unfold maxLen; omega) rfl
      rw [hW8] at h
      exact h
    have o8 : W8.ownsRow (W4.heap.size + 1) 3 1 v7 fr.length (Ar.nums fr) := by rw [← hW8]; exact o7.alloc _
    have hB8 : Below (W4.heap.size + 1) W6 W8 := hB7.trans (hb8.mono (by omega))
    clear hm3
    go_wp2_with (at_builtin; refine wpList_append_src rfl _ _ 27 rfl (W4.heap.size + 1) 0 3 i0 (.int .i64 0) 1 8 Try.underlying27 hi0 hz0 hz1 hz2 rfl (by decide) _ fr.length (Ar.nums fr) rfl o8 _ 1 (Ar.nums [i]) rfl s8 (nums_one [i]) ?d3 ?d4 ?d5 ?_)
    case d3 => unfold maxLen; omega
    case d4 => omega
    case d5 => omega
    intro v9 w9 o9 g9 _
    obtain ⟨A9, c9, rfl⟩ := own_slice (own_zero o9)
    have HNW : NewOr w (.slice Af fr.length cf) (.slice A9 (fr.length + 1) c9) := NewOr.of_own o9 (by have := hB4.size; omega)
    have hs9 := g9.size
    have hB9 : Below (W4.heap.size + 1) W6 w9 := hB8.grown g9 (by omega) (fun j hj => (o8.lt j hj).1)
    have hB49 : Below W4.heap.size W4 w9 := hb6.trans (hB9.mono (by omega))
    have t9 := t6.below hB9 (by omega)
    have r9 := r4.below hB49 r4.lt
    have t90 := t9.free 3
    have t93 : w9.cell? ⟨W4.heap.size, 3, none⟩ = some (.slice Af fr.length cf) := t9.cell 3
    obtain ⟨W10, hW10⟩ : ∃ W10, w9.setCell ⟨W4.heap.size, 3, none⟩ (.slice A9 (fr.length + 1) c9) = W10 := ⟨_, rfl⟩
    have t10 : Whole W10 W4.heap.size #[.int .i64 b, .int .i64 s, .slice A4 cs.length c4, .slice A9 (fr.length + 1) c9] 33 := by rw [← hW10]; exact t9.put 3 (.slice A9 (fr.length + 1) c9)
    have g10 : w9.grownBy W10 (some W4.heap.size) := by rw [← hW10]; exact gb_put (gb_of_below (Below.refl w9.heap.size w9) _) 3 (.slice A9 (fr.length + 1) c9)
    have hs10 := g10.size
    have d0 : W10.cell? ⟨W4.heap.size, 0, none⟩ = some (.int .i64 b) := t10.cell 0
    have d1 : W10.cell? ⟨W4.heap.size, 1, none⟩ = some (.int .i64 s) := t10.cell 1
    have d2 : W10.cell? ⟨W4.heap.size, 2, none⟩ = some (.slice A4 cs.length c4) := t10.cell 2
    have d3 : W10.cell? ⟨W4.heap.size, 3, none⟩ = some (.slice A9 (fr.length + 1) c9) := t10.cell 3
    have hB10 : Below W4.heap.size W4 W10 := hB49.grown g10 (by omega) (fun j hj => by simp at hj; omega)
    have r10 := r4.below hB10 r4.lt
    have k0 : W10.cell? ⟨w.heap.size + 1, 0, none⟩ = some (.int .i64 0) := r10.cell 0
    have k1 : W10.cell? ⟨w.heap.size + 1, 1, none⟩ = some (.int .i64 0) := r10.cell 1
    have k2 : W10.cell? ⟨w.heap.size + 1, 2, none⟩ = some (.slice none 0 0) := r10.cell 2
    have k3 : W10.cell? ⟨w.heap.size + 1, 3, none⟩ = some (.slice none 0 0) := r10.cell 3
    have z0 := r10.free 0
    have z1 := r10.free 1
    have z2 := r10.free 2
    have z3 := r10.free 3
    have o10 : W10.ownsRow 0 3 1 (.slice A9 (fr.length + 1) c9) (fr.length + 1) (Ar.nums fr ++ Ar.nums [i]) := own_zero (o9.kept g10 (.inr (own_unlike o9 t9 (by decide))))
    clear b0 b1 b2 b3 hW8 hb8 o8 s8 o7 g7 hB7 hB8 m6 r6 s6 e6 m4
    clear hW6
    go_wp2_with fail
    obtain ⟨W5, hW5, r5, g5⟩ := box4 r10 (.int .i64 b) (.int .i64 s) (.slice A4 cs.length c4) (.slice A9 (fr.length + 1) c9)
    rw [hW5]
    have c50 : W5.cell? ⟨w.heap.size + 1, 0, none⟩ = some (.int .i64 b) := r5.cell 0
    have c51 : W5.cell? ⟨w.heap.size + 1, 1, none⟩ = some (.int .i64 s) := r5.cell 1
    have c52 : W5.cell? ⟨w.heap.size + 1, 2, none⟩ = some (.slice A4 cs.length c4) := r5.cell 2
    have c53 : W5.cell? ⟨w.heap.size + 1, 3, none⟩ = some (.slice A9 (fr.length + 1) c9) := r5.cell 3
    have hB5 : Below w.heap.size w W5 := (hB4.trans (hB10.mono hB4.size)).grown g5 (hB4.trans (hB10.mono hB4.size)).size (fun j hj => by simp at hj; omega)
    refine bodyPost_ret (v := .tuple #[modelV b s (.slice A4 cs.length c4) (.slice A9 (fr.length + 1) c9), .bool true]) ?_ rfl ⟨_, _, by rw [HE.out]; rfl, ?_, HNW, hB5⟩
    · simp [results, Try.f18, go_sem, c50, c51, c52, c53]
    · rw [HS.out]
      have f1 := (own_below hm4.1 hB10).kept g5 (.inr (own_unlike (own_below hm4.1 hB10) r10 (by decide)))
      have f2 := o10.kept g5 (.inr (own_unlike o10 r10 (by decide)))
      refine ⟨?_, ?_⟩
      · rw [List.length_set] at f1 ⊢; exact f1
      · rw [Ar.nums_append, List.length_append]; exact f2
  · have hst : Ar.drop b s cs fr h = (cs, fr) := by unfold Ar.drop; rw [e1]
    rw [e2]
    have HS := Lib.hid hst
    have HE := Lib.hid e1
    clear hst e1 e2 hm hm2
    have k0 : W3.cell? ⟨w.heap.size + 1, 0, none⟩ = some (.int .i64 0) := r3.cell 0
    have k1 : W3.cell? ⟨w.heap.size + 1, 1, none⟩ = some (.int .i64 0) := r3.cell 1
    have k2 : W3.cell? ⟨w.heap.size + 1, 2, none⟩ = some (.slice none 0 0) := r3.cell 2
    have k3 : W3.cell? ⟨w.heap.size + 1, 3, none⟩ = some (.slice none 0 0) := r3.cell 3
    have z0 := r3.free 0
    have z1 := r3.free 1
    have z2 := r3.free 2
    have z3 := r3.free 3
    go_wp2_with fail
    obtain ⟨W5, hW5, r5, g5⟩ := box4 r3 (.int .i64 b) (.int .i64 s) (.slice A cs.length c) (.slice Af fr.length cf)
    rw [hW5]
    have c50 : W5.cell? ⟨w.heap.size + 1, 0, none⟩ = some (.int .i64 b) := r5.cell 0
    have c51 : W5.cell? ⟨w.heap.size + 1, 1, none⟩ = some (.int .i64 s) := r5.cell 1
    have c52 : W5.cell? ⟨w.heap.size + 1, 2, none⟩ = some (.slice A cs.length c) := r5.cell 2
    have c53 : W5.cell? ⟨w.heap.size + 1, 3, none⟩ = some (.slice Af fr.length cf) := r5.cell 3
    have hB5 : Below w.heap.size w W5 := hB3.grown g5 hB3.size (fun j hj => by simp at hj; omega)
    refine bodyPost_ret (v := .tuple #[modelV b s (.slice A cs.length c) (.slice Af fr.length cf), .bool false]) ?_ rfl ⟨_, _, by rw [HE.out]; rfl, ?_, NewOr.same _ _, hB5⟩
    · simp [results, Try.f18, go_sem, c50, c51, c52, c53]
    · rw [HS.out]
      exact hm3.grown g5 r3

end Go.Proofs.Ythocodmniofioaa
