/- The reference's model with another number, and an operation's handle. -/
import Derived.Test.YthocodmniofioaaAWith
namespace Go.Proofs.Ythocodmniofioaa
open Go.RowKit

/-- A variable of four cells that is given a model. -/
theorem box4 {W : World} {B : Nat} {x0 x1 x2 x3 : Value} {T : TypeId} (r : Whole W B #[x0, x1, x2, x3] T) (y0 y1 y2 y3 : Value) :
    ∃ W', (((W.setCell ⟨B, 0, none⟩ y0).setCell ⟨B, 1, none⟩ y1).setCell ⟨B, 2, none⟩ y2).setCell ⟨B, 3, none⟩ y3 = W' ∧ Whole W' B #[y0, y1, y2, y3] T ∧ W.grownBy W' (some B) :=
  ⟨_, rfl, (((r.put 0 y0).put 1 y1).put 2 y2).put 3 y3, gb_put (gb_put (gb_put (gb_put (gb_of_below (Below.refl W.heap.size W) (some B)) 0 y0) 1 y1) 2 y2) 3 y3⟩
theorem own_unlike {W : World} {B base size : Nat} {e T : TypeId} {cs : Array Value} {v : Value} {n : Nat} {xs : List Value} (h : W.ownsRow base e size v n xs) (hb : Whole W B cs T) (hn : e ≠ T) : v.ownBlock ≠ some B := by
  rcases h.2 with ⟨rfl, _⟩ | ⟨g, cap, cur, rfl, _, hg, _⟩
  · simp [Value.ownBlock]
  · intro x
    have x' : g = B := by simpa [Value.ownBlock] using x
    exact Whole.unlike (cs := cur) (t := e) (show Whole W g cur e from hg) hb hn x'
theorem MR.grown {W W' : World} {B : Nat} {cs0 : Array Value} {vc vf : Value} {cs : List (Option Int)} {fr : List Nat} (h : MR W vc vf cs fr) (hg : W.grownBy W' (some B)) (hb : Whole W B cs0 33) : MR W' vc vf cs fr :=
  ⟨h.1.kept hg (.inr (own_unlike h.1 hb (by decide))), h.2.kept hg (.inr (own_unlike h.2 hb (by decide)))⟩
theorem hasI_cases (b s : Int) (cs : List (Option Int)) (h : Int) : (∃ i : Nat, Ar.has b s cs h = some i ∧ Ar.hasI b s cs h = (i : Int) ∧ i < cs.length) ∨ (Ar.has b s cs h = none ∧ Ar.hasI b s cs h = -1) := by
  cases e : Ar.has b s cs h with
  | none => exact .inr ⟨rfl, by unfold Ar.hasI; rw [e]⟩
  | some i => exact .inl ⟨i, rfl, by unfold Ar.hasI; rw [e], (Ar.has_some e).2.1⟩

set_option maxRecDepth 100000 in
set_option maxHeartbeats 1000000 in
theorem rset_any (b s h x : Int) (vc vf : Value) (cs : List (Option Int)) (fr : List Nat) (w : World) (hh : I64 h) (hm : MR w vc vf cs fr) (hl : cs.length ≤ 10000) :
    Calls Try.prog 16 #[modelV b s vc vf, .int .i64 h, .int .i64 x] w fun e w' => ∃ v, e = .returned (.tuple #[modelV b s v vf, .bool (Ar.has b s cs h).isSome]) ∧ MR w' v vf (Ar.set b s cs h x) fr ∧ Below w.heap.size w w' := by
  obtain ⟨Af, cf, rfl⟩ := own_slice hm.2
  obtain ⟨A, c, rfl⟩ := own_slice hm.1
  obtain ⟨W2, hW2⟩ : ∃ W2, (w.alloc (.cells #[.int .i64 b, .int .i64 s, .slice A cs.length c, .slice Af fr.length cf] 33)).alloc (.cells #[.int .i64 0, .int .i64 0, .slice none 0 0, .slice none 0 0] 33) = W2 := ⟨_, rfl⟩
  have hB2 : Below w.heap.size w W2 := by rw [← hW2]; exact ((Below.refl _ w).alloc (Nat.le_refl _) _).alloc (by simp) _
  have m2 : Whole W2 w.heap.size #[.int .i64 b, .int .i64 s, .slice A cs.length c, .slice Af fr.length cf] 33 := by rw [← hW2]; exact (Whole.new w _ _).alloc _
  have r2 : Whole W2 (w.heap.size + 1) #[.int .i64 0, .int .i64 0, .slice none 0 0, .slice none 0 0] 33 := by
    have h := Whole.new (w.alloc (.cells #[.int .i64 b, .int .i64 s, .slice A cs.length c, .slice Af fr.length cf] 33)) #[.int .i64 0, .int .i64 0, .slice none 0 0, .slice none 0 0] 33
    rw [World.size_alloc] at h
    rw [← hW2]; exact h
  have a0 : W2.cell? ⟨w.heap.size, 0, none⟩ = some (.int .i64 b) := m2.cell 0
  have a1 : W2.cell? ⟨w.heap.size, 1, none⟩ = some (.int .i64 s) := m2.cell 1
  have a2 : W2.cell? ⟨w.heap.size, 2, none⟩ = some (.slice A cs.length c) := m2.cell 2
  have a3 : W2.cell? ⟨w.heap.size, 3, none⟩ = some (.slice Af fr.length cf) := m2.cell 3
  have hs2 : W2.heap.size = w.heap.size + 2 := by rw [← hW2]; simp
  have hm2 := hm.below hB2
  go_enter Try.func16, Try.ntmps16
  go_wp2_with fail
  refine (rhas_any b s h _ _ cs fr W2 hh hm2 hl).mono ?_
  rintro e W3 ⟨rfl, hb3⟩
  have m3 := m2.below hb3 m2.lt
  have r3 := r2.below hb3 r2.lt
  have hB3 : Below w.heap.size w W3 := hB2.trans (hb3.mono (by omega))
  have hs3 := hb3.size
  have hm3 := hm2.below hb3
  have b0 : W3.cell? ⟨w.heap.size, 0, none⟩ = some (.int .i64 b) := m3.cell 0
  have b1 : W3.cell? ⟨w.heap.size, 1, none⟩ = some (.int .i64 s) := m3.cell 1
  have b2 : W3.cell? ⟨w.heap.size, 2, none⟩ = some (.slice A cs.length c) := m3.cell 2
  have b3 : W3.cell? ⟨w.heap.size, 3, none⟩ = some (.slice Af fr.length cf) := m3.cell 3
  clear hW2 a0 a1 a2 a3
  rcases hasI_cases b s cs h with ⟨i, e1, e2, e3⟩ | ⟨e1, e2⟩
  · have hst : Ar.set b s cs h x = cs.set i (some x) := by unfold Ar.set; rw [e1]
    rw [e2]
    have HS := Lib.hid hst
    have HE := Lib.hid e1
    clear hst e1 e2 hm hm2
    have q : ¬ (i : Int) < 0 := by omega
    go_wp2_with fail
    refine (rwith_any b s i (some x) _ _ cs fr W3 hm3 hl e3).mono ?_
    rintro e W4 ⟨v, rfl, hm4, hb4⟩
    obtain ⟨A4, c4, rfl⟩ := own_slice hm4.1
    have r4 := r3.below hb4 r3.lt
    have k0 : W4.cell? ⟨w.heap.size + 1, 0, none⟩ = some (.int .i64 0) := r4.cell 0
    have k1 : W4.cell? ⟨w.heap.size + 1, 1, none⟩ = some (.int .i64 0) := r4.cell 1
    have k2 : W4.cell? ⟨w.heap.size + 1, 2, none⟩ = some (.slice none 0 0) := r4.cell 2
    have k3 : W4.cell? ⟨w.heap.size + 1, 3, none⟩ = some (.slice none 0 0) := r4.cell 3
    have z0 := r4.free 0
    have z1 := r4.free 1
    have z2 := r4.free 2
    have z3 := r4.free 3
    go_wp2_with fail
    obtain ⟨W5, hW5, r5, g5⟩ := box4 r4 (.int .i64 b) (.int .i64 s) (.slice A4 cs.length c4) (.slice Af fr.length cf)
    rw [hW5]
    have c50 : W5.cell? ⟨w.heap.size + 1, 0, none⟩ = some (.int .i64 b) := r5.cell 0
    have c51 : W5.cell? ⟨w.heap.size + 1, 1, none⟩ = some (.int .i64 s) := r5.cell 1
    have c52 : W5.cell? ⟨w.heap.size + 1, 2, none⟩ = some (.slice A4 cs.length c4) := r5.cell 2
    have c53 : W5.cell? ⟨w.heap.size + 1, 3, none⟩ = some (.slice Af fr.length cf) := r5.cell 3
    have hB5 : Below w.heap.size w W5 := (hB3.trans (hb4.mono hB3.size)).grown g5 (hB3.trans (hb4.mono hB3.size)).size (fun j hj => by simp at hj; omega)
    refine bodyPost_ret (v := .tuple #[modelV b s (.slice A4 cs.length c4) (.slice Af fr.length cf), .bool true]) ?_ rfl ⟨_, by rw [HE.out]; rfl, ?_, hB5⟩
    · simp [results, Try.f16, go_sem, c50, c51, c52, c53]
    · rw [HS.out]
      have hfin := hm4.grown g5 r4
      rw [List.length_set] at hfin
      exact hfin
  · have hst : Ar.set b s cs h x = cs := by unfold Ar.set; rw [e1]
    rw [e2]
    have HS := Lib.hid hst
    have HE := Lib.hid e1
    clear hst e1 e2 hm hm2
    have k0 : W3.cell? ⟨w.heap.size + 1, 0, none⟩ = some (.int .i64 0) := r3.cell 0
    have k1 : W3.cell? ⟨w.heap.size + 1, 1, none⟩ = some (.int .i64 0) := r3.cell 1
    have k2 : W3.cell? ⟨w.heap.size + 1, 2, none⟩ = some (.slice none 0 0) := r3.cell 2
    have k3 : W3.cell? ⟨w.heap.size + 1, 3, none⟩ = some (.slice none 0 0) := r3.cell 3
    have z0 := r3.free 0
    have z1 := r3.free 1
    have z2 := r3.free 2
    have z3 := r3.free 3
    go_wp2_with fail
    obtain ⟨W5, hW5, r5, g5⟩ := box4 r3 (.int .i64 b) (.int .i64 s) (.slice A cs.length c) (.slice Af fr.length cf)
    rw [hW5]
    have c50 : W5.cell? ⟨w.heap.size + 1, 0, none⟩ = some (.int .i64 b) := r5.cell 0
    have c51 : W5.cell? ⟨w.heap.size + 1, 1, none⟩ = some (.int .i64 s) := r5.cell 1
    have c52 : W5.cell? ⟨w.heap.size + 1, 2, none⟩ = some (.slice A cs.length c) := r5.cell 2
    have c53 : W5.cell? ⟨w.heap.size + 1, 3, none⟩ = some (.slice Af fr.length cf) := r5.cell 3
    have hB5 : Below w.heap.size w W5 := hB3.grown g5 hB3.size (fun j hj => by simp at hj; omega)
    refine bodyPost_ret (v := .tuple #[modelV b s (.slice A cs.length c) (.slice Af fr.length cf), .bool false]) ?_ rfl ⟨_, by rw [HE.out]; rfl, ?_, hB5⟩
    · simp [results, Try.f16, go_sem, c50, c51, c52, c53]
    · rw [HS.out]
      exact hm3.grown g5 r3

end Go.Proofs.Ythocodmniofioaa
