/- The timer set's Clone. -/
import Derived.Test.YtomffkdfgfenpaaQTrm
namespace Go.Proofs.Ytomffkdfgfenpaa
open Go.RowKit

theorem cells_below {base : Nat} {w w' : World} {Q : Nat} {v : Value} {l : List T3} {nx : Int} (h : TM base w Q v l nx) (hb : Below w.heap.size w w') :
    w'.cell? ⟨Q, 0, none⟩ = some v ∧ w'.cell? ⟨Q, 1, none⟩ = some (.int .i64 nx) := ⟨(h.below hb).cells.1, (h.below hb).cells.2.1⟩
theorem box2 {W : World} {B : Nat} {x0 x1 : Value} {T : TypeId} (r : Whole W B #[x0, x1] T) (y0 y1 : Value) :
    ∃ X, (W.setCell ⟨B, 0, none⟩ y0).setCell ⟨B, 1, none⟩ y1 = X ∧ Whole X B #[y0, y1] T ∧ W.grownBy X (some B) :=
  ⟨_, rfl, (r.put 0 y0).put 1 y1, gb_put (gb_put (gb_of_below (Below.refl W.heap.size W) (some B)) 0 y0) 1 y1⟩
set_option maxRecDepth 100000 in
set_option maxHeartbeats 1000000 in
theorem tclone_any (base Q : Nat) (v : Value) (l : List T3) (nx : Int) (w : World) (h : TM base w Q v l nx) (hl : l.length ≤ 1000) :
    Calls Try.prog 35 #[.pointer (some ⟨Q, 0, none⟩)] w fun e w' => ∃ v', e = .returned (.agg #[v', .int .i64 nx]) ∧ TR w' w.heap.size 72 3 v' l.length (trow l) ∧ Below w.heap.size w w' := by
  have hb1 := (Below.refl _ w).alloc (Nat.le_refl _) (.cells #[.slice none 0 0, .int .i64 0] 55)
  have hR1 := Whole.new w #[.slice none 0 0, .int .i64 0] 55
  have h1 := h.below hb1
  have hz1 : (w.alloc (.cells #[.slice none 0 0, .int .i64 0] 55)).heap.size = w.heap.size + 1 := by simp
  obtain ⟨w1, hw1⟩ : ∃ w1, w.alloc (.cells #[.slice none 0 0, .int .i64 0] 55) = w1 := ⟨_, rfl⟩
  rw [hw1] at hb1 hR1 h1 hz1
  obtain ⟨A0, c0, rfl⟩ := h.row.form
  have hQ : Q < w.heap.size := h.var.lt
  have hd : Below w1.heap.size w1 w1.drew := ⟨rfl, rfl, rfl, Nat.le_refl _, fun _ _ => rfl⟩
  have hcl := cloneT base (.slice A0 l.length c0) l.length (trow l) w1.drew (h1.below hd).row (trow_one l) (by omega)
  have hafter : ∀ (v2 : Value) (w2 : World), TR w2 w1.drew.heap.size 72 3 v2 l.length (trow l) → Below w1.drew.heap.size w1.drew w2 →
      w2.cell? ⟨w.heap.size, 0, none⟩ = some (.slice none 0 0) ∧ w2.cell? ⟨w.heap.size, 1, none⟩ = some (.int .i64 0) ∧ w2.frozen? ⟨w.heap.size, 0, none⟩ = false ∧ w2.frozen? ⟨w.heap.size, 1, none⟩ = false ∧
      (w2.cell? ⟨Q, 0, none⟩ = some (.slice A0 l.length c0) ∧ w2.cell? ⟨Q, 1, none⟩ = some (.int .i64 nx)) ∧
      ∃ X, (w2.setCell ⟨w.heap.size, 0, none⟩ v2).setCell ⟨w.heap.size, 1, none⟩ (.int .i64 nx) = X ∧ X.cell? ⟨w.heap.size, 0, none⟩ = some v2 ∧ X.cell? ⟨w.heap.size, 1, none⟩ = some (.int .i64 nx) ∧
        (X.cell? ⟨Q, 0, none⟩ = some (.slice A0 l.length c0) ∧ X.cell? ⟨Q, 1, none⟩ = some (.int .i64 nx)) ∧ TR X w.heap.size 72 3 v2 l.length (trow l) ∧ Below w.heap.size w X := fun v2 w2 o2 hb2 => by
    have hB2 : Below w1.heap.size w1 w2 := hd.trans hb2
    have hR2 := hR1.below hB2 hR1.lt
    have h2 := h1.below hB2
    obtain ⟨X, hX, hRX, gX⟩ := box2 hR2 v2 (.int .i64 nx)
    have htX : Turns (fun k => k = w.heap.size) w2 X := .of_grown gX (fun k hk => by simpa using hk.symm)
    have hTX := h2.turns htX (fun k hk e => by have := (h.lt k hk).2; omega)
    have oX := o2.turns htX (fun k hk e => by have := (o2.lt k hk).1; rw [World.size_drew] at this; omega)
    exact ⟨hR2.cell 0, hR2.cell 1, hR2.free 0, hR2.free 1, ⟨h2.cells.1, h2.cells.2.1⟩, X, hX, hRX.cell 0, hRX.cell 1, ⟨hTX.cells.1, hTX.cells.2.1⟩, oX.lower (by rw [World.size_drew]; omega), (hb1.trans (hB2.mono hb1.size)).grown gX (hb1.trans (hB2.mono hb1.size)).size (fun j hj => by simp at hj; omega)⟩
  have HC := Lib.hid hcl
  have HA := Lib.hid hafter
  have H1 := Lib.hid h1
  clear hcl hafter h1 h hR1
  go_enter Try.func35, Try.ntmps35
  go_wp2_with fail
  clear hw1
  go_region_held3 (fun W => W.cell? ⟨Q, 0, none⟩ = some (.slice A0 l.length c0) ∧ W.cell? ⟨Q, 1, none⟩ = some (.int .i64 nx)) (first | exact cells_below H1.out hd | assumption)
    (first | (go_at_call 43; refine HC.out.mono ?_; rintro e w2 ⟨v2, rfl, o2, hb2⟩; obtain ⟨A2, c2, rfl⟩ := o2.form; obtain ⟨r0, r1, z0, z1, q2, X, hX, p0, p1, qX, oX, hBX⟩ := HA.out _ w2 o2 hb2; have OX := Lib.hid oX; clear o2 hb2 oX))
  go_wp2_with fail
  refine bodyPost_ret (v := .agg #[.slice A2 l.length c2, .int .i64 nx]) ?_ rfl ⟨_, rfl, OX.out, hBX⟩
  simp [results, Try.f35, go_sem, p0, p1]
end Go.Proofs.Ytomffkdfgfenpaa
