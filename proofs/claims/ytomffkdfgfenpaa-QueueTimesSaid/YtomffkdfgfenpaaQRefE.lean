/- The reference's Pop. -/
import Derived.Test.YtomffkdfgfenpaaQRefD
import Derived.Deep.RegionLaw
namespace Go.Proofs.Ytomffkdfgfenpaa
open Go.RowKit

set_option maxRecDepth 100000 in
set_option maxHeartbeats 1000000 in
theorem rfirst_nil (A : Option Addr) (c : Nat) (nx : Int) (w : World) :
    Calls Try.prog 31 #[rval (.slice A 0 c) nx] w fun e w' => e = .returned (.tuple #[.agg #[.int .i64 0, .int .i64 0, .int .i64 0], .bool false]) ∧ Below w.heap.size w w' := by
  have hb1 := (Below.refl _ w).alloc (Nat.le_refl _) (.cells #[.slice A 0 c, .int .i64 nx] 58)
  have hX1 := Whole.new w #[.slice A 0 c, .int .i64 nx] 58
  have hz1 : (w.alloc (.cells #[.slice A 0 c, .int .i64 nx] 58)).heap.size = w.heap.size + 1 := by simp
  obtain ⟨w1, hw1⟩ : ∃ w1, w.alloc (.cells #[.slice A 0 c, .int .i64 nx] 58) = w1 := ⟨_, rfl⟩
  rw [hw1] at hb1 hX1 hz1
  have hb2 := hb1.alloc hb1.size (.cells #[.int .i64 0, .int .i64 0, .int .i64 0] 69)
  have hX2 := hX1.alloc (.cells #[.int .i64 0, .int .i64 0, .int .i64 0] 69)
  have hR2 := Whole.new w1 #[.int .i64 0, .int .i64 0, .int .i64 0] 69
  obtain ⟨w2, hw2⟩ : ∃ w2, w1.alloc (.cells #[.int .i64 0, .int .i64 0, .int .i64 0] 69) = w2 := ⟨_, rfl⟩
  rw [hw2] at hb2 hX2 hR2
  have k0 : w2.cell? ⟨w.heap.size, 0, none⟩ = some (.slice A 0 c) := hX2.cell 0
  obtain ⟨X, hXX, hRX, gX⟩ := box3 hR2 (.int .i64 0) (.int .i64 0) (.int .i64 0)
  have hBX := hb2.grown gX hb2.size (fun j hj => by simp at hj; omega)
  have r0 := hR2.cell 0
  have r1 := hR2.cell 1
  have r2 := hR2.cell 2
  have g0 := hR2.free 0
  have g1 := hR2.free 1
  have g2 := hR2.free 2
  have p0 : X.cell? ⟨w1.heap.size, 0, none⟩ = some (.int .i64 0) := hRX.cell 0
  have p1 : X.cell? ⟨w1.heap.size, 1, none⟩ = some (.int .i64 0) := hRX.cell 1
  have p2 : X.cell? ⟨w1.heap.size, 2, none⟩ = some (.int .i64 0) := hRX.cell 2
  clear hX1 hX2 hR2 hb1 hz1 hRX gX
  go_enter Try.func31, Try.ntmps31
  go_wp2_with fail
  refine bodyPost_ret (v := .tuple #[.agg #[.int .i64 0, .int .i64 0, .int .i64 0], .bool false]) ?_ rfl ⟨rfl, hBX⟩
  simp [results, Try.f31, go_sem, p0, p1, p2]

set_option maxRecDepth 100000 in
set_option maxHeartbeats 1000000 in
theorem rpop_nil (A : Option Addr) (c : Nat) (l : List T3)  (nx now : Int) (w : World) (h : RV w (.slice A l.length c) l) (hl : l.length ≤ 1000) (hz : l = []) :
    Calls Try.prog 29 #[rval (.slice A l.length c) nx, .int .i64 now] w fun e w' => e = .returned (.tuple #[rval (.slice A l.length c) nx, .agg #[.int .i64 0, .int .i64 0, .int .i64 0], .bool false]) ∧ Below w.heap.size w w' := by
  obtain ⟨n, hn⟩ : ∃ n, l.length = n := ⟨_, rfl⟩
  rw [hn] at h hl
  have hb1 := (Below.refl _ w).alloc (Nat.le_refl _) (.cells #[.slice A n c, .int .i64 nx] 58)
  have hX1 := Whole.new w #[.slice A n c, .int .i64 nx] 58
  have hz1 : (w.alloc (.cells #[.slice A n c, .int .i64 nx] 58)).heap.size = w.heap.size + 1 := by simp
  obtain ⟨w1, hw1⟩ : ∃ w1, w.alloc (.cells #[.slice A n c, .int .i64 nx] 58) = w1 := ⟨_, rfl⟩
  rw [hw1] at hb1 hX1 hz1
  have hb2 := hb1.alloc hb1.size (.cells #[.slice none 0 0, .int .i64 0] 58)
  have hX2 := hX1.alloc (.cells #[.slice none 0 0, .int .i64 0] 58)
  have hR2 := Whole.new w1 #[.slice none 0 0, .int .i64 0] 58
  have hz2 : (w1.alloc (.cells #[.slice none 0 0, .int .i64 0] 58)).heap.size = w.heap.size + 1 + 1 := by simp [hz1]
  obtain ⟨w2, hw2⟩ : ∃ w2, w1.alloc (.cells #[.slice none 0 0, .int .i64 0] 58) = w2 := ⟨_, rfl⟩
  rw [hw2] at hb2 hX2 hR2 hz2
  have hb3 := hb2.alloc hb2.size (.cells #[.int .i64 0, .int .i64 0, .int .i64 0] 69)
  have hX3 := hX2.alloc (.cells #[.int .i64 0, .int .i64 0, .int .i64 0] 69)
  have hR3 := hR2.alloc (.cells #[.int .i64 0, .int .i64 0, .int .i64 0] 69)
  have hO3 := Whole.new w2 #[.int .i64 0, .int .i64 0, .int .i64 0] 69
  have hz3 : (w2.alloc (.cells #[.int .i64 0, .int .i64 0, .int .i64 0] 69)).heap.size = w.heap.size + 1 + 1 + 1 := by simp [hz2]
  obtain ⟨w3, hw3⟩ : ∃ w3, w2.alloc (.cells #[.int .i64 0, .int .i64 0, .int .i64 0] 69) = w3 := ⟨_, rfl⟩
  rw [hw3] at hb3 hX3 hR3 hO3 hz3
  have k0 : w3.cell? ⟨w.heap.size, 0, none⟩ = some (.slice A n c) := hX3.cell 0
  have k1 : w3.cell? ⟨w.heap.size, 1, none⟩ = some (.int .i64 nx) := hX3.cell 1
  have h3 := h.below hb3
  have hcall : Calls Try.prog 31 #[rval (.slice A n c) nx] w3 fun e w' => e = .returned (.tuple #[.agg #[.int .i64 0, .int .i64 0, .int .i64 0], .bool false]) ∧ Below w3.heap.size w3 w' := by
    subst hz
    have : n = 0 := by simpa using hn.symm
    subst this
    exact rfirst_nil A c nx w3
  have HCALL := Lib.hid hcall
  have HX3 := Lib.hid hX3
  have HR3 := Lib.hid hR3
  have HO3 := Lib.hid hO3
  have HB3 := Lib.hid hb3
  have HZ1 := Lib.hid hz1
  have HZ2 := Lib.hid hz2
  have HZ3 := Lib.hid hz3
  have HH3 := Lib.hid h3
  have HN := Lib.hid hn
  rw [hn]
  clear hX1 hX2 hX3 hR2 hR3 hO3 hb1 hb2 hb3 hcall h h3 hz1 hz2 hz3 hn
  go_enter Try.func29, Try.ntmps29
  go_wp2_with fail
  refine HCALL.out.mono ?_
  rintro e w4 ⟨rfl, hbf⟩
  have hX4 := HX3.out.below hbf HX3.out.lt
  have hR4 := HR3.out.below hbf HR3.out.lt
  have hO4 := HO3.out.below hbf HO3.out.lt
  have hB4 := HB3.out.trans (hbf.mono HB3.out.size)
  have hs4 : w.heap.size + 3 ≤ w4.heap.size := by have := hbf.size; have := HZ3.out; omega
  have hX5 := hX4.alloc (.cells #[.int .i64 0, .int .i64 0, .int .i64 0] 69)
  have hR5 := hR4.alloc (.cells #[.int .i64 0, .int .i64 0, .int .i64 0] 69)
  have hO5 := hO4.alloc (.cells #[.int .i64 0, .int .i64 0, .int .i64 0] 69)
  have hT5 := Whole.new w4 #[.int .i64 0, .int .i64 0, .int .i64 0] 69
  have hB5 := hB4.alloc hB4.size (.cells #[.int .i64 0, .int .i64 0, .int .i64 0] 69)
  have hbx := hbf.trans (((Below.refl _ w4).alloc (Nat.le_refl _) (.cells #[.int .i64 0, .int .i64 0, .int .i64 0] 69)).mono hbf.size)
  have hz5 : (w4.alloc (.cells #[.int .i64 0, .int .i64 0, .int .i64 0] 69)).heap.size = w4.heap.size + 1 := by simp
  obtain ⟨w5, hw5⟩ : ∃ w5, w4.alloc (.cells #[.int .i64 0, .int .i64 0, .int .i64 0] 69) = w5 := ⟨_, rfl⟩
  rw [hw5] at hX5 hR5 hO5 hT5 hB5 hbx hz5
  have h5 := HH3.out.below hbx
  have q0 : w5.cell? ⟨w.heap.size, 0, none⟩ = some (.slice A n c) := hX5.cell 0
  have q1 : w5.cell? ⟨w.heap.size, 1, none⟩ = some (.int .i64 nx) := hX5.cell 1
  have t0 := hT5.cell 0
  have t1 := hT5.cell 1
  have t2 := hT5.cell 2
  clear HCALL HX3 HR3 HO3 HB3 HH3 k0 k1 hw1 hw2 hw3 hX4 hR4 hO4 hB4 hbf hbx
  clear hz
  obtain ⟨wz, hwz, hTz, gz⟩ := box3 hT5 (.int .i64 0) (.int .i64 0) (.int .i64 0)
  have u0 := hT5.free 0
  have u1 := hT5.free 1
  have u2 := hT5.free 2
  have hX5 := hX5.grown gz (fun e => by simp at e; omega)
  have hR5 := hR5.grown gz (fun e => by simp at e; have := HZ1.out; omega)
  have hO5 := hO5.grown gz (fun e => by simp at e; have := HZ2.out; omega)
  have hB5 := hB5.grown gz hB5.size (fun j hj => by simp at hj; omega)
  have v0 := hX5.cell 0
  have v1 := hX5.cell 1
  have v2 := hTz.cell 0
  have v3 := hTz.cell 1
  have v4 := hTz.cell 2
  clear hT5 gz h5 hTz hz5
  obtain ⟨X, hXX, hRX, gX⟩ := box2r hR5 (.slice A n c) (.int .i64 nx)
  have hBX := hB5.grown gX hB5.size (fun j hj => by simp at hj; have := HZ1.out; omega)
  have hOX := hO5.grown gX (fun e => by simp at e; have := HZ1.out; have := HZ2.out; omega)
  obtain ⟨Y, hYY, hOY, gY⟩ := box3 hOX (.int .i64 0) (.int .i64 0) (.int .i64 0)
  have hBY := hBX.grown gY hBX.size (fun j hj => by simp at hj; have := HZ2.out; omega)
  have hRY := hRX.grown gY (fun e => by simp at e; have := HZ1.out; have := HZ2.out; omega)
  have r0 := hR5.cell 0
  have r1 := hR5.cell 1
  have g0 := hR5.free 0
  have g1 := hR5.free 1
  have s0 := hOX.cell 0
  have s1 := hOX.cell 1
  have s2 := hOX.cell 2
  have f0 := hOX.free 0
  have f1 := hOX.free 1
  have f2 := hOX.free 2
  have p0 : Y.cell? ⟨w1.heap.size, 0, none⟩ = some (.slice A n c) := hRY.cell 0
  have p1 : Y.cell? ⟨w1.heap.size, 1, none⟩ = some (.int .i64 nx) := hRY.cell 1
  have p2 : Y.cell? ⟨w2.heap.size, 0, none⟩ = some (.int .i64 0) := hOY.cell 0
  have p3 : Y.cell? ⟨w2.heap.size, 1, none⟩ = some (.int .i64 0) := hOY.cell 1
  have p4 : Y.cell? ⟨w2.heap.size, 2, none⟩ = some (.int .i64 0) := hOY.cell 2
  clear hX5 hR5 hO5 hB5 hRX gX hBX hOX hOY gY hRY
  go_wp2_with fail
  refine bodyPost_ret (v := .tuple #[rval (.slice A n c) nx, .agg #[.int .i64 0, .int .i64 0, .int .i64 0], .bool false]) ?_ rfl ⟨rfl, hBY⟩
  simp [results, Try.f29, go_sem, p0, p1, p2, p3, p4]

set_option maxRecDepth 100000 in
set_option maxHeartbeats 1000000 in
theorem rpop_late (A : Option Addr) (c : Nat) (l : List T3) (r : List T3) (x : T3) (nx now : Int) (w : World) (h : RV w (.slice A l.length c) l) (hl : l.length ≤ 1000) (hp : l.Perm (x :: r)) (hx : Lx (x :: r)) (hnow : now < x.2.1) :
    Calls Try.prog 29 #[rval (.slice A l.length c) nx, .int .i64 now] w fun e w' => e = .returned (.tuple #[rval (.slice A l.length c) nx, .agg #[.int .i64 0, .int .i64 0, .int .i64 0], .bool false]) ∧ Below w.heap.size w w' := by
  obtain ⟨n, hn⟩ : ∃ n, l.length = n := ⟨_, rfl⟩
  rw [hn] at h hl
  have hb1 := (Below.refl _ w).alloc (Nat.le_refl _) (.cells #[.slice A n c, .int .i64 nx] 58)
  have hX1 := Whole.new w #[.slice A n c, .int .i64 nx] 58
  have hz1 : (w.alloc (.cells #[.slice A n c, .int .i64 nx] 58)).heap.size = w.heap.size + 1 := by simp
  obtain ⟨w1, hw1⟩ : ∃ w1, w.alloc (.cells #[.slice A n c, .int .i64 nx] 58) = w1 := ⟨_, rfl⟩
  rw [hw1] at hb1 hX1 hz1
  have hb2 := hb1.alloc hb1.size (.cells #[.slice none 0 0, .int .i64 0] 58)
  have hX2 := hX1.alloc (.cells #[.slice none 0 0, .int .i64 0] 58)
  have hR2 := Whole.new w1 #[.slice none 0 0, .int .i64 0] 58
  have hz2 : (w1.alloc (.cells #[.slice none 0 0, .int .i64 0] 58)).heap.size = w.heap.size + 1 + 1 := by simp [hz1]
  obtain ⟨w2, hw2⟩ : ∃ w2, w1.alloc (.cells #[.slice none 0 0, .int .i64 0] 58) = w2 := ⟨_, rfl⟩
  rw [hw2] at hb2 hX2 hR2 hz2
  have hb3 := hb2.alloc hb2.size (.cells #[.int .i64 0, .int .i64 0, .int .i64 0] 69)
  have hX3 := hX2.alloc (.cells #[.int .i64 0, .int .i64 0, .int .i64 0] 69)
  have hR3 := hR2.alloc (.cells #[.int .i64 0, .int .i64 0, .int .i64 0] 69)
  have hO3 := Whole.new w2 #[.int .i64 0, .int .i64 0, .int .i64 0] 69
  have hz3 : (w2.alloc (.cells #[.int .i64 0, .int .i64 0, .int .i64 0] 69)).heap.size = w.heap.size + 1 + 1 + 1 := by simp [hz2]
  obtain ⟨w3, hw3⟩ : ∃ w3, w2.alloc (.cells #[.int .i64 0, .int .i64 0, .int .i64 0] 69) = w3 := ⟨_, rfl⟩
  rw [hw3] at hb3 hX3 hR3 hO3 hz3
  have k0 : w3.cell? ⟨w.heap.size, 0, none⟩ = some (.slice A n c) := hX3.cell 0
  have k1 : w3.cell? ⟨w.heap.size, 1, none⟩ = some (.int .i64 nx) := hX3.cell 1
  have h3 := h.below hb3
  have hcall : Calls Try.prog 31 #[rval (.slice A n c) nx] w3 fun e w' => e = .returned (.tuple #[.agg #[.int .i64 x.1, .int .i64 x.2.1, .int .i64 x.2.2], .bool true]) ∧ Below w3.heap.size w3 w' := by
    have H := rfirst_any A c l r x nx w3 (by rw [← hn] at h3; exact h3) (by omega) hp hx
    rw [hn] at H
    exact H
  have HCALL := Lib.hid hcall
  have HX3 := Lib.hid hX3
  have HR3 := Lib.hid hR3
  have HO3 := Lib.hid hO3
  have HB3 := Lib.hid hb3
  have HZ1 := Lib.hid hz1
  have HZ2 := Lib.hid hz2
  have HZ3 := Lib.hid hz3
  have HH3 := Lib.hid h3
  have HN := Lib.hid hn
  rw [hn]
  clear hX1 hX2 hX3 hR2 hR3 hO3 hb1 hb2 hb3 hcall h h3 hz1 hz2 hz3 hn
  go_enter Try.func29, Try.ntmps29
  go_wp2_with fail
  refine HCALL.out.mono ?_
  rintro e w4 ⟨rfl, hbf⟩
  have hX4 := HX3.out.below hbf HX3.out.lt
  have hR4 := HR3.out.below hbf HR3.out.lt
  have hO4 := HO3.out.below hbf HO3.out.lt
  have hB4 := HB3.out.trans (hbf.mono HB3.out.size)
  have hs4 : w.heap.size + 3 ≤ w4.heap.size := by have := hbf.size; have := HZ3.out; omega
  have hX5 := hX4.alloc (.cells #[.int .i64 x.1, .int .i64 x.2.1, .int .i64 x.2.2] 69)
  have hR5 := hR4.alloc (.cells #[.int .i64 x.1, .int .i64 x.2.1, .int .i64 x.2.2] 69)
  have hO5 := hO4.alloc (.cells #[.int .i64 x.1, .int .i64 x.2.1, .int .i64 x.2.2] 69)
  have hT5 := Whole.new w4 #[.int .i64 x.1, .int .i64 x.2.1, .int .i64 x.2.2] 69
  have hB5 := hB4.alloc hB4.size (.cells #[.int .i64 x.1, .int .i64 x.2.1, .int .i64 x.2.2] 69)
  have hbx := hbf.trans (((Below.refl _ w4).alloc (Nat.le_refl _) (.cells #[.int .i64 x.1, .int .i64 x.2.1, .int .i64 x.2.2] 69)).mono hbf.size)
  have hz5 : (w4.alloc (.cells #[.int .i64 x.1, .int .i64 x.2.1, .int .i64 x.2.2] 69)).heap.size = w4.heap.size + 1 := by simp
  obtain ⟨w5, hw5⟩ : ∃ w5, w4.alloc (.cells #[.int .i64 x.1, .int .i64 x.2.1, .int .i64 x.2.2] 69) = w5 := ⟨_, rfl⟩
  rw [hw5] at hX5 hR5 hO5 hT5 hB5 hbx hz5
  have h5 := HH3.out.below hbx
  have q0 : w5.cell? ⟨w.heap.size, 0, none⟩ = some (.slice A n c) := hX5.cell 0
  have q1 : w5.cell? ⟨w.heap.size, 1, none⟩ = some (.int .i64 nx) := hX5.cell 1
  have t0 := hT5.cell 0
  have t1 := hT5.cell 1
  have t2 := hT5.cell 2
  clear HCALL HX3 HR3 HO3 HB3 HH3 k0 k1 hw1 hw2 hw3 hX4 hR4 hO4 hB4 hbf hbx
  have hno : decide (now < x.2.1) = true := decide_eq_true hnow
  clear hp hx hnow
  obtain ⟨X, hXX, hRX, gX⟩ := box2r hR5 (.slice A n c) (.int .i64 nx)
  have hBX := hB5.grown gX hB5.size (fun j hj => by simp at hj; have := HZ1.out; omega)
  have hOX := hO5.grown gX (fun e => by simp at e; have := HZ1.out; have := HZ2.out; omega)
  obtain ⟨Y, hYY, hOY, gY⟩ := box3 hOX (.int .i64 0) (.int .i64 0) (.int .i64 0)
  have hBY := hBX.grown gY hBX.size (fun j hj => by simp at hj; have := HZ2.out; omega)
  have hRY := hRX.grown gY (fun e => by simp at e; have := HZ1.out; have := HZ2.out; omega)
  have r0 := hR5.cell 0
  have r1 := hR5.cell 1
  have g0 := hR5.free 0
  have g1 := hR5.free 1
  have s0 := hOX.cell 0
  have s1 := hOX.cell 1
  have s2 := hOX.cell 2
  have f0 := hOX.free 0
  have f1 := hOX.free 1
  have f2 := hOX.free 2
  have p0 : Y.cell? ⟨w1.heap.size, 0, none⟩ = some (.slice A n c) := hRY.cell 0
  have p1 : Y.cell? ⟨w1.heap.size, 1, none⟩ = some (.int .i64 nx) := hRY.cell 1
  have p2 : Y.cell? ⟨w2.heap.size, 0, none⟩ = some (.int .i64 0) := hOY.cell 0
  have p3 : Y.cell? ⟨w2.heap.size, 1, none⟩ = some (.int .i64 0) := hOY.cell 1
  have p4 : Y.cell? ⟨w2.heap.size, 2, none⟩ = some (.int .i64 0) := hOY.cell 2
  clear hX5 hR5 hO5 hT5 hB5 hRX gX hBX hOX hOY gY hRY h5 hz5
  go_wp2_with fail
  refine bodyPost_ret (v := .tuple #[rval (.slice A n c) nx, .agg #[.int .i64 0, .int .i64 0, .int .i64 0], .bool false]) ?_ rfl ⟨rfl, hBY⟩
  simp [results, Try.f29, go_sem, p0, p1, p2, p3, p4]

set_option maxRecDepth 100000 in
set_option maxHeartbeats 1000000 in
theorem rpop_due (A : Option Addr) (c : Nat) (l : List T3) (r : List T3) (x : T3) (nx now : Int) (w : World) (h : RV w (.slice A l.length c) l) (hl : l.length ≤ 1000) (hp : l.Perm (x :: r)) (hx : Lx (x :: r)) (hnow : x.2.1 ≤ now) :
    Calls Try.prog 29 #[rval (.slice A l.length c) nx, .int .i64 now] w fun e w' => ∃ v', e = .returned (.tuple #[rval v' nx, .agg #[.int .i64 x.1, .int .i64 x.2.1, .int .i64 x.2.2], .bool true]) ∧ RV w' v' (del x.1 l) ∧ Below w.heap.size w w' := by
  obtain ⟨n, hn⟩ : ∃ n, l.length = n := ⟨_, rfl⟩
  rw [hn] at h hl
  have hb1 := (Below.refl _ w).alloc (Nat.le_refl _) (.cells #[.slice A n c, .int .i64 nx] 58)
  have hX1 := Whole.new w #[.slice A n c, .int .i64 nx] 58
  have hz1 : (w.alloc (.cells #[.slice A n c, .int .i64 nx] 58)).heap.size = w.heap.size + 1 := by simp
  obtain ⟨w1, hw1⟩ : ∃ w1, w.alloc (.cells #[.slice A n c, .int .i64 nx] 58) = w1 := ⟨_, rfl⟩
  rw [hw1] at hb1 hX1 hz1
  have hb2 := hb1.alloc hb1.size (.cells #[.slice none 0 0, .int .i64 0] 58)
  have hX2 := hX1.alloc (.cells #[.slice none 0 0, .int .i64 0] 58)
  have hR2 := Whole.new w1 #[.slice none 0 0, .int .i64 0] 58
  have hz2 : (w1.alloc (.cells #[.slice none 0 0, .int .i64 0] 58)).heap.size = w.heap.size + 1 + 1 := by simp [hz1]
  obtain ⟨w2, hw2⟩ : ∃ w2, w1.alloc (.cells #[.slice none 0 0, .int .i64 0] 58) = w2 := ⟨_, rfl⟩
  rw [hw2] at hb2 hX2 hR2 hz2
  have hb3 := hb2.alloc hb2.size (.cells #[.int .i64 0, .int .i64 0, .int .i64 0] 69)
  have hX3 := hX2.alloc (.cells #[.int .i64 0, .int .i64 0, .int .i64 0] 69)
  have hR3 := hR2.alloc (.cells #[.int .i64 0, .int .i64 0, .int .i64 0] 69)
  have hO3 := Whole.new w2 #[.int .i64 0, .int .i64 0, .int .i64 0] 69
  have hz3 : (w2.alloc (.cells #[.int .i64 0, .int .i64 0, .int .i64 0] 69)).heap.size = w.heap.size + 1 + 1 + 1 := by simp [hz2]
  obtain ⟨w3, hw3⟩ : ∃ w3, w2.alloc (.cells #[.int .i64 0, .int .i64 0, .int .i64 0] 69) = w3 := ⟨_, rfl⟩
  rw [hw3] at hb3 hX3 hR3 hO3 hz3
  have k0 : w3.cell? ⟨w.heap.size, 0, none⟩ = some (.slice A n c) := hX3.cell 0
  have k1 : w3.cell? ⟨w.heap.size, 1, none⟩ = some (.int .i64 nx) := hX3.cell 1
  have h3 := h.below hb3
  have hcall : Calls Try.prog 31 #[rval (.slice A n c) nx] w3 fun e w' => e = .returned (.tuple #[.agg #[.int .i64 x.1, .int .i64 x.2.1, .int .i64 x.2.2], .bool true]) ∧ Below w3.heap.size w3 w' := by
    have H := rfirst_any A c l r x nx w3 (by rw [← hn] at h3; exact h3) (by omega) hp hx
    rw [hn] at H
    exact H
  have HCALL := Lib.hid hcall
  have HX3 := Lib.hid hX3
  have HR3 := Lib.hid hR3
  have HO3 := Lib.hid hO3
  have HB3 := Lib.hid hb3
  have HZ1 := Lib.hid hz1
  have HZ2 := Lib.hid hz2
  have HZ3 := Lib.hid hz3
  have HH3 := Lib.hid h3
  have HN := Lib.hid hn
  rw [hn]
  clear hX1 hX2 hX3 hR2 hR3 hO3 hb1 hb2 hb3 hcall h h3 hz1 hz2 hz3 hn
  go_enter Try.func29, Try.ntmps29
  go_wp2_with fail
  refine HCALL.out.mono ?_
  rintro e w4 ⟨rfl, hbf⟩
  have hX4 := HX3.out.below hbf HX3.out.lt
  have hR4 := HR3.out.below hbf HR3.out.lt
  have hO4 := HO3.out.below hbf HO3.out.lt
  have hB4 := HB3.out.trans (hbf.mono HB3.out.size)
  have hs4 : w.heap.size + 3 ≤ w4.heap.size := by have := hbf.size; have := HZ3.out; omega
  have hX5 := hX4.alloc (.cells #[.int .i64 x.1, .int .i64 x.2.1, .int .i64 x.2.2] 69)
  have hR5 := hR4.alloc (.cells #[.int .i64 x.1, .int .i64 x.2.1, .int .i64 x.2.2] 69)
  have hO5 := hO4.alloc (.cells #[.int .i64 x.1, .int .i64 x.2.1, .int .i64 x.2.2] 69)
  have hT5 := Whole.new w4 #[.int .i64 x.1, .int .i64 x.2.1, .int .i64 x.2.2] 69
  have hB5 := hB4.alloc hB4.size (.cells #[.int .i64 x.1, .int .i64 x.2.1, .int .i64 x.2.2] 69)
  have hbx := hbf.trans (((Below.refl _ w4).alloc (Nat.le_refl _) (.cells #[.int .i64 x.1, .int .i64 x.2.1, .int .i64 x.2.2] 69)).mono hbf.size)
  have hz5 : (w4.alloc (.cells #[.int .i64 x.1, .int .i64 x.2.1, .int .i64 x.2.2] 69)).heap.size = w4.heap.size + 1 := by simp
  obtain ⟨w5, hw5⟩ : ∃ w5, w4.alloc (.cells #[.int .i64 x.1, .int .i64 x.2.1, .int .i64 x.2.2] 69) = w5 := ⟨_, rfl⟩
  rw [hw5] at hX5 hR5 hO5 hT5 hB5 hbx hz5
  have h5 := HH3.out.below hbx
  have q0 : w5.cell? ⟨w.heap.size, 0, none⟩ = some (.slice A n c) := hX5.cell 0
  have q1 : w5.cell? ⟨w.heap.size, 1, none⟩ = some (.int .i64 nx) := hX5.cell 1
  have t0 := hT5.cell 0
  have t1 := hT5.cell 1
  have t2 := hT5.cell 2
  clear HCALL HX3 HR3 HO3 HB3 HH3 k0 k1 hw1 hw2 hw3 hX4 hR4 hO4 hB4 hbf hbx
  have hno : decide (now < x.2.1) = false := decide_eq_false (by omega)
  obtain ⟨i, hf⟩ := fnd_of_mem (l := l) (id := x.1) (hp.mem_iff.2 (List.mem_cons_self ..)) rfl
  have hrem := rremove_yes A c l nx x.1 i w5 (by rw [← HN.out] at h5; exact h5) (by have := HN.out; omega) hf
  rw [HN.out] at hrem
  have HREM := Lib.hid hrem
  have HX5 := Lib.hid hX5
  have HR5 := Lib.hid hR5
  have HO5 := Lib.hid hO5
  have HT5 := Lib.hid hT5
  have HB5 := Lib.hid hB5
  have HZ5 := Lib.hid hz5
  clear hrem hX5 hR5 hO5 hT5 hB5 hp hx hnow h5 hf hz5
  go_wp2_with fail
  refine HREM.out.mono ?_
  rintro e w6 ⟨v', rfl, hv', hb6⟩
  obtain ⟨A6, c6, rfl⟩ := hv'.form
  have hR6 := HR5.out.below hb6 HR5.out.lt
  have hO6 := HO5.out.below hb6 HO5.out.lt
  have hT6 := HT5.out.below hb6 HT5.out.lt
  have hB6 := HB5.out.trans (hb6.mono HB5.out.size)
  have hs6 := hb6.size
  obtain ⟨m, hm⟩ : ∃ m, (del x.1 l).length = m := ⟨_, rfl⟩
  rw [hm] at hv' ⊢
  have HM := Lib.hid hm
  have hN7 := Whole.new w6 #[.slice A6 m c6, .int .i64 nx] 58
  have hR7 := hR6.alloc (.cells #[.slice A6 m c6, .int .i64 nx] 58)
  have hO7 := hO6.alloc (.cells #[.slice A6 m c6, .int .i64 nx] 58)
  have hT7 := hT6.alloc (.cells #[.slice A6 m c6, .int .i64 nx] 58)
  have hB7 := hB6.alloc hB6.size (.cells #[.slice A6 m c6, .int .i64 nx] 58)
  have hv7 := hv'.below ((Below.refl _ w6).alloc (Nat.le_refl _) (.cells #[.slice A6 m c6, .int .i64 nx] 58))
  obtain ⟨w7, hw7⟩ : ∃ w7, w6.alloc (.cells #[.slice A6 m c6, .int .i64 nx] 58) = w7 := ⟨_, rfl⟩
  rw [hw7] at hN7 hR7 hO7 hT7 hB7 hv7
  have HV7 := Lib.hid hv7
  have HN7 := Lib.hid hN7
  have HR7 := Lib.hid hR7
  have HO7 := Lib.hid hO7
  have HT7 := Lib.hid hT7
  have HB7 := Lib.hid hB7
  have HS6 := Lib.hid hs6
  clear HREM HX5 HR5 HO5 HT5 HB5 q0 q1 hR6 hO6 hT6 hB6 hv' hb6 hm hN7 hR7 hO7 hT7 hB7 hv7 hw5 hs6
  go_wp2_with fail
  have hdr : ∀ W : World, Below W.heap.size W W.drew := fun W => ⟨rfl, rfl, rfl, Nat.le_refl _, fun _ _ => rfl⟩
  have hN := HN7.out
  have hR := HR7.out
  have hO := HO7.out
  have hT := HT7.out
  have hB := HB7.out
  have hV := HV7.out
  have hSd : w7.drew.cell? ⟨w6.heap.size, 0, none⟩ = some (.slice A6 m c6) ∧ w7.drew.cell? ⟨w6.heap.size, 1, none⟩ = some (.int .i64 nx) ∧ w7.drew.cell? ⟨w4.heap.size, 0, none⟩ = some (.int .i64 x.1) ∧ w7.drew.cell? ⟨w4.heap.size, 1, none⟩ = some (.int .i64 x.2.1) ∧ w7.drew.cell? ⟨w4.heap.size, 2, none⟩ = some (.int .i64 x.2.2) := ⟨hN.cell 0, hN.cell 1, hT.cell 0, hT.cell 1, hT.cell 2⟩
  have HSd := Lib.hid hSd
  have r0 := hR.cell 0
  have r1 := hR.cell 1
  have g0 := hR.free 0
  have g1 := hR.free 1
  have s0 := hO.cell 0
  have s1 := hO.cell 1
  have s2 := hO.cell 2
  have f0 := hO.free 0
  have f1 := hO.free 1
  have f2 := hO.free 2
  have l1 := HZ1.out
  have l2 := HZ2.out
  have l5 := HZ5.out
  have l6 := HS6.out
  obtain ⟨X, hX, hRX, gX⟩ := box2r hR (.slice A6 m c6) (.int .i64 nx)
  have hOX := hO.grown gX (fun e => by simp at e; omega)
  have hTX := hT.grown gX (fun e => by simp at e; omega)
  have hNX := hN.grown gX (fun e => by simp at e; omega)
  have hBX := hB.grown gX hB.size (fun j hj => by simp at hj; omega)
  have oX := hV.turns (.of_grown gX (S := fun k => k = w1.heap.size) (fun k hk => by simpa using hk.symm)) (fun k hk e => by have := (hV.lt k hk).1; omega)
  obtain ⟨U, hU, hOU, gU⟩ := box3 hO (.int .i64 x.1) (.int .i64 x.2.1) (.int .i64 x.2.2)
  have hRU := hR.grown gU (fun e => by simp at e; omega)
  have hTU := hT.grown gU (fun e => by simp at e; omega)
  have hNU := hN.grown gU (fun e => by simp at e; omega)
  have hBU := hB.grown gU hB.size (fun j hj => by simp at hj; omega)
  have oU := hV.turns (.of_grown gU (S := fun k => k = w2.heap.size) (fun k hk => by simpa using hk.symm)) (fun k hk e => by have := (hV.lt k hk).1; omega)
  have HXS := Lib.hid (show X.drew.cell? ⟨w6.heap.size, 0, none⟩ = some (.slice A6 m c6) ∧ X.drew.cell? ⟨w6.heap.size, 1, none⟩ = some (.int .i64 nx) ∧ X.drew.cell? ⟨w4.heap.size, 0, none⟩ = some (.int .i64 x.1) ∧ X.drew.cell? ⟨w4.heap.size, 1, none⟩ = some (.int .i64 x.2.1) ∧ X.drew.cell? ⟨w4.heap.size, 2, none⟩ = some (.int .i64 x.2.2) from ⟨hNX.cell 0, hNX.cell 1, hTX.cell 0, hTX.cell 1, hTX.cell 2⟩)
  have HUS := Lib.hid (show U.drew.cell? ⟨w6.heap.size, 0, none⟩ = some (.slice A6 m c6) ∧ U.drew.cell? ⟨w6.heap.size, 1, none⟩ = some (.int .i64 nx) ∧ U.drew.cell? ⟨w4.heap.size, 0, none⟩ = some (.int .i64 x.1) ∧ U.drew.cell? ⟨w4.heap.size, 1, none⟩ = some (.int .i64 x.2.1) ∧ U.drew.cell? ⟨w4.heap.size, 2, none⟩ = some (.int .i64 x.2.2) from ⟨hNU.cell 0, hNU.cell 1, hTU.cell 0, hTU.cell 1, hTU.cell 2⟩)
  obtain ⟨Y, hY, hOY, gY⟩ := box3 hOX (.int .i64 x.1) (.int .i64 x.2.1) (.int .i64 x.2.2)
  have hRY := hRX.grown gY (fun e => by simp at e; omega)
  have hTY := hTX.grown gY (fun e => by simp at e; omega)
  have hNY := hNX.grown gY (fun e => by simp at e; omega)
  have hBY := hBX.grown gY hBX.size (fun j hj => by simp at hj; omega)
  have oY := oX.turns (.of_grown gY (S := fun k => k = w2.heap.size) (fun k hk => by simpa using hk.symm)) (fun k hk e => by have := (oX.lt k hk).1; omega)
  obtain ⟨V, hVV, hRV, gV⟩ := box2r hRU (.slice A6 m c6) (.int .i64 nx)
  have hOV := hOU.grown gV (fun e => by simp at e; omega)
  have hTV := hTU.grown gV (fun e => by simp at e; omega)
  have hNV := hNU.grown gV (fun e => by simp at e; omega)
  have hBV := hBU.grown gV hBU.size (fun j hj => by simp at hj; omega)
  have oV := oU.turns (.of_grown gV (S := fun k => k = w1.heap.size) (fun k hk => by simpa using hk.symm)) (fun k hk e => by have := (oU.lt k hk).1; omega)
  have HYS := Lib.hid (show Y.drew.cell? ⟨w6.heap.size, 0, none⟩ = some (.slice A6 m c6) ∧ Y.drew.cell? ⟨w6.heap.size, 1, none⟩ = some (.int .i64 nx) ∧ Y.drew.cell? ⟨w4.heap.size, 0, none⟩ = some (.int .i64 x.1) ∧ Y.drew.cell? ⟨w4.heap.size, 1, none⟩ = some (.int .i64 x.2.1) ∧ Y.drew.cell? ⟨w4.heap.size, 2, none⟩ = some (.int .i64 x.2.2) from ⟨hNY.cell 0, hNY.cell 1, hTY.cell 0, hTY.cell 1, hTY.cell 2⟩)
  have HVS := Lib.hid (show V.drew.cell? ⟨w6.heap.size, 0, none⟩ = some (.slice A6 m c6) ∧ V.drew.cell? ⟨w6.heap.size, 1, none⟩ = some (.int .i64 nx) ∧ V.drew.cell? ⟨w4.heap.size, 0, none⟩ = some (.int .i64 x.1) ∧ V.drew.cell? ⟨w4.heap.size, 1, none⟩ = some (.int .i64 x.2.1) ∧ V.drew.cell? ⟨w4.heap.size, 2, none⟩ = some (.int .i64 x.2.2) from ⟨hNV.cell 0, hNV.cell 1, hTV.cell 0, hTV.cell 1, hTV.cell 2⟩)
  have OY := Lib.hid (show RV Y.drew (.slice A6 m c6) (del x.1 l) from by unfold RV; rw [HM.out]; exact (oY.below (hdr Y)).lower (Nat.zero_le _))
  have DY := Lib.hid (hBY.trans ((hdr Y).mono hBY.size))
  have OV := Lib.hid (show RV V.drew (.slice A6 m c6) (del x.1 l) from by unfold RV; rw [HM.out]; exact (oV.below (hdr V)).lower (Nat.zero_le _))
  have DV := Lib.hid (hBV.trans ((hdr V).mono hBV.size))
  have xs0 := hOX.cell 0
  have xs1 := hOX.cell 1
  have xs2 := hOX.cell 2
  have xf0 := hOX.free 0
  have xf1 := hOX.free 1
  have xf2 := hOX.free 2
  have ur0 := hRU.cell 0
  have ur1 := hRU.cell 1
  have ug0 := hRU.free 0
  have ug1 := hRU.free 1
  have py0 : Y.cell? ⟨w1.heap.size, 0, none⟩ = some (.slice A6 m c6) := hRY.cell 0
  have py1 : Y.cell? ⟨w1.heap.size, 1, none⟩ = some (.int .i64 nx) := hRY.cell 1
  have py2 : Y.cell? ⟨w2.heap.size, 0, none⟩ = some (.int .i64 x.1) := hOY.cell 0
  have py3 : Y.cell? ⟨w2.heap.size, 1, none⟩ = some (.int .i64 x.2.1) := hOY.cell 1
  have py4 : Y.cell? ⟨w2.heap.size, 2, none⟩ = some (.int .i64 x.2.2) := hOY.cell 2
  have pv0 : V.cell? ⟨w1.heap.size, 0, none⟩ = some (.slice A6 m c6) := hRV.cell 0
  have pv1 : V.cell? ⟨w1.heap.size, 1, none⟩ = some (.int .i64 nx) := hRV.cell 1
  have pv2 : V.cell? ⟨w2.heap.size, 0, none⟩ = some (.int .i64 x.1) := hOV.cell 0
  have pv3 : V.cell? ⟨w2.heap.size, 1, none⟩ = some (.int .i64 x.2.1) := hOV.cell 1
  have pv4 : V.cell? ⟨w2.heap.size, 2, none⟩ = some (.int .i64 x.2.2) := hOV.cell 2
  clear hdr hN hR hO hT hB hV hSd hRX gX hOX hTX hNX hBX oX hOU gU hRU hTU hNU hBU oU hOY gY hRY hTY hNY oY hRV gV hOV hTV hNV oV hBY hBV l1 l2 l5 l6 hw7 HN7 HR7 HO7 HT7 HB7 HV7 HS6 HZ5
  refine wp_region_noPanic ?_
  refine wp_region_held_drew (S := fun W => W.cell? ⟨w6.heap.size, 0, none⟩ = some (.slice A6 m c6) ∧ W.cell? ⟨w6.heap.size, 1, none⟩ = some (.int .i64 nx) ∧ W.cell? ⟨w4.heap.size, 0, none⟩ = some (.int .i64 x.1) ∧ W.cell? ⟨w4.heap.size, 1, none⟩ = some (.int .i64 x.2.1) ∧ W.cell? ⟨w4.heap.size, 2, none⟩ = some (.int .i64 x.2.2)) (by kernel_rfl) ?_ (fun hHeld => ?_)
  · exact HSd.out
  refine wpAnyH_take (i := 0) (oi := { dst := some 33, op := Op.load 58 (Operand.tmp 9), type := 58, pos := "ref.go:68", after := #[], guard := none }) (v := ?_) rfl (by kernel_rfl) (by kernel_rfl) (by kernel_rfl) (fun _ _ _ h => h) (Or.inl ⟨by rfl, ?_⟩) (by assumption) ?_
  rotate_left 1
  · (intro w' hSw; (try dsimp only at hSw); go_simp <;> with_reducible rfl)
  try simp only [Act.put, List.setIfInBounds_toArray, List.set_cons_zero, List.set_cons_succ]
  refine wpAnyH_take (i := 1) (oi := { dst := some 34, op := Op.load 69 (Operand.tmp 7), type := 69, pos := "ref.go:68", after := #[{ on := 2, ground := Ground.gcOnly Departure.lateStores }], guard := none }) (v := ?_) rfl (by kernel_rfl) (by kernel_rfl) (by kernel_rfl) (fun _ _ _ h => h) (Or.inl ⟨by rfl, ?_⟩) (by assumption) ?_
  rotate_left 1
  · (intro w' hSw; (try dsimp only at hSw); go_simp <;> with_reducible rfl)
  try simp only [Act.put, List.setIfInBounds_toArray, List.set_cons_zero, List.set_cons_succ]
  refine wpAnyH_ready (rs := [2]) (by kernel_rfl) (by simp) ?_
  refine AllReadyH.cons (o := { dst := none, op := Op.store 58 (Operand.tmp 4) (Operand.tmp 33), type := 0, pos := "ref.go:68", after := #[{ on := 0, ground := Ground.data }, { on := 0, ground := Ground.phase }, { on := 1, ground := Ground.textOnly Departure.lateStores }], guard := none }) rfl (fun K hK => ?_) AllReadyH.nil
  go_simp
  try rw [hX]
  refine hK.out _ _ ?_ (fun hHeld => ?_)
  · exact HXS.out
  clear hK K
  try simp only [Act.put, List.setIfInBounds_toArray, List.set_cons_zero, List.set_cons_succ]
  refine wpAnyH_ready (rs := [3]) (by kernel_rfl) (by simp) ?_
  refine AllReadyH.cons (o := { dst := none, op := Op.store 69 (Operand.tmp 5) (Operand.tmp 34), type := 0, pos := "ref.go:68", after := #[{ on := 1, ground := Ground.data }, { on := 2, ground := Ground.chain }, { on := 0, ground := Ground.phase }, { on := 1, ground := Ground.phase }, { on := 2, ground := Ground.phase }], guard := none }) rfl (fun K hK => ?_) AllReadyH.nil
  go_simp
  try rw [hY]
  refine hK.out _ _ ?_ (fun hHeld => ?_)
  · exact HYS.out
  clear hK K
  try simp only [Act.put, List.setIfInBounds_toArray, List.set_cons_zero, List.set_cons_succ]
  refine wpAnyH_take (i := 4) (oi := { dst := some 6, op := Op.assign (Operand.const (Value.bool true)), type := 4, pos := "ref.go:68", after := #[{ on := 3, ground := Ground.chain }, { on := 0, ground := Ground.phase }, { on := 1, ground := Ground.phase }, { on := 2, ground := Ground.phase }, { on := 3, ground := Ground.phase }], guard := none }) (v := ?_) rfl (by kernel_rfl) (by kernel_rfl) (by kernel_rfl) (fun _ _ _ h => h) (Or.inl ⟨by rfl, ?_⟩) (by assumption) ?_
  rotate_left 1
  · (intro w' hSw; (try dsimp only at hSw); go_simp <;> with_reducible rfl)
  try simp only [Act.put, List.setIfInBounds_toArray, List.set_cons_zero, List.set_cons_succ]
  refine wpAnyH_done (by kernel_rfl) ?_ _
  refine NoPanic.normal ?_
  go_wp2_with fail
  refine bodyPost_ret (v := .tuple #[rval (.slice A6 m c6) nx, .agg #[.int .i64 x.1, .int .i64 x.2.1, .int .i64 x.2.2], .bool true]) ?_ rfl ⟨_, rfl, OY.out, DY.out⟩
  simp [results, Try.f29, go_sem, py0, py1, py2, py3, py4]
end Go.Proofs.Ytomffkdfgfenpaa
