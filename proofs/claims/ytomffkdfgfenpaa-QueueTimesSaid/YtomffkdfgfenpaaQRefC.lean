/- The reference's Again and Remove where nothing turns; Remove. -/
import Derived.Test.YtomffkdfgfenpaaQRefB
import Derived.Deep.RegionLaw
namespace Go.Proofs.Ytomffkdfgfenpaa
open Go.RowKit

set_option maxRecDepth 100000 in
set_option maxHeartbeats 1000000 in
theorem ragain_no (A : Option Addr) (c : Nat) (l : List T3) (nx id due : Int) (w : World) (h : RV w (.slice A l.length c) l) (hl : l.length ≤ 1000) (hno : ¬ (1 ≤ id ∧ id ≤ nx ∧ fnd id l = none)) :
    Calls Try.prog 25 #[rval (.slice A l.length c) nx, .int .i64 id, .int .i64 due] w fun e w' => e = .returned (.tuple #[rval (.slice A l.length c) nx, .bool false]) ∧ Below w.heap.size w w' := by
  obtain ⟨n, hn⟩ : ∃ n, l.length = n := ⟨_, rfl⟩
  rw [hn] at h hl
  have hb1 := (Below.refl _ w).alloc (Nat.le_refl _) (.cells #[.slice A n c, .int .i64 nx] 58)
  have hX1 := Whole.new w #[.slice A n c, .int .i64 nx] 58
  have hz1' : (w.alloc (.cells #[.slice A n c, .int .i64 nx] 58)).heap.size = w.heap.size + 1 := by simp
  obtain ⟨w1, hw1⟩ : ∃ w1, w.alloc (.cells #[.slice A n c, .int .i64 nx] 58) = w1 := ⟨_, rfl⟩
  rw [hw1] at hb1 hX1 hz1'
  have hb2 := hb1.alloc hb1.size (.cells #[.slice none 0 0, .int .i64 0] 58)
  have hX2 := hX1.alloc (.cells #[.slice none 0 0, .int .i64 0] 58)
  have hR2 := Whole.new w1 #[.slice none 0 0, .int .i64 0] 58
  have hz2' : (w1.alloc (.cells #[.slice none 0 0, .int .i64 0] 58)).heap.size = w.heap.size + 1 + 1 := by simp [hz1']
  obtain ⟨w2, hw2⟩ : ∃ w2, w1.alloc (.cells #[.slice none 0 0, .int .i64 0] 58) = w2 := ⟨_, rfl⟩
  rw [hw2] at hb2 hX2 hR2 hz2'
  have k0 : w2.cell? ⟨w.heap.size, 0, none⟩ = some (.slice A n c) := hX2.cell 0
  have k1 : w2.cell? ⟨w.heap.size, 1, none⟩ = some (.int .i64 nx) := hX2.cell 1
  have hcall := rfind_any A c l nx id w2 (by have := h.below hb2; rw [← hn] at this; exact this) (by omega)
  rw [hn] at hcall
  have HCALL := Lib.hid hcall
  have HX2 := Lib.hid hX2
  have HR2 := Lib.hid hR2
  have HNO := Lib.hid hno
  have HZ1 := Lib.hid hz1'
  rw [hn]
  clear hX1 hX2 hR2 h hn hb1 hz2' hz1' hcall hno
  by_cases h1 : id < 1
  · have hR := HR2.out
    have hB := hb2
    obtain ⟨X, hX, hRX, gX⟩ := box2r hR (.slice A n c) (.int .i64 nx)
    have hBX := hB.grown gX hB.size (fun j hj => by simp at hj; have := HZ1.out; omega)
    have r0 : w2.cell? ⟨w1.heap.size, 0, none⟩ = some (.slice none 0 0) := hR.cell 0
    have r1 : w2.cell? ⟨w1.heap.size, 1, none⟩ = some (.int .i64 0) := hR.cell 1
    have z0 := hR.free 0
    have z1 := hR.free 1
    have p0 : X.cell? ⟨w1.heap.size, 0, none⟩ = some (.slice A n c) := hRX.cell 0
    have p1 : X.cell? ⟨w1.heap.size, 1, none⟩ = some (.int .i64 nx) := hRX.cell 1
    clear hR hRX gX HCALL
    go_enter Try.func25, Try.ntmps25
    go_wp2_with fail
    refine bodyPost_ret (v := .tuple #[rval (.slice A n c) nx, .bool false]) ?_ rfl ⟨rfl, hBX⟩
    simp [results, Try.f25, go_sem, p0, p1]
  · by_cases h2 : nx < id
    · have hR := HR2.out
      have hB := hb2
      obtain ⟨X, hX, hRX, gX⟩ := box2r hR (.slice A n c) (.int .i64 nx)
      have hBX := hB.grown gX hB.size (fun j hj => by simp at hj; have := HZ1.out; omega)
      have r0 : w2.cell? ⟨w1.heap.size, 0, none⟩ = some (.slice none 0 0) := hR.cell 0
      have r1 : w2.cell? ⟨w1.heap.size, 1, none⟩ = some (.int .i64 0) := hR.cell 1
      have z0 := hR.free 0
      have z1 := hR.free 1
      have p0 : X.cell? ⟨w1.heap.size, 0, none⟩ = some (.slice A n c) := hRX.cell 0
      have p1 : X.cell? ⟨w1.heap.size, 1, none⟩ = some (.int .i64 nx) := hRX.cell 1
      clear hR hRX gX HCALL
      go_enter Try.func25, Try.ntmps25
      go_wp2_with fail
      refine bodyPost_ret (v := .tuple #[rval (.slice A n c) nx, .bool false]) ?_ rfl ⟨rfl, hBX⟩
      simp [results, Try.f25, go_sem, p0, p1]
    · cases hf : fnd id l with
      | none => exact absurd ⟨by omega, by omega, hf⟩ HNO.out
      | some i =>
        rw [hf] at HCALL
        clear hf
        go_enter Try.func25, Try.ntmps25
        go_wp2_with fail
        refine HCALL.out.mono ?_
        rintro e w2x ⟨rfl, hbf⟩
        have hB := hb2.trans (hbf.mono hb2.size)
        have hX2x := HX2.out.below hbf HX2.out.lt
        have hR := HR2.out.below hbf HR2.out.lt
        have q0 : w2x.cell? ⟨w.heap.size, 0, none⟩ = some (.slice A n c) := hX2x.cell 0
        have q1 : w2x.cell? ⟨w.heap.size, 1, none⟩ = some (.int .i64 nx) := hX2x.cell 1
        obtain ⟨X, hX, hRX, gX⟩ := box2r hR (.slice A n c) (.int .i64 nx)
        have hBX := hB.grown gX hB.size (fun j hj => by simp at hj; have := HZ1.out; omega)
        have r0 : w2x.cell? ⟨w1.heap.size, 0, none⟩ = some (.slice none 0 0) := hR.cell 0
        have r1 : w2x.cell? ⟨w1.heap.size, 1, none⟩ = some (.int .i64 0) := hR.cell 1
        have z0 := hR.free 0
        have z1 := hR.free 1
        have p0 : X.cell? ⟨w1.heap.size, 0, none⟩ = some (.slice A n c) := hRX.cell 0
        have p1 : X.cell? ⟨w1.heap.size, 1, none⟩ = some (.int .i64 nx) := hRX.cell 1
        have hm : fndI (some i) = (i : Int) := rfl
        rw [hm]
        have hi0 : (0 : Int) ≤ (i : Int) := by omega
        clear hm hR hRX gX hw1 hw2 k0 k1 hX2x
        go_wp2_with fail
        refine bodyPost_ret (v := .tuple #[rval (.slice A n c) nx, .bool false]) ?_ rfl ⟨rfl, hBX⟩
        simp [results, Try.f25, go_sem, p0, p1]

set_option maxRecDepth 100000 in
set_option maxHeartbeats 1000000 in
theorem rremove_no (A : Option Addr) (c : Nat) (l : List T3) (nx id : Int) (w : World) (h : RV w (.slice A l.length c) l) (hl : l.length ≤ 1000) (hf : fnd id l = none) :
    Calls Try.prog 27 #[rval (.slice A l.length c) nx, .int .i64 id] w fun e w' => e = .returned (.tuple #[rval (.slice A l.length c) nx, .bool false]) ∧ Below w.heap.size w w' := by
  obtain ⟨n, hn⟩ : ∃ n, l.length = n := ⟨_, rfl⟩
  rw [hn] at h hl
  have hb1 := (Below.refl _ w).alloc (Nat.le_refl _) (.cells #[.slice A n c, .int .i64 nx] 58)
  have hX1 := Whole.new w #[.slice A n c, .int .i64 nx] 58
  have hz1' : (w.alloc (.cells #[.slice A n c, .int .i64 nx] 58)).heap.size = w.heap.size + 1 := by simp
  obtain ⟨w1, hw1⟩ : ∃ w1, w.alloc (.cells #[.slice A n c, .int .i64 nx] 58) = w1 := ⟨_, rfl⟩
  rw [hw1] at hb1 hX1 hz1'
  have hb2 := hb1.alloc hb1.size (.cells #[.slice none 0 0, .int .i64 0] 58)
  have hX2 := hX1.alloc (.cells #[.slice none 0 0, .int .i64 0] 58)
  have hR2 := Whole.new w1 #[.slice none 0 0, .int .i64 0] 58
  have hz2' : (w1.alloc (.cells #[.slice none 0 0, .int .i64 0] 58)).heap.size = w.heap.size + 1 + 1 := by simp [hz1']
  obtain ⟨w2, hw2⟩ : ∃ w2, w1.alloc (.cells #[.slice none 0 0, .int .i64 0] 58) = w2 := ⟨_, rfl⟩
  rw [hw2] at hb2 hX2 hR2 hz2'
  have k0 : w2.cell? ⟨w.heap.size, 0, none⟩ = some (.slice A n c) := hX2.cell 0
  have k1 : w2.cell? ⟨w.heap.size, 1, none⟩ = some (.int .i64 nx) := hX2.cell 1
  have hcall := rfind_any A c l nx id w2 (by have := h.below hb2; rw [← hn] at this; exact this) (by omega)
  rw [hf, hn] at hcall
  have HCALL := Lib.hid hcall
  have HX2 := Lib.hid hX2
  have HR2 := Lib.hid hR2
  have HZ1 := Lib.hid hz1'
  rw [hn]
  clear hX1 hX2 hR2 h hn hb1 hz2' hz1' hcall hf
  go_enter Try.func27, Try.ntmps27
  go_wp2_with fail
  refine HCALL.out.mono ?_
  rintro e w2x ⟨rfl, hbf⟩
  have hB := hb2.trans (hbf.mono hb2.size)
  have hX2x := HX2.out.below hbf HX2.out.lt
  have hR := HR2.out.below hbf HR2.out.lt
  have q0 : w2x.cell? ⟨w.heap.size, 0, none⟩ = some (.slice A n c) := hX2x.cell 0
  have q1 : w2x.cell? ⟨w.heap.size, 1, none⟩ = some (.int .i64 nx) := hX2x.cell 1
  obtain ⟨X, hX, hRX, gX⟩ := box2r hR (.slice A n c) (.int .i64 nx)
  have hBX := hB.grown gX hB.size (fun j hj => by simp at hj; have := HZ1.out; omega)
  have r0 : w2x.cell? ⟨w1.heap.size, 0, none⟩ = some (.slice none 0 0) := hR.cell 0
  have r1 : w2x.cell? ⟨w1.heap.size, 1, none⟩ = some (.int .i64 0) := hR.cell 1
  have z0 := hR.free 0
  have z1 := hR.free 1
  have p0 : X.cell? ⟨w1.heap.size, 0, none⟩ = some (.slice A n c) := hRX.cell 0
  have p1 : X.cell? ⟨w1.heap.size, 1, none⟩ = some (.int .i64 nx) := hRX.cell 1
  have hm : fndI none = -1 := rfl
  rw [hm]
  clear hm hR hRX gX hw1 hw2 k0 k1 hX2x
  go_wp2_with fail
  refine bodyPost_ret (v := .tuple #[rval (.slice A n c) nx, .bool false]) ?_ rfl ⟨rfl, hBX⟩
  simp [results, Try.f27, go_sem, p0, p1]

set_option maxRecDepth 100000 in
set_option maxHeartbeats 1000000 in
theorem rremove_yes (A : Option Addr) (c : Nat) (l : List T3) (nx id : Int) (i : Nat) (w : World) (h : RV w (.slice A l.length c) l) (hl : l.length ≤ 1000) (hf : fnd id l = some i) :
    Calls Try.prog 27 #[rval (.slice A l.length c) nx, .int .i64 id] w fun e w' => ∃ v', e = .returned (.tuple #[rval v' nx, .bool true]) ∧ TR w' w.heap.size 69 3 v' (del id l).length (trow (del id l)) ∧ Below w.heap.size w w' := by
  obtain ⟨i0, hi0, hz0, hz1, hz2⟩ := info_parts rInfo
  have hlt := fnd_lt hf
  have hdel := del_some hf
  obtain ⟨n, hn⟩ : ∃ n, l.length = n := ⟨_, rfl⟩
  rw [hn] at h hl
  have hb1 := (Below.refl _ w).alloc (Nat.le_refl _) (.cells #[.slice A n c, .int .i64 nx] 58)
  have hX1 := Whole.new w #[.slice A n c, .int .i64 nx] 58
  have hz1' : (w.alloc (.cells #[.slice A n c, .int .i64 nx] 58)).heap.size = w.heap.size + 1 := by simp
  obtain ⟨w1, hw1⟩ : ∃ w1, w.alloc (.cells #[.slice A n c, .int .i64 nx] 58) = w1 := ⟨_, rfl⟩
  rw [hw1] at hb1 hX1 hz1'
  have hb2 := hb1.alloc hb1.size (.cells #[.slice none 0 0, .int .i64 0] 58)
  have hX2 := hX1.alloc (.cells #[.slice none 0 0, .int .i64 0] 58)
  have hR2 := Whole.new w1 #[.slice none 0 0, .int .i64 0] 58
  have hz2' : (w1.alloc (.cells #[.slice none 0 0, .int .i64 0] 58)).heap.size = w.heap.size + 1 + 1 := by simp [hz1']
  obtain ⟨w2, hw2⟩ : ∃ w2, w1.alloc (.cells #[.slice none 0 0, .int .i64 0] 58) = w2 := ⟨_, rfl⟩
  rw [hw2] at hb2 hX2 hR2 hz2'
  have k0 : w2.cell? ⟨w.heap.size, 0, none⟩ = some (.slice A n c) := hX2.cell 0
  have k1 : w2.cell? ⟨w.heap.size, 1, none⟩ = some (.int .i64 nx) := hX2.cell 1
  have hcall := rfind_any A c l nx id w2 (by have := h.below hb2; rw [← hn] at this; exact this) (by omega)
  rw [hf, hn] at hcall
  rw [hn] at hlt
  have HCALL := Lib.hid hcall
  have HX2 := Lib.hid hX2
  have HR2 := Lib.hid hR2
  have HH2 := Lib.hid (h.below hb2)
  have HZ1 := Lib.hid hz1'
  have HZ := Lib.hid hz2'
  have HDEL := Lib.hid hdel
  have HN := Lib.hid hn
  rw [hn]
  clear hX1 hX2 hR2 h hn hb1 hz2' hz1' hcall hf hdel
  go_enter Try.func27, Try.ntmps27
  go_wp2_with fail
  refine HCALL.out.mono ?_
  rintro e w2x ⟨rfl, hbf⟩
  have hB := hb2.trans (hbf.mono hb2.size)
  have hX2x := HX2.out.below hbf HX2.out.lt
  have q0 : w2x.cell? ⟨w.heap.size, 0, none⟩ = some (.slice A n c) := hX2x.cell 0
  have q1 : w2x.cell? ⟨w.heap.size, 1, none⟩ = some (.int .i64 nx) := hX2x.cell 1
  have hm : fndI (some i) = (i : Int) := rfl
  rw [hm]
  have hi1 : (0 : Int) ≤ (i : Int) := by omega
  have hwi : IntKind.i64.wrap ((i : Int) + 1) = (i : Int) + 1 := by rw [IntKind.wrap_i64]; omega
  clear hm hw1 hw2 k0 k1
  go_wp2_with fail
  have hr := HH2.out
  rw [HN.out] at hr
  rcases hr.addr with ⟨_, h0, _⟩ | ⟨g, off, rfl⟩
  · omega
  have hnc := hr.le
  have hrx := hr.below hbf
  have hd := (Below.refl w2x.heap.size w2x)
  have hdr : Below w2x.heap.size w2x w2x.drew := ⟨rfl, rfl, rfl, Nat.le_refl _, fun _ _ => rfl⟩
  have hda := hdr.alloc (Nat.le_refl _) (.cells #[] 69)
  have hb3 : Below w.heap.size w (w2x.drew.alloc (.cells #[] 69)) := hB.trans (hda.mono hB.size)
  have hbs3 := hb3.size
  have e3 : TR (w2x.drew.alloc (.cells #[] 69)) w.heap.size 69 3 (.slice (some ⟨w2x.heap.size, 0, none⟩) 0 0) 0 [] := (empty_row w2x.drew 69 3).lower hB.size
  have hX3 := hX2x.below hda hX2x.lt
  have HR3 := Lib.hid ((HR2.out.below hbf HR2.out.lt).below hda (HR2.out.below hbf HR2.out.lt).lt)
  have hsx : w.heap.size + 2 ≤ w2x.heap.size := by have := hbf.size; have := HZ.out; omega
  have h3 := hrx.below hda
  have hHd := h3.head (k := i) (by omega)
  have hTl := h3.tail (k := i + 1) (by omega)
  rw [trow_take] at hHd
  rw [trow_drop] at hTl
  obtain ⟨ya, hya0⟩ : ∃ ya, trow (l.take i) = ya := ⟨_, rfl⟩
  obtain ⟨yb, hyb0⟩ : ∃ yb, trow (l.drop (i + 1)) = yb := ⟨_, rfl⟩
  have h1a : ∀ u ∈ ya, u.oneCell' = true := by rw [← hya0]; exact trow_one _
  have h1b : ∀ u ∈ yb, u.oneCell' = true := by rw [← hyb0]; exact trow_one _
  have HAPP := Lib.hid (show ya ++ yb = trow (del id l) by rw [← hya0, ← hyb0, ← trow_append, HDEL.out])
  have HDL := Lib.hid (show (del id l).length = n - 1 by rw [HDEL.out, List.length_append, List.length_take, List.length_drop, HN.out]; omega)
  rw [hya0] at hHd
  rw [hyb0] at hTl
  have hya := hHd.1
  have hyb := hTl.1
  have s1 := hHd.source
  have hS0 : w2x.drew.cell? ⟨w.heap.size, 0, none⟩ = some (.slice (some ⟨g, off, none⟩) n c) ∧ w2x.drew.cell? ⟨w.heap.size, 1, none⟩ = some (.int .i64 nx) := ⟨q0, q1⟩
  have hS1 : (w2x.drew.alloc (.cells #[] 69)).cell? ⟨w.heap.size, 0, none⟩ = some (.slice (some ⟨g, off, none⟩) n c) ∧ (w2x.drew.alloc (.cells #[] 69)).cell? ⟨w.heap.size, 1, none⟩ = some (.int .i64 nx) := ⟨hX3.cell 0, hX3.cell 1⟩
  have hS4 : ∀ (w4 : World), (w2x.drew.alloc (.cells #[] 69)).grownBy w4 (Value.slice (some ⟨w2x.heap.size, 0, none⟩) 0 0).ownBlock → Whole w4 w.heap.size #[.slice (some ⟨g, off, none⟩) n c, .int .i64 nx] 58 := fun w4 g4 => hX3.grown g4 (fun e => by simp [Value.ownBlock] at e; omega)
  have HB4 := Lib.hid hS4
  have HS4 := Lib.hid fun w4 g4 => (⟨(hS4 w4 g4).cell 0, (hS4 w4 g4).cell 1⟩ : w4.cell? ⟨w.heap.size, 0, none⟩ = some (.slice (some ⟨g, off, none⟩) n c) ∧ w4.cell? ⟨w.heap.size, 1, none⟩ = some (.int .i64 nx))
  have hlg := (hrx.lt g (by simp [Value.ownBlock])).2
  have hic : (i : Int) ≤ (c : Int) := by omega
  have hi2 : (i : Int) + 1 ≤ (n : Int) := by omega
  have hi3 : (0 : Int) ≤ (i : Int) + 1 := by omega
  have hi4 : (i : Int) ≤ (i : Int) + 1 := by omega
  have ht1 : ((i : Int) + 1).toNat = i + 1 := by omega
  have HS0 := Lib.hid hS0
  have HS1 := Lib.hid hS1
  have hTs : ∀ (w4 : World), (w2x.drew.alloc (.cells #[] 69)).grownBy w4 (Value.slice (some ⟨w2x.heap.size, 0, none⟩) 0 0).ownBlock → TR w4 0 69 3 (tailV (.slice (some ⟨g, off, none⟩) n c) (i + 1) 3) (n - (i + 1)) yb := fun w4 g4 =>
    hTl.turns (.of_grown g4 (S := fun k => k = w2x.heap.size) (fun k hk => by simpa [Value.ownBlock] using hk.symm)) (fun k hk e => by rw [tailV_own] at hk; simp [Value.ownBlock] at hk; omega)
  clear hya0 hyb0 hr hrx hd hdr hda hX3 hX2x h3 hHd hTl hS0 hS1 hS4 HX2 HCALL HR2 hB q0 q1 hbf
  by_cases hc : c = i + 1
  · have HS2 := Lib.hid fun w4 g4 => (hTs w4 g4).source
    have et : tailV (.slice (some ⟨g, off, none⟩) n c) (i + 1) 3 = .slice (some ⟨g, off, none⟩) (n - (i + 1)) (c - (i + 1)) := by simp [tailV, hc]
    rw [et] at HS2
    clear hTs et
    have hn1 : n = i + 1 := by omega
    subst hn1
    subst hc
    rw [Nat.sub_self] at HS2 hyb
    rw [Nat.add_sub_cancel] at HDL
    refine wp_region_noPanic ?_
    refine wp_region_held_drew (S := fun W => W.cell? ⟨w.heap.size, 0, none⟩ = some (.slice (some ⟨g, off, none⟩) (i + 1) (i + 1)) ∧ W.cell? ⟨w.heap.size, 1, none⟩ = some (.int .i64 nx)) (by kernel_rfl) ?_ (fun hHeld => ?_)
    · exact HS0.out
    refine wpAnyH_take (i := 1) (oi := { dst := some 14, op := Op.fieldAddr 58 (Operand.tmp 2) 0, type := 0, pos := "ref.go:44", after := #[], guard := none }) (v := ?_) rfl (by kernel_rfl) (by kernel_rfl) (by kernel_rfl) (fun _ _ _ h => h) (Or.inl ⟨by rfl, ?_⟩) (by assumption) ?_
    rotate_left 1
    · (intro w' hSw; (try dsimp only at hSw); go_simp <;> with_reducible rfl)
    try simp only [Act.put, List.setIfInBounds_toArray, List.set_cons_zero, List.set_cons_succ]
    refine wpAnyH_take (i := 2) (oi := { dst := some 15, op := Op.load 56 (Operand.tmp 14), type := 56, pos := "ref.go:44", after := #[{ on := 1, ground := Ground.data }], guard := none }) (v := ?_) rfl (by kernel_rfl) (by kernel_rfl) (by kernel_rfl) (fun _ _ _ h => h) (Or.inl ⟨by rfl, ?_⟩) (by assumption) ?_
    rotate_left 1
    · (intro w' hSw; (try dsimp only at hSw); go_simp <;> with_reducible rfl)
    try simp only [Act.put, List.setIfInBounds_toArray, List.set_cons_zero, List.set_cons_succ]
    refine wpAnyH_take (i := 3) (oi := { dst := some 16, op := Op.move (Operand.tmp 6), type := 3, pos := "ref.go:44", after := #[], guard := none }) (v := ?_) rfl (by kernel_rfl) (by kernel_rfl) (by kernel_rfl) (fun _ _ _ h => h) (Or.inl ⟨by rfl, ?_⟩) (by assumption) ?_
    rotate_left 1
    · (intro w' hSw; (try dsimp only at hSw); go_simp <;> with_reducible rfl)
    try simp only [Act.put, List.setIfInBounds_toArray, List.set_cons_zero, List.set_cons_succ]
    refine wpAnyH_take (i := 4) (oi := { dst := some 17, op := Op.slice 56 (Operand.tmp 15) none (some (Operand.tmp 16)) none, type := 56, pos := "ref.go:44", after := #[{ on := 2, ground := Ground.data }, { on := 3, ground := Ground.data }], guard := none }) (v := ?_) rfl (by kernel_rfl) (by kernel_rfl) (by kernel_rfl) (fun _ _ _ h => h) (Or.inl ⟨by rfl, ?_⟩) (by assumption) ?_
    rotate_left 1
    · (intro w' hSw; (try dsimp only at hSw); go_simp <;> with_reducible rfl)
    try simp only [Act.put, List.setIfInBounds_toArray, List.set_cons_zero, List.set_cons_succ]
    refine wpAnyH_take (i := 6) (oi := { dst := some 19, op := Op.fieldAddr 58 (Operand.tmp 2) 0, type := 0, pos := "ref.go:44", after := #[], guard := none }) (v := ?_) rfl (by kernel_rfl) (by kernel_rfl) (by kernel_rfl) (fun _ _ _ h => h) (Or.inl ⟨by rfl, ?_⟩) (by assumption) ?_
    rotate_left 1
    · (intro w' hSw; (try dsimp only at hSw); go_simp <;> with_reducible rfl)
    try simp only [Act.put, List.setIfInBounds_toArray, List.set_cons_zero, List.set_cons_succ]
    refine wpAnyH_take (i := 7) (oi := { dst := some 20, op := Op.load 56 (Operand.tmp 19), type := 56, pos := "ref.go:44", after := #[{ on := 6, ground := Ground.data }], guard := none }) (v := ?_) rfl (by kernel_rfl) (by kernel_rfl) (by kernel_rfl) (fun _ _ _ h => h) (Or.inl ⟨by rfl, ?_⟩) (by assumption) ?_
    rotate_left 1
    · (intro w' hSw; (try dsimp only at hSw); go_simp <;> with_reducible rfl)
    try simp only [Act.put, List.setIfInBounds_toArray, List.set_cons_zero, List.set_cons_succ]
    refine wpAnyH_take (i := 8) (oi := { dst := some 21, op := Op.move (Operand.tmp 6), type := 3, pos := "ref.go:44", after := #[], guard := none }) (v := ?_) rfl (by kernel_rfl) (by kernel_rfl) (by kernel_rfl) (fun _ _ _ h => h) (Or.inl ⟨by rfl, ?_⟩) (by assumption) ?_
    rotate_left 1
    · (intro w' hSw; (try dsimp only at hSw); go_simp <;> with_reducible rfl)
    try simp only [Act.put, List.setIfInBounds_toArray, List.set_cons_zero, List.set_cons_succ]
    refine wpAnyH_take (i := 9) (oi := { dst := some 22, op := Op.binOp BinOp.add 3 (Operand.tmp 21) (Operand.const (Value.int IntKind.i64 1)) 3, type := 3, pos := "ref.go:44", after := #[{ on := 8, ground := Ground.data }], guard := none }) (v := ?_) rfl (by kernel_rfl) (by kernel_rfl) (by kernel_rfl) (fun _ _ _ h => h) (Or.inl ⟨by rfl, ?_⟩) (by assumption) ?_
    rotate_left 1
    · (intro w' hSw; (try dsimp only at hSw); go_simp <;> with_reducible rfl)
    try simp only [Act.put, List.setIfInBounds_toArray, List.set_cons_zero, List.set_cons_succ]
    refine wpAnyH_take (i := 10) (oi := { dst := some 23, op := Op.slice 56 (Operand.tmp 20) (some (Operand.tmp 22)) none none, type := 56, pos := "ref.go:44", after := #[{ on := 7, ground := Ground.data }, { on := 9, ground := Ground.data }], guard := none }) (v := ?_) rfl (by kernel_rfl) (by kernel_rfl) (by kernel_rfl) (fun _ _ _ h => h) (Or.inl ⟨by rfl, ?_⟩) (by assumption) ?_
    rotate_left 1
    · (intro w' hSw; (try dsimp only at hSw); go_simp <;> with_reducible rfl)
    try simp only [Act.put, List.setIfInBounds_toArray, List.set_cons_zero, List.set_cons_succ]
    refine wpAnyH_take (i := 12) (oi := { dst := some 25, op := Op.fieldAddr 58 (Operand.tmp 2) 1, type := 0, pos := "ref.go:44", after := #[], guard := none }) (v := ?_) rfl (by kernel_rfl) (by kernel_rfl) (by kernel_rfl) (fun _ _ _ h => h) (Or.inl ⟨by rfl, ?_⟩) (by assumption) ?_
    rotate_left 1
    · (intro w' hSw; (try dsimp only at hSw); go_simp <;> with_reducible rfl)
    try simp only [Act.put, List.setIfInBounds_toArray, List.set_cons_zero, List.set_cons_succ]
    refine wpAnyH_take (i := 13) (oi := { dst := some 26, op := Op.load 3 (Operand.tmp 25), type := 3, pos := "ref.go:44", after := #[{ on := 12, ground := Ground.data }], guard := none }) (v := ?_) rfl (by kernel_rfl) (by kernel_rfl) (by kernel_rfl) (fun _ _ _ h => h) (Or.inl ⟨by rfl, ?_⟩) (by assumption) ?_
    rotate_left 1
    · (intro w' hSw; (try dsimp only at hSw); go_simp <;> with_reducible rfl)
    try simp only [Act.put, List.setIfInBounds_toArray, List.set_cons_zero, List.set_cons_succ]
    refine wpAnyH_ready (rs := [0]) (by kernel_rfl) (by simp) ?_
    refine AllReadyH.cons (o := { dst := some 13, op := Op.buildSlice 56 0 #[], type := 56, pos := "ref.go:44", after := #[], guard := none }) rfl (fun K hK => ?_) AllReadyH.nil
    go_simp
    refine hK.out _ _ ?_ (fun hHeld => ?_)
    · exact HS1.out
    clear hK K
    try simp only [Act.put, List.setIfInBounds_toArray, List.set_cons_zero, List.set_cons_succ]
    refine wpAnyH_ready (rs := [5]) (by kernel_rfl) (by simp) ?_
    refine AllReadyH.cons (o := { dst := some 18, op := Op.call { callee := Callee.builtin Builtin.append, args := #[Operand.tmp 13, Operand.tmp 17], argTypes := #[56, 56] }, type := 56, pos := "ref.go:44", after := #[{ on := 0, ground := Ground.data }, { on := 4, ground := Ground.data }], guard := none }) rfl (fun K hK => ?_) AllReadyH.nil
    refine step_append_tail rfl _ _ 56 rfl w.heap.size 69 i0 _ 3 24 Try.underlying56 hi0 hz0 hz1 hz2 rfl (by decide) _ 0 [] rfl e3 _ i ya rfl hya s1 h1a ?c4 ?c5 hbs3 ?_
    case c4 => unfold maxLen; omega
    case c5 => omega
    intro v4 w4 o4 g4x _
    have g4 : (w2x.drew.alloc (.cells #[] 69)).grownBy w4 (Value.slice (some ⟨w2x.heap.size, 0, none⟩) 0 0).ownBlock := g4x
    clear g4x
    try simp only [Nat.zero_add, List.nil_append] at o4
    obtain ⟨A4, c4, rfl⟩ := o4.form
    have hb4 : Below w.heap.size w w4 := hb3.grown g4 hbs3 (fun j hj => by simp [Value.ownBlock] at hj; omega)
    have s2 := HS2.out w4 g4
    have hbs4 := hb4.size
    have HR4 := Lib.hid (HR3.out.grown g4 (fun e => by simp [Value.ownBlock] at e; have := HZ1.out; have := hsx; omega))
    have hK4 := HB4.out w4 g4
    refine hK.out _ _ ?_ (fun hHeld => ?_)
    · exact HS4.out w4 g4
    clear hK K
    try simp only [Act.put, List.setIfInBounds_toArray, List.set_cons_zero, List.set_cons_succ]
    refine wpAnyH_ready (rs := [11]) (by kernel_rfl) (by simp) ?_
    refine AllReadyH.cons (o := { dst := some 24, op := Op.call { callee := Callee.builtin Builtin.append, args := #[Operand.tmp 18, Operand.tmp 23], argTypes := #[56, 56] }, type := 56, pos := "ref.go:44", after := #[{ on := 5, ground := Ground.data }, { on := 10, ground := Ground.data }, { on := 5, ground := Ground.chain }], guard := none }) rfl (fun K hK => ?_) AllReadyH.nil
    refine step_append_tail rfl _ _ 56 rfl w.heap.size 69 i0 _ 3 24 Try.underlying56 hi0 hz0 hz1 hz2 rfl (by decide) _ i ya rfl o4 _ 0 yb rfl hyb s2 h1b ?c4 ?c5 hbs4 ?_
    case c4 => unfold maxLen; omega
    case c5 => omega
    have HS6 := fun (w6 : World) (g6 : w4.grownBy w6 (Value.slice A4 i c4).ownBlock) => (⟨(hK4.grown g6 (fun e => o4.unlike hK4 (by decide) e.symm)).cell 0, (hK4.grown g6 (fun e => o4.unlike hK4 (by decide) e.symm)).cell 1⟩ : w6.cell? ⟨w.heap.size, 0, none⟩ = some (.slice (some ⟨g, off, none⟩) (i + 1) (i + 1)) ∧ w6.cell? ⟨w.heap.size, 1, none⟩ = some (.int .i64 nx))
    intro v6 w6 o6 g6 _
    obtain ⟨A6, c6, rfl⟩ := o6.form
    have hK6 := hK4.grown g6 (fun e => o4.unlike hK4 (by decide) e.symm)
    have hR6 := HR4.out.grown g6 (fun e => o4.unlike HR4.out (by decide) e.symm)
    have hB6 : Below w.heap.size w w6 := hb4.grown g6 hbs4 (fun j hj => (o4.lt j hj).1)
    have HO6 := Lib.hid o6
    have HK6 := Lib.hid hK6
    refine hK.out _ _ ?_ (fun hHeld => ?_)
    · exact HS6 w6 g6
    clear hK K
    try simp only [Act.put, List.setIfInBounds_toArray, List.set_cons_zero, List.set_cons_succ]
    refine wpAnyH_take (i := 14) (oi := { dst := some 27, op := Op.build 58 #[(0, Operand.tmp 24), (1, Operand.tmp 26)], type := 58, pos := "ref.go:44", after := #[{ on := 11, ground := Ground.data }, { on := 13, ground := Ground.data }], guard := none }) (v := ?_) rfl (by kernel_rfl) (by kernel_rfl) (by kernel_rfl) (fun _ _ _ h => h) (Or.inl ⟨by rfl, ?_⟩) (by assumption) ?_
    rotate_left 1
    · (intro w' hSw; (try dsimp only at hSw); go_simp <;> with_reducible rfl)
    try simp only [Act.put, List.setIfInBounds_toArray, List.set_cons_zero, List.set_cons_succ]
    have hnn : i = i := rfl
    obtain ⟨X, hX, hRX, gX⟩ := box2r hR6 (.slice A6 i c6) (.int .i64 nx)
    have hBX := hB6.grown gX hB6.size (fun j hj => by simp at hj; have := HZ1.out; omega)
    have hKX := HK6.out.grown gX (fun e => by simp at e; have := HZ1.out; omega)
    have oX := HO6.out.turns (.of_grown gX (S := fun k => k = w1.heap.size) (fun k hk => by simpa using hk.symm)) (fun k hk e => HO6.out.unlike hR6 (by decide) (by rw [hk, e]))
    rw [HAPP.out] at oX
    have oX' : TR X w.heap.size 69 3 (.slice A6 i c6) (del id l).length (trow (del id l)) := by
      have h := oX
      rw [HDL.out]
      exact h
    have OX := Lib.hid oX'
    have r0 : w6.cell? ⟨w1.heap.size, 0, none⟩ = some (.slice none 0 0) := hR6.cell 0
    have r1 : w6.cell? ⟨w1.heap.size, 1, none⟩ = some (.int .i64 0) := hR6.cell 1
    have z0 := hR6.free 0
    have z1 := hR6.free 1
    have p0 : X.cell? ⟨w1.heap.size, 0, none⟩ = some (.slice A6 i c6) := hRX.cell 0
    have p1 : X.cell? ⟨w1.heap.size, 1, none⟩ = some (.int .i64 nx) := hRX.cell 1
    have kX : X.cell? ⟨w.heap.size, 0, none⟩ = some (.slice (some ⟨g, off, none⟩) (i + 1) (i + 1)) ∧ X.cell? ⟨w.heap.size, 1, none⟩ = some (.int .i64 nx) := ⟨hKX.cell 0, hKX.cell 1⟩
    clear o6 g6 oX oX' hR6 hRX gX hK6 hKX o4 g4 s2 hK4 hnn
    refine wpAnyH_ready (rs := [15]) (by kernel_rfl) (by simp) ?_
    refine AllReadyH.cons (o := { dst := none, op := Op.store 58 (Operand.tmp 4) (Operand.tmp 27), type := 0, pos := "ref.go:44", after := #[{ on := 14, ground := Ground.data }, { on := 11, ground := Ground.chain }, { on := 0, ground := Ground.phase }, { on := 1, ground := Ground.phase }, { on := 2, ground := Ground.phase }, { on := 3, ground := Ground.phase }, { on := 4, ground := Ground.phase }, { on := 5, ground := Ground.phase }, { on := 6, ground := Ground.phase }, { on := 7, ground := Ground.phase }, { on := 8, ground := Ground.phase }, { on := 9, ground := Ground.phase }, { on := 10, ground := Ground.phase }, { on := 11, ground := Ground.phase }, { on := 12, ground := Ground.phase }, { on := 13, ground := Ground.phase }, { on := 14, ground := Ground.phase }], guard := none }) rfl (fun K hK => ?_) AllReadyH.nil
    go_simp
    refine hK.out _ _ ?_ (fun hHeld => ?_)
    · exact kX
    clear hK K
    try simp only [Act.put, List.setIfInBounds_toArray, List.set_cons_zero, List.set_cons_succ]
    refine wpAnyH_take (i := 16) (oi := { dst := some 5, op := Op.assign (Operand.const (Value.bool true)), type := 4, pos := "ref.go:44", after := #[{ on := 15, ground := Ground.chain }, { on := 0, ground := Ground.phase }, { on := 1, ground := Ground.phase }, { on := 2, ground := Ground.phase }, { on := 3, ground := Ground.phase }, { on := 4, ground := Ground.phase }, { on := 5, ground := Ground.phase }, { on := 6, ground := Ground.phase }, { on := 7, ground := Ground.phase }, { on := 8, ground := Ground.phase }, { on := 9, ground := Ground.phase }, { on := 10, ground := Ground.phase }, { on := 11, ground := Ground.phase }, { on := 12, ground := Ground.phase }, { on := 13, ground := Ground.phase }, { on := 14, ground := Ground.phase }, { on := 15, ground := Ground.phase }], guard := none }) (v := ?_) rfl (by kernel_rfl) (by kernel_rfl) (by kernel_rfl) (fun _ _ _ h => h) (Or.inl ⟨by rfl, ?_⟩) (by assumption) ?_
    rotate_left 1
    · (intro w' hSw; (try dsimp only at hSw); go_simp <;> with_reducible rfl)
    try simp only [Act.put, List.setIfInBounds_toArray, List.set_cons_zero, List.set_cons_succ]
    refine wpAnyH_done (by kernel_rfl) ?_ _
    refine NoPanic.normal ?_
    go_wp2_with fail
    refine bodyPost_ret (v := .tuple #[rval (.slice A6 i c6) nx, .bool true]) ?_ rfl ⟨_, rfl, OX.out, hBX⟩
    simp [results, Try.f27, go_sem, p0, p1]
  · have HS2 := Lib.hid fun w4 g4 => (hTs w4 g4).source
    have et : tailV (.slice (some ⟨g, off, none⟩) n c) (i + 1) 3 = .slice (some ⟨g, off + (i + 1) * 3, none⟩) (n - (i + 1)) (c - (i + 1)) := by simp [tailV, hc, Addr.add]
    rw [et] at HS2
    clear hTs et
    refine wp_region_noPanic ?_
    refine wp_region_held_drew (S := fun W => W.cell? ⟨w.heap.size, 0, none⟩ = some (.slice (some ⟨g, off, none⟩) n c) ∧ W.cell? ⟨w.heap.size, 1, none⟩ = some (.int .i64 nx)) (by kernel_rfl) ?_ (fun hHeld => ?_)
    · exact HS0.out
    refine wpAnyH_take (i := 1) (oi := { dst := some 14, op := Op.fieldAddr 58 (Operand.tmp 2) 0, type := 0, pos := "ref.go:44", after := #[], guard := none }) (v := ?_) rfl (by kernel_rfl) (by kernel_rfl) (by kernel_rfl) (fun _ _ _ h => h) (Or.inl ⟨by rfl, ?_⟩) (by assumption) ?_
    rotate_left 1
    · (intro w' hSw; (try dsimp only at hSw); go_simp <;> with_reducible rfl)
    try simp only [Act.put, List.setIfInBounds_toArray, List.set_cons_zero, List.set_cons_succ]
    refine wpAnyH_take (i := 2) (oi := { dst := some 15, op := Op.load 56 (Operand.tmp 14), type := 56, pos := "ref.go:44", after := #[{ on := 1, ground := Ground.data }], guard := none }) (v := ?_) rfl (by kernel_rfl) (by kernel_rfl) (by kernel_rfl) (fun _ _ _ h => h) (Or.inl ⟨by rfl, ?_⟩) (by assumption) ?_
    rotate_left 1
    · (intro w' hSw; (try dsimp only at hSw); go_simp <;> with_reducible rfl)
    try simp only [Act.put, List.setIfInBounds_toArray, List.set_cons_zero, List.set_cons_succ]
    refine wpAnyH_take (i := 3) (oi := { dst := some 16, op := Op.move (Operand.tmp 6), type := 3, pos := "ref.go:44", after := #[], guard := none }) (v := ?_) rfl (by kernel_rfl) (by kernel_rfl) (by kernel_rfl) (fun _ _ _ h => h) (Or.inl ⟨by rfl, ?_⟩) (by assumption) ?_
    rotate_left 1
    · (intro w' hSw; (try dsimp only at hSw); go_simp <;> with_reducible rfl)
    try simp only [Act.put, List.setIfInBounds_toArray, List.set_cons_zero, List.set_cons_succ]
    refine wpAnyH_take (i := 4) (oi := { dst := some 17, op := Op.slice 56 (Operand.tmp 15) none (some (Operand.tmp 16)) none, type := 56, pos := "ref.go:44", after := #[{ on := 2, ground := Ground.data }, { on := 3, ground := Ground.data }], guard := none }) (v := ?_) rfl (by kernel_rfl) (by kernel_rfl) (by kernel_rfl) (fun _ _ _ h => h) (Or.inl ⟨by rfl, ?_⟩) (by assumption) ?_
    rotate_left 1
    · (intro w' hSw; (try dsimp only at hSw); go_simp <;> with_reducible rfl)
    try simp only [Act.put, List.setIfInBounds_toArray, List.set_cons_zero, List.set_cons_succ]
    refine wpAnyH_take (i := 6) (oi := { dst := some 19, op := Op.fieldAddr 58 (Operand.tmp 2) 0, type := 0, pos := "ref.go:44", after := #[], guard := none }) (v := ?_) rfl (by kernel_rfl) (by kernel_rfl) (by kernel_rfl) (fun _ _ _ h => h) (Or.inl ⟨by rfl, ?_⟩) (by assumption) ?_
    rotate_left 1
    · (intro w' hSw; (try dsimp only at hSw); go_simp <;> with_reducible rfl)
    try simp only [Act.put, List.setIfInBounds_toArray, List.set_cons_zero, List.set_cons_succ]
    refine wpAnyH_take (i := 7) (oi := { dst := some 20, op := Op.load 56 (Operand.tmp 19), type := 56, pos := "ref.go:44", after := #[{ on := 6, ground := Ground.data }], guard := none }) (v := ?_) rfl (by kernel_rfl) (by kernel_rfl) (by kernel_rfl) (fun _ _ _ h => h) (Or.inl ⟨by rfl, ?_⟩) (by assumption) ?_
    rotate_left 1
    · (intro w' hSw; (try dsimp only at hSw); go_simp <;> with_reducible rfl)
    try simp only [Act.put, List.setIfInBounds_toArray, List.set_cons_zero, List.set_cons_succ]
    refine wpAnyH_take (i := 8) (oi := { dst := some 21, op := Op.move (Operand.tmp 6), type := 3, pos := "ref.go:44", after := #[], guard := none }) (v := ?_) rfl (by kernel_rfl) (by kernel_rfl) (by kernel_rfl) (fun _ _ _ h => h) (Or.inl ⟨by rfl, ?_⟩) (by assumption) ?_
    rotate_left 1
    · (intro w' hSw; (try dsimp only at hSw); go_simp <;> with_reducible rfl)
    try simp only [Act.put, List.setIfInBounds_toArray, List.set_cons_zero, List.set_cons_succ]
    refine wpAnyH_take (i := 9) (oi := { dst := some 22, op := Op.binOp BinOp.add 3 (Operand.tmp 21) (Operand.const (Value.int IntKind.i64 1)) 3, type := 3, pos := "ref.go:44", after := #[{ on := 8, ground := Ground.data }], guard := none }) (v := ?_) rfl (by kernel_rfl) (by kernel_rfl) (by kernel_rfl) (fun _ _ _ h => h) (Or.inl ⟨by rfl, ?_⟩) (by assumption) ?_
    rotate_left 1
    · (intro w' hSw; (try dsimp only at hSw); go_simp <;> with_reducible rfl)
    try simp only [Act.put, List.setIfInBounds_toArray, List.set_cons_zero, List.set_cons_succ]
    refine wpAnyH_take (i := 10) (oi := { dst := some 23, op := Op.slice 56 (Operand.tmp 20) (some (Operand.tmp 22)) none none, type := 56, pos := "ref.go:44", after := #[{ on := 7, ground := Ground.data }, { on := 9, ground := Ground.data }], guard := none }) (v := ?_) rfl (by kernel_rfl) (by kernel_rfl) (by kernel_rfl) (fun _ _ _ h => h) (Or.inl ⟨by rfl, ?_⟩) (by assumption) ?_
    rotate_left 1
    · (intro w' hSw; (try dsimp only at hSw); go_simp <;> with_reducible rfl)
    try simp only [Act.put, List.setIfInBounds_toArray, List.set_cons_zero, List.set_cons_succ]
    refine wpAnyH_take (i := 12) (oi := { dst := some 25, op := Op.fieldAddr 58 (Operand.tmp 2) 1, type := 0, pos := "ref.go:44", after := #[], guard := none }) (v := ?_) rfl (by kernel_rfl) (by kernel_rfl) (by kernel_rfl) (fun _ _ _ h => h) (Or.inl ⟨by rfl, ?_⟩) (by assumption) ?_
    rotate_left 1
    · (intro w' hSw; (try dsimp only at hSw); go_simp <;> with_reducible rfl)
    try simp only [Act.put, List.setIfInBounds_toArray, List.set_cons_zero, List.set_cons_succ]
    refine wpAnyH_take (i := 13) (oi := { dst := some 26, op := Op.load 3 (Operand.tmp 25), type := 3, pos := "ref.go:44", after := #[{ on := 12, ground := Ground.data }], guard := none }) (v := ?_) rfl (by kernel_rfl) (by kernel_rfl) (by kernel_rfl) (fun _ _ _ h => h) (Or.inl ⟨by rfl, ?_⟩) (by assumption) ?_
    rotate_left 1
    · (intro w' hSw; (try dsimp only at hSw); go_simp <;> with_reducible rfl)
    try simp only [Act.put, List.setIfInBounds_toArray, List.set_cons_zero, List.set_cons_succ]
    refine wpAnyH_ready (rs := [0]) (by kernel_rfl) (by simp) ?_
    refine AllReadyH.cons (o := { dst := some 13, op := Op.buildSlice 56 0 #[], type := 56, pos := "ref.go:44", after := #[], guard := none }) rfl (fun K hK => ?_) AllReadyH.nil
    go_simp
    refine hK.out _ _ ?_ (fun hHeld => ?_)
    · exact HS1.out
    clear hK K
    try simp only [Act.put, List.setIfInBounds_toArray, List.set_cons_zero, List.set_cons_succ]
    refine wpAnyH_ready (rs := [5]) (by kernel_rfl) (by simp) ?_
    refine AllReadyH.cons (o := { dst := some 18, op := Op.call { callee := Callee.builtin Builtin.append, args := #[Operand.tmp 13, Operand.tmp 17], argTypes := #[56, 56] }, type := 56, pos := "ref.go:44", after := #[{ on := 0, ground := Ground.data }, { on := 4, ground := Ground.data }], guard := none }) rfl (fun K hK => ?_) AllReadyH.nil
    refine step_append_tail rfl _ _ 56 rfl w.heap.size 69 i0 _ 3 24 Try.underlying56 hi0 hz0 hz1 hz2 rfl (by decide) _ 0 [] rfl e3 _ i ya rfl hya s1 h1a ?c4 ?c5 hbs3 ?_
    case c4 => unfold maxLen; omega
    case c5 => omega
    intro v4 w4 o4 g4x _
    have g4 : (w2x.drew.alloc (.cells #[] 69)).grownBy w4 (Value.slice (some ⟨w2x.heap.size, 0, none⟩) 0 0).ownBlock := g4x
    clear g4x
    try simp only [Nat.zero_add, List.nil_append] at o4
    obtain ⟨A4, c4, rfl⟩ := o4.form
    have hb4 : Below w.heap.size w w4 := hb3.grown g4 hbs3 (fun j hj => by simp [Value.ownBlock] at hj; omega)
    have s2 := HS2.out w4 g4
    have hbs4 := hb4.size
    have HR4 := Lib.hid (HR3.out.grown g4 (fun e => by simp [Value.ownBlock] at e; have := HZ1.out; have := hsx; omega))
    have hK4 := HB4.out w4 g4
    refine hK.out _ _ ?_ (fun hHeld => ?_)
    · exact HS4.out w4 g4
    clear hK K
    try simp only [Act.put, List.setIfInBounds_toArray, List.set_cons_zero, List.set_cons_succ]
    refine wpAnyH_ready (rs := [11]) (by kernel_rfl) (by simp) ?_
    refine AllReadyH.cons (o := { dst := some 24, op := Op.call { callee := Callee.builtin Builtin.append, args := #[Operand.tmp 18, Operand.tmp 23], argTypes := #[56, 56] }, type := 56, pos := "ref.go:44", after := #[{ on := 5, ground := Ground.data }, { on := 10, ground := Ground.data }, { on := 5, ground := Ground.chain }], guard := none }) rfl (fun K hK => ?_) AllReadyH.nil
    refine step_append_tail rfl _ _ 56 rfl w.heap.size 69 i0 _ 3 24 Try.underlying56 hi0 hz0 hz1 hz2 rfl (by decide) _ i ya rfl o4 _ (n - (i + 1)) yb rfl hyb s2 h1b ?c4 ?c5 hbs4 ?_
    case c4 => unfold maxLen; omega
    case c5 => omega
    have HS6 := fun (w6 : World) (g6 : w4.grownBy w6 (Value.slice A4 i c4).ownBlock) => (⟨(hK4.grown g6 (fun e => o4.unlike hK4 (by decide) e.symm)).cell 0, (hK4.grown g6 (fun e => o4.unlike hK4 (by decide) e.symm)).cell 1⟩ : w6.cell? ⟨w.heap.size, 0, none⟩ = some (.slice (some ⟨g, off, none⟩) n c) ∧ w6.cell? ⟨w.heap.size, 1, none⟩ = some (.int .i64 nx))
    intro v6 w6 o6 g6 _
    obtain ⟨A6, c6, rfl⟩ := o6.form
    have hK6 := hK4.grown g6 (fun e => o4.unlike hK4 (by decide) e.symm)
    have hR6 := HR4.out.grown g6 (fun e => o4.unlike HR4.out (by decide) e.symm)
    have hB6 : Below w.heap.size w w6 := hb4.grown g6 hbs4 (fun j hj => (o4.lt j hj).1)
    have HO6 := Lib.hid o6
    have HK6 := Lib.hid hK6
    refine hK.out _ _ ?_ (fun hHeld => ?_)
    · exact HS6 w6 g6
    clear hK K
    try simp only [Act.put, List.setIfInBounds_toArray, List.set_cons_zero, List.set_cons_succ]
    refine wpAnyH_take (i := 14) (oi := { dst := some 27, op := Op.build 58 #[(0, Operand.tmp 24), (1, Operand.tmp 26)], type := 58, pos := "ref.go:44", after := #[{ on := 11, ground := Ground.data }, { on := 13, ground := Ground.data }], guard := none }) (v := ?_) rfl (by kernel_rfl) (by kernel_rfl) (by kernel_rfl) (fun _ _ _ h => h) (Or.inl ⟨by rfl, ?_⟩) (by assumption) ?_
    rotate_left 1
    · (intro w' hSw; (try dsimp only at hSw); go_simp <;> with_reducible rfl)
    try simp only [Act.put, List.setIfInBounds_toArray, List.set_cons_zero, List.set_cons_succ]
    have hnn : i + (n - (i + 1)) = n - 1 := by omega
    obtain ⟨X, hX, hRX, gX⟩ := box2r hR6 (.slice A6 (i + (n - (i + 1))) c6) (.int .i64 nx)
    have hBX := hB6.grown gX hB6.size (fun j hj => by simp at hj; have := HZ1.out; omega)
    have hKX := HK6.out.grown gX (fun e => by simp at e; have := HZ1.out; omega)
    have oX := HO6.out.turns (.of_grown gX (S := fun k => k = w1.heap.size) (fun k hk => by simpa using hk.symm)) (fun k hk e => HO6.out.unlike hR6 (by decide) (by rw [hk, e]))
    rw [HAPP.out] at oX
    have oX' : TR X w.heap.size 69 3 (.slice A6 (n - 1) c6) (del id l).length (trow (del id l)) := by
      have h := oX
      rw [HDL.out, ← hnn]
      exact h
    have OX := Lib.hid oX'
    have r0 : w6.cell? ⟨w1.heap.size, 0, none⟩ = some (.slice none 0 0) := hR6.cell 0
    have r1 : w6.cell? ⟨w1.heap.size, 1, none⟩ = some (.int .i64 0) := hR6.cell 1
    have z0 := hR6.free 0
    have z1 := hR6.free 1
    have p0 : X.cell? ⟨w1.heap.size, 0, none⟩ = some (.slice A6 (n - 1) c6) := by rw [← hnn]; exact hRX.cell 0
    have p1 : X.cell? ⟨w1.heap.size, 1, none⟩ = some (.int .i64 nx) := hRX.cell 1
    have kX : X.cell? ⟨w.heap.size, 0, none⟩ = some (.slice (some ⟨g, off, none⟩) n c) ∧ X.cell? ⟨w.heap.size, 1, none⟩ = some (.int .i64 nx) := ⟨hKX.cell 0, hKX.cell 1⟩
    clear o6 g6 oX oX' hR6 hRX gX hK6 hKX o4 g4 s2 hK4 hnn
    refine wpAnyH_ready (rs := [15]) (by kernel_rfl) (by simp) ?_
    refine AllReadyH.cons (o := { dst := none, op := Op.store 58 (Operand.tmp 4) (Operand.tmp 27), type := 0, pos := "ref.go:44", after := #[{ on := 14, ground := Ground.data }, { on := 11, ground := Ground.chain }, { on := 0, ground := Ground.phase }, { on := 1, ground := Ground.phase }, { on := 2, ground := Ground.phase }, { on := 3, ground := Ground.phase }, { on := 4, ground := Ground.phase }, { on := 5, ground := Ground.phase }, { on := 6, ground := Ground.phase }, { on := 7, ground := Ground.phase }, { on := 8, ground := Ground.phase }, { on := 9, ground := Ground.phase }, { on := 10, ground := Ground.phase }, { on := 11, ground := Ground.phase }, { on := 12, ground := Ground.phase }, { on := 13, ground := Ground.phase }, { on := 14, ground := Ground.phase }], guard := none }) rfl (fun K hK => ?_) AllReadyH.nil
    go_simp
    refine hK.out _ _ ?_ (fun hHeld => ?_)
    · exact kX
    clear hK K
    try simp only [Act.put, List.setIfInBounds_toArray, List.set_cons_zero, List.set_cons_succ]
    refine wpAnyH_take (i := 16) (oi := { dst := some 5, op := Op.assign (Operand.const (Value.bool true)), type := 4, pos := "ref.go:44", after := #[{ on := 15, ground := Ground.chain }, { on := 0, ground := Ground.phase }, { on := 1, ground := Ground.phase }, { on := 2, ground := Ground.phase }, { on := 3, ground := Ground.phase }, { on := 4, ground := Ground.phase }, { on := 5, ground := Ground.phase }, { on := 6, ground := Ground.phase }, { on := 7, ground := Ground.phase }, { on := 8, ground := Ground.phase }, { on := 9, ground := Ground.phase }, { on := 10, ground := Ground.phase }, { on := 11, ground := Ground.phase }, { on := 12, ground := Ground.phase }, { on := 13, ground := Ground.phase }, { on := 14, ground := Ground.phase }, { on := 15, ground := Ground.phase }], guard := none }) (v := ?_) rfl (by kernel_rfl) (by kernel_rfl) (by kernel_rfl) (fun _ _ _ h => h) (Or.inl ⟨by rfl, ?_⟩) (by assumption) ?_
    rotate_left 1
    · (intro w' hSw; (try dsimp only at hSw); go_simp <;> with_reducible rfl)
    try simp only [Act.put, List.setIfInBounds_toArray, List.set_cons_zero, List.set_cons_succ]
    refine wpAnyH_done (by kernel_rfl) ?_ _
    refine NoPanic.normal ?_
    go_wp2_with fail
    refine bodyPost_ret (v := .tuple #[rval (.slice A6 (n - 1) c6) nx, .bool true]) ?_ rfl ⟨_, rfl, OX.out, hBX⟩
    simp [results, Try.f27, go_sem, p0, p1]
end Go.Proofs.Ytomffkdfgfenpaa
