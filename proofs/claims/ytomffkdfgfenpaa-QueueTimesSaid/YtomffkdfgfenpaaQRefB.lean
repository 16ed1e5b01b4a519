/- The reference's Again. -/
import Derived.Test.YtomffkdfgfenpaaQRef
namespace Go.Proofs.Ytomffkdfgfenpaa
open Go.RowKit

set_option maxRecDepth 100000 in
set_option maxHeartbeats 1000000 in
theorem ragain_yes (A : Option Addr) (c : Nat) (l : List T3) (nx id due : Int) (w : World) (h : RV w (.slice A l.length c) l) (hl : l.length ≤ 1000) (hnx : 0 ≤ nx ∧ nx ≤ 100000) (hi1 : 1 ≤ id) (hi2 : id ≤ nx) (hf : fnd id l = none) :
    Calls Try.prog 25 #[rval (.slice A l.length c) nx, .int .i64 id, .int .i64 due] w fun e w' => ∃ v', e = .returned (.tuple #[rval v' (nx + 1), .bool true]) ∧ RV w' v' (l ++ [(id, due, nx + 1)]) ∧ Below w.heap.size w w' := by
  obtain ⟨i0, hi0, hz0, hz1, hz2⟩ := info_parts rInfo
  have hwx : IntKind.i64.wrap (nx + 1) = nx + 1 := by rw [IntKind.wrap_i64]; omega
  obtain ⟨n, hn⟩ : ∃ n, l.length = n := ⟨_, rfl⟩
  rw [hn] at h hl
  have hb1 := (Below.refl _ w).alloc (Nat.le_refl _) (.cells #[.slice A n c, .int .i64 nx] 58)
  have hX1 := Whole.new w #[.slice A n c, .int .i64 nx] 58
  have hz1' : (w.alloc (.cells #[.slice A n c, .int .i64 nx] 58)).heap.size = w.heap.size + 1 := by simp
  obtain ⟨w1, hw1⟩ : ∃ w1, w.alloc (.cells #[.slice A n c, .int .i64 nx] 58) = w1 := ⟨_, rfl⟩
  rw [hw1] at hb1 hX1 hz1'
  have hb2 := hb1.alloc hb1.size (.cells #[.slice none 0 0, .int .i64 0] 58)
  have hX2 := hX1.alloc (.cells #[.slice none 0 0, .int .i64 0] 58)
  have hR2 := Whole.new w1 #[.slice none 0 0, .int .i64 0] 58
  have hz2' : (w1.alloc (.cells #[.slice none 0 0, .int .i64 0] 58)).heap.size = w.heap.size + 1 + 1 := by simp [hz1']
  obtain ⟨w2, hw2⟩ : ∃ w2, w1.alloc (.cells #[.slice none 0 0, .int .i64 0] 58) = w2 := ⟨_, rfl⟩
  rw [hw2] at hb2 hX2 hR2 hz2'
  have k0 : w2.cell? ⟨w.heap.size, 0, none⟩ = some (.slice A n c) := hX2.cell 0
  have k1 : w2.cell? ⟨w.heap.size, 1, none⟩ = some (.int .i64 nx) := hX2.cell 1
  have hcall := rfind_any A c l nx id w2 (by have := h.below hb2; rw [← hn] at this; exact this) (by omega)
  rw [hf, hn] at hcall
  have HCALL := Lib.hid hcall
  have hno1 : ¬ id < 1 := by omega
  have hno2 : ¬ nx < id := by omega
  have HH2 := Lib.hid (h.below hb2)
  have HX2 := Lib.hid hX2
  have HR2 := Lib.hid hR2
  have happ : trow l ++ tcells (id, due, nx + 1) = trow (l ++ [(id, due, nx + 1)]) := by rw [trow_append]; simp [trow]
  have hsl : (trow l).length = n * 3 := by rw [trow_len, hn]
  have h1l := trow_one l
  obtain ⟨xs, hxs⟩ : ∃ xs, trow l = xs := ⟨_, rfl⟩
  rw [hxs] at happ hsl h1l
  have HXS := Lib.hid hxs
  have HAPP := Lib.hid happ
  have HN := Lib.hid hn
  have HZ := Lib.hid hz2'
  have HZ1 := Lib.hid hz1'
  rw [hn]
  clear hX1 hX2 hR2 h happ hn hxs hb1 hz2' hz1' hcall hf
  go_enter Try.func25, Try.ntmps25
  go_wp2_with fail
  refine HCALL.out.mono ?_
  rintro e w2x ⟨rfl, hbf⟩
  have hb2x := hb2.trans (hbf.mono hb2.size)
  have hX2x := HX2.out.below hbf HX2.out.lt
  have hR2x := HR2.out.below hbf HR2.out.lt
  have kk1 : w2x.cell? ⟨w.heap.size, 1, none⟩ = some (.int .i64 nx) := hX2x.cell 1
  have hsz := hbf.size
  clear k0 k1 hw1 hw2
  have hb3 := hb2x.alloc hb2x.size (.cells #[] 69)
  have hX3 := hX2x.alloc (.cells #[] 69)
  have hR3 := hR2x.alloc (.cells #[] 69)
  have e3 := (empty_row w2x 69 3).lower (show w.heap.size ≤ w2x.heap.size from hb2x.size)
  have k3 : (w2x.alloc (.cells #[] 69)).cell? ⟨w.heap.size, 0, none⟩ = some (.slice A n c) := hX3.cell 0
  have s3 := ((HH2.out.below hbf).below ((Below.refl _ w2x).alloc (Nat.le_refl _) (.cells #[] 69))).source
  have hbs3 := hb3.size
  obtain ⟨w3, hw3⟩ : ∃ w3, w2x.alloc (.cells #[] 69) = w3 := ⟨_, rfl⟩
  rw [hw3] at hb3 hR3 e3 k3 s3 hbs3
  rw [HXS.out, HN.out] at s3
  have HR3 := Lib.hid hR3
  clear hX3 hR3 hX2x hR2x
  have hm : fndI none = -1 := rfl
  rw [hm]
  clear hm
  go_wp2_with (at_builtin; refine wpList_append_tail rfl _ _ 56 rfl w.heap.size 69 i0 _ 3 24 Try.underlying56 hi0 hz0 hz1 hz2 rfl (by decide) _ 0 [] rfl e3 _ n xs rfl hsl s3 h1l ?c4 ?c5 hbs3 ?_)
  case c4 => unfold maxLen; omega
  case c5 => omega
  intro v4 w4 o4 g4 _
  try simp only [Nat.zero_add, List.nil_append] at o4
  have hb4 : Below w.heap.size w w4 := hb3.grown g4 hbs3 (fun j hj => by simp [Value.ownBlock] at hj; have := HZ.out; omega)
  have hR4 := HR3.out.grown g4 (fun e => by simp [Value.ownBlock] at e; have := HZ.out; have := HZ1.out; omega)
  obtain ⟨A4, c4, rfl⟩ := o4.form
  have hb5 := (Below.refl _ w4).alloc (Nat.le_refl _) (.cells #[.int .i64 id, .int .i64 due, .int .i64 (nx + 1)] 69)
  have o5 := o4.below hb5
  have hR5 := hR4.alloc (.cells #[.int .i64 id, .int .i64 due, .int .i64 (nx + 1)] 69)
  have s5 := one_source w4 69 (tcells (id, due, nx + 1))
  have hB5 := hb4.trans (hb5.mono hb4.size)
  have hbs5 := hB5.size
  have h1t := t_one (id, due, nx + 1)
  obtain ⟨w5, hw5⟩ : ∃ w5, w4.alloc (.cells #[.int .i64 id, .int .i64 due, .int .i64 (nx + 1)] 69) = w5 := ⟨_, rfl⟩
  rw [show (tcells (id, due, nx + 1)).toArray = #[.int .i64 id, .int .i64 due, .int .i64 (nx + 1)] from rfl, hw5] at s5
  rw [hw5] at o5 hR5 hB5 hbs5
  have HR5 := Lib.hid hR5
  clear o4 g4 hR4 hb5 hb4 e3 s3 k3 hw3 hR5
  go_wp2_with (at_builtin; refine wpList_append_tail rfl _ _ 56 rfl w.heap.size 69 i0 _ 3 24 Try.underlying56 hi0 hz0 hz1 hz2 rfl (by decide) _ n xs rfl o5 _ 1 (tcells (id, due, nx + 1)) rfl rfl s5 h1t ?c4 ?c5 hbs5 ?_)
  case c4 => unfold maxLen; omega
  case c5 => omega
  intro v6 w6 o6 g6 f6
  obtain ⟨A6, c6, rfl⟩ := o6.form
  have hB6 : Below w.heap.size w w6 := hB5.grown g6 hbs5 (fun j hj => (o5.lt j hj).1)
  have hR6 := HR5.out.grown g6 (fun e => o5.unlike HR5.out (by decide) e.symm)
  obtain ⟨X, hX, hRX, gX⟩ := box2r hR6 (.slice A6 (n + 1) c6) (.int .i64 (nx + 1))
  have hBX := hB6.grown gX hB6.size (fun j hj => by simp at hj; have := HZ1.out; omega)
  have oX := o6.turns (.of_grown gX (S := fun k => k = w1.heap.size) (fun k hk => by simpa using hk.symm)) (fun k hk e => o6.unlike hR6 (by decide) (by rw [hk, e]))
  rw [HAPP.out] at oX
  have oX' : RV X (.slice A6 (n + 1) c6) (l ++ [(id, due, nx + 1)]) := by
    have h := oX.lower (Nat.zero_le _)
    unfold RV
    rw [List.length_append, HN.out]
    exact h
  have OX := Lib.hid oX'
  have r0 : w6.cell? ⟨w1.heap.size, 0, none⟩ = some (.slice none 0 0) := hR6.cell 0
  have r1 : w6.cell? ⟨w1.heap.size, 1, none⟩ = some (.int .i64 0) := hR6.cell 1
  have z0 := hR6.free 0
  have z1 := hR6.free 1
  have p0 : X.cell? ⟨w1.heap.size, 0, none⟩ = some (.slice A6 (n + 1) c6) := hRX.cell 0
  have p1 : X.cell? ⟨w1.heap.size, 1, none⟩ = some (.int .i64 (nx + 1)) := hRX.cell 1
  clear o5 s5 o6 g6 f6 oX oX' hR6 hRX gX hw5
  go_wp2_with fail
  refine bodyPost_ret (v := .tuple #[rval (.slice A6 (n + 1) c6) (nx + 1), .bool true]) ?_ rfl ⟨_, rfl, OX.out, hBX⟩
  simp [results, Try.f25, go_sem, p0, p1]
end Go.Proofs.Ytomffkdfgfenpaa
