/- The timer set's insert and Add. -/
import Derived.Test.YtomffkdfgfenpaaQTm
import Derived.Test.YtomffkdfgfenpaaQGenI
namespace Go.Proofs.Ytomffkdfgfenpaa
open Go.RowKit

theorem ptr_below {base : Nat} {w w' : World} {Q : Nat} {v : Value} {l : List T3} {nx : Int} {B3 B5 : Nat} {due : Int} (h : TM base w Q v l nx) (h3 : Whole w B3 #[.pointer (some ⟨Q, 0, none⟩)] 79) (h5 : Whole w B5 #[.int .i64 due] 3) (hb : Below w.heap.size w w') :
    w'.cell? ⟨B3, 0, none⟩ = some (.pointer (some ⟨Q, 0, none⟩)) ∧ w'.cell? ⟨B5, 0, none⟩ = some (.int .i64 due) ∧ w'.cell? ⟨Q, 0, none⟩ = some v ∧ w'.cell? ⟨Q, 1, none⟩ = some (.int .i64 nx) :=
  ⟨(h3.below hb h3.lt).cell 0, (h5.below hb h5.lt).cell 0, (h.below hb).cells.1, (h.below hb).cells.2.1⟩
theorem ptr_below' {base : Nat} {w w' : World} {Q : Nat} {v : Value} {l : List T3} {nx : Int} {B3 B5 : Nat} {due : Int} (h : TM base w Q v l nx) (h3 : Whole w B3 #[.pointer (some ⟨Q, 0, none⟩)] 79) (h5 : Whole w B5 #[.int .i64 due] 3) (hb : Below w.heap.size w w') :
    w'.cell? ⟨B3, 0, none⟩ = some (.pointer (some ⟨Q, 0, none⟩)) ∧ w'.cell? ⟨B5, 0, none⟩ = some (.int .i64 due) ∧ w'.cell? ⟨Q, 1, none⟩ = some (.int .i64 nx) :=
  ⟨(h3.below hb h3.lt).cell 0, (h5.below hb h5.lt).cell 0, (h.below hb).cells.2.1⟩

set_option maxRecDepth 100000 in
set_option maxHeartbeats 1000000 in
theorem tinsert_any (base Q : Nat) (v : Value) (l : List T3) (nx id due : Int) (w : World) (h : TM base w Q v l nx) (hb : base ≤ w.heap.size) (hs : Srt l) (hl : l.length ≤ 900) (hnx : 0 ≤ nx ∧ nx ≤ 100000) :
    Calls Try.prog 38 #[.pointer (some ⟨Q, 0, none⟩), .int .i64 id, .int .i64 due] w fun e w' => e = .returned (.tuple #[]) ∧ ∃ v', TM base w' Q v' (ins (id, due, nx + 1) l) (nx + 1) ∧ AStep w w' (Foot Q v) (Foot Q v') := by
  have hw1 : IntKind.i64.wrap (nx + 1) = nx + 1 := by rw [IntKind.wrap_i64]; omega
  have hB1 := (Below.refl _ w).alloc (Nat.le_refl _) (.cells #[.pointer (some ⟨Q, 0, none⟩)] 79)
  have hP1 := Whole.new w #[.pointer (some ⟨Q, 0, none⟩)] 79
  obtain ⟨W1, hW1⟩ : ∃ W1, w.alloc (.cells #[.pointer (some ⟨Q, 0, none⟩)] 79) = W1 := ⟨_, rfl⟩
  have hz1 : W1.heap.size = w.heap.size + 1 := by rw [← hW1]; simp
  rw [hW1] at hB1 hP1
  have hB2 := hB1.alloc (by omega) (.cells #[.int .i64 due] 3)
  have hD2 := Whole.new W1 #[.int .i64 due] 3
  have hP2 := hP1.alloc (.cells #[.int .i64 due] 3)
  obtain ⟨W2, hW2⟩ : ∃ W2, W1.alloc (.cells #[.int .i64 due] 3) = W2 := ⟨_, rfl⟩
  rw [hW2] at hB2 hD2 hP2
  have hT2 := h.below hB2
  have hW : (w.alloc (.cells #[.pointer (some ⟨Q, 0, none⟩)] 79)).alloc (.cells #[.int .i64 due] 3) = W2 := by rw [hW1, hW2]
  go_enter Try.func38, Try.ntmps38
  go_upto_region 1 with fail
  rw [hz1] at hD2
  obtain ⟨k3, k5, k1, k2⟩ := ptr_below hT2 hP2 hD2 (Below.refl _ W2)
  obtain ⟨_, _, _, f1⟩ := hT2.cells
  obtain ⟨hT3, hst3⟩ := hT2.next (nx + 1)
  have hP3 := hP2.other (a := ⟨Q, 1, none⟩) (fun e => hT2.unlike hP2 (by decide) (by decide) (.inl e)) (.int .i64 (nx + 1))
  have hD3 := hD2.other (a := ⟨Q, 1, none⟩) (fun e => hT2.unlike hD2 (by decide) (by decide) (.inl e)) (.int .i64 (nx + 1))
  have hst3' := (AStep.of_below (F := Foot Q v) hB2).trans hst3
  obtain ⟨W3, hW3⟩ : ∃ W3, W2.setCell ⟨Q, 1, none⟩ (.int .i64 (nx + 1)) = W3 := ⟨_, rfl⟩
  rw [hW3] at hT3 hP3 hD3 hst3'
  obtain ⟨j3, j5, j1, j2⟩ := ptr_below hT3 hP3 hD3 (Below.refl _ W3)
  obtain ⟨A, c, rfl⟩ := h.row.form
  have HT3 := Lib.hid hT3
  have HP3 := Lib.hid hP3
  have HD3 := Lib.hid hD3
  have HST := Lib.hid hst3'
  have HW := Lib.hid hW
  clear h hW1 hW2 hB1 hB2 hP1 hP2 hD2 hT2 hst3 hT3 hP3 hD3 hst3' hz1 hW
  have hcl : ∀ (W : World) (i : Nat), Below W3.heap.size W3 W → i < l.length → Calls Try.prog 45 (#[.int .i64 i] ++ #[.pointer (some ⟨w.heap.size, 0, none⟩), .pointer (some ⟨w.heap.size + 1, 0, none⟩)]) W fun e w' => e = .returned (.bool (decide (due < (l.getD i (0, 0, 0)).2.1))) ∧ Below W.heap.size W w' := fun W i hW hi => by
    have hx : l[i]? = some (l.getD i (0, 0, 0)) := by simp [List.getD, hi]
    exact ins1_any base Q (.slice A l.length c) l (nx + 1) due w.heap.size (w.heap.size + 1) i (l.getD i (0, 0, 0)) W (HT3.out.below hW) (HP3.out.below hW HP3.out.lt) (HD3.out.below hW HD3.out.lt) hx
  have hmo : ∀ a b, a ≤ b → b < l.length → decide (due < (l.getD a (0, 0, 0)).2.1) = true → decide (due < (l.getD b (0, 0, 0)).2.1) = true := fun a b hab hbn hpa => by
    have ha : l[a]? = some (l.getD a (0, 0, 0)) := by simp [List.getD, show a < l.length by omega]
    have hb' : l[b]? = some (l.getD b (0, 0, 0)) := by simp [List.getD, hbn]
    have := hs.le ha hb' hab
    have hp : due < (l.getD a (0, 0, 0)).2.1 := of_decide_eq_true hpa
    exact decide_eq_true (by omega)
  have hse := search_any #[.pointer (some ⟨w.heap.size, 0, none⟩), .pointer (some ⟨w.heap.size + 1, 0, none⟩)] l.length _ W3 (by omega) hcl hmo
  have HSE := Lib.hid hse
  clear hcl hmo hse
  go_upto_region 3 with (go_at_call 44; refine HSE.out.mono ?_; rintro e W4 ⟨⟨k, rfl, hkn, hk1, hk2⟩, hb4⟩)
  have hins : l.take k ++ (id, due, nx + 1) :: l.drop k = ins (id, due, nx + 1) l := by
    refine ins_at _ l k hkn (fun t y ht hy => ?_) (fun t y ht hy => ?_)
    · have h1 : ¬ due < (l.getD t (0, 0, 0)).2.1 := of_decide_eq_false (hk1 t ht)
      have e : l.getD t (0, 0, 0) = y := by simp [List.getD, hy]
      rw [e] at h1
      show y.2.1 ≤ due
      omega
    · have h1 : due < (l.getD t (0, 0, 0)).2.1 := of_decide_eq_true (hk2 t ht (List.getElem?_eq_some_iff.1 hy).1)
      have e : l.getD t (0, 0, 0) = y := by simp [List.getD, hy]
      rw [e] at h1
      exact h1
  have hT4 := HT3.out.below hb4
  have hP4 := HP3.out.below hb4 HP3.out.lt
  have hD4 := HD3.out.below hb4 HD3.out.lt
  have hst4 := HST.out.trans (AStep.of_below (F := Foot Q (.slice A l.length c)) hb4)
  have hbs4 : base ≤ W4.heap.size := by have := hst4.1.size; omega
  have HINS := Lib.hid hins
  have hd : Below W4.heap.size W4 W4.drew := ⟨rfl, rfl, rfl, Nat.le_refl _, fun _ _ => rfl⟩
  have hda : Below W4.heap.size W4 (W4.drew.alloc (.cells #[.int .i64 id, .int .i64 due, .int .i64 (nx + 1)] 72)) := hd.alloc (Nat.le_refl _) _
  clear hins hk1 hk2 j3 j5 j1 j2 k3 k5 k1 k2 f1 HT3 HP3 HD3 HST hb4
  have hX : Whole (W4.drew.alloc (.cells #[.int .i64 id, .int .i64 due, .int .i64 (nx + 1)] 72)) W4.heap.size (tcells (id, due, nx + 1)).toArray 72 := Whole.new W4.drew _ _
  have hne : (Value.slice A l.length c).ownBlock ≠ some W4.heap.size := fun e => by have := (hT4.row.lt _ e).2; omega
  have hTa := hT4.below hda
  have hPa := hP4.below hda hP4.lt
  have hDa := hD4.below hda hD4.lt
  have hbsa : base ≤ (W4.drew.alloc (.cells #[.int .i64 id, .int .i64 due, .int .i64 (nx + 1)] 72)).heap.size := by simp; omega
  have hcall := insert_any base _ l k (id, due, nx + 1) W4.heap.size _ hTa.row hkn hX hne hbsa (by omega)
  have hafter : ∀ (v5 : Value) (w5 : World), TR w5 base 72 3 v5 (l.length + 1) (trow (l.take k ++ (id, due, nx + 1) :: l.drop k)) → (W4.drew.alloc (.cells #[.int .i64 id, .int .i64 due, .int .i64 (nx + 1)] 72)).grownBy w5 (Value.slice A l.length c).ownBlock → Fresh (W4.drew.alloc (.cells #[.int .i64 id, .int .i64 due, .int .i64 (nx + 1)] 72)) (.slice A l.length c) v5 →
      (w5.cell? ⟨w.heap.size, 0, none⟩ = some (.pointer (some ⟨Q, 0, none⟩)) ∧ w5.cell? ⟨w.heap.size + 1, 0, none⟩ = some (.int .i64 due) ∧ w5.cell? ⟨Q, 1, none⟩ = some (.int .i64 (nx + 1))) ∧ ((w5.setCell ⟨Q, 0, none⟩ v5).cell? ⟨w.heap.size, 0, none⟩ = some (.pointer (some ⟨Q, 0, none⟩)) ∧ (w5.setCell ⟨Q, 0, none⟩ v5).cell? ⟨w.heap.size + 1, 0, none⟩ = some (.int .i64 due) ∧ (w5.setCell ⟨Q, 0, none⟩ v5).cell? ⟨Q, 1, none⟩ = some (.int .i64 (nx + 1))) ∧ w5.cell? ⟨Q, 0, none⟩ = some (.slice A l.length c) ∧ w5.frozen? ⟨Q, 0, none⟩ = false ∧
      TM base (w5.setCell ⟨Q, 0, none⟩ v5) Q v5 (ins (id, due, nx + 1) l) (nx + 1) ∧ AStep w (w5.setCell ⟨Q, 0, none⟩ v5) (Foot Q (.slice A l.length c)) (Foot Q v5) := fun v5 w5 o5 g5 f5 => by
    rw [HINS.out, ← ins_len (id, due, nx + 1) l] at o5
    obtain ⟨q1, q2, q3⟩ := hT4.grow hda g5 o5 f5
    have hP5 := hPa.grown g5 (fun e => hTa.unlike hPa (by decide) (by decide) (.inr e.symm))
    have hD5 := hDa.grown g5 (fun e => hTa.unlike hDa (by decide) (by decide) (.inr e.symm))
    exact ⟨⟨hP5.cell 0, hD5.cell 0, q1.cell 1⟩, ⟨(hP5.other (a := ⟨Q, 0, none⟩) (fun e => hT4.unlike hP4 (by decide) (by decide) (.inl e)) v5).cell 0, (hD5.other (a := ⟨Q, 0, none⟩) (fun e => hT4.unlike hD4 (by decide) (by decide) (.inl e)) v5).cell 0, q2.cells.2.1⟩, q1.cell 0, q1.free 0, q2, hst4.trans q3⟩
  have z0 := hT4.cells.1
  have z1 : (W4.alloc (.cells #[.int .i64 id, .int .i64 due, .int .i64 (nx + 1)] 72)).cell? ⟨Q, 0, none⟩ = some (.slice A l.length c) := hTa.cells.1
  have HT4 := Lib.hid hT4
  have HP4 := Lib.hid hP4
  have HD4 := Lib.hid hD4
  have HC := Lib.hid hcall
  have HA := Lib.hid hafter
  clear hX hne hTa hPa hDa hbsa hcall hafter hT4 hP4 hD4 hst4 HW hW3 HSE
  refine wp_region_noPanic ?_
  refine wp_region_held_drew (S := fun W => W.cell? ⟨w.heap.size, 0, none⟩ = some (.pointer (some ⟨Q, 0, none⟩)) ∧ W.cell? ⟨w.heap.size + 1, 0, none⟩ = some (.int .i64 due) ∧ W.cell? ⟨Q, 1, none⟩ = some (.int .i64 (nx + 1))) (by kernel_rfl) ?_ (fun hHeld => ?_)
  · exact ptr_below' HT4.out HP4.out HD4.out hd
  refine wpAnyH_take (i := 0) (oi := { dst := some 21, op := Op.load 79 (Operand.tmp 3), type := 79, pos := "queue.go:83", after := #[], guard := none }) (v := ?_) rfl (by kernel_rfl) (by kernel_rfl) (by kernel_rfl) (fun _ _ _ h => h) (Or.inl ⟨by rfl, ?_⟩) (by assumption) ?_
  rotate_left 1
  · (intro w' hSw; (try dsimp only at hSw); go_simp <;> with_reducible rfl)
  try simp only [Act.put, List.setIfInBounds_toArray, List.set_cons_zero, List.set_cons_succ]
  refine wpAnyH_take (i := 1) (oi := { dst := some 22, op := Op.load 79 (Operand.tmp 3), type := 79, pos := "queue.go:83", after := #[], guard := none }) (v := ?_) rfl (by kernel_rfl) (by kernel_rfl) (by kernel_rfl) (fun _ _ _ h => h) (Or.inl ⟨by rfl, ?_⟩) (by assumption) ?_
  rotate_left 1
  · (intro w' hSw; (try dsimp only at hSw); go_simp <;> with_reducible rfl)
  try simp only [Act.put, List.setIfInBounds_toArray, List.set_cons_zero, List.set_cons_succ]
  refine wpAnyH_take (i := 2) (oi := { dst := some 23, op := Op.nilCheck (Operand.tmp 22), type := 0, pos := "queue.go:83", after := #[{ on := 1, ground := Ground.data }], guard := none }) (v := ?_) rfl (by kernel_rfl) (by kernel_rfl) (by kernel_rfl) (fun _ _ _ h => h) (Or.inl ⟨by rfl, ?_⟩) (by assumption) ?_
  rotate_left 1
  · (intro w' hSw; (try dsimp only at hSw); go_simp <;> with_reducible rfl)
  try simp only [Act.put, List.setIfInBounds_toArray, List.set_cons_zero, List.set_cons_succ]
  refine wpAnyH_take (i := 3) (oi := { dst := some 24, op := Op.fieldAddr 55 (Operand.tmp 23) 0, type := 0, pos := "queue.go:83", after := #[{ on := 2, ground := Ground.data }], guard := none }) (v := ?_) rfl (by kernel_rfl) (by kernel_rfl) (by kernel_rfl) (fun _ _ _ h => h) (Or.inl ⟨by rfl, ?_⟩) (by assumption) ?_
  rotate_left 1
  · (intro w' hSw; (try dsimp only at hSw); go_simp <;> with_reducible rfl)
  try simp only [Act.put, List.setIfInBounds_toArray, List.set_cons_zero, List.set_cons_succ]
  refine wpAnyH_take (i := 5) (oi := { dst := some 26, op := Op.move (Operand.tmp 6), type := 3, pos := "queue.go:83", after := #[], guard := none }) (v := ?_) rfl (by kernel_rfl) (by kernel_rfl) (by kernel_rfl) (fun _ _ _ h => h) (Or.inl ⟨by rfl, ?_⟩) (by assumption) ?_
  rotate_left 1
  · (intro w' hSw; (try dsimp only at hSw); go_simp <;> with_reducible rfl)
  try simp only [Act.put, List.setIfInBounds_toArray, List.set_cons_zero, List.set_cons_succ]
  refine wpAnyH_take (i := 6) (oi := { dst := some 27, op := Op.move (Operand.tmp 1), type := 3, pos := "queue.go:83", after := #[], guard := none }) (v := ?_) rfl (by kernel_rfl) (by kernel_rfl) (by kernel_rfl) (fun _ _ _ h => h) (Or.inl ⟨by rfl, ?_⟩) (by assumption) ?_
  rotate_left 1
  · (intro w' hSw; (try dsimp only at hSw); go_simp <;> with_reducible rfl)
  try simp only [Act.put, List.setIfInBounds_toArray, List.set_cons_zero, List.set_cons_succ]
  refine wpAnyH_take (i := 7) (oi := { dst := some 28, op := Op.load 3 (Operand.tmp 5), type := 3, pos := "queue.go:83", after := #[], guard := none }) (v := ?_) rfl (by kernel_rfl) (by kernel_rfl) (by kernel_rfl) (fun _ _ _ h => h) (Or.inl ⟨by rfl, ?_⟩) (by assumption) ?_
  rotate_left 1
  · (intro w' hSw; (try dsimp only at hSw); go_simp <;> with_reducible rfl)
  try simp only [Act.put, List.setIfInBounds_toArray, List.set_cons_zero, List.set_cons_succ]
  refine wpAnyH_take (i := 8) (oi := { dst := some 29, op := Op.load 79 (Operand.tmp 3), type := 79, pos := "queue.go:83", after := #[], guard := none }) (v := ?_) rfl (by kernel_rfl) (by kernel_rfl) (by kernel_rfl) (fun _ _ _ h => h) (Or.inl ⟨by rfl, ?_⟩) (by assumption) ?_
  rotate_left 1
  · (intro w' hSw; (try dsimp only at hSw); go_simp <;> with_reducible rfl)
  try simp only [Act.put, List.setIfInBounds_toArray, List.set_cons_zero, List.set_cons_succ]
  refine wpAnyH_take (i := 9) (oi := { dst := some 30, op := Op.nilCheck (Operand.tmp 29), type := 0, pos := "queue.go:83", after := #[{ on := 8, ground := Ground.data }], guard := none }) (v := ?_) rfl (by kernel_rfl) (by kernel_rfl) (by kernel_rfl) (fun _ _ _ h => h) (Or.inl ⟨by rfl, ?_⟩) (by assumption) ?_
  rotate_left 1
  · (intro w' hSw; (try dsimp only at hSw); go_simp <;> with_reducible rfl)
  try simp only [Act.put, List.setIfInBounds_toArray, List.set_cons_zero, List.set_cons_succ]
  refine wpAnyH_take (i := 10) (oi := { dst := some 31, op := Op.fieldAddr 55 (Operand.tmp 30) 1, type := 0, pos := "queue.go:83", after := #[{ on := 9, ground := Ground.data }], guard := none }) (v := ?_) rfl (by kernel_rfl) (by kernel_rfl) (by kernel_rfl) (fun _ _ _ h => h) (Or.inl ⟨by rfl, ?_⟩) (by assumption) ?_
  rotate_left 1
  · (intro w' hSw; (try dsimp only at hSw); go_simp <;> with_reducible rfl)
  try simp only [Act.put, List.setIfInBounds_toArray, List.set_cons_zero, List.set_cons_succ]
  refine wpAnyH_take (i := 11) (oi := { dst := some 32, op := Op.load 3 (Operand.tmp 31), type := 3, pos := "queue.go:83", after := #[{ on := 10, ground := Ground.data }], guard := none }) (v := ?_) rfl (by kernel_rfl) (by kernel_rfl) (by kernel_rfl) (fun _ _ _ h => h) (Or.inl ⟨by rfl, ?_⟩) (by assumption) ?_
  rotate_left 1
  · (intro w' hSw; (try dsimp only at hSw); go_simp <;> with_reducible rfl)
  try simp only [Act.put, List.setIfInBounds_toArray, List.set_cons_zero, List.set_cons_succ]
  refine wpAnyH_take (i := 12) (oi := { dst := some 33, op := Op.build 72 #[(0, Operand.tmp 27), (1, Operand.tmp 28), (2, Operand.tmp 32)], type := 72, pos := "queue.go:83", after := #[{ on := 6, ground := Ground.data }, { on := 7, ground := Ground.data }, { on := 11, ground := Ground.data }], guard := none }) (v := ?_) rfl (by kernel_rfl) (by kernel_rfl) (by kernel_rfl) (fun _ _ _ h => h) (Or.inl ⟨by rfl, ?_⟩) (by assumption) ?_
  rotate_left 1
  · (intro w' hSw; (try dsimp only at hSw); go_simp <;> with_reducible rfl)
  try simp only [Act.put, List.setIfInBounds_toArray, List.set_cons_zero, List.set_cons_succ]
  refine wpAnyH_ready (rs := [4, 13]) (by kernel_rfl) (by simp) ?_
  refine AllReadyH.cons (o := { dst := some 25, op := Op.load 53 (Operand.tmp 24), type := 53, pos := "queue.go:83", after := #[{ on := 3, ground := Ground.data }], guard := none }) rfl (fun K hK => ?_) (AllReadyH.cons (o := { dst := some 34, op := Op.buildSlice 53 1 #[(0, Operand.tmp 33)], type := 53, pos := "queue.go:83", after := #[{ on := 12, ground := Ground.data }], guard := none }) rfl (fun K hK => ?_) AllReadyH.nil)
  · go_simp
    refine hK.out _ _ ?_ (fun hHeld => ?_)
    · exact ptr_below' HT4.out HP4.out HD4.out hd
    clear hK K
    try simp only [Act.put, List.setIfInBounds_toArray, List.set_cons_zero, List.set_cons_succ]
    refine wpAnyH_ready (rs := [13]) (by kernel_rfl) (by simp) ?_
    refine AllReadyH.cons (o := { dst := some 34, op := Op.buildSlice 53 1 #[(0, Operand.tmp 33)], type := 53, pos := "queue.go:83", after := #[{ on := 12, ground := Ground.data }], guard := none }) rfl (fun K hK => ?_) AllReadyH.nil
    go_simp
    refine hK.out _ _ ?_ (fun hHeld => ?_)
    · exact ptr_below' HT4.out HP4.out HD4.out hda
    clear hK K
    try simp only [Act.put, List.setIfInBounds_toArray, List.set_cons_zero, List.set_cons_succ]
    refine wpAnyH_ready (rs := [14]) (by kernel_rfl) (by simp) ?_
    refine AllReadyH.cons (o := { dst := some 35, op := Op.call { callee := Callee.value (Operand.func 46), args := #[Operand.tmp 25, Operand.tmp 26, Operand.tmp 34], argTypes := #[53, 3, 53] }, type := 53, pos := "queue.go:83", after := #[{ on := 4, ground := Ground.data }, { on := 5, ground := Ground.data }, { on := 13, ground := Ground.data }], guard := none }) rfl (fun K hK => ?_) AllReadyH.nil
    go_simp
    go_at_call 46
    refine HC.out.mono ?_
    rintro e w5 ⟨v5, rfl, o5, g5, f5⟩
    obtain ⟨A5, c5, rfl⟩ := o5.form
    obtain ⟨q1, q4, q5, q0, q2, q3⟩ := HA.out _ w5 o5 g5 f5
    have Q2 := Lib.hid q2
    have Q3 := Lib.hid q3
    clear o5 g5 f5 q2 q3
    refine hK.out _ _ ?_ (fun hHeld => ?_)
    · exact q1
    clear hK K
    try simp only [Act.put, List.setIfInBounds_toArray, List.set_cons_zero, List.set_cons_succ]
    refine wpAnyH_take (i := 15) (oi := { dst := some 36, op := Op.nilCheck (Operand.tmp 21), type := 0, pos := "queue.go:83", after := #[{ on := 0, ground := Ground.data }, { on := 0, ground := Ground.phase }, { on := 1, ground := Ground.phase }, { on := 2, ground := Ground.phase }, { on := 3, ground := Ground.phase }, { on := 4, ground := Ground.phase }, { on := 5, ground := Ground.phase }, { on := 6, ground := Ground.phase }, { on := 7, ground := Ground.phase }, { on := 8, ground := Ground.phase }, { on := 9, ground := Ground.phase }, { on := 10, ground := Ground.phase }, { on := 11, ground := Ground.phase }, { on := 12, ground := Ground.phase }, { on := 13, ground := Ground.phase }, { on := 14, ground := Ground.phase }], guard := none }) (v := ?_) rfl (by kernel_rfl) (by kernel_rfl) (by kernel_rfl) (fun _ _ _ h => h) (Or.inl ⟨by rfl, ?_⟩) (by assumption) ?_
    rotate_left 1
    · (intro w' hSw; (try dsimp only at hSw); go_simp <;> with_reducible rfl)
    try simp only [Act.put, List.setIfInBounds_toArray, List.set_cons_zero, List.set_cons_succ]
    refine wpAnyH_take (i := 16) (oi := { dst := some 37, op := Op.fieldAddr 55 (Operand.tmp 36) 0, type := 0, pos := "queue.go:83", after := #[{ on := 15, ground := Ground.data }, { on := 0, ground := Ground.phase }, { on := 1, ground := Ground.phase }, { on := 2, ground := Ground.phase }, { on := 3, ground := Ground.phase }, { on := 4, ground := Ground.phase }, { on := 5, ground := Ground.phase }, { on := 6, ground := Ground.phase }, { on := 7, ground := Ground.phase }, { on := 8, ground := Ground.phase }, { on := 9, ground := Ground.phase }, { on := 10, ground := Ground.phase }, { on := 11, ground := Ground.phase }, { on := 12, ground := Ground.phase }, { on := 13, ground := Ground.phase }, { on := 14, ground := Ground.phase }], guard := none }) (v := ?_) rfl (by kernel_rfl) (by kernel_rfl) (by kernel_rfl) (fun _ _ _ h => h) (Or.inl ⟨by rfl, ?_⟩) (by assumption) ?_
    rotate_left 1
    · (intro w' hSw; (try dsimp only at hSw); go_simp <;> with_reducible rfl)
    try simp only [Act.put, List.setIfInBounds_toArray, List.set_cons_zero, List.set_cons_succ]
    refine wpAnyH_ready (rs := [17]) (by kernel_rfl) (by simp) ?_
    refine AllReadyH.cons (o := { dst := none, op := Op.store 53 (Operand.tmp 37) (Operand.tmp 35), type := 0, pos := "queue.go:83", after := #[{ on := 16, ground := Ground.data }, { on := 14, ground := Ground.data }, { on := 14, ground := Ground.chain }, { on := 0, ground := Ground.phase }, { on := 1, ground := Ground.phase }, { on := 2, ground := Ground.phase }, { on := 3, ground := Ground.phase }, { on := 4, ground := Ground.phase }, { on := 5, ground := Ground.phase }, { on := 6, ground := Ground.phase }, { on := 7, ground := Ground.phase }, { on := 8, ground := Ground.phase }, { on := 9, ground := Ground.phase }, { on := 10, ground := Ground.phase }, { on := 11, ground := Ground.phase }, { on := 12, ground := Ground.phase }, { on := 13, ground := Ground.phase }, { on := 14, ground := Ground.phase }], guard := none }) rfl (fun K hK => ?_) AllReadyH.nil
    go_simp
    refine hK.out _ _ ?_ (fun hHeld => ?_)
    · exact q4
    clear hK K
    try simp only [Act.put, List.setIfInBounds_toArray, List.set_cons_zero, List.set_cons_succ]
    refine wpAnyH_done (by kernel_rfl) ?_ _
    refine NoPanic.normal ?_
    exact bodyPost_end (results_none rfl _ _ _) rfl ⟨rfl, _, Q2.out, Q3.out⟩
  · go_simp
    refine hK.out _ _ ?_ (fun hHeld => ?_)
    · exact ptr_below' HT4.out HP4.out HD4.out hda
    clear hK K
    try simp only [Act.put, List.setIfInBounds_toArray, List.set_cons_zero, List.set_cons_succ]
    refine wpAnyH_ready (rs := [4]) (by kernel_rfl) (by simp) ?_
    refine AllReadyH.cons (o := { dst := some 25, op := Op.load 53 (Operand.tmp 24), type := 53, pos := "queue.go:83", after := #[{ on := 3, ground := Ground.data }], guard := none }) rfl (fun K hK => ?_) AllReadyH.nil
    go_simp
    refine hK.out _ _ ?_ (fun hHeld => ?_)
    · exact ptr_below' HT4.out HP4.out HD4.out hda
    clear hK K
    try simp only [Act.put, List.setIfInBounds_toArray, List.set_cons_zero, List.set_cons_succ]
    refine wpAnyH_ready (rs := [14]) (by kernel_rfl) (by simp) ?_
    refine AllReadyH.cons (o := { dst := some 35, op := Op.call { callee := Callee.value (Operand.func 46), args := #[Operand.tmp 25, Operand.tmp 26, Operand.tmp 34], argTypes := #[53, 3, 53] }, type := 53, pos := "queue.go:83", after := #[{ on := 4, ground := Ground.data }, { on := 5, ground := Ground.data }, { on := 13, ground := Ground.data }], guard := none }) rfl (fun K hK => ?_) AllReadyH.nil
    go_simp
    go_at_call 46
    refine HC.out.mono ?_
    rintro e w5 ⟨v5, rfl, o5, g5, f5⟩
    obtain ⟨A5, c5, rfl⟩ := o5.form
    obtain ⟨q1, q4, q5, q0, q2, q3⟩ := HA.out _ w5 o5 g5 f5
    have Q2 := Lib.hid q2
    have Q3 := Lib.hid q3
    clear o5 g5 f5 q2 q3
    refine hK.out _ _ ?_ (fun hHeld => ?_)
    · exact q1
    clear hK K
    try simp only [Act.put, List.setIfInBounds_toArray, List.set_cons_zero, List.set_cons_succ]
    refine wpAnyH_take (i := 15) (oi := { dst := some 36, op := Op.nilCheck (Operand.tmp 21), type := 0, pos := "queue.go:83", after := #[{ on := 0, ground := Ground.data }, { on := 0, ground := Ground.phase }, { on := 1, ground := Ground.phase }, { on := 2, ground := Ground.phase }, { on := 3, ground := Ground.phase }, { on := 4, ground := Ground.phase }, { on := 5, ground := Ground.phase }, { on := 6, ground := Ground.phase }, { on := 7, ground := Ground.phase }, { on := 8, ground := Ground.phase }, { on := 9, ground := Ground.phase }, { on := 10, ground := Ground.phase }, { on := 11, ground := Ground.phase }, { on := 12, ground := Ground.phase }, { on := 13, ground := Ground.phase }, { on := 14, ground := Ground.phase }], guard := none }) (v := ?_) rfl (by kernel_rfl) (by kernel_rfl) (by kernel_rfl) (fun _ _ _ h => h) (Or.inl ⟨by rfl, ?_⟩) (by assumption) ?_
    rotate_left 1
    · (intro w' hSw; (try dsimp only at hSw); go_simp <;> with_reducible rfl)
    try simp only [Act.put, List.setIfInBounds_toArray, List.set_cons_zero, List.set_cons_succ]
    refine wpAnyH_take (i := 16) (oi := { dst := some 37, op := Op.fieldAddr 55 (Operand.tmp 36) 0, type := 0, pos := "queue.go:83", after := #[{ on := 15, ground := Ground.data }, { on := 0, ground := Ground.phase }, { on := 1, ground := Ground.phase }, { on := 2, ground := Ground.phase }, { on := 3, ground := Ground.phase }, { on := 4, ground := Ground.phase }, { on := 5, ground := Ground.phase }, { on := 6, ground := Ground.phase }, { on := 7, ground := Ground.phase }, { on := 8, ground := Ground.phase }, { on := 9, ground := Ground.phase }, { on := 10, ground := Ground.phase }, { on := 11, ground := Ground.phase }, { on := 12, ground := Ground.phase }, { on := 13, ground := Ground.phase }, { on := 14, ground := Ground.phase }], guard := none }) (v := ?_) rfl (by kernel_rfl) (by kernel_rfl) (by kernel_rfl) (fun _ _ _ h => h) (Or.inl ⟨by rfl, ?_⟩) (by assumption) ?_
    rotate_left 1
    · (intro w' hSw; (try dsimp only at hSw); go_simp <;> with_reducible rfl)
    try simp only [Act.put, List.setIfInBounds_toArray, List.set_cons_zero, List.set_cons_succ]
    refine wpAnyH_ready (rs := [17]) (by kernel_rfl) (by simp) ?_
    refine AllReadyH.cons (o := { dst := none, op := Op.store 53 (Operand.tmp 37) (Operand.tmp 35), type := 0, pos := "queue.go:83", after := #[{ on := 16, ground := Ground.data }, { on := 14, ground := Ground.data }, { on := 14, ground := Ground.chain }, { on := 0, ground := Ground.phase }, { on := 1, ground := Ground.phase }, { on := 2, ground := Ground.phase }, { on := 3, ground := Ground.phase }, { on := 4, ground := Ground.phase }, { on := 5, ground := Ground.phase }, { on := 6, ground := Ground.phase }, { on := 7, ground := Ground.phase }, { on := 8, ground := Ground.phase }, { on := 9, ground := Ground.phase }, { on := 10, ground := Ground.phase }, { on := 11, ground := Ground.phase }, { on := 12, ground := Ground.phase }, { on := 13, ground := Ground.phase }, { on := 14, ground := Ground.phase }], guard := none }) rfl (fun K hK => ?_) AllReadyH.nil
    go_simp
    refine hK.out _ _ ?_ (fun hHeld => ?_)
    · exact q4
    clear hK K
    try simp only [Act.put, List.setIfInBounds_toArray, List.set_cons_zero, List.set_cons_succ]
    refine wpAnyH_done (by kernel_rfl) ?_ _
    refine NoPanic.normal ?_
    exact bodyPost_end (results_none rfl _ _ _) rfl ⟨rfl, _, Q2.out, Q3.out⟩

set_option maxRecDepth 100000 in
set_option maxHeartbeats 1000000 in
theorem tadd_any (base Q : Nat) (v : Value) (l : List T3) (nx due : Int) (w : World) (h : TM base w Q v l nx) (hb : base ≤ w.heap.size) (hs : Srt l) (hl : l.length ≤ 900) (hnx : 0 ≤ nx ∧ nx ≤ 100000) :
    Calls Try.prog 24 #[.pointer (some ⟨Q, 0, none⟩), .int .i64 due] w fun e w' => e = .returned (.int .i64 (nx + 1)) ∧ ∃ v', TM base w' Q v' (ins (nx + 1, due, nx + 1) l) (nx + 1) ∧ AStep w w' (Foot Q v) (Foot Q v') := by
  have hw1 : IntKind.i64.wrap (nx + 1) = nx + 1 := by rw [IntKind.wrap_i64]; omega
  obtain ⟨k1, k2, _, _⟩ := h.cells
  go_enter Try.func24, Try.ntmps24
  go_wp2_with fail
  refine (tinsert_any base Q v l nx (nx + 1) due w h hb hs hl hnx).mono ?_
  rintro e w1 ⟨rfl, v1, h1, hst⟩
  clear k1 k2 h
  go_wp2_with fail
  go_ret
  exact ⟨rfl, v1, h1, hst⟩

set_option maxRecDepth 100000 in
set_option maxHeartbeats 1000000 in
theorem tlen_any (base Q : Nat) (v : Value) (l : List T3) (nx : Int) (w : World) (h : TM base w Q v l nx) :
    Calls Try.prog 34 #[.pointer (some ⟨Q, 0, none⟩)] w fun e w' => e = .returned (.int .i64 (l.length : Nat)) ∧ Below w.heap.size w w' := by
  obtain ⟨k1, k2, _, _⟩ := h.cells
  obtain ⟨A0, c0, rfl⟩ := h.row.form
  go_enter Try.func34, Try.ntmps34
  clear h
  go_wp2_with fail
  go_ret
  exact ⟨rfl, Below.refl _ w⟩

/-! What each statement begins with. -/
set_option maxRecDepth 100000 in
set_option maxHeartbeats 1000000 in
theorem qawake_any (w : World) :
    Calls Try.prog 11 #[] w fun e w' => e = .returned (.bool true) ∧ Below w.heap.size w w' := by
  have hb1 := (Below.refl _ w).alloc (Nat.le_refl _) (.cells #[.slice none 0 0] 26)
  have hQ1 := QM.new w 26 3 1 w.heap.size (Nat.le_refl _)
  obtain ⟨w1, hw1⟩ : ∃ w1, w.alloc (.cells #[.slice none 0 0] 26) = w1 := ⟨_, rfl⟩
  have hz1 : w1.heap.size = w.heap.size + 1 := by rw [← hw1]; simp
  rw [hw1] at hb1 hQ1
  have hb2 := (Below.refl _ w1).alloc (Nat.le_refl _) (.cells #[.slice none 0 0, .int .i64 0] 55)
  have hT2 := TM.new w1 w.heap.size (by omega)
  have hQ2 := hQ1.below hb2
  obtain ⟨w2, hw2⟩ : ∃ w2, w1.alloc (.cells #[.slice none 0 0, .int .i64 0] 55) = w2 := ⟨_, rfl⟩
  rw [hw2] at hb2 hT2 hQ2
  have hB2 := hb1.trans (hb2.mono (by omega))
  have hW : (w.alloc (.cells #[.slice none 0 0] 26)).alloc (.cells #[.slice none 0 0, .int .i64 0] 55) = w2 := by rw [hw1, hw2]
  rw [hz1] at hT2
  have HW := Lib.hid hW
  have hs2 := hB2.size
  clear hw1 hw2 hz1 hb1 hb2 hQ1
  go_enter Try.func11, Try.ntmps11
  go_wp2_with fail
  refine (qpushI w.heap.size w.heap.size (.slice none 0 0) 0 [] 5 w2 hQ2 hs2 (by omega)).mono ?_
  rintro e w3 ⟨rfl, v3, hQ3, hst3⟩
  have hne : ∀ k, Foot w.heap.size (.slice none 0 0) k → ¬ Foot (w.heap.size + 1) (.slice none 0 0) k := by
    rintro k (rfl | e) (e' | e')
    · omega
    · simp [Value.ownBlock] at e'
    · simp [Value.ownBlock] at e
    · simp [Value.ownBlock] at e
  have hT3 := hT2.turns hst3.1 (fun k hk hf => hne k hf hk)
  have hB3 := hB2.trans (hst3.1.below hs2 fun k hk => (hQ2.lt k hk).1)
  have HT3 := Lib.hid hT3
  have HQ3 := Lib.hid hQ3
  clear hT2 hQ2 hT3 hQ3 hst3 hne hW
  go_wp2_with fail
  refine (qpeekI w.heap.size w.heap.size v3 0 5 [] w3 HQ3.out (by omega)).mono ?_
  rintro e w4 ⟨rfl, hb4⟩
  have HT4 := Lib.hid (HT3.out.below hb4)
  have HQ4 := Lib.hid (HQ3.out.below hb4)
  have hB4 := hB3.trans (hb4.mono hB3.size)
  clear HT3 HQ3 hb4
  go_wp2_with fail
  refine (qlenI w.heap.size w.heap.size v3 1 _ w4 HQ4.out).mono ?_
  rintro e w5 ⟨rfl, hb5⟩
  have HT5 := Lib.hid (HT4.out.below hb5)
  have hB5 := hB4.trans (hb5.mono hB4.size)
  clear HT4 HQ4 hb5
  have hs5 := hB5.size
  go_wp2_with fail
  refine (tadd_any w.heap.size (w.heap.size + 1) _ [] 0 3 w5 HT5.out hs5 List.Pairwise.nil (by simp) (by omega)).mono ?_
  rintro e w6 ⟨rfl, v6, hT6, hst6⟩
  have HT6 := Lib.hid hT6
  have hB6 := hB5.trans (hst6.1.below hs5 fun k hk => (HT5.out.lt k hk).1)
  clear hT6 hst6 HT5
  go_wp2_with fail
  refine (tlen_any w.heap.size (w.heap.size + 1) v6 _ _ w6 HT6.out).mono ?_
  rintro e w7 ⟨rfl, hb7⟩
  have hB7 := hB6.trans (hb7.mono hB6.size)
  have hl1 : (ins ((0 : Int) + 1, 3, 0 + 1) []).length = 1 := rfl
  rw [hl1]
  clear hl1
  go_wp2_with fail
  go_ret
  exact ⟨rfl, hB7⟩
end Go.Proofs.Ytomffkdfgfenpaa
