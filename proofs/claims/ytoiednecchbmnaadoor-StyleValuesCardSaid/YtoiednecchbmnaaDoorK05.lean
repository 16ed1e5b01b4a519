/- The scanner's numbers, lengths and percentages. -/
import Derived.Test.YtoiednecchbmnaaDoorK04
namespace Go.Proofs.YtoiednecchbmnaaDoor
open Go Go.RowKit
set_option linter.unusedVariables false
/-- A value in memory. -/
def vaV (v : St.Va) : Value := .agg #[.int .i64 v.kind, .int .i64 v.num, .string (tstr v.word)]
theorem box3 {W : World} {B : Nat} {x0 x1 x2 : Value} {T : TypeId} (r : Whole W B #[x0, x1, x2] T) (y0 y1 y2 : Value) :
    ∃ X, ((W.setCell ⟨B, 0, none⟩ y0).setCell ⟨B, 1, none⟩ y1).setCell ⟨B, 2, none⟩ y2 = X ∧ Whole X B #[y0, y1, y2] T ∧ W.grownBy X (some B) := by
  have r0 : Whole _ B #[y0, x1, x2] T := r.put 0 y0
  have r1 : Whole _ B #[y0, y1, x2] T := r0.put 1 y1
  exact ⟨_, rfl, r1.put 2 y2, gb_put (gb_put (gb_put (gb_of_below (Below.refl _ _) _) 0 y0) 1 y1) 2 y2⟩
theorem free3 {W : World} {B : Nat} {x0 x1 x2 : Value} {T : TypeId} (r : Whole W B #[x0, x1, x2] T) : W.frozen? ⟨B, 0, none⟩ = false ∧ W.frozen? ⟨B, 1, none⟩ = false ∧ W.frozen? ⟨B, 2, none⟩ = false := ⟨r.free 0, r.free 1, r.free 2⟩
theorem cells3 {W : World} {B : Nat} {x0 x1 x2 : Value} {T : TypeId} (r : Whole W B #[x0, x1, x2] T) : W.cell? ⟨B, 0, none⟩ = some x0 ∧ W.cell? ⟨B, 1, none⟩ = some x1 ∧ W.cell? ⟨B, 2, none⟩ = some x2 := ⟨r.cell 0, r.cell 1, r.cell 2⟩
theorem ScS.apart {W X : World} {b B : Nat} {l : List UInt8} (h : ScS W b l) (g : W.grownBy X (some B)) (hn : b ≠ B) : ScS X b l := Whole.grown h g (fun e => hn (by injection e))
theorem thou_le (l : List UInt8) : (St.thou l).2.2.length ≤ l.length := by
  have h1 : ∀ l, (St.sgn l).2.length ≤ l.length := fun l => by
    unfold St.sgn
    split
    · simp
    · exact cutP_le _ _
  have h2 : ∀ l, (St.frac l).2.2.length ≤ l.length := fun l => by
    unfold St.frac
    split
    · exact Nat.le_trans (List.dropWhile_sublist _).length_le (by simp)
    · exact Nat.le_refl _
  have h3 : (St.thou l).2.2 = (St.frac ((St.sgn l).2.dropWhile St.dg)).2.2 := by
    unfold St.thou St.unsig
    split <;> rfl
  rw [h3]
  exact Nat.le_trans (h2 _) (Nat.le_trans (List.dropWhile_sublist _).length_le (h1 _))
set_option maxHeartbeats 2000000 in
theorem ynumber_any (b : Nat) (l : List UInt8) (w : World) (hl : l.length ≤ 20000) (h : ScS w b l) :
    Calls Tryd.prog 41 #[.pointer (some ⟨b, 0, none⟩)] w fun e w' => e = .returned (.tuple #[vaV (St.number l).1, .bool (St.number l).2]) ∧ ScS w' b (St.thou l).2.2 ∧ w.grownBy w' (some b) := by
  have hW : Whole (w.alloc (.cells #[.int .i64 0, .int .i64 0, .string ⟨#[]⟩] 24)) w.heap.size #[.int .i64 0, .int .i64 0, .string ⟨#[]⟩] 24 := Whole.new _ _ _
  have hG : w.grownBy (w.alloc (.cells #[.int .i64 0, .int .i64 0, .string ⟨#[]⟩] 24)) (some b) := World.grownBy_alloc _ _ _
  have h1 : ScS (w.alloc (.cells #[.int .i64 0, .int .i64 0, .string ⟨#[]⟩] 24)) b l := Whole.alloc h _
  have hbl : b < w.heap.size := Whole.lt h
  obtain ⟨W1, hW1⟩ : ∃ W1, w.alloc (.cells #[.int .i64 0, .int .i64 0, .string ⟨#[]⟩] 24) = W1 := ⟨_, rfl⟩
  rw [hW1] at hW hG h1
  have HW := Lib.hid hW
  have HG := Lib.hid hG
  have hZ := h1
  clear h hW hG h1
  have hh := ythou_any b l W1 hl hZ
  have HE : St.number l = (⟨2, (St.thou l).1, []⟩, (St.thou l).2.1 && (St.thou l).2.2.isEmpty) := rfl
  rw [HE]
  clear HE
  generalize St.thou l = T at hh ⊢
  obtain ⟨x, k, r⟩ := T
  simp only at hh ⊢
  clear hZ
  cases k with
  | true =>
    go_enter Tryd.func41, Tryd.ntmps41
    go_wp2_with fail
    try rw [hW1]
    refine hh.mono ?_
    clear hh
    rintro e w4 ⟨rfl, hR, hg⟩
    have hW4 := HW.out.grown hg (fun e => by injection e; omega)
    have hG4 := gb_trans HG.out hg
    have hc0 : w4.cell? ⟨b, 0, none⟩ = some (.string (tstr r)) := Whole.cell hR 0
    have HR := Lib.hid hR
    have HG4 := Lib.hid hG4
    have HW4 := Lib.hid hW4
    clear hg hG4 hR
    obtain ⟨f0, f1, f2⟩ := free3 hW4
    obtain ⟨d0, d1, d2⟩ := cells3 hW4
    clear hW4
    have hne : b ≠ w.heap.size := by omega
    have hne2 : w.heap.size ≠ b := by omega
    go_wp2_with fail
    go_region
    go_wp2_with fail
    obtain ⟨X9, hX9, r9, g9⟩ := box3 HW4.out (.int .i64 2) (.int .i64 x) (.string ⟨#[]⟩)
    try rw [hX9]
    obtain ⟨c0, c1, c2⟩ := cells3 r9
    clear f0 f1 f2 d0 d1 d2 hX9
    refine bodyPost_ret (v := .tuple #[.agg #[.int .i64 2, .int .i64 x, .string ⟨#[]⟩], .bool ((tstr r).toList.isEmpty)]) ?_ rfl ⟨?_, HR.out.apart (by first | exact g9 | exact gb_drew g9) (by omega), gb_new HG4.out (by first | exact g9 | exact gb_drew g9) (Nat.le_refl _)⟩
    · simp [results, Tryd.f41, go_sem, c0, c1, c2]
    · exact ret2 rfl (congrArg Value.bool (by rw [ttl]; first | (simp; done) | (rw [Bool.true_and, Bool.eq_iff_iff]; simp)))
  | false =>
    go_enter Tryd.func41, Tryd.ntmps41
    go_wp2_with fail
    try rw [hW1]
    refine hh.mono ?_
    clear hh
    rintro e w4 ⟨rfl, hR, hg⟩
    have hW4 := HW.out.grown hg (fun e => by injection e; omega)
    have hG4 := gb_trans HG.out hg
    have hc0 : w4.cell? ⟨b, 0, none⟩ = some (.string (tstr r)) := Whole.cell hR 0
    have HR := Lib.hid hR
    have HG4 := Lib.hid hG4
    have HW4 := Lib.hid hW4
    clear hg hG4 hR
    obtain ⟨f0, f1, f2⟩ := free3 hW4
    obtain ⟨d0, d1, d2⟩ := cells3 hW4
    clear hW4
    have hne : b ≠ w.heap.size := by omega
    have hne2 : w.heap.size ≠ b := by omega
    go_wp2_with fail
    go_region
    go_wp2_with fail
    obtain ⟨X9, hX9, r9, g9⟩ := box3 HW4.out (.int .i64 2) (.int .i64 x) (.string ⟨#[]⟩)
    try rw [hX9]
    obtain ⟨c0, c1, c2⟩ := cells3 r9
    clear f0 f1 f2 d0 d1 d2 hX9
    refine bodyPost_ret (v := .tuple #[.agg #[.int .i64 2, .int .i64 x, .string ⟨#[]⟩], .bool false]) ?_ rfl ⟨?_, HR.out.apart (by first | exact g9 | exact gb_drew g9) (by omega), gb_new HG4.out (by first | exact g9 | exact gb_drew g9) (Nat.le_refl _)⟩
    · simp [results, Tryd.f41, go_sem, c0, c1, c2]
    · exact ret2 rfl (congrArg Value.bool (rfl))
set_option maxHeartbeats 2000000 in
theorem ypercentage_any (b : Nat) (l : List UInt8) (w : World) (hl : l.length ≤ 20000) (h : ScS w b l) :
    Calls Tryd.prog 44 #[.pointer (some ⟨b, 0, none⟩)] w fun e w' => e = .returned (.tuple #[vaV (St.percentage l).1, .bool (St.percentage l).2]) ∧ ScS w' b (St.thou l).2.2 ∧ w.grownBy w' (some b) := by
  have hW : Whole (w.alloc (.cells #[.int .i64 0, .int .i64 0, .string ⟨#[]⟩] 24)) w.heap.size #[.int .i64 0, .int .i64 0, .string ⟨#[]⟩] 24 := Whole.new _ _ _
  have hG : w.grownBy (w.alloc (.cells #[.int .i64 0, .int .i64 0, .string ⟨#[]⟩] 24)) (some b) := World.grownBy_alloc _ _ _
  have h1 : ScS (w.alloc (.cells #[.int .i64 0, .int .i64 0, .string ⟨#[]⟩] 24)) b l := Whole.alloc h _
  have hbl : b < w.heap.size := Whole.lt h
  obtain ⟨W1, hW1⟩ : ∃ W1, w.alloc (.cells #[.int .i64 0, .int .i64 0, .string ⟨#[]⟩] 24) = W1 := ⟨_, rfl⟩
  rw [hW1] at hW hG h1
  have HW := Lib.hid hW
  have HG := Lib.hid hG
  have hZ := h1
  clear h hW hG h1
  have hh := ythou_any b l W1 hl hZ
  have HE : St.percentage l = (⟨5, (St.thou l).1, []⟩, (St.thou l).2.1 && decide ((St.thou l).2.2 = [37])) := rfl
  rw [HE]
  clear HE
  generalize St.thou l = T at hh ⊢
  obtain ⟨x, k, r⟩ := T
  simp only at hh ⊢
  clear hZ
  cases k with
  | true =>
    go_enter Tryd.func44, Tryd.ntmps44
    go_wp2_with fail
    try rw [hW1]
    refine hh.mono ?_
    clear hh
    rintro e w4 ⟨rfl, hR, hg⟩
    have hW4 := HW.out.grown hg (fun e => by injection e; omega)
    have hG4 := gb_trans HG.out hg
    have hc0 : w4.cell? ⟨b, 0, none⟩ = some (.string (tstr r)) := Whole.cell hR 0
    have HR := Lib.hid hR
    have HG4 := Lib.hid hG4
    have HW4 := Lib.hid hW4
    clear hg hG4 hR
    obtain ⟨f0, f1, f2⟩ := free3 hW4
    obtain ⟨d0, d1, d2⟩ := cells3 hW4
    clear hW4
    have hne : b ≠ w.heap.size := by omega
    have hne2 : w.heap.size ≠ b := by omega
    go_wp2_with fail
    go_region
    go_wp2_with fail
    obtain ⟨X9, hX9, r9, g9⟩ := box3 HW4.out (.int .i64 5) (.int .i64 x) (.string ⟨#[]⟩)
    try rw [hX9]
    obtain ⟨c0, c1, c2⟩ := cells3 r9
    clear f0 f1 f2 d0 d1 d2 hX9
    refine bodyPost_ret (v := .tuple #[.agg #[.int .i64 5, .int .i64 x, .string ⟨#[]⟩], .bool (((tstr r).toList == [37]))]) ?_ rfl ⟨?_, HR.out.apart (by first | exact g9 | exact gb_drew g9) (by omega), gb_new HG4.out (by first | exact g9 | exact gb_drew g9) (Nat.le_refl _)⟩
    · simp [results, Tryd.f44, go_sem, c0, c1, c2]
    · exact ret2 rfl (congrArg Value.bool (by rw [ttl]; first | (simp; done) | (rw [Bool.true_and, Bool.eq_iff_iff]; simp)))
  | false =>
    go_enter Tryd.func44, Tryd.ntmps44
    go_wp2_with fail
    try rw [hW1]
    refine hh.mono ?_
    clear hh
    rintro e w4 ⟨rfl, hR, hg⟩
    have hW4 := HW.out.grown hg (fun e => by injection e; omega)
    have hG4 := gb_trans HG.out hg
    have hc0 : w4.cell? ⟨b, 0, none⟩ = some (.string (tstr r)) := Whole.cell hR 0
    have HR := Lib.hid hR
    have HG4 := Lib.hid hG4
    have HW4 := Lib.hid hW4
    clear hg hG4 hR
    obtain ⟨f0, f1, f2⟩ := free3 hW4
    obtain ⟨d0, d1, d2⟩ := cells3 hW4
    clear hW4
    have hne : b ≠ w.heap.size := by omega
    have hne2 : w.heap.size ≠ b := by omega
    go_wp2_with fail
    go_region
    go_wp2_with fail
    obtain ⟨X9, hX9, r9, g9⟩ := box3 HW4.out (.int .i64 5) (.int .i64 x) (.string ⟨#[]⟩)
    try rw [hX9]
    obtain ⟨c0, c1, c2⟩ := cells3 r9
    clear f0 f1 f2 d0 d1 d2 hX9
    refine bodyPost_ret (v := .tuple #[.agg #[.int .i64 5, .int .i64 x, .string ⟨#[]⟩], .bool false]) ?_ rfl ⟨?_, HR.out.apart (by first | exact g9 | exact gb_drew g9) (by omega), gb_new HG4.out (by first | exact g9 | exact gb_drew g9) (Nat.le_refl _)⟩
    · simp [results, Tryd.f44, go_sem, c0, c1, c2]
    · exact ret2 rfl (congrArg Value.bool (rfl))
set_option maxHeartbeats 2000000 in
theorem ylength_any (b : Nat) (l : List UInt8) (w : World) (hl : l.length ≤ 20000) (h : ScS w b l) :
    Calls Tryd.prog 43 #[.pointer (some ⟨b, 0, none⟩)] w fun e w' => e = .returned (.tuple #[vaV (St.length l).1, .bool (St.length l).2]) ∧ ScS w' b (St.thou l).2.2 ∧ w.grownBy w' (some b) := by
  have hW : Whole (w.alloc (.cells #[.int .i64 0, .int .i64 0, .string ⟨#[]⟩] 24)) w.heap.size #[.int .i64 0, .int .i64 0, .string ⟨#[]⟩] 24 := Whole.new _ _ _
  have hG : w.grownBy (w.alloc (.cells #[.int .i64 0, .int .i64 0, .string ⟨#[]⟩] 24)) (some b) := World.grownBy_alloc _ _ _
  have h1 : ScS (w.alloc (.cells #[.int .i64 0, .int .i64 0, .string ⟨#[]⟩] 24)) b l := Whole.alloc h _
  have hbl : b < w.heap.size := Whole.lt h
  obtain ⟨W1, hW1⟩ : ∃ W1, w.alloc (.cells #[.int .i64 0, .int .i64 0, .string ⟨#[]⟩] 24) = W1 := ⟨_, rfl⟩
  rw [hW1] at hW hG h1
  have HW := Lib.hid hW
  have HG := Lib.hid hG
  have hZ := h1
  clear h hW hG h1
  have hh := ythou_any b l W1 hl hZ
  have HL := Lib.hid (show ∀ x k r, St.thou l = (x, k, r) → St.length l = (if r = [112, 120] then (⟨3, x, []⟩, k) else if r = [101, 109] then (⟨4, x, []⟩, k) else if r = [] then (⟨3, 0, []⟩, k && decide (x = 0)) else (St.vnil, false)) from fun x k r h => by unfold St.length; rw [h])
  obtain ⟨x, k, r, hT⟩ : ∃ x k r, St.thou l = (x, k, r) := ⟨_, _, _, rfl⟩
  have HE := Lib.hid (HL.out x k r hT)
  rw [hT] at hh ⊢
  clear hT HL hZ
  simp only at hh ⊢
  by_cases h1 : r = [112, 120]
  · subst h1
    have HE := Lib.hid (HE.out.trans (if_pos rfl))
    have hz1 := ttl [112, 120]
    go_enter Tryd.func43, Tryd.ntmps43
    go_wp2_with fail
    try rw [hW1]
    refine hh.mono ?_
    clear hh
    rintro e w4 ⟨rfl, hR, hg⟩
    have hW4 := HW.out.grown hg (fun e => by injection e; omega)
    have hG4 := gb_trans HG.out hg
    have hc0 : w4.cell? ⟨b, 0, none⟩ = some (.string (tstr [112, 120])) := Whole.cell hR 0
    have HR := Lib.hid hR
    have HG4 := Lib.hid hG4
    have HW4 := Lib.hid hW4
    clear hg hG4 hR
    obtain ⟨f0, f1, f2⟩ := free3 hW4
    obtain ⟨d0, d1, d2⟩ := cells3 hW4
    clear hW4
    have hne : b ≠ w.heap.size := by omega
    have hne2 : w.heap.size ≠ b := by omega
    go_wp2_with fail
    rw [HE.out]
    obtain ⟨X9, hX9, r9, g9⟩ := box3 HW4.out (.int .i64 3) (.int .i64 x) (.string ⟨#[]⟩)
    try rw [hX9]
    obtain ⟨c0, c1, c2⟩ := cells3 r9
    clear f0 f1 f2 d0 d1 d2 hX9
    refine bodyPost_ret (v := .tuple #[.agg #[.int .i64 3, .int .i64 x, .string ⟨#[]⟩], .bool k]) ?_ rfl ⟨?_, HR.out.apart (by first | exact g9 | exact gb_drew g9) (by omega), gb_new HG4.out (by first | exact g9 | exact gb_drew g9) (Nat.le_refl _)⟩
    · simp [results, Tryd.f43, go_sem, c0, c1, c2]
    · exact rfl
  by_cases h2 : r = [101, 109]
  · subst h2
    have HE := Lib.hid (HE.out.trans ((if_neg (by decide)).trans (if_pos rfl)))
    have hz1 := ttl [101, 109]
    clear h1
    go_enter Tryd.func43, Tryd.ntmps43
    go_wp2_with fail
    try rw [hW1]
    refine hh.mono ?_
    clear hh
    rintro e w4 ⟨rfl, hR, hg⟩
    have hW4 := HW.out.grown hg (fun e => by injection e; omega)
    have hG4 := gb_trans HG.out hg
    have hc0 : w4.cell? ⟨b, 0, none⟩ = some (.string (tstr [101, 109])) := Whole.cell hR 0
    have HR := Lib.hid hR
    have HG4 := Lib.hid hG4
    have HW4 := Lib.hid hW4
    clear hg hG4 hR
    obtain ⟨f0, f1, f2⟩ := free3 hW4
    obtain ⟨d0, d1, d2⟩ := cells3 hW4
    clear hW4
    have hne : b ≠ w.heap.size := by omega
    have hne2 : w.heap.size ≠ b := by omega
    go_wp2_with fail
    rw [HE.out]
    obtain ⟨X9, hX9, r9, g9⟩ := box3 HW4.out (.int .i64 4) (.int .i64 x) (.string ⟨#[]⟩)
    try rw [hX9]
    obtain ⟨c0, c1, c2⟩ := cells3 r9
    clear f0 f1 f2 d0 d1 d2 hX9
    refine bodyPost_ret (v := .tuple #[.agg #[.int .i64 4, .int .i64 x, .string ⟨#[]⟩], .bool k]) ?_ rfl ⟨?_, HR.out.apart (by first | exact g9 | exact gb_drew g9) (by omega), gb_new HG4.out (by first | exact g9 | exact gb_drew g9) (Nat.le_refl _)⟩
    · simp [results, Tryd.f43, go_sem, c0, c1, c2]
    · exact rfl
  by_cases h3 : r = []
  · subst h3
    have HE := Lib.hid (HE.out.trans ((if_neg (by decide)).trans ((if_neg (by decide)).trans (if_pos rfl))))
    have hz1 := ttl []
    clear h1 h2
    cases k with
    | true =>
      go_enter Tryd.func43, Tryd.ntmps43
      go_wp2_with fail
      try rw [hW1]
      refine hh.mono ?_
      clear hh
      rintro e w4 ⟨rfl, hR, hg⟩
      have hW4 := HW.out.grown hg (fun e => by injection e; omega)
      have hG4 := gb_trans HG.out hg
      have hc0 : w4.cell? ⟨b, 0, none⟩ = some (.string (tstr [])) := Whole.cell hR 0
      have HR := Lib.hid hR
      have HG4 := Lib.hid hG4
      have HW4 := Lib.hid hW4
      clear hg hG4 hR
      obtain ⟨f0, f1, f2⟩ := free3 hW4
      obtain ⟨d0, d1, d2⟩ := cells3 hW4
      clear hW4
      have hne : b ≠ w.heap.size := by omega
      have hne2 : w.heap.size ≠ b := by omega
      go_wp2_with fail
      rw [HE.out]
      obtain ⟨X9, hX9, r9, g9⟩ := box3 HW4.out (.int .i64 3) (.int .i64 0) (.string ⟨#[]⟩)
      try rw [hX9]
      obtain ⟨c0, c1, c2⟩ := cells3 r9
      clear f0 f1 f2 d0 d1 d2 hX9
      refine bodyPost_ret (v := .tuple #[.agg #[.int .i64 3, .int .i64 0, .string ⟨#[]⟩], .bool (x == 0)]) ?_ rfl ⟨?_, HR.out.apart (by first | exact g9 | exact gb_drew g9) (by omega), gb_new HG4.out (by first | exact g9 | exact gb_drew g9) (Nat.le_refl _)⟩
      · simp [results, Tryd.f43, go_sem, c0, c1, c2]
      · exact ret2 rfl (congrArg Value.bool (by rw [Bool.true_and, Bool.eq_iff_iff]; simp))
    | false =>
      go_enter Tryd.func43, Tryd.ntmps43
      go_wp2_with fail
      try rw [hW1]
      refine hh.mono ?_
      clear hh
      rintro e w4 ⟨rfl, hR, hg⟩
      have hW4 := HW.out.grown hg (fun e => by injection e; omega)
      have hG4 := gb_trans HG.out hg
      have hc0 : w4.cell? ⟨b, 0, none⟩ = some (.string (tstr [])) := Whole.cell hR 0
      have HR := Lib.hid hR
      have HG4 := Lib.hid hG4
      have HW4 := Lib.hid hW4
      clear hg hG4 hR
      obtain ⟨f0, f1, f2⟩ := free3 hW4
      obtain ⟨d0, d1, d2⟩ := cells3 hW4
      clear hW4
      have hne : b ≠ w.heap.size := by omega
      have hne2 : w.heap.size ≠ b := by omega
      go_wp2_with fail
      rw [HE.out]
      obtain ⟨X9, hX9, r9, g9⟩ := box3 HW4.out (.int .i64 3) (.int .i64 0) (.string ⟨#[]⟩)
      try rw [hX9]
      obtain ⟨c0, c1, c2⟩ := cells3 r9
      clear f0 f1 f2 d0 d1 d2 hX9
      refine bodyPost_ret (v := .tuple #[.agg #[.int .i64 3, .int .i64 0, .string ⟨#[]⟩], .bool false]) ?_ rfl ⟨?_, HR.out.apart (by first | exact g9 | exact gb_drew g9) (by omega), gb_new HG4.out (by first | exact g9 | exact gb_drew g9) (Nat.le_refl _)⟩
      · simp [results, Tryd.f43, go_sem, c0, c1, c2]
      · exact rfl
  have hz1 : ((tstr r).toList == [112, 120]) = false := by rw [ttl]; exact beq_eq_false_iff_ne.2 h1
  have hz2 : ((tstr r).toList == [101, 109]) = false := by rw [ttl]; exact beq_eq_false_iff_ne.2 h2
  have hz4 : (tstr r).toList.isEmpty = false := by rw [ttl]; cases r with | nil => exact absurd rfl h3 | cons a t => rfl
  have HE := Lib.hid (HE.out.trans ((if_neg h1).trans ((if_neg h2).trans (if_neg h3))))
  clear h1 h2 h3
  go_enter Tryd.func43, Tryd.ntmps43
  go_wp2_with fail
  try rw [hW1]
  refine hh.mono ?_
  clear hh
  rintro e w4 ⟨rfl, hR, hg⟩
  have hW4 := HW.out.grown hg (fun e => by injection e; omega)
  have hG4 := gb_trans HG.out hg
  have hc0 : w4.cell? ⟨b, 0, none⟩ = some (.string (tstr r)) := Whole.cell hR 0
  have HR := Lib.hid hR
  have HG4 := Lib.hid hG4
  have HW4 := Lib.hid hW4
  clear hg hG4 hR
  obtain ⟨f0, f1, f2⟩ := free3 hW4
  obtain ⟨d0, d1, d2⟩ := cells3 hW4
  clear hW4
  have hne : b ≠ w.heap.size := by omega
  have hne2 : w.heap.size ≠ b := by omega
  go_wp2_with fail
  rw [HE.out]
  obtain ⟨X9, hX9, r9, g9⟩ := box3 HW4.out (.int .i64 0) (.int .i64 0) (.string ⟨#[]⟩)
  try rw [hX9]
  obtain ⟨c0, c1, c2⟩ := cells3 r9
  clear f0 f1 f2 d0 d1 d2 hX9
  refine bodyPost_ret (v := .tuple #[.agg #[.int .i64 0, .int .i64 0, .string ⟨#[]⟩], .bool false]) ?_ rfl ⟨?_, HR.out.apart (by first | exact g9 | exact gb_drew g9) (by omega), gb_new HG4.out (by first | exact g9 | exact gb_drew g9) (Nat.le_refl _)⟩
  · simp [results, Tryd.f43, go_sem, c0, c1, c2]
  · exact rfl
end Go.Proofs.YtoiednecchbmnaaDoor
/- The scanner reads an integer; what is negative is refused. -/
namespace Go.Proofs.YtoiednecchbmnaaDoor
open Go Go.RowKit
set_option linter.unusedVariables false
set_option maxHeartbeats 2000000 in
theorem yinteger_any (b : Nat) (l : List UInt8) (w : World) (hl : l.length ≤ 20000) (h : ScS w b l) :
    Calls Tryd.prog 42 #[.pointer (some ⟨b, 0, none⟩)] w fun e w' => e = .returned (.tuple #[vaV (St.integer l).1, .bool (St.integer l).2]) ∧ ScS w' b (St.thou l).2.2 ∧ w.grownBy w' (some b) := by
  have hW : Whole (w.alloc (.cells #[.int .i64 0, .int .i64 0, .string ⟨#[]⟩] 24)) w.heap.size #[.int .i64 0, .int .i64 0, .string ⟨#[]⟩] 24 := Whole.new _ _ _
  have hG : w.grownBy (w.alloc (.cells #[.int .i64 0, .int .i64 0, .string ⟨#[]⟩] 24)) (some b) := World.grownBy_alloc _ _ _
  have h1 : ScS (w.alloc (.cells #[.int .i64 0, .int .i64 0, .string ⟨#[]⟩] 24)) b l := Whole.alloc h _
  have hbl : b < w.heap.size := Whole.lt h
  obtain ⟨W1, hW1⟩ : ∃ W1, w.alloc (.cells #[.int .i64 0, .int .i64 0, .string ⟨#[]⟩] 24) = W1 := ⟨_, rfl⟩
  rw [hW1] at hW hG h1
  have HW := Lib.hid hW
  have HG := Lib.hid hG
  have hZ := h1
  clear h hW hG h1
  have hh := ynumber_any b l W1 hl hZ
  have HE : St.integer l = ((⟨2, (St.thou l).1, []⟩ : St.Va), (St.number l).2 && decide ((St.thou l).1.tmod 1000 = 0)) := rfl
  have HN : (St.number l).1 = ⟨2, (St.thou l).1, []⟩ := rfl
  rw [HE]
  rw [HN] at hh
  clear HE HN hZ
  generalize (St.number l).2 = k at hh ⊢
  generalize St.thou l = T at hh ⊢
  obtain ⟨x, kk, r⟩ := T
  simp only at hh ⊢
  unfold vaV at hh ⊢
  cases k with
  | true =>
    go_enter Tryd.func42, Tryd.ntmps42
    go_wp2_with fail
    try rw [hW1]
    refine hh.mono ?_
    clear hh
    rintro e w4 ⟨rfl, hR, hg⟩
    have hW4 := HW.out.grown hg (fun e => by injection e; omega)
    have hG4 := gb_trans HG.out hg
    have hlt := hW4.lt
    have hblt : b < w4.heap.size := Whole.lt hR
    have hV : Whole (w4.alloc (.cells #[.int .i64 0, .int .i64 0, .string ⟨#[]⟩] 24)) w4.heap.size #[.int .i64 0, .int .i64 0, .string ⟨#[]⟩] 24 := Whole.new _ _ _
    have hWA : Whole (w4.alloc (.cells #[.int .i64 0, .int .i64 0, .string ⟨#[]⟩] 24)) w.heap.size #[.int .i64 0, .int .i64 0, .string ⟨#[]⟩] 24 := hW4.alloc _
    have hRA : ScS (w4.alloc (.cells #[.int .i64 0, .int .i64 0, .string ⟨#[]⟩] 24)) b r := Whole.alloc hR _
    have hGA : w.grownBy (w4.alloc (.cells #[.int .i64 0, .int .i64 0, .string ⟨#[]⟩] 24)) (some b) := gb_alloc hG4 _
    obtain ⟨W5, hW5⟩ : ∃ W5, w4.alloc (.cells #[.int .i64 0, .int .i64 0, .string ⟨#[]⟩] 24) = W5 := ⟨_, rfl⟩
    rw [hW5] at hV hWA hRA hGA
    obtain ⟨X6, hX6, r6, g6⟩ := box3 hV (.int .i64 2) (.int .i64 x) (.string (tstr []))
    have hW6 := hWA.grown g6 (fun e => by injection e; omega)
    have hR6 := hRA.apart g6 (by omega)
    have hG6 : w.grownBy X6 (some b) := gb_new hGA g6 (by have := HG.out.size; omega)
    have HV := Lib.hid hV
    have HV6 := Lib.hid r6
    have HW6 := Lib.hid hW6
    have HR6 := Lib.hid hR6
    have HG6 := Lib.hid hG6
    clear hV hWA hRA hGA hW4 hG4 hR hg r6 hW6 hR6 hG6 g6
    obtain ⟨p0, p1, p2⟩ := free3 HV.out
    obtain ⟨q0, q1, q2⟩ := cells3 HV.out
    go_wp2_with fail
    try rw [hW5]
    go_wp2_with fail
    try rw [hX6]
    clear p0 p1 p2 q0 q1 q2 hX6 hW5
    obtain ⟨f0, f1, f2⟩ := free3 HW6.out
    obtain ⟨d0, d1, d2⟩ := cells3 HW6.out
    obtain ⟨v0, v1, v2⟩ := cells3 HV6.out
    have hne : w4.heap.size ≠ w.heap.size := by omega
    have hne2 : w.heap.size ≠ w4.heap.size := by omega
    go_wp2_with fail
    go_region
    go_wp2_with fail
    obtain ⟨X9, hX9, r9, g9⟩ := box3 HW6.out (.int .i64 2) (.int .i64 x) (.string (tstr []))
    try rw [hX9]
    obtain ⟨c0, c1, c2⟩ := cells3 r9
    clear f0 f1 f2 d0 d1 d2 hX9
    refine bodyPost_ret (v := .tuple #[.agg #[.int .i64 2, .int .i64 x, .string (tstr [])], .bool (x.tmod 1000 == 0)]) ?_ rfl ⟨?_, HR6.out.apart (by first | exact g9 | exact gb_drew g9) (by omega), gb_new HG6.out (by first | exact g9 | exact gb_drew g9) (Nat.le_refl _)⟩
    · simp [results, Tryd.f42, go_sem, c0, c1, c2]
    · exact ret2 rfl (congrArg Value.bool (by first | rfl | (rw [Bool.true_and, Bool.eq_iff_iff]; simp)))
  | false =>
    go_enter Tryd.func42, Tryd.ntmps42
    go_wp2_with fail
    try rw [hW1]
    refine hh.mono ?_
    clear hh
    rintro e w4 ⟨rfl, hR, hg⟩
    have hW4 := HW.out.grown hg (fun e => by injection e; omega)
    have hG4 := gb_trans HG.out hg
    have hlt := hW4.lt
    have hblt : b < w4.heap.size := Whole.lt hR
    have hV : Whole (w4.alloc (.cells #[.int .i64 0, .int .i64 0, .string ⟨#[]⟩] 24)) w4.heap.size #[.int .i64 0, .int .i64 0, .string ⟨#[]⟩] 24 := Whole.new _ _ _
    have hWA : Whole (w4.alloc (.cells #[.int .i64 0, .int .i64 0, .string ⟨#[]⟩] 24)) w.heap.size #[.int .i64 0, .int .i64 0, .string ⟨#[]⟩] 24 := hW4.alloc _
    have hRA : ScS (w4.alloc (.cells #[.int .i64 0, .int .i64 0, .string ⟨#[]⟩] 24)) b r := Whole.alloc hR _
    have hGA : w.grownBy (w4.alloc (.cells #[.int .i64 0, .int .i64 0, .string ⟨#[]⟩] 24)) (some b) := gb_alloc hG4 _
    obtain ⟨W5, hW5⟩ : ∃ W5, w4.alloc (.cells #[.int .i64 0, .int .i64 0, .string ⟨#[]⟩] 24) = W5 := ⟨_, rfl⟩
    rw [hW5] at hV hWA hRA hGA
    obtain ⟨X6, hX6, r6, g6⟩ := box3 hV (.int .i64 2) (.int .i64 x) (.string (tstr []))
    have hW6 := hWA.grown g6 (fun e => by injection e; omega)
    have hR6 := hRA.apart g6 (by omega)
    have hG6 : w.grownBy X6 (some b) := gb_new hGA g6 (by have := HG.out.size; omega)
    have HV := Lib.hid hV
    have HV6 := Lib.hid r6
    have HW6 := Lib.hid hW6
    have HR6 := Lib.hid hR6
    have HG6 := Lib.hid hG6
    clear hV hWA hRA hGA hW4 hG4 hR hg r6 hW6 hR6 hG6 g6
    obtain ⟨p0, p1, p2⟩ := free3 HV.out
    obtain ⟨q0, q1, q2⟩ := cells3 HV.out
    go_wp2_with fail
    try rw [hW5]
    go_wp2_with fail
    try rw [hX6]
    clear p0 p1 p2 q0 q1 q2 hX6 hW5
    obtain ⟨f0, f1, f2⟩ := free3 HW6.out
    obtain ⟨d0, d1, d2⟩ := cells3 HW6.out
    obtain ⟨v0, v1, v2⟩ := cells3 HV6.out
    have hne : w4.heap.size ≠ w.heap.size := by omega
    have hne2 : w.heap.size ≠ w4.heap.size := by omega
    go_wp2_with fail
    go_region
    go_wp2_with fail
    obtain ⟨X9, hX9, r9, g9⟩ := box3 HW6.out (.int .i64 2) (.int .i64 x) (.string (tstr []))
    try rw [hX9]
    obtain ⟨c0, c1, c2⟩ := cells3 r9
    clear f0 f1 f2 d0 d1 d2 hX9
    refine bodyPost_ret (v := .tuple #[.agg #[.int .i64 2, .int .i64 x, .string (tstr [])], .bool false]) ?_ rfl ⟨?_, HR6.out.apart (by first | exact g9 | exact gb_drew g9) (by omega), gb_new HG6.out (by first | exact g9 | exact gb_drew g9) (Nat.le_refl _)⟩
    · simp [results, Tryd.f42, go_sem, c0, c1, c2]
    · exact ret2 rfl (congrArg Value.bool (by first | rfl | (rw [Bool.true_and, Bool.eq_iff_iff]; simp)))
set_option maxHeartbeats 2000000 in
theorem ypositive_any (κ x : Int) (s : ByteArray) (k : Bool) (w : World) :
    Calls Tryd.prog 40 #[.agg #[.int .i64 κ, .int .i64 x, .string s], .bool k] w fun e w' => e = .returned (.tuple #[.agg #[.int .i64 κ, .int .i64 x, .string s], .bool (k && decide (0 ≤ x))]) ∧ Below w.heap.size w w' := by
  have hA : Whole ((w.alloc (.cells #[.int .i64 κ, .int .i64 x, .string s] 24)).alloc (.cells #[.int .i64 0, .int .i64 0, .string ⟨#[]⟩] 24)) w.heap.size #[.int .i64 κ, .int .i64 x, .string s] 24 := (Whole.new _ _ _).alloc _
  have hW : Whole ((w.alloc (.cells #[.int .i64 κ, .int .i64 x, .string s] 24)).alloc (.cells #[.int .i64 0, .int .i64 0, .string ⟨#[]⟩] 24)) (w.heap.size + 1) #[.int .i64 0, .int .i64 0, .string ⟨#[]⟩] 24 := by have := Whole.new (w.alloc (.cells #[.int .i64 κ, .int .i64 x, .string s] 24)) #[.int .i64 0, .int .i64 0, .string ⟨#[]⟩] 24; rw [World.size_alloc] at this; exact this
  have hB : Below w.heap.size w ((w.alloc (.cells #[.int .i64 κ, .int .i64 x, .string s] 24)).alloc (.cells #[.int .i64 0, .int .i64 0, .string ⟨#[]⟩] 24)) := ((Below.refl _ _).alloc (Nat.le_refl _) _).alloc (by rw [World.size_alloc]; omega) _
  obtain ⟨W1, hW1⟩ : ∃ W1, (w.alloc (.cells #[.int .i64 κ, .int .i64 x, .string s] 24)).alloc (.cells #[.int .i64 0, .int .i64 0, .string ⟨#[]⟩] 24) = W1 := ⟨_, rfl⟩
  rw [hW1] at hA hW hB
  have HA := Lib.hid hA
  have HW := Lib.hid hW
  have HB := Lib.hid hB
  clear hA hW hB
  cases k with
  | true =>
    go_enter Tryd.func40, Tryd.ntmps40
    go_wp2_with fail
    try rw [hW1]
    obtain ⟨f0, f1, f2⟩ := free3 HW.out
    obtain ⟨d0, d1, d2⟩ := cells3 HW.out
    obtain ⟨v0, v1, v2⟩ := cells3 HA.out
    go_wp2_with fail
    go_region
    go_wp2_with fail
    obtain ⟨X9, hX9, r9, g9⟩ := box3 HW.out (.int .i64 κ) (.int .i64 x) (.string s)
    try rw [hX9]
    obtain ⟨c0, c1, c2⟩ := cells3 r9
    clear f0 f1 f2 d0 d1 d2 hX9
    have hb9 : Below w.heap.size w X9.drew := Below.drew (HB.out.grown g9 HB.out.size (fun k hk => by injection hk; omega))
    refine bodyPost_ret (v := .tuple #[.agg #[.int .i64 κ, .int .i64 x, .string s], .bool (decide (0 ≤ x))]) ?_ rfl ⟨?_, hb9⟩
    · simp [results, Tryd.f40, go_sem, c0, c1, c2]
    · exact ret2 rfl (congrArg Value.bool (by simp))
  | false =>
    go_enter Tryd.func40, Tryd.ntmps40
    go_wp2_with fail
    try rw [hW1]
    obtain ⟨f0, f1, f2⟩ := free3 HW.out
    obtain ⟨d0, d1, d2⟩ := cells3 HW.out
    obtain ⟨v0, v1, v2⟩ := cells3 HA.out
    go_wp2_with fail
    go_region
    go_wp2_with fail
    obtain ⟨X9, hX9, r9, g9⟩ := box3 HW.out (.int .i64 κ) (.int .i64 x) (.string s)
    try rw [hX9]
    obtain ⟨c0, c1, c2⟩ := cells3 r9
    clear f0 f1 f2 d0 d1 d2 hX9
    have hb9 : Below w.heap.size w X9.drew := Below.drew (HB.out.grown g9 HB.out.size (fun k hk => by injection hk; omega))
    refine bodyPost_ret (v := .tuple #[.agg #[.int .i64 κ, .int .i64 x, .string s], .bool false]) ?_ rfl ⟨?_, hb9⟩
    · simp [results, Tryd.f40, go_sem, c0, c1, c2]
    · exact ret2 rfl (congrArg Value.bool (by simp))
end Go.Proofs.YtoiednecchbmnaaDoor
