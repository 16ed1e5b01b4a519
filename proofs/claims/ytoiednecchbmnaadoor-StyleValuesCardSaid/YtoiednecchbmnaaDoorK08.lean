/- A text as a word of a table. -/
import Derived.Test.YtoiednecchbmnaaDoorK07
import Derived.Test.YtoiednecchbmnaaDoorK01
import Derived.Lib.ConvBytes
import Derived.Laws.IdiomStrings
namespace Go.Proofs.YtoiednecchbmnaaDoor
open Go Go.RowKit
set_option linter.unusedVariables false
theorem tbeq {a b : List UInt8} {k : Bool} (h : decide (a = b) = k) : ((tstr a).toList == b) = k := by
  rw [ttl, ← h, Bool.eq_iff_iff]; simp
theorem maxLen_grown {w w' : World} {b : Nat} (h : MaxLen w) (hg : w.grownBy w' (some b)) (hb : w.heap.size ≤ b) : MaxLen w' := h.below (gb_below hg (Nat.le_refl _) (fun k hk => by injection hk; omega))
set_option maxHeartbeats 8000000 in
theorem yvalueAs_any (x s : List UInt8) (hl : s.length ≤ 20000) : AsOk x s := by
  intro w hM
  have hb0 : Whole ((w.alloc (.cells #[.int .i64 0, .int .i64 0, .string ⟨#[]⟩] 24)).alloc (.cells #[.string ⟨#[]⟩] 64)) (w.heap.size + 1) #[.string ⟨#[]⟩] 64 := by have := Whole.new (w.alloc (.cells #[.int .i64 0, .int .i64 0, .string ⟨#[]⟩] 24)) #[.string ⟨#[]⟩] 64; rw [World.size_alloc] at this; exact this
  have hr0 : Whole ((w.alloc (.cells #[.int .i64 0, .int .i64 0, .string ⟨#[]⟩] 24)).alloc (.cells #[.string ⟨#[]⟩] 64)) w.heap.size #[.int .i64 0, .int .i64 0, .string ⟨#[]⟩] 24 := (Whole.new _ _ _).alloc _
  have hB0 : Below w.heap.size w ((w.alloc (.cells #[.int .i64 0, .int .i64 0, .string ⟨#[]⟩] 24)).alloc (.cells #[.string ⟨#[]⟩] 64)) := ((Below.refl _ _).alloc (Nat.le_refl _) _).alloc (by rw [World.size_alloc]; omega) _
  obtain ⟨W1, hW1⟩ : ∃ W1, (w.alloc (.cells #[.int .i64 0, .int .i64 0, .string ⟨#[]⟩] 24)).alloc (.cells #[.string ⟨#[]⟩] 64) = W1 := ⟨_, rfl⟩
  rw [hW1] at hb0 hr0 hB0
  have f0 : W1.frozen? ⟨w.heap.size + 1, 0, none⟩ = false := Whole.free hb0 0
  have e0 : W1.cell? ⟨w.heap.size + 1, 0, none⟩ = some (.string ⟨#[]⟩) := Whole.cell hb0 0
  have hS : ScS (W1.setCell ⟨w.heap.size + 1, 0, none⟩ (.string (tstr s))) (w.heap.size + 1) s := Whole.put hb0 0 _
  have g0 : W1.grownBy (W1.setCell ⟨w.heap.size + 1, 0, none⟩ (.string (tstr s))) (some (w.heap.size + 1)) := ScS.gput _ _ _
  obtain ⟨W2, hW2⟩ : ∃ W2, W1.setCell ⟨w.heap.size + 1, 0, none⟩ (.string (tstr s)) = W2 := ⟨_, rfl⟩
  rw [hW2] at hS g0
  have HR := Lib.hid (hr0.grown g0 (fun e => by injection e; omega))
  have HB := Lib.hid (hB0.grown g0 hB0.size (fun k hk => by injection hk; omega))
  have HM := Lib.hid (hM.below HB.out)
  clear hb0 hr0 hB0 g0 hM
  by_cases k0 : x = St.wColor
  · subst k0
    have z0 : ((tstr St.wColor).toList == [60, 99, 111, 108, 111, 114, 62]) = true := tbeq (by decide)
    have hh : Calls Tryd.prog 39 #[.pointer (some ⟨w.heap.size + 1, 0, none⟩)] W2 fun e w' => e = .returned (.tuple #[vaV (St.color s).1, .bool (St.color s).2]) ∧ W2.grownBy w' (some (w.heap.size + 1)) := (ycolor_any2 (w.heap.size + 1) s W2 hl HM.out hS).mono fun e w' h => ⟨h.1, h.2⟩
    have HE := Lib.hid (show St.valueAs St.wColor s = St.color s from by unfold St.valueAs; rw [if_pos rfl])
    generalize St.color s = V at hh HE
    obtain ⟨⟨v0, v1, v2⟩, vb⟩ := V
    unfold vaV at hh
    simp only at hh
    have HS := Lib.hid hS
    clear hS
    go_enter Tryd.func30, Tryd.ntmps30
    go_wp2_with fail
    try rw [hW1]
    try go_wp2_with fail
    try rw [hW2]
    refine hh.mono ?_
    clear hh
    rintro e w4 ⟨rfl, hg⟩
    have hR4 := HR.out.grown hg (fun e => by injection e; omega)
    have hB4 := HB.out.grown hg HB.out.size (fun k hk => by injection hk; omega)
    clear hg f0 e0
    have HR4 := Lib.hid hR4
    have HB4 := Lib.hid hB4
    clear hR4 hB4
    obtain ⟨f10, f11, f12⟩ := free3 HR4.out
    obtain ⟨d0, d1, d2⟩ := cells3 HR4.out
    go_wp2_with fail
    obtain ⟨X9, hX9, r9, g9⟩ := box3 HR4.out (.int .i64 v0) (.int .i64 v1) (.string (tstr v2))
    try rw [hX9]
    obtain ⟨c0, c1, c2⟩ := cells3 r9
    clear f10 f11 f12 d0 d1 d2 hX9
    refine bodyPost_ret (v := .tuple #[.agg #[.int .i64 v0, .int .i64 v1, .string (tstr v2)], .bool vb]) ?_ rfl ⟨by rw [HE.out]; rfl, HB4.out.grown g9 HB4.out.size (fun k hk => by injection hk; omega)⟩
    simp [results, Tryd.f30, go_sem, c0, c1, c2]
  by_cases k1 : x = St.wNumP
  · subst k1
    have z0 : ((tstr St.wNumP).toList == [60, 99, 111, 108, 111, 114, 62]) = false := tbeq (by decide)
    have z1 : ((tstr St.wNumP).toList == [60, 110, 117, 109, 98, 101, 114, 43, 62]) = true := tbeq (by decide)
    have hh : Calls Tryd.prog 41 #[.pointer (some ⟨w.heap.size + 1, 0, none⟩)] W2 fun e w' => e = .returned (.tuple #[vaV (St.number s).1, .bool (St.number s).2]) ∧ W2.grownBy w' (some (w.heap.size + 1)) := (ynumber_any (w.heap.size + 1) s W2 hl hS).mono fun e w' h => ⟨h.1, h.2.2⟩
    have HE := Lib.hid (show St.valueAs St.wNumP s = St.positive (St.number s) from by unfold St.valueAs; rw [if_neg (by decide)]; rw [if_pos rfl])
    generalize St.number s = V at hh HE
    obtain ⟨⟨v0, v1, v2⟩, vb⟩ := V
    unfold vaV at hh
    simp only at hh
    have HS := Lib.hid hS
    clear hS
    go_enter Tryd.func30, Tryd.ntmps30
    go_wp2_with fail
    try rw [hW1]
    try go_wp2_with fail
    try rw [hW2]
    refine hh.mono ?_
    clear hh
    rintro e w4 ⟨rfl, hg⟩
    have hR4 := HR.out.grown hg (fun e => by injection e; omega)
    have hB4 := HB.out.grown hg HB.out.size (fun k hk => by injection hk; omega)
    clear hg f0 e0
    have hp := ypositive_any v0 v1 (tstr v2) vb w4
    go_wp2_with fail
    refine hp.mono ?_
    clear hp
    rintro e w5 ⟨rfl, hb5⟩
    have HR4 := Lib.hid (hR4.below hb5 hR4.lt)
    have HB4 := Lib.hid (hB4.trans (hb5.mono hB4.size))
    clear hR4 hB4 hb5
    obtain ⟨f10, f11, f12⟩ := free3 HR4.out
    obtain ⟨d0, d1, d2⟩ := cells3 HR4.out
    go_wp2_with fail
    obtain ⟨X9, hX9, r9, g9⟩ := box3 HR4.out (.int .i64 v0) (.int .i64 v1) (.string (tstr v2))
    try rw [hX9]
    obtain ⟨c0, c1, c2⟩ := cells3 r9
    clear f10 f11 f12 d0 d1 d2 hX9
    refine bodyPost_ret (v := .tuple #[.agg #[.int .i64 v0, .int .i64 v1, .string (tstr v2)], .bool (vb && decide (0 ≤ v1))]) ?_ rfl ⟨by rw [HE.out]; rfl, HB4.out.grown g9 HB4.out.size (fun k hk => by injection hk; omega)⟩
    simp [results, Tryd.f30, go_sem, c0, c1, c2]
  by_cases k2 : x = St.wInt
  · subst k2
    have z0 : ((tstr St.wInt).toList == [60, 99, 111, 108, 111, 114, 62]) = false := tbeq (by decide)
    have z1 : ((tstr St.wInt).toList == [60, 110, 117, 109, 98, 101, 114, 43, 62]) = false := tbeq (by decide)
    have z2 : ((tstr St.wInt).toList == [60, 105, 110, 116, 101, 103, 101, 114, 62]) = true := tbeq (by decide)
    have hh : Calls Tryd.prog 42 #[.pointer (some ⟨w.heap.size + 1, 0, none⟩)] W2 fun e w' => e = .returned (.tuple #[vaV (St.integer s).1, .bool (St.integer s).2]) ∧ W2.grownBy w' (some (w.heap.size + 1)) := (yinteger_any (w.heap.size + 1) s W2 hl hS).mono fun e w' h => ⟨h.1, h.2.2⟩
    have HE := Lib.hid (show St.valueAs St.wInt s = St.integer s from by unfold St.valueAs; rw [if_neg (by decide)]; rw [if_neg (by decide)]; rw [if_pos rfl])
    generalize St.integer s = V at hh HE
    obtain ⟨⟨v0, v1, v2⟩, vb⟩ := V
    unfold vaV at hh
    simp only at hh
    have HS := Lib.hid hS
    clear hS
    go_enter Tryd.func30, Tryd.ntmps30
    go_wp2_with fail
    try rw [hW1]
    try go_wp2_with fail
    try rw [hW2]
    refine hh.mono ?_
    clear hh
    rintro e w4 ⟨rfl, hg⟩
    have hR4 := HR.out.grown hg (fun e => by injection e; omega)
    have hB4 := HB.out.grown hg HB.out.size (fun k hk => by injection hk; omega)
    clear hg f0 e0
    have HR4 := Lib.hid hR4
    have HB4 := Lib.hid hB4
    clear hR4 hB4
    obtain ⟨f10, f11, f12⟩ := free3 HR4.out
    obtain ⟨d0, d1, d2⟩ := cells3 HR4.out
    go_wp2_with fail
    obtain ⟨X9, hX9, r9, g9⟩ := box3 HR4.out (.int .i64 v0) (.int .i64 v1) (.string (tstr v2))
    try rw [hX9]
    obtain ⟨c0, c1, c2⟩ := cells3 r9
    clear f10 f11 f12 d0 d1 d2 hX9
    refine bodyPost_ret (v := .tuple #[.agg #[.int .i64 v0, .int .i64 v1, .string (tstr v2)], .bool vb]) ?_ rfl ⟨by rw [HE.out]; rfl, HB4.out.grown g9 HB4.out.size (fun k hk => by injection hk; omega)⟩
    simp [results, Tryd.f30, go_sem, c0, c1, c2]
  by_cases k3 : x = St.wLen
  · subst k3
    have z0 : ((tstr St.wLen).toList == [60, 99, 111, 108, 111, 114, 62]) = false := tbeq (by decide)
    have z1 : ((tstr St.wLen).toList == [60, 110, 117, 109, 98, 101, 114, 43, 62]) = false := tbeq (by decide)
    have z2 : ((tstr St.wLen).toList == [60, 105, 110, 116, 101, 103, 101, 114, 62]) = false := tbeq (by decide)
    have z3 : ((tstr St.wLen).toList == [60, 108, 101, 110, 103, 116, 104, 62]) = true := tbeq (by decide)
    have hh : Calls Tryd.prog 43 #[.pointer (some ⟨w.heap.size + 1, 0, none⟩)] W2 fun e w' => e = .returned (.tuple #[vaV (St.length s).1, .bool (St.length s).2]) ∧ W2.grownBy w' (some (w.heap.size + 1)) := (ylength_any (w.heap.size + 1) s W2 hl hS).mono fun e w' h => ⟨h.1, h.2.2⟩
    have HE := Lib.hid (show St.valueAs St.wLen s = St.length s from by unfold St.valueAs; rw [if_neg (by decide)]; rw [if_neg (by decide)]; rw [if_neg (by decide)]; rw [if_pos rfl])
    generalize St.length s = V at hh HE
    obtain ⟨⟨v0, v1, v2⟩, vb⟩ := V
    unfold vaV at hh
    simp only at hh
    have HS := Lib.hid hS
    clear hS
    go_enter Tryd.func30, Tryd.ntmps30
    go_wp2_with fail
    try rw [hW1]
    try go_wp2_with fail
    try rw [hW2]
    refine hh.mono ?_
    clear hh
    rintro e w4 ⟨rfl, hg⟩
    have hR4 := HR.out.grown hg (fun e => by injection e; omega)
    have hB4 := HB.out.grown hg HB.out.size (fun k hk => by injection hk; omega)
    clear hg f0 e0
    have HR4 := Lib.hid hR4
    have HB4 := Lib.hid hB4
    clear hR4 hB4
    obtain ⟨f10, f11, f12⟩ := free3 HR4.out
    obtain ⟨d0, d1, d2⟩ := cells3 HR4.out
    go_wp2_with fail
    obtain ⟨X9, hX9, r9, g9⟩ := box3 HR4.out (.int .i64 v0) (.int .i64 v1) (.string (tstr v2))
    try rw [hX9]
    obtain ⟨c0, c1, c2⟩ := cells3 r9
    clear f10 f11 f12 d0 d1 d2 hX9
    refine bodyPost_ret (v := .tuple #[.agg #[.int .i64 v0, .int .i64 v1, .string (tstr v2)], .bool vb]) ?_ rfl ⟨by rw [HE.out]; rfl, HB4.out.grown g9 HB4.out.size (fun k hk => by injection hk; omega)⟩
    simp [results, Tryd.f30, go_sem, c0, c1, c2]
  by_cases k4 : x = St.wLenP
  · subst k4
    have z0 : ((tstr St.wLenP).toList == [60, 99, 111, 108, 111, 114, 62]) = false := tbeq (by decide)
    have z1 : ((tstr St.wLenP).toList == [60, 110, 117, 109, 98, 101, 114, 43, 62]) = false := tbeq (by decide)
    have z2 : ((tstr St.wLenP).toList == [60, 105, 110, 116, 101, 103, 101, 114, 62]) = false := tbeq (by decide)
    have z3 : ((tstr St.wLenP).toList == [60, 108, 101, 110, 103, 116, 104, 62]) = false := tbeq (by decide)
    have z4 : ((tstr St.wLenP).toList == [60, 108, 101, 110, 103, 116, 104, 43, 62]) = true := tbeq (by decide)
    have hh : Calls Tryd.prog 43 #[.pointer (some ⟨w.heap.size + 1, 0, none⟩)] W2 fun e w' => e = .returned (.tuple #[vaV (St.length s).1, .bool (St.length s).2]) ∧ W2.grownBy w' (some (w.heap.size + 1)) := (ylength_any (w.heap.size + 1) s W2 hl hS).mono fun e w' h => ⟨h.1, h.2.2⟩
    have HE := Lib.hid (show St.valueAs St.wLenP s = St.positive (St.length s) from by unfold St.valueAs; rw [if_neg (by decide)]; rw [if_neg (by decide)]; rw [if_neg (by decide)]; rw [if_neg (by decide)]; rw [if_pos rfl])
    generalize St.length s = V at hh HE
    obtain ⟨⟨v0, v1, v2⟩, vb⟩ := V
    unfold vaV at hh
    simp only at hh
    have HS := Lib.hid hS
    clear hS
    go_enter Tryd.func30, Tryd.ntmps30
    go_wp2_with fail
    try rw [hW1]
    try go_wp2_with fail
    try rw [hW2]
    refine hh.mono ?_
    clear hh
    rintro e w4 ⟨rfl, hg⟩
    have hR4 := HR.out.grown hg (fun e => by injection e; omega)
    have hB4 := HB.out.grown hg HB.out.size (fun k hk => by injection hk; omega)
    clear hg f0 e0
    have hp := ypositive_any v0 v1 (tstr v2) vb w4
    go_wp2_with fail
    refine hp.mono ?_
    clear hp
    rintro e w5 ⟨rfl, hb5⟩
    have HR4 := Lib.hid (hR4.below hb5 hR4.lt)
    have HB4 := Lib.hid (hB4.trans (hb5.mono hB4.size))
    clear hR4 hB4 hb5
    obtain ⟨f10, f11, f12⟩ := free3 HR4.out
    obtain ⟨d0, d1, d2⟩ := cells3 HR4.out
    go_wp2_with fail
    obtain ⟨X9, hX9, r9, g9⟩ := box3 HR4.out (.int .i64 v0) (.int .i64 v1) (.string (tstr v2))
    try rw [hX9]
    obtain ⟨c0, c1, c2⟩ := cells3 r9
    clear f10 f11 f12 d0 d1 d2 hX9
    refine bodyPost_ret (v := .tuple #[.agg #[.int .i64 v0, .int .i64 v1, .string (tstr v2)], .bool (vb && decide (0 ≤ v1))]) ?_ rfl ⟨by rw [HE.out]; rfl, HB4.out.grown g9 HB4.out.size (fun k hk => by injection hk; omega)⟩
    simp [results, Tryd.f30, go_sem, c0, c1, c2]
  by_cases k5 : x = St.wPct
  · subst k5
    have z0 : ((tstr St.wPct).toList == [60, 99, 111, 108, 111, 114, 62]) = false := tbeq (by decide)
    have z1 : ((tstr St.wPct).toList == [60, 110, 117, 109, 98, 101, 114, 43, 62]) = false := tbeq (by decide)
    have z2 : ((tstr St.wPct).toList == [60, 105, 110, 116, 101, 103, 101, 114, 62]) = false := tbeq (by decide)
    have z3 : ((tstr St.wPct).toList == [60, 108, 101, 110, 103, 116, 104, 62]) = false := tbeq (by decide)
    have z4 : ((tstr St.wPct).toList == [60, 108, 101, 110, 103, 116, 104, 43, 62]) = false := tbeq (by decide)
    have z5 : ((tstr St.wPct).toList == [60, 112, 101, 114, 99, 101, 110, 116, 97, 103, 101, 62]) = true := tbeq (by decide)
    have hh : Calls Tryd.prog 44 #[.pointer (some ⟨w.heap.size + 1, 0, none⟩)] W2 fun e w' => e = .returned (.tuple #[vaV (St.percentage s).1, .bool (St.percentage s).2]) ∧ W2.grownBy w' (some (w.heap.size + 1)) := (ypercentage_any (w.heap.size + 1) s W2 hl hS).mono fun e w' h => ⟨h.1, h.2.2⟩
    have HE := Lib.hid (show St.valueAs St.wPct s = St.percentage s from by unfold St.valueAs; rw [if_neg (by decide)]; rw [if_neg (by decide)]; rw [if_neg (by decide)]; rw [if_neg (by decide)]; rw [if_neg (by decide)]; rw [if_pos rfl])
    generalize St.percentage s = V at hh HE
    obtain ⟨⟨v0, v1, v2⟩, vb⟩ := V
    unfold vaV at hh
    simp only at hh
    have HS := Lib.hid hS
    clear hS
    go_enter Tryd.func30, Tryd.ntmps30
    go_wp2_with fail
    try rw [hW1]
    try go_wp2_with fail
    try rw [hW2]
    refine hh.mono ?_
    clear hh
    rintro e w4 ⟨rfl, hg⟩
    have hR4 := HR.out.grown hg (fun e => by injection e; omega)
    have hB4 := HB.out.grown hg HB.out.size (fun k hk => by injection hk; omega)
    clear hg f0 e0
    have HR4 := Lib.hid hR4
    have HB4 := Lib.hid hB4
    clear hR4 hB4
    obtain ⟨f10, f11, f12⟩ := free3 HR4.out
    obtain ⟨d0, d1, d2⟩ := cells3 HR4.out
    go_wp2_with fail
    obtain ⟨X9, hX9, r9, g9⟩ := box3 HR4.out (.int .i64 v0) (.int .i64 v1) (.string (tstr v2))
    try rw [hX9]
    obtain ⟨c0, c1, c2⟩ := cells3 r9
    clear f10 f11 f12 d0 d1 d2 hX9
    refine bodyPost_ret (v := .tuple #[.agg #[.int .i64 v0, .int .i64 v1, .string (tstr v2)], .bool vb]) ?_ rfl ⟨by rw [HE.out]; rfl, HB4.out.grown g9 HB4.out.size (fun k hk => by injection hk; omega)⟩
    simp [results, Tryd.f30, go_sem, c0, c1, c2]
  by_cases k6 : x = St.wPctP
  · subst k6
    have z0 : ((tstr St.wPctP).toList == [60, 99, 111, 108, 111, 114, 62]) = false := tbeq (by decide)
    have z1 : ((tstr St.wPctP).toList == [60, 110, 117, 109, 98, 101, 114, 43, 62]) = false := tbeq (by decide)
    have z2 : ((tstr St.wPctP).toList == [60, 105, 110, 116, 101, 103, 101, 114, 62]) = false := tbeq (by decide)
    have z3 : ((tstr St.wPctP).toList == [60, 108, 101, 110, 103, 116, 104, 62]) = false := tbeq (by decide)
    have z4 : ((tstr St.wPctP).toList == [60, 108, 101, 110, 103, 116, 104, 43, 62]) = false := tbeq (by decide)
    have z5 : ((tstr St.wPctP).toList == [60, 112, 101, 114, 99, 101, 110, 116, 97, 103, 101, 62]) = false := tbeq (by decide)
    have z6 : ((tstr St.wPctP).toList == [60, 112, 101, 114, 99, 101, 110, 116, 97, 103, 101, 43, 62]) = true := tbeq (by decide)
    have hh : Calls Tryd.prog 44 #[.pointer (some ⟨w.heap.size + 1, 0, none⟩)] W2 fun e w' => e = .returned (.tuple #[vaV (St.percentage s).1, .bool (St.percentage s).2]) ∧ W2.grownBy w' (some (w.heap.size + 1)) := (ypercentage_any (w.heap.size + 1) s W2 hl hS).mono fun e w' h => ⟨h.1, h.2.2⟩
    have HE := Lib.hid (show St.valueAs St.wPctP s = St.positive (St.percentage s) from by unfold St.valueAs; rw [if_neg (by decide)]; rw [if_neg (by decide)]; rw [if_neg (by decide)]; rw [if_neg (by decide)]; rw [if_neg (by decide)]; rw [if_neg (by decide)]; rw [if_pos rfl])
    generalize St.percentage s = V at hh HE
    obtain ⟨⟨v0, v1, v2⟩, vb⟩ := V
    unfold vaV at hh
    simp only at hh
    have HS := Lib.hid hS
    clear hS
    go_enter Tryd.func30, Tryd.ntmps30
    go_wp2_with fail
    try rw [hW1]
    try go_wp2_with fail
    try rw [hW2]
    refine hh.mono ?_
    clear hh
    rintro e w4 ⟨rfl, hg⟩
    have hR4 := HR.out.grown hg (fun e => by injection e; omega)
    have hB4 := HB.out.grown hg HB.out.size (fun k hk => by injection hk; omega)
    clear hg f0 e0
    have hp := ypositive_any v0 v1 (tstr v2) vb w4
    go_wp2_with fail
    refine hp.mono ?_
    clear hp
    rintro e w5 ⟨rfl, hb5⟩
    have HR4 := Lib.hid (hR4.below hb5 hR4.lt)
    have HB4 := Lib.hid (hB4.trans (hb5.mono hB4.size))
    clear hR4 hB4 hb5
    obtain ⟨f10, f11, f12⟩ := free3 HR4.out
    obtain ⟨d0, d1, d2⟩ := cells3 HR4.out
    go_wp2_with fail
    obtain ⟨X9, hX9, r9, g9⟩ := box3 HR4.out (.int .i64 v0) (.int .i64 v1) (.string (tstr v2))
    try rw [hX9]
    obtain ⟨c0, c1, c2⟩ := cells3 r9
    clear f10 f11 f12 d0 d1 d2 hX9
    refine bodyPost_ret (v := .tuple #[.agg #[.int .i64 v0, .int .i64 v1, .string (tstr v2)], .bool (vb && decide (0 ≤ v1))]) ?_ rfl ⟨by rw [HE.out]; rfl, HB4.out.grown g9 HB4.out.size (fun k hk => by injection hk; omega)⟩
    simp [results, Tryd.f30, go_sem, c0, c1, c2]
  have z0 : ((tstr x).toList == [60, 99, 111, 108, 111, 114, 62]) = false := tbeq (decide_eq_false k0)
  have z1 : ((tstr x).toList == [60, 110, 117, 109, 98, 101, 114, 43, 62]) = false := tbeq (decide_eq_false k1)
  have z2 : ((tstr x).toList == [60, 105, 110, 116, 101, 103, 101, 114, 62]) = false := tbeq (decide_eq_false k2)
  have z3 : ((tstr x).toList == [60, 108, 101, 110, 103, 116, 104, 62]) = false := tbeq (decide_eq_false k3)
  have z4 : ((tstr x).toList == [60, 108, 101, 110, 103, 116, 104, 43, 62]) = false := tbeq (decide_eq_false k4)
  have z5 : ((tstr x).toList == [60, 112, 101, 114, 99, 101, 110, 116, 97, 103, 101, 62]) = false := tbeq (decide_eq_false k5)
  have z6 : ((tstr x).toList == [60, 112, 101, 114, 99, 101, 110, 116, 97, 103, 101, 43, 62]) = false := tbeq (decide_eq_false k6)
  have HE := Lib.hid (show St.valueAs x s = (⟨1, 0, x⟩, decide (x = s)) from by unfold St.valueAs; rw [if_neg k0]; rw [if_neg k1]; rw [if_neg k2]; rw [if_neg k3]; rw [if_neg k4]; rw [if_neg k5]; rw [if_neg k6])
  have HR4 := Lib.hid HR.out
  have HB4 := Lib.hid HB.out
  clear k0 k1 k2 k3 k4 k5 k6 hS
  obtain ⟨f10, f11, f12⟩ := free3 HR4.out
  obtain ⟨d0, d1, d2⟩ := cells3 HR4.out
  go_enter Tryd.func30, Tryd.ntmps30
  go_wp2_with fail
  try rw [hW1]
  try go_wp2_with fail
  try rw [hW2]
  obtain ⟨X9, hX9, r9, g9⟩ := box3 HR4.out (.int .i64 1) (.int .i64 0) (.string (tstr x))
  try rw [hX9]
  obtain ⟨c0, c1, c2⟩ := cells3 r9
  clear f10 f11 f12 d0 d1 d2 hX9
  refine bodyPost_ret (v := .tuple #[.agg #[.int .i64 1, .int .i64 0, .string (tstr x)], .bool ((tstr x).toList == (tstr s).toList)]) ?_ rfl ⟨by rw [HE.out]; exact ret2 rfl (congrArg Value.bool (by rw [ttl, ttl, Bool.eq_iff_iff]; simp)), HB4.out.grown g9 HB4.out.size (fun k hk => by injection hk; omega)⟩
  simp [results, Tryd.f30, go_sem, c0, c1, c2]
end Go.Proofs.YtoiednecchbmnaaDoor
/- The reference's Lower and Upper return what the plain texts say. -/
namespace Go.Proofs.YtoiednecchbmnaaDoor
open Go.RowKit

theorem tbytesWorld_below (w : World) (e : TypeId) (s : ByteArray) : Below w.heap.size w (Lib.bytesWorld w e s) := by
  refine ⟨?_, ?_, ?_, by rw [Lib.bytesWorld_size]; omega, fun k hk => Lib.bytesWorld_at_old w e s k hk⟩ <;>
  · unfold Lib.bytesWorld World.freeze
    split <;> rfl
theorem tbytesWorld_free (w : World) (e : TypeId) (s : ByteArray) (j : Nat) (hj : j < s.size) : (Lib.bytesWorld w e s).frozen? ⟨w.heap.size, j, none⟩ = false := by
  have hn : s.size ≤ (Lib.bytesCells w e s).size := by
    unfold Lib.bytesCells; simp
  simp only [World.frozen?, Lib.bytesWorld_at_new]
  have : ¬ (Lib.bytesCells w e s).size ≤ j := by omega
  simp [this]
theorem tadd_none (b j : Nat) : (⟨b, 0, none⟩ : Addr).add j = ⟨b, j, none⟩ := by unfold Addr.add; split <;> simp_all

/-- A row of bytes that may be written. -/
def BRow (w : World) (g : Nat) (l : List UInt8) : Prop := ∀ j (h : j < l.length), w.cell? ⟨g, j, none⟩ = some (.int .u8 l[j].toNat) ∧ w.frozen? ⟨g, j, none⟩ = false
theorem BRow.set {w : World} {g : Nat} {l : List UInt8} (h : BRow w g l) (k : Nat) (y : UInt8) : BRow (w.setCell ⟨g, k, none⟩ (.int .u8 y.toNat)) g (l.set k y) := by
  intro j hj
  rw [List.length_set] at hj
  obtain ⟨h1, h2⟩ := h j hj
  refine ⟨?_, by rw [World.frozen?_setCell]; exact h2⟩
  by_cases hkj : k = j
  · subst hkj
    rw [World.cell?_setCell_same _ _ _ h1]; simp
  · rw [World.cell?_setCell_other _ _ _ _ (by intro e; injection e with _ h2; exact hkj h2), h1, List.getElem_set_ne hkj]
theorem BRow.conv {w : World} {g cap : Nat} {l : List UInt8} (h : BRow w g l) : (convert 53 9 (.slice (some ⟨g, 0, none⟩) l.length cap)).run Tryd.prog w = .ok (.string (tstr l)) w := by
  refine run_convert_bytes_back _ 53 9 5 ⟨g, 0, none⟩ cap l Tryd.underlying53 Tryd.underlying5 Tryd.underlying9 ?_
  intro j hj
  rw [tadd_none]
  exact (h j hj).1
theorem BRow.new (w : World) (s : ByteArray) : BRow (Lib.bytesWorld w 5 s) w.heap.size s.data.toList := by
  intro j hj
  refine ⟨?_, tbytesWorld_free w _ s j hj⟩
  rw [Lib.bytesWorld_cell w _ s j hj, List.getD_eq_getElem?_getD, List.getElem?_eq_getElem hj]; rfl

/-- The first ones turned. -/
def part (f : UInt8 → UInt8) (l : List UInt8) (k : Nat) : List UInt8 := (l.take k).map f ++ l.drop k
theorem part_len (f : UInt8 → UInt8) (l : List UInt8) (k : Nat) : (part f l k).length = l.length := by
  unfold part; rw [List.length_append, List.length_map, List.length_take, List.length_drop]; omega
theorem part_zero (f : UInt8 → UInt8) (l : List UInt8) : part f l 0 = l := by simp [part]
theorem part_all (f : UInt8 → UInt8) (l : List UInt8) : part f l l.length = l.map f := by simp [part]
theorem part_get (f : UInt8 → UInt8) (l : List UInt8) (k : Nat) (h : k < l.length) : (part f l k)[k]'(by rw [part_len]; exact h) = l[k] := by
  unfold part
  rw [List.getElem_append_right (by rw [List.length_map, List.length_take]; omega)]
  simp only [List.length_map, List.length_take, List.getElem_drop]
  congr 1; omega
theorem part_step (f : UInt8 → UInt8) (l : List UInt8) (k : Nat) (h : k < l.length) : (part f l k).set k (f l[k]) = part f l (k + 1) := by
  unfold part
  rw [List.set_append_right _ _ (by rw [List.length_map, List.length_take]; omega), List.drop_eq_getElem_cons h, List.length_map, List.length_take, show k - min k l.length = 0 from by omega, List.take_succ_eq_append_getElem h, List.set_cons_zero, List.map_append, List.append_assoc]; rfl
theorem part_same (f : UInt8 → UInt8) (l : List UInt8) (k : Nat) (h : k < l.length) (hf : f l[k] = l[k]) : part f l (k + 1) = part f l k := by
  rw [← part_step f l k h, hf]
  have hh : k < (part f l k).length := by rw [part_len]; exact h
  have : (part f l k).set k ((part f l k)[k]'hh) = part f l k := List.set_getElem_self hh
  rwa [part_get f l k h] at this

set_option maxRecDepth 100000 in
set_option maxHeartbeats 400000 in
theorem rlower_any (s : ByteArray) (w : World) (hs : s.size ≤ 10000) :
    Calls Tryd.prog 11 #[.string s] w fun e w' => e = .returned (.string (tstr (s.data.toList.map Txt.lo))) ∧ Below w.heap.size w w' := by
  have hcv := Lib.run_convert_string_bytes (P := Tryd.prog) w 9 53 5 s Tryd.underlying9 Tryd.underlying53 Tryd.underlying5
  generalize grownCap w s.size 0 5 = cap at hcv
  have hll : s.data.toList.length = s.size := rfl
  go_enter Tryd.func11, Tryd.ntmps11
  go_wp2_with fail
  go_loopw [4] (fun i wr => ∃ k : Nat, k ≤ s.size ∧ i = .int .i64 k ∧ BRow wr w.heap.size (part Txt.lo s.data.toList k) ∧ Below w.heap.size w wr) (fun i _ => s.size - (intOf i).toNat)
  case atStart => exact ⟨0, Nat.zero_le _, rfl, by rw [part_zero]; exact BRow.new w s, tbytesWorld_below w _ s⟩
  case round =>
    obtain ⟨k, hk, rfl, hrow, hbel⟩ := hrel
    by_cases hlt : k < s.size
    · have hkl : k < s.data.toList.length := hlt
      obtain ⟨hc, hf⟩ := hrow k (by rw [part_len]; exact hkl)
      rw [part_get _ _ k hkl] at hc
      have hst := part_step Txt.lo s.data.toList k hkl
      have hsm := part_same Txt.lo s.data.toList k hkl
      obtain ⟨c, hcc⟩ : ∃ c, s.data.toList[k] = c := ⟨_, rfl⟩
      rw [hcc] at hc hst hsm
      have hnum := Txt.lo_num c
      have hsz := hbel.size
      by_cases hup : 65 ≤ c.toNat ∧ c.toNat ≤ 90
      · rw [if_pos hup] at hnum
        obtain ⟨h1, h2⟩ := hup
        have hset := hrow.set k (Txt.lo c)
        rw [hst, hnum] at hset
        have HS := Lib.hid hset
        clear hset hst hsm hnum hcc hrow
        go_wp2_with fail
        go_roundw
        case rel => exact ⟨k + 1, by omega, by go_num, HS.out, hbel.setCell (p := ⟨w.heap.size, k, none⟩) (Nat.le_refl _) _⟩
        case measure => simp [intOf]; omega
      · rw [if_neg hup] at hnum
        have hp : part Txt.lo s.data.toList (k + 1) = part Txt.lo s.data.toList k := hsm (UInt8.toNat_inj.1 hnum)
        rw [← hp] at hrow
        have HR := Lib.hid hrow
        clear hst hsm hnum hcc hp hrow
        by_cases h65 : 65 ≤ c.toNat
        · have h90 : ¬ c.toNat ≤ 90 := fun h => hup ⟨h65, h⟩
          clear hup
          go_wp2_with fail
          go_roundw
          case rel => exact ⟨k + 1, by omega, by go_num, HR.out, hbel⟩
          case measure => simp [intOf]; omega
        · clear hup
          go_wp2_with fail
          go_roundw
          case rel => exact ⟨k + 1, by omega, by go_num, HR.out, hbel⟩
          case measure => simp [intOf]; omega
    · have ek : k = s.size := by omega
      subst ek
      rw [← hll, part_all] at hrow
      have hl2 : (s.data.toList.map Txt.lo).length = s.size := by rw [List.length_map]; rfl
      have hconv := hrow.conv (cap := cap)
      rw [hl2] at hconv
      go_wp2_with fail
      go_ret
      exact ⟨rfl, hbel⟩

end Go.Proofs.YtoiednecchbmnaaDoor
