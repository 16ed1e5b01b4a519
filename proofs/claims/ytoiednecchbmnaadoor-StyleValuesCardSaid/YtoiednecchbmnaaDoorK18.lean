/- The reference's sizes and counts. -/
import Derived.Test.YtoiednecchbmnaaDoorK16
import Derived.Test.YtoiednecchbmnaaDoorK17
namespace Go.Proofs.YtoiednecchbmnaaDoor
open Go Go.RowKit
set_option linter.unusedVariables false
/-- A value of the reference in memory. -/
def rvaV (x : St.Va × Bool) : Value := .agg #[.int .i64 x.1.kind, .int .i64 x.1.num, .string (tstr x.1.word), .bool x.2]
theorem box4 {W : World} {B : Nat} {x0 x1 x2 x3 : Value} {T : TypeId} (r : Whole W B #[x0, x1, x2, x3] T) (y0 y1 y2 y3 : Value) :
    ∃ X, (((W.setCell ⟨B, 0, none⟩ y0).setCell ⟨B, 1, none⟩ y1).setCell ⟨B, 2, none⟩ y2).setCell ⟨B, 3, none⟩ y3 = X ∧ Whole X B #[y0, y1, y2, y3] T ∧ W.grownBy X (some B) := by
  have r0 : Whole _ B #[y0, x1, x2, x3] T := r.put 0 y0
  have r1 : Whole _ B #[y0, y1, x2, x3] T := r0.put 1 y1
  have r2 : Whole _ B #[y0, y1, y2, x3] T := r1.put 2 y2
  exact ⟨_, rfl, r2.put 3 y3, gb_put (gb_put (gb_put (gb_put (gb_of_below (Below.refl _ _) _) 0 y0) 1 y1) 2 y2) 3 y3⟩
theorem free4 {W : World} {B : Nat} {x0 x1 x2 x3 : Value} {T : TypeId} (r : Whole W B #[x0, x1, x2, x3] T) : W.frozen? ⟨B, 0, none⟩ = false ∧ W.frozen? ⟨B, 1, none⟩ = false ∧ W.frozen? ⟨B, 2, none⟩ = false ∧ W.frozen? ⟨B, 3, none⟩ = false := ⟨r.free 0, r.free 1, r.free 2, r.free 3⟩
theorem cells4 {W : World} {B : Nat} {x0 x1 x2 x3 : Value} {T : TypeId} (r : Whole W B #[x0, x1, x2, x3] T) : W.cell? ⟨B, 0, none⟩ = some x0 ∧ W.cell? ⟨B, 1, none⟩ = some x1 ∧ W.cell? ⟨B, 2, none⟩ = some x2 ∧ W.cell? ⟨B, 3, none⟩ = some x3 := ⟨r.cell 0, r.cell 1, r.cell 2, r.cell 3⟩
theorem tbeq2 {a b : List UInt8} {k : Bool} (h : decide (a = b) = k) : ((tstr a).toList == b) = k := by
  rw [ttl, ← h, Bool.eq_iff_iff]; simp
theorem ret1 {a b : Value} (h : a = b) : Ending.returned a = .returned b := by rw [h]
set_option maxHeartbeats 8000000 in
theorem rsize_any (l : List UInt8) (percent pos : Bool) (w : World) (hl : l.length ≤ 10000) :
    Calls Tryd.prog 22 #[.string (tstr l), .bool percent, .bool pos] w fun e w' => e = .returned (rvaV (St.rsize percent pos l)) ∧ Below w.heap.size w w' := by
  have hr0 : Whole (w.alloc (.cells #[.int .i64 0, .int .i64 0, .string ⟨#[]⟩, .bool false] 31)) w.heap.size #[.int .i64 0, .int .i64 0, .string ⟨#[]⟩, .bool false] 31 := Whole.new _ _ _
  have hB0 : Below w.heap.size w (w.alloc (.cells #[.int .i64 0, .int .i64 0, .string ⟨#[]⟩, .bool false] 31)) := (Below.refl _ _).alloc (Nat.le_refl _) _
  obtain ⟨W1, hW1⟩ : ∃ W1, w.alloc (.cells #[.int .i64 0, .int .i64 0, .string ⟨#[]⟩, .bool false] 31) = W1 := ⟨_, rfl⟩
  rw [hW1] at hr0 hB0
  have HR := Lib.hid hr0
  have HB := Lib.hid hB0
  have hh := rnumber_any l W1 hl
  have HL := Lib.hid (show St.thou l = ((St.thou l).1, (St.thou l).2.1, (St.thou l).2.2) from rfl)
  clear hr0 hB0
  have HE := Lib.hid (show St.rsize percent pos l = if (St.thou l).2.1 = false ∨ (pos = true ∧ (St.thou l).1 < 0) then (St.vnil, false)
    else if (St.thou l).2.2 = [112, 120] ∨ ((St.thou l).2.2 = [] ∧ (St.thou l).1 = 0) then (⟨3, (St.thou l).1, []⟩, true)
    else if (St.thou l).2.2 = [101, 109] then (⟨4, (St.thou l).1, []⟩, true)
    else if (St.thou l).2.2 = [37] ∧ percent = true then (⟨5, (St.thou l).1, []⟩, true)
    else (St.vnil, false) from rfl)
  clear HL
  generalize St.thou l = T at hh HE
  obtain ⟨x, ok, y⟩ := T
  simp only at hh HE
  cases ok with
  | false =>
    have HE2 := Lib.hid (HE.out.trans (if_pos (.inl rfl)))
    clear HE
    go_enter Tryd.func22, Tryd.ntmps22
    go_wp2_with fail
    try rw [hW1]
    refine hh.mono ?_
    clear hh
    rintro e w2 ⟨n, r, rfl, hnr, rfl⟩
    obtain ⟨f0, f1, f2, f3⟩ := free4 HR.out
    obtain ⟨d0, d1, d2, d3⟩ := cells4 HR.out
    clear hnr
    go_wp2_with fail
    obtain ⟨X9, hX9, r9, g9⟩ := box4 HR.out (.int .i64 0) (.int .i64 0) (.string ⟨#[]⟩) (.bool false)
    try rw [hX9]
    obtain ⟨c0, c1, c2, c3⟩ := cells4 r9
    clear f0 f1 f2 f3 d0 d1 d2 d3 hX9
    refine bodyPost_ret (v := .agg #[.int .i64 0, .int .i64 0, .string ⟨#[]⟩, .bool false]) ?_ rfl ⟨by rw [HE2.out]; rfl, HB.out.grown g9 HB.out.size (fun k hk => by injection hk; omega)⟩
    simp [results, Tryd.f22, go_sem, c0, c1, c2, c3]
  | true =>
    have hh2 : Calls Tryd.prog 32 #[.string (tstr l)] W1 fun e w' => e = .returned (.tuple #[.int .i64 x, .string (tstr y), .bool true]) ∧ W1 = w' := hh.mono fun e w' ⟨n, r, he, h, hw⟩ => by
      obtain ⟨h1, h2⟩ := h rfl
      rw [h1, h2] at he
      exact ⟨he, hw⟩
    clear hh
    cases pos with
    | true =>
      by_cases hn : x < 0
      · have HE2 := Lib.hid (HE.out.trans (if_pos (.inr ⟨rfl, hn⟩)))
        clear HE
        go_enter Tryd.func22, Tryd.ntmps22
        go_wp2_with fail
        try rw [hW1]
        refine hh2.mono ?_
        clear hh2
        rintro e w2 ⟨rfl, rfl⟩
        obtain ⟨f0, f1, f2, f3⟩ := free4 HR.out
        obtain ⟨d0, d1, d2, d3⟩ := cells4 HR.out
        go_wp2_with fail
        obtain ⟨X9, hX9, r9, g9⟩ := box4 HR.out (.int .i64 0) (.int .i64 0) (.string ⟨#[]⟩) (.bool false)
        try rw [hX9]
        obtain ⟨c0, c1, c2, c3⟩ := cells4 r9
        clear f0 f1 f2 f3 d0 d1 d2 d3 hX9
        refine bodyPost_ret (v := .agg #[.int .i64 0, .int .i64 0, .string ⟨#[]⟩, .bool false]) ?_ rfl ⟨by rw [HE2.out]; rfl, HB.out.grown g9 HB.out.size (fun k hk => by injection hk; omega)⟩
        simp [results, Tryd.f22, go_sem, c0, c1, c2, c3]
      by_cases h1 : y = [112, 120]
      · subst h1
        have z1 : ((tstr [112, 120]).toList == [112, 120]) = true := tbeq2 (by decide)
        have z2 : ((tstr [112, 120]).toList == [101, 109]) = false := tbeq2 (by decide)
        have z3 : ((tstr [112, 120]).toList == [37]) = false := tbeq2 (by decide)
        have z4 : (tstr [112, 120]).toList.isEmpty = false := by rw [ttl]; rfl
        have HE2 := Lib.hid (HE.out.trans ((if_neg (by rintro (h | ⟨_, h⟩); cases h; omega)).trans (if_pos (.inl rfl))))
        clear HE
        go_enter Tryd.func22, Tryd.ntmps22
        go_wp2_with fail
        try rw [hW1]
        refine hh2.mono ?_
        clear hh2
        rintro e w2 ⟨rfl, rfl⟩
        obtain ⟨f0, f1, f2, f3⟩ := free4 HR.out
        obtain ⟨d0, d1, d2, d3⟩ := cells4 HR.out
        go_wp2_with fail
        obtain ⟨X9, hX9, r9, g9⟩ := box4 HR.out (.int .i64 3) (.int .i64 x) (.string ⟨#[]⟩) (.bool true)
        try rw [hX9]
        obtain ⟨c0, c1, c2, c3⟩ := cells4 r9
        clear f0 f1 f2 f3 d0 d1 d2 d3 hX9
        refine bodyPost_ret (v := .agg #[.int .i64 3, .int .i64 x, .string ⟨#[]⟩, .bool true]) ?_ rfl ⟨by rw [HE2.out]; rfl, HB.out.grown g9 HB.out.size (fun k hk => by injection hk; omega)⟩
        simp [results, Tryd.f22, go_sem, c0, c1, c2, c3]
      by_cases h2 : y = [101, 109]
      · subst h2
        have z1 : ((tstr [101, 109]).toList == [112, 120]) = false := tbeq2 (by decide)
        have z2 : ((tstr [101, 109]).toList == [101, 109]) = true := tbeq2 (by decide)
        have z3 : ((tstr [101, 109]).toList == [37]) = false := tbeq2 (by decide)
        have z4 : (tstr [101, 109]).toList.isEmpty = false := by rw [ttl]; rfl
        have HE2 := Lib.hid (HE.out.trans ((if_neg (by rintro (h | ⟨_, h⟩); cases h; omega)).trans ((if_neg (by rintro (h | ⟨h, _⟩) <;> cases h)).trans (if_pos rfl))))
        clear HE
        go_enter Tryd.func22, Tryd.ntmps22
        go_wp2_with fail
        try rw [hW1]
        refine hh2.mono ?_
        clear hh2
        rintro e w2 ⟨rfl, rfl⟩
        obtain ⟨f0, f1, f2, f3⟩ := free4 HR.out
        obtain ⟨d0, d1, d2, d3⟩ := cells4 HR.out
        go_wp2_with fail
        obtain ⟨X9, hX9, r9, g9⟩ := box4 HR.out (.int .i64 4) (.int .i64 x) (.string ⟨#[]⟩) (.bool true)
        try rw [hX9]
        obtain ⟨c0, c1, c2, c3⟩ := cells4 r9
        clear f0 f1 f2 f3 d0 d1 d2 d3 hX9
        refine bodyPost_ret (v := .agg #[.int .i64 4, .int .i64 x, .string ⟨#[]⟩, .bool true]) ?_ rfl ⟨by rw [HE2.out]; rfl, HB.out.grown g9 HB.out.size (fun k hk => by injection hk; omega)⟩
        simp [results, Tryd.f22, go_sem, c0, c1, c2, c3]
      by_cases h3 : y = [37]
      · subst h3
        cases percent with
        | true =>
          have z1 : ((tstr [37]).toList == [112, 120]) = false := tbeq2 (by decide)
          have z2 : ((tstr [37]).toList == [101, 109]) = false := tbeq2 (by decide)
          have z3 : ((tstr [37]).toList == [37]) = true := tbeq2 (by decide)
          have z4 : (tstr [37]).toList.isEmpty = false := by rw [ttl]; rfl
          have HE2 := Lib.hid (HE.out.trans ((if_neg (by rintro (h | ⟨_, h⟩); cases h; omega)).trans ((if_neg (by rintro (h | ⟨h, _⟩) <;> cases h)).trans ((if_neg (by decide)).trans (if_pos ⟨rfl, rfl⟩)))))
          clear HE
          go_enter Tryd.func22, Tryd.ntmps22
          go_wp2_with fail
          try rw [hW1]
          refine hh2.mono ?_
          clear hh2
          rintro e w2 ⟨rfl, rfl⟩
          obtain ⟨f0, f1, f2, f3⟩ := free4 HR.out
          obtain ⟨d0, d1, d2, d3⟩ := cells4 HR.out
          go_wp2_with fail
          obtain ⟨X9, hX9, r9, g9⟩ := box4 HR.out (.int .i64 5) (.int .i64 x) (.string ⟨#[]⟩) (.bool true)
          try rw [hX9]
          obtain ⟨c0, c1, c2, c3⟩ := cells4 r9
          clear f0 f1 f2 f3 d0 d1 d2 d3 hX9
          refine bodyPost_ret (v := .agg #[.int .i64 5, .int .i64 x, .string ⟨#[]⟩, .bool true]) ?_ rfl ⟨by rw [HE2.out]; rfl, HB.out.grown g9 HB.out.size (fun k hk => by injection hk; omega)⟩
          simp [results, Tryd.f22, go_sem, c0, c1, c2, c3]
        | false =>
          have z1 : ((tstr [37]).toList == [112, 120]) = false := tbeq2 (by decide)
          have z2 : ((tstr [37]).toList == [101, 109]) = false := tbeq2 (by decide)
          have z3 : ((tstr [37]).toList == [37]) = true := tbeq2 (by decide)
          have z4 : (tstr [37]).toList.isEmpty = false := by rw [ttl]; rfl
          have HE2 := Lib.hid (HE.out.trans ((if_neg (by rintro (h | ⟨_, h⟩); cases h; omega)).trans ((if_neg (by rintro (h | ⟨h, _⟩) <;> cases h)).trans ((if_neg (by decide)).trans (if_neg (by rintro ⟨_, h⟩; cases h))))))
          clear HE
          go_enter Tryd.func22, Tryd.ntmps22
          go_wp2_with fail
          try rw [hW1]
          refine hh2.mono ?_
          clear hh2
          rintro e w2 ⟨rfl, rfl⟩
          obtain ⟨f0, f1, f2, f3⟩ := free4 HR.out
          obtain ⟨d0, d1, d2, d3⟩ := cells4 HR.out
          go_wp2_with fail
          obtain ⟨X9, hX9, r9, g9⟩ := box4 HR.out (.int .i64 0) (.int .i64 0) (.string ⟨#[]⟩) (.bool false)
          try rw [hX9]
          obtain ⟨c0, c1, c2, c3⟩ := cells4 r9
          clear f0 f1 f2 f3 d0 d1 d2 d3 hX9
          refine bodyPost_ret (v := .agg #[.int .i64 0, .int .i64 0, .string ⟨#[]⟩, .bool false]) ?_ rfl ⟨by rw [HE2.out]; rfl, HB.out.grown g9 HB.out.size (fun k hk => by injection hk; omega)⟩
          simp [results, Tryd.f22, go_sem, c0, c1, c2, c3]
      by_cases h4 : y = []
      · subst h4
        by_cases h5 : x = 0
        · subst h5
          have z1 : ((tstr []).toList == [112, 120]) = false := tbeq2 (by decide)
          have z2 : ((tstr []).toList == [101, 109]) = false := tbeq2 (by decide)
          have z3 : ((tstr []).toList == [37]) = false := tbeq2 (by decide)
          have z4 : (tstr []).toList.isEmpty = true := by rw [ttl]; rfl
          have HE2 := Lib.hid (HE.out.trans ((if_neg (by rintro (h | ⟨_, h⟩); cases h; omega)).trans (if_pos (.inr ⟨rfl, rfl⟩))))
          clear HE
          go_enter Tryd.func22, Tryd.ntmps22
          go_wp2_with fail
          try rw [hW1]
          refine hh2.mono ?_
          clear hh2
          rintro e w2 ⟨rfl, rfl⟩
          obtain ⟨f0, f1, f2, f3⟩ := free4 HR.out
          obtain ⟨d0, d1, d2, d3⟩ := cells4 HR.out
          go_wp2_with fail
          obtain ⟨X9, hX9, r9, g9⟩ := box4 HR.out (.int .i64 3) (.int .i64 0) (.string ⟨#[]⟩) (.bool true)
          try rw [hX9]
          obtain ⟨c0, c1, c2, c3⟩ := cells4 r9
          clear f0 f1 f2 f3 d0 d1 d2 d3 hX9
          refine bodyPost_ret (v := .agg #[.int .i64 3, .int .i64 0, .string ⟨#[]⟩, .bool true]) ?_ rfl ⟨by rw [HE2.out]; rfl, HB.out.grown g9 HB.out.size (fun k hk => by injection hk; omega)⟩
          simp [results, Tryd.f22, go_sem, c0, c1, c2, c3]
        · have z1 : ((tstr []).toList == [112, 120]) = false := tbeq2 (by decide)
          have z2 : ((tstr []).toList == [101, 109]) = false := tbeq2 (by decide)
          have z3 : ((tstr []).toList == [37]) = false := tbeq2 (by decide)
          have z4 : (tstr []).toList.isEmpty = true := by rw [ttl]; rfl
          have h5b : (x == 0) = false := beq_eq_false_iff_ne.2 h5
          have HE2 := Lib.hid (HE.out.trans ((if_neg (by rintro (h | ⟨_, h⟩); cases h; omega)).trans ((if_neg (by rintro (h | ⟨_, h⟩); cases h; exact h5 h)).trans ((if_neg (by decide)).trans (if_neg (by rintro ⟨h, _⟩; cases h))))))
          clear HE
          go_enter Tryd.func22, Tryd.ntmps22
          go_wp2_with fail
          try rw [hW1]
          refine hh2.mono ?_
          clear hh2
          rintro e w2 ⟨rfl, rfl⟩
          obtain ⟨f0, f1, f2, f3⟩ := free4 HR.out
          obtain ⟨d0, d1, d2, d3⟩ := cells4 HR.out
          go_wp2_with fail
          obtain ⟨X9, hX9, r9, g9⟩ := box4 HR.out (.int .i64 0) (.int .i64 0) (.string ⟨#[]⟩) (.bool false)
          try rw [hX9]
          obtain ⟨c0, c1, c2, c3⟩ := cells4 r9
          clear f0 f1 f2 f3 d0 d1 d2 d3 hX9
          refine bodyPost_ret (v := .agg #[.int .i64 0, .int .i64 0, .string ⟨#[]⟩, .bool false]) ?_ rfl ⟨by rw [HE2.out]; rfl, HB.out.grown g9 HB.out.size (fun k hk => by injection hk; omega)⟩
          simp [results, Tryd.f22, go_sem, c0, c1, c2, c3]
      have z1 : ((tstr y).toList == [112, 120]) = false := by rw [ttl]; exact beq_eq_false_iff_ne.2 h1
      have z2 : ((tstr y).toList == [101, 109]) = false := by rw [ttl]; exact beq_eq_false_iff_ne.2 h2
      have z3 : ((tstr y).toList == [37]) = false := by rw [ttl]; exact beq_eq_false_iff_ne.2 h3
      have z4 : (tstr y).toList.isEmpty = false := by rw [ttl]; cases y with | nil => exact absurd rfl h4 | cons a t => rfl
      have HE2 := Lib.hid (HE.out.trans ((if_neg (by rintro (h | ⟨_, h⟩); cases h; omega)).trans ((if_neg (by rintro (h | ⟨h, _⟩); exact h1 h; exact h4 h)).trans ((if_neg h2).trans (if_neg (by rintro ⟨h, _⟩; exact h3 h))))))
      clear HE
      go_enter Tryd.func22, Tryd.ntmps22
      go_wp2_with fail
      try rw [hW1]
      refine hh2.mono ?_
      clear hh2
      rintro e w2 ⟨rfl, rfl⟩
      obtain ⟨f0, f1, f2, f3⟩ := free4 HR.out
      obtain ⟨d0, d1, d2, d3⟩ := cells4 HR.out
      go_wp2_with fail
      obtain ⟨X9, hX9, r9, g9⟩ := box4 HR.out (.int .i64 0) (.int .i64 0) (.string ⟨#[]⟩) (.bool false)
      try rw [hX9]
      obtain ⟨c0, c1, c2, c3⟩ := cells4 r9
      clear f0 f1 f2 f3 d0 d1 d2 d3 hX9
      refine bodyPost_ret (v := .agg #[.int .i64 0, .int .i64 0, .string ⟨#[]⟩, .bool false]) ?_ rfl ⟨by rw [HE2.out]; rfl, HB.out.grown g9 HB.out.size (fun k hk => by injection hk; omega)⟩
      simp [results, Tryd.f22, go_sem, c0, c1, c2, c3]
    | false =>
      by_cases h1 : y = [112, 120]
      · subst h1
        have z1 : ((tstr [112, 120]).toList == [112, 120]) = true := tbeq2 (by decide)
        have z2 : ((tstr [112, 120]).toList == [101, 109]) = false := tbeq2 (by decide)
        have z3 : ((tstr [112, 120]).toList == [37]) = false := tbeq2 (by decide)
        have z4 : (tstr [112, 120]).toList.isEmpty = false := by rw [ttl]; rfl
        have HE2 := Lib.hid (HE.out.trans ((if_neg (by rintro (h | ⟨h, _⟩); cases h; cases h)).trans (if_pos (.inl rfl))))
        clear HE
        go_enter Tryd.func22, Tryd.ntmps22
        go_wp2_with fail
        try rw [hW1]
        refine hh2.mono ?_
        clear hh2
        rintro e w2 ⟨rfl, rfl⟩
        obtain ⟨f0, f1, f2, f3⟩ := free4 HR.out
        obtain ⟨d0, d1, d2, d3⟩ := cells4 HR.out
        go_wp2_with fail
        obtain ⟨X9, hX9, r9, g9⟩ := box4 HR.out (.int .i64 3) (.int .i64 x) (.string ⟨#[]⟩) (.bool true)
        try rw [hX9]
        obtain ⟨c0, c1, c2, c3⟩ := cells4 r9
        clear f0 f1 f2 f3 d0 d1 d2 d3 hX9
        refine bodyPost_ret (v := .agg #[.int .i64 3, .int .i64 x, .string ⟨#[]⟩, .bool true]) ?_ rfl ⟨by rw [HE2.out]; rfl, HB.out.grown g9 HB.out.size (fun k hk => by injection hk; omega)⟩
        simp [results, Tryd.f22, go_sem, c0, c1, c2, c3]
      by_cases h2 : y = [101, 109]
      · subst h2
        have z1 : ((tstr [101, 109]).toList == [112, 120]) = false := tbeq2 (by decide)
        have z2 : ((tstr [101, 109]).toList == [101, 109]) = true := tbeq2 (by decide)
        have z3 : ((tstr [101, 109]).toList == [37]) = false := tbeq2 (by decide)
        have z4 : (tstr [101, 109]).toList.isEmpty = false := by rw [ttl]; rfl
        have HE2 := Lib.hid (HE.out.trans ((if_neg (by rintro (h | ⟨h, _⟩); cases h; cases h)).trans ((if_neg (by rintro (h | ⟨h, _⟩) <;> cases h)).trans (if_pos rfl))))
        clear HE
        go_enter Tryd.func22, Tryd.ntmps22
        go_wp2_with fail
        try rw [hW1]
        refine hh2.mono ?_
        clear hh2
        rintro e w2 ⟨rfl, rfl⟩
        obtain ⟨f0, f1, f2, f3⟩ := free4 HR.out
        obtain ⟨d0, d1, d2, d3⟩ := cells4 HR.out
        go_wp2_with fail
        obtain ⟨X9, hX9, r9, g9⟩ := box4 HR.out (.int .i64 4) (.int .i64 x) (.string ⟨#[]⟩) (.bool true)
        try rw [hX9]
        obtain ⟨c0, c1, c2, c3⟩ := cells4 r9
        clear f0 f1 f2 f3 d0 d1 d2 d3 hX9
        refine bodyPost_ret (v := .agg #[.int .i64 4, .int .i64 x, .string ⟨#[]⟩, .bool true]) ?_ rfl ⟨by rw [HE2.out]; rfl, HB.out.grown g9 HB.out.size (fun k hk => by injection hk; omega)⟩
        simp [results, Tryd.f22, go_sem, c0, c1, c2, c3]
      by_cases h3 : y = [37]
      · subst h3
        cases percent with
        | true =>
          have z1 : ((tstr [37]).toList == [112, 120]) = false := tbeq2 (by decide)
          have z2 : ((tstr [37]).toList == [101, 109]) = false := tbeq2 (by decide)
          have z3 : ((tstr [37]).toList == [37]) = true := tbeq2 (by decide)
          have z4 : (tstr [37]).toList.isEmpty = false := by rw [ttl]; rfl
          have HE2 := Lib.hid (HE.out.trans ((if_neg (by rintro (h | ⟨h, _⟩); cases h; cases h)).trans ((if_neg (by rintro (h | ⟨h, _⟩) <;> cases h)).trans ((if_neg (by decide)).trans (if_pos ⟨rfl, rfl⟩)))))
          clear HE
          go_enter Tryd.func22, Tryd.ntmps22
          go_wp2_with fail
          try rw [hW1]
          refine hh2.mono ?_
          clear hh2
          rintro e w2 ⟨rfl, rfl⟩
          obtain ⟨f0, f1, f2, f3⟩ := free4 HR.out
          obtain ⟨d0, d1, d2, d3⟩ := cells4 HR.out
          go_wp2_with fail
          obtain ⟨X9, hX9, r9, g9⟩ := box4 HR.out (.int .i64 5) (.int .i64 x) (.string ⟨#[]⟩) (.bool true)
          try rw [hX9]
          obtain ⟨c0, c1, c2, c3⟩ := cells4 r9
          clear f0 f1 f2 f3 d0 d1 d2 d3 hX9
          refine bodyPost_ret (v := .agg #[.int .i64 5, .int .i64 x, .string ⟨#[]⟩, .bool true]) ?_ rfl ⟨by rw [HE2.out]; rfl, HB.out.grown g9 HB.out.size (fun k hk => by injection hk; omega)⟩
          simp [results, Tryd.f22, go_sem, c0, c1, c2, c3]
        | false =>
          have z1 : ((tstr [37]).toList == [112, 120]) = false := tbeq2 (by decide)
          have z2 : ((tstr [37]).toList == [101, 109]) = false := tbeq2 (by decide)
          have z3 : ((tstr [37]).toList == [37]) = true := tbeq2 (by decide)
          have z4 : (tstr [37]).toList.isEmpty = false := by rw [ttl]; rfl
          have HE2 := Lib.hid (HE.out.trans ((if_neg (by rintro (h | ⟨h, _⟩); cases h; cases h)).trans ((if_neg (by rintro (h | ⟨h, _⟩) <;> cases h)).trans ((if_neg (by decide)).trans (if_neg (by rintro ⟨_, h⟩; cases h))))))
          clear HE
          go_enter Tryd.func22, Tryd.ntmps22
          go_wp2_with fail
          try rw [hW1]
          refine hh2.mono ?_
          clear hh2
          rintro e w2 ⟨rfl, rfl⟩
          obtain ⟨f0, f1, f2, f3⟩ := free4 HR.out
          obtain ⟨d0, d1, d2, d3⟩ := cells4 HR.out
          go_wp2_with fail
          obtain ⟨X9, hX9, r9, g9⟩ := box4 HR.out (.int .i64 0) (.int .i64 0) (.string ⟨#[]⟩) (.bool false)
          try rw [hX9]
          obtain ⟨c0, c1, c2, c3⟩ := cells4 r9
          clear f0 f1 f2 f3 d0 d1 d2 d3 hX9
          refine bodyPost_ret (v := .agg #[.int .i64 0, .int .i64 0, .string ⟨#[]⟩, .bool false]) ?_ rfl ⟨by rw [HE2.out]; rfl, HB.out.grown g9 HB.out.size (fun k hk => by injection hk; omega)⟩
          simp [results, Tryd.f22, go_sem, c0, c1, c2, c3]
      by_cases h4 : y = []
      · subst h4
        by_cases h5 : x = 0
        · subst h5
          have z1 : ((tstr []).toList == [112, 120]) = false := tbeq2 (by decide)
          have z2 : ((tstr []).toList == [101, 109]) = false := tbeq2 (by decide)
          have z3 : ((tstr []).toList == [37]) = false := tbeq2 (by decide)
          have z4 : (tstr []).toList.isEmpty = true := by rw [ttl]; rfl
          have HE2 := Lib.hid (HE.out.trans ((if_neg (by rintro (h | ⟨h, _⟩); cases h; cases h)).trans (if_pos (.inr ⟨rfl, rfl⟩))))
          clear HE
          go_enter Tryd.func22, Tryd.ntmps22
          go_wp2_with fail
          try rw [hW1]
          refine hh2.mono ?_
          clear hh2
          rintro e w2 ⟨rfl, rfl⟩
          obtain ⟨f0, f1, f2, f3⟩ := free4 HR.out
          obtain ⟨d0, d1, d2, d3⟩ := cells4 HR.out
          go_wp2_with fail
          obtain ⟨X9, hX9, r9, g9⟩ := box4 HR.out (.int .i64 3) (.int .i64 0) (.string ⟨#[]⟩) (.bool true)
          try rw [hX9]
          obtain ⟨c0, c1, c2, c3⟩ := cells4 r9
          clear f0 f1 f2 f3 d0 d1 d2 d3 hX9
          refine bodyPost_ret (v := .agg #[.int .i64 3, .int .i64 0, .string ⟨#[]⟩, .bool true]) ?_ rfl ⟨by rw [HE2.out]; rfl, HB.out.grown g9 HB.out.size (fun k hk => by injection hk; omega)⟩
          simp [results, Tryd.f22, go_sem, c0, c1, c2, c3]
        · have z1 : ((tstr []).toList == [112, 120]) = false := tbeq2 (by decide)
          have z2 : ((tstr []).toList == [101, 109]) = false := tbeq2 (by decide)
          have z3 : ((tstr []).toList == [37]) = false := tbeq2 (by decide)
          have z4 : (tstr []).toList.isEmpty = true := by rw [ttl]; rfl
          have h5b : (x == 0) = false := beq_eq_false_iff_ne.2 h5
          have HE2 := Lib.hid (HE.out.trans ((if_neg (by rintro (h | ⟨h, _⟩); cases h; cases h)).trans ((if_neg (by rintro (h | ⟨_, h⟩); cases h; exact h5 h)).trans ((if_neg (by decide)).trans (if_neg (by rintro ⟨h, _⟩; cases h))))))
          clear HE
          go_enter Tryd.func22, Tryd.ntmps22
          go_wp2_with fail
          try rw [hW1]
          refine hh2.mono ?_
          clear hh2
          rintro e w2 ⟨rfl, rfl⟩
          obtain ⟨f0, f1, f2, f3⟩ := free4 HR.out
          obtain ⟨d0, d1, d2, d3⟩ := cells4 HR.out
          go_wp2_with fail
          obtain ⟨X9, hX9, r9, g9⟩ := box4 HR.out (.int .i64 0) (.int .i64 0) (.string ⟨#[]⟩) (.bool false)
          try rw [hX9]
          obtain ⟨c0, c1, c2, c3⟩ := cells4 r9
          clear f0 f1 f2 f3 d0 d1 d2 d3 hX9
          refine bodyPost_ret (v := .agg #[.int .i64 0, .int .i64 0, .string ⟨#[]⟩, .bool false]) ?_ rfl ⟨by rw [HE2.out]; rfl, HB.out.grown g9 HB.out.size (fun k hk => by injection hk; omega)⟩
          simp [results, Tryd.f22, go_sem, c0, c1, c2, c3]
      have z1 : ((tstr y).toList == [112, 120]) = false := by rw [ttl]; exact beq_eq_false_iff_ne.2 h1
      have z2 : ((tstr y).toList == [101, 109]) = false := by rw [ttl]; exact beq_eq_false_iff_ne.2 h2
      have z3 : ((tstr y).toList == [37]) = false := by rw [ttl]; exact beq_eq_false_iff_ne.2 h3
      have z4 : (tstr y).toList.isEmpty = false := by rw [ttl]; cases y with | nil => exact absurd rfl h4 | cons a t => rfl
      have HE2 := Lib.hid (HE.out.trans ((if_neg (by rintro (h | ⟨h, _⟩); cases h; cases h)).trans ((if_neg (by rintro (h | ⟨h, _⟩); exact h1 h; exact h4 h)).trans ((if_neg h2).trans (if_neg (by rintro ⟨h, _⟩; exact h3 h))))))
      clear HE
      go_enter Tryd.func22, Tryd.ntmps22
      go_wp2_with fail
      try rw [hW1]
      refine hh2.mono ?_
      clear hh2
      rintro e w2 ⟨rfl, rfl⟩
      obtain ⟨f0, f1, f2, f3⟩ := free4 HR.out
      obtain ⟨d0, d1, d2, d3⟩ := cells4 HR.out
      go_wp2_with fail
      obtain ⟨X9, hX9, r9, g9⟩ := box4 HR.out (.int .i64 0) (.int .i64 0) (.string ⟨#[]⟩) (.bool false)
      try rw [hX9]
      obtain ⟨c0, c1, c2, c3⟩ := cells4 r9
      clear f0 f1 f2 f3 d0 d1 d2 d3 hX9
      refine bodyPost_ret (v := .agg #[.int .i64 0, .int .i64 0, .string ⟨#[]⟩, .bool false]) ?_ rfl ⟨by rw [HE2.out]; rfl, HB.out.grown g9 HB.out.size (fun k hk => by injection hk; omega)⟩
      simp [results, Tryd.f22, go_sem, c0, c1, c2, c3]
set_option maxHeartbeats 8000000 in
theorem rcountP_any (l : List UInt8) (w : World) (hl : l.length ≤ 10000) :
    Calls Tryd.prog 23 #[.string (tstr l), .bool true, .bool false] w fun e w' => e = .returned (rvaV (St.rcount true false l)) ∧ Below w.heap.size w w' := by
  have hr0 : Whole (w.alloc (.cells #[.int .i64 0, .int .i64 0, .string ⟨#[]⟩, .bool false] 31)) w.heap.size #[.int .i64 0, .int .i64 0, .string ⟨#[]⟩, .bool false] 31 := Whole.new _ _ _
  have hB0 : Below w.heap.size w (w.alloc (.cells #[.int .i64 0, .int .i64 0, .string ⟨#[]⟩, .bool false] 31)) := (Below.refl _ _).alloc (Nat.le_refl _) _
  obtain ⟨W1, hW1⟩ : ∃ W1, w.alloc (.cells #[.int .i64 0, .int .i64 0, .string ⟨#[]⟩, .bool false] 31) = W1 := ⟨_, rfl⟩
  rw [hW1] at hr0 hB0
  have HR := Lib.hid hr0
  have HB := Lib.hid hB0
  have hh := rnumber_any l W1 hl
  have HL := Lib.hid (show St.thou l = ((St.thou l).1, (St.thou l).2.1, (St.thou l).2.2) from rfl)
  clear hr0 hB0
  have HE := Lib.hid (show St.rcount true false l = if (St.thou l).2.1 = false ∨ (St.thou l).2.2 ≠ [] ∨ (true = true ∧ (St.thou l).1 < 0) ∨ (false = true ∧ (St.thou l).1.tmod 1000 ≠ 0) then (St.vnil, false) else (⟨2, (St.thou l).1, []⟩, true) from rfl)
  clear HL
  generalize St.thou l = T at hh HE
  obtain ⟨x, ok, y⟩ := T
  simp only at hh HE
  cases ok with
  | false =>
    have HE2 := Lib.hid (HE.out.trans (if_pos (.inl rfl)))
    clear HE
    go_enter Tryd.func23, Tryd.ntmps23
    go_wp2_with fail
    try rw [hW1]
    refine hh.mono ?_
    clear hh
    rintro e w2 ⟨n, r, rfl, hnr, rfl⟩
    obtain ⟨f0, f1, f2, f3⟩ := free4 HR.out
    obtain ⟨d0, d1, d2, d3⟩ := cells4 HR.out
    clear hnr
    go_wp2_with fail
    obtain ⟨X9, hX9, r9, g9⟩ := box4 HR.out (.int .i64 0) (.int .i64 0) (.string ⟨#[]⟩) (.bool false)
    try rw [hX9]
    obtain ⟨c0, c1, c2, c3⟩ := cells4 r9
    clear f0 f1 f2 f3 d0 d1 d2 d3 hX9
    refine bodyPost_ret (v := .agg #[.int .i64 0, .int .i64 0, .string ⟨#[]⟩, .bool false]) ?_ rfl ⟨by rw [HE2.out]; rfl, HB.out.grown g9 HB.out.size (fun k hk => by injection hk; omega)⟩
    simp [results, Tryd.f23, go_sem, c0, c1, c2, c3]
  | true =>
    have hh2 : Calls Tryd.prog 32 #[.string (tstr l)] W1 fun e w' => e = .returned (.tuple #[.int .i64 x, .string (tstr y), .bool true]) ∧ W1 = w' := hh.mono fun e w' ⟨n, r, he, h, hw⟩ => by
      obtain ⟨h1, h2⟩ := h rfl
      rw [h1, h2] at he
      exact ⟨he, hw⟩
    clear hh
    by_cases h4 : y = []
    · subst h4
      have z4 : (tstr []).toList.isEmpty = true := by rw [ttl]; rfl
      by_cases hn : x < 0
      · have HE2 := Lib.hid (HE.out.trans (if_pos (.inr (.inr (.inl ⟨trivial, hn⟩)))))
        clear HE
        go_enter Tryd.func23, Tryd.ntmps23
        go_wp2_with fail
        try rw [hW1]
        refine hh2.mono ?_
        clear hh2
        rintro e w2 ⟨rfl, rfl⟩
        obtain ⟨f0, f1, f2, f3⟩ := free4 HR.out
        obtain ⟨d0, d1, d2, d3⟩ := cells4 HR.out
        go_wp2_with fail
        obtain ⟨X9, hX9, r9, g9⟩ := box4 HR.out (.int .i64 0) (.int .i64 0) (.string ⟨#[]⟩) (.bool false)
        try rw [hX9]
        obtain ⟨c0, c1, c2, c3⟩ := cells4 r9
        clear f0 f1 f2 f3 d0 d1 d2 d3 hX9
        refine bodyPost_ret (v := .agg #[.int .i64 0, .int .i64 0, .string ⟨#[]⟩, .bool false]) ?_ rfl ⟨by rw [HE2.out]; rfl, HB.out.grown g9 HB.out.size (fun k hk => by injection hk; omega)⟩
        simp [results, Tryd.f23, go_sem, c0, c1, c2, c3]
      · have HE2 := Lib.hid (HE.out.trans (if_neg (by rintro (h | h | ⟨_, h⟩ | ⟨h, _⟩); cases h; exact h rfl; omega; cases h)))
        clear HE
        go_enter Tryd.func23, Tryd.ntmps23
        go_wp2_with fail
        try rw [hW1]
        refine hh2.mono ?_
        clear hh2
        rintro e w2 ⟨rfl, rfl⟩
        obtain ⟨f0, f1, f2, f3⟩ := free4 HR.out
        obtain ⟨d0, d1, d2, d3⟩ := cells4 HR.out
        go_wp2_with fail
        obtain ⟨X9, hX9, r9, g9⟩ := box4 HR.out (.int .i64 2) (.int .i64 x) (.string ⟨#[]⟩) (.bool true)
        try rw [hX9]
        obtain ⟨c0, c1, c2, c3⟩ := cells4 r9
        clear f0 f1 f2 f3 d0 d1 d2 d3 hX9
        refine bodyPost_ret (v := .agg #[.int .i64 2, .int .i64 x, .string ⟨#[]⟩, .bool true]) ?_ rfl ⟨by rw [HE2.out]; rfl, HB.out.grown g9 HB.out.size (fun k hk => by injection hk; omega)⟩
        simp [results, Tryd.f23, go_sem, c0, c1, c2, c3]
    · have z4 : (tstr y).toList.isEmpty = false := by rw [ttl]; cases y with | nil => exact absurd rfl h4 | cons a t => rfl
      have HE2 := Lib.hid (HE.out.trans (if_pos (.inr (.inl h4))))
      clear HE
      go_enter Tryd.func23, Tryd.ntmps23
      go_wp2_with fail
      try rw [hW1]
      refine hh2.mono ?_
      clear hh2
      rintro e w2 ⟨rfl, rfl⟩
      obtain ⟨f0, f1, f2, f3⟩ := free4 HR.out
      obtain ⟨d0, d1, d2, d3⟩ := cells4 HR.out
      go_wp2_with fail
      obtain ⟨X9, hX9, r9, g9⟩ := box4 HR.out (.int .i64 0) (.int .i64 0) (.string ⟨#[]⟩) (.bool false)
      try rw [hX9]
      obtain ⟨c0, c1, c2, c3⟩ := cells4 r9
      clear f0 f1 f2 f3 d0 d1 d2 d3 hX9
      refine bodyPost_ret (v := .agg #[.int .i64 0, .int .i64 0, .string ⟨#[]⟩, .bool false]) ?_ rfl ⟨by rw [HE2.out]; rfl, HB.out.grown g9 HB.out.size (fun k hk => by injection hk; omega)⟩
      simp [results, Tryd.f23, go_sem, c0, c1, c2, c3]
set_option maxHeartbeats 8000000 in
theorem rcountW_any (l : List UInt8) (w : World) (hl : l.length ≤ 10000) :
    Calls Tryd.prog 23 #[.string (tstr l), .bool false, .bool true] w fun e w' => e = .returned (rvaV (St.rcount false true l)) ∧ Below w.heap.size w w' := by
  have hr0 : Whole (w.alloc (.cells #[.int .i64 0, .int .i64 0, .string ⟨#[]⟩, .bool false] 31)) w.heap.size #[.int .i64 0, .int .i64 0, .string ⟨#[]⟩, .bool false] 31 := Whole.new _ _ _
  have hB0 : Below w.heap.size w (w.alloc (.cells #[.int .i64 0, .int .i64 0, .string ⟨#[]⟩, .bool false] 31)) := (Below.refl _ _).alloc (Nat.le_refl _) _
  obtain ⟨W1, hW1⟩ : ∃ W1, w.alloc (.cells #[.int .i64 0, .int .i64 0, .string ⟨#[]⟩, .bool false] 31) = W1 := ⟨_, rfl⟩
  rw [hW1] at hr0 hB0
  have HR := Lib.hid hr0
  have HB := Lib.hid hB0
  have hh := rnumber_any l W1 hl
  have HL := Lib.hid (show St.thou l = ((St.thou l).1, (St.thou l).2.1, (St.thou l).2.2) from rfl)
  clear hr0 hB0
  have HE := Lib.hid (show St.rcount false true l = if (St.thou l).2.1 = false ∨ (St.thou l).2.2 ≠ [] ∨ (false = true ∧ (St.thou l).1 < 0) ∨ (true = true ∧ (St.thou l).1.tmod 1000 ≠ 0) then (St.vnil, false) else (⟨2, (St.thou l).1, []⟩, true) from rfl)
  clear HL
  generalize St.thou l = T at hh HE
  obtain ⟨x, ok, y⟩ := T
  simp only at hh HE
  cases ok with
  | false =>
    have HE2 := Lib.hid (HE.out.trans (if_pos (.inl rfl)))
    clear HE
    go_enter Tryd.func23, Tryd.ntmps23
    go_wp2_with fail
    try rw [hW1]
    refine hh.mono ?_
    clear hh
    rintro e w2 ⟨n, r, rfl, hnr, rfl⟩
    obtain ⟨f0, f1, f2, f3⟩ := free4 HR.out
    obtain ⟨d0, d1, d2, d3⟩ := cells4 HR.out
    clear hnr
    go_wp2_with fail
    obtain ⟨X9, hX9, r9, g9⟩ := box4 HR.out (.int .i64 0) (.int .i64 0) (.string ⟨#[]⟩) (.bool false)
    try rw [hX9]
    obtain ⟨c0, c1, c2, c3⟩ := cells4 r9
    clear f0 f1 f2 f3 d0 d1 d2 d3 hX9
    refine bodyPost_ret (v := .agg #[.int .i64 0, .int .i64 0, .string ⟨#[]⟩, .bool false]) ?_ rfl ⟨by rw [HE2.out]; rfl, HB.out.grown g9 HB.out.size (fun k hk => by injection hk; omega)⟩
    simp [results, Tryd.f23, go_sem, c0, c1, c2, c3]
  | true =>
    have hh2 : Calls Tryd.prog 32 #[.string (tstr l)] W1 fun e w' => e = .returned (.tuple #[.int .i64 x, .string (tstr y), .bool true]) ∧ W1 = w' := hh.mono fun e w' ⟨n, r, he, h, hw⟩ => by
      obtain ⟨h1, h2⟩ := h rfl
      rw [h1, h2] at he
      exact ⟨he, hw⟩
    clear hh
    by_cases h4 : y = []
    · subst h4
      have z4 : (tstr []).toList.isEmpty = true := by rw [ttl]; rfl
      by_cases hn : x.tmod 1000 = 0
      · have hnb : (x.tmod 1000 == 0) = true := by rw [hn]; rfl
        have HE2 := Lib.hid (HE.out.trans (if_neg (by rintro (h | h | ⟨h, _⟩ | ⟨_, h⟩); cases h; exact h rfl; cases h; exact h hn)))
        clear HE
        go_enter Tryd.func23, Tryd.ntmps23
        go_wp2_with fail
        try rw [hW1]
        refine hh2.mono ?_
        clear hh2
        rintro e w2 ⟨rfl, rfl⟩
        obtain ⟨f0, f1, f2, f3⟩ := free4 HR.out
        obtain ⟨d0, d1, d2, d3⟩ := cells4 HR.out
        go_wp2_with fail
        obtain ⟨X9, hX9, r9, g9⟩ := box4 HR.out (.int .i64 2) (.int .i64 x) (.string ⟨#[]⟩) (.bool true)
        try rw [hX9]
        obtain ⟨c0, c1, c2, c3⟩ := cells4 r9
        clear f0 f1 f2 f3 d0 d1 d2 d3 hX9
        refine bodyPost_ret (v := .agg #[.int .i64 2, .int .i64 x, .string ⟨#[]⟩, .bool true]) ?_ rfl ⟨by rw [HE2.out]; rfl, HB.out.grown g9 HB.out.size (fun k hk => by injection hk; omega)⟩
        simp [results, Tryd.f23, go_sem, c0, c1, c2, c3]
      · have hnb : (x.tmod 1000 == 0) = false := beq_eq_false_iff_ne.2 hn
        have HE2 := Lib.hid (HE.out.trans (if_pos (.inr (.inr (.inr ⟨trivial, hn⟩)))))
        clear HE
        go_enter Tryd.func23, Tryd.ntmps23
        go_wp2_with fail
        try rw [hW1]
        refine hh2.mono ?_
        clear hh2
        rintro e w2 ⟨rfl, rfl⟩
        obtain ⟨f0, f1, f2, f3⟩ := free4 HR.out
        obtain ⟨d0, d1, d2, d3⟩ := cells4 HR.out
        go_wp2_with fail
        obtain ⟨X9, hX9, r9, g9⟩ := box4 HR.out (.int .i64 0) (.int .i64 0) (.string ⟨#[]⟩) (.bool false)
        try rw [hX9]
        obtain ⟨c0, c1, c2, c3⟩ := cells4 r9
        clear f0 f1 f2 f3 d0 d1 d2 d3 hX9
        refine bodyPost_ret (v := .agg #[.int .i64 0, .int .i64 0, .string ⟨#[]⟩, .bool false]) ?_ rfl ⟨by rw [HE2.out]; rfl, HB.out.grown g9 HB.out.size (fun k hk => by injection hk; omega)⟩
        simp [results, Tryd.f23, go_sem, c0, c1, c2, c3]
    · have z4 : (tstr y).toList.isEmpty = false := by rw [ttl]; cases y with | nil => exact absurd rfl h4 | cons a t => rfl
      have HE2 := Lib.hid (HE.out.trans (if_pos (.inr (.inl h4))))
      clear HE
      go_enter Tryd.func23, Tryd.ntmps23
      go_wp2_with fail
      try rw [hW1]
      refine hh2.mono ?_
      clear hh2
      rintro e w2 ⟨rfl, rfl⟩
      obtain ⟨f0, f1, f2, f3⟩ := free4 HR.out
      obtain ⟨d0, d1, d2, d3⟩ := cells4 HR.out
      go_wp2_with fail
      obtain ⟨X9, hX9, r9, g9⟩ := box4 HR.out (.int .i64 0) (.int .i64 0) (.string ⟨#[]⟩) (.bool false)
      try rw [hX9]
      obtain ⟨c0, c1, c2, c3⟩ := cells4 r9
      clear f0 f1 f2 f3 d0 d1 d2 d3 hX9
      refine bodyPost_ret (v := .agg #[.int .i64 0, .int .i64 0, .string ⟨#[]⟩, .bool false]) ?_ rfl ⟨by rw [HE2.out]; rfl, HB.out.grown g9 HB.out.size (fun k hk => by injection hk; omega)⟩
      simp [results, Tryd.f23, go_sem, c0, c1, c2, c3]
end Go.Proofs.YtoiednecchbmnaaDoor
