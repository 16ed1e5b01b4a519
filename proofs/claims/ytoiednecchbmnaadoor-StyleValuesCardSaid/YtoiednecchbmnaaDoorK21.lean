/- The reference's Parse. -/
import Derived.Test.YtoiednecchbmnaaDoorK19
import Derived.Test.YtoiednecchbmnaaDoorK20
import Derived.Test.YtoiednecchbmnaaDoorK08
import Derived.Test.YtoiednecchbmnaaDoorK09
import Derived.Test.YtoiednecchbmnaaDoorK10
namespace Go.Proofs.YtoiednecchbmnaaDoor
open Go Go.RowKit
set_option linter.unusedVariables false
def tailW : List UInt8 := [32, 105, 110, 104, 101, 114, 105, 116, 32, 105, 110, 105, 116, 105, 97, 108]
theorem kw_fields : ∀ x ∈ St.kinds, Txt.fields [] (St.glue x.2.1 ++ tailW) = x.2.1 ++ St.everyW ∧ (St.glue x.2.1).length ≤ 1000 ∧ (x.2.1 ++ St.everyW).length ≤ 1000 := by
  have : (St.kinds.all fun x => decide (Txt.fields [] (St.glue x.2.1 ++ tailW) = x.2.1 ++ St.everyW) && decide ((St.glue x.2.1).length ≤ 1000) && decide ((x.2.1 ++ St.everyW).length ≤ 1000)) = true := by decide +kernel
  intro x hx
  have h := List.all_eq_true.1 this x hx
  rw [Bool.and_eq_true, Bool.and_eq_true] at h
  exact ⟨of_decide_eq_true h.1.1, of_decide_eq_true h.1.2, of_decide_eq_true h.2⟩
set_option maxHeartbeats 16000000 in
theorem rparse_any (x : St.Bs × List St.Bs × Nat) (hx : x ∈ St.kinds) (t : List UInt8) (w : World) (hl : t.length ≤ 10000) :
    Calls Tryd.prog 8 #[.string (tstr x.1), .string (tstr t)] w fun e w' => e = .returned (rvaV (St.rparse x.2.1 x.2.2 (Txt.trim (t.map Txt.lo)))) ∧ Below w.heap.size w w' := by
  have hr0 : Whole (w.alloc (.cells #[.int .i64 0, .int .i64 0, .string ⟨#[]⟩, .bool false] 31)) w.heap.size #[.int .i64 0, .int .i64 0, .string ⟨#[]⟩, .bool false] 31 := Whole.new _ _ _
  have hB0 : Below w.heap.size w (w.alloc (.cells #[.int .i64 0, .int .i64 0, .string ⟨#[]⟩, .bool false] 31)) := (Below.refl _ _).alloc (Nat.le_refl _) _
  obtain ⟨W1, hW1⟩ : ∃ W1, w.alloc (.cells #[.int .i64 0, .int .i64 0, .string ⟨#[]⟩, .bool false] 31) = W1 := ⟨_, rfl⟩
  rw [hW1] at hr0 hB0
  have HR := Lib.hid hr0
  have HB := Lib.hid hB0
  have htab := rtable_any x hx
  have hkw := kw_fields x hx
  have hk7 := (St.kw_ok x hx).2.1
  clear hr0 hB0 hx
  obtain ⟨name, kw, k⟩ := x
  simp only at htab hkw hk7 ⊢
  have hlo : Calls Tryd.prog 11 #[.string (tstr t)] W1 fun e w' => e = .returned (.string (tstr (t.map Txt.lo))) ∧ Below W1.heap.size W1 w' := by have := rlower_any (tstr t) W1 (by rw [tsize]; exact hl); rw [tdata] at this; exact this
  obtain ⟨s, hs⟩ : ∃ s, Txt.trim (t.map Txt.lo) = s := ⟨_, rfl⟩
  have hsl : s.length ≤ 10000 := by rw [← hs]; exact Nat.le_trans (trim_len _) (by rw [List.length_map]; exact hl)
  have htr : ∀ w, Calls Tryd.prog 12 #[.string (tstr (t.map Txt.lo))] w fun e w' => e = .returned (.string (tstr s)) ∧ w = w' := fun w => by have := rtrim_any (tstr (t.map Txt.lo)) w (by rw [tsize, List.length_map]; exact hl); rw [tdata, hs] at this; exact this
  rw [hs]
  have hone : ∀ w, Calls Tryd.prog 20 #[.string (tstr s), .string (tstr (St.glue kw) ++ tstr tailW)] w fun e w' => e = .returned (.bool (decide (s ∈ kw ++ St.everyW))) ∧ Below w.heap.size w w' := fun w => by
    have := rone_any s (St.glue kw ++ tailW) _ w hkw.1 (by rw [List.length_append]; have := hkw.2.1; have : tailW.length = 16 := rfl; omega) hkw.2.2
    rw [← tapp] at this
    exact this
  have hgl : (tstr (St.glue kw)).size ≤ 1000 := by rw [tsize]; exact hkw.2.1
  have HP := Lib.hid (show St.rparse kw k s = if s ∈ kw ++ St.everyW then (⟨1, 0, s⟩, true) else St.rkind k s from rfl)
  clear hkw hs hl
  have hk : k = 0 ∨ k = 1 ∨ k = 2 ∨ k = 3 ∨ k = 4 ∨ k = 5 ∨ k = 6 ∨ k = 7 := by omega
  by_cases hm : s ∈ kw ++ St.everyW
  · have HE := Lib.hid (HP.out.trans (if_pos hm))
    rw [decide_eq_true hm] at hone
    have hne : (tstr (kName k)).toList.isEmpty = false := by rw [ttl]; rcases hk with rfl | rfl | rfl | rfl | rfl | rfl | rfl | rfl <;> rfl
    clear hm hk
    go_enter Tryd.func8, Tryd.ntmps8
    go_wp2_with fail
    try rw [hW1]
    refine hlo.mono ?_
    clear hlo
    rintro e w2 ⟨rfl, hb⟩
    have HR2 := Lib.hid (HR.out.below hb HR.out.lt)
    have HB2 := Lib.hid (HB.out.trans (hb.mono HB.out.size))
    clear hb hW1
    go_wp2_with fail
    refine (htr _).mono ?_
    clear htr
    rintro e w3 ⟨rfl, rfl⟩
    go_wp2_with fail
    refine (htab _).mono ?_
    clear htab
    rintro e w3 ⟨rfl, rfl⟩
    go_wp2_with fail
    refine (hone _).mono ?_
    clear hone
    rintro e w3 ⟨rfl, hb⟩
    have HR3 := Lib.hid (HR2.out.below hb HR2.out.lt)
    have HB3 := Lib.hid (HB2.out.trans (hb.mono HB2.out.size))
    clear hb
    obtain ⟨f0, f1, f2, f3⟩ := free4 HR3.out
    obtain ⟨d0, d1, d2, d3⟩ := cells4 HR3.out
    go_wp2_with fail
    obtain ⟨X9, hX9, r9, g9⟩ := box4 HR3.out (.int .i64 1) (.int .i64 0) (.string (tstr s)) (.bool true)
    try rw [hX9]
    obtain ⟨c0, c1, c2, c3⟩ := cells4 r9
    clear f0 f1 f2 f3 d0 d1 d2 d3 hX9
    refine bodyPost_ret (v := .agg #[.int .i64 1, .int .i64 0, .string (tstr s), .bool true]) ?_ rfl ⟨by rw [HE.out]; rfl, HB3.out.grown g9 HB3.out.size (fun k hk => by injection hk; omega)⟩
    simp [results, Tryd.f8, go_sem, c0, c1, c2, c3]
  · have HE0 := Lib.hid (HP.out.trans (if_neg hm))
    rw [decide_eq_false hm] at hone
    clear hm
    rcases hk with rfl | rfl | rfl | rfl | rfl | rfl | rfl | rfl
    · have hne : (tstr (kName 0)).toList.isEmpty = false := by rw [ttl]; rfl
      have q1 : ((tstr (kName 0)).toList == [99, 111, 108, 111, 114]) = false := tbeq2 (by decide)
      have q2 : ((tstr (kName 0)).toList == [108, 101, 110, 103, 116, 104]) = false := tbeq2 (by decide)
      have q3 : ((tstr (kName 0)).toList == [112, 111, 115, 105, 116, 105, 118, 101]) = false := tbeq2 (by decide)
      have q4 : ((tstr (kName 0)).toList == [97, 110, 121]) = false := tbeq2 (by decide)
      have q5 : ((tstr (kName 0)).toList == [110, 117, 109, 98, 101, 114]) = false := tbeq2 (by decide)
      have q6 : ((tstr (kName 0)).toList == [105, 110, 116, 101, 103, 101, 114]) = false := tbeq2 (by decide)
      have q7 : ((tstr (kName 0)).toList == [108, 105, 110, 101]) = false := tbeq2 (by decide)
      have HE := Lib.hid (show St.rparse kw 0 s = (St.vnil, false) from HE0.out)
      go_enter Tryd.func8, Tryd.ntmps8
      go_wp2_with fail
      try rw [hW1]
      refine hlo.mono ?_
      clear hlo
      rintro e w2 ⟨rfl, hb⟩
      have HR2 := Lib.hid (HR.out.below hb HR.out.lt)
      have HB2 := Lib.hid (HB.out.trans (hb.mono HB.out.size))
      clear hb hW1
      go_wp2_with fail
      refine (htr _).mono ?_
      clear htr
      rintro e w3 ⟨rfl, rfl⟩
      go_wp2_with fail
      refine (htab _).mono ?_
      clear htab
      rintro e w3 ⟨rfl, rfl⟩
      go_wp2_with fail
      refine (hone _).mono ?_
      clear hone
      rintro e w3 ⟨rfl, hb⟩
      have HR3 := Lib.hid (HR2.out.below hb HR2.out.lt)
      have HB3 := Lib.hid (HB2.out.trans (hb.mono HB2.out.size))
      clear hb
      obtain ⟨f0, f1, f2, f3⟩ := free4 HR3.out
      obtain ⟨d0, d1, d2, d3⟩ := cells4 HR3.out
      go_wp2_with fail
      obtain ⟨X9, hX9, r9, g9⟩ := box4 HR3.out (.int .i64 0) (.int .i64 0) (.string ⟨#[]⟩) (.bool false)
      try rw [hX9]
      obtain ⟨c0, c1, c2, c3⟩ := cells4 r9
      clear f0 f1 f2 f3 d0 d1 d2 d3 hX9
      refine bodyPost_ret (v := .agg #[.int .i64 0, .int .i64 0, .string ⟨#[]⟩, .bool false]) ?_ rfl ⟨by rw [HE.out]; rfl, HB3.out.grown g9 HB3.out.size (fun k hk => by injection hk; omega)⟩
      simp [results, Tryd.f8, go_sem, c0, c1, c2, c3]
    · have hne : (tstr (kName 1)).toList.isEmpty = false := by rw [ttl]; rfl
      have q1 : ((tstr (kName 1)).toList == [99, 111, 108, 111, 114]) = true := tbeq2 (by decide)
      have HE := Lib.hid (show St.rparse kw 1 s = St.rcolor s from HE0.out)
      have hc : ∀ w, Calls Tryd.prog 21 #[.string (tstr s)] w fun e w' => e = .returned (rvaV (St.rcolor s)) ∧ Below w.heap.size w w' := fun w => rcolor_any s w hsl
      generalize St.rcolor s = V at hc HE
      obtain ⟨⟨v0, v1, v2⟩, vb⟩ := V
      unfold rvaV at hc
      simp only at hc
      go_enter Tryd.func8, Tryd.ntmps8
      go_wp2_with fail
      try rw [hW1]
      refine hlo.mono ?_
      clear hlo
      rintro e w2 ⟨rfl, hb⟩
      have HR2 := Lib.hid (HR.out.below hb HR.out.lt)
      have HB2 := Lib.hid (HB.out.trans (hb.mono HB.out.size))
      clear hb hW1
      go_wp2_with fail
      refine (htr _).mono ?_
      clear htr
      rintro e w3 ⟨rfl, rfl⟩
      go_wp2_with fail
      refine (htab _).mono ?_
      clear htab
      rintro e w3 ⟨rfl, rfl⟩
      go_wp2_with fail
      refine (hone _).mono ?_
      clear hone
      rintro e w3 ⟨rfl, hb⟩
      have HR3 := Lib.hid (HR2.out.below hb HR2.out.lt)
      have HB3 := Lib.hid (HB2.out.trans (hb.mono HB2.out.size))
      clear hb
      go_wp2_with fail
      refine (hc _).mono ?_
      clear hc
      rintro e w4 ⟨rfl, hb⟩
      have HR4 := Lib.hid (HR3.out.below hb HR3.out.lt)
      have HB4 := Lib.hid (HB3.out.trans (hb.mono HB3.out.size))
      clear hb
      obtain ⟨f0, f1, f2, f3⟩ := free4 HR4.out
      obtain ⟨d0, d1, d2, d3⟩ := cells4 HR4.out
      go_wp2_with fail
      obtain ⟨X9, hX9, r9, g9⟩ := box4 HR4.out (.int .i64 v0) (.int .i64 v1) (.string (tstr v2)) (.bool vb)
      try rw [hX9]
      obtain ⟨c0, c1, c2, c3⟩ := cells4 r9
      clear f0 f1 f2 f3 d0 d1 d2 d3 hX9
      refine bodyPost_ret (v := .agg #[.int .i64 v0, .int .i64 v1, .string (tstr v2), .bool vb]) ?_ rfl ⟨by rw [HE.out]; rfl, HB4.out.grown g9 HB4.out.size (fun k hk => by injection hk; omega)⟩
      simp [results, Tryd.f8, go_sem, c0, c1, c2, c3]
    · have hne : (tstr (kName 2)).toList.isEmpty = false := by rw [ttl]; rfl
      have q1 : ((tstr (kName 2)).toList == [99, 111, 108, 111, 114]) = false := tbeq2 (by decide)
      have q2 : ((tstr (kName 2)).toList == [108, 101, 110, 103, 116, 104]) = true := tbeq2 (by decide)
      have HE := Lib.hid (show St.rparse kw 2 s = St.rsize false true s from HE0.out)
      have hc : ∀ w, Calls Tryd.prog 22 #[.string (tstr s), .bool false, .bool true] w fun e w' => e = .returned (rvaV (St.rsize false true s)) ∧ Below w.heap.size w w' := fun w => rsize_any s false true w hsl
      generalize St.rsize false true s = V at hc HE
      obtain ⟨⟨v0, v1, v2⟩, vb⟩ := V
      unfold rvaV at hc
      simp only at hc
      go_enter Tryd.func8, Tryd.ntmps8
      go_wp2_with fail
      try rw [hW1]
      refine hlo.mono ?_
      clear hlo
      rintro e w2 ⟨rfl, hb⟩
      have HR2 := Lib.hid (HR.out.below hb HR.out.lt)
      have HB2 := Lib.hid (HB.out.trans (hb.mono HB.out.size))
      clear hb hW1
      go_wp2_with fail
      refine (htr _).mono ?_
      clear htr
      rintro e w3 ⟨rfl, rfl⟩
      go_wp2_with fail
      refine (htab _).mono ?_
      clear htab
      rintro e w3 ⟨rfl, rfl⟩
      go_wp2_with fail
      refine (hone _).mono ?_
      clear hone
      rintro e w3 ⟨rfl, hb⟩
      have HR3 := Lib.hid (HR2.out.below hb HR2.out.lt)
      have HB3 := Lib.hid (HB2.out.trans (hb.mono HB2.out.size))
      clear hb
      go_wp2_with fail
      refine (hc _).mono ?_
      clear hc
      rintro e w4 ⟨rfl, hb⟩
      have HR4 := Lib.hid (HR3.out.below hb HR3.out.lt)
      have HB4 := Lib.hid (HB3.out.trans (hb.mono HB3.out.size))
      clear hb
      obtain ⟨f0, f1, f2, f3⟩ := free4 HR4.out
      obtain ⟨d0, d1, d2, d3⟩ := cells4 HR4.out
      go_wp2_with fail
      obtain ⟨X9, hX9, r9, g9⟩ := box4 HR4.out (.int .i64 v0) (.int .i64 v1) (.string (tstr v2)) (.bool vb)
      try rw [hX9]
      obtain ⟨c0, c1, c2, c3⟩ := cells4 r9
      clear f0 f1 f2 f3 d0 d1 d2 d3 hX9
      refine bodyPost_ret (v := .agg #[.int .i64 v0, .int .i64 v1, .string (tstr v2), .bool vb]) ?_ rfl ⟨by rw [HE.out]; rfl, HB4.out.grown g9 HB4.out.size (fun k hk => by injection hk; omega)⟩
      simp [results, Tryd.f8, go_sem, c0, c1, c2, c3]
    · have hne : (tstr (kName 3)).toList.isEmpty = false := by rw [ttl]; rfl
      have q1 : ((tstr (kName 3)).toList == [99, 111, 108, 111, 114]) = false := tbeq2 (by decide)
      have q2 : ((tstr (kName 3)).toList == [108, 101, 110, 103, 116, 104]) = false := tbeq2 (by decide)
      have q3 : ((tstr (kName 3)).toList == [112, 111, 115, 105, 116, 105, 118, 101]) = true := tbeq2 (by decide)
      have HE := Lib.hid (show St.rparse kw 3 s = St.rsize true true s from HE0.out)
      have hc : ∀ w, Calls Tryd.prog 22 #[.string (tstr s), .bool true, .bool true] w fun e w' => e = .returned (rvaV (St.rsize true true s)) ∧ Below w.heap.size w w' := fun w => rsize_any s true true w hsl
      generalize St.rsize true true s = V at hc HE
      obtain ⟨⟨v0, v1, v2⟩, vb⟩ := V
      unfold rvaV at hc
      simp only at hc
      go_enter Tryd.func8, Tryd.ntmps8
      go_wp2_with fail
      try rw [hW1]
      refine hlo.mono ?_
      clear hlo
      rintro e w2 ⟨rfl, hb⟩
      have HR2 := Lib.hid (HR.out.below hb HR.out.lt)
      have HB2 := Lib.hid (HB.out.trans (hb.mono HB.out.size))
      clear hb hW1
      go_wp2_with fail
      refine (htr _).mono ?_
      clear htr
      rintro e w3 ⟨rfl, rfl⟩
      go_wp2_with fail
      refine (htab _).mono ?_
      clear htab
      rintro e w3 ⟨rfl, rfl⟩
      go_wp2_with fail
      refine (hone _).mono ?_
      clear hone
      rintro e w3 ⟨rfl, hb⟩
      have HR3 := Lib.hid (HR2.out.below hb HR2.out.lt)
      have HB3 := Lib.hid (HB2.out.trans (hb.mono HB2.out.size))
      clear hb
      go_wp2_with fail
      refine (hc _).mono ?_
      clear hc
      rintro e w4 ⟨rfl, hb⟩
      have HR4 := Lib.hid (HR3.out.below hb HR3.out.lt)
      have HB4 := Lib.hid (HB3.out.trans (hb.mono HB3.out.size))
      clear hb
      obtain ⟨f0, f1, f2, f3⟩ := free4 HR4.out
      obtain ⟨d0, d1, d2, d3⟩ := cells4 HR4.out
      go_wp2_with fail
      obtain ⟨X9, hX9, r9, g9⟩ := box4 HR4.out (.int .i64 v0) (.int .i64 v1) (.string (tstr v2)) (.bool vb)
      try rw [hX9]
      obtain ⟨c0, c1, c2, c3⟩ := cells4 r9
      clear f0 f1 f2 f3 d0 d1 d2 d3 hX9
      refine bodyPost_ret (v := .agg #[.int .i64 v0, .int .i64 v1, .string (tstr v2), .bool vb]) ?_ rfl ⟨by rw [HE.out]; rfl, HB4.out.grown g9 HB4.out.size (fun k hk => by injection hk; omega)⟩
      simp [results, Tryd.f8, go_sem, c0, c1, c2, c3]
    · have hne : (tstr (kName 4)).toList.isEmpty = false := by rw [ttl]; rfl
      have q1 : ((tstr (kName 4)).toList == [99, 111, 108, 111, 114]) = false := tbeq2 (by decide)
      have q2 : ((tstr (kName 4)).toList == [108, 101, 110, 103, 116, 104]) = false := tbeq2 (by decide)
      have q3 : ((tstr (kName 4)).toList == [112, 111, 115, 105, 116, 105, 118, 101]) = false := tbeq2 (by decide)
      have q4 : ((tstr (kName 4)).toList == [97, 110, 121]) = true := tbeq2 (by decide)
      have HE := Lib.hid (show St.rparse kw 4 s = St.rsize true false s from HE0.out)
      have hc : ∀ w, Calls Tryd.prog 22 #[.string (tstr s), .bool true, .bool false] w fun e w' => e = .returned (rvaV (St.rsize true false s)) ∧ Below w.heap.size w w' := fun w => rsize_any s true false w hsl
      generalize St.rsize true false s = V at hc HE
      obtain ⟨⟨v0, v1, v2⟩, vb⟩ := V
      unfold rvaV at hc
      simp only at hc
      go_enter Tryd.func8, Tryd.ntmps8
      go_wp2_with fail
      try rw [hW1]
      refine hlo.mono ?_
      clear hlo
      rintro e w2 ⟨rfl, hb⟩
      have HR2 := Lib.hid (HR.out.below hb HR.out.lt)
      have HB2 := Lib.hid (HB.out.trans (hb.mono HB.out.size))
      clear hb hW1
      go_wp2_with fail
      refine (htr _).mono ?_
      clear htr
      rintro e w3 ⟨rfl, rfl⟩
      go_wp2_with fail
      refine (htab _).mono ?_
      clear htab
      rintro e w3 ⟨rfl, rfl⟩
      go_wp2_with fail
      refine (hone _).mono ?_
      clear hone
      rintro e w3 ⟨rfl, hb⟩
      have HR3 := Lib.hid (HR2.out.below hb HR2.out.lt)
      have HB3 := Lib.hid (HB2.out.trans (hb.mono HB2.out.size))
      clear hb
      go_wp2_with fail
      refine (hc _).mono ?_
      clear hc
      rintro e w4 ⟨rfl, hb⟩
      have HR4 := Lib.hid (HR3.out.below hb HR3.out.lt)
      have HB4 := Lib.hid (HB3.out.trans (hb.mono HB3.out.size))
      clear hb
      obtain ⟨f0, f1, f2, f3⟩ := free4 HR4.out
      obtain ⟨d0, d1, d2, d3⟩ := cells4 HR4.out
      go_wp2_with fail
      obtain ⟨X9, hX9, r9, g9⟩ := box4 HR4.out (.int .i64 v0) (.int .i64 v1) (.string (tstr v2)) (.bool vb)
      try rw [hX9]
      obtain ⟨c0, c1, c2, c3⟩ := cells4 r9
      clear f0 f1 f2 f3 d0 d1 d2 d3 hX9
      refine bodyPost_ret (v := .agg #[.int .i64 v0, .int .i64 v1, .string (tstr v2), .bool vb]) ?_ rfl ⟨by rw [HE.out]; rfl, HB4.out.grown g9 HB4.out.size (fun k hk => by injection hk; omega)⟩
      simp [results, Tryd.f8, go_sem, c0, c1, c2, c3]
    · have hne : (tstr (kName 5)).toList.isEmpty = false := by rw [ttl]; rfl
      have q1 : ((tstr (kName 5)).toList == [99, 111, 108, 111, 114]) = false := tbeq2 (by decide)
      have q2 : ((tstr (kName 5)).toList == [108, 101, 110, 103, 116, 104]) = false := tbeq2 (by decide)
      have q3 : ((tstr (kName 5)).toList == [112, 111, 115, 105, 116, 105, 118, 101]) = false := tbeq2 (by decide)
      have q4 : ((tstr (kName 5)).toList == [97, 110, 121]) = false := tbeq2 (by decide)
      have q5 : ((tstr (kName 5)).toList == [110, 117, 109, 98, 101, 114]) = true := tbeq2 (by decide)
      have HE := Lib.hid (show St.rparse kw 5 s = St.rcount true false s from HE0.out)
      have hc : ∀ w, Calls Tryd.prog 23 #[.string (tstr s), .bool true, .bool false] w fun e w' => e = .returned (rvaV (St.rcount true false s)) ∧ Below w.heap.size w w' := fun w => rcountP_any s w hsl
      generalize St.rcount true false s = V at hc HE
      obtain ⟨⟨v0, v1, v2⟩, vb⟩ := V
      unfold rvaV at hc
      simp only at hc
      go_enter Tryd.func8, Tryd.ntmps8
      go_wp2_with fail
      try rw [hW1]
      refine hlo.mono ?_
      clear hlo
      rintro e w2 ⟨rfl, hb⟩
      have HR2 := Lib.hid (HR.out.below hb HR.out.lt)
      have HB2 := Lib.hid (HB.out.trans (hb.mono HB.out.size))
      clear hb hW1
      go_wp2_with fail
      refine (htr _).mono ?_
      clear htr
      rintro e w3 ⟨rfl, rfl⟩
      go_wp2_with fail
      refine (htab _).mono ?_
      clear htab
      rintro e w3 ⟨rfl, rfl⟩
      go_wp2_with fail
      refine (hone _).mono ?_
      clear hone
      rintro e w3 ⟨rfl, hb⟩
      have HR3 := Lib.hid (HR2.out.below hb HR2.out.lt)
      have HB3 := Lib.hid (HB2.out.trans (hb.mono HB2.out.size))
      clear hb
      go_wp2_with fail
      refine (hc _).mono ?_
      clear hc
      rintro e w4 ⟨rfl, hb⟩
      have HR4 := Lib.hid (HR3.out.below hb HR3.out.lt)
      have HB4 := Lib.hid (HB3.out.trans (hb.mono HB3.out.size))
      clear hb
      obtain ⟨f0, f1, f2, f3⟩ := free4 HR4.out
      obtain ⟨d0, d1, d2, d3⟩ := cells4 HR4.out
      go_wp2_with fail
      obtain ⟨X9, hX9, r9, g9⟩ := box4 HR4.out (.int .i64 v0) (.int .i64 v1) (.string (tstr v2)) (.bool vb)
      try rw [hX9]
      obtain ⟨c0, c1, c2, c3⟩ := cells4 r9
      clear f0 f1 f2 f3 d0 d1 d2 d3 hX9
      refine bodyPost_ret (v := .agg #[.int .i64 v0, .int .i64 v1, .string (tstr v2), .bool vb]) ?_ rfl ⟨by rw [HE.out]; rfl, HB4.out.grown g9 HB4.out.size (fun k hk => by injection hk; omega)⟩
      simp [results, Tryd.f8, go_sem, c0, c1, c2, c3]
    · have hne : (tstr (kName 6)).toList.isEmpty = false := by rw [ttl]; rfl
      have q1 : ((tstr (kName 6)).toList == [99, 111, 108, 111, 114]) = false := tbeq2 (by decide)
      have q2 : ((tstr (kName 6)).toList == [108, 101, 110, 103, 116, 104]) = false := tbeq2 (by decide)
      have q3 : ((tstr (kName 6)).toList == [112, 111, 115, 105, 116, 105, 118, 101]) = false := tbeq2 (by decide)
      have q4 : ((tstr (kName 6)).toList == [97, 110, 121]) = false := tbeq2 (by decide)
      have q5 : ((tstr (kName 6)).toList == [110, 117, 109, 98, 101, 114]) = false := tbeq2 (by decide)
      have q6 : ((tstr (kName 6)).toList == [105, 110, 116, 101, 103, 101, 114]) = true := tbeq2 (by decide)
      have HE := Lib.hid (show St.rparse kw 6 s = St.rcount false true s from HE0.out)
      have hc : ∀ w, Calls Tryd.prog 23 #[.string (tstr s), .bool false, .bool true] w fun e w' => e = .returned (rvaV (St.rcount false true s)) ∧ Below w.heap.size w w' := fun w => rcountW_any s w hsl
      generalize St.rcount false true s = V at hc HE
      obtain ⟨⟨v0, v1, v2⟩, vb⟩ := V
      unfold rvaV at hc
      simp only at hc
      go_enter Tryd.func8, Tryd.ntmps8
      go_wp2_with fail
      try rw [hW1]
      refine hlo.mono ?_
      clear hlo
      rintro e w2 ⟨rfl, hb⟩
      have HR2 := Lib.hid (HR.out.below hb HR.out.lt)
      have HB2 := Lib.hid (HB.out.trans (hb.mono HB.out.size))
      clear hb hW1
      go_wp2_with fail
      refine (htr _).mono ?_
      clear htr
      rintro e w3 ⟨rfl, rfl⟩
      go_wp2_with fail
      refine (htab _).mono ?_
      clear htab
      rintro e w3 ⟨rfl, rfl⟩
      go_wp2_with fail
      refine (hone _).mono ?_
      clear hone
      rintro e w3 ⟨rfl, hb⟩
      have HR3 := Lib.hid (HR2.out.below hb HR2.out.lt)
      have HB3 := Lib.hid (HB2.out.trans (hb.mono HB2.out.size))
      clear hb
      go_wp2_with fail
      refine (hc _).mono ?_
      clear hc
      rintro e w4 ⟨rfl, hb⟩
      have HR4 := Lib.hid (HR3.out.below hb HR3.out.lt)
      have HB4 := Lib.hid (HB3.out.trans (hb.mono HB3.out.size))
      clear hb
      obtain ⟨f0, f1, f2, f3⟩ := free4 HR4.out
      obtain ⟨d0, d1, d2, d3⟩ := cells4 HR4.out
      go_wp2_with fail
      obtain ⟨X9, hX9, r9, g9⟩ := box4 HR4.out (.int .i64 v0) (.int .i64 v1) (.string (tstr v2)) (.bool vb)
      try rw [hX9]
      obtain ⟨c0, c1, c2, c3⟩ := cells4 r9
      clear f0 f1 f2 f3 d0 d1 d2 d3 hX9
      refine bodyPost_ret (v := .agg #[.int .i64 v0, .int .i64 v1, .string (tstr v2), .bool vb]) ?_ rfl ⟨by rw [HE.out]; rfl, HB4.out.grown g9 HB4.out.size (fun k hk => by injection hk; omega)⟩
      simp [results, Tryd.f8, go_sem, c0, c1, c2, c3]
    · have hne : (tstr (kName 7)).toList.isEmpty = false := by rw [ttl]; rfl
      have q1 : ((tstr (kName 7)).toList == [99, 111, 108, 111, 114]) = false := tbeq2 (by decide)
      have q2 : ((tstr (kName 7)).toList == [108, 101, 110, 103, 116, 104]) = false := tbeq2 (by decide)
      have q3 : ((tstr (kName 7)).toList == [112, 111, 115, 105, 116, 105, 118, 101]) = false := tbeq2 (by decide)
      have q4 : ((tstr (kName 7)).toList == [97, 110, 121]) = false := tbeq2 (by decide)
      have q5 : ((tstr (kName 7)).toList == [110, 117, 109, 98, 101, 114]) = false := tbeq2 (by decide)
      have q6 : ((tstr (kName 7)).toList == [105, 110, 116, 101, 103, 101, 114]) = false := tbeq2 (by decide)
      have q7 : ((tstr (kName 7)).toList == [108, 105, 110, 101]) = true := tbeq2 (by decide)
      have HE := Lib.hid (show St.rparse kw 7 s = if (St.rcount true false s).2 then St.rcount true false s else St.rsize true true s from HE0.out)
      have hc : ∀ w, Calls Tryd.prog 23 #[.string (tstr s), .bool true, .bool false] w fun e w' => e = .returned (rvaV (St.rcount true false s)) ∧ Below w.heap.size w w' := fun w => rcountP_any s w hsl
      have hc2 : ∀ w, Calls Tryd.prog 22 #[.string (tstr s), .bool true, .bool true] w fun e w' => e = .returned (rvaV (St.rsize true true s)) ∧ Below w.heap.size w w' := fun w => rsize_any s true true w hsl
      generalize St.rcount true false s = V at hc HE
      obtain ⟨⟨v0, v1, v2⟩, vb⟩ := V
      generalize St.rsize true true s = U at hc2 HE
      obtain ⟨⟨u0, u1, u2⟩, ub⟩ := U
      unfold rvaV at hc hc2
      simp only at hc hc2
      cases vb with
      | true =>
        have HE2 := Lib.hid (show St.rparse kw 7 s = (⟨v0, v1, v2⟩, true) from HE.out)
        clear HE
        go_enter Tryd.func8, Tryd.ntmps8
        go_wp2_with fail
        try rw [hW1]
        refine hlo.mono ?_
        clear hlo
        rintro e w2 ⟨rfl, hb⟩
        have HR2 := Lib.hid (HR.out.below hb HR.out.lt)
        have HB2 := Lib.hid (HB.out.trans (hb.mono HB.out.size))
        clear hb hW1
        go_wp2_with fail
        refine (htr _).mono ?_
        clear htr
        rintro e w3 ⟨rfl, rfl⟩
        go_wp2_with fail
        refine (htab _).mono ?_
        clear htab
        rintro e w3 ⟨rfl, rfl⟩
        go_wp2_with fail
        refine (hone _).mono ?_
        clear hone
        rintro e w3 ⟨rfl, hb⟩
        have HR3 := Lib.hid (HR2.out.below hb HR2.out.lt)
        have HB3 := Lib.hid (HB2.out.trans (hb.mono HB2.out.size))
        clear hb
        go_wp2_with fail
        refine (hc _).mono ?_
        clear hc
        rintro e w4 ⟨rfl, hb⟩
        have hR4 := HR3.out.below hb HR3.out.lt
        have hB4 := HB3.out.trans (hb.mono HB3.out.size)
        have hR5 := hR4.alloc (.cells #[.int .i64 v0, .int .i64 v1, .string (tstr v2), .bool true] 31)
        have hB5 := hB4.alloc hB4.size (.cells #[.int .i64 v0, .int .i64 v1, .string (tstr v2), .bool true] 31)
        have HR5 := Lib.hid hR5
        have HB5 := Lib.hid hB5
        obtain ⟨f0, f1, f2, f3⟩ := free4 hR5
        obtain ⟨d0, d1, d2, d3⟩ := cells4 hR5
        clear hb hR4 hB4 hR5 hB5
        go_wp2_with fail
        obtain ⟨X9, hX9, r9, g9⟩ := box4 HR5.out (.int .i64 v0) (.int .i64 v1) (.string (tstr v2)) (.bool true)
        try rw [hX9]
        obtain ⟨c0, c1, c2, c3⟩ := cells4 r9
        clear f0 f1 f2 f3 d0 d1 d2 d3 hX9
        refine bodyPost_ret (v := .agg #[.int .i64 v0, .int .i64 v1, .string (tstr v2), .bool true]) ?_ rfl ⟨by rw [HE2.out]; rfl, HB5.out.grown g9 HB5.out.size (fun k hk => by injection hk; omega)⟩
        simp [results, Tryd.f8, go_sem, c0, c1, c2, c3]
      | false =>
        have HE2 := Lib.hid (show St.rparse kw 7 s = (⟨u0, u1, u2⟩, ub) from HE.out)
        clear HE
        go_enter Tryd.func8, Tryd.ntmps8
        go_wp2_with fail
        try rw [hW1]
        refine hlo.mono ?_
        clear hlo
        rintro e w2 ⟨rfl, hb⟩
        have HR2 := Lib.hid (HR.out.below hb HR.out.lt)
        have HB2 := Lib.hid (HB.out.trans (hb.mono HB.out.size))
        clear hb hW1
        go_wp2_with fail
        refine (htr _).mono ?_
        clear htr
        rintro e w3 ⟨rfl, rfl⟩
        go_wp2_with fail
        refine (htab _).mono ?_
        clear htab
        rintro e w3 ⟨rfl, rfl⟩
        go_wp2_with fail
        refine (hone _).mono ?_
        clear hone
        rintro e w3 ⟨rfl, hb⟩
        have HR3 := Lib.hid (HR2.out.below hb HR2.out.lt)
        have HB3 := Lib.hid (HB2.out.trans (hb.mono HB2.out.size))
        clear hb
        go_wp2_with fail
        refine (hc _).mono ?_
        clear hc
        rintro e w4 ⟨rfl, hb⟩
        have hR4 := HR3.out.below hb HR3.out.lt
        have hB4 := HB3.out.trans (hb.mono HB3.out.size)
        have hR5 := hR4.alloc (.cells #[.int .i64 v0, .int .i64 v1, .string (tstr v2), .bool false] 31)
        have hB5 := hB4.alloc hB4.size (.cells #[.int .i64 v0, .int .i64 v1, .string (tstr v2), .bool false] 31)
        have HR5 := Lib.hid hR5
        have HB5 := Lib.hid hB5
        obtain ⟨f0, f1, f2, f3⟩ := free4 hR5
        obtain ⟨d0, d1, d2, d3⟩ := cells4 hR5
        clear hb hR4 hB4 hR5 hB5
        go_wp2_with fail
        clear f0 f1 f2 f3 d0 d1 d2 d3
        refine (hc2 _).mono ?_
        clear hc2
        rintro e w6 ⟨rfl, hb⟩
        have HR6 := Lib.hid (HR5.out.below hb HR5.out.lt)
        have HB6 := Lib.hid (HB5.out.trans (hb.mono HB5.out.size))
        clear hb
        obtain ⟨f0, f1, f2, f3⟩ := free4 HR6.out
        obtain ⟨d0, d1, d2, d3⟩ := cells4 HR6.out
        go_wp2_with fail
        obtain ⟨X9, hX9, r9, g9⟩ := box4 HR6.out (.int .i64 u0) (.int .i64 u1) (.string (tstr u2)) (.bool ub)
        try rw [hX9]
        obtain ⟨c0, c1, c2, c3⟩ := cells4 r9
        clear f0 f1 f2 f3 d0 d1 d2 d3 hX9
        refine bodyPost_ret (v := .agg #[.int .i64 u0, .int .i64 u1, .string (tstr u2), .bool ub]) ?_ rfl ⟨by rw [HE2.out]; rfl, HB6.out.grown g9 HB6.out.size (fun k hk => by injection hk; omega)⟩
        simp [results, Tryd.f8, go_sem, c0, c1, c2, c3]
end Go.Proofs.YtoiednecchbmnaaDoor
