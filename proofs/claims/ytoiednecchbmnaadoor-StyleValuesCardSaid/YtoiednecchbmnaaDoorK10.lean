/- ParseValue. -/
import Derived.Test.YtoiednecchbmnaaDoorK08
import Derived.Test.YtoiednecchbmnaaDoorK09
import Derived.Test.YtoiednecchbmnaaDoorK00
import Derived.Test.YtoiednecchbmnaaDoorK04
import Derived.Lib.IndexMore
namespace Go.Proofs.YtoiednecchbmnaaDoor
open Go Go.RowKit
set_option linter.unusedVariables false
namespace St
theorem longT_ok : TOk longT := by
  have : (longT.all fun x => !x.1.contains 58 && !x.1.contains 10 && !x.2.contains 10) = true := by decide +kernel
  intro x hx
  have := List.all_eq_true.1 this x hx
  simpa [and_assoc] using this
theorem longT_len : (rend longT).length ≤ 20000 := by
  have : decide ((rend longT).length ≤ 20000) = true := by decide +kernel
  exact of_decide_eq_true this
theorem find_map (t : List (Bs × List Bs)) (n : Bs) : find (t.map fun x => (x.1, glue x.2)) n = ((t.find? fun x => decide (x.1 = n)).map (·.2)).map glue := by
  induction t with
  | nil => rfl
  | cons x t ih =>
    rw [List.map_cons, List.find?_cons]
    unfold find
    by_cases h : x.1 = n
    · rw [if_pos h, decide_eq_true h]; rfl
    · rw [if_neg h, decide_eq_false h, ih]
theorem longs_ws {n : Bs} {ws : List Bs} (h : wordsOf n = some ws) : WsOk ws ∧ (glue ws).length ≤ 20000 := by
  have : (longs.all fun x => (x.2.all fun y => !y.contains 32 && !y.isEmpty) && decide ((glue x.2).length ≤ 20000)) = true := by decide +kernel
  unfold wordsOf at h
  cases e : longs.find? fun x => decide (x.1 = n) with
  | none => rw [e] at h; cases h
  | some x =>
    rw [e] at h
    injection h with h
    have hm := List.mem_of_find?_eq_some e
    have h2 := List.all_eq_true.1 this x hm
    rw [Bool.and_eq_true] at h2
    subst h
    refine ⟨fun y hy => ?_, of_decide_eq_true h2.2⟩
    have h3 := List.all_eq_true.1 h2.1 y hy
    simpa using h3
theorem every_ws : WsOk everyW ∧ (glue everyW).length ≤ 20000 := by
  have : (everyW.all fun y => !y.contains 32 && !y.isEmpty) = true := by decide +kernel
  refine ⟨fun y hy => ?_, by decide⟩
  have h3 := List.all_eq_true.1 this y hy
  simpa using h3
end St
theorem trimL_len (l : List UInt8) : (Txt.trimL l).length ≤ l.length := by
  induction l with
  | nil => exact Nat.le_refl _
  | cons c t ih =>
    unfold Txt.trimL
    split
    · rw [List.length_cons]; omega
    · exact Nat.le_refl _
theorem trim_len (l : List UInt8) : (Txt.trim l).length ≤ l.length := by
  unfold Txt.trim Txt.trimR
  rw [List.length_reverse]
  refine Nat.le_trans (trimL_len _) ?_
  rw [List.length_reverse]
  exact trimL_len _
set_option maxHeartbeats 40000000 in
set_option maxRecDepth 200000 in
theorem yparse_any (name s : List UInt8) (w : World) (hM : MaxLen w) (hl : s.length ≤ 20000) :
    Calls Tryd.prog 6 #[.string (tstr name), .string (tstr s)] w fun e w' => e = .returned (.tuple #[vaV (St.parse name s).1, .int .i64 (St.parse name s).2]) ∧ Below w.heap.size w w' := by
  have hr0 : Whole (w.alloc (.cells #[.int .i64 0, .int .i64 0, .string ⟨#[]⟩] 24)) w.heap.size #[.int .i64 0, .int .i64 0, .string ⟨#[]⟩] 24 := Whole.new _ _ _
  have hB0 : Below w.heap.size w (w.alloc (.cells #[.int .i64 0, .int .i64 0, .string ⟨#[]⟩] 24)) := (Below.refl _ _).alloc (Nat.le_refl _) _
  obtain ⟨W1, hW1⟩ : ∃ W1, w.alloc (.cells #[.int .i64 0, .int .i64 0, .string ⟨#[]⟩] 24) = W1 := ⟨_, rfl⟩
  rw [hW1] at hr0 hB0
  have HR := Lib.hid hr0
  have HB := Lib.hid hB0
  have HM := Lib.hid (hM.below hB0)
  clear hr0 hB0 hM
  have hlk := ylookUp_any St.longT name W1 HM.out St.longT_ok St.longT_len
  have hfw := St.find_map St.longs name
  rw [show (St.longs.map fun x => (x.1, St.glue x.2)) = St.longT from rfl, show ((St.longs.find? fun x => decide (x.1 = name)).map (·.2)) = St.wordsOf name from rfl] at hfw
  rw [hfw] at hlk
  clear hfw
  cases ew : St.wordsOf name with
  | none =>
    have HE := Lib.hid (show St.parse name s = (St.vnil, 6) by unfold St.parse; rw [ew])
    rw [ew] at hlk
    clear ew
    simp only [Option.map_none, Option.getD_none, Option.isSome_none] at hlk
    go_enter Tryd.func6, Tryd.ntmps6
    go_wp2_with fail
    try rw [hW1]
    refine (calls_cast (by kernel_rfl) hlk).mono ?_
    clear hlk
    rintro e w2 ⟨rfl, hb⟩
    have HR2 := Lib.hid (HR.out.below hb HR.out.lt)
    have HB2 := Lib.hid (HB.out.trans (hb.mono HB.out.size))
    have HM2 := Lib.hid (HM.out.below hb)
    clear hb hW1
    obtain ⟨f10, f11, f12⟩ := free3 HR2.out
    obtain ⟨d0, d1, d2⟩ := cells3 HR2.out
    go_wp2_with fail
    obtain ⟨X9, hX9, r9, g9⟩ := box3 HR2.out (.int .i64 0) (.int .i64 0) (.string ⟨#[]⟩)
    try rw [hX9]
    obtain ⟨c0, c1, c2⟩ := cells3 r9
    clear f10 f11 f12 d0 d1 d2 hX9
    refine bodyPost_ret (v := .tuple #[.agg #[.int .i64 0, .int .i64 0, .string ⟨#[]⟩], .int .i64 6]) ?_ rfl ⟨by rw [HE.out]; rfl, HB2.out.grown g9 HB2.out.size (fun k hk => by injection hk; omega)⟩
    simp [results, Tryd.f6, go_sem, c0, c1, c2]
  | some ws =>
    have hws := St.longs_ws ew
    rw [ew] at hlk
    simp only [Option.map_some, Option.getD_some, Option.isSome_some] at hlk
    obtain ⟨t, ht⟩ : ∃ t, Txt.trim (s.map Txt.lo) = t := ⟨_, rfl⟩
    have htl : t.length ≤ 20000 := by rw [← ht]; exact Nat.le_trans (trim_len _) (by rw [List.length_map]; exact hl)
    have hlo : ∀ w, Calls Tryd.prog 16 #[.string (tstr s)] w fun e w' => e = .returned (.string (tstr (s.map Txt.lo))) ∧ Below w.heap.size w w' := fun w => by have := tlower_any (tstr s) w (by rw [tsize]; exact hl); rw [tdata] at this; exact this
    have htr : ∀ w, Calls Tryd.prog 15 #[.string (tstr (s.map Txt.lo))] w fun e w' => e = .returned (.string (tstr t)) ∧ w = w' := fun w => by have := ctrim_any (tstr (s.map Txt.lo)) w (by rw [tsize, List.length_map]; exact hl); rw [tdata, ht] at this; exact this
    have HP := Lib.hid (show St.parse name s = if (St.valueOf ws t).2 then ((St.valueOf ws t).1, 0) else if (St.valueOf St.everyW t).2 then ((St.valueOf St.everyW t).1, 0) else (St.vnil, 4) by unfold St.parse; rw [ew, ht])
    have hv1 : ∀ w, MaxLen w → Calls Tryd.prog 17 #[.string (tstr (St.glue ws)), .string (tstr t)] w _ := fun w h => yvalueOf_any ws t w h (fun x _ => yvalueAs_any x t htl) hws.1 hws.2
    have hv2 : ∀ w, MaxLen w → Calls Tryd.prog 17 #[.string (tstr (St.glue St.everyW)), .string (tstr t)] w _ := fun w h => yvalueOf_any St.everyW t w h (fun x _ => yvalueAs_any x t htl) St.every_ws.1 St.every_ws.2
    clear ew hws ht htl hl
    generalize St.valueOf ws t = V at hv1 HP
    generalize St.valueOf St.everyW t = U at hv2 HP
    obtain ⟨⟨v0, v1, v2⟩, vb⟩ := V
    obtain ⟨⟨u0, u1, u2⟩, ub⟩ := U
    unfold vaV at hv1 hv2
    simp only at hv1 hv2
    cases vb with
    | true =>
      have HE := Lib.hid (show St.parse name s = (⟨v0, v1, v2⟩, 0) from HP.out)
      clear HP hv2
      go_enter Tryd.func6, Tryd.ntmps6
      go_wp2_with fail
      try rw [hW1]
      refine (calls_cast (by kernel_rfl) hlk).mono ?_
      clear hlk
      rintro e w2 ⟨rfl, hb⟩
      have HR2 := Lib.hid (HR.out.below hb HR.out.lt)
      have HB2 := Lib.hid (HB.out.trans (hb.mono HB.out.size))
      have HM2 := Lib.hid (HM.out.below hb)
      clear hb hW1
      go_wp2_with fail
      refine (hlo _).mono ?_
      clear hlo
      rintro e w3 ⟨rfl, hb⟩
      have HR3 := Lib.hid (HR2.out.below hb HR2.out.lt)
      have HB3 := Lib.hid (HB2.out.trans (hb.mono HB2.out.size))
      have HM3 := Lib.hid (HM2.out.below hb)
      clear hb
      go_wp2_with fail
      refine (htr _).mono ?_
      clear htr
      rintro e w4 ⟨rfl, rfl⟩
      have hv := hv1 _ HM3.out
      clear hv1
      go_wp2_with fail
      refine hv.mono ?_
      clear hv
      rintro e w5 ⟨rfl, hb⟩
      have hr5 := HR3.out.below hb HR3.out.lt
      have hB5 := HB3.out.trans (hb.mono HB3.out.size)
      have hlt5 := hr5.lt
      have hV : Whole (w5.alloc (.cells #[.int .i64 0, .int .i64 0, .string ⟨#[]⟩] 24)) w5.heap.size #[.int .i64 0, .int .i64 0, .string ⟨#[]⟩] 24 := Whole.new _ _ _
      have hWA := hr5.alloc (.cells #[.int .i64 0, .int .i64 0, .string ⟨#[]⟩] 24)
      have hBA := hB5.alloc hB5.size (.cells #[.int .i64 0, .int .i64 0, .string ⟨#[]⟩] 24)
      have hMA := HM3.out.below hb
      have hMB := hMA.below ((Below.refl w5.heap.size w5).alloc (Nat.le_refl _) (.cells #[.int .i64 0, .int .i64 0, .string ⟨#[]⟩] 24))
      obtain ⟨W5, hW5⟩ : ∃ W5, w5.alloc (.cells #[.int .i64 0, .int .i64 0, .string ⟨#[]⟩] 24) = W5 := ⟨_, rfl⟩
      rw [hW5] at hV hWA hBA hMB
      have hB55 : Below w5.heap.size w5 W5 := by rw [← hW5]; exact (Below.refl w5.heap.size w5).alloc (Nat.le_refl _) _
      obtain ⟨X6, hX6, r6, g6⟩ := box3 hV (.int .i64 v0) (.int .i64 v1) (.string (tstr v2))
      have HV6 := Lib.hid r6
      have HW6 := Lib.hid (hWA.grown g6 (fun e => by injection e; omega))
      have HB6 := Lib.hid (hBA.grown g6 hBA.size (fun k hk => by injection hk; omega))
      have HM6 := Lib.hid (hMA.below (hB55.grown g6 hB55.size (fun k hk => by injection hk; omega)))
      obtain ⟨p0, p1, p2⟩ := free3 hV
      obtain ⟨q0, q1, q2⟩ := cells3 hV
      obtain ⟨f10, f11, f12⟩ := free3 HW6.out
      obtain ⟨d0, d1, d2⟩ := cells3 HW6.out
      obtain ⟨k0, k1, k2⟩ := cells3 r6
      obtain ⟨l0, l1, l2⟩ := free3 r6
      clear hb hr5 hB5 hV hWA hBA hMA hMB hB55 r6 g6
      go_wp2_with fail
      try rw [hX6]
      obtain ⟨X9, hX9, r9, g9⟩ := box3 HW6.out (.int .i64 v0) (.int .i64 v1) (.string (tstr v2))
      try rw [hX9]
      obtain ⟨c0, c1, c2⟩ := cells3 r9
      clear f10 f11 f12 d0 d1 d2 hX9
      refine bodyPost_ret (v := .tuple #[.agg #[.int .i64 v0, .int .i64 v1, .string (tstr v2)], .int .i64 0]) ?_ rfl ⟨by rw [HE.out]; rfl, HB6.out.grown g9 HB6.out.size (fun k hk => by injection hk; omega)⟩
      simp [results, Tryd.f6, go_sem, c0, c1, c2]
    | false =>
      cases ub with
      | true =>
        have HE := Lib.hid (show St.parse name s = (⟨u0, u1, u2⟩, 0) from HP.out)
        clear HP
        go_enter Tryd.func6, Tryd.ntmps6
        go_wp2_with fail
        try rw [hW1]
        refine (calls_cast (by kernel_rfl) hlk).mono ?_
        clear hlk
        rintro e w2 ⟨rfl, hb⟩
        have HR2 := Lib.hid (HR.out.below hb HR.out.lt)
        have HB2 := Lib.hid (HB.out.trans (hb.mono HB.out.size))
        have HM2 := Lib.hid (HM.out.below hb)
        clear hb hW1
        go_wp2_with fail
        refine (hlo _).mono ?_
        clear hlo
        rintro e w3 ⟨rfl, hb⟩
        have HR3 := Lib.hid (HR2.out.below hb HR2.out.lt)
        have HB3 := Lib.hid (HB2.out.trans (hb.mono HB2.out.size))
        have HM3 := Lib.hid (HM2.out.below hb)
        clear hb
        go_wp2_with fail
        refine (htr _).mono ?_
        clear htr
        rintro e w4 ⟨rfl, rfl⟩
        have hv := hv1 _ HM3.out
        clear hv1
        go_wp2_with fail
        refine hv.mono ?_
        clear hv
        rintro e w5 ⟨rfl, hb⟩
        have hr5 := HR3.out.below hb HR3.out.lt
        have hB5 := HB3.out.trans (hb.mono HB3.out.size)
        have hlt5 := hr5.lt
        have hV : Whole (w5.alloc (.cells #[.int .i64 0, .int .i64 0, .string ⟨#[]⟩] 24)) w5.heap.size #[.int .i64 0, .int .i64 0, .string ⟨#[]⟩] 24 := Whole.new _ _ _
        have hWA := hr5.alloc (.cells #[.int .i64 0, .int .i64 0, .string ⟨#[]⟩] 24)
        have hBA := hB5.alloc hB5.size (.cells #[.int .i64 0, .int .i64 0, .string ⟨#[]⟩] 24)
        have hMA := HM3.out.below hb
        have hMB := hMA.below ((Below.refl w5.heap.size w5).alloc (Nat.le_refl _) (.cells #[.int .i64 0, .int .i64 0, .string ⟨#[]⟩] 24))
        obtain ⟨W5, hW5⟩ : ∃ W5, w5.alloc (.cells #[.int .i64 0, .int .i64 0, .string ⟨#[]⟩] 24) = W5 := ⟨_, rfl⟩
        rw [hW5] at hV hWA hBA hMB
        have hB55 : Below w5.heap.size w5 W5 := by rw [← hW5]; exact (Below.refl w5.heap.size w5).alloc (Nat.le_refl _) _
        obtain ⟨X6, hX6, r6, g6⟩ := box3 hV (.int .i64 v0) (.int .i64 v1) (.string (tstr v2))
        have HV6 := Lib.hid r6
        have HW6 := Lib.hid (hWA.grown g6 (fun e => by injection e; omega))
        have HB6 := Lib.hid (hBA.grown g6 hBA.size (fun k hk => by injection hk; omega))
        have HM6 := Lib.hid (hMA.below (hB55.grown g6 hB55.size (fun k hk => by injection hk; omega)))
        obtain ⟨p0, p1, p2⟩ := free3 hV
        obtain ⟨q0, q1, q2⟩ := cells3 hV
        obtain ⟨f10, f11, f12⟩ := free3 HW6.out
        obtain ⟨d0, d1, d2⟩ := cells3 HW6.out
        obtain ⟨k0, k1, k2⟩ := cells3 r6
        obtain ⟨l0, l1, l2⟩ := free3 r6
        clear hb hr5 hB5 hV hWA hBA hMA hMB hB55 r6 g6
        go_wp2_with fail
        try rw [hX6]
        have hvv := hv2 X6 HM6.out
        clear hv2 p0 p1 p2 q0 q1 q2 f10 f11 f12 d0 d1 d2 k0 k1 k2 l0 l1 l2 hX6 hW5
        refine (calls_cast (by kernel_rfl) hvv).mono ?_
        clear hvv
        rintro e w7 ⟨rfl, hb⟩
        have hw7 := HW6.out.below hb HW6.out.lt
        have hv7 := HV6.out.below hb HV6.out.lt
        have hb7 := HB6.out.trans (hb.mono HB6.out.size)
        obtain ⟨X8, hX8, r8, g8⟩ := box3 hv7 (.int .i64 u0) (.int .i64 u1) (.string (tstr u2))
        have HW8 := Lib.hid (hw7.grown g8 (fun e => by injection e; omega))
        have HB8 := Lib.hid (hb7.grown g8 hb7.size (fun k hk => by injection hk; omega))
        obtain ⟨p0, p1, p2⟩ := free3 hv7
        obtain ⟨q0, q1, q2⟩ := cells3 hv7
        obtain ⟨f10, f11, f12⟩ := free3 HW8.out
        obtain ⟨d0, d1, d2⟩ := cells3 HW8.out
        obtain ⟨k0, k1, k2⟩ := cells3 r8
        clear hb hw7 hv7 hb7 r8 g8
        go_wp2_with fail
        try rw [hX8]
        obtain ⟨X9, hX9, r9, g9⟩ := box3 HW8.out (.int .i64 u0) (.int .i64 u1) (.string (tstr u2))
        try rw [hX9]
        obtain ⟨c0, c1, c2⟩ := cells3 r9
        clear f10 f11 f12 d0 d1 d2 hX9
        refine bodyPost_ret (v := .tuple #[.agg #[.int .i64 u0, .int .i64 u1, .string (tstr u2)], .int .i64 0]) ?_ rfl ⟨by rw [HE.out]; rfl, HB8.out.grown g9 HB8.out.size (fun k hk => by injection hk; omega)⟩
        simp [results, Tryd.f6, go_sem, c0, c1, c2]
      | false =>
        have HE := Lib.hid (show St.parse name s = (St.vnil, 4) from HP.out)
        clear HP
        go_enter Tryd.func6, Tryd.ntmps6
        go_wp2_with fail
        try rw [hW1]
        refine (calls_cast (by kernel_rfl) hlk).mono ?_
        clear hlk
        rintro e w2 ⟨rfl, hb⟩
        have HR2 := Lib.hid (HR.out.below hb HR.out.lt)
        have HB2 := Lib.hid (HB.out.trans (hb.mono HB.out.size))
        have HM2 := Lib.hid (HM.out.below hb)
        clear hb hW1
        go_wp2_with fail
        refine (hlo _).mono ?_
        clear hlo
        rintro e w3 ⟨rfl, hb⟩
        have HR3 := Lib.hid (HR2.out.below hb HR2.out.lt)
        have HB3 := Lib.hid (HB2.out.trans (hb.mono HB2.out.size))
        have HM3 := Lib.hid (HM2.out.below hb)
        clear hb
        go_wp2_with fail
        refine (htr _).mono ?_
        clear htr
        rintro e w4 ⟨rfl, rfl⟩
        have hv := hv1 _ HM3.out
        clear hv1
        go_wp2_with fail
        refine hv.mono ?_
        clear hv
        rintro e w5 ⟨rfl, hb⟩
        have hr5 := HR3.out.below hb HR3.out.lt
        have hB5 := HB3.out.trans (hb.mono HB3.out.size)
        have hlt5 := hr5.lt
        have hV : Whole (w5.alloc (.cells #[.int .i64 0, .int .i64 0, .string ⟨#[]⟩] 24)) w5.heap.size #[.int .i64 0, .int .i64 0, .string ⟨#[]⟩] 24 := Whole.new _ _ _
        have hWA := hr5.alloc (.cells #[.int .i64 0, .int .i64 0, .string ⟨#[]⟩] 24)
        have hBA := hB5.alloc hB5.size (.cells #[.int .i64 0, .int .i64 0, .string ⟨#[]⟩] 24)
        have hMA := HM3.out.below hb
        have hMB := hMA.below ((Below.refl w5.heap.size w5).alloc (Nat.le_refl _) (.cells #[.int .i64 0, .int .i64 0, .string ⟨#[]⟩] 24))
        obtain ⟨W5, hW5⟩ : ∃ W5, w5.alloc (.cells #[.int .i64 0, .int .i64 0, .string ⟨#[]⟩] 24) = W5 := ⟨_, rfl⟩
        rw [hW5] at hV hWA hBA hMB
        have hB55 : Below w5.heap.size w5 W5 := by rw [← hW5]; exact (Below.refl w5.heap.size w5).alloc (Nat.le_refl _) _
        obtain ⟨X6, hX6, r6, g6⟩ := box3 hV (.int .i64 v0) (.int .i64 v1) (.string (tstr v2))
        have HV6 := Lib.hid r6
        have HW6 := Lib.hid (hWA.grown g6 (fun e => by injection e; omega))
        have HB6 := Lib.hid (hBA.grown g6 hBA.size (fun k hk => by injection hk; omega))
        have HM6 := Lib.hid (hMA.below (hB55.grown g6 hB55.size (fun k hk => by injection hk; omega)))
        obtain ⟨p0, p1, p2⟩ := free3 hV
        obtain ⟨q0, q1, q2⟩ := cells3 hV
        obtain ⟨f10, f11, f12⟩ := free3 HW6.out
        obtain ⟨d0, d1, d2⟩ := cells3 HW6.out
        obtain ⟨k0, k1, k2⟩ := cells3 r6
        obtain ⟨l0, l1, l2⟩ := free3 r6
        clear hb hr5 hB5 hV hWA hBA hMA hMB hB55 r6 g6
        go_wp2_with fail
        try rw [hX6]
        have hvv := hv2 X6 HM6.out
        clear hv2 p0 p1 p2 q0 q1 q2 f10 f11 f12 d0 d1 d2 k0 k1 k2 l0 l1 l2 hX6 hW5
        refine (calls_cast (by kernel_rfl) hvv).mono ?_
        clear hvv
        rintro e w7 ⟨rfl, hb⟩
        have hw7 := HW6.out.below hb HW6.out.lt
        have hv7 := HV6.out.below hb HV6.out.lt
        have hb7 := HB6.out.trans (hb.mono HB6.out.size)
        obtain ⟨X8, hX8, r8, g8⟩ := box3 hv7 (.int .i64 u0) (.int .i64 u1) (.string (tstr u2))
        have HW8 := Lib.hid (hw7.grown g8 (fun e => by injection e; omega))
        have HB8 := Lib.hid (hb7.grown g8 hb7.size (fun k hk => by injection hk; omega))
        obtain ⟨p0, p1, p2⟩ := free3 hv7
        obtain ⟨q0, q1, q2⟩ := cells3 hv7
        obtain ⟨f10, f11, f12⟩ := free3 HW8.out
        obtain ⟨d0, d1, d2⟩ := cells3 HW8.out
        obtain ⟨k0, k1, k2⟩ := cells3 r8
        clear hb hw7 hv7 hb7 r8 g8
        go_wp2_with fail
        try rw [hX8]
        obtain ⟨X9, hX9, r9, g9⟩ := box3 HW8.out (.int .i64 0) (.int .i64 0) (.string ⟨#[]⟩)
        try rw [hX9]
        obtain ⟨c0, c1, c2⟩ := cells3 r9
        clear f10 f11 f12 d0 d1 d2 hX9
        refine bodyPost_ret (v := .tuple #[.agg #[.int .i64 0, .int .i64 0, .string ⟨#[]⟩], .int .i64 4]) ?_ rfl ⟨by rw [HE.out]; rfl, HB8.out.grown g9 HB8.out.size (fun k hk => by injection hk; omega)⟩
        simp [results, Tryd.f6, go_sem, c0, c1, c2]
end Go.Proofs.YtoiednecchbmnaaDoor
/- The chapter's declarations of style, as functions over lists of bytes. -/
namespace Go.Proofs.YtoiednecchbmnaaDoor
set_option linter.unusedVariables false
namespace St
/-- The size of a string at the beginning. -/
def qlen : Bs → Nat
  | [] => 0
  | q :: r => if r.contains q then (r.takeWhile (· != q)).length + 2 else r.length + 1
def isQ (c : UInt8) : Bool := c == 34 || c == 39
def isO (c : UInt8) : Bool := c == 40 || c == 91 || c == 123
def isC (c : UInt8) : Bool := c == 41 || c == 93 || c == 125
/-- The text without its comments. -/
def plain : Nat → Bs → Bs
  | 0, _ => []
  | _ + 1, [] => []
  | f + 1, c :: r =>
    if [47, 42].isPrefixOf (c :: r) then 32 :: plain f (Lib.cut ((c :: r).drop 2) [42, 47]).2.1
    else if isQ c then (c :: r).take (qlen (c :: r)) ++ plain f ((c :: r).drop (qlen (c :: r)))
    else c :: plain f r
/-- How far it is to the first of some marks outside of strings and parts. -/
def untN (marks : Bs) : Nat → Nat → Bs → Nat
  | 0, _, _ => 0
  | _ + 1, _, [] => 0
  | f + 1, d, c :: r =>
    if d = 0 ∧ marks.contains c then 0
    else if isQ c then qlen (c :: r) + untN marks f d ((c :: r).drop (qlen (c :: r)))
    else 1 + untN marks f (if isO c then d + 1 else if isC c then d - 1 else d) r
def upto (marks l : Bs) : Nat := untN marks l.length 0 l
/-- The declarations' texts. -/
def pieces : Nat → Bs → List Bs
  | 0, _ => []
  | f + 1, l => if l = [] then [] else l.take (upto [59] l) :: pieces f (cutP [59] (l.drop (upto [59] l)))
def cutS (p l : Bs) : Bs × Bool := if p.isSuffixOf l then (l.take (l.length - p.length), true) else (l, false)
def wImp : Bs := [105, 109, 112, 111, 114, 116, 97, 110, 116]
def cutImp (s : Bs) : Bs × Bool :=
  if (cutS wImp s).2 && (cutS [33] (Txt.trim (cutS wImp s).1)).2 then (Txt.trim (cutS [33] (Txt.trim (cutS wImp s).1)).1, true) else (s, false)
structure De where
  name : Bs
  val : Va
  imp : Bool
deriving DecidableEq
def single (p s : Bs) : List De := if (parse p s).2 = 0 then [⟨p, (parse p s).1, false⟩] else []
end St
end Go.Proofs.YtoiednecchbmnaaDoor
/- Suffixes, and what ends with ! and important. -/
namespace Go.Proofs.YtoiednecchbmnaaDoor
open Go Go.RowKit
set_option linter.unusedVariables false
theorem trimL_len' (l : List UInt8) : (Txt.trimL l).length ≤ l.length := by
  induction l with
  | nil => exact Nat.le_refl _
  | cons c t ih =>
    unfold Txt.trimL
    split
    · rw [List.length_cons]; omega
    · exact Nat.le_refl _
theorem trim_len' (l : List UInt8) : (Txt.trim l).length ≤ l.length := by
  unfold Txt.trim Txt.trimR
  rw [List.length_reverse]
  refine Nat.le_trans (trimL_len' _) ?_
  rw [List.length_reverse]
  exact trimL_len' _
theorem suf_eq {p s : List UInt8} (h : p.length ≤ s.length) : (s.drop (s.length - p.length) == p) = p.isSuffixOf s := by
  rw [Bool.eq_iff_iff, beq_iff_eq, List.isSuffixOf_iff_suffix, List.suffix_iff_eq_drop]
  exact ⟨fun h => h.symm, fun h => h.symm⟩
set_option maxHeartbeats 400000 in
theorem yhass_any (s p : List UInt8) (w : World) (hl : s.length ≤ 20000) :
    Calls Tryd.prog 97 #[.string (tstr s), .string (tstr p)] w fun e w' => e = .returned (.bool (p.isSuffixOf s)) ∧ w = w' := by
  have e1 := tsize s
  have e2 := tsize p
  by_cases hle : p.length ≤ s.length
  · have h1 : ((tstr p).size : Int) ≤ ((tstr s).size : Int) := by omega
    have h0 : (0 : Int) ≤ ((tstr p).size : Int) := by omega
    have h2 : (0 : Int) ≤ ((tstr s).size : Int) - ((tstr p).size : Int) := by omega
    have h3 : (p.length : Int) ≤ (s.length : Int) := by omega
    have h4 : (s.length : Int) - (p.length : Int) ≤ (s.length : Int) := by omega
    have hn : ((s.length : Int) - (p.length : Int)).toNat = s.length - p.length := by omega
    have hx : (tstr s).extract (s.length - p.length) s.length = tstr (s.drop (s.length - p.length)) := by have := textr_end s (s.length - p.length); rw [tsize] at this; exact this
    have HQ := Lib.hid (suf_eq hle)
    go_enter Tryd.func97, Tryd.ntmps97
    go_wp2_with fail
    go_ret
    refine ⟨retB ?_, rfl⟩
    rw [← HQ.out]
    try rw [hn]
    try rw [hx]
    try rw [str_beq]
  · have HS := Lib.hid (show p.isSuffixOf s = false by rw [Bool.eq_false_iff]; intro h; exact hle (List.isSuffixOf_iff_suffix.1 h).length_le)
    have h1 : ¬ ((tstr p).size : Int) ≤ ((tstr s).size : Int) := by omega
    have h3 : ¬ (p.length : Int) ≤ (s.length : Int) := by omega
    go_enter Tryd.func97, Tryd.ntmps97
    go_wp2_with fail
    go_ret
    exact ⟨retB HS.out.symm, rfl⟩
set_option maxHeartbeats 400000 in
theorem ycuts_any (s p : List UInt8) (w : World) (hl : s.length ≤ 20000) :
    Calls Tryd.prog 87 #[.string (tstr s), .string (tstr p)] w fun e w' => e = .returned (.tuple #[.string (tstr (St.cutS p s).1), .bool (St.cutS p s).2]) ∧ w = w' := by
  have e1 := tsize s
  have e2 := tsize p
  have hh := yhass_any s p w hl
  cases hk : p.isSuffixOf s with
  | true =>
    rw [hk] at hh
    have hle : p.length ≤ s.length := (List.isSuffixOf_iff_suffix.1 hk).length_le
    have h3 : (p.length : Int) ≤ (s.length : Int) := by omega
    have h2 : (0 : Int) ≤ (s.length : Int) - (p.length : Int) := by omega
    have h4 : (s.length : Int) - (p.length : Int) ≤ (s.length : Int) := by omega
    have hn : ((s.length : Int) - (p.length : Int)).toNat = s.length - p.length := by omega
    have hx := textr_head s (s.length - p.length)
    have HC := Lib.hid (show St.cutS p s = (s.take (s.length - p.length), true) by unfold St.cutS; rw [if_pos hk])
    clear hk
    go_enter Tryd.func87, Tryd.ntmps87
    go_wp2_with fail
    refine hh.mono ?_
    rintro e w' ⟨rfl, rfl⟩
    go_wp2_with fail
    go_ret2
    refine ⟨?_, rfl⟩
    rw [HC.out]
    try rw [hn]
    try rw [hx]
    rfl
  | false =>
    rw [hk] at hh
    have HC := Lib.hid (show St.cutS p s = (s, false) by unfold St.cutS; rw [hk]; rfl)
    clear hk
    go_enter Tryd.func87, Tryd.ntmps87
    go_wp2_with fail
    refine hh.mono ?_
    rintro e w' ⟨rfl, rfl⟩
    go_wp2_with fail
    go_ret2
    refine ⟨?_, rfl⟩
    rw [HC.out]
    rfl
set_option maxHeartbeats 400000 in
theorem ycutsuf_any (s p : List UInt8) (w : World) (hl : s.length ≤ 20000) :
    Calls Tryd.prog 70 #[.string (tstr s), .string (tstr p)] w fun e w' => e = .returned (.tuple #[.string (tstr (St.cutS p s).1), .bool (St.cutS p s).2]) ∧ w = w' := by
  have hh := ycuts_any s p w hl
  go_enter Tryd.func70, Tryd.ntmps70
  go_wp2_with fail
  refine hh.mono ?_
  rintro e w' ⟨rfl, rfl⟩
  go_wp2_with fail
  go_ret2
  exact ⟨rfl, rfl⟩
theorem cutS_len (p s : List UInt8) : (St.cutS p s).1.length ≤ s.length := by
  unfold St.cutS
  split
  · rw [List.length_take]; omega
  · exact Nat.le_refl _
set_option maxHeartbeats 1000000 in
theorem ycutimp_any (s : List UInt8) (w : World) (hl : s.length ≤ 20000) :
    Calls Tryd.prog 55 #[.string (tstr s)] w fun e w' => e = .returned (.tuple #[.string (tstr (St.cutImp s).1), .bool (St.cutImp s).2]) ∧ w = w' := by
  have h1 : Calls Tryd.prog 70 #[.string (tstr s), .string ⟨#[105, 109, 112, 111, 114, 116, 97, 110, 116]⟩] w _ := ycutsuf_any s St.wImp w hl
  have htr : ∀ t : List UInt8, t.length ≤ 20000 → ∀ w, Calls Tryd.prog 15 #[.string (tstr t)] w fun e w' => e = .returned (.string (tstr (Txt.trim t))) ∧ w = w' := fun t ht w => by have := ctrim_any (tstr t) w (by rw [tsize]; exact ht); rw [tdata] at this; exact this
  have hl1 := Nat.le_trans (cutS_len St.wImp s) hl
  obtain ⟨a, ha⟩ : ∃ a, (St.cutS St.wImp s).1 = a := ⟨_, rfl⟩
  have HD := Lib.hid (show St.cutImp s = if (St.cutS St.wImp s).2 && (St.cutS [33] (Txt.trim a)).2 then (Txt.trim (St.cutS [33] (Txt.trim a)).1, true) else (s, false) by unfold St.cutImp; rw [ha])
  rw [ha] at h1 hl1
  clear ha
  have ht1 := htr a hl1
  have htl := Nat.le_trans (trim_len' a) hl1
  obtain ⟨t, ht⟩ : ∃ t, Txt.trim a = t := ⟨_, rfl⟩
  rw [ht] at HD ht1 htl
  have h2 : ∀ w, Calls Tryd.prog 70 #[.string (tstr t), .string ⟨#[33]⟩] w _ := fun w => ycutsuf_any t [33] w htl
  have hcl := Nat.le_trans (cutS_len [33] t) htl
  obtain ⟨c, hc⟩ : ∃ c, (St.cutS [33] t).1 = c := ⟨_, rfl⟩
  rw [hc] at HD h2 hcl
  have ht2 := htr c hcl
  clear htr hc ht
  cases k1 : (St.cutS St.wImp s).2 with
  | false =>
    rw [k1] at HD h1
    have HE := Lib.hid (show St.cutImp s = (s, false) from HD.out)
    clear k1 HD h2 ht1 ht2
    go_enter Tryd.func55, Tryd.ntmps55
    go_wp2_with fail
    refine h1.mono ?_
    rintro e w' ⟨rfl, rfl⟩
    go_wp2_with fail
    go_ret2
    rw [HE.out]
    exact ⟨rfl, rfl⟩
  | true =>
    rw [k1] at HD h1
    cases k2 : (St.cutS [33] t).2 with
    | false =>
      rw [k2] at HD h2
      have HE := Lib.hid (show St.cutImp s = (s, false) from HD.out)
      clear k1 k2 HD ht2
      go_enter Tryd.func55, Tryd.ntmps55
      go_wp2_with fail
      refine h1.mono ?_
      rintro e w' ⟨rfl, rfl⟩
      go_wp2_with fail
      refine (ht1 _).mono ?_
      rintro e w' ⟨rfl, rfl⟩
      go_wp2_with fail
      refine (h2 _).mono ?_
      rintro e w' ⟨rfl, rfl⟩
      go_wp2_with fail
      go_ret2
      rw [HE.out]
      exact ⟨rfl, rfl⟩
    | true =>
      rw [k2] at HD h2
      have HE := Lib.hid (show St.cutImp s = (Txt.trim c, true) from HD.out)
      clear k1 k2 HD
      go_enter Tryd.func55, Tryd.ntmps55
      go_wp2_with fail
      refine h1.mono ?_
      rintro e w' ⟨rfl, rfl⟩
      go_wp2_with fail
      refine (ht1 _).mono ?_
      rintro e w' ⟨rfl, rfl⟩
      go_wp2_with fail
      refine (h2 _).mono ?_
      rintro e w' ⟨rfl, rfl⟩
      go_wp2_with fail
      refine (ht2 _).mono ?_
      rintro e w' ⟨rfl, rfl⟩
      go_wp2_with fail
      go_ret2
      rw [HE.out]
      exact ⟨rfl, rfl⟩
end Go.Proofs.YtoiednecchbmnaaDoor
