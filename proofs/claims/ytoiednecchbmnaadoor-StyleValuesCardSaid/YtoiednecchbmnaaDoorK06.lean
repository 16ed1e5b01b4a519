/- The first of some values of a table. -/
import Derived.Test.YtoiednecchbmnaaDoorK02
import Derived.Test.YtoiednecchbmnaaDoorK05
namespace Go.Proofs.YtoiednecchbmnaaDoor
open Go Go.RowKit
set_option linter.unusedVariables false
namespace St
theorem glue_cons {x : Bs} {t : List Bs} (h : ¬ (32 : UInt8) ∈ x) : Lib.cut (glue (x :: t)) [32] = (x, glue t, !t.isEmpty) := by
  cases t with
  | nil => exact cut_none h
  | cons y t => exact cut_at (p := []) (b := glue (y :: t)) h
theorem glue_ne {x : Bs} {t : List Bs} (h : x ≠ []) : glue (x :: t) ≠ [] := by
  cases t with
  | nil => exact h
  | cons y t => show x ++ 32 :: glue (y :: t) ≠ []; simp
theorem glue_len {x : Bs} {t : List Bs} : (glue t).length ≤ (glue (x :: t)).length := by
  cases t with
  | nil => simp [glue]
  | cons y t => show _ ≤ (x ++ 32 :: glue (y :: t)).length; simp only [List.length_append, List.length_cons]; omega
end St
/-- What valueAs answers for a word. -/
def AsOk (x s : List UInt8) : Prop := ∀ w, MaxLen w → Calls Tryd.prog 30 #[.string (tstr x), .string (tstr s)] w fun e w' => e = .returned (.tuple #[vaV (St.valueAs x s).1, .bool (St.valueAs x s).2]) ∧ Below w.heap.size w w'
set_option maxHeartbeats 4000000 in
theorem yvalueOf_any (ws : List St.Bs) (s : List UInt8) (w : World) (hM : MaxLen w) (hA : ∀ x ∈ ws, AsOk x s) (hW : St.WsOk ws) (hl : (St.glue ws).length ≤ 20000) :
    Calls Tryd.prog 17 #[.string (tstr (St.glue ws)), .string (tstr s)] w fun e w' => e = .returned (.tuple #[vaV (St.valueOf ws s).1, .bool (St.valueOf ws s).2]) ∧ Below w.heap.size w w' := by
  have h0 : Whole (w.alloc (.cells #[.int .i64 0, .int .i64 0, .string ⟨#[]⟩] 24)) w.heap.size #[.int .i64 0, .int .i64 0, .string ⟨#[]⟩] 24 := Whole.new _ _ _
  have hB0 : Below w.heap.size w (w.alloc (.cells #[.int .i64 0, .int .i64 0, .string ⟨#[]⟩] 24)) := (Below.refl _ _).alloc (Nat.le_refl _) _
  obtain ⟨W1, hW1⟩ : ∃ W1, w.alloc (.cells #[.int .i64 0, .int .i64 0, .string ⟨#[]⟩] 24) = W1 := ⟨_, rfl⟩
  rw [hW1] at h0 hB0
  have HW1 := Lib.hid h0
  have HB0 := Lib.hid hB0
  have HM := Lib.hid (hM.below hB0)
  have HA := Lib.hid hA
  have HWs := Lib.hid hW
  have HL := Lib.hid hl
  clear hM hA hW hl h0 hB0
  go_enter Tryd.func17, Tryd.ntmps17
  go_wp2_with fail
  try rw [hW1]
  go_loopg [0] (ws.length) (fun gg u0 wr => ∃ t : List St.Bs, u0 = .string (tstr (St.glue t)) ∧ (∀ x ∈ t, AsOk x s) ∧ St.WsOk t ∧ (St.glue t).length ≤ 20000 ∧ t.length ≤ gg ∧ St.valueOf t s = St.valueOf ws s ∧ Whole wr w.heap.size #[.int .i64 0, .int .i64 0, .string ⟨#[]⟩] 24 ∧ MaxLen wr ∧ Below w.heap.size w wr)
  case atStart => exact ⟨ws, rfl, HA.out, HWs.out, HL.out, Nat.le_refl _, rfl, HW1.out, HM.out, HB0.out⟩
  case round =>
    obtain ⟨t, rfl, hAs, hWt, hlt, hgg, hf, hbx, hMr, hb⟩ := hrel
    have HB := Lib.hid hb
    have HBX := Lib.hid hbx
    have HMr := Lib.hid hMr
    cases t with
    | nil =>
      have hzb : (tstr (St.glue [])).toList.isEmpty = true := by rw [ttl]; rfl
      have HF := Lib.hid (show (St.vnil, false) = St.valueOf ws s from hf)
      obtain ⟨f0, f1, f2⟩ := free3 hbx
      obtain ⟨d0, d1, d2⟩ := cells3 hbx
      clear hf hAs hWt hlt hgg hb hMr hbx hW1
      go_wp2_with fail
      rw [← HF.out]
      obtain ⟨X9, hX9, r9, g9⟩ := box3 HBX.out (.int .i64 0) (.int .i64 0) (.string ⟨#[]⟩)
      try rw [hX9]
      obtain ⟨c0, c1, c2⟩ := cells3 r9
      clear f0 f1 f2 d0 d1 d2 hX9
      refine bodyPost_ret (v := .tuple #[.agg #[.int .i64 0, .int .i64 0, .string ⟨#[]⟩], .bool false]) ?_ rfl ⟨rfl, HB.out.grown g9 HB.out.size (fun k hk => by injection hk; omega)⟩
      simp [results, Tryd.f17, go_sem, c0, c1, c2]
    | cons x t =>
      have hx := hWt x (by simp)
      have hzb : (tstr (St.glue (x :: t))).toList.isEmpty = false := by
        rw [ttl]
        cases h : St.glue (x :: t) with
        | nil => exact absurd h (St.glue_ne hx.2)
        | cons a b => rfl
      have hc := scut (St.glue (x :: t)) [32] wr hMr hlt
      rw [St.glue_cons hx.1] at hc
      have ha : ∀ w', MaxLen w' → Calls Tryd.prog 30 #[.string (tstr x), .string (tstr s)] w' _ := hAs x (by simp)
      have HAt := Lib.hid (show ∀ y ∈ t, AsOk y s from fun y hy => hAs y (by simp [hy]))
      have HWt := Lib.hid (show St.WsOk t from fun y hy => hWt y (by simp [hy]))
      have HLt := Lib.hid (Nat.le_trans (St.glue_len (x := x)) hlt)
      have HGG := Lib.hid hgg
      have HF := Lib.hid (show (if (St.valueAs x s).2 then ((St.valueAs x s).1, true) else St.valueOf t s) = St.valueOf ws s from hf)
      clear hAs hWt hlt hgg hf hx hb hMr hbx hW1
      generalize St.valueAs x s = V at ha HF
      obtain ⟨⟨v0, v1, v2⟩, vb⟩ := V
      unfold vaV at ha
      simp only at ha
      cases vb with
      | true =>
        go_wp2_with fail
        refine hc.mono ?_
        clear hc
        rintro e w2 ⟨rfl, hb2⟩
        have HB2 := Lib.hid (ybt HB.out hb2)
        have HBX2 := Lib.hid (HBX.out.below hb2 HBX.out.lt)
        have haa := ha w2 (HMr.out.below hb2)
        clear hb2 ha
        go_wp2_with fail
        refine haa.mono ?_
        clear haa
        rintro e w3 ⟨rfl, hb3⟩
        have HB3 := Lib.hid (ybt HB2.out hb3)
        have hbx3 := HBX2.out.below hb3 HBX2.out.lt
        have HBX3 := Lib.hid hbx3
        have hlt3 := hbx3.lt
        have hV : Whole (w3.alloc (.cells #[.int .i64 0, .int .i64 0, .string ⟨#[]⟩] 24)) w3.heap.size #[.int .i64 0, .int .i64 0, .string ⟨#[]⟩] 24 := Whole.new _ _ _
        have hWA := hbx3.alloc (.cells #[.int .i64 0, .int .i64 0, .string ⟨#[]⟩] 24)
        have hBA := HB3.out.alloc HB3.out.size (.cells #[.int .i64 0, .int .i64 0, .string ⟨#[]⟩] 24)
        obtain ⟨W5, hW5⟩ : ∃ W5, w3.alloc (.cells #[.int .i64 0, .int .i64 0, .string ⟨#[]⟩] 24) = W5 := ⟨_, rfl⟩
        rw [hW5] at hV hWA hBA
        obtain ⟨X6, hX6, r6, g6⟩ := box3 hV (.int .i64 v0) (.int .i64 v1) (.string (tstr v2))
        have HV := Lib.hid hV
        have HV6 := Lib.hid r6
        have HW6 := Lib.hid (hWA.grown g6 (fun e => by injection e; omega))
        have HB6 := Lib.hid (hBA.grown g6 hBA.size (fun k hk => by injection hk; omega))
        clear hb3 hbx3 hV hWA hBA r6 g6
        obtain ⟨p0, p1, p2⟩ := free3 HV.out
        obtain ⟨q0, q1, q2⟩ := cells3 HV.out
        obtain ⟨f0, f1, f2⟩ := free3 HW6.out
        obtain ⟨d0, d1, d2⟩ := cells3 HW6.out
        obtain ⟨k0, k1, k2⟩ := cells3 HV6.out
        go_wp2_with fail
        try rw [hW5]
        go_wp2_with fail
        try rw [hX6]
        rw [← HF.out]
        obtain ⟨X9, hX9, r9, g9⟩ := box3 HW6.out (.int .i64 v0) (.int .i64 v1) (.string (tstr v2))
        try rw [hX9]
        obtain ⟨c0, c1, c2⟩ := cells3 r9
        clear f0 f1 f2 d0 d1 d2 hX9 k0 k1 k2 p0 p1 p2 q0 q1 q2
        refine bodyPost_ret (v := .tuple #[.agg #[.int .i64 v0, .int .i64 v1, .string (tstr v2)], .bool true]) ?_ rfl ⟨rfl, HB6.out.grown g9 HB6.out.size (fun k hk => by injection hk; omega)⟩
        simp [results, Tryd.f17, go_sem, c0, c1, c2]
      | false =>
        go_wp2_with fail
        refine hc.mono ?_
        clear hc
        rintro e w2 ⟨rfl, hb2⟩
        have HB2 := Lib.hid (ybt HB.out hb2)
        have HBX2 := Lib.hid (HBX.out.below hb2 HBX.out.lt)
        have HM2 := Lib.hid (HMr.out.below hb2)
        have haa := ha w2 HM2.out
        clear hb2 ha
        go_wp2_with fail
        refine haa.mono ?_
        clear haa
        rintro e w3 ⟨rfl, hb3⟩
        have HB3 := Lib.hid (ybt HB2.out hb3)
        have hbx3 := HBX2.out.below hb3 HBX2.out.lt
        have HM3 := Lib.hid (HM2.out.below hb3)
        have hlt3 := hbx3.lt
        have hV : Whole (w3.alloc (.cells #[.int .i64 0, .int .i64 0, .string ⟨#[]⟩] 24)) w3.heap.size #[.int .i64 0, .int .i64 0, .string ⟨#[]⟩] 24 := Whole.new _ _ _
        have hWA := hbx3.alloc (.cells #[.int .i64 0, .int .i64 0, .string ⟨#[]⟩] 24)
        have hBA := HB3.out.alloc HB3.out.size (.cells #[.int .i64 0, .int .i64 0, .string ⟨#[]⟩] 24)
        have hMA := (Below.refl w3.heap.size w3).alloc (Nat.le_refl _) (.cells #[.int .i64 0, .int .i64 0, .string ⟨#[]⟩] 24)
        obtain ⟨W5, hW5⟩ : ∃ W5, w3.alloc (.cells #[.int .i64 0, .int .i64 0, .string ⟨#[]⟩] 24) = W5 := ⟨_, rfl⟩
        rw [hW5] at hV hWA hBA hMA
        obtain ⟨X6, hX6, r6, g6⟩ := box3 hV (.int .i64 v0) (.int .i64 v1) (.string (tstr v2))
        have HV := Lib.hid hV
        have HM6 := Lib.hid (HM3.out.below (hMA.grown g6 hMA.size (fun k hk => by injection hk; omega)))
        have HW6 := Lib.hid (hWA.grown g6 (fun e => by injection e; omega))
        have HB6 := Lib.hid (hBA.grown g6 hBA.size (fun k hk => by injection hk; omega))
        clear hb3 hbx3 hV hWA hBA r6 g6 hMA
        obtain ⟨p0, p1, p2⟩ := free3 HV.out
        obtain ⟨q0, q1, q2⟩ := cells3 HV.out
        go_wp2_with fail
        try rw [hW5]
        go_wp2_with fail
        try rw [hX6]
        go_roundg (t.length)
        case rel => exact ⟨t, rfl, HAt.out, HWt.out, HLt.out, Nat.le_refl _, HF.out, HW6.out, HM6.out, HB6.out⟩
        case measure => have := HGG.out; simp only [List.length_cons] at this; omega
end Go.Proofs.YtoiednecchbmnaaDoor
/- The scanner reads a color. -/
namespace Go.Proofs.YtoiednecchbmnaaDoor
open Go Go.RowKit
set_option linter.unusedVariables false
theorem calls_cast {P : Program} {f : Nat} {s s' : ByteArray} {a : Value} {w : World} {Q : Ending → World → Prop} (h : s = s') (hc : Calls P f #[.string s', a] w Q) : Calls P f #[.string s, a] w Q := by rw [h]; exact hc
namespace St
theorem colors_ok : TOk colors := by
  have : (colors.all fun x => !x.1.contains 58 && !x.1.contains 10 && !x.2.contains 10) = true := by decide +kernel
  intro x hx
  have := List.all_eq_true.1 this x hx
  simpa [and_assoc] using this
theorem colors_len : (rend colors).length ≤ 20000 := by
  have : decide ((rend colors).length ≤ 20000) = true := by decide +kernel
  exact of_decide_eq_true this
theorem find_mem {t : List (Bs × Bs)} {n v : Bs} (h : find t n = some v) : ∃ x ∈ t, x.2 = v := by
  induction t with
  | nil => cases h
  | cons y t ih =>
    obtain ⟨k, u⟩ := y
    unfold find at h
    split at h
    · injection h with h; exact ⟨(k, u), by simp, h⟩
    · obtain ⟨x, hx, e⟩ := ih h; exact ⟨x, by simp [hx], e⟩
theorem color_six {l d : Bs} (h : find colors l = some d) : d.length = 6 := by
  obtain ⟨x, hx, e⟩ := find_mem h
  have : (colors.all fun x => x.2.length == 6) = true := by decide +kernel
  have := List.all_eq_true.1 this x hx
  rw [← e]
  simpa using this
end St
set_option maxHeartbeats 8000000 in
theorem ycolor_any (b : Nat) (l : List UInt8) (w : World) (hl : l.length ≤ 20000) (hM : MaxLen w) (e1 : St.skip [35] l = false) (h : ScS w b l) :
    Calls Tryd.prog 39 #[.pointer (some ⟨b, 0, none⟩)] w fun e w' => e = .returned (.tuple #[vaV (St.color l).1, .bool (St.color l).2]) ∧ w.grownBy w' (some b) := by
  have hW : Whole (w.alloc (.cells #[.int .i64 0, .int .i64 0, .string ⟨#[]⟩] 24)) w.heap.size #[.int .i64 0, .int .i64 0, .string ⟨#[]⟩] 24 := Whole.new _ _ _
  have hG : w.grownBy (w.alloc (.cells #[.int .i64 0, .int .i64 0, .string ⟨#[]⟩] 24)) (some b) := World.grownBy_alloc _ _ _
  have h1 : ScS (w.alloc (.cells #[.int .i64 0, .int .i64 0, .string ⟨#[]⟩] 24)) b l := Whole.alloc h _
  have HM := Lib.hid (hM.below ((Below.refl w.heap.size w).alloc (Nat.le_refl _) (.cells #[.int .i64 0, .int .i64 0, .string ⟨#[]⟩] 24)))
  clear hM
  have hbl : b < w.heap.size := Whole.lt h
  obtain ⟨W1, hW1⟩ : ∃ W1, w.alloc (.cells #[.int .i64 0, .int .i64 0, .string ⟨#[]⟩] 24) = W1 := ⟨_, rfl⟩
  rw [hW1] at hW hG h1
  rw [hW1] at HM
  have HW := Lib.hid hW
  have HG := Lib.hid hG
  have hZ := h1
  clear h hW hG h1
  have hc0 : W1.cell? ⟨b, 0, none⟩ = some (.string (tstr l)) := Whole.cell hZ 0
  have hlk := fun name => ylookUp_any St.colors name W1 HM.out St.colors_ok St.colors_len
  have HZ := Lib.hid hZ
  have hsk : ∀ w, ScS w b l → Calls Tryd.prog 37 #[.pointer (some ⟨b, 0, none⟩), .string ⟨#[35]⟩] w _ := fun w h => yskip_any b l [35] w h
  clear hZ
  have hsk : ∀ w, ScS w b l → Calls Tryd.prog 37 #[.pointer (some ⟨b, 0, none⟩), .string ⟨#[35]⟩] w fun e w' => e = .returned (.bool false) ∧ ScS w' b l ∧ w.grownBy w' (some b) := fun w h => by have := hsk w h; rw [e1, cut_no e1] at this; exact this
  have HC := Lib.hid (show St.color l = (⟨6, 0, 35 :: St.twice ((St.find St.colors l).getD [])⟩, (St.find St.colors l).isSome && decide ((St.twice ((St.find St.colors l).getD [])).length = 6)) by unfold St.color St.colD; rw [if_neg (by unfold St.skip at e1; rw [e1]; decide)])
  clear e1
  cases ef : St.find St.colors l with
  | none =>
    have hlk : ∀ name, name = l → Calls Tryd.prog 14 #[.string (tstr (St.rend St.colors)), .string (tstr name)] W1 fun e w' => e = .returned (.tuple #[.string (tstr ([])), .bool false]) ∧ Below W1.heap.size W1 w' := fun name h => by subst h; have := hlk name; rw [ef] at this; exact this
    have HE := Lib.hid (show St.color l = (⟨6, 0, 35 :: []⟩, false) by
      rw [HC.out, ef]
      rfl)
    clear HC ef
    go_enter Tryd.func39, Tryd.ntmps39
    go_wp2_with fail
    try rw [hW1]
    refine (calls_cast (by kernel_rfl) (hlk l rfl)).mono ?_
    clear hlk
    rintro e w2 ⟨rfl, hb⟩
    have hb1 : Below W1.heap.size W1 w2 := hb
    have hW2 := HW.out.below hb1 HW.out.lt
    have hG2 := gb_trans HG.out (gb_of_below hb1 (some b))
    have hS2 : ScS w2 b l := Whole.below HZ.out hb1 HZ.out.lt
    have hs := hsk w2 hS2
    clear hb hb1 hsk hc0
    go_wp2_with fail
    refine hs.mono ?_
    rintro e w3 ⟨rfl, hS3, hg3⟩
    have hW3 := hW2.grown hg3 (fun e => by injection e; omega)
    have hG3 := gb_trans hG2 hg3
    clear hg3 hs
    have hn3 : ¬ (tstr ([])).size = 3 := by rw [tsize]; decide
    have hn3i : ¬ ((tstr ([])).size : Int) = 3 := by omega
    have hn6 : (tstr ([])).size = 0 := by rw [tsize]; rfl
    obtain ⟨f0, f1, f2⟩ := free3 hW3
    obtain ⟨d0, d1, d2⟩ := cells3 hW3
    have HW4 := Lib.hid hW3
    have HG4 := Lib.hid hG3
    clear hG3 hW3
    go_wp2_with fail
    obtain ⟨X9, hX9, r9, g9⟩ := box3 HW4.out (.int .i64 6) (.int .i64 0) (.string (⟨#[35]⟩ ++ tstr ([])))
    try rw [hX9]
    obtain ⟨c0, c1, c2⟩ := cells3 r9
    clear f0 f1 f2 d0 d1 d2 hX9
    refine bodyPost_ret (v := .tuple #[.agg #[.int .i64 6, .int .i64 0, .string (⟨#[35]⟩ ++ tstr ([]))], .bool false]) ?_ rfl ⟨?_, gb_new HG4.out (by first | exact g9 | exact gb_drew g9) (Nat.le_refl _)⟩
    · simp [results, Tryd.f39, go_sem, c0, c1, c2] <;> omega
    · rw [HE.out]
      exact ret2 (by rw [show (⟨#[35]⟩ : ByteArray) = tstr [35] from rfl, tapp]; rfl) (congrArg Value.bool (rfl))
  | some d =>
    have hd6 := St.color_six ef
    have hlk : ∀ name, name = l → Calls Tryd.prog 14 #[.string (tstr (St.rend St.colors)), .string (tstr name)] W1 fun e w' => e = .returned (.tuple #[.string (tstr (d)), .bool true]) ∧ Below W1.heap.size W1 w' := fun name h => by subst h; have := hlk name; rw [ef] at this; exact this
    have HE := Lib.hid (show St.color l = (⟨6, 0, 35 :: d⟩, true) by
      rw [HC.out, ef]
      have ht : St.twice d = d := by unfold St.twice; rw [if_neg (by rw [hd6]; decide)]
      simp only [Option.getD_some, Option.isSome_some, ht, hd6]; rfl)
    clear HC ef
    go_enter Tryd.func39, Tryd.ntmps39
    go_wp2_with fail
    try rw [hW1]
    refine (calls_cast (by kernel_rfl) (hlk l rfl)).mono ?_
    clear hlk
    rintro e w2 ⟨rfl, hb⟩
    have hb1 : Below W1.heap.size W1 w2 := hb
    have hW2 := HW.out.below hb1 HW.out.lt
    have hG2 := gb_trans HG.out (gb_of_below hb1 (some b))
    have hS2 : ScS w2 b l := Whole.below HZ.out hb1 HZ.out.lt
    have hs := hsk w2 hS2
    clear hb hb1 hsk hc0
    go_wp2_with fail
    refine hs.mono ?_
    rintro e w3 ⟨rfl, hS3, hg3⟩
    have hW3 := hW2.grown hg3 (fun e => by injection e; omega)
    have hG3 := gb_trans hG2 hg3
    clear hg3 hs
    have hn3 : ¬ (tstr (d)).size = 3 := by rw [tsize]; rw [hd6]; decide
    have hn3i : ¬ ((tstr (d)).size : Int) = 3 := by omega
    have hn6 : (tstr (d)).size = 6 := by rw [tsize]; exact hd6
    obtain ⟨f0, f1, f2⟩ := free3 hW3
    obtain ⟨d0, d1, d2⟩ := cells3 hW3
    have HW4 := Lib.hid hW3
    have HG4 := Lib.hid hG3
    clear hG3 hW3
    go_wp2_with fail
    obtain ⟨X9, hX9, r9, g9⟩ := box3 HW4.out (.int .i64 6) (.int .i64 0) (.string (⟨#[35]⟩ ++ tstr (d)))
    try rw [hX9]
    obtain ⟨c0, c1, c2⟩ := cells3 r9
    clear f0 f1 f2 d0 d1 d2 hX9
    refine bodyPost_ret (v := .tuple #[.agg #[.int .i64 6, .int .i64 0, .string (⟨#[35]⟩ ++ tstr (d))], .bool true]) ?_ rfl ⟨?_, gb_new HG4.out (by first | exact g9 | exact gb_drew g9) (Nat.le_refl _)⟩
    · simp [results, Tryd.f39, go_sem, c0, c1, c2] <;> omega
    · rw [HE.out]
      exact ret2 (by rw [show (⟨#[35]⟩ : ByteArray) = tstr [35] from rfl, tapp]; rfl) (congrArg Value.bool (rfl))
end Go.Proofs.YtoiednecchbmnaaDoor
