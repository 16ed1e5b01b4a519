/- The scanner reads a color that begins with #. -/
import Derived.Test.YtoiednecchbmnaaDoorK06
namespace Go.Proofs.YtoiednecchbmnaaDoor
open Go Go.RowKit
set_option linter.unusedVariables false
set_option maxHeartbeats 16000000 in
theorem ycolor_hash (b : Nat) (l : List UInt8) (w : World) (hl : l.length ≤ 20000) (hM : MaxLen w) (e1 : St.skip [35] l = true) (h : ScS w b l) :
    Calls Tryd.prog 39 #[.pointer (some ⟨b, 0, none⟩)] w fun e w' => e = .returned (.tuple #[vaV (St.color l).1, .bool (St.color l).2]) ∧ w.grownBy w' (some b) := by
  have hW : Whole (w.alloc (.cells #[.int .i64 0, .int .i64 0, .string ⟨#[]⟩] 24)) w.heap.size #[.int .i64 0, .int .i64 0, .string ⟨#[]⟩] 24 := Whole.new _ _ _
  have hG : w.grownBy (w.alloc (.cells #[.int .i64 0, .int .i64 0, .string ⟨#[]⟩] 24)) (some b) := World.grownBy_alloc _ _ _
  have h1 : ScS (w.alloc (.cells #[.int .i64 0, .int .i64 0, .string ⟨#[]⟩] 24)) b l := Whole.alloc h _
  have HM := Lib.hid (hM.below ((Below.refl w.heap.size w).alloc (Nat.le_refl _) (.cells #[.int .i64 0, .int .i64 0, .string ⟨#[]⟩] 24)))
  clear hM
  have hbl : b < w.heap.size := Whole.lt h
  obtain ⟨W1, hW1⟩ : ∃ W1, w.alloc (.cells #[.int .i64 0, .int .i64 0, .string ⟨#[]⟩] 24) = W1 := ⟨_, rfl⟩
  rw [hW1] at hW hG h1
  rw [hW1] at HM
  have HW := Lib.hid hW
  have HG := Lib.hid hG
  have hZ := h1
  clear h hW hG h1
  have hc0 : W1.cell? ⟨b, 0, none⟩ = some (.string (tstr l)) := Whole.cell hZ 0
  have hlk := fun name => ylookUp_any St.colors name W1 HM.out St.colors_ok St.colors_len
  have HZ := Lib.hid hZ
  have hsk : ∀ w, ScS w b l → Calls Tryd.prog 37 #[.pointer (some ⟨b, 0, none⟩), .string ⟨#[35]⟩] w _ := fun w h => yskip_any b l [35] w h
  clear hZ
  have hsk : ∀ w, ScS w b l → Calls Tryd.prog 37 #[.pointer (some ⟨b, 0, none⟩), .string ⟨#[35]⟩] w fun e w' => e = .returned (.bool true) ∧ ScS w' b (St.cutP [35] l) ∧ w.grownBy w' (some b) := fun w h => by have := hsk w h; rw [e1] at this; exact this
  obtain ⟨D, hD⟩ : ∃ D, (St.cutP [35] l).takeWhile St.hx = D := ⟨_, rfl⟩
  obtain ⟨r, hr⟩ : ∃ r, (St.cutP [35] l).dropWhile St.hx = r := ⟨_, rfl⟩
  have HC := Lib.hid (show St.color l = (⟨6, 0, 35 :: St.twice D⟩, r.isEmpty && decide ((St.twice D).length = 6)) by
    unfold St.color St.colD
    rw [if_pos (by unfold St.skip at e1; exact e1)]
    rw [show l.drop 1 = St.cutP [35] l by unfold St.cutP; unfold St.skip at e1; rw [if_pos e1]; rfl, hD, hr])
  have hDl : D.length ≤ 20000 := by rw [← hD]; exact Nat.le_trans (List.takeWhile_sublist _).length_le (Nat.le_trans (cutP_le _ _) hl)
  have hrun : ∀ w, ScS w b (St.cutP [35] l) → Calls Tryd.prog 60 #[.pointer (some ⟨b, 0, none⟩), .func (.func 61) #[] #[]] w fun e w' => e = .returned (.string (tstr D)) ∧ ScS w' b r ∧ w.grownBy w' (some b) := fun w h => by have := yrun_any 61 St.hx ent_hx asks_hx b (St.cutP [35] l) w (Nat.le_trans (cutP_le _ _) hl) h; rw [hD, hr] at this; exact this
  clear e1 hD hr
  by_cases h3 : D.length = 3
  · match D, h3 with
    | [x0, x1, x2], _ =>
      by_cases hr0 : r = []
      · subst hr0
        have hz := ttl []
        have hzr : (tstr []).toList.isEmpty = true := by rw [ttl]; rfl
        have HE := Lib.hid (show St.color l = (⟨6, 0, 35 :: [x0, x0, x1, x1, x2, x2]⟩, true) by rw [HC.out]; rfl)
        clear HC
        go_enter Tryd.func39, Tryd.ntmps39
        go_wp2_with fail
        try rw [hW1]
        refine (calls_cast (by kernel_rfl) (hlk l)).mono ?_
        clear hlk
        rintro e w2 ⟨rfl, hb⟩
        have hb1 : Below W1.heap.size W1 w2 := hb
        have hW2 := HW.out.below hb1 HW.out.lt
        have hG2 := gb_trans HG.out (gb_of_below hb1 (some b))
        have hS2 : ScS w2 b l := Whole.below HZ.out hb1 HZ.out.lt
        have hs := hsk w2 hS2
        clear hb hb1 hsk hc0
        go_wp2_with fail
        refine hs.mono ?_
        rintro e w3 ⟨rfl, hS3, hg3⟩
        have hW3 := hW2.grown hg3 (fun e => by injection e; omega)
        have hG3 := gb_trans hG2 hg3
        clear hg3 hs
        have hrr := hrun w3 hS3
        clear hrun
        go_wp2_with fail
        refine hrr.mono ?_
        rintro e w4 ⟨rfl, hS4, hg4⟩
        have hW4 := hW3.grown hg4 (fun e => by injection e; omega)
        have hG4 := gb_trans hG3 hg4
        have hc4 : w4.cell? ⟨b, 0, none⟩ = some (.string (tstr [])) := Whole.cell hS4 0
        clear hrr hg4 hS3 hW3 hG3 hW2 hG2 hS2
        have hn3 : (tstr [x0, x1, x2]).size = 3 := rfl
        have i0 : (tstr [x0, x1, x2])[0] = x0 := rfl
        have i1 : (tstr [x0, x1, x2])[1] = x1 := rfl
        have i2 : (tstr [x0, x1, x2])[2] = x2 := rfl
        have hp0 : (0 : Int) < ((tstr [x0, x1, x2]).size : Int) := by rw [hn3]; decide
        have hp1 : (1 : Int) < ((tstr [x0, x1, x2]).size : Int) := by rw [hn3]; decide
        have hp2 : (2 : Int) < ((tstr [x0, x1, x2]).size : Int) := by rw [hn3]; decide
        have hwc : Whole ((w4.alloc (.cells #[.int .u8 x0.toNat, .int .u8 x0.toNat, .int .u8 x1.toNat, .int .u8 x1.toNat, .int .u8 x2.toNat, .int .u8 x2.toNat] 5)).drew) w4.heap.size #[.int .u8 x0.toNat, .int .u8 x0.toNat, .int .u8 x1.toNat, .int .u8 x1.toNat, .int .u8 x2.toNat, .int .u8 x2.toNat] 5 := (Whole.new _ _ _).drew
        have hcv : (convert 53 9 (.slice (some ⟨w4.heap.size, 0, none⟩) 6 6)).run Tryd.prog ((w4.alloc (.cells #[.int .u8 x0.toNat, .int .u8 x0.toNat, .int .u8 x1.toNat, .int .u8 x1.toNat, .int .u8 x2.toNat, .int .u8 x2.toNat] 5)).drew) = .ok (.string (tstr [x0, x0, x1, x1, x2, x2])) ((w4.alloc (.cells #[.int .u8 x0.toNat, .int .u8 x0.toNat, .int .u8 x1.toNat, .int .u8 x1.toNat, .int .u8 x2.toNat, .int .u8 x2.toNat] 5)).drew) := run_convert_bytes_back (P := Tryd.prog) ((w4.alloc (.cells #[.int .u8 x0.toNat, .int .u8 x0.toNat, .int .u8 x1.toNat, .int .u8 x1.toNat, .int .u8 x2.toNat, .int .u8 x2.toNat] 5)).drew) 53 9 5 ⟨w4.heap.size, 0, none⟩ 6 [x0, x0, x1, x1, x2, x2] Tryd.underlying53 Tryd.underlying5 Tryd.underlying9 (fun j hj => by
          rw [show ((⟨w4.heap.size, 0, none⟩ : Addr).add j) = ⟨w4.heap.size, j, none⟩ by simp [Addr.add]; omega, hwc.cell]
          match j, hj with
          | 0, _ => rfl
          | 1, _ => rfl
          | 2, _ => rfl
          | 3, _ => rfl
          | 4, _ => rfl
          | 5, _ => rfl)
        have hW5 : Whole ((w4.alloc (.cells #[.int .u8 x0.toNat, .int .u8 x0.toNat, .int .u8 x1.toNat, .int .u8 x1.toNat, .int .u8 x2.toNat, .int .u8 x2.toNat] 5)).drew) w.heap.size #[.int .i64 0, .int .i64 0, .string ⟨#[]⟩] 24 := (hW4.alloc _).drew
        have hG5 : w.grownBy ((w4.alloc (.cells #[.int .u8 x0.toNat, .int .u8 x0.toNat, .int .u8 x1.toNat, .int .u8 x1.toNat, .int .u8 x2.toNat, .int .u8 x2.toNat] 5)).drew) (some b) := gb_drew (gb_alloc hG4 _)
        clear hwc
        go_wp2_with fail
        go_region
        obtain ⟨W6, hW6⟩ : ∃ W6, (w4.alloc (.cells #[.int .u8 x0.toNat, .int .u8 x0.toNat, .int .u8 x1.toNat, .int .u8 x1.toNat, .int .u8 x2.toNat, .int .u8 x2.toNat] 5)).drew = W6 := ⟨_, rfl⟩
        rw [hW6] at hW5 hG5
        try rw [hW6]
        clear hcv hW6 hW4 hG4
        have hn6 : (tstr [x0, x0, x1, x1, x2, x2]).size = 6 := rfl
        obtain ⟨f0, f1, f2⟩ := free3 hW5
        obtain ⟨d0, d1, d2⟩ := cells3 hW5
        have HW4 := Lib.hid hW5
        have HG4 := Lib.hid hG5
        clear hG5 hW5
        go_wp2_with fail
        obtain ⟨X9, hX9, r9, g9⟩ := box3 HW4.out (.int .i64 6) (.int .i64 0) (.string (⟨#[35]⟩ ++ tstr ([x0, x0, x1, x1, x2, x2])))
        try rw [hX9]
        obtain ⟨c0, c1, c2⟩ := cells3 r9
        clear f0 f1 f2 d0 d1 d2 hX9
        refine bodyPost_ret (v := .tuple #[.agg #[.int .i64 6, .int .i64 0, .string (⟨#[35]⟩ ++ tstr ([x0, x0, x1, x1, x2, x2]))], .bool true]) ?_ rfl ⟨?_, gb_new HG4.out (by first | exact g9 | exact gb_drew g9) (Nat.le_refl _)⟩
        · simp [results, Tryd.f39, go_sem, c0, c1, c2] <;> omega
        · rw [HE.out]
          exact ret2 (by rw [show (⟨#[35]⟩ : ByteArray) = tstr [35] from rfl, tapp]; rfl) (congrArg Value.bool (rfl))
      · have hzr : (tstr r).toList.isEmpty = false := by rw [ttl]; cases r with | nil => exact absurd rfl hr0 | cons a t => rfl
        have HR0 := Lib.hid (show r.isEmpty = false by cases r with | nil => exact absurd rfl hr0 | cons a t => rfl)
        clear hr0
        have HE := Lib.hid (show St.color l = (⟨6, 0, 35 :: [x0, x0, x1, x1, x2, x2]⟩, false) by rw [HC.out]; rw [HR0.out]; rfl)
        clear HC
        go_enter Tryd.func39, Tryd.ntmps39
        go_wp2_with fail
        try rw [hW1]
        refine (calls_cast (by kernel_rfl) (hlk l)).mono ?_
        clear hlk
        rintro e w2 ⟨rfl, hb⟩
        have hb1 : Below W1.heap.size W1 w2 := hb
        have hW2 := HW.out.below hb1 HW.out.lt
        have hG2 := gb_trans HG.out (gb_of_below hb1 (some b))
        have hS2 : ScS w2 b l := Whole.below HZ.out hb1 HZ.out.lt
        have hs := hsk w2 hS2
        clear hb hb1 hsk hc0
        go_wp2_with fail
        refine hs.mono ?_
        rintro e w3 ⟨rfl, hS3, hg3⟩
        have hW3 := hW2.grown hg3 (fun e => by injection e; omega)
        have hG3 := gb_trans hG2 hg3
        clear hg3 hs
        have hrr := hrun w3 hS3
        clear hrun
        go_wp2_with fail
        refine hrr.mono ?_
        rintro e w4 ⟨rfl, hS4, hg4⟩
        have hW4 := hW3.grown hg4 (fun e => by injection e; omega)
        have hG4 := gb_trans hG3 hg4
        have hc4 : w4.cell? ⟨b, 0, none⟩ = some (.string (tstr r)) := Whole.cell hS4 0
        clear hrr hg4 hS3 hW3 hG3 hW2 hG2 hS2
        have hn3 : (tstr [x0, x1, x2]).size = 3 := rfl
        have i0 : (tstr [x0, x1, x2])[0] = x0 := rfl
        have i1 : (tstr [x0, x1, x2])[1] = x1 := rfl
        have i2 : (tstr [x0, x1, x2])[2] = x2 := rfl
        have hp0 : (0 : Int) < ((tstr [x0, x1, x2]).size : Int) := by rw [hn3]; decide
        have hp1 : (1 : Int) < ((tstr [x0, x1, x2]).size : Int) := by rw [hn3]; decide
        have hp2 : (2 : Int) < ((tstr [x0, x1, x2]).size : Int) := by rw [hn3]; decide
        have hwc : Whole ((w4.alloc (.cells #[.int .u8 x0.toNat, .int .u8 x0.toNat, .int .u8 x1.toNat, .int .u8 x1.toNat, .int .u8 x2.toNat, .int .u8 x2.toNat] 5)).drew) w4.heap.size #[.int .u8 x0.toNat, .int .u8 x0.toNat, .int .u8 x1.toNat, .int .u8 x1.toNat, .int .u8 x2.toNat, .int .u8 x2.toNat] 5 := (Whole.new _ _ _).drew
        have hcv : (convert 53 9 (.slice (some ⟨w4.heap.size, 0, none⟩) 6 6)).run Tryd.prog ((w4.alloc (.cells #[.int .u8 x0.toNat, .int .u8 x0.toNat, .int .u8 x1.toNat, .int .u8 x1.toNat, .int .u8 x2.toNat, .int .u8 x2.toNat] 5)).drew) = .ok (.string (tstr [x0, x0, x1, x1, x2, x2])) ((w4.alloc (.cells #[.int .u8 x0.toNat, .int .u8 x0.toNat, .int .u8 x1.toNat, .int .u8 x1.toNat, .int .u8 x2.toNat, .int .u8 x2.toNat] 5)).drew) := run_convert_bytes_back (P := Tryd.prog) ((w4.alloc (.cells #[.int .u8 x0.toNat, .int .u8 x0.toNat, .int .u8 x1.toNat, .int .u8 x1.toNat, .int .u8 x2.toNat, .int .u8 x2.toNat] 5)).drew) 53 9 5 ⟨w4.heap.size, 0, none⟩ 6 [x0, x0, x1, x1, x2, x2] Tryd.underlying53 Tryd.underlying5 Tryd.underlying9 (fun j hj => by
          rw [show ((⟨w4.heap.size, 0, none⟩ : Addr).add j) = ⟨w4.heap.size, j, none⟩ by simp [Addr.add]; omega, hwc.cell]
          match j, hj with
          | 0, _ => rfl
          | 1, _ => rfl
          | 2, _ => rfl
          | 3, _ => rfl
          | 4, _ => rfl
          | 5, _ => rfl)
        have hW5 : Whole ((w4.alloc (.cells #[.int .u8 x0.toNat, .int .u8 x0.toNat, .int .u8 x1.toNat, .int .u8 x1.toNat, .int .u8 x2.toNat, .int .u8 x2.toNat] 5)).drew) w.heap.size #[.int .i64 0, .int .i64 0, .string ⟨#[]⟩] 24 := (hW4.alloc _).drew
        have hG5 : w.grownBy ((w4.alloc (.cells #[.int .u8 x0.toNat, .int .u8 x0.toNat, .int .u8 x1.toNat, .int .u8 x1.toNat, .int .u8 x2.toNat, .int .u8 x2.toNat] 5)).drew) (some b) := gb_drew (gb_alloc hG4 _)
        clear hwc
        go_wp2_with fail
        go_region
        obtain ⟨W6, hW6⟩ : ∃ W6, (w4.alloc (.cells #[.int .u8 x0.toNat, .int .u8 x0.toNat, .int .u8 x1.toNat, .int .u8 x1.toNat, .int .u8 x2.toNat, .int .u8 x2.toNat] 5)).drew = W6 := ⟨_, rfl⟩
        rw [hW6] at hW5 hG5
        try rw [hW6]
        clear hcv hW6 hW4 hG4
        have hn6 : (tstr [x0, x0, x1, x1, x2, x2]).size = 6 := rfl
        obtain ⟨f0, f1, f2⟩ := free3 hW5
        obtain ⟨d0, d1, d2⟩ := cells3 hW5
        have HW4 := Lib.hid hW5
        have HG4 := Lib.hid hG5
        clear hG5 hW5
        go_wp2_with fail
        obtain ⟨X9, hX9, r9, g9⟩ := box3 HW4.out (.int .i64 6) (.int .i64 0) (.string (⟨#[35]⟩ ++ tstr ([x0, x0, x1, x1, x2, x2])))
        try rw [hX9]
        obtain ⟨c0, c1, c2⟩ := cells3 r9
        clear f0 f1 f2 d0 d1 d2 hX9
        refine bodyPost_ret (v := .tuple #[.agg #[.int .i64 6, .int .i64 0, .string (⟨#[35]⟩ ++ tstr ([x0, x0, x1, x1, x2, x2]))], .bool false]) ?_ rfl ⟨?_, gb_new HG4.out (by first | exact g9 | exact gb_drew g9) (Nat.le_refl _)⟩
        · simp [results, Tryd.f39, go_sem, c0, c1, c2] <;> omega
        · rw [HE.out]
          exact ret2 (by rw [show (⟨#[35]⟩ : ByteArray) = tstr [35] from rfl, tapp]; rfl) (congrArg Value.bool (rfl))
  · by_cases hr0 : r = []
    · subst hr0
      have hz := ttl []
      have hzr : (tstr []).toList.isEmpty = true := by rw [ttl]; rfl
      by_cases h6 : D.length = 6
      · have hn6 : (tstr D).size = 6 := by rw [tsize]; exact h6
        have HE := Lib.hid (show St.color l = (⟨6, 0, 35 :: D⟩, true) by rw [HC.out]; unfold St.twice; rw [if_neg h3]; rw [h6]; rfl)
        clear HC
        have hn3 : ¬ (tstr D).size = 3 := by rw [tsize]; exact h3
        have hn3i : ¬ ((tstr D).size : Int) = 3 := by omega
        have hzs : (tstr (D)).size ≤ 20000 := by rw [tsize]; exact hDl
        have hzs1 : ((tstr (D)).size : Int) ≤ 20000 := by omega
        clear h3 h6
        go_enter Tryd.func39, Tryd.ntmps39
        go_wp2_with fail
        try rw [hW1]
        refine (calls_cast (by kernel_rfl) (hlk l)).mono ?_
        clear hlk
        rintro e w2 ⟨rfl, hb⟩
        have hb1 : Below W1.heap.size W1 w2 := hb
        have hW2 := HW.out.below hb1 HW.out.lt
        have hG2 := gb_trans HG.out (gb_of_below hb1 (some b))
        have hS2 : ScS w2 b l := Whole.below HZ.out hb1 HZ.out.lt
        have hs := hsk w2 hS2
        clear hb hb1 hsk hc0
        go_wp2_with fail
        refine hs.mono ?_
        rintro e w3 ⟨rfl, hS3, hg3⟩
        have hW3 := hW2.grown hg3 (fun e => by injection e; omega)
        have hG3 := gb_trans hG2 hg3
        clear hg3 hs
        have hrr := hrun w3 hS3
        clear hrun
        go_wp2_with fail
        refine hrr.mono ?_
        rintro e w4 ⟨rfl, hS4, hg4⟩
        have hW4 := hW3.grown hg4 (fun e => by injection e; omega)
        have hG4 := gb_trans hG3 hg4
        have hc4 : w4.cell? ⟨b, 0, none⟩ = some (.string (tstr [])) := Whole.cell hS4 0
        clear hrr hg4 hS3 hW3 hG3 hW2 hG2 hS2
        obtain ⟨f0, f1, f2⟩ := free3 hW4
        obtain ⟨d0, d1, d2⟩ := cells3 hW4
        have HW4 := Lib.hid hW4
        have HG4 := Lib.hid hG4
        clear hG4 hW4
        go_wp2_with fail
        obtain ⟨X9, hX9, r9, g9⟩ := box3 HW4.out (.int .i64 6) (.int .i64 0) (.string (⟨#[35]⟩ ++ tstr (D)))
        try rw [hX9]
        obtain ⟨c0, c1, c2⟩ := cells3 r9
        clear f0 f1 f2 d0 d1 d2 hX9
        refine bodyPost_ret (v := .tuple #[.agg #[.int .i64 6, .int .i64 0, .string (⟨#[35]⟩ ++ tstr (D))], .bool true]) ?_ rfl ⟨?_, gb_new HG4.out (by first | exact g9 | exact gb_drew g9) (Nat.le_refl _)⟩
        · simp [results, Tryd.f39, go_sem, c0, c1, c2] <;> omega
        · rw [HE.out]
          exact ret2 (by rw [show (⟨#[35]⟩ : ByteArray) = tstr [35] from rfl, tapp]; rfl) (congrArg Value.bool (rfl))
      · have hn6 : ¬ (tstr D).size = 6 := by rw [tsize]; exact h6
        have hn6i : ¬ ((tstr D).size : Int) = 6 := by omega
        have HE := Lib.hid (show St.color l = (⟨6, 0, 35 :: D⟩, false) by rw [HC.out]; unfold St.twice; rw [if_neg h3]; rw [decide_eq_false h6]; rfl)
        clear HC
        have hn3 : ¬ (tstr D).size = 3 := by rw [tsize]; exact h3
        have hn3i : ¬ ((tstr D).size : Int) = 3 := by omega
        have hzs : (tstr (D)).size ≤ 20000 := by rw [tsize]; exact hDl
        have hzs1 : ((tstr (D)).size : Int) ≤ 20000 := by omega
        clear h3 h6
        go_enter Tryd.func39, Tryd.ntmps39
        go_wp2_with fail
        try rw [hW1]
        refine (calls_cast (by kernel_rfl) (hlk l)).mono ?_
        clear hlk
        rintro e w2 ⟨rfl, hb⟩
        have hb1 : Below W1.heap.size W1 w2 := hb
        have hW2 := HW.out.below hb1 HW.out.lt
        have hG2 := gb_trans HG.out (gb_of_below hb1 (some b))
        have hS2 : ScS w2 b l := Whole.below HZ.out hb1 HZ.out.lt
        have hs := hsk w2 hS2
        clear hb hb1 hsk hc0
        go_wp2_with fail
        refine hs.mono ?_
        rintro e w3 ⟨rfl, hS3, hg3⟩
        have hW3 := hW2.grown hg3 (fun e => by injection e; omega)
        have hG3 := gb_trans hG2 hg3
        clear hg3 hs
        have hrr := hrun w3 hS3
        clear hrun
        go_wp2_with fail
        refine hrr.mono ?_
        rintro e w4 ⟨rfl, hS4, hg4⟩
        have hW4 := hW3.grown hg4 (fun e => by injection e; omega)
        have hG4 := gb_trans hG3 hg4
        have hc4 : w4.cell? ⟨b, 0, none⟩ = some (.string (tstr [])) := Whole.cell hS4 0
        clear hrr hg4 hS3 hW3 hG3 hW2 hG2 hS2
        obtain ⟨f0, f1, f2⟩ := free3 hW4
        obtain ⟨d0, d1, d2⟩ := cells3 hW4
        have HW4 := Lib.hid hW4
        have HG4 := Lib.hid hG4
        clear hG4 hW4
        go_wp2_with fail
        obtain ⟨X9, hX9, r9, g9⟩ := box3 HW4.out (.int .i64 6) (.int .i64 0) (.string (⟨#[35]⟩ ++ tstr (D)))
        try rw [hX9]
        obtain ⟨c0, c1, c2⟩ := cells3 r9
        clear f0 f1 f2 d0 d1 d2 hX9
        refine bodyPost_ret (v := .tuple #[.agg #[.int .i64 6, .int .i64 0, .string (⟨#[35]⟩ ++ tstr (D))], .bool false]) ?_ rfl ⟨?_, gb_new HG4.out (by first | exact g9 | exact gb_drew g9) (Nat.le_refl _)⟩
        · simp [results, Tryd.f39, go_sem, c0, c1, c2] <;> omega
        · rw [HE.out]
          exact ret2 (by rw [show (⟨#[35]⟩ : ByteArray) = tstr [35] from rfl, tapp]; rfl) (congrArg Value.bool (rfl))
    · have hzr : (tstr r).toList.isEmpty = false := by rw [ttl]; cases r with | nil => exact absurd rfl hr0 | cons a t => rfl
      have HR0 := Lib.hid (show r.isEmpty = false by cases r with | nil => exact absurd rfl hr0 | cons a t => rfl)
      clear hr0
      by_cases h6 : D.length = 6
      · have hn6 : (tstr D).size = 6 := by rw [tsize]; exact h6
        have HE := Lib.hid (show St.color l = (⟨6, 0, 35 :: D⟩, false) by rw [HC.out]; unfold St.twice; rw [if_neg h3]; rw [HR0.out]; rfl)
        clear HC
        have hn3 : ¬ (tstr D).size = 3 := by rw [tsize]; exact h3
        have hn3i : ¬ ((tstr D).size : Int) = 3 := by omega
        have hzs : (tstr (D)).size ≤ 20000 := by rw [tsize]; exact hDl
        have hzs1 : ((tstr (D)).size : Int) ≤ 20000 := by omega
        clear h3 h6
        go_enter Tryd.func39, Tryd.ntmps39
        go_wp2_with fail
        try rw [hW1]
        refine (calls_cast (by kernel_rfl) (hlk l)).mono ?_
        clear hlk
        rintro e w2 ⟨rfl, hb⟩
        have hb1 : Below W1.heap.size W1 w2 := hb
        have hW2 := HW.out.below hb1 HW.out.lt
        have hG2 := gb_trans HG.out (gb_of_below hb1 (some b))
        have hS2 : ScS w2 b l := Whole.below HZ.out hb1 HZ.out.lt
        have hs := hsk w2 hS2
        clear hb hb1 hsk hc0
        go_wp2_with fail
        refine hs.mono ?_
        rintro e w3 ⟨rfl, hS3, hg3⟩
        have hW3 := hW2.grown hg3 (fun e => by injection e; omega)
        have hG3 := gb_trans hG2 hg3
        clear hg3 hs
        have hrr := hrun w3 hS3
        clear hrun
        go_wp2_with fail
        refine hrr.mono ?_
        rintro e w4 ⟨rfl, hS4, hg4⟩
        have hW4 := hW3.grown hg4 (fun e => by injection e; omega)
        have hG4 := gb_trans hG3 hg4
        have hc4 : w4.cell? ⟨b, 0, none⟩ = some (.string (tstr r)) := Whole.cell hS4 0
        clear hrr hg4 hS3 hW3 hG3 hW2 hG2 hS2
        obtain ⟨f0, f1, f2⟩ := free3 hW4
        obtain ⟨d0, d1, d2⟩ := cells3 hW4
        have HW4 := Lib.hid hW4
        have HG4 := Lib.hid hG4
        clear hG4 hW4
        go_wp2_with fail
        obtain ⟨X9, hX9, r9, g9⟩ := box3 HW4.out (.int .i64 6) (.int .i64 0) (.string (⟨#[35]⟩ ++ tstr (D)))
        try rw [hX9]
        obtain ⟨c0, c1, c2⟩ := cells3 r9
        clear f0 f1 f2 d0 d1 d2 hX9
        refine bodyPost_ret (v := .tuple #[.agg #[.int .i64 6, .int .i64 0, .string (⟨#[35]⟩ ++ tstr (D))], .bool false]) ?_ rfl ⟨?_, gb_new HG4.out (by first | exact g9 | exact gb_drew g9) (Nat.le_refl _)⟩
        · simp [results, Tryd.f39, go_sem, c0, c1, c2] <;> omega
        · rw [HE.out]
          exact ret2 (by rw [show (⟨#[35]⟩ : ByteArray) = tstr [35] from rfl, tapp]; rfl) (congrArg Value.bool (rfl))
      · have hn6 : ¬ (tstr D).size = 6 := by rw [tsize]; exact h6
        have hn6i : ¬ ((tstr D).size : Int) = 6 := by omega
        have HE := Lib.hid (show St.color l = (⟨6, 0, 35 :: D⟩, false) by rw [HC.out]; unfold St.twice; rw [if_neg h3]; rw [HR0.out]; rfl)
        clear HC
        have hn3 : ¬ (tstr D).size = 3 := by rw [tsize]; exact h3
        have hn3i : ¬ ((tstr D).size : Int) = 3 := by omega
        have hzs : (tstr (D)).size ≤ 20000 := by rw [tsize]; exact hDl
        have hzs1 : ((tstr (D)).size : Int) ≤ 20000 := by omega
        clear h3 h6
        go_enter Tryd.func39, Tryd.ntmps39
        go_wp2_with fail
        try rw [hW1]
        refine (calls_cast (by kernel_rfl) (hlk l)).mono ?_
        clear hlk
        rintro e w2 ⟨rfl, hb⟩
        have hb1 : Below W1.heap.size W1 w2 := hb
        have hW2 := HW.out.below hb1 HW.out.lt
        have hG2 := gb_trans HG.out (gb_of_below hb1 (some b))
        have hS2 : ScS w2 b l := Whole.below HZ.out hb1 HZ.out.lt
        have hs := hsk w2 hS2
        clear hb hb1 hsk hc0
        go_wp2_with fail
        refine hs.mono ?_
        rintro e w3 ⟨rfl, hS3, hg3⟩
        have hW3 := hW2.grown hg3 (fun e => by injection e; omega)
        have hG3 := gb_trans hG2 hg3
        clear hg3 hs
        have hrr := hrun w3 hS3
        clear hrun
        go_wp2_with fail
        refine hrr.mono ?_
        rintro e w4 ⟨rfl, hS4, hg4⟩
        have hW4 := hW3.grown hg4 (fun e => by injection e; omega)
        have hG4 := gb_trans hG3 hg4
        have hc4 : w4.cell? ⟨b, 0, none⟩ = some (.string (tstr r)) := Whole.cell hS4 0
        clear hrr hg4 hS3 hW3 hG3 hW2 hG2 hS2
        obtain ⟨f0, f1, f2⟩ := free3 hW4
        obtain ⟨d0, d1, d2⟩ := cells3 hW4
        have HW4 := Lib.hid hW4
        have HG4 := Lib.hid hG4
        clear hG4 hW4
        go_wp2_with fail
        obtain ⟨X9, hX9, r9, g9⟩ := box3 HW4.out (.int .i64 6) (.int .i64 0) (.string (⟨#[35]⟩ ++ tstr (D)))
        try rw [hX9]
        obtain ⟨c0, c1, c2⟩ := cells3 r9
        clear f0 f1 f2 d0 d1 d2 hX9
        refine bodyPost_ret (v := .tuple #[.agg #[.int .i64 6, .int .i64 0, .string (⟨#[35]⟩ ++ tstr (D))], .bool false]) ?_ rfl ⟨?_, gb_new HG4.out (by first | exact g9 | exact gb_drew g9) (Nat.le_refl _)⟩
        · simp [results, Tryd.f39, go_sem, c0, c1, c2] <;> omega
        · rw [HE.out]
          exact ret2 (by rw [show (⟨#[35]⟩ : ByteArray) = tstr [35] from rfl, tapp]; rfl) (congrArg Value.bool (rfl))
theorem ycolor_any2 (b : Nat) (l : List UInt8) (w : World) (hl : l.length ≤ 20000) (hM : MaxLen w) (h : ScS w b l) :
    Calls Tryd.prog 39 #[.pointer (some ⟨b, 0, none⟩)] w fun e w' => e = .returned (.tuple #[vaV (St.color l).1, .bool (St.color l).2]) ∧ w.grownBy w' (some b) := by
  cases e : St.skip [35] l with
  | true => exact ycolor_hash b l w hl hM e h
  | false => exact ycolor_any b l w hl hM e h
end Go.Proofs.YtoiednecchbmnaaDoor
