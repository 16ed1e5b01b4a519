/- The scanner reads a number. -/
import Derived.Test.YtoiednecchbmnaaDoorK03
namespace Go.Proofs.YtoiednecchbmnaaDoor
open Go Go.RowKit
set_option linter.unusedVariables false
theorem sgn_yes {l : List UInt8} (h : St.skip [45] l = true) : St.sgn l = (true, St.cutP [45] l) := by
  unfold St.sgn St.cutP
  unfold St.skip at h
  rw [if_pos h, if_pos h]; rfl
theorem sgn_no {l : List UInt8} (h : St.skip [45] l = false) : St.sgn l = (false, St.cutP [43] l) := by
  unfold St.sgn
  unfold St.skip at h
  rw [if_neg (by rw [h]; decide)]
theorem frac_yes {r : List UInt8} (h : St.skip [46] r = true) : St.frac r = (((St.cutP [46] r).takeWhile St.dg ++ [48, 48, 48]).take 3, !((St.cutP [46] r).takeWhile St.dg).isEmpty, (St.cutP [46] r).dropWhile St.dg) := by
  unfold St.frac St.cutP
  unfold St.skip at h
  rw [if_pos h, if_pos h]; rfl
theorem frac_not {r : List UInt8} (h : St.skip [46] r = false) : St.frac r = ([48, 48, 48], true, r) := by
  unfold St.frac
  unfold St.skip at h
  rw [if_neg (by rw [h]; decide)]
/-- What a number's text comes to. -/
theorem thou_of {l m W r F rr : List UInt8} {neg k : Bool} (h1 : St.sgn l = (neg, m)) (h2 : m.takeWhile St.dg = W) (h3 : m.dropWhile St.dg = r) (h4 : St.frac r = (F, k, rr)) :
    St.thou l = if (!W.isEmpty && decide (W.length ≤ 7) && k) = true then (if neg then -(St.dec (W ++ F) : Int) else (St.dec (W ++ F) : Int), decide (St.dec (W ++ F) ≤ 1048576000), rr) else (0, false, rr) := by
  unfold St.thou St.unsig
  rw [h1]
  dsimp only
  rw [h2, h3, h4]
theorem tw_dg (l : List UInt8) : ∀ c ∈ l.takeWhile St.dg, St.dg c = true := fun c hc => (List.all_eq_true.1 (List.all_takeWhile (p := St.dg) (l := l))) c hc
theorem cutP_le (p l : List UInt8) : (St.cutP p l).length ≤ l.length := by
  unfold St.cutP
  split
  · rw [List.length_drop]; omega
  · exact Nat.le_refl _
theorem frac_dg {r F rr : List UInt8} {k : Bool} (h : St.frac r = (F, k, rr)) (c : UInt8) (hc : c ∈ F) : St.dg c = true := by
  unfold St.frac at h
  have h0 : ∀ c ∈ ([48, 48, 48] : List UInt8), St.dg c = true := by decide
  split at h
  · injection h with h1 _
    subst h1
    rcases List.mem_append.1 (List.mem_of_mem_take hc) with h | h
    · exact tw_dg _ c h
    · exact h0 c h
  · injection h with h1 _
    subst h1
    exact h0 c hc
theorem tapp (a b : List UInt8) : tstr a ++ tstr b = tstr (a ++ b) := by
  apply tstr_eq
  rw [ByteArray.data_append, Array.toList_append, tdata, tdata]
theorem tfrac (D : List UInt8) : (tstr D ++ ⟨#[48, 48, 48]⟩ : ByteArray).extract 0 3 = tstr ((D ++ [48, 48, 48]).take 3) := by
  rw [show (⟨#[48, 48, 48]⟩ : ByteArray) = tstr [48, 48, 48] from rfl, tapp, textr_head]
set_option maxHeartbeats 8000000 in
theorem ythou_any (b : Nat) (l : List UInt8) (w : World) (hl : l.length ≤ 20000) (h : ScS w b l) :
    Calls Tryd.prog 62 #[.pointer (some ⟨b, 0, none⟩)] w fun e w' => e = .returned (.tuple #[.int .i64 (St.thou l).1, .bool (St.thou l).2.1]) ∧ ScS w' b (St.thou l).2.2 ∧ w.grownBy w' (some b) := by
  have hR0 := h
  have HG0 := Lib.hid (gbR w b)
  clear h
  go_enter Tryd.func62, Tryd.ntmps62
  go_wp2_with fail
  have h1 : Calls Tryd.prog 37 #[.pointer (some ⟨b, 0, none⟩), .string ⟨#[45]⟩] w _ := yskip_any b (l) [45] w hR0
  cases e1 : St.skip [45] (l) with
  | true =>
    rw [e1] at h1
    have HE1 := Lib.hid e1
    clear e1
    refine h1.mono ?_
    clear h1
    rintro e w1 ⟨rfl, hR, hg⟩
    have hR1 := hR
    have HG1 := Lib.hid (gb_trans HG0.out hg)
    clear hg hR
    go_wp2_with fail
    obtain ⟨m, hm⟩ : ∃ m, St.cutP [45] (l) = m := ⟨_, rfl⟩
    have hml : m.length ≤ 20000 := by rw [← hm]; exact Nat.le_trans (cutP_le _ _) hl
    rw [hm] at hR1
    have HS := Lib.hid (show St.sgn l = (true, m) by rw [← hm]; exact sgn_yes HE1.out)
    clear hm
    obtain ⟨W, hW⟩ : ∃ W, m.takeWhile St.dg = W := ⟨_, rfl⟩
    obtain ⟨r, hr⟩ : ∃ r, m.dropWhile St.dg = r := ⟨_, rfl⟩
    have hrl : r.length ≤ 20000 := by rw [← hr]; exact Nat.le_trans (List.dropWhile_sublist _).length_le hml
    have hwl : (tstr W).size ≤ 20000 := by rw [tsize, ← hW]; exact Nat.le_trans (List.takeWhile_sublist _).length_le hml
    have hwl1 : ((tstr W).size : Int) ≤ 20000 := by omega
    have HD := Lib.hid (hW ▸ tw_dg m : ∀ c ∈ W, St.dg c = true)
    have h2 : Calls Tryd.prog 60 #[.pointer (some ⟨b, 0, none⟩), .func (.func 79) #[] #[]] w1 _ := (by have := yrun_any 79 St.dg ent_dg asks_dg b m w1 hml hR1; rw [hW, hr] at this; exact this)
    have HT0 := Lib.hid (fun (F rr : List UInt8) (kk : Bool) (h4 : St.frac r = (F, kk, rr)) => thou_of HS.out hW hr h4)
    clear hW hr
    rcases Nat.eq_zero_or_pos W.length with hz0 | hz0
    · have hz : (tstr W).toList = [] := by rw [ttl]; exact List.length_eq_zero_iff.1 hz0
      have hzb : (tstr W).toList.isEmpty = true := by rw [hz]; rfl
      have HZ := Lib.hid (show ∀ x y : Bool, (!W.isEmpty && x && y) = false by rw [List.length_eq_zero_iff.1 hz0]; intro x y; rfl)
      clear hz0
      refine h2.mono ?_
      clear h2
      rintro e w2 ⟨rfl, hR, hg⟩
      have hR2 := hR
      have HG2 := Lib.hid (gb_trans HG1.out hg)
      clear hg hR
      go_wp2_with fail
      have h3 : Calls Tryd.prog 37 #[.pointer (some ⟨b, 0, none⟩), .string ⟨#[46]⟩] w2 _ := yskip_any b r [46] w2 hR2
      cases e3 : St.skip [46] r with
      | true =>
        rw [e3] at h3
        have HF := Lib.hid (frac_yes e3)
        clear e3
        obtain ⟨D, hD⟩ : ∃ D, (St.cutP [46] r).takeWhile St.dg = D := ⟨_, rfl⟩
        obtain ⟨r2, hr2⟩ : ∃ r2, (St.cutP [46] r).dropWhile St.dg = r2 := ⟨_, rfl⟩
        have HDl := Lib.hid (show D.length ≤ 20000 by rw [← hD]; exact Nat.le_trans (List.takeWhile_sublist _).length_le (Nat.le_trans (cutP_le _ _) hrl))
        have HDD := Lib.hid (hD ▸ tw_dg (St.cutP [46] r) : ∀ c ∈ D, St.dg c = true)
        have HF2 := Lib.hid (show St.frac r = ((D ++ [48, 48, 48]).take 3, !D.isEmpty, r2) by rw [HF.out, hD, hr2])
        have hrun : ∀ w, ScS w b (St.cutP [46] r) → Calls Tryd.prog 60 #[.pointer (some ⟨b, 0, none⟩), .func (.func 79) #[] #[]] w _ := fun w h => (by have := yrun_any 79 St.dg ent_dg asks_dg b (St.cutP [46] r) w (Nat.le_trans (cutP_le _ _) hrl) h; rw [hD, hr2] at this; exact this)
        clear hD hr2
        have hdl0 : (tstr D).size ≤ 20000 := by rw [tsize]; exact HDl.out
        have hdl1 : ((tstr D).size : Int) ≤ 20000 := by omega
        have hsz : (3 : Int) ≤ ((tstr D).size : Int) + 3 := by omega
        have hxf := tfrac D
        refine h3.mono ?_
        clear h3
        rintro e w3 ⟨rfl, hR, hg⟩
        have hR3 := hR
        have HG3 := Lib.hid (gb_trans HG2.out hg)
        clear hg hR
        go_wp2_with fail
        have h4 := hrun w3 hR3
        clear hrun
        refine h4.mono ?_
        clear h4
        rintro e w4 ⟨rfl, hR, hg⟩
        have hR4 := hR
        have HG4 := Lib.hid (gb_trans HG3.out hg)
        clear hg hR
        go_wp2_with fail
        have HT := HT0.out ((D ++ [48, 48, 48]).take 3) (r2) ((!D.isEmpty)) (HF2.out)
        rw [if_neg (by rw [HZ.out (decide (W.length ≤ 7)) (!D.isEmpty)]; decide)] at HT
        go_ret2
        rw [HT]
        exact ⟨rfl, hR4, HG4.out⟩
      | false =>
        rw [e3, cut_no e3] at h3
        have HF := Lib.hid (frac_not e3)
        clear e3
        refine h3.mono ?_
        clear h3
        rintro e w3 ⟨rfl, hR, hg⟩
        have hR3 := hR
        have HG3 := Lib.hid (gb_trans HG2.out hg)
        clear hg hR
        go_wp2_with fail
        have HT := HT0.out ([48, 48, 48]) (r) (true) (HF.out)
        rw [if_neg (by rw [HZ.out (decide (W.length ≤ 7)) true]; decide)] at HT
        go_ret2
        rw [HT]
        exact ⟨rfl, hR3, HG3.out⟩
    · have hz : ¬ (tstr W).toList = [] := by rw [ttl]; intro e; rw [e] at hz0; cases hz0
      have hzb : (tstr W).toList.isEmpty = false := by cases h : (tstr W).toList.isEmpty with | false => rfl | true => exact absurd (List.isEmpty_iff.1 h) hz
      have HI := Lib.hid (show W.isEmpty = false by cases W with | nil => cases hz0 | cons a t => rfl)
      by_cases h7 : W.length ≤ 7
      · have h71 : (tstr W).size ≤ 7 := by rw [tsize]; exact h7
        have h72 : ((tstr W).size : Int) ≤ 7 := by omega
        have H7 := Lib.hid h7
        clear hz0 h7
        refine h2.mono ?_
        clear h2
        rintro e w2 ⟨rfl, hR, hg⟩
        have hR2 := hR
        have HG2 := Lib.hid (gb_trans HG1.out hg)
        clear hg hR
        go_wp2_with fail
        have h3 : Calls Tryd.prog 37 #[.pointer (some ⟨b, 0, none⟩), .string ⟨#[46]⟩] w2 _ := yskip_any b r [46] w2 hR2
        cases e3 : St.skip [46] r with
        | true =>
          rw [e3] at h3
          have HF := Lib.hid (frac_yes e3)
          clear e3
          obtain ⟨D, hD⟩ : ∃ D, (St.cutP [46] r).takeWhile St.dg = D := ⟨_, rfl⟩
          obtain ⟨r2, hr2⟩ : ∃ r2, (St.cutP [46] r).dropWhile St.dg = r2 := ⟨_, rfl⟩
          have HDl := Lib.hid (show D.length ≤ 20000 by rw [← hD]; exact Nat.le_trans (List.takeWhile_sublist _).length_le (Nat.le_trans (cutP_le _ _) hrl))
          have HDD := Lib.hid (hD ▸ tw_dg (St.cutP [46] r) : ∀ c ∈ D, St.dg c = true)
          have HF2 := Lib.hid (show St.frac r = ((D ++ [48, 48, 48]).take 3, !D.isEmpty, r2) by rw [HF.out, hD, hr2])
          have hrun : ∀ w, ScS w b (St.cutP [46] r) → Calls Tryd.prog 60 #[.pointer (some ⟨b, 0, none⟩), .func (.func 79) #[] #[]] w _ := fun w h => (by have := yrun_any 79 St.dg ent_dg asks_dg b (St.cutP [46] r) w (Nat.le_trans (cutP_le _ _) hrl) h; rw [hD, hr2] at this; exact this)
          clear hD hr2
          have hdl0 : (tstr D).size ≤ 20000 := by rw [tsize]; exact HDl.out
          have hdl1 : ((tstr D).size : Int) ≤ 20000 := by omega
          have hsz : (3 : Int) ≤ ((tstr D).size : Int) + 3 := by omega
          have hxf := tfrac D
          refine h3.mono ?_
          clear h3
          rintro e w3 ⟨rfl, hR, hg⟩
          have hR3 := hR
          have HG3 := Lib.hid (gb_trans HG2.out hg)
          clear hg hR
          go_wp2_with fail
          have h4 := hrun w3 hR3
          clear hrun
          rcases Nat.eq_zero_or_pos D.length with hd0 | hd0
          · have hdz : (tstr D).toList = [] := by rw [ttl]; exact List.length_eq_zero_iff.1 hd0
            have hdb : (tstr D).toList.isEmpty = true := by rw [hdz]; rfl
            have HZ := Lib.hid (show ∀ x : Bool, (x && !D.isEmpty) = false by rw [List.length_eq_zero_iff.1 hd0]; intro x; cases x <;> rfl)
            clear hd0
            refine h4.mono ?_
            clear h4
            rintro e w4 ⟨rfl, hR, hg⟩
            have hR4 := hR
            have HG4 := Lib.hid (gb_trans HG3.out hg)
            clear hg hR
            go_wp2_with fail
            have HT := HT0.out ((D ++ [48, 48, 48]).take 3) r2 (!D.isEmpty) HF2.out
            rw [if_neg (by rw [HZ.out]; decide)] at HT
            go_ret2
            rw [HT]
            exact ⟨rfl, hR4, HG4.out⟩
          · have hdz : ¬ (tstr D).toList = [] := by rw [ttl]; intro e; rw [e] at hd0; cases hd0
            have hdb : (tstr D).toList.isEmpty = false := by cases h : (tstr D).toList.isEmpty with | false => rfl | true => exact absurd (List.isEmpty_iff.1 h) hdz
            have hfs : (tstr ((D ++ [48, 48, 48]).take 3)).size ≤ 3 := by rw [tsize, List.length_take]; omega
            have hfs1 : ((tstr ((D ++ [48, 48, 48]).take 3)).size : Int) ≤ 3 := by omega
            have HF3 := Lib.hid (show St.frac r = ((D ++ [48, 48, 48]).take 3, true, r2) by rw [HF2.out]; cases D with | nil => cases hd0 | cons a t => rfl)
            clear hd0
            refine h4.mono ?_
            clear h4
            rintro e w4 ⟨rfl, hR, hg⟩
            have hR4 := hR
            have HG4 := Lib.hid (gb_trans HG3.out hg)
            clear hg hR
            go_wp2_with fail
            have hdl : (W ++ ((D ++ [48, 48, 48]).take 3)).length ≤ 10 := by have := H7.out; simp; omega
            have hdd : ∀ c ∈ W ++ ((D ++ [48, 48, 48]).take 3), St.dg c = true := fun c hc => (List.mem_append.1 hc).elim (HD.out c) (frac_dg HF3.out c)
            have hN : St.dec (W ++ ((D ++ [48, 48, 48]).take 3)) ≤ 10000000000 := by have h1 := dec_lt _ hdd; have h2 : (10 : Nat) ^ (W ++ ((D ++ [48, 48, 48]).take 3)).length ≤ 10 ^ 10 := Nat.pow_le_pow_right (by decide) hdl; omega
            have h5 : Calls Tryd.prog 80 #[.string (tstr W ++ tstr ((D ++ [48, 48, 48]).take 3))] w4 _ := (by have := ydec_any (W ++ ((D ++ [48, 48, 48]).take 3)) w4 hdl hdd; rw [← tapp] at this; exact this)
            have HT := HT0.out (((D ++ [48, 48, 48]).take 3)) (r2) (true) (HF3.out)
            rw [if_pos (by rw [HI.out, decide_eq_true H7.out]; rfl)] at HT
            obtain ⟨N, hNe⟩ : ∃ N, St.dec (W ++ ((D ++ [48, 48, 48]).take 3)) = N := ⟨_, rfl⟩
            rw [hNe] at h5 HT hN
            have hN2 : (N : Int) ≤ 10000000000 := by omega
            have HTT := Lib.hid HT
            clear HT hNe hdl hdd
            refine h5.mono ?_
            clear h5
            rintro e w9 ⟨rfl, rfl⟩
            go_wp2_with fail
            go_ret2
            rw [HTT.out]
            refine ⟨?_, hR4, HG4.out⟩
            exact ret2 rfl (congrArg Value.bool (by rw [Bool.eq_iff_iff]; simp; omega))
        | false =>
          rw [e3, cut_no e3] at h3
          have HF := Lib.hid (frac_not e3)
          clear e3
          refine h3.mono ?_
          clear h3
          rintro e w3 ⟨rfl, hR, hg⟩
          have hR3 := hR
          have HG3 := Lib.hid (gb_trans HG2.out hg)
          clear hg hR
          go_wp2_with fail
          have hdl : (W ++ [48, 48, 48]).length ≤ 10 := by have := H7.out; simp; omega
          have hdd : ∀ c ∈ W ++ [48, 48, 48], St.dg c = true := fun c hc => (List.mem_append.1 hc).elim (HD.out c) (frac_dg HF.out c)
          have hN : St.dec (W ++ [48, 48, 48]) ≤ 10000000000 := by have h1 := dec_lt _ hdd; have h2 : (10 : Nat) ^ (W ++ [48, 48, 48]).length ≤ 10 ^ 10 := Nat.pow_le_pow_right (by decide) hdl; omega
          have h4 : Calls Tryd.prog 80 #[.string (tstr W ++ tstr [48, 48, 48])] w3 _ := (by have := ydec_any (W ++ [48, 48, 48]) w3 hdl hdd; rw [← tapp] at this; exact this)
          have HT := HT0.out ([48, 48, 48]) (r) (true) (HF.out)
          rw [if_pos (by rw [HI.out, decide_eq_true H7.out]; rfl)] at HT
          obtain ⟨N, hNe⟩ : ∃ N, St.dec (W ++ [48, 48, 48]) = N := ⟨_, rfl⟩
          rw [hNe] at h4 HT hN
          have hN2 : (N : Int) ≤ 10000000000 := by omega
          have HTT := Lib.hid HT
          clear HT hNe hdl hdd
          refine h4.mono ?_
          clear h4
          rintro e w9 ⟨rfl, rfl⟩
          go_wp2_with fail
          go_ret2
          rw [HTT.out]
          refine ⟨?_, hR3, HG3.out⟩
          exact ret2 rfl (congrArg Value.bool (by rw [Bool.eq_iff_iff]; simp; omega))
      · have h71 : ¬ (tstr W).size ≤ 7 := by rw [tsize]; exact h7
        have h72 : ¬ ((tstr W).size : Int) ≤ 7 := by omega
        have HZ := Lib.hid (show ∀ x : Bool, (!W.isEmpty && decide (W.length ≤ 7) && x) = false by rw [decide_eq_false h7]; intro x; simp)
        clear hz0 h7
        refine h2.mono ?_
        clear h2
        rintro e w2 ⟨rfl, hR, hg⟩
        have hR2 := hR
        have HG2 := Lib.hid (gb_trans HG1.out hg)
        clear hg hR
        go_wp2_with fail
        have h3 : Calls Tryd.prog 37 #[.pointer (some ⟨b, 0, none⟩), .string ⟨#[46]⟩] w2 _ := yskip_any b r [46] w2 hR2
        cases e3 : St.skip [46] r with
        | true =>
          rw [e3] at h3
          have HF := Lib.hid (frac_yes e3)
          clear e3
          obtain ⟨D, hD⟩ : ∃ D, (St.cutP [46] r).takeWhile St.dg = D := ⟨_, rfl⟩
          obtain ⟨r2, hr2⟩ : ∃ r2, (St.cutP [46] r).dropWhile St.dg = r2 := ⟨_, rfl⟩
          have HDl := Lib.hid (show D.length ≤ 20000 by rw [← hD]; exact Nat.le_trans (List.takeWhile_sublist _).length_le (Nat.le_trans (cutP_le _ _) hrl))
          have HDD := Lib.hid (hD ▸ tw_dg (St.cutP [46] r) : ∀ c ∈ D, St.dg c = true)
          have HF2 := Lib.hid (show St.frac r = ((D ++ [48, 48, 48]).take 3, !D.isEmpty, r2) by rw [HF.out, hD, hr2])
          have hrun : ∀ w, ScS w b (St.cutP [46] r) → Calls Tryd.prog 60 #[.pointer (some ⟨b, 0, none⟩), .func (.func 79) #[] #[]] w _ := fun w h => (by have := yrun_any 79 St.dg ent_dg asks_dg b (St.cutP [46] r) w (Nat.le_trans (cutP_le _ _) hrl) h; rw [hD, hr2] at this; exact this)
          clear hD hr2
          have hdl0 : (tstr D).size ≤ 20000 := by rw [tsize]; exact HDl.out
          have hdl1 : ((tstr D).size : Int) ≤ 20000 := by omega
          have hsz : (3 : Int) ≤ ((tstr D).size : Int) + 3 := by omega
          have hxf := tfrac D
          refine h3.mono ?_
          clear h3
          rintro e w3 ⟨rfl, hR, hg⟩
          have hR3 := hR
          have HG3 := Lib.hid (gb_trans HG2.out hg)
          clear hg hR
          go_wp2_with fail
          have h4 := hrun w3 hR3
          clear hrun
          refine h4.mono ?_
          clear h4
          rintro e w4 ⟨rfl, hR, hg⟩
          have hR4 := hR
          have HG4 := Lib.hid (gb_trans HG3.out hg)
          clear hg hR
          go_wp2_with fail
          all_goals first | (exfalso; simp only [Bool.not_eq_eq_eq_not, Bool.not_false, Bool.not_true, decide_eq_true_eq] at *; omega) | skip
          have HT := HT0.out ((D ++ [48, 48, 48]).take 3) (r2) ((!D.isEmpty)) (HF2.out)
          rw [if_neg (by rw [HZ.out (!D.isEmpty)]; decide)] at HT
          go_ret2
          rw [HT]
          exact ⟨rfl, hR4, HG4.out⟩
        | false =>
          rw [e3, cut_no e3] at h3
          have HF := Lib.hid (frac_not e3)
          clear e3
          refine h3.mono ?_
          clear h3
          rintro e w3 ⟨rfl, hR, hg⟩
          have hR3 := hR
          have HG3 := Lib.hid (gb_trans HG2.out hg)
          clear hg hR
          go_wp2_with fail
          all_goals first | (exfalso; simp only [Bool.not_eq_eq_eq_not, Bool.not_false, Bool.not_true, decide_eq_true_eq] at *; omega) | skip
          have HT := HT0.out ([48, 48, 48]) (r) (true) (HF.out)
          rw [if_neg (by rw [HZ.out true]; decide)] at HT
          go_ret2
          rw [HT]
          exact ⟨rfl, hR3, HG3.out⟩
  | false =>
    rw [e1, cut_no e1] at h1
    have HE1 := Lib.hid e1
    clear e1
    refine h1.mono ?_
    clear h1
    rintro e w1 ⟨rfl, hR, hg⟩
    have hR1 := hR
    have HG1 := Lib.hid (gb_trans HG0.out hg)
    clear hg hR
    go_wp2_with fail
    have h2 : Calls Tryd.prog 37 #[.pointer (some ⟨b, 0, none⟩), .string ⟨#[43]⟩] w1 _ := yskip_any b (l) [43] w1 hR1
    refine h2.mono ?_
    clear h2
    rintro e w2 ⟨rfl, hR, hg⟩
    have hR2 := hR
    have HG2 := Lib.hid (gb_trans HG1.out hg)
    clear hg hR
    go_wp2_with fail
    obtain ⟨m, hm⟩ : ∃ m, St.cutP [43] (l) = m := ⟨_, rfl⟩
    have hml : m.length ≤ 20000 := by rw [← hm]; exact Nat.le_trans (cutP_le _ _) hl
    rw [hm] at hR2
    have HS := Lib.hid (show St.sgn l = (false, m) by rw [← hm]; exact sgn_no HE1.out)
    clear hm
    obtain ⟨W, hW⟩ : ∃ W, m.takeWhile St.dg = W := ⟨_, rfl⟩
    obtain ⟨r, hr⟩ : ∃ r, m.dropWhile St.dg = r := ⟨_, rfl⟩
    have hrl : r.length ≤ 20000 := by rw [← hr]; exact Nat.le_trans (List.dropWhile_sublist _).length_le hml
    have hwl : (tstr W).size ≤ 20000 := by rw [tsize, ← hW]; exact Nat.le_trans (List.takeWhile_sublist _).length_le hml
    have hwl1 : ((tstr W).size : Int) ≤ 20000 := by omega
    have HD := Lib.hid (hW ▸ tw_dg m : ∀ c ∈ W, St.dg c = true)
    have h3 : Calls Tryd.prog 60 #[.pointer (some ⟨b, 0, none⟩), .func (.func 79) #[] #[]] w2 _ := (by have := yrun_any 79 St.dg ent_dg asks_dg b m w2 hml hR2; rw [hW, hr] at this; exact this)
    have HT0 := Lib.hid (fun (F rr : List UInt8) (kk : Bool) (h4 : St.frac r = (F, kk, rr)) => thou_of HS.out hW hr h4)
    clear hW hr
    rcases Nat.eq_zero_or_pos W.length with hz0 | hz0
    · have hz : (tstr W).toList = [] := by rw [ttl]; exact List.length_eq_zero_iff.1 hz0
      have hzb : (tstr W).toList.isEmpty = true := by rw [hz]; rfl
      have HZ := Lib.hid (show ∀ x y : Bool, (!W.isEmpty && x && y) = false by rw [List.length_eq_zero_iff.1 hz0]; intro x y; rfl)
      clear hz0
      refine h3.mono ?_
      clear h3
      rintro e w3 ⟨rfl, hR, hg⟩
      have hR3 := hR
      have HG3 := Lib.hid (gb_trans HG2.out hg)
      clear hg hR
      go_wp2_with fail
      have h4 : Calls Tryd.prog 37 #[.pointer (some ⟨b, 0, none⟩), .string ⟨#[46]⟩] w3 _ := yskip_any b r [46] w3 hR3
      cases e4 : St.skip [46] r with
      | true =>
        rw [e4] at h4
        have HF := Lib.hid (frac_yes e4)
        clear e4
        obtain ⟨D, hD⟩ : ∃ D, (St.cutP [46] r).takeWhile St.dg = D := ⟨_, rfl⟩
        obtain ⟨r2, hr2⟩ : ∃ r2, (St.cutP [46] r).dropWhile St.dg = r2 := ⟨_, rfl⟩
        have HDl := Lib.hid (show D.length ≤ 20000 by rw [← hD]; exact Nat.le_trans (List.takeWhile_sublist _).length_le (Nat.le_trans (cutP_le _ _) hrl))
        have HDD := Lib.hid (hD ▸ tw_dg (St.cutP [46] r) : ∀ c ∈ D, St.dg c = true)
        have HF2 := Lib.hid (show St.frac r = ((D ++ [48, 48, 48]).take 3, !D.isEmpty, r2) by rw [HF.out, hD, hr2])
        have hrun : ∀ w, ScS w b (St.cutP [46] r) → Calls Tryd.prog 60 #[.pointer (some ⟨b, 0, none⟩), .func (.func 79) #[] #[]] w _ := fun w h => (by have := yrun_any 79 St.dg ent_dg asks_dg b (St.cutP [46] r) w (Nat.le_trans (cutP_le _ _) hrl) h; rw [hD, hr2] at this; exact this)
        clear hD hr2
        have hdl0 : (tstr D).size ≤ 20000 := by rw [tsize]; exact HDl.out
        have hdl1 : ((tstr D).size : Int) ≤ 20000 := by omega
        have hsz : (3 : Int) ≤ ((tstr D).size : Int) + 3 := by omega
        have hxf := tfrac D
        refine h4.mono ?_
        clear h4
        rintro e w4 ⟨rfl, hR, hg⟩
        have hR4 := hR
        have HG4 := Lib.hid (gb_trans HG3.out hg)
        clear hg hR
        go_wp2_with fail
        have h5 := hrun w4 hR4
        clear hrun
        refine h5.mono ?_
        clear h5
        rintro e w5 ⟨rfl, hR, hg⟩
        have hR5 := hR
        have HG5 := Lib.hid (gb_trans HG4.out hg)
        clear hg hR
        go_wp2_with fail
        have HT := HT0.out ((D ++ [48, 48, 48]).take 3) (r2) ((!D.isEmpty)) (HF2.out)
        rw [if_neg (by rw [HZ.out (decide (W.length ≤ 7)) (!D.isEmpty)]; decide)] at HT
        go_ret2
        rw [HT]
        exact ⟨rfl, hR5, HG5.out⟩
      | false =>
        rw [e4, cut_no e4] at h4
        have HF := Lib.hid (frac_not e4)
        clear e4
        refine h4.mono ?_
        clear h4
        rintro e w4 ⟨rfl, hR, hg⟩
        have hR4 := hR
        have HG4 := Lib.hid (gb_trans HG3.out hg)
        clear hg hR
        go_wp2_with fail
        have HT := HT0.out ([48, 48, 48]) (r) (true) (HF.out)
        rw [if_neg (by rw [HZ.out (decide (W.length ≤ 7)) true]; decide)] at HT
        go_ret2
        rw [HT]
        exact ⟨rfl, hR4, HG4.out⟩
    · have hz : ¬ (tstr W).toList = [] := by rw [ttl]; intro e; rw [e] at hz0; cases hz0
      have hzb : (tstr W).toList.isEmpty = false := by cases h : (tstr W).toList.isEmpty with | false => rfl | true => exact absurd (List.isEmpty_iff.1 h) hz
      have HI := Lib.hid (show W.isEmpty = false by cases W with | nil => cases hz0 | cons a t => rfl)
      by_cases h7 : W.length ≤ 7
      · have h71 : (tstr W).size ≤ 7 := by rw [tsize]; exact h7
        have h72 : ((tstr W).size : Int) ≤ 7 := by omega
        have H7 := Lib.hid h7
        clear hz0 h7
        refine h3.mono ?_
        clear h3
        rintro e w3 ⟨rfl, hR, hg⟩
        have hR3 := hR
        have HG3 := Lib.hid (gb_trans HG2.out hg)
        clear hg hR
        go_wp2_with fail
        have h4 : Calls Tryd.prog 37 #[.pointer (some ⟨b, 0, none⟩), .string ⟨#[46]⟩] w3 _ := yskip_any b r [46] w3 hR3
        cases e4 : St.skip [46] r with
        | true =>
          rw [e4] at h4
          have HF := Lib.hid (frac_yes e4)
          clear e4
          obtain ⟨D, hD⟩ : ∃ D, (St.cutP [46] r).takeWhile St.dg = D := ⟨_, rfl⟩
          obtain ⟨r2, hr2⟩ : ∃ r2, (St.cutP [46] r).dropWhile St.dg = r2 := ⟨_, rfl⟩
          have HDl := Lib.hid (show D.length ≤ 20000 by rw [← hD]; exact Nat.le_trans (List.takeWhile_sublist _).length_le (Nat.le_trans (cutP_le _ _) hrl))
          have HDD := Lib.hid (hD ▸ tw_dg (St.cutP [46] r) : ∀ c ∈ D, St.dg c = true)
          have HF2 := Lib.hid (show St.frac r = ((D ++ [48, 48, 48]).take 3, !D.isEmpty, r2) by rw [HF.out, hD, hr2])
          have hrun : ∀ w, ScS w b (St.cutP [46] r) → Calls Tryd.prog 60 #[.pointer (some ⟨b, 0, none⟩), .func (.func 79) #[] #[]] w _ := fun w h => (by have := yrun_any 79 St.dg ent_dg asks_dg b (St.cutP [46] r) w (Nat.le_trans (cutP_le _ _) hrl) h; rw [hD, hr2] at this; exact this)
          clear hD hr2
          have hdl0 : (tstr D).size ≤ 20000 := by rw [tsize]; exact HDl.out
          have hdl1 : ((tstr D).size : Int) ≤ 20000 := by omega
          have hsz : (3 : Int) ≤ ((tstr D).size : Int) + 3 := by omega
          have hxf := tfrac D
          refine h4.mono ?_
          clear h4
          rintro e w4 ⟨rfl, hR, hg⟩
          have hR4 := hR
          have HG4 := Lib.hid (gb_trans HG3.out hg)
          clear hg hR
          go_wp2_with fail
          have h5 := hrun w4 hR4
          clear hrun
          rcases Nat.eq_zero_or_pos D.length with hd0 | hd0
          · have hdz : (tstr D).toList = [] := by rw [ttl]; exact List.length_eq_zero_iff.1 hd0
            have hdb : (tstr D).toList.isEmpty = true := by rw [hdz]; rfl
            have HZ := Lib.hid (show ∀ x : Bool, (x && !D.isEmpty) = false by rw [List.length_eq_zero_iff.1 hd0]; intro x; cases x <;> rfl)
            clear hd0
            refine h5.mono ?_
            clear h5
            rintro e w5 ⟨rfl, hR, hg⟩
            have hR5 := hR
            have HG5 := Lib.hid (gb_trans HG4.out hg)
            clear hg hR
            go_wp2_with fail
            have HT := HT0.out ((D ++ [48, 48, 48]).take 3) r2 (!D.isEmpty) HF2.out
            rw [if_neg (by rw [HZ.out]; decide)] at HT
            go_ret2
            rw [HT]
            exact ⟨rfl, hR5, HG5.out⟩
          · have hdz : ¬ (tstr D).toList = [] := by rw [ttl]; intro e; rw [e] at hd0; cases hd0
            have hdb : (tstr D).toList.isEmpty = false := by cases h : (tstr D).toList.isEmpty with | false => rfl | true => exact absurd (List.isEmpty_iff.1 h) hdz
            have hfs : (tstr ((D ++ [48, 48, 48]).take 3)).size ≤ 3 := by rw [tsize, List.length_take]; omega
            have hfs1 : ((tstr ((D ++ [48, 48, 48]).take 3)).size : Int) ≤ 3 := by omega
            have HF3 := Lib.hid (show St.frac r = ((D ++ [48, 48, 48]).take 3, true, r2) by rw [HF2.out]; cases D with | nil => cases hd0 | cons a t => rfl)
            clear hd0
            refine h5.mono ?_
            clear h5
            rintro e w5 ⟨rfl, hR, hg⟩
            have hR5 := hR
            have HG5 := Lib.hid (gb_trans HG4.out hg)
            clear hg hR
            go_wp2_with fail
            have hdl : (W ++ ((D ++ [48, 48, 48]).take 3)).length ≤ 10 := by have := H7.out; simp; omega
            have hdd : ∀ c ∈ W ++ ((D ++ [48, 48, 48]).take 3), St.dg c = true := fun c hc => (List.mem_append.1 hc).elim (HD.out c) (frac_dg HF3.out c)
            have hN : St.dec (W ++ ((D ++ [48, 48, 48]).take 3)) ≤ 10000000000 := by have h1 := dec_lt _ hdd; have h2 : (10 : Nat) ^ (W ++ ((D ++ [48, 48, 48]).take 3)).length ≤ 10 ^ 10 := Nat.pow_le_pow_right (by decide) hdl; omega
            have h6 : Calls Tryd.prog 80 #[.string (tstr W ++ tstr ((D ++ [48, 48, 48]).take 3))] w5 _ := (by have := ydec_any (W ++ ((D ++ [48, 48, 48]).take 3)) w5 hdl hdd; rw [← tapp] at this; exact this)
            have HT := HT0.out (((D ++ [48, 48, 48]).take 3)) (r2) (true) (HF3.out)
            rw [if_pos (by rw [HI.out, decide_eq_true H7.out]; rfl)] at HT
            obtain ⟨N, hNe⟩ : ∃ N, St.dec (W ++ ((D ++ [48, 48, 48]).take 3)) = N := ⟨_, rfl⟩
            rw [hNe] at h6 HT hN
            have hN2 : (N : Int) ≤ 10000000000 := by omega
            have HTT := Lib.hid HT
            clear HT hNe hdl hdd
            refine h6.mono ?_
            clear h6
            rintro e w9 ⟨rfl, rfl⟩
            go_wp2_with fail
            go_ret2
            rw [HTT.out]
            refine ⟨?_, hR5, HG5.out⟩
            exact ret2 rfl (congrArg Value.bool (by rw [Bool.eq_iff_iff]; simp; omega))
        | false =>
          rw [e4, cut_no e4] at h4
          have HF := Lib.hid (frac_not e4)
          clear e4
          refine h4.mono ?_
          clear h4
          rintro e w4 ⟨rfl, hR, hg⟩
          have hR4 := hR
          have HG4 := Lib.hid (gb_trans HG3.out hg)
          clear hg hR
          go_wp2_with fail
          have hdl : (W ++ [48, 48, 48]).length ≤ 10 := by have := H7.out; simp; omega
          have hdd : ∀ c ∈ W ++ [48, 48, 48], St.dg c = true := fun c hc => (List.mem_append.1 hc).elim (HD.out c) (frac_dg HF.out c)
          have hN : St.dec (W ++ [48, 48, 48]) ≤ 10000000000 := by have h1 := dec_lt _ hdd; have h2 : (10 : Nat) ^ (W ++ [48, 48, 48]).length ≤ 10 ^ 10 := Nat.pow_le_pow_right (by decide) hdl; omega
          have h5 : Calls Tryd.prog 80 #[.string (tstr W ++ tstr [48, 48, 48])] w4 _ := (by have := ydec_any (W ++ [48, 48, 48]) w4 hdl hdd; rw [← tapp] at this; exact this)
          have HT := HT0.out ([48, 48, 48]) (r) (true) (HF.out)
          rw [if_pos (by rw [HI.out, decide_eq_true H7.out]; rfl)] at HT
          obtain ⟨N, hNe⟩ : ∃ N, St.dec (W ++ [48, 48, 48]) = N := ⟨_, rfl⟩
          rw [hNe] at h5 HT hN
          have hN2 : (N : Int) ≤ 10000000000 := by omega
          have HTT := Lib.hid HT
          clear HT hNe hdl hdd
          refine h5.mono ?_
          clear h5
          rintro e w9 ⟨rfl, rfl⟩
          go_wp2_with fail
          go_ret2
          rw [HTT.out]
          refine ⟨?_, hR4, HG4.out⟩
          exact ret2 rfl (congrArg Value.bool (by rw [Bool.eq_iff_iff]; simp; omega))
      · have h71 : ¬ (tstr W).size ≤ 7 := by rw [tsize]; exact h7
        have h72 : ¬ ((tstr W).size : Int) ≤ 7 := by omega
        have HZ := Lib.hid (show ∀ x : Bool, (!W.isEmpty && decide (W.length ≤ 7) && x) = false by rw [decide_eq_false h7]; intro x; simp)
        clear hz0 h7
        refine h3.mono ?_
        clear h3
        rintro e w3 ⟨rfl, hR, hg⟩
        have hR3 := hR
        have HG3 := Lib.hid (gb_trans HG2.out hg)
        clear hg hR
        go_wp2_with fail
        have h4 : Calls Tryd.prog 37 #[.pointer (some ⟨b, 0, none⟩), .string ⟨#[46]⟩] w3 _ := yskip_any b r [46] w3 hR3
        cases e4 : St.skip [46] r with
        | true =>
          rw [e4] at h4
          have HF := Lib.hid (frac_yes e4)
          clear e4
          obtain ⟨D, hD⟩ : ∃ D, (St.cutP [46] r).takeWhile St.dg = D := ⟨_, rfl⟩
          obtain ⟨r2, hr2⟩ : ∃ r2, (St.cutP [46] r).dropWhile St.dg = r2 := ⟨_, rfl⟩
          have HDl := Lib.hid (show D.length ≤ 20000 by rw [← hD]; exact Nat.le_trans (List.takeWhile_sublist _).length_le (Nat.le_trans (cutP_le _ _) hrl))
          have HDD := Lib.hid (hD ▸ tw_dg (St.cutP [46] r) : ∀ c ∈ D, St.dg c = true)
          have HF2 := Lib.hid (show St.frac r = ((D ++ [48, 48, 48]).take 3, !D.isEmpty, r2) by rw [HF.out, hD, hr2])
          have hrun : ∀ w, ScS w b (St.cutP [46] r) → Calls Tryd.prog 60 #[.pointer (some ⟨b, 0, none⟩), .func (.func 79) #[] #[]] w _ := fun w h => (by have := yrun_any 79 St.dg ent_dg asks_dg b (St.cutP [46] r) w (Nat.le_trans (cutP_le _ _) hrl) h; rw [hD, hr2] at this; exact this)
          clear hD hr2
          have hdl0 : (tstr D).size ≤ 20000 := by rw [tsize]; exact HDl.out
          have hdl1 : ((tstr D).size : Int) ≤ 20000 := by omega
          have hsz : (3 : Int) ≤ ((tstr D).size : Int) + 3 := by omega
          have hxf := tfrac D
          refine h4.mono ?_
          clear h4
          rintro e w4 ⟨rfl, hR, hg⟩
          have hR4 := hR
          have HG4 := Lib.hid (gb_trans HG3.out hg)
          clear hg hR
          go_wp2_with fail
          have h5 := hrun w4 hR4
          clear hrun
          refine h5.mono ?_
          clear h5
          rintro e w5 ⟨rfl, hR, hg⟩
          have hR5 := hR
          have HG5 := Lib.hid (gb_trans HG4.out hg)
          clear hg hR
          go_wp2_with fail
          all_goals first | (exfalso; simp only [Bool.not_eq_eq_eq_not, Bool.not_false, Bool.not_true, decide_eq_true_eq] at *; omega) | skip
          have HT := HT0.out ((D ++ [48, 48, 48]).take 3) (r2) ((!D.isEmpty)) (HF2.out)
          rw [if_neg (by rw [HZ.out (!D.isEmpty)]; decide)] at HT
          go_ret2
          rw [HT]
          exact ⟨rfl, hR5, HG5.out⟩
        | false =>
          rw [e4, cut_no e4] at h4
          have HF := Lib.hid (frac_not e4)
          clear e4
          refine h4.mono ?_
          clear h4
          rintro e w4 ⟨rfl, hR, hg⟩
          have hR4 := hR
          have HG4 := Lib.hid (gb_trans HG3.out hg)
          clear hg hR
          go_wp2_with fail
          all_goals first | (exfalso; simp only [Bool.not_eq_eq_eq_not, Bool.not_false, Bool.not_true, decide_eq_true_eq] at *; omega) | skip
          have HT := HT0.out ([48, 48, 48]) (r) (true) (HF.out)
          rw [if_neg (by rw [HZ.out true]; decide)] at HT
          go_ret2
          rw [HT]
          exact ⟨rfl, hR4, HG4.out⟩
end Go.Proofs.YtoiednecchbmnaaDoor
