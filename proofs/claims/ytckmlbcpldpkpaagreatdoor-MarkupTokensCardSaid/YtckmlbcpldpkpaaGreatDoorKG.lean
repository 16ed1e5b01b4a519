/- The program's Decoder as a part of a greater struct: what Feed and End return and leave. -/
import Derived.Test.YtckmlbcpldpkpaaGreatDoorKA
import Derived.Test.YtckmlbcpldpkpaaGreatDoorKC
import Derived.Test.YtckmlbcpldpkpaaGreatDoorKF
namespace Go.Proofs.YtckmlbcpldpkpaaGreatDoor
open Go.RowKit
set_option linter.unusedVariables false

set_option maxRecDepth 100000 in
set_option maxHeartbeats 1000000 in
theorem tfeedg_any (b : Nat) (cs : Array Value) (T : TypeId) (r : List UInt8) (s : ByteArray) (w : World) (hr : r.length ≤ 10) (hs : s.size ≤ 19000) (h : Whole w b cs T) (hcs : cs[0]? = some (.string (tstr r))) (hT : Lit w) :
    Calls Tryz.prog 40 #[.pointer (some ⟨b, 0, none⟩), .string s] w fun e w' =>
      ∃ l1 l2, r ++ s.data.toList = l1 ++ l2 ∧ Txt.Cut l1 l2 ∧ e = .returned (.string (tstr (Txt.rep l1))) ∧ Whole w' b (cs.setIfInBounds 0 (.string (tstr l2))) T ∧ w.grownBy w' (some b) := by
  have hbl : b < w.heap.size := Whole.lt h
  have hc : w.cell? ⟨b, 0, none⟩ = some (.string (tstr r)) := (Whole.cell h 0).trans hcs
  have hfz : w.frozen? ⟨b, 0, none⟩ = false := Whole.free h 0
  obtain ⟨A, hA⟩ : ∃ A, tstr r ++ s = A := ⟨_, rfl⟩
  have hrs : (tstr r).size = r.length := tstr_size r
  have hAs : A.size ≤ 19010 := by rw [← hA, ByteArray.size_append, hrs]; omega
  have hAd : A.data.toList = r ++ s.data.toList := by rw [← hA, ByteArray.data_append, Array.toList_append, tstr_data]
  have had : ∀ W : World, (Op.stringOp .add (tstr r) s).run Tryz.prog W = .ok (.string A) W := fun W => by rw [run_string_add_sum W _ _ (by omega), hA]
  have hAll : A.data.toList.length = A.size := rfl
  have hU := tunfinished_any A w (by omega) hT
  have HAd := Lib.hid hAd
  clear hA hAd
  go_enter Tryz.func40, Tryz.ntmps40
  go_wp2_with fail
  refine hU.mono ?_
  rintro e w1 ⟨⟨k, hk, hk3, rfl, hcut⟩, hb1⟩
  have HC := Lib.hid hcut
  obtain ⟨e1, e2⟩ := suffix_str A k hk
  obtain ⟨B, hB⟩ : ∃ B, A.extract (A.size - k) A.size = B := ⟨_, rfl⟩
  obtain ⟨D, hD⟩ : ∃ D, A.extract 0 (A.size - k) = D := ⟨_, rfl⟩
  have hDd : D.data.toList = A.data.toList.take (A.size - k) := by
    rw [← hD]
    have := textract A 0 (A.size - k)
    rw [Nat.zero_add, List.drop_zero] at this
    exact this
  have hDs : D.size = A.size - k := by rw [← hD, ByteArray.size_extract]; omega
  have hsl1 : ∀ W : World, (Instr.slice 9 (.string A) (some (.int .i64 ((A.size : Int) - (k : Int)))) none none).run Tryz.prog W = .ok (.string B) W := by
    intro W
    rw [run_slice_string_l (ht := Tryz.underlying9) (h0 := by omega) (h1 := by omega), show ((A.size : Int) - (k : Int)).toNat = A.size - k from by omega, hB]
  have hsl2 : ∀ W : World, (Instr.slice 9 (.string A) none (some (.int .i64 ((A.size : Int) - (k : Int)))) none).run Tryz.prog W = .ok (.string D) W := by
    intro W
    rw [run_slice_string_h (ht := Tryz.underlying9) (h0 := by omega) (h2 := by omega), show ((A.size : Int) - (k : Int)).toNat = A.size - k from by omega, hD]
  rw [hB] at e1 e2
  have HB := Lib.hid e1
  have HD := Lib.hid hDd
  have hsz1 := hb1.size
  clear hcut e1 hB hD hDd hU
  have hd1 : Whole w1 b cs T := Whole.below h hb1 hbl
  go_wp2_with fail
  refine (tclone_any B w1 (by omega)).mono ?_
  rintro e w2 ⟨rfl, hb2⟩
  have hd2 := hd1.below hb2 hd1.lt
  have hc2 : w2.cell? ⟨b, 0, none⟩ = some (.string (tstr r)) := (hd2.cell 0).trans hcs
  have hf2 : w2.frozen? ⟨b, 0, none⟩ = false := hd2.free 0
  have hb12 : Below w.heap.size w w2 := hb1.trans (hb2.mono hsz1)
  have hT2 : Lit w2 := hT.below hb12
  have hT3 : Lit (w2.setCell ⟨b, 0, none⟩ (.string B)) := by
    have hbc : ∀ a v, w2.cell? a = some v → (∀ t, v ≠ .string t) → (w2.setCell ⟨b, 0, none⟩ (.string B)).cell? a = some v := by
      intro a v ha hv
      rw [World.cell?_setCell_other _ _ _ _ (fun e => by subst e; rw [hc2] at ha; exact hv _ (Option.some.inj ha).symm)]
      exact ha
    exact ⟨fun c hc => hbc _ _ (hT2.1 c hc) (fun t e => by cases e), fun i hi => ⟨hbc _ _ (hT2.2 i hi).1 (fun t e => by cases e), hbc _ _ (hT2.2 i hi).2 (fun t e => by cases e)⟩⟩
  have hd3 : Whole (w2.setCell ⟨b, 0, none⟩ (.string B)) b (cs.setIfInBounds 0 (.string B)) T := Whole.put hd2 0 (.string B)
  clear hc hfz
  go_wp2_with fail
  refine (trepair_any D _ (by omega) hT3).mono ?_
  rintro e w4 ⟨rfl, hb4⟩
  go_wp2_with fail
  go_ret
  refine ⟨A.data.toList.take (A.size - k), A.data.toList.drop (A.size - k), ?_, HC.out, ?_, ?_, grown_of hb12 hbl hb4⟩
  · rw [← HAd.out, List.take_append_drop]
  · rw [HD.out]; rfl
  · have := hd3.below hb4 hd3.lt
    rw [← tstr_of B, HB.out] at this
    exact this

set_option maxHeartbeats 1000000 in
theorem tendg_any (b : Nat) (cs : Array Value) (T : TypeId) (r : List UInt8) (w : World) (hr : r.length ≤ 10) (h : Whole w b cs T) (hcs : cs[0]? = some (.string (tstr r))) (hT : Lit w) :
    Calls Tryz.prog 41 #[.pointer (some ⟨b, 0, none⟩)] w fun e w' => e = .returned (.string (tstr (Txt.rep r))) ∧ Whole w' b (cs.setIfInBounds 0 (.string ⟨#[]⟩)) T ∧ w.grownBy w' (some b) := by
  have hbl : b < w.heap.size := Whole.lt h
  have hc : w.cell? ⟨b, 0, none⟩ = some (.string (tstr r)) := (Whole.cell h 0).trans hcs
  have hfz : w.frozen? ⟨b, 0, none⟩ = false := Whole.free h 0
  have hR := trepair_any (tstr r) w (by rw [tstr_size]; omega) hT
  rw [tstr_data] at hR
  go_enter Tryz.func41, Tryz.ntmps41
  go_wp2_with fail
  refine hR.mono ?_
  rintro e w2 ⟨rfl, hb2⟩
  have hd2 := Whole.below h hb2 hbl
  have hc2 : w2.cell? ⟨b, 0, none⟩ = some (.string (tstr r)) := (Whole.cell hd2 0).trans hcs
  have hf2 : w2.frozen? ⟨b, 0, none⟩ = false := Whole.free hd2 0
  have hd3 : Whole (w2.setCell ⟨b, 0, none⟩ (.string ⟨#[]⟩)) b (cs.setIfInBounds 0 (.string ⟨#[]⟩)) T := Whole.put hd2 0 (.string ⟨#[]⟩)
  clear hc hfz
  go_wp2_with fail
  go_ret
  exact ⟨rfl, hd3, grown_of hb2 hbl (Below.refl _ _)⟩

end Go.Proofs.YtckmlbcpldpkpaaGreatDoor

/- The program's add leaves what the plain text says. -/
namespace Go.Proofs.YtckmlbcpldpkpaaGreatDoor
open Go Go.RowKit
set_option linter.unusedVariables false

/-- The last character was a carriage return. -/
def crS (ret : Bool) (s : List UInt8) : Bool := if s = [] then ret else [13].isSuffixOf s
theorem crS_cons (ret : Bool) (c : UInt8) (r : List UInt8) : crS ret (c :: r) = crS (c == 13) r := by
  unfold crS
  rw [if_neg (List.cons_ne_nil _ _)]
  by_cases hr : r = []
  · subst hr
    rw [if_pos rfl, Bool.eq_iff_iff, List.isSuffixOf_iff_suffix, beq_iff_eq]
    constructor
    · intro h
      have := h.eq_of_length rfl
      have : (13 : UInt8) = c := by simpa using this
      exact this.symm
    · intro h; rw [h]; exact List.suffix_refl _
  · rw [if_neg hr, Bool.eq_iff_iff, List.isSuffixOf_iff_suffix, List.isSuffixOf_iff_suffix]
    constructor
    · intro h
      rcases List.suffix_cons_iff.1 h with h | h
      · have := congrArg List.length h
        simp only [List.length_cons, List.length_nil] at this
        exact absurd (List.length_eq_zero_iff.1 (by omega)) hr
      · exact h
    · intro h; exact h.trans (List.suffix_cons _ _)
theorem newl_cons (p : Bool) (c : UInt8) (r : List UInt8) : Txt.newl p (c :: r) = if c = 10 ∧ p = true then Txt.newl false r else (if c = 13 then 10 else c) :: Txt.newl (c == 13) r := rfl
theorem newl_app : ∀ (a : List UInt8) (p : Bool) (b : List UInt8), Txt.newl p (a ++ b) = Txt.newl p a ++ Txt.newl (crS p a) b := by
  intro a
  induction a with
  | nil => intro p b; rfl
  | cons c r ih =>
    intro p b
    rw [List.cons_append, crS_cons, newl_cons, newl_cons]
    by_cases h : c = 10 ∧ p = true
    · rw [if_pos h, if_pos h, ih, h.1]; rfl
    · rw [if_neg h, if_neg h, ih]; rfl
theorem crS_app (p : Bool) : ∀ (a b : List UInt8), crS p (a ++ b) = crS (crS p a) b := by
  intro a
  induction a generalizing p with
  | nil => intro b; rfl
  | cons c r ih => intro b; rw [List.cons_append, crS_cons, crS_cons, ih]
/-- Behind a carriage return a line feed is left out. -/
theorem newl_trim (s : List UInt8) : Txt.newl false (Lib.trimPrefix s [10]) = Txt.newl true s := by
  cases s with
  | nil => rfl
  | cons c r =>
    unfold Lib.trimPrefix Lib.hasPrefix
    by_cases h : c = 10
    · subst h
      rw [if_pos (by simp [List.isPrefixOf])]
      show Txt.newl false r = Txt.newl true (10 :: r)
      rw [newl_cons, if_pos ⟨rfl, rfl⟩]
    · rw [if_neg (by simp [List.isPrefixOf]; exact fun e => h e.symm)]
      have h1 : ¬ (c = 10 ∧ false = true) := fun x => by cases x.2
      have h2 : ¬ (c = 10 ∧ true = true) := fun x => h x.1
      rw [newl_cons, newl_cons, if_neg h1, if_neg h2]
theorem TZ.put {w : World} {b : Nat} {d rest raw : List UInt8} {ret : Bool} (h : TZ w b d rest raw ret) (r : List UInt8) (k : Bool) :
    TZ ((w.setCell ⟨b, 1, none⟩ (.string (tstr r))).setCell ⟨b, 3, none⟩ (.bool k)) b d r raw k := whole_put (whole_put (cs := #[.string (tstr d), .string (tstr rest), .string (tstr raw), .bool ret]) h 1 _ rfl) 3 _ rfl
theorem TZ.put1 {w : World} {b : Nat} {d rest raw : List UInt8} {ret : Bool} (h : TZ w b d rest raw ret) (r : List UInt8) : TZ (w.setCell ⟨b, 1, none⟩ (.string (tstr r))) b d r raw ret := whole_put (cs := #[.string (tstr d), .string (tstr rest), .string (tstr raw), .bool ret]) h 1 _ rfl
theorem TZ.put3 {w : World} {b : Nat} {d rest raw : List UInt8} {ret : Bool} (h : TZ w b d rest raw ret) (k : Bool) : TZ (w.setCell ⟨b, 3, none⟩ (.bool k)) b d rest raw k := whole_put (cs := #[.string (tstr d), .string (tstr rest), .string (tstr raw), .bool ret]) h 3 _ rfl

set_option maxRecDepth 100000 in
set_option maxHeartbeats 4000000 in
theorem kadd_any (b : Nat) (d rest raw s : List UInt8) (ret : Bool) (w : World) (hM : MaxLen w) (h : TZ w b d rest raw ret) (hs : s.length ≤ 15000) (hr : rest.length + s.length ≤ 20000) :
    Calls Tryz.prog 39 #[.pointer (some ⟨b, 0, none⟩), .string (tstr s)] w fun e w' => e = .returned (.tuple #[]) ∧ TZ w' b d (rest ++ Txt.newl ret s) raw (crS ret s) ∧ w.grownBy w' (some b) := by
  by_cases hz : s = []
  · subst hz
    have hem := tstr_none.1
    have HT := Lib.hid (show TZ w b d (rest ++ Txt.newl ret []) raw (crS ret []) by
      rw [show Txt.newl ret [] = [] from rfl, List.append_nil]; exact h)
    clear h
    generalize tstr [] = S at hem
    go_enter Tryz.func39, Tryz.ntmps39
    go_wp2_with fail
    first | (go_end0; exact ⟨rfl, HT.out, gb_of_below (Below.refl _ _) _⟩) | ((try simp only [Exit.inBlock, Exit.then]); exact bodyPost_ret (results_none rfl _ _ _) rfl ⟨rfl, HT.out, gb_of_below (Below.refl _ _) _⟩)
  · obtain ⟨hem, _⟩ := tstr_some hz
    have hnl := Txt.newl_len ret s
    have hcr : crS ret s = [13].isSuffixOf s := if_neg hz
    have hsf := fun W => Tryz.hasSuffix (tstr s) ⟨#[13]⟩ W (by rw [tstr_size]; omega)
    simp only [tstr_data, show Lib.hasSuffix s [13] = [13].isSuffixOf s from rfl] at hsf
    rw [← hcr] at hsf
    obtain ⟨L, hL⟩ : ∃ L, Txt.newl ret s = L := ⟨_, rfl⟩
    rw [hL] at hnl
    have hadd : ∀ W : World, (Op.stringOp .add (tstr rest) (tstr L)).run Tryz.prog W = .ok (.string (tstr (rest ++ L))) W := fun W => by
      rw [run_string_add_sum W _ _ (by rw [tstr_size, tstr_size]; omega), tstr_append]
    obtain ⟨y0, y1, y2, y3⟩ := h.cells
    obtain ⟨x0, x1, x2, x3⟩ := h.frees
    -- behind the call: what lay lies, and the stores
    have hafter : ∀ w2 : World, Below w.drew.heap.size w.drew w2 → TZ w2 b d rest raw ret ∧ w2.cell? ⟨b, 1, none⟩ = some (.string (tstr rest)) ∧ w2.frozen? ⟨b, 1, none⟩ = false ∧ (w2.setCell ⟨b, 1, none⟩ (.string (tstr (rest ++ L)))).cell? ⟨b, 3, none⟩ = some (.bool ret) ∧ (w2.setCell ⟨b, 1, none⟩ (.string (tstr (rest ++ L)))).frozen? ⟨b, 3, none⟩ = false ∧
        TZ ((w2.setCell ⟨b, 1, none⟩ (.string (tstr (rest ++ L)))).setCell ⟨b, 3, none⟩ (.bool (crS ret s))) b d (rest ++ L) raw (crS ret s) ∧ w.grownBy ((w2.setCell ⟨b, 1, none⟩ (.string (tstr (rest ++ L)))).setCell ⟨b, 3, none⟩ (.bool (crS ret s))) (some b) := fun w2 hb => by
      have hT2 : TZ w2 b d rest raw ret := Whole.below (B := w.drew.heap.size) (show TZ w.drew b d rest raw ret from h) hb (Whole.lt h)
      have hT3 := hT2.put1 (rest ++ L)
      have hg : w.grownBy w2 (some b) := ⟨hb.os, hb.tape, hb.output, hb.size, fun k hk _ => hb.block k hk⟩
      exact ⟨hT2, hT2.cells.2.1, hT2.frees.2.1, hT3.cells.2.2.2, hT3.frees.2.2.2, hT3.put3 _, gb_put (gb_put hg 1 _) 3 _⟩
    have HL := Lib.hid hL
    have HAF := Lib.hid hafter
    have hMd : MaxLen w.drew := hM
    clear hz hafter hL hcr h
    cases ret with
    | true =>
      have htp := fun W => Tryz.trimPrefix (tstr s) ⟨#[10]⟩ W
      simp only [tstr_data] at htp
      have htl : (Lib.trimPrefix s [10]).length ≤ s.length := by
        unfold Lib.trimPrefix
        split
        · rw [List.length_drop]; omega
        · exact Nat.le_refl _
      have hnw := tnewlines_any (tstr (Lib.trimPrefix s [10])) w.drew (by rw [tstr_size]; omega) hMd
      rw [tstr_data, newl_trim, HL.out] at hnw
      have htp2 : Calls Tryz.prog 55 #[.string (tstr s), .string ⟨#[10]⟩] w.drew fun e w' => e = .returned (.string (tstr (Lib.trimPrefix s [10]))) ∧ w' = w.drew := htp _
      clear htp htl hMd hM
      generalize tstr (Lib.trimPrefix s [10]) = P at htp2 hnw
      obtain ⟨S, hS⟩ : ∃ S, tstr s = S := ⟨_, rfl⟩
      rw [hS] at hem hsf htp2 ⊢
      clear hS
      have HTP := Lib.hid htp2
      have HNW := Lib.hid hnw
      clear htp2 hnw
      generalize tstr L = N9 at hadd HNW
      go_enter Tryz.func39, Tryz.ntmps39
      go_wp2_with fail
      go_region_with (first
        | (go_at_call 55; refine HTP.out.mono ?_; rintro e w9 ⟨rfl, rfl⟩)
        | (go_at_call 54; refine HNW.out.mono ?_; rintro e w2 ⟨rfl, hb2⟩; obtain ⟨hT2, z1, z2, z3, z4, hT3, hG3⟩ := HAF.out w2 hb2; have HT3 := Lib.hid hT3; have HG3 := Lib.hid hG3; clear hT2 hT3 hG3 hb2))
      all_goals
        go_wp2_with fail
        refine (hsf _).mono ?_
        rintro e w9 ⟨rfl, rfl⟩
        go_wp2_with fail
        exact bodyPost_end (results_none rfl _ _ _) rfl ⟨rfl, by rw [HL.out]; exact HT3.out, HG3.out⟩
    | false =>
      have hnw := tnewlines_any (tstr s) w.drew (by rw [tstr_size]; omega) hMd
      rw [tstr_data, HL.out] at hnw
      clear hMd hM
      generalize tstr s = S at hem hsf hnw
      have HNW := Lib.hid hnw
      clear hnw
      generalize tstr L = N9 at hadd HNW
      go_enter Tryz.func39, Tryz.ntmps39
      go_wp2_with fail
      go_region_with (first
        | (go_at_call 54; refine HNW.out.mono ?_; rintro e w2 ⟨rfl, hb2⟩; obtain ⟨hT2, z1, z2, z3, z4, hT3, hG3⟩ := HAF.out w2 hb2; have HT3 := Lib.hid hT3; have HG3 := Lib.hid hG3; clear hT2 hT3 hG3 hb2))
      all_goals
        go_wp2_with fail
        refine (hsf _).mono ?_
        rintro e w9 ⟨rfl, rfl⟩
        go_wp2_with fail
        exact bodyPost_end (results_none rfl _ _ _) rfl ⟨rfl, by rw [HL.out]; exact HT3.out, HG3.out⟩

end Go.Proofs.YtckmlbcpldpkpaaGreatDoor

/- The program's Feed leaves what the plain text says. -/
namespace Go.Proofs.YtckmlbcpldpkpaaGreatDoor
open Go Go.RowKit
set_option linter.unusedVariables false

theorem cut_rep {l l1 l2 : List UInt8} (h : l = l1 ++ l2) (hc : Txt.Cut l1 l2) : Txt.rep l = Txt.rep l1 ++ Txt.rep l2 := by
  have := Txt.rep_cut (x := []) hc
  rw [List.append_nil] at this
  rw [h, this]
theorem cut_len {l1 l2 : List UInt8} (hc : Txt.Cut l1 l2) : l2.length ≤ 3 := by
  rcases hc.1 with h | h
  · rw [h]; exact Nat.zero_le _
  · exact (Txt.beg_len h).2

set_option maxRecDepth 100000 in
set_option maxHeartbeats 2000000 in
theorem kfeed_any (b : Nat) (d rest raw : List UInt8) (ret : Bool) (s : ByteArray) (w : World) (hE : ∀ w', w.grownBy w' (some b) → Env w') (h : TZ w b d rest raw ret) (hd : d.length ≤ 10) (hs : s.size ≤ 15000)
    (hrep : (Txt.rep (d ++ s.data.toList)).length ≤ 15000) (hr : rest.length + (Txt.rep (d ++ s.data.toList)).length ≤ 20000) :
    Calls Tryz.prog 26 #[.pointer (some ⟨b, 0, none⟩), .string s] w fun e w' => ∃ l1 l2, e = .returned (.tuple #[]) ∧ d ++ s.data.toList = l1 ++ l2 ∧ Txt.Cut l1 l2 ∧ TZ w' b l2 (rest ++ Txt.newl ret (Txt.rep l1)) raw (crS ret (Txt.rep l1)) ∧ w.grownBy w' (some b) := by
  have hf := tfeedg_any b _ _ d s w hd (by omega) h rfl (hE w (gb_of_below (Below.refl _ _) _)).lit
  have HE := Lib.hid (And.intro hE (And.intro hrep hr))
  clear hE hrep hr h
  go_enter Tryz.func26, Tryz.ntmps26
  go_wp2_with fail
  refine hf.mono ?_
  clear hf
  rintro e w2 ⟨l1, l2, hcat, hcut, rfl, hT2, hg2⟩
  have hrl := congrArg List.length (cut_rep hcat hcut)
  rw [List.length_append] at hrl
  have hT2' : TZ w2 b l2 rest raw ret := hT2
  have ha := kadd_any b l2 rest raw (Txt.rep l1) ret w2 (HE.out.1 w2 hg2).max hT2' (by have := HE.out.2.1; omega) (by have := HE.out.2.2; omega)
  have HC := Lib.hid (And.intro hcat (And.intro hcut hg2))
  clear hrl hT2 hT2' hcat hcut hg2
  generalize tstr (Txt.rep l1) = S at ha
  go_wp2_with fail
  refine ha.mono ?_
  clear ha
  rintro e w3 ⟨rfl, hT3, hg3⟩
  go_wp2_with fail
  exact bodyPost_end (results_none rfl _ _ _) rfl ⟨l1, l2, rfl, HC.out.1, HC.out.2.1, hT3, gb_trans HC.out.2.2 hg3⟩

end Go.Proofs.YtckmlbcpldpkpaaGreatDoor

/- The program's Finish and Tokens return what the plain text says. -/
namespace Go.Proofs.YtckmlbcpldpkpaaGreatDoor
open Go Go.RowKit
set_option linter.unusedVariables false

/-- Tokens as the cells of a row; each one with the value of its attributes. -/
def tcells (l : List (Mk.Tok × Value)) : List Value := l.flatMap fun p => [.int .i64 p.1.kind, .string (tstr p.1.name), p.2, .bool p.1.closed, .string (tstr p.1.text)]
theorem tcells_append (l m : List (Mk.Tok × Value)) : tcells (l ++ m) = tcells l ++ tcells m := by simp [tcells]
theorem tcells_get : ∀ (l : List (Mk.Tok × Value)) (i : Nat) (h : i < l.length), (tcells l)[i * 5]? = some (.int .i64 l[i].1.kind) ∧ (tcells l)[i * 5 + 1]? = some (.string (tstr l[i].1.name)) ∧ (tcells l)[i * 5 + 2]? = some l[i].2 ∧ (tcells l)[i * 5 + 3]? = some (.bool l[i].1.closed) ∧ (tcells l)[i * 5 + 4]? = some (.string (tstr l[i].1.text)) := by
  intro l
  induction l with
  | nil => intro i h; simp at h
  | cons p r ih =>
    intro i h
    have e : tcells (p :: r) = [.int .i64 p.1.kind, .string (tstr p.1.name), p.2, .bool p.1.closed, .string (tstr p.1.text)] ++ tcells r := rfl
    cases i with
    | zero => exact ⟨rfl, rfl, rfl, rfl, rfl⟩
    | succ i =>
      obtain ⟨h1, h2, h3, h4, h5⟩ := ih i (by simpa using h)
      refine ⟨?_, ?_, ?_, ?_, ?_⟩
      · rw [e, show (i + 1) * 5 = i * 5 + 5 from by omega]; exact h1
      · rw [e, show (i + 1) * 5 + 1 = (i * 5 + 1) + 5 from by omega]; exact h2
      · rw [e, show (i + 1) * 5 + 2 = (i * 5 + 2) + 5 from by omega]; exact h3
      · rw [e, show (i + 1) * 5 + 3 = (i * 5 + 3) + 5 from by omega]; exact h4
      · rw [e, show (i + 1) * 5 + 4 = (i * 5 + 4) + 5 from by omega]; exact h5
/-- A row of tokens of the call's own, and their rows of attributes. -/
def TRow (w : World) (base : Nat) (v : Value) (l : List (Mk.Tok × Value)) : Prop :=
  w.ownsRow base 30 5 v l.length (tcells l) ∧ ∀ p ∈ l, ARow 39 w base p.2 p.1.attrs
section
variable {w w' : World} {base : Nat} {v : Value} {l : List (Mk.Tok × Value)}
theorem TRow.nil (w : World) (base : Nat) : TRow w base (.slice none 0 0) [] := ⟨World.ownsRow_nil _ _ _ _, fun p hp => by cases hp⟩
theorem TRow.form (h : TRow w base v l) : ∃ A c, v = .slice A l.length c := by
  rcases h.1.2 with ⟨rfl, hn⟩ | ⟨g, cap, cur, rfl, _⟩
  · exact ⟨none, 0, by rw [hn]⟩
  · exact ⟨_, _, rfl⟩
theorem TRow.grown {b : Nat} {cs : Array Value} {T : TypeId} (h : TRow w base v l) (hg : w.grownBy w' (some b)) (hb : Whole w b cs T) (h1 : 30 ≠ T) (h2 : 39 ≠ T) : TRow w' base v l := by
  refine ⟨h.1.kept hg (.inr ?_), fun p hp => (h.2 p hp).grown hg (.inr ((h.2 p hp).apart hb h2))⟩
  rcases h.1.2 with ⟨rfl, _⟩ | ⟨g, cap, cur, rfl, _, hg', _⟩
  · simp [Value.ownBlock]
  · intro e
    have e' : g = b := by simpa [Value.ownBlock] using e
    exact Whole.unlike (cs := cur) (t := 30) (show Whole w g cur _ from hg') hb h1 e'
/-- A block of the same type that the row is not. -/
theorem TRow.grownT {b : Nat} {cs : Array Value} (h : TRow w base v l) (hg : w.grownBy w' (some b)) (hb : Whole w b cs 30) (hn : v.ownBlock ≠ some b) : TRow w' base v l :=
  ⟨h.1.kept hg (.inr hn), fun p hp => (h.2 p hp).grown hg (.inr ((h.2 p hp).apart hb (by decide)))⟩
theorem TRow.alloc (h : TRow w base v l) (o : Obj) : TRow (w.alloc o) base v l := ⟨World.ownsRow.alloc h.1 o, fun p hp => (h.2 p hp).alloc o⟩
theorem TRow.below (h : TRow w base v l) (hb : Below w.heap.size w w') : TRow w' base v l := by
  refine ⟨⟨h.1.1, ?_⟩, fun p hp => (h.2 p hp).below hb⟩
  rcases h.1.2 with hn | ⟨g, cap, cur, rfl, h1, hg, rest⟩
  · exact .inl hn
  · exact .inr ⟨g, cap, cur, rfl, h1, (hb.block g (lt_of_block hg)).trans hg, rest⟩
theorem TRow.lt (h : TRow w base v l) (b : Nat) (hb : v.ownBlock = some b) : base ≤ b ∧ b < w.heap.size := World.ownsRow.lt h.1 b hb
/-- The attributes' rows are none of the tokens'. -/
theorem ARow.unrow {T : TypeId} {sl : Value} {at9 : List (List UInt8 × List UInt8)} {e : TypeId} {n k : Nat} {xs : List Value} (h : ARow T w base sl at9) (hr : w.ownsRow base e k v n xs) (hn : T ≠ e) : sl.ownBlock = none ∨ sl.ownBlock ≠ v.ownBlock := by
  rcases hr.2 with ⟨rfl, _⟩ | ⟨g, cap, cur, rfl, _, hg, _⟩
  · by_cases h0 : sl.ownBlock = none
    · exact .inl h0
    · right; intro e; exact h0 (by rw [e]; rfl)
  · right
    show sl.ownBlock ≠ some g
    exact h.apart (show Whole w g cur e from hg) hn
end
theorem tokInfo : (Tryz.prog.info? 30).map (fun i => (i.zero, i.size, i.bytes)) = some (some (.agg #[.int .i64 0, .string ByteArray.empty, .slice none 0 0, .bool false, .string ByteArray.empty]), 5, 72) := by kernel_rfl

/-- What the loop of Finish works with. -/
structure FnS (w W : World) (b bt : Nat) (rest raw : List UInt8) (ret : Bool) (v : Value) (l : List (Mk.Tok × Value)) (o : Option Mk.Tok) (sl : Value) : Prop where
  tz : TZ W b [] rest raw ret
  tok : Whole W bt #[.int .i64 (o.getD Mk.zeroTok).kind, .string (tstr (o.getD Mk.zeroTok).name), sl, .bool (o.getD Mk.zeroTok).closed, .string (tstr (o.getD Mk.zeroTok).text)] 30
  row : TRow W w.heap.size v l
  at9 : ARow 39 W w.heap.size sl (o.getD Mk.zeroTok).attrs
  ne : v.ownBlock ≠ some bt
  gb : w.grownBy W (some b)
  new : w.heap.size ≤ bt
  old : b < w.heap.size
/-- What is still to be told, a token that has been read ahead of the rest. -/
def restT (o : Option Mk.Tok) (raw rest : List UInt8) : List Mk.Tok :=
  match o with
  | none => []
  | some t => t :: (Mk.toks true raw rest).1
theorem restT_of {raw rest r' s' : List UInt8} {o : Option Mk.Tok} (h : Mk.nxt true raw rest = (o, r', s')) : (Mk.toks true raw rest).1 = restT o r' s' ∧ s'.length + (if o.isSome then 1 else 0) ≤ rest.length := by
  have h1 := Mk.nxt_toks true rest.length raw rest (Nat.le_refl _)
  rw [h] at h1
  cases o with
  | none => exact ⟨by rw [h1.1]; rfl, by have := h1.2; simp only [Option.isSome_none, Bool.false_eq_true, if_false]; omega⟩
  | some t => exact ⟨by rw [h1.1]; rfl, by have := h1.2; simp only [Option.isSome_some, if_true]; omega⟩
theorem TZ.zero {w : World} {b : Nat} {d rest raw : List UInt8} {ret : Bool} (h : TZ w b d rest raw ret) :
    TZ ((((w.setCell ⟨b, 0, none⟩ (.string ⟨#[]⟩)).setCell ⟨b, 1, none⟩ (.string ⟨#[]⟩)).setCell ⟨b, 2, none⟩ (.string ⟨#[]⟩)).setCell ⟨b, 3, none⟩ (.bool false)) b [] [] [] false ∧
    w.grownBy ((((w.setCell ⟨b, 0, none⟩ (.string ⟨#[]⟩)).setCell ⟨b, 1, none⟩ (.string ⟨#[]⟩)).setCell ⟨b, 2, none⟩ (.string ⟨#[]⟩)).setCell ⟨b, 3, none⟩ (.bool false)) (some b) :=
  ⟨whole_put (whole_put (whole_put (whole_put (cs := #[.string (tstr d), .string (tstr rest), .string (tstr raw), .bool ret]) h 0 _ rfl) 1 _ rfl) 2 _ rfl) 3 _ rfl,
   gb_put (gb_put (gb_put (gb_put (gb_of_below (Below.refl _ _) _) 0 _) 1 _) 2 _) 3 _⟩
/-- Behind an append of the token that was read. -/
theorem FnS.push {w W W5 : World} {b bt : Nat} {rest raw : List UInt8} {ret : Bool} {v v2 : Value} {l : List (Mk.Tok × Value)} {T : Mk.Tok} {sl : Value} {o : Obj}
    (h : FnS w W b bt rest raw ret v l (some T) sl) (ho : W5.ownsRow w.heap.size 30 5 v2 (l.length + 1) (tcells (l ++ [(T, sl)]))) (hg : (W.alloc o).grownBy W5 v.ownBlock) :
    TZ W5 b [] rest raw ret ∧ Whole W5 bt #[.int .i64 T.kind, .string (tstr T.name), sl, .bool T.closed, .string (tstr T.text)] 30 ∧ TRow W5 w.heap.size v2 (l ++ [(T, sl)]) ∧ w.grownBy W5 (some b) := by
  have hz : Whole W b #[.string (tstr []), .string (tstr rest), .string (tstr raw), .bool ret] 47 := h.tz
  have hnb : v.ownBlock ≠ some b := by
    rcases h.row.1.2 with ⟨rfl, _⟩ | ⟨g, cap, cur, rfl, _, hg', _⟩
    · simp [Value.ownBlock]
    · intro e
      have e' : g = b := by simpa [Value.ownBlock] using e
      exact Whole.unlike (cs := cur) (t := 30) (show Whole W g cur _ from hg') hz (by decide) e'
  refine ⟨Whole.grown (Whole.alloc hz o) hg (fun e => hnb e.symm), (h.tok.alloc o).grown hg (fun e => h.ne e.symm), ⟨by rw [List.length_append]; exact ho, fun p hp => ?_⟩, ?_⟩
  · have hrow := World.ownsRow.alloc h.row.1 o
    rcases List.mem_append.1 hp with hp | hp
    · have ha := (h.row.2 p hp).alloc o
      exact ha.grown hg (ha.unrow hrow (by decide))
    · obtain rfl : p = (T, sl) := by simpa using hp
      have ha := h.at9.alloc o
      exact ha.grown hg (ha.unrow hrow (by decide))
  · have h1 := gb_alloc h.gb o
    refine ⟨hg.os.trans h1.os, hg.tape.trans h1.tape, hg.output.trans h1.output, Nat.le_trans h1.size hg.size, fun k hk hn => (hg.block k (Nat.lt_of_lt_of_le hk h1.size) ?_).trans (h1.block k hk hn)⟩
    intro e
    have := (h.row.lt k e.symm).1
    omega
theorem nxt_raw {c : Bool} : ∀ (n : Nat) (raw s : List UInt8), s.length ≤ n → raw.length ≤ 100 → (Mk.nxt c raw s).2.1.length ≤ 100 := by
  intro n
  induction n with
  | zero =>
    intro raw s hl hr
    rw [Mk.nxt_stop (.inl (List.length_eq_zero_iff.1 (by omega)))]; exact hr
  | succ n ih =>
    intro raw s hl hr
    by_cases h0 : s = []
    · rw [Mk.nxt_stop (.inl h0)]; exact hr
    by_cases hz : (Mk.rd raw c s).2 = 0
    · rw [Mk.nxt_stop (.inr hz)]; exact hr
    have hlt := Mk.step_lt' h0 hz
    cases ht : (Mk.rd raw c s).1 with
    | none => rw [Mk.nxt_none h0 hz ht]; exact ih _ _ (by omega) hr
    | some t =>
      rw [Mk.nxt_some h0 hz ht]
      show (Mk.adv raw t).length ≤ 100
      unfold Mk.adv
      repeat' split
      · rename_i h; have := rawish_len h; omega
      · exact hr
      · exact Nat.zero_le _
      · exact hr

set_option maxRecDepth 100000 in
set_option maxHeartbeats 4000000 in
theorem kfinish_any (b : Nat) (d rest raw : List UInt8) (ret : Bool) (w : World) (hE : ∀ w', w.grownBy w' (some b) → Env w') (h : TZ w b d rest raw ret) (hd : d.length ≤ 10) (hrw : raw.length ≤ 100)
    (hrep : (Txt.rep d).length ≤ 15000) (hr : rest.length + (Txt.rep d).length ≤ 20000) :
    Calls Tryz.prog 27 #[.pointer (some ⟨b, 0, none⟩)] w fun e w' => ∃ v l, e = .returned v ∧ l.map Prod.fst = (Mk.toks true raw (rest ++ Txt.newl ret (Txt.rep d))).1 ∧ TRow w' w.heap.size v l ∧ TZ w' b [] [] [] false ∧ w.grownBy w' (some b) := by
  obtain ⟨i0, hi0, hz0, hz1, hz2⟩ := info_parts tokInfo
  have hend := tendg_any b _ _ d w hd h rfl (hE w (gb_of_below (Below.refl _ _) _)).lit
  have HE := Lib.hid (And.intro hE (And.intro hrep hr))
  have hbl := Whole.lt h
  have hnl := Txt.newl_len ret (Txt.rep d)
  obtain ⟨rest1, hrest1⟩ : ∃ x, rest ++ Txt.newl ret (Txt.rep d) = x := ⟨_, rfl⟩
  rw [hrest1]
  have hl1 : rest1.length ≤ 20000 := by
    have h1 := congrArg List.length hrest1
    rw [List.length_append] at h1
    omega
  have HR1 := Lib.hid hrest1
  clear hE hrep hr h hrest1 hnl
  go_enter Tryz.func27, Tryz.ntmps27
  go_wp2_with fail
  refine hend.mono ?_
  clear hend
  rintro e w2 ⟨rfl, hT2, hg2⟩
  have hT2' : TZ w2 b [] rest raw ret := hT2
  have ha := kadd_any b [] rest raw (Txt.rep d) ret w2 (HE.out.1 w2 hg2).max hT2' HE.out.2.1 HE.out.2.2
  have HG2 := Lib.hid hg2
  clear hT2 hT2' hg2
  generalize crS ret (Txt.rep d) = ret2 at ha
  rw [HR1.out] at ha
  generalize tstr (Txt.rep d) = S at ha
  go_wp2_with fail
  refine ha.mono ?_
  clear ha
  rintro e w3 ⟨rfl, hT3, hg3⟩
  have hG3 := gb_trans HG2.out hg3
  have hnx := knext_any b [] rest1 raw ret2 true w3 (fun w' hg => HE.out.1 w' (gb_trans hG3 hg)) hT3 hl1 hrw
  have HNR := Lib.hid (nxt_raw (c := true) rest1.length raw rest1 (Nat.le_refl _) hrw)
  have HG3 := Lib.hid hG3
  clear hT3 hg3 HG2 hG3
  obtain ⟨⟨o4, raw4, rest4⟩, hx4⟩ : ∃ x, Mk.nxt true raw rest1 = x := ⟨_, rfl⟩
  rw [hx4] at hnx HNR
  have HNT := Lib.hid (restT_of hx4)
  clear hx4
  go_wp2_with fail
  refine hnx.mono ?_
  clear hnx
  rintro e w4 ⟨v4, rfl, ⟨sl4, hA4, hT4, rfl⟩, hg4⟩
  simp only at hA4 hT4
  have hG4 := gb_trans HG3.out hg4
  have hA4 := hA4.mono' (base' := w.heap.size) HG3.out.size
  obtain ⟨A4, cp4, rfl⟩ := hA4.form
  have hS4 : FnS w (w4.alloc (.cells #[.int .i64 (o4.getD Mk.zeroTok).kind, .string (tstr (o4.getD Mk.zeroTok).name), .slice A4 (o4.getD Mk.zeroTok).attrs.length cp4, .bool (o4.getD Mk.zeroTok).closed, .string (tstr (o4.getD Mk.zeroTok).text)] 30)) b w4.heap.size rest4 raw4 ret2 (.slice none 0 0) [] o4 (.slice A4 (o4.getD Mk.zeroTok).attrs.length cp4) :=
    ⟨Whole.alloc hT4 _, Whole.new _ _ _, TRow.nil _ _, hA4.alloc _, by simp [Value.ownBlock], gb_alloc hG4 _, hG4.size, hbl⟩
  have HS4 := Lib.hid hS4
  clear hA4 hT4 hg4 hG4 HG3 hS4
  unfold tokT
  simp only
  go_wp2_with fail
  have HIN := Lib.hid (And.intro HNT.out HNR.out)
  clear HNT HNR
  go_loopg [3, 4, 5] (20001) (fun gg v3 v5p v5 wr => ∃ (bt : Nat) (rk rw' : List UInt8) (l : List (Mk.Tok × Value)) (o : Option Mk.Tok) (sl : Value), v5p = .pointer (some ⟨bt, 0, none⟩) ∧ v5 = .bool o.isSome ∧ FnS w wr b bt rk rw' ret2 v3 l o sl ∧
    (Mk.toks true raw rest1).1 = l.map Prod.fst ++ restT o rw' rk ∧ l.length + (if o.isSome then 1 else 0) + rk.length ≤ 20000 ∧ rw'.length ≤ 100 ∧ rk.length + (if o.isSome then 1 else 0) ≤ gg)
  case atStart => exact ⟨w4.heap.size, rest4, raw4, [], o4, _, rfl, rfl, HS4.out, HIN.out.1.1, by have := HIN.out.1.2; simp only [List.length_nil]; omega, HIN.out.2, by have := HIN.out.1.2; omega⟩
  case round =>
    clear HS4 HIN
    obtain ⟨bt, rk, rw', l, o, sl, rfl, rfl, hS, hrel, hlen, hrk, hgg⟩ := hrel
    obtain ⟨A, cp, rfl⟩ := hS.row.form
    obtain ⟨As, cps, rfl⟩ := hS.at9.form
    cases o with
    | none =>
      have HR := Lib.hid hrel
      have HS := Lib.hid hS
      obtain ⟨x0, x1, x2, x3⟩ := hS.tz.frees
      obtain ⟨y0, y1, y2, y3⟩ := hS.tz.cells
      clear hrel hS hlen hgg
      go_wp2_with fail
      have HZ := TZ.zero HS.out.tz
      go_ret
      refine ⟨.slice A l.length cp, l, rfl, by rw [HR.out]; show _ = _ ++ []; rw [List.append_nil], HS.out.row.grown HZ.2 HS.out.tz (by decide) (by decide), HZ.1, gb_trans HS.out.gb HZ.2⟩
    | some T =>
      have hl5 : l.length ≤ 20000 := by omega
      obtain ⟨kd, nm9, ats, cl, tx⟩ := T
      have htok := hS.tok
      simp only [Option.getD_some] at htok
      obtain ⟨c0, c1, c2, c3, c4⟩ := tok_cells htok
      have hown : wr.ownsRow w.heap.size 30 5 (.slice A l.length cp) l.length (tcells l) := hS.row.1
      have hgs := hS.gb.size
      have HS := Lib.hid hS
      have HR := Lib.hid (And.intro hrel (And.intro hlen hgg))
      clear hS hrel hlen hgg htok
      go_wp2_with (at_builtin; refine wpList_append_own _ rfl (.tmp 23) (.tmp 25) 23 rfl w.heap.size 30 i0 (.agg #[.int .i64 0, .string ByteArray.empty, .slice none 0 0, .bool false, .string ByteArray.empty]) 5 72 Tryz.underlying23 hi0 hz0 hz1 hz2 rfl (by decide) _ l.length (tcells l) rfl (hown.alloc _) ⟨wr.heap.size, 0, none⟩ 1 1 (tcells [(⟨kd, nm9, ats, cl, tx⟩, .slice As ats.length cps)]) rfl rfl ?c1 ?c2 ?c3 ?c4 ?c5 ?_)
      case c1 =>
        intro j u hj
        match j, hj with
        | 0, hj => simp [tcells] at hj; subst hj; simp [Addr.add]
        | 1, hj => simp [tcells] at hj; subst hj; simp [Addr.add]
        | 2, hj => simp [tcells] at hj; subst hj; simp [Addr.add]
        | 3, hj => simp [tcells] at hj; subst hj; simp [Addr.add]
        | 4, hj => simp [tcells] at hj; subst hj; simp [Addr.add]
      case c2 => intro u hu; simp [tcells] at hu; rcases hu with rfl | rfl | rfl | rfl | rfl <;> rfl
      case c3 => unfold maxLen; omega
      case c4 => omega
      case c5 => simp; omega
      intro v2 w5 ho5 hg5 _
      rw [← tcells_append] at ho5
      obtain ⟨hT5, hK5, hR5, hG5⟩ := HS.out.push ho5 hg5
      obtain ⟨A5, cp5, rfl⟩ := hR5.form
      simp only at hK5
      have hB6 := Below.refl w5.heap.size w5
      have hT6 : TZ (w5.alloc (.cells #[.int .i64 kd, .string (tstr nm9), .slice As ats.length cps, .bool cl, .string (tstr tx)] 30)) b [] rk rw' ret2 := Whole.alloc hT5 _
      have hK6 : Whole (w5.alloc (.cells #[.int .i64 kd, .string (tstr nm9), .slice As ats.length cps, .bool cl, .string (tstr tx)] 30)) w5.heap.size #[.int .i64 kd, .string (tstr nm9), .slice As ats.length cps, .bool cl, .string (tstr tx)] 30 := Whole.new _ _ _
      have hR6 := hR5.alloc (.cells #[.int .i64 kd, .string (tstr nm9), .slice As ats.length cps, .bool cl, .string (tstr tx)] 30)
      have hG6 := gb_alloc hG5 (.cells #[.int .i64 kd, .string (tstr nm9), .slice As ats.length cps, .bool cl, .string (tstr tx)] 30)
      have hne6 : (Value.slice A5 (l ++ [((⟨kd, nm9, ats, cl, tx⟩ : Mk.Tok), Value.slice As ats.length cps)]).length cp5).ownBlock ≠ some w5.heap.size := fun e => by have := (hR5.lt _ e).2; omega
      have hrk2 : rk.length ≤ 20000 := by have := HR.out.2.1; omega
      have hnx := knext_any b [] rk rw' ret2 true _ (fun w' hg => HE.out.1 w' (gb_trans hG6 hg)) hT6 hrk2 hrk
      have hnr := nxt_raw (c := true) rk.length rw' rk (Nat.le_refl _) hrk
      obtain ⟨⟨o7, raw7, rest7⟩, hx7⟩ : ∃ x, Mk.nxt true rw' rk = x := ⟨_, rfl⟩
      rw [hx7] at hnx hnr
      have hrt := restT_of hx7
      obtain ⟨d0, d1, d2, d3, d4⟩ := tok_cells hK5
      have HH := Lib.hid (And.intro hK6 (And.intro hR6 (And.intro hG6 (And.intro hne6 (And.intro hnr (And.intro hrt hT6))))))
      have hg5s := hG5.size
      clear ho5 hg5 hT5 hK5 hR5 hG5 hT6 hK6 hR6 hG6 hne6 hnr hrt hx7 c0 c1 c2 c3 c4 hown
      go_wp2_with fail
      refine hnx.mono ?_
      clear hnx
      rintro e w7 ⟨v7, rfl, ⟨sl7, hA7, hT7, rfl⟩, hg7⟩
      simp only at hA7 hT7
      obtain ⟨A7, cp7, rfl⟩ := hA7.form
      have hK7 := HH.out.1.grown hg7 (fun e => by injection e; omega)
      have hT6w : Whole (w5.alloc (.cells #[.int .i64 kd, .string (tstr nm9), .slice As ats.length cps, .bool cl, .string (tstr tx)] 30)) b #[.string (tstr []), .string (tstr rk), .string (tstr rw'), .bool ret2] 47 := HH.out.2.2.2.2.2.2
      have hR7 := HH.out.2.1.grown hg7 hT6w (by decide) (by decide)
      have hG7 := gb_trans HH.out.2.2.1 hg7
      have hA7 := hA7.mono' (base' := w.heap.size) HH.out.2.2.1.size
      obtain ⟨f0, f1, f2, f3, f4⟩ := tok_free hK7
      obtain ⟨e0, e1, e2, e3, e4⟩ := tok_cells hK7
      unfold tokT
      simp only
      clear d0 d1 d2 d3 d4
      go_wp2_with fail
      obtain ⟨X9, hX9, r9, g9⟩ := box5 hK7 (.int .i64 (o7.getD Mk.zeroTok).kind) (.string (tstr (o7.getD Mk.zeroTok).name)) (.slice A7 (o7.getD Mk.zeroTok).attrs.length cp7) (.bool (o7.getD Mk.zeroTok).closed) (.string (tstr (o7.getD Mk.zeroTok).text))
      rw [hX9]
      have hFIN : FnS w X9 b w5.heap.size rest7 raw7 ret2 (.slice A5 (l ++ [((⟨kd, nm9, ats, cl, tx⟩ : Mk.Tok), Value.slice As ats.length cps)]).length cp5) (l ++ [(⟨kd, nm9, ats, cl, tx⟩, .slice As ats.length cps)]) o7 (.slice A7 (o7.getD Mk.zeroTok).attrs.length cp7) :=
        ⟨Whole.grown hT7 g9 (fun e => by injection e; omega), r9, hR7.grownT g9 hK7 HH.out.2.2.2.1, hA7.grown g9 (.inr (hA7.apart hK7 (by decide))), HH.out.2.2.2.1,
          ⟨g9.os.trans hG7.os, g9.tape.trans hG7.tape, g9.output.trans hG7.output, Nat.le_trans hG7.size g9.size, fun k hk hn => (g9.block k (Nat.lt_of_lt_of_le hk hG7.size) (fun e => by injection e; omega)).trans (hG7.block k hk hn)⟩, hg5s, hbl⟩
      have HFIN := Lib.hid hFIN
      have HOK := Lib.hid HH.out.2.2.2.2
      clear e0 e1 e2 e3 e4 f0 f1 f2 f3 f4 hX9 hFIN hR7 hG7 hA7 hK7 hT7 hg7 hT6w
      go_wp2_with fail
      go_roundg (rest7.length + (if o7.isSome then 1 else 0))
      case rel =>
        have h1 := HR.out.1
        have h2 := HR.out.2.1
        have h3 := HR.out.2.2
        have h4 := HOK.out.2.1
        simp only [Option.isSome_some, if_true] at h2 h3
        refine ⟨w5.heap.size, rest7, raw7, l ++ [(⟨kd, nm9, ats, cl, tx⟩, .slice As ats.length cps)], o7, _, rfl, rfl, by have h9 := HFIN.out; rw [List.length_append, List.length_singleton] at h9; exact h9, ?_, ?_, HOK.out.1, Nat.le_refl _⟩
        · rw [h1, List.map_append]
          show _ ++ (_ :: (Mk.toks true rw' rk).1) = _
          rw [h4.1, List.append_assoc]; rfl
        · rw [List.length_append, List.length_singleton]
          have := h4.2
          omega
      case measure =>
        have h3 := HR.out.2.2
        have h4 := HOK.out.2.1.2
        simp only [Option.isSome_some, if_true] at h3
        omega

end Go.Proofs.YtckmlbcpldpkpaaGreatDoor

/- The program's Tokens returns what the plain text says. -/
namespace Go.Proofs.YtckmlbcpldpkpaaGreatDoor
open Go Go.RowKit
set_option linter.unusedVariables false

/-- The text of a document: repaired, its ends of lines one character. -/
def docText (l : List UInt8) : List UInt8 := Txt.newl false (Txt.rep l)
theorem TRow.mono {w : World} {base base' : Nat} {v : Value} {l : List (Mk.Tok × Value)} (h : TRow w base v l) (hb : base' ≤ base) : TRow w base' v l := by
  refine ⟨⟨h.1.1, ?_⟩, fun p hp => (h.2 p hp).mono' hb⟩
  rcases h.1.2 with hn | ⟨g, cap, cur, rfl, h1, rest⟩
  · exact .inl hn
  · exact .inr ⟨g, cap, cur, rfl, Nat.le_trans hb h1, rest⟩

set_option maxRecDepth 100000 in
set_option maxHeartbeats 2000000 in
theorem ktokens_any (s : ByteArray) (w : World) (hE : Env w) (hs : s.size ≤ 15000) (hrep : (Txt.rep s.data.toList).length ≤ 15000) :
    Calls Tryz.prog 9 #[.string s] w fun e w' => ∃ v l, e = .returned v ∧ l.map Prod.fst = Mk.tokens (docText s.data.toList) ∧ TRow w' w.heap.size v l ∧ Below w.heap.size w w' := by
  have hB : Below w.heap.size w (w.alloc (.cells #[.string ⟨#[]⟩, .string ⟨#[]⟩, .string ⟨#[]⟩, .bool false] 47)) := (Below.refl _ _).alloc (Nat.le_refl _) _
  have hT : TZ (w.alloc (.cells #[.string ⟨#[]⟩, .string ⟨#[]⟩, .string ⟨#[]⟩, .bool false] 47)) w.heap.size [] [] [] false := Whole.new _ _ _
  have hEE : ∀ w', (w.alloc (.cells #[.string ⟨#[]⟩, .string ⟨#[]⟩, .string ⟨#[]⟩, .bool false] 47)).grownBy w' (some w.heap.size) → Below w.heap.size w w' ∧ Env w' := fun w' hg =>
    have hb := hB.grown hg hB.size (fun j hj => by injection hj; omega)
    ⟨hb, hE.below hb⟩
  generalize hW1 : w.alloc (.cells #[.string ⟨#[]⟩, .string ⟨#[]⟩, .string ⟨#[]⟩, .bool false] 47) = W1 at hT hEE
  have hf := kfeed_any w.heap.size [] [] [] false s W1 (fun w' hg => (hEE w' hg).2) hT (Nat.zero_le _) hs (by rw [List.nil_append]; exact hrep) (by rw [List.nil_append]; exact Nat.le_trans (by simp) (Nat.le_trans hrep (by omega)))
  rw [List.nil_append] at hf
  have HE := Lib.hid hEE
  have HR := Lib.hid hrep
  clear hEE hB hT hrep hE
  go_enter Tryz.func9, Tryz.ntmps9
  go_wp2_with fail
  refine hf.mono ?_
  clear hf hW1
  rintro e w2 ⟨l1, l2, rfl, hcat, hcut, hT2, hg2⟩
  have hrl := cut_rep hcat hcut
  have hlen := congrArg List.length hrl
  rw [List.length_append] at hlen
  have hnl := Txt.newl_len false (Txt.rep l1)
  have hfi := kfinish_any w.heap.size l2 ([] ++ Txt.newl false (Txt.rep l1)) [] (crS false (Txt.rep l1)) w2 (fun w' hg => (HE.out w' (gb_trans hg2 hg)).2) hT2 (by have := cut_len hcut; omega) (Nat.zero_le _) (by have := HR.out; omega) (by have := HR.out; rw [List.nil_append]; omega)
  rw [List.nil_append, ← newl_app, ← hrl] at hfi
  have HG := Lib.hid hg2
  clear hrl hlen hnl hcat hcut hT2 hg2
  go_wp2_with fail
  refine hfi.mono ?_
  clear hfi
  rintro e w3 ⟨v, l, rfl, hl, hr, _, hg3⟩
  have hb3 := (HE.out w3 (gb_trans HG.out hg3)).1
  have hsz : w.heap.size ≤ w2.heap.size := (HE.out w2 HG.out).1.size
  have HL := Lib.hid (And.intro hl (And.intro hr hb3))
  clear hl hr hb3 hg3
  go_wp2_with fail
  go_ret
  exact ⟨v, l, rfl, by rw [HL.out.1]; exact (Mk.toks_tokens _ _ (Nat.le_refl _)).1, HL.out.2.1.mono hsz, HL.out.2.2⟩

end Go.Proofs.YtckmlbcpldpkpaaGreatDoor

/- The law's awake returns true; a row of tokens as a reader sees it. -/
namespace Go.Proofs.YtckmlbcpldpkpaaGreatDoor
open Go Go.RowKit
set_option linter.unusedVariables false

/-- What a reader of a row of tokens is told. -/
theorem TRow.at {w : World} {base : Nat} {v : Value} {l : List (Mk.Tok × Value)} (h : TRow w base v l) (i : Nat) (hi : i < l.length) : ∃ g c, v = .slice (some ⟨g, 0, none⟩) l.length c ∧ base ≤ g ∧ g < w.heap.size ∧
    w.cell? ⟨g, i * 5, none⟩ = some (.int .i64 l[i].1.kind) ∧ w.cell? ⟨g, i * 5 + 1, none⟩ = some (.string (tstr l[i].1.name)) ∧ w.cell? ⟨g, i * 5 + 2, none⟩ = some l[i].2 ∧ w.cell? ⟨g, i * 5 + 3, none⟩ = some (.bool l[i].1.closed) ∧ w.cell? ⟨g, i * 5 + 4, none⟩ = some (.string (tstr l[i].1.text)) := by
  have h1 := h.1
  rcases h1.2 with ⟨_, hn⟩ | ⟨g, cap, cur, rfl, hb, hg, _⟩
  · omega
  · obtain ⟨e1, e2, e3, e4, e5⟩ := tcells_get l i hi
    have hc : ∀ j u, (tcells l)[j]? = some u → w.cell? ⟨g, j, none⟩ = some u := fun j u hj => by
      have := World.ownsRow.cells (g := g) h1 rfl j u hj
      rwa [Addr.add_lit, Nat.zero_add] at this
    exact ⟨g, cap, rfl, hb, lt_of_block hg, hc _ _ e1, hc _ _ e2, hc _ _ e3, hc _ _ e4, hc _ _ e5⟩
theorem docText_same {l : List UInt8} (h1 : Txt.rep l = l) (h2 : ∀ c ∈ l, c ≠ 13) : docText l = l := by
  unfold docText
  rw [h1, Txt.newl_same h2]

theorem awake_tokens : (Mk.tokens (docText [60, 112, 62, 120, 60, 47, 112, 62])).length = 3 := by
  rw [docText_same (Mk.rep_ascii (by decide)) (by decide)]
  have := Mk.tokens_p [120] (by decide)
  rw [show ([60, 112, 62, 120, 60, 47, 112, 62] : List UInt8) = [60, 112, 62] ++ [120] ++ [60, 47, 112, 62] from rfl, this, if_neg (by decide)]
  rfl

set_option maxRecDepth 100000 in
set_option maxHeartbeats 400000 in
theorem mawake_any (w : World) (hE : Env w) : Calls Tryz.prog 8 #[] w fun e w' => e = .returned (.bool true) ∧ Below w.heap.size w w' := by
  have hk := ktokens_any ⟨#[60, 112, 62, 120, 60, 47, 112, 62]⟩ w hE (by decide) (by
    show (Txt.rep [60, 112, 62, 120, 60, 47, 112, 62]).length ≤ 15000
    rw [Mk.rep_ascii (by decide)]; decide)
  rw [show (⟨#[60, 112, 62, 120, 60, 47, 112, 62]⟩ : ByteArray).data.toList = [60, 112, 62, 120, 60, 47, 112, 62] from rfl] at hk
  clear hE
  go_enter Tryz.func8, Tryz.ntmps8
  go_wp2_with fail
  refine hk.mono ?_
  clear hk
  rintro e w2 ⟨v, l, rfl, hl, hr, hb⟩
  have h3 := congrArg List.length hl
  rw [List.length_map, awake_tokens] at h3
  obtain ⟨A, c, rfl⟩ := hr.form
  rw [h3]
  clear hl hr h3
  go_wp2_with fail
  go_ret
  exact ⟨rfl, hb⟩

end Go.Proofs.YtckmlbcpldpkpaaGreatDoor
