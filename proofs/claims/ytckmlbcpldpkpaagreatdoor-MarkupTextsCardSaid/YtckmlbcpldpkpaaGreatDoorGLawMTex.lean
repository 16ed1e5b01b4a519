/- For every string s, the statement MarkupTexts returns true: an escaped text between two tags is read as that text, an empty one as no token; s reads as before. -/
import Derived.Test.YtckmlbcpldpkpaaGreatDoorRows
import Derived.Test.YtckmlbcpldpkpaaGreatDoorCards
import Derived.Test.YtckmlbcpldpkpaaGreatDoorTie
import Derived.PinnedBridge
import Derived.Lib.LaidU8T
import Derived.Lib.LaidIn
import Derived.Lay
import Derived.LaidMore
import Derived.SevenTiedAt
import Derived.SizedLaws
import Derived.ChangeOld
import Derived.Below
import Derived.WalkKit
import Derived.ProofKit
import Derived.OpenShut
import Derived.ShutString
import Derived.Test.YtckmlbcpldpkpaaGreatDoorKB
import Derived.Test.YtckmlbcpldpkpaaGreatDoorKC
import Derived.Test.YtckmlbcpldpkpaaGreatDoorKG
namespace Go.Proofs.YtckmlbcpldpkpaaGreatDoor
open Go Go.RowKit
set_option linter.unusedVariables false

theorem ne_fact {a b : List UInt8} (h : a ≠ b) : ((tstr a).toList == (tstr b).toList) = false := by
  rw [Lib.toList_data, Lib.toList_data, tstr_data, tstr_data]; simpa using h
theorem eq_fact {a b : List UInt8} (h : a = b) : ((tstr a).toList == (tstr b).toList) = true := by
  subst h; simp
theorem all_of {l : List UInt8} {p : UInt8 → Prop} [DecidablePred p] (h : l.all (fun c => decide (p c)) = true) : ∀ c ∈ l, p c := fun c hc => of_decide_eq_true (List.all_eq_true.1 h c hc)
theorem decode_esc_all (s : List UInt8) : Ent.decode (s.flatMap Ent.esc) = s := by
  have := Ent.decode_back s []
  rwa [List.append_nil, Ent.decode_nil, List.append_nil] at this
theorem flat_nil (s : List UInt8) : s.flatMap Ent.esc = [] ↔ s = [] := by
  constructor
  · intro h
    have := decode_esc_all s
    rw [h, Ent.decode_nil] at this
    exact this.symm
  · intro h; subst h; rfl
/-- The document's text, and its tokens. -/
theorem texts_doc {s : List UInt8} (h1 : Txt.rep s = s) : Txt.rep ([60, 112, 62] ++ s.flatMap Ent.esc ++ [60, 47, 112, 62]) = [60, 112, 62] ++ s.flatMap Ent.esc ++ [60, 47, 112, 62] ∧
    Mk.tokens (docText ([60, 112, 62] ++ s.flatMap Ent.esc ++ [60, 47, 112, 62])) = ⟨1, [112], [], false, []⟩ :: ((if s = [] then [] else [Mk.txt s]) ++ [⟨2, [112], [], false, []⟩]) := by
  have hE := Mk.rep_flat Ent.esc (fun c h => (Mk.esc_ascii c).1 h) (fun c h => (Mk.esc_ascii c).2.1 h) _ s (Nat.le_refl _) h1
  have hR : Txt.rep ([60, 112, 62] ++ s.flatMap Ent.esc ++ [60, 47, 112, 62]) = [60, 112, 62] ++ s.flatMap Ent.esc ++ [60, 47, 112, 62] :=
    Mk.rep_two (Mk.rep_two (Mk.rep_ascii (by decide)) hE) (Mk.rep_ascii (by decide))
  have hC : ∀ c ∈ [60, 112, 62] ++ s.flatMap Ent.esc ++ [60, 47, 112, 62], c ≠ 13 := by
    intro c hc
    rcases List.mem_append.1 hc with hc | hc
    · rcases List.mem_append.1 hc with hc | hc
      · exact all_of (p := fun c => c ≠ 13) (by decide) c hc
      · exact Mk.flat_no (fun c d hd => ((Mk.esc_ascii c).2.2 d hd).2) s c hc
    · exact all_of (p := fun c => c ≠ 13) (by decide) c hc
  refine ⟨hR, ?_⟩
  rw [docText_same hR hC, Mk.tokens_p _ (Mk.flat_no (fun c d hd => ((Mk.esc_ascii c).2.2 d hd).1) s), decode_esc_all]
  by_cases h0 : s = []
  · rw [if_pos ((flat_nil s).2 h0), if_pos h0]
  · rw [if_neg (fun e => h0 ((flat_nil s).1 e)), if_neg h0]

set_option maxRecDepth 100000 in
set_option maxHeartbeats 2000000 in
theorem texts_walk (a : ByteArray) (w : World) (hE : Env w) (hz : a.size ≤ 140737488351232) :
    Calls Tryz.prog 5 #[.string a] w fun e w' => e = .returned (.bool true) ∧ Below w.heap.size w w' := by
  have HE := Lib.hid hE
  have haw := mawake_any w hE
  clear hE
  by_cases hbig : a.size ≤ 1500
  · have hbig' : (a.size : Int) ≤ 1500 := by omega
    obtain ⟨s, hs⟩ : ∃ s, a.data.toList = s := ⟨_, rfl⟩
    obtain rfl : a = tstr s := str_of_list hs
    rw [tstr_size] at hbig
    by_cases hrp : Txt.rep s = s
    · have f1 := eq_fact hrp
      by_cases hnl : Txt.newl false s = s
      · have f2 := eq_fact hnl
        obtain ⟨hdr, hdt⟩ := texts_doc hrp
        have hEl := Ent.flat_len Ent.esc Ent.esc_len s
        obtain ⟨E, hEE⟩ : ∃ E, s.flatMap Ent.esc = E := ⟨_, rfl⟩
        rw [hEE] at hdr hdt hEl
        have had1 : ∀ W : World, (Op.stringOp .add ⟨#[60, 112, 62]⟩ (tstr E)).run Tryz.prog W = .ok (.string (tstr ([60, 112, 62] ++ E))) W := fun W => by
          rw [show (⟨#[60, 112, 62]⟩ : ByteArray) = tstr [60, 112, 62] from rfl, run_string_add_sum W _ _ (by rw [tstr_size, tstr_size]; simp only [List.length_cons, List.length_nil]; omega), tstr_append]
        have had2 : ∀ W : World, (Op.stringOp .add (tstr ([60, 112, 62] ++ E)) ⟨#[60, 47, 112, 62]⟩).run Tryz.prog W = .ok (.string (tstr ([60, 112, 62] ++ E ++ [60, 47, 112, 62]))) W := fun W => by
          rw [show (⟨#[60, 47, 112, 62]⟩ : ByteArray) = tstr [60, 47, 112, 62] from rfl, run_string_add_sum W _ _ (by rw [tstr_size, tstr_size, List.length_append]; simp only [List.length_cons, List.length_nil]; omega), tstr_append]
        have hrr := fun W => rrepair_any (tstr s) W (by rw [tstr_size]; omega)
        have hrn := fun W => rnewlines_any (tstr s) W (by rw [tstr_size]; omega)
        have hes := fun W => rescape_text (tstr s) W (by rw [tstr_size]; omega)
        simp only [tstr_data] at hrr hrn hes
        rw [hEE] at hes
        have hdl : ([60, 112, 62] ++ E ++ [60, 47, 112, 62]).length ≤ 15000 := by
          rw [List.length_append, List.length_append]; simp only [List.length_cons, List.length_nil]; omega
        have htk := fun W (hW : Env W) => ktokens_any (tstr ([60, 112, 62] ++ E ++ [60, 47, 112, 62])) W hW (by rw [tstr_size]; exact hdl) (by rw [tstr_data, hdr]; exact hdl)
        simp only [tstr_data] at htk
        rw [hdt] at htk
        clear hdr hdt hEE hrp hnl hdl hEl
        generalize tstr ([60, 112, 62] ++ E ++ [60, 47, 112, 62]) = D at htk had2
        generalize tstr ([60, 112, 62] ++ E) = D1 at had1 had2
        generalize tstr E = EE at had1 hes
        generalize tstr (Txt.rep s) = R1 at hrr f1
        generalize tstr (Txt.newl false s) = R2 at hrn f2
        go_enter Tryz.func5, Tryz.ntmps5
        go_wp2_with fail
        refine haw.mono ?_
        clear haw
        rintro e w1 ⟨rfl, hb1⟩
        go_wp2_with fail
        refine (hrr w1).mono ?_
        clear hrr
        rintro e w2 ⟨rfl, hb2⟩
        go_wp2_with fail
        refine (hrn w2).mono ?_
        clear hrn
        rintro e w3 ⟨rfl, rfl⟩
        go_wp2_with fail
        refine (hes w2).mono ?_
        clear hes
        rintro e w3 ⟨rfl, rfl⟩
        have hb12 := below_trans' hb1 hb2
        have htk2 := htk w2 (HE.out.below hb12)
        clear htk hb1 hb2
        go_wp2_with fail
        refine htk2.mono ?_
        clear htk2
        rintro e w4 ⟨v, l, rfl, hl, hr, hb4⟩
        have hlen := congrArg List.length hl
        rw [List.length_map] at hlen
        have hB := below_trans' hb12 hb4
        by_cases h0 : s = []
        · subst h0
          have hem : ((tstr []).toList == []) = true := by rw [Lib.toList_data, tstr_data]; rfl
          have hem2 := tstr_none.1
          rw [if_pos rfl] at hlen
          have hl2 : l.length = 2 := hlen
          obtain ⟨A, c, rfl⟩ := hr.form
          rw [hl2]
          clear hl hlen hr hl2 hb12 hb4
          generalize tstr [] = S at hem hem2
          go_wp2_with fail
          go_ret
          exact ⟨rfl, hB⟩
        · obtain ⟨hem, hem2⟩ := tstr_some h0
          rw [if_neg h0] at hlen hl
          have hl3 : l.length = 3 := hlen
          obtain ⟨g, c, rfl, _, hgl, c0, c1, c2, c3, c4⟩ := hr.at 1 (by omega)
          have hl1 : l[1].1 = Mk.txt s := by
            have h9 := List.getElem_of_eq hl (i := 1) (by rw [List.length_map]; omega)
            simpa using h9
          rw [hl1] at c0 c4
          have k0 : w4.cell? ⟨g, 5, none⟩ = some (.int .i64 3) := c0
          have k4 : w4.cell? ⟨g, 9, none⟩ = some (.string (tstr s)) := c4
          rw [hl3]
          clear hl hlen hr hl3 hb12 hb4 c0 c1 c2 c3 c4 hl1 h0
          have heq : ((tstr s).toList == (tstr s).toList) = true := by simp
          clear f1 f2
          generalize tstr s = S at hem hem2 k4 heq hbig'
          go_wp2_with fail
          go_ret
          exact ⟨rfl, hB⟩
      · have f2 := ne_fact hnl
        have hrr := fun W => rrepair_any (tstr s) W (by rw [tstr_size]; omega)
        have hrn := fun W => rnewlines_any (tstr s) W (by rw [tstr_size]; omega)
        simp only [tstr_data] at hrr hrn
        clear hrp hnl
        generalize tstr (Txt.rep s) = R1 at hrr f1
        generalize tstr (Txt.newl false s) = R2 at hrn f2
        go_enter Tryz.func5, Tryz.ntmps5
        go_wp2_with fail
        refine haw.mono ?_
        clear haw
        rintro e w1 ⟨rfl, hb1⟩
        go_wp2_with fail
        refine (hrr w1).mono ?_
        clear hrr
        rintro e w2 ⟨rfl, hb2⟩
        go_wp2_with fail
        refine (hrn w2).mono ?_
        clear hrn
        rintro e w3 ⟨rfl, rfl⟩
        have hb12 := below_trans' hb1 hb2
        have haw2 := mawake_any w2 (HE.out.below hb12)
        go_wp2_with fail
        refine haw2.mono ?_
        rintro e w4 ⟨rfl, hb4⟩
        go_wp2_with fail
        go_ret
        exact ⟨rfl, below_trans' hb12 hb4⟩
    · have f1 := ne_fact hrp
      have hrr := fun W => rrepair_any (tstr s) W (by rw [tstr_size]; omega)
      simp only [tstr_data] at hrr
      clear hrp
      generalize tstr (Txt.rep s) = R1 at hrr f1
      go_enter Tryz.func5, Tryz.ntmps5
      go_wp2_with fail
      refine haw.mono ?_
      clear haw
      rintro e w1 ⟨rfl, hb1⟩
      go_wp2_with fail
      refine (hrr w1).mono ?_
      clear hrr
      rintro e w2 ⟨rfl, hb2⟩
      have hb12 := below_trans' hb1 hb2
      have haw2 := mawake_any w2 (HE.out.below hb12)
      go_wp2_with fail
      refine haw2.mono ?_
      rintro e w4 ⟨rfl, hb4⟩
      go_wp2_with fail
      go_ret
      exact ⟨rfl, below_trans' hb12 hb4⟩
  · have hbig' : ¬ (a.size : Int) ≤ 1500 := by omega
    go_enter Tryz.func5, Tryz.ntmps5
    go_wp2_with fail
    refine haw.mono ?_
    clear haw
    rintro e w1 ⟨rfl, hb1⟩
    have haw2 := mawake_any w1 (HE.out.below hb1)
    go_wp2_with fail
    refine haw2.mono ?_
    rintro e w4 ⟨rfl, hb4⟩
    go_wp2_with fail
    go_ret
    exact ⟨rfl, below_trans' hb1 hb4⟩

end Go.Proofs.YtckmlbcpldpkpaaGreatDoor

namespace Go.Proofs.YtckmlbcpldpkpaaGreatDoor.markupTexts
open Go.ChangeShapes Go.WideShapes Go.ChangeAt Go.RowKit
open Go.ChangeMaps (open_string shut_string)
set_option linter.unusedVariables false

theorem own : ownKnob Tryz.prog.godebug = none := by kernel_rfl
theorem laidOut : laidOutB Tryz.prog = true := by kernel_rfl

theorem bi64 {n : Int} (h : (Lit.int .i64 n).wf = true) : -9223372036854775808 ≤ n ∧ n ≤ 9223372036854775807 := by
  simpa [Lit.wf, IntKind.min, IntKind.max, IntKind.bits, IntKind.signed] using h

open Go.Shelf Go.Lib in
theorem laid_lit {W : World} (h : laidMetH Tryz.prog Rows.markupTextsRow.laid W) : Lit W := by
  rw [MakeChecks.laidMetH_plain _ _ _ (by kernel_rfl)] at h
  have e1 : Rows.laid_unicode_utf8_first = firstData := Pinned.utf8First_eq
  have e2 : (Rows.laid_unicode_utf8_acceptRanges : DataW Unit) = acceptData := by kernel_rfl
  exact utf8Tabs_of_readsT (U8Types.of196 Tryz.lays196) ⟨by kernel_rfl, by kernel_rfl, by kernel_rfl, by kernel_rfl, by kernel_rfl, by kernel_rfl, by kernel_rfl⟩
    (e1 ▸ Lib.laidMet.reads h (.tail _ (.tail _ (.head _)))) (e2 ▸ Lib.laidMet.reads h (.head _))
theorem laid_tab {W : World} (h : laidMetH Tryz.prog Rows.markupTextsRow.laid W) : Tab W := by
  rw [MakeChecks.laidMetH_plain _ _ _ (by kernel_rfl)] at h
  exact tab_of (Lib.laidMet.reads h (.tail _ (.head _)))

/-! The step from the walk to the row. -/
set_option maxRecDepth 100000 in
theorem lifted (os : Os) (started : os.Started) (H : Type) (enc : TypeId × Value → H) :
    ReturnsInHanded {} Tryz.checked os 5 .any (fun w args => (Rows.markupTextsSpec.pre enc Tryz.prog Tryz.f5 [] false w args ∧ laidMetH Tryz.prog Rows.markupTextsRow.laid w) ∧ sizedMet enc Tryz.prog Tryz.f5 (OpenSpec.ofChange Rows.markupTextsSpec) false w args) (Rows.markupTextsSpec.post enc Tryz.prog Tryz.f5 false true false false) := by
  have key : ∀ (W : World) (base : Nat) (args : Array Value) (ds gs : List (DataW H)) (before : List MemPlace),
      (∀ (j : Nat) t v, Tryz.f5.params[j]? = some t → args[j]? = some v → Value.okWide Tryz.prog W .any base t v) →
      DataW.Whole enc Tryz.prog Tryz.f5.params.toList Rows.markupTextsSpec.vars false W args.toList ds gs before →
      (DataW.weightsEach Tryz.prog (Tryz.f5.params.toList ++ Rows.markupTextsSpec.plain.varTypes Tryz.prog) (ds ++ gs)).all (· ≤ reachBytes) = true →
      laidMetH Tryz.prog Rows.markupTextsRow.laid W →
      W.ShapedOpen Tryz.prog →
      Calls Tryz.prog 5 args W fun e W' => ∃ v, e = .returned v ∧ Rows.markupTextsSpec.post enc Tryz.prog Tryz.f5 false true false false W args v W' := by
    intro W base args ds gs before hval0 hW hsz0 hL hsh
    have hT : Env W := ⟨laid_lit hL, laid_tab hL, Tryz.maxLen W hsh⟩
    have hval : ∀ (j : Nat) t v, Tryz.f5.params[j]? = some t → args[j]? = some v → Value.okWide Tryz.prog W .any base t v := hval0
    have hsz : (DataW.weightsEach Tryz.prog (Tryz.f5.params.toList ++ Rows.markupTextsSpec.plain.varTypes Tryz.prog) (ds ++ gs)).all (· ≤ reachBytes) = true := hsz0
    have hW' := hW
    obtain ⟨p, q, hA0, hV, rfl, hfz, hnd⟩ := hW
    have hA : DataW.TrodAll enc Tryz.prog W 0 (fun _ => true) true Tryz.f5.params.toList args.toList ds p := hA0
    rw [Tryz.params5] at hA hval hsz
    obtain ⟨v0, vs0, d0, ds0, p0, q0, hargs, rfl, rfl, h0, r0⟩ := trodAll_cons hA
    obtain ⟨rfl, rfl, rfl⟩ := trodAll_nil r0
    obtain rfl : args = #[v0] := by cases args; simp_all
    obtain ⟨rfl, rfl⟩ := trodVars_none hV
    obtain ⟨a0, rfl, rfl, rfl, w0⟩ := open_string Tryz.underlying9 (hval 0 9 v0 rfl rfl) h0
    have s0 : a0.size ≤ 140737488351232 := sized_string hsz (j := 0) (t := 9) rfl rfl
    clear hA0 hval0 hsz0
    refine (texts_walk a0 W hT s0).mono fun e W' ⟨he, bel⟩ => ?_
    subst he
    exact ⟨_, rfl, _, _, _, [], _, [], hW', trodAll_mk1 (shut_bool Tryz.underlying4 _), (trodAll_cons_mk (shut_string Tryz.underlying9 w0) trodAll_mk0), rfl, bel.frame _, fun h => by cases h⟩
  refine returnsInHanded_of_calls own started (by kernel_rfl)
    (ChangeSpec.witness_shaped (enc := enc) (C := Tryz.checked) (os := os) (X := fun w _ => laidMetH Tryz.prog Rows.markupTextsRow.laid w) false (World.laidAll Tryz.prog os Rows.markupTextsRow.laid) #[.string ByteArray.empty] 8 (World.laidAll_os _ _ _)
      (World.shaped_of_ZipB (by kernel_rfl) (by kernel_rfl)) (by kernel_rfl) (by kernel_rfl) (by kernel_rfl)
      (by rw [MakeChecks.laidMetH_plain _ _ _ (by kernel_rfl)]; exact laidMet_laidAll _ (by kernel_rfl) (by kernel_rfl))) ?_
  intro w tape i _ hsh _ hok hpre _
  obtain ⟨_, _, _, fn', hfn', _, _, _, _, hval⟩ := hok
  obtain rfl : fn' = Tryz.f5 := Option.some.inj (hfn'.symm.trans Tryz.func5)
  obtain ⟨⟨⟨ds, gs, before, hw, _⟩, hlaid⟩, hz⟩ := hpre
  refine (key (w.forCall tape i) w.heap.size i.args ds gs before hval (DataW.Whole.of_heap (w' := w.forCall tape i) (by rfl) hw) (hz.weights hw) (hlaid.of_heap (by rfl)) hsh).mono fun e W' ⟨v, he, hp⟩ => ?_
  subst he
  exact ChangeSpec.post_blind hp

theorem over : Rows.markupTextsRow.holds Tryz.pinned (OpenSpec.ofChange Rows.markupTextsSpec) :=
  OpenClaim.holds_of_wide 5 Tryz.f5 rfl rfl rfl rfl rfl rfl rfl ⟨rfl, rfl, rfl, rfl, rfl⟩ rfl rfl rfl rfl rfl (by kernel_rfl) Tryz.func5 (by kernel_rfl)
    (of_decide_eq_true (by kernel_rfl)) (by unfold Func.isWrapper; first | (rw [if_pos (by decide +kernel)]; kernel_rfl) | (rw [if_neg (by decide +kernel)]; exact ⟨rfl, rfl⟩))
    (fun os started H enc _ => lifted os started H enc)

/-- The statement: the card, over the row. -/
theorem proved : Rows.MarkupTextsCardSaid :=
  Claim7.holds_tied_plain_at .later [] [.data, .data, .pinned] true _ false over (fun _ h => by cases h) (by kernel_rfl) (fun _ h => by cases h) markupTexts_row_tie rfl ⟨rfl, rfl⟩ (by kernel_rfl) rfl
    (fun f fn hf hfn => by
      obtain rfl : f = 5 := Option.some.inj ((show Tryz.prog.funcNamed Rows.markupTextsRow.func = some 5 by kernel_rfl).symm.trans hf) |>.symm
      obtain rfl : fn = Tryz.f5 := (Option.some.inj (Tryz.func5.symm.trans hfn)).symm
      exact ⟨by kernel_rfl, fun j t ht => by
        rw [Tryz.params5] at ht
        have hm : t ∈ [9] := by simpa using Array.mem_of_getElem? ht
        have hall : ([9].all fun u => !Tryz.prog.wantsStandIn u) = true := by kernel_rfl
        exact (show Tryz.prog.wantsStandIn t = false by simpa using List.all_eq_true.1 hall t hm)⟩)
    (by kernel_rfl)
end Go.Proofs.YtckmlbcpldpkpaaGreatDoor.markupTexts
