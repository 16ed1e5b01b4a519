/- For every string s and any number kind, the statement MarkupRaw returns true: the text of a raw element that holds no end of an element is read as it stands, that of a plain element with references decoded; s reads as before. -/
import Derived.Test.YtckmlbcpldpkpaaGreatDoorRows
import Derived.Test.YtckmlbcpldpkpaaGreatDoorCards
import Derived.Test.YtckmlbcpldpkpaaGreatDoorTie
import Derived.PinnedBridge
import Derived.Lib.LaidU8T
import Derived.Lib.LaidIn
import Derived.Lay
import Derived.LaidMore
import Derived.SevenTiedAt
import Derived.SizedLaws
import Derived.ChangeOld
import Derived.Below
import Derived.WalkKit
import Derived.ProofKit
import Derived.OpenShut
import Derived.ShutString
import Derived.Test.YtckmlbcpldpkpaaGreatDoorKB
import Derived.Test.YtckmlbcpldpkpaaGreatDoorKC
import Derived.Test.YtckmlbcpldpkpaaGreatDoorKG
import Derived.Test.YtckmlbcpldpkpaaGreatDoorKH
namespace Go.Proofs.YtckmlbcpldpkpaaGreatDoor
open Go Go.RowKit
set_option linter.unusedVariables false

theorem ne_fact {a b : List UInt8} (h : a ≠ b) : ((tstr a).toList == (tstr b).toList) = false := by
  rw [Lib.toList_data, Lib.toList_data, tstr_data, tstr_data]; simpa using h
theorem eq_fact {a b : List UInt8} (h : a = b) : ((tstr a).toList == (tstr b).toList) = true := by
  subst h; simp
theorem all_of {l : List UInt8} {p : UInt8 → Prop} [DecidablePred p] (h : l.all (fun c => decide (p c)) = true) : ∀ c ∈ l, p c := fun c hc => of_decide_eq_true (List.all_eq_true.1 h c hc)
theorem decode_esc_all (s : List UInt8) : Ent.decode (s.flatMap Ent.esc) = s := by
  have := Ent.decode_back s []
  rwa [List.append_nil, Ent.decode_nil, List.append_nil] at this
theorem flat_nil (s : List UInt8) : s.flatMap Ent.esc = [] ↔ s = [] := by
  constructor
  · intro h
    have := decode_esc_all s
    rw [h, Ent.decode_nil] at this
    exact this.symm
  · intro h; subst h; rfl
/-- The document's text, and its tokens. -/
theorem texts_doc {s : List UInt8} (h1 : Txt.rep s = s) : Txt.rep ([60, 112, 62] ++ s.flatMap Ent.esc ++ [60, 47, 112, 62]) = [60, 112, 62] ++ s.flatMap Ent.esc ++ [60, 47, 112, 62] ∧
    Mk.tokens (docText ([60, 112, 62] ++ s.flatMap Ent.esc ++ [60, 47, 112, 62])) = ⟨1, [112], [], false, []⟩ :: ((if s = [] then [] else [Mk.txt s]) ++ [⟨2, [112], [], false, []⟩]) := by
  have hE := Mk.rep_flat Ent.esc (fun c h => (Mk.esc_ascii c).1 h) (fun c h => (Mk.esc_ascii c).2.1 h) _ s (Nat.le_refl _) h1
  have hR : Txt.rep ([60, 112, 62] ++ s.flatMap Ent.esc ++ [60, 47, 112, 62]) = [60, 112, 62] ++ s.flatMap Ent.esc ++ [60, 47, 112, 62] :=
    Mk.rep_two (Mk.rep_two (Mk.rep_ascii (by decide)) hE) (Mk.rep_ascii (by decide))
  have hC : ∀ c ∈ [60, 112, 62] ++ s.flatMap Ent.esc ++ [60, 47, 112, 62], c ≠ 13 := by
    intro c hc
    rcases List.mem_append.1 hc with hc | hc
    · rcases List.mem_append.1 hc with hc | hc
      · exact all_of (p := fun c => c ≠ 13) (by decide) c hc
      · exact Mk.flat_no (fun c d hd => ((Mk.esc_ascii c).2.2 d hd).2) s c hc
    · exact all_of (p := fun c => c ≠ 13) (by decide) c hc
  refine ⟨hR, ?_⟩
  rw [docText_same hR hC, Mk.tokens_p _ (Mk.flat_no (fun c d hd => ((Mk.esc_ascii c).2.2 d hd).1) s), decode_esc_all]
  by_cases h0 : s = []
  · rw [if_pos ((flat_nil s).2 h0), if_pos h0]
  · rw [if_neg (fun e => h0 ((flat_nil s).1 e)), if_neg h0]

set_option maxRecDepth 100000 in
set_option maxHeartbeats 2000000 in
theorem texts_walk (a : ByteArray) (w : World) (hE : Env w) (hz : a.size ≤ 140737488351232) :
    Calls Tryz.prog 5 #[.string a] w fun e w' => e = .returned (.bool true) ∧ Below w.heap.size w w' := by
  have HE := Lib.hid hE
  have haw := mawake_any w hE
  clear hE
  by_cases hbig : a.size ≤ 1500
  · have hbig' : (a.size : Int) ≤ 1500 := by omega
    obtain ⟨s, hs⟩ : ∃ s, a.data.toList = s := ⟨_, rfl⟩
    obtain rfl : a = tstr s := str_of_list hs
    rw [tstr_size] at hbig
    by_cases hrp : Txt.rep s = s
    · have f1 := eq_fact hrp
      by_cases hnl : Txt.newl false s = s
      · have f2 := eq_fact hnl
        obtain ⟨hdr, hdt⟩ := texts_doc hrp
        have hEl := Ent.flat_len Ent.esc Ent.esc_len s
        obtain ⟨E, hEE⟩ : ∃ E, s.flatMap Ent.esc = E := ⟨_, rfl⟩
        rw [hEE] at hdr hdt hEl
        have had1 : ∀ W : World, (Op.stringOp .add ⟨#[60, 112, 62]⟩ (tstr E)).run Tryz.prog W = .ok (.string (tstr ([60, 112, 62] ++ E))) W := fun W => by
          rw [show (⟨#[60, 112, 62]⟩ : ByteArray) = tstr [60, 112, 62] from rfl, run_string_add_sum W _ _ (by rw [tstr_size, tstr_size]; simp only [List.length_cons, List.length_nil]; omega), tstr_append]
        have had2 : ∀ W : World, (Op.stringOp .add (tstr ([60, 112, 62] ++ E)) ⟨#[60, 47, 112, 62]⟩).run Tryz.prog W = .ok (.string (tstr ([60, 112, 62] ++ E ++ [60, 47, 112, 62]))) W := fun W => by
          rw [show (⟨#[60, 47, 112, 62]⟩ : ByteArray) = tstr [60, 47, 112, 62] from rfl, run_string_add_sum W _ _ (by rw [tstr_size, tstr_size, List.length_append]; simp only [List.length_cons, List.length_nil]; omega), tstr_append]
        have hrr := fun W => rrepair_any (tstr s) W (by rw [tstr_size]; omega)
        have hrn := fun W => rnewlines_any (tstr s) W (by rw [tstr_size]; omega)
        have hes := fun W => rescape_text (tstr s) W (by rw [tstr_size]; omega)
        simp only [tstr_data] at hrr hrn hes
        rw [hEE] at hes
        have hdl : ([60, 112, 62] ++ E ++ [60, 47, 112, 62]).length ≤ 15000 := by
          rw [List.length_append, List.length_append]; simp only [List.length_cons, List.length_nil]; omega
        have htk := fun W (hW : Env W) => ktokens_any (tstr ([60, 112, 62] ++ E ++ [60, 47, 112, 62])) W hW (by rw [tstr_size]; exact hdl) (by rw [tstr_data, hdr]; exact hdl)
        simp only [tstr_data] at htk
        rw [hdt] at htk
        clear hdr hdt hEE hrp hnl hdl hEl
        generalize tstr ([60, 112, 62] ++ E ++ [60, 47, 112, 62]) = D at htk had2
        generalize tstr ([60, 112, 62] ++ E) = D1 at had1 had2
        generalize tstr E = EE at had1 hes
        generalize tstr (Txt.rep s) = R1 at hrr f1
        generalize tstr (Txt.newl false s) = R2 at hrn f2
        go_enter Tryz.func5, Tryz.ntmps5
        go_wp2_with fail
        refine haw.mono ?_
        clear haw
        rintro e w1 ⟨rfl, hb1⟩
        go_wp2_with fail
        refine (hrr w1).mono ?_
        clear hrr
        rintro e w2 ⟨rfl, hb2⟩
        go_wp2_with fail
        refine (hrn w2).mono ?_
        clear hrn
        rintro e w3 ⟨rfl, rfl⟩
        go_wp2_with fail
        refine (hes w2).mono ?_
        clear hes
        rintro e w3 ⟨rfl, rfl⟩
        have hb12 := below_trans' hb1 hb2
        have htk2 := htk w2 (HE.out.below hb12)
        clear htk hb1 hb2
        go_wp2_with fail
        refine htk2.mono ?_
        clear htk2
        rintro e w4 ⟨v, l, rfl, hl, hr, hb4⟩
        have hlen := congrArg List.length hl
        rw [List.length_map] at hlen
        have hB := below_trans' hb12 hb4
        by_cases h0 : s = []
        · subst h0
          have hem : ((tstr []).toList == []) = true := by rw [Lib.toList_data, tstr_data]; rfl
          have hem2 := tstr_none.1
          rw [if_pos rfl] at hlen
          have hl2 : l.length = 2 := hlen
          obtain ⟨A, c, rfl⟩ := hr.form
          rw [hl2]
          clear hl hlen hr hl2 hb12 hb4
          generalize tstr [] = S at hem hem2
          go_wp2_with fail
          go_ret
          exact ⟨rfl, hB⟩
        · obtain ⟨hem, hem2⟩ := tstr_some h0
          rw [if_neg h0] at hlen hl
          have hl3 : l.length = 3 := hlen
          obtain ⟨g, c, rfl, _, hgl, c0, c1, c2, c3, c4⟩ := hr.at 1 (by omega)
          have hl1 : l[1].1 = Mk.txt s := by
            have h9 := List.getElem_of_eq hl (i := 1) (by rw [List.length_map]; omega)
            simpa using h9
          rw [hl1] at c0 c4
          have k0 : w4.cell? ⟨g, 5, none⟩ = some (.int .i64 3) := c0
          have k4 : w4.cell? ⟨g, 9, none⟩ = some (.string (tstr s)) := c4
          rw [hl3]
          clear hl hlen hr hl3 hb12 hb4 c0 c1 c2 c3 c4 hl1 h0
          have heq : ((tstr s).toList == (tstr s).toList) = true := by simp
          clear f1 f2
          generalize tstr s = S at hem hem2 k4 heq hbig'
          go_wp2_with fail
          go_ret
          exact ⟨rfl, hB⟩
      · have f2 := ne_fact hnl
        have hrr := fun W => rrepair_any (tstr s) W (by rw [tstr_size]; omega)
        have hrn := fun W => rnewlines_any (tstr s) W (by rw [tstr_size]; omega)
        simp only [tstr_data] at hrr hrn
        clear hrp hnl
        generalize tstr (Txt.rep s) = R1 at hrr f1
        generalize tstr (Txt.newl false s) = R2 at hrn f2
        go_enter Tryz.func5, Tryz.ntmps5
        go_wp2_with fail
        refine haw.mono ?_
        clear haw
        rintro e w1 ⟨rfl, hb1⟩
        go_wp2_with fail
        refine (hrr w1).mono ?_
        clear hrr
        rintro e w2 ⟨rfl, hb2⟩
        go_wp2_with fail
        refine (hrn w2).mono ?_
        clear hrn
        rintro e w3 ⟨rfl, rfl⟩
        have hb12 := below_trans' hb1 hb2
        have haw2 := mawake_any w2 (HE.out.below hb12)
        go_wp2_with fail
        refine haw2.mono ?_
        rintro e w4 ⟨rfl, hb4⟩
        go_wp2_with fail
        go_ret
        exact ⟨rfl, below_trans' hb12 hb4⟩
    · have f1 := ne_fact hrp
      have hrr := fun W => rrepair_any (tstr s) W (by rw [tstr_size]; omega)
      simp only [tstr_data] at hrr
      clear hrp
      generalize tstr (Txt.rep s) = R1 at hrr f1
      go_enter Tryz.func5, Tryz.ntmps5
      go_wp2_with fail
      refine haw.mono ?_
      clear haw
      rintro e w1 ⟨rfl, hb1⟩
      go_wp2_with fail
      refine (hrr w1).mono ?_
      clear hrr
      rintro e w2 ⟨rfl, hb2⟩
      have hb12 := below_trans' hb1 hb2
      have haw2 := mawake_any w2 (HE.out.below hb12)
      go_wp2_with fail
      refine haw2.mono ?_
      rintro e w4 ⟨rfl, hb4⟩
      go_wp2_with fail
      go_ret
      exact ⟨rfl, below_trans' hb12 hb4⟩
  · have hbig' : ¬ (a.size : Int) ≤ 1500 := by omega
    go_enter Tryz.func5, Tryz.ntmps5
    go_wp2_with fail
    refine haw.mono ?_
    clear haw
    rintro e w1 ⟨rfl, hb1⟩
    have haw2 := mawake_any w1 (HE.out.below hb1)
    go_wp2_with fail
    refine haw2.mono ?_
    rintro e w4 ⟨rfl, hb4⟩
    go_wp2_with fail
    go_ret
    exact ⟨rfl, below_trans' hb1 hb4⟩

end Go.Proofs.YtckmlbcpldpkpaaGreatDoor

/- The statement MarkupRaw returns true: its walk. -/
namespace Go.Proofs.YtckmlbcpldpkpaaGreatDoor
open Go Go.RowKit
set_option linter.unusedVariables false

/-- The first </ of a text that has none, and does not end with <, and what follows. -/
theorem first_close : ∀ (s U : List UInt8), Mk.find [60, 47] s = none → (∀ h : s ≠ [], s.getLast h ≠ 60) → Mk.find [60, 47] (s ++ 60 :: 47 :: U) = some s.length := by
  intro s
  induction s with
  | nil => intro U _ _; exact Mk.find_here (by simp [List.isPrefixOf])
  | cons c r ih =>
    intro U h hl
    by_cases hp : [60, 47].isPrefixOf (c :: r) = true
    · rw [Mk.find_here hp] at h; cases h
    · have hp := Bool.eq_false_iff.2 hp
      rw [Mk.find_next hp] at h
      have hp2 : [60, 47].isPrefixOf (c :: (r ++ 60 :: 47 :: U)) = false := by
        cases r with
        | nil =>
          have : c ≠ 60 := hl (List.cons_ne_nil _ _)
          rw [Bool.eq_false_iff]; intro e
          simp [List.isPrefixOf] at e
        | cons d r =>
          rw [← hp]
          simp [List.isPrefixOf]
      rw [List.cons_append, Mk.find_next hp2, ih U (by simpa using h) (fun hr => by
        have := hl (List.cons_ne_nil _ _)
        rwa [List.getLast_cons hr] at this)]
      rfl
theorem closing_at {tag s U : List UInt8} (h : Mk.find [60, 47] s = none) (hl : ∀ h : s ≠ [], s.getLast h ≠ 60) (hc : Mk.closes tag (60 :: 47 :: U) = true) : Mk.closing tag (s ++ 60 :: 47 :: U) = s.length := by
  rw [Mk.closing_raw, rawEnd_skip (first_close s U h hl), List.drop_left, Mk.closes_zero hc]
  simp
theorem raw_doc {b : UInt8} {r s U : List UInt8} (hb : Ent.isL b = true) (hn : ∀ c ∈ b :: r, Mk.stopC c = false) (hlo : (b :: r).map Txt.lo = b :: r) (hR : Mk.Rawish (b :: r)) (h : Mk.find [60, 47] s = none) (hl : ∀ h : s ≠ [], s.getLast h ≠ 60) (hc : Mk.closes (b :: r) (60 :: 47 :: U) = true) :
    Mk.tokens (60 :: (b :: r) ++ 62 :: (s ++ 60 :: 47 :: U)) = ⟨1, b :: r, [], false, []⟩ :: ((if s = [] then [] else [Mk.txt (Mk.rawTxt (b :: r) s)]) ++ Mk.tokens (60 :: 47 :: U)) := by
  have hs := Mk.start_plain hn (s ++ 60 :: 47 :: U)
  rw [hlo] at hs
  have h1 := Mk.tokens_raw (b := b) (r := r ++ 62 :: (s ++ 60 :: 47 :: U)) hb hs hR
  have e : 60 :: (b :: r) ++ 62 :: (s ++ 60 :: 47 :: U) = 60 :: b :: (r ++ 62 :: (s ++ 60 :: 47 :: U)) := rfl
  rw [e, h1]
  simp only
  rw [closing_at h hl hc, List.drop_left]
  congr 2
  unfold Mk.rawPart
  rw [closing_at h hl hc, List.take_left]
  by_cases h0 : s = []
  · subst h0
    rw [if_pos rfl, if_pos]
    unfold Mk.rawTxt
    split
    · exact Ent.decode_nil
    · rfl
  · rw [if_neg h0, if_neg (Mk.rawTxt_ne _ h0)]

/-- The document with script. -/
theorem raw_doc0 {s : List UInt8} (h1 : Txt.rep s = s) (h2 : Txt.newl false s = s) (h : Mk.find [60, 47] s = none) (hl : ∀ h : s ≠ [], s.getLast h ≠ 60) :
    Txt.rep ([60, 115, 99, 114, 105, 112, 116, 62] ++ s ++ [60, 47, 83, 67, 82, 73, 80, 84, 32, 62, 122]) = [60, 115, 99, 114, 105, 112, 116, 62] ++ s ++ [60, 47, 83, 67, 82, 73, 80, 84, 32, 62, 122] ∧ Mk.tokens (docText ([60, 115, 99, 114, 105, 112, 116, 62] ++ s ++ [60, 47, 83, 67, 82, 73, 80, 84, 32, 62, 122])) = ⟨1, [115, 99, 114, 105, 112, 116], [], false, []⟩ :: ((if s = [] then [] else [Mk.txt (s)]) ++ [⟨2, [115, 99, 114, 105, 112, 116], [], false, []⟩, Mk.txt [122]]) := by
  have hR : Txt.rep ([60, 115, 99, 114, 105, 112, 116, 62] ++ s ++ [60, 47, 83, 67, 82, 73, 80, 84, 32, 62, 122]) = [60, 115, 99, 114, 105, 112, 116, 62] ++ s ++ [60, 47, 83, 67, 82, 73, 80, 84, 32, 62, 122] := Mk.rep_two (Mk.rep_two (Mk.rep_ascii (by decide)) h1) (Mk.rep_ascii (by decide))
  have hC : ∀ c ∈ [60, 115, 99, 114, 105, 112, 116, 62] ++ s ++ [60, 47, 83, 67, 82, 73, 80, 84, 32, 62, 122], c ≠ 13 := by
    intro c hc
    rcases List.mem_append.1 hc with hc | hc
    · rcases List.mem_append.1 hc with hc | hc
      · exact all_of (p := fun c => c ≠ 13) (by decide) c hc
      · exact Mk.no_cr h2 c hc
    · exact all_of (p := fun c => c ≠ 13) (by decide) c hc
  refine ⟨hR, ?_⟩
  rw [docText_same hR hC]
  have hd := raw_doc (b := 115) (r := [99, 114, 105, 112, 116]) (s := s) (U := [83, 67, 82, 73, 80, 84, 32, 62, 122]) rfl (by decide) (by decide) (show (Mk.rawName _ || Mk.plainName _) = true by decide) h hl (by decide)
  have he : Mk.tokens [60, 47, 83, 67, 82, 73, 80, 84, 32, 62, 122] = [⟨2, [115, 99, 114, 105, 112, 116], [], false, []⟩, Mk.txt [122]] := by
    have := Mk.tokens_end (d := 83) (r := [67, 82, 73, 80, 84, 32, 62, 122]) (k := 9) rfl rfl
    rw [this]
    show ⟨2, _, [], false, []⟩ :: Mk.tokens [122] = _
    rw [Mk.tokens_last (by decide) (by decide), Ent.decode_same [122] (by decide)]
    rfl
  have e : [60, 115, 99, 114, 105, 112, 116, 62] ++ s ++ [60, 47, 83, 67, 82, 73, 80, 84, 32, 62, 122] = 60 :: (115 :: [99, 114, 105, 112, 116]) ++ 62 :: (s ++ 60 :: 47 :: [83, 67, 82, 73, 80, 84, 32, 62, 122]) := by simp
  rw [e, hd, he]
  have ht : Mk.rawTxt ([115, 99, 114, 105, 112, 116]) s = s := by unfold Mk.rawTxt; rw [if_neg (by decide)]
  rw [ht]

/-- The document with style. -/
theorem raw_doc1 {s : List UInt8} (h1 : Txt.rep s = s) (h2 : Txt.newl false s = s) (h : Mk.find [60, 47] s = none) (hl : ∀ h : s ≠ [], s.getLast h ≠ 60) :
    Txt.rep ([60, 115, 116, 121, 108, 101, 62] ++ s ++ [60, 47, 83, 84, 89, 76, 69, 32, 62, 122]) = [60, 115, 116, 121, 108, 101, 62] ++ s ++ [60, 47, 83, 84, 89, 76, 69, 32, 62, 122] ∧ Mk.tokens (docText ([60, 115, 116, 121, 108, 101, 62] ++ s ++ [60, 47, 83, 84, 89, 76, 69, 32, 62, 122])) = ⟨1, [115, 116, 121, 108, 101], [], false, []⟩ :: ((if s = [] then [] else [Mk.txt (s)]) ++ [⟨2, [115, 116, 121, 108, 101], [], false, []⟩, Mk.txt [122]]) := by
  have hR : Txt.rep ([60, 115, 116, 121, 108, 101, 62] ++ s ++ [60, 47, 83, 84, 89, 76, 69, 32, 62, 122]) = [60, 115, 116, 121, 108, 101, 62] ++ s ++ [60, 47, 83, 84, 89, 76, 69, 32, 62, 122] := Mk.rep_two (Mk.rep_two (Mk.rep_ascii (by decide)) h1) (Mk.rep_ascii (by decide))
  have hC : ∀ c ∈ [60, 115, 116, 121, 108, 101, 62] ++ s ++ [60, 47, 83, 84, 89, 76, 69, 32, 62, 122], c ≠ 13 := by
    intro c hc
    rcases List.mem_append.1 hc with hc | hc
    · rcases List.mem_append.1 hc with hc | hc
      · exact all_of (p := fun c => c ≠ 13) (by decide) c hc
      · exact Mk.no_cr h2 c hc
    · exact all_of (p := fun c => c ≠ 13) (by decide) c hc
  refine ⟨hR, ?_⟩
  rw [docText_same hR hC]
  have hd := raw_doc (b := 115) (r := [116, 121, 108, 101]) (s := s) (U := [83, 84, 89, 76, 69, 32, 62, 122]) rfl (by decide) (by decide) (show (Mk.rawName _ || Mk.plainName _) = true by decide) h hl (by decide)
  have he : Mk.tokens [60, 47, 83, 84, 89, 76, 69, 32, 62, 122] = [⟨2, [115, 116, 121, 108, 101], [], false, []⟩, Mk.txt [122]] := by
    have := Mk.tokens_end (d := 83) (r := [84, 89, 76, 69, 32, 62, 122]) (k := 8) rfl rfl
    rw [this]
    show ⟨2, _, [], false, []⟩ :: Mk.tokens [122] = _
    rw [Mk.tokens_last (by decide) (by decide), Ent.decode_same [122] (by decide)]
    rfl
  have e : [60, 115, 116, 121, 108, 101, 62] ++ s ++ [60, 47, 83, 84, 89, 76, 69, 32, 62, 122] = 60 :: (115 :: [116, 121, 108, 101]) ++ 62 :: (s ++ 60 :: 47 :: [83, 84, 89, 76, 69, 32, 62, 122]) := by simp
  rw [e, hd, he]
  have ht : Mk.rawTxt ([115, 116, 121, 108, 101]) s = s := by unfold Mk.rawTxt; rw [if_neg (by decide)]
  rw [ht]

/-- The document with title. -/
theorem raw_doc2 {s : List UInt8} (h1 : Txt.rep s = s) (h2 : Txt.newl false s = s) (h : Mk.find [60, 47] s = none) (hl : ∀ h : s ≠ [], s.getLast h ≠ 60) :
    Txt.rep ([60, 116, 105, 116, 108, 101, 62] ++ s ++ [60, 47, 84, 73, 84, 76, 69, 32, 62, 122]) = [60, 116, 105, 116, 108, 101, 62] ++ s ++ [60, 47, 84, 73, 84, 76, 69, 32, 62, 122] ∧ Mk.tokens (docText ([60, 116, 105, 116, 108, 101, 62] ++ s ++ [60, 47, 84, 73, 84, 76, 69, 32, 62, 122])) = ⟨1, [116, 105, 116, 108, 101], [], false, []⟩ :: ((if s = [] then [] else [Mk.txt (Ent.decode s)]) ++ [⟨2, [116, 105, 116, 108, 101], [], false, []⟩, Mk.txt [122]]) := by
  have hR : Txt.rep ([60, 116, 105, 116, 108, 101, 62] ++ s ++ [60, 47, 84, 73, 84, 76, 69, 32, 62, 122]) = [60, 116, 105, 116, 108, 101, 62] ++ s ++ [60, 47, 84, 73, 84, 76, 69, 32, 62, 122] := Mk.rep_two (Mk.rep_two (Mk.rep_ascii (by decide)) h1) (Mk.rep_ascii (by decide))
  have hC : ∀ c ∈ [60, 116, 105, 116, 108, 101, 62] ++ s ++ [60, 47, 84, 73, 84, 76, 69, 32, 62, 122], c ≠ 13 := by
    intro c hc
    rcases List.mem_append.1 hc with hc | hc
    · rcases List.mem_append.1 hc with hc | hc
      · exact all_of (p := fun c => c ≠ 13) (by decide) c hc
      · exact Mk.no_cr h2 c hc
    · exact all_of (p := fun c => c ≠ 13) (by decide) c hc
  refine ⟨hR, ?_⟩
  rw [docText_same hR hC]
  have hd := raw_doc (b := 116) (r := [105, 116, 108, 101]) (s := s) (U := [84, 73, 84, 76, 69, 32, 62, 122]) rfl (by decide) (by decide) (show (Mk.rawName _ || Mk.plainName _) = true by decide) h hl (by decide)
  have he : Mk.tokens [60, 47, 84, 73, 84, 76, 69, 32, 62, 122] = [⟨2, [116, 105, 116, 108, 101], [], false, []⟩, Mk.txt [122]] := by
    have := Mk.tokens_end (d := 84) (r := [73, 84, 76, 69, 32, 62, 122]) (k := 8) rfl rfl
    rw [this]
    show ⟨2, _, [], false, []⟩ :: Mk.tokens [122] = _
    rw [Mk.tokens_last (by decide) (by decide), Ent.decode_same [122] (by decide)]
    rfl
  have e : [60, 116, 105, 116, 108, 101, 62] ++ s ++ [60, 47, 84, 73, 84, 76, 69, 32, 62, 122] = 60 :: (116 :: [105, 116, 108, 101]) ++ 62 :: (s ++ 60 :: 47 :: [84, 73, 84, 76, 69, 32, 62, 122]) := by simp
  rw [e, hd, he]
  have ht : Mk.rawTxt ([116, 105, 116, 108, 101]) s = Ent.decode s := by unfold Mk.rawTxt; rw [if_pos (by decide)]
  rw [ht]

/-- The document with textarea. -/
theorem raw_doc3 {s : List UInt8} (h1 : Txt.rep s = s) (h2 : Txt.newl false s = s) (h : Mk.find [60, 47] s = none) (hl : ∀ h : s ≠ [], s.getLast h ≠ 60) :
    Txt.rep ([60, 116, 101, 120, 116, 97, 114, 101, 97, 62] ++ s ++ [60, 47, 84, 69, 88, 84, 65, 82, 69, 65, 32, 62, 122]) = [60, 116, 101, 120, 116, 97, 114, 101, 97, 62] ++ s ++ [60, 47, 84, 69, 88, 84, 65, 82, 69, 65, 32, 62, 122] ∧ Mk.tokens (docText ([60, 116, 101, 120, 116, 97, 114, 101, 97, 62] ++ s ++ [60, 47, 84, 69, 88, 84, 65, 82, 69, 65, 32, 62, 122])) = ⟨1, [116, 101, 120, 116, 97, 114, 101, 97], [], false, []⟩ :: ((if s = [] then [] else [Mk.txt (Ent.decode s)]) ++ [⟨2, [116, 101, 120, 116, 97, 114, 101, 97], [], false, []⟩, Mk.txt [122]]) := by
  have hR : Txt.rep ([60, 116, 101, 120, 116, 97, 114, 101, 97, 62] ++ s ++ [60, 47, 84, 69, 88, 84, 65, 82, 69, 65, 32, 62, 122]) = [60, 116, 101, 120, 116, 97, 114, 101, 97, 62] ++ s ++ [60, 47, 84, 69, 88, 84, 65, 82, 69, 65, 32, 62, 122] := Mk.rep_two (Mk.rep_two (Mk.rep_ascii (by decide)) h1) (Mk.rep_ascii (by decide))
  have hC : ∀ c ∈ [60, 116, 101, 120, 116, 97, 114, 101, 97, 62] ++ s ++ [60, 47, 84, 69, 88, 84, 65, 82, 69, 65, 32, 62, 122], c ≠ 13 := by
    intro c hc
    rcases List.mem_append.1 hc with hc | hc
    · rcases List.mem_append.1 hc with hc | hc
      · exact all_of (p := fun c => c ≠ 13) (by decide) c hc
      · exact Mk.no_cr h2 c hc
    · exact all_of (p := fun c => c ≠ 13) (by decide) c hc
  refine ⟨hR, ?_⟩
  rw [docText_same hR hC]
  have hd := raw_doc (b := 116) (r := [101, 120, 116, 97, 114, 101, 97]) (s := s) (U := [84, 69, 88, 84, 65, 82, 69, 65, 32, 62, 122]) rfl (by decide) (by decide) (show (Mk.rawName _ || Mk.plainName _) = true by decide) h hl (by decide)
  have he : Mk.tokens [60, 47, 84, 69, 88, 84, 65, 82, 69, 65, 32, 62, 122] = [⟨2, [116, 101, 120, 116, 97, 114, 101, 97], [], false, []⟩, Mk.txt [122]] := by
    have := Mk.tokens_end (d := 84) (r := [69, 88, 84, 65, 82, 69, 65, 32, 62, 122]) (k := 11) rfl rfl
    rw [this]
    show ⟨2, _, [], false, []⟩ :: Mk.tokens [122] = _
    rw [Mk.tokens_last (by decide) (by decide), Ent.decode_same [122] (by decide)]
    rfl
  have e : [60, 116, 101, 120, 116, 97, 114, 101, 97, 62] ++ s ++ [60, 47, 84, 69, 88, 84, 65, 82, 69, 65, 32, 62, 122] = 60 :: (116 :: [101, 120, 116, 97, 114, 101, 97]) ++ 62 :: (s ++ 60 :: 47 :: [84, 69, 88, 84, 65, 82, 69, 65, 32, 62, 122]) := by simp
  rw [e, hd, he]
  have ht : Mk.rawTxt ([116, 101, 120, 116, 97, 114, 101, 97]) s = Ent.decode s := by unfold Mk.rawTxt; rw [if_pos (by decide)]
  rw [ht]

end Go.Proofs.YtckmlbcpldpkpaaGreatDoor

/- The ways out of MarkupRaw, where nothing is tried. -/
namespace Go.Proofs.YtckmlbcpldpkpaaGreatDoor
open Go Go.RowKit
set_option linter.unusedVariables false

theorem find_fact {s : List UInt8} (W : World) (h : s.length ≤ 1500) : Calls Tryz.prog 16 #[.string (tstr s), .int .i64 0, .string ⟨#[60, 47]⟩] W fun e w' => e = .returned (.int .i64 (fnd 0 (Mk.find [60, 47] s))) ∧ W = w' := by
  have := mfind_any (tstr s) ⟨#[60, 47]⟩ 0 W (by rw [tstr_size]; omega) (by decide) (by decide) (by decide)
  rwa [List.drop_zero, tstr_data] at this

set_option maxRecDepth 100000 in
set_option maxHeartbeats 2000000 in
theorem raw_big (a : ByteArray) (k : Int) (w : World) (hE : Env w) (hz : a.size ≤ 140737488351232) (hb : ¬ a.size ≤ 1500) :
    Calls Tryz.prog 6 #[.string a, .int .u8 k] w fun e w' => e = .returned (.bool true) ∧ Below w.heap.size w w' := by
  have HE := Lib.hid hE
  have haw := mawake_any w hE
  clear hE
  have hbig' : ¬ (a.size : Int) ≤ 1500 := by omega
  go_enter Tryz.func6, Tryz.ntmps6
  go_wp2_with fail
  refine haw.mono ?_
  clear haw
  rintro e w1 ⟨rfl, hb1⟩
  have haw2 := mawake_any w1 (HE.out.below hb1)
  clear HE
  go_wp2_with fail
  refine haw2.mono ?_
  rintro e w4 ⟨rfl, hb4⟩
  go_wp2_with fail
  go_ret
  exact ⟨rfl, below_trans' hb1 hb4⟩

set_option maxRecDepth 100000 in
set_option maxHeartbeats 2000000 in
theorem raw_rep (a : ByteArray) (k : Int) (w : World) (hE : Env w) (hz : a.size ≤ 140737488351232) (hb : a.size ≤ 1500) (h1 : Txt.rep a.data.toList ≠ a.data.toList) :
    Calls Tryz.prog 6 #[.string a, .int .u8 k] w fun e w' => e = .returned (.bool true) ∧ Below w.heap.size w w' := by
  have HE := Lib.hid hE
  have haw := mawake_any w hE
  clear hE
  obtain ⟨s, hs⟩ : ∃ s, a.data.toList = s := ⟨_, rfl⟩
  obtain rfl : a = tstr s := str_of_list hs
  have hbig : s.length ≤ 1500 := by rw [tstr_size] at hb; exact hb
  have hbig' : ((tstr s).size : Int) ≤ 1500 := by rw [tstr_size]; omega
  rw [hs] at h1
  have hrp := h1
  have f1 := ne_fact hrp
  have hrr := fun W => rrepair_any (tstr s) W (by rw [tstr_size]; omega)
  simp only [tstr_data] at hrr
  clear hrp h1 hs hbig
  generalize tstr (Txt.rep s) = R1 at hrr f1
  go_enter Tryz.func6, Tryz.ntmps6
  go_wp2_with fail
  refine haw.mono ?_
  clear haw
  rintro e w1 ⟨rfl, hb1⟩
  go_wp2_with fail
  refine (hrr w1).mono ?_
  clear hrr
  rintro e w2 ⟨rfl, hb2⟩
  have hb12 := below_trans' hb1 hb2
  have haw2 := mawake_any w2 (HE.out.below hb12)
  clear HE
  go_wp2_with fail
  refine haw2.mono ?_
  rintro e w4 ⟨rfl, hb4⟩
  go_wp2_with fail
  go_ret
  exact ⟨rfl, below_trans' hb12 hb4⟩

set_option maxRecDepth 100000 in
set_option maxHeartbeats 2000000 in
theorem raw_newl (a : ByteArray) (k : Int) (w : World) (hE : Env w) (hz : a.size ≤ 140737488351232) (hb : a.size ≤ 1500) (h1 : Txt.rep a.data.toList = a.data.toList) (h2 : Txt.newl false a.data.toList ≠ a.data.toList) :
    Calls Tryz.prog 6 #[.string a, .int .u8 k] w fun e w' => e = .returned (.bool true) ∧ Below w.heap.size w w' := by
  have HE := Lib.hid hE
  have haw := mawake_any w hE
  clear hE
  obtain ⟨s, hs⟩ : ∃ s, a.data.toList = s := ⟨_, rfl⟩
  obtain rfl : a = tstr s := str_of_list hs
  have hbig : s.length ≤ 1500 := by rw [tstr_size] at hb; exact hb
  have hbig' : ((tstr s).size : Int) ≤ 1500 := by rw [tstr_size]; omega
  rw [hs] at h1
  rw [hs] at h2
  have hrp := h1
  have hnl := h2
  have f1 := eq_fact hrp
  have hrr := fun W => rrepair_any (tstr s) W (by rw [tstr_size]; omega)
  simp only [tstr_data] at hrr
  have f2 := ne_fact hnl
  have hrn := fun W => rnewlines_any (tstr s) W (by rw [tstr_size]; omega)
  simp only [tstr_data] at hrn
  clear hrp hnl h1 h2 hs hbig
  generalize tstr (Txt.rep s) = R1 at hrr f1
  generalize tstr (Txt.newl false s) = R2 at hrn f2
  go_enter Tryz.func6, Tryz.ntmps6
  go_wp2_with fail
  refine haw.mono ?_
  clear haw
  rintro e w1 ⟨rfl, hb1⟩
  go_wp2_with fail
  refine (hrr w1).mono ?_
  clear hrr
  rintro e w2 ⟨rfl, hb2⟩
  have hb12 := below_trans' hb1 hb2
  go_wp2_with fail
  refine (hrn w2).mono ?_
  clear hrn
  rintro e w3 ⟨rfl, rfl⟩
  have haw2 := mawake_any w2 (HE.out.below hb12)
  clear HE
  go_wp2_with fail
  refine haw2.mono ?_
  rintro e w4 ⟨rfl, hb4⟩
  go_wp2_with fail
  go_ret
  exact ⟨rfl, below_trans' hb12 hb4⟩

set_option maxRecDepth 100000 in
set_option maxHeartbeats 2000000 in
theorem raw_find (a : ByteArray) (k : Int) (w : World) (hE : Env w) (hz : a.size ≤ 140737488351232) (hb : a.size ≤ 1500) (h1 : Txt.rep a.data.toList = a.data.toList) (h2 : Txt.newl false a.data.toList = a.data.toList) (h3 : Mk.find [60, 47] a.data.toList ≠ none) :
    Calls Tryz.prog 6 #[.string a, .int .u8 k] w fun e w' => e = .returned (.bool true) ∧ Below w.heap.size w w' := by
  have HE := Lib.hid hE
  have haw := mawake_any w hE
  clear hE
  obtain ⟨s, hs⟩ : ∃ s, a.data.toList = s := ⟨_, rfl⟩
  obtain rfl : a = tstr s := str_of_list hs
  have hbig : s.length ≤ 1500 := by rw [tstr_size] at hb; exact hb
  have hbig' : ((tstr s).size : Int) ≤ 1500 := by rw [tstr_size]; omega
  rw [hs] at h1
  rw [hs] at h2
  rw [hs] at h3
  have hrp := h1
  have hnl := h2
  have f1 := eq_fact hrp
  have hrr := fun W => rrepair_any (tstr s) W (by rw [tstr_size]; omega)
  simp only [tstr_data] at hrr
  have f2 := eq_fact hnl
  have hrn := fun W => rnewlines_any (tstr s) W (by rw [tstr_size]; omega)
  simp only [tstr_data] at hrn
  have hfi := fun W => find_fact W hbig
  cases hF : Mk.find [60, 47] s with
  | none => exact absurd hF h3
  | some j =>
    rw [hF] at hfi
    have hj : (fnd 0 (some j) : Int) = (j : Int) := by show ((0 + j : Nat) : Int) = _; rw [Nat.zero_add]
    rw [hj] at hfi
    have hj0 : (0 : Int) ≤ (j : Int) := by omega
    obtain ⟨J, hJ⟩ : ∃ J : Int, (j : Int) = J := ⟨_, rfl⟩
    rw [hJ] at hfi hj0
    clear hrp hnl h1 h2 h3 hs hbig hj hF hJ
    generalize tstr (Txt.rep s) = R1 at hrr f1
    generalize tstr (Txt.newl false s) = R2 at hrn f2
    go_enter Tryz.func6, Tryz.ntmps6
    go_wp2_with fail
    refine haw.mono ?_
    clear haw
    rintro e w1 ⟨rfl, hb1⟩
    go_wp2_with fail
    refine (hrr w1).mono ?_
    clear hrr
    rintro e w2 ⟨rfl, hb2⟩
    have hb12 := below_trans' hb1 hb2
    go_wp2_with fail
    refine (hrn w2).mono ?_
    clear hrn
    rintro e w3 ⟨rfl, rfl⟩
    go_wp2_with fail
    refine (hfi w2).mono ?_
    clear hfi
    rintro e w3 ⟨rfl, rfl⟩
    have haw2 := mawake_any w2 (HE.out.below hb12)
    clear HE
    go_wp2_with fail
    refine haw2.mono ?_
    rintro e w4 ⟨rfl, hb4⟩
    go_wp2_with fail
    go_ret
    exact ⟨rfl, below_trans' hb12 hb4⟩

set_option maxRecDepth 100000 in
set_option maxHeartbeats 2000000 in
theorem raw_last (a : ByteArray) (k : Int) (w : World) (hE : Env w) (hz : a.size ≤ 140737488351232) (hb : a.size ≤ 1500) (h1 : Txt.rep a.data.toList = a.data.toList) (h2 : Txt.newl false a.data.toList = a.data.toList) (h3 : Mk.find [60, 47] a.data.toList = none) (hq : ∃ h : a.size - 1 < a.size, (a[a.size - 1]).toNat = 60) :
    Calls Tryz.prog 6 #[.string a, .int .u8 k] w fun e w' => e = .returned (.bool true) ∧ Below w.heap.size w w' := by
  have HE := Lib.hid hE
  have haw := mawake_any w hE
  clear hE
  obtain ⟨s, hs⟩ : ∃ s, a.data.toList = s := ⟨_, rfl⟩
  obtain rfl : a = tstr s := str_of_list hs
  have hbig : s.length ≤ 1500 := by rw [tstr_size] at hb; exact hb
  have hbig' : ((tstr s).size : Int) ≤ 1500 := by rw [tstr_size]; omega
  rw [hs] at h1
  rw [hs] at h2
  rw [hs] at h3
  have hrp := h1
  have hnl := h2
  have f1 := eq_fact hrp
  have hrr := fun W => rrepair_any (tstr s) W (by rw [tstr_size]; omega)
  simp only [tstr_data] at hrr
  have f2 := eq_fact hnl
  have hrn := fun W => rnewlines_any (tstr s) W (by rw [tstr_size]; omega)
  simp only [tstr_data] at hrn
  have hfi := fun W => find_fact W hbig
  rw [h3] at hfi
  have hj : fnd 0 none = -1 := rfl
  rw [hj] at hfi
  obtain ⟨hq1, hq2⟩ := hq
  have hpos : 0 < (tstr s).size := by omega
  have hposI : (0 : Int) < ((tstr s).size : Int) := by omega
  clear hrp hnl h1 h2 h3 hs hbig hj
  generalize tstr (Txt.rep s) = R1 at hrr f1
  generalize tstr (Txt.newl false s) = R2 at hrn f2
  generalize tstr s = S at *
  go_enter Tryz.func6, Tryz.ntmps6
  go_wp2_with fail
  refine haw.mono ?_
  clear haw
  rintro e w1 ⟨rfl, hb1⟩
  go_wp2_with fail
  refine (hrr w1).mono ?_
  clear hrr
  rintro e w2 ⟨rfl, hb2⟩
  have hb12 := below_trans' hb1 hb2
  go_wp2_with fail
  refine (hrn w2).mono ?_
  clear hrn
  rintro e w3 ⟨rfl, rfl⟩
  go_wp2_with fail
  refine (hfi w2).mono ?_
  clear hfi
  rintro e w3 ⟨rfl, rfl⟩
  have haw2 := mawake_any w2 (HE.out.below hb12)
  clear HE
  go_wp2_with fail
  refine haw2.mono ?_
  rintro e w4 ⟨rfl, hb4⟩
  go_wp2_with fail
  go_ret
  exact ⟨rfl, below_trans' hb12 hb4⟩


end Go.Proofs.YtckmlbcpldpkpaaGreatDoor

/- MarkupRaw with the names script and style. -/
namespace Go.Proofs.YtckmlbcpldpkpaaGreatDoor
open Go Go.RowKit
set_option linter.unusedVariables false

theorem last_no {s : List UInt8} (h : s ≠ []) (hl : ∀ h : s ≠ [], s.getLast h ≠ 60) (hq : (tstr s).size - 1 < (tstr s).size) : ((((tstr s)[(tstr s).size - 1]).toNat : Int) == 60) = false := by
  have hg : (tstr s)[(tstr s).size - 1] = s.getLast h := by
    rw [List.getLast_eq_getElem]
    rfl
  rw [hg, beq_eq_false_iff_ne]
  intro e
  exact hl h (UInt8.toNat_inj.1 (by have : (60 : UInt8).toNat = 60 := rfl; omega))

set_option maxRecDepth 100000 in
set_option maxHeartbeats 2000000 in
theorem raw_main0e (a : ByteArray) (k : Int) (w : World) (hE : Env w) (hz : a.size ≤ 140737488351232) (hb : a.size ≤ 1500) (h1 : Txt.rep a.data.toList = a.data.toList) (h2 : Txt.newl false a.data.toList = a.data.toList) (h3 : Mk.find [60, 47] a.data.toList = none) (hk0 : 0 ≤ k) (hk : Int.tmod k 4 = 0) (he : a.data.toList = []) :
    Calls Tryz.prog 6 #[.string a, .int .u8 k] w fun e w' => e = .returned (.bool true) ∧ Below w.heap.size w w' := by
  have HE := Lib.hid hE
  have haw := mawake_any w hE
  clear hE
  obtain ⟨s, hs⟩ : ∃ s, a.data.toList = s := ⟨_, rfl⟩
  obtain rfl : a = tstr s := str_of_list hs
  rw [hs] at he
  have hbig : s.length ≤ 1500 := by rw [tstr_size] at hb; exact hb
  have hbig' : ((tstr s).size : Int) ≤ 1500 := by rw [tstr_size]; omega
  rw [hs] at h1
  rw [hs] at h2
  rw [hs] at h3
  have hrp := h1
  have hnl := h2
  have f1 := eq_fact hrp
  have hrr := fun W => rrepair_any (tstr s) W (by rw [tstr_size]; omega)
  simp only [tstr_data] at hrr
  have f2 := eq_fact hnl
  have hrn := fun W => rnewlines_any (tstr s) W (by rw [tstr_size]; omega)
  simp only [tstr_data] at hrn
  have hfi := fun W => find_fact W hbig
  rw [h3] at hfi
  rw [show fnd 0 none = -1 from rfl] at hfi
  obtain ⟨hdr, hdt⟩ := raw_doc0 hrp hnl h3 (fun h e => absurd he h)
  have hup : ∀ W : World, Calls Tryz.prog 18 #[.string ⟨#[115, 99, 114, 105, 112, 116]⟩] W fun e w' => e = .returned (.string ⟨#[83, 67, 82, 73, 80, 84]⟩) ∧ Below W.heap.size W w' := fun W => rupper_any ⟨#[115, 99, 114, 105, 112, 116]⟩ W (by decide)
  have hdl : ([60, 115, 99, 114, 105, 112, 116, 62] ++ s ++ [60, 47, 83, 67, 82, 73, 80, 84, 32, 62, 122]).length ≤ 15000 := by rw [List.length_append, List.length_append]; simp only [List.length_cons, List.length_nil]; omega
  have htk := fun W (hW : Env W) => ktokens_any (tstr ([60, 115, 99, 114, 105, 112, 116, 62] ++ s ++ [60, 47, 83, 67, 82, 73, 80, 84, 32, 62, 122])) W hW (by rw [tstr_size]; exact hdl) (by rw [tstr_data, hdr]; exact hdl)
  simp only [tstr_data] at htk
  rw [hdt] at htk
  have hcat : (⟨#[60]⟩ ++ ⟨#[115, 99, 114, 105, 112, 116]⟩ ++ ⟨#[62]⟩ ++ tstr s ++ ⟨#[60, 47]⟩ ++ ⟨#[83, 67, 82, 73, 80, 84]⟩ ++ ⟨#[32, 62, 122]⟩ : ByteArray) = tstr ([60, 115, 99, 114, 105, 112, 116, 62] ++ s ++ [60, 47, 83, 67, 82, 73, 80, 84, 32, 62, 122]) := by
      rw [show (⟨#[60]⟩ : ByteArray) = tstr [60] from rfl, show (⟨#[115, 99, 114, 105, 112, 116]⟩ : ByteArray) = tstr [115, 99, 114, 105, 112, 116] from rfl, show (⟨#[62]⟩ : ByteArray) = tstr [62] from rfl, show (⟨#[60, 47]⟩ : ByteArray) = tstr [60, 47] from rfl, show (⟨#[83, 67, 82, 73, 80, 84]⟩ : ByteArray) = tstr [83, 67, 82, 73, 80, 84] from rfl, show (⟨#[32, 62, 122]⟩ : ByteArray) = tstr [32, 62, 122] from rfl, tstr_append, tstr_append, tstr_append, tstr_append, tstr_append, tstr_append]
      congr 1
      simp
  clear hrp hnl hdr hdt h1 h2 h3 hdl
  generalize tstr ([60, 115, 99, 114, 105, 112, 116, 62] ++ s ++ [60, 47, 83, 67, 82, 73, 80, 84, 32, 62, 122]) = D3 at hcat htk
  generalize tstr (Txt.rep s) = R1 at hrr f1
  generalize tstr (Txt.newl false s) = R2 at hrn f2
  have hm1 : Int.tmod k 4 = 0 := hk
  have hm2 : k % 4 = 0 := by rw [← Int.tmod_eq_emod_of_nonneg hk0]; exact hk
  have hz0 : ((tstr s).size : Int) = 0 := by rw [he]; rfl
  have hem : ((tstr s).toList == []) = true := by rw [he, Lib.toList_data, tstr_data]; rfl
  rw [if_pos he] at htk
  clear he hs hbig
  generalize tstr s = S at *
  go_enter Tryz.func6, Tryz.ntmps6
  go_wp2_with fail
  refine haw.mono ?_
  clear haw
  rintro e w1 ⟨rfl, hb1⟩
  go_wp2_with fail
  refine (hrr w1).mono ?_
  clear hrr
  rintro e w2 ⟨rfl, hb2⟩
  have hb12 := below_trans' hb1 hb2
  go_wp2_with fail
  refine (hrn w2).mono ?_
  clear hrn
  rintro e w3 ⟨rfl, rfl⟩
  go_wp2_with fail
  refine (hfi w2).mono ?_
  clear hfi
  rintro e w3 ⟨rfl, rfl⟩
  go_wp2_with fail
  refine (hup _).mono ?_
  clear hup
  rintro e w6 ⟨rfl, hb6⟩
  have hb16 := below_trans' (hb12.alloc hb12.size _) hb6
  have htk2 := htk w6 (HE.out.below hb16)
  clear htk
  go_wp2_with fail
  first | skip | rw [hcat]
  refine htk2.mono ?_
  clear htk2
  rintro e w7 ⟨v, l, rfl, hl, hr, hb7⟩
  have hlen := congrArg List.length hl
  rw [List.length_map] at hlen
  have hB := below_trans' hb16 hb7
  have hln : l.length = 3 := hlen
  obtain ⟨g, c, rfl, _, hgl, c0, c1, c2, c3, c4⟩ := hr.at 1 (by omega)
  have hl1 : l[1].1 = ⟨2, [115, 99, 114, 105, 112, 116], [], false, []⟩ := by
      have h9 := List.getElem_of_eq hl (i := 1) (by rw [List.length_map]; omega)
      simpa using h9
  rw [hl1] at c0 c1
  have k0 : w7.cell? ⟨g, 5, none⟩ = some (.int .i64 2) := c0
  have k1 : w7.cell? ⟨g, 6, none⟩ = some (.string ⟨#[115, 99, 114, 105, 112, 116]⟩) := c1
  rw [hln]
  clear hl hlen hr hln hb16 hb7 c0 c1 c2 c3 c4 hl1
  go_wp2_with fail
  go_ret
  exact ⟨rfl, hB⟩

set_option maxRecDepth 100000 in
set_option maxHeartbeats 2000000 in
theorem raw_main0n (a : ByteArray) (k : Int) (w : World) (hE : Env w) (hz : a.size ≤ 140737488351232) (hb : a.size ≤ 1500) (h1 : Txt.rep a.data.toList = a.data.toList) (h2 : Txt.newl false a.data.toList = a.data.toList) (h3 : Mk.find [60, 47] a.data.toList = none) (hk0 : 0 ≤ k) (hk : Int.tmod k 4 = 0) (he : a.data.toList ≠ []) (hlast : ∀ h : a.data.toList ≠ [], a.data.toList.getLast h ≠ 60) :
    Calls Tryz.prog 6 #[.string a, .int .u8 k] w fun e w' => e = .returned (.bool true) ∧ Below w.heap.size w w' := by
  have HE := Lib.hid hE
  have haw := mawake_any w hE
  clear hE
  obtain ⟨s, hs⟩ : ∃ s, a.data.toList = s := ⟨_, rfl⟩
  obtain rfl : a = tstr s := str_of_list hs
  rw [hs] at he hlast
  have hbig : s.length ≤ 1500 := by rw [tstr_size] at hb; exact hb
  have hbig' : ((tstr s).size : Int) ≤ 1500 := by rw [tstr_size]; omega
  rw [hs] at h1
  rw [hs] at h2
  rw [hs] at h3
  have hrp := h1
  have hnl := h2
  have f1 := eq_fact hrp
  have hrr := fun W => rrepair_any (tstr s) W (by rw [tstr_size]; omega)
  simp only [tstr_data] at hrr
  have f2 := eq_fact hnl
  have hrn := fun W => rnewlines_any (tstr s) W (by rw [tstr_size]; omega)
  simp only [tstr_data] at hrn
  have hfi := fun W => find_fact W hbig
  rw [h3] at hfi
  rw [show fnd 0 none = -1 from rfl] at hfi
  obtain ⟨hdr, hdt⟩ := raw_doc0 hrp hnl h3 hlast
  have hup : ∀ W : World, Calls Tryz.prog 18 #[.string ⟨#[115, 99, 114, 105, 112, 116]⟩] W fun e w' => e = .returned (.string ⟨#[83, 67, 82, 73, 80, 84]⟩) ∧ Below W.heap.size W w' := fun W => rupper_any ⟨#[115, 99, 114, 105, 112, 116]⟩ W (by decide)
  have hdl : ([60, 115, 99, 114, 105, 112, 116, 62] ++ s ++ [60, 47, 83, 67, 82, 73, 80, 84, 32, 62, 122]).length ≤ 15000 := by rw [List.length_append, List.length_append]; simp only [List.length_cons, List.length_nil]; omega
  have htk := fun W (hW : Env W) => ktokens_any (tstr ([60, 115, 99, 114, 105, 112, 116, 62] ++ s ++ [60, 47, 83, 67, 82, 73, 80, 84, 32, 62, 122])) W hW (by rw [tstr_size]; exact hdl) (by rw [tstr_data, hdr]; exact hdl)
  simp only [tstr_data] at htk
  rw [hdt] at htk
  have hcat : (⟨#[60]⟩ ++ ⟨#[115, 99, 114, 105, 112, 116]⟩ ++ ⟨#[62]⟩ ++ tstr s ++ ⟨#[60, 47]⟩ ++ ⟨#[83, 67, 82, 73, 80, 84]⟩ ++ ⟨#[32, 62, 122]⟩ : ByteArray) = tstr ([60, 115, 99, 114, 105, 112, 116, 62] ++ s ++ [60, 47, 83, 67, 82, 73, 80, 84, 32, 62, 122]) := by
      rw [show (⟨#[60]⟩ : ByteArray) = tstr [60] from rfl, show (⟨#[115, 99, 114, 105, 112, 116]⟩ : ByteArray) = tstr [115, 99, 114, 105, 112, 116] from rfl, show (⟨#[62]⟩ : ByteArray) = tstr [62] from rfl, show (⟨#[60, 47]⟩ : ByteArray) = tstr [60, 47] from rfl, show (⟨#[83, 67, 82, 73, 80, 84]⟩ : ByteArray) = tstr [83, 67, 82, 73, 80, 84] from rfl, show (⟨#[32, 62, 122]⟩ : ByteArray) = tstr [32, 62, 122] from rfl, tstr_append, tstr_append, tstr_append, tstr_append, tstr_append, tstr_append]
      congr 1
      simp
  clear hrp hnl hdr hdt h1 h2 h3 hdl
  generalize tstr ([60, 115, 99, 114, 105, 112, 116, 62] ++ s ++ [60, 47, 83, 67, 82, 73, 80, 84, 32, 62, 122]) = D3 at hcat htk
  generalize tstr (Txt.rep s) = R1 at hrr f1
  generalize tstr (Txt.newl false s) = R2 at hrn f2
  have hm1 : Int.tmod k 4 = 0 := hk
  have hm2 : k % 4 = 0 := by rw [← Int.tmod_eq_emod_of_nonneg hk0]; exact hk
  have hposI : (0 : Int) < ((tstr s).size : Int) := by rw [tstr_size]; have := List.length_pos_iff.2 he; omega
  have hpos : 0 < (tstr s).size := by omega
  have hq1 : (tstr s).size - 1 < (tstr s).size := by omega
  have hq2 : ((((tstr s)[(tstr s).size - 1]).toNat : Int) == 60) = false := last_no he hlast hq1
  obtain ⟨hem, hem2⟩ := tstr_some he
  rw [if_neg he] at htk
  have heq : ((tstr s).toList == (tstr s).toList) = true := by simp
  clear he hlast hs hbig
  go_enter Tryz.func6, Tryz.ntmps6
  go_wp2_with fail
  refine haw.mono ?_
  clear haw
  rintro e w1 ⟨rfl, hb1⟩
  go_wp2_with fail
  refine (hrr w1).mono ?_
  clear hrr
  rintro e w2 ⟨rfl, hb2⟩
  have hb12 := below_trans' hb1 hb2
  go_wp2_with fail
  refine (hrn w2).mono ?_
  clear hrn
  rintro e w3 ⟨rfl, rfl⟩
  go_wp2_with fail
  refine (hfi w2).mono ?_
  clear hfi
  rintro e w3 ⟨rfl, rfl⟩
  go_wp2_with fail
  refine (hup _).mono ?_
  clear hup
  rintro e w6 ⟨rfl, hb6⟩
  have hb16 := below_trans' (hb12.alloc hb12.size _) hb6
  have htk2 := htk w6 (HE.out.below hb16)
  clear htk
  go_wp2_with fail
  first | skip | rw [hcat]
  refine htk2.mono ?_
  clear htk2
  rintro e w7 ⟨v, l, rfl, hl, hr, hb7⟩
  have hlen := congrArg List.length hl
  rw [List.length_map] at hlen
  have hB := below_trans' hb16 hb7
  have hln : l.length = 4 := hlen
  obtain ⟨g, c, rfl, _, hgl, c0, c1, c2, c3, c4⟩ := hr.at 1 (by omega)
  obtain ⟨g2, c9, e2, _, _, d0, d1, d2, d3, d4⟩ := hr.at 2 (by omega)
  obtain ⟨rfl, rfl⟩ : g = g2 ∧ c = c9 := by simpa using e2
  obtain ⟨g3, c8, e3, _, _, f0, f1x, f2x, f3, f4⟩ := hr.at 3 (by omega)
  obtain ⟨rfl, rfl⟩ : g = g3 ∧ c = c8 := by simpa using e3
  have hl1 : l[1].1 = Mk.txt (s) := by
      have h9 := List.getElem_of_eq hl (i := 1) (by rw [List.length_map]; omega)
      simpa using h9
  have hl2 : l[2].1 = ⟨2, [115, 99, 114, 105, 112, 116], [], false, []⟩ := by
      have h9 := List.getElem_of_eq hl (i := 2) (by rw [List.length_map]; omega)
      simpa using h9
  have hl3 : l[3].1 = Mk.txt [122] := by
      have h9 := List.getElem_of_eq hl (i := 3) (by rw [List.length_map]; omega)
      simpa using h9
  rw [hl1] at c0 c4
  rw [hl2] at d0 d1
  rw [hl3] at f4
  have k0 : w7.cell? ⟨g, 5, none⟩ = some (.int .i64 3) := c0
  have k4 : w7.cell? ⟨g, 9, none⟩ = some (.string (tstr s)) := c4
  have k10 : w7.cell? ⟨g, 10, none⟩ = some (.int .i64 2) := d0
  have k11 : w7.cell? ⟨g, 11, none⟩ = some (.string ⟨#[115, 99, 114, 105, 112, 116]⟩) := d1
  have k19 : w7.cell? ⟨g, 19, none⟩ = some (.string ⟨#[122]⟩) := f4
  rw [hln]
  clear hl hlen hr hln hb16 hb7 c0 c1 c2 c3 c4 hl1 hl2 hl3 d0 d1 d2 d3 d4 f0 f1x f2x f3 f4 e2 e3
  go_wp2_with fail
  go_ret
  exact ⟨rfl, hB⟩

set_option maxRecDepth 100000 in
set_option maxHeartbeats 2000000 in
theorem raw_main1e (a : ByteArray) (k : Int) (w : World) (hE : Env w) (hz : a.size ≤ 140737488351232) (hb : a.size ≤ 1500) (h1 : Txt.rep a.data.toList = a.data.toList) (h2 : Txt.newl false a.data.toList = a.data.toList) (h3 : Mk.find [60, 47] a.data.toList = none) (hk0 : 0 ≤ k) (hk : Int.tmod k 4 = 1) (he : a.data.toList = []) :
    Calls Tryz.prog 6 #[.string a, .int .u8 k] w fun e w' => e = .returned (.bool true) ∧ Below w.heap.size w w' := by
  have HE := Lib.hid hE
  have haw := mawake_any w hE
  clear hE
  obtain ⟨s, hs⟩ : ∃ s, a.data.toList = s := ⟨_, rfl⟩
  obtain rfl : a = tstr s := str_of_list hs
  rw [hs] at he
  have hbig : s.length ≤ 1500 := by rw [tstr_size] at hb; exact hb
  have hbig' : ((tstr s).size : Int) ≤ 1500 := by rw [tstr_size]; omega
  rw [hs] at h1
  rw [hs] at h2
  rw [hs] at h3
  have hrp := h1
  have hnl := h2
  have f1 := eq_fact hrp
  have hrr := fun W => rrepair_any (tstr s) W (by rw [tstr_size]; omega)
  simp only [tstr_data] at hrr
  have f2 := eq_fact hnl
  have hrn := fun W => rnewlines_any (tstr s) W (by rw [tstr_size]; omega)
  simp only [tstr_data] at hrn
  have hfi := fun W => find_fact W hbig
  rw [h3] at hfi
  rw [show fnd 0 none = -1 from rfl] at hfi
  obtain ⟨hdr, hdt⟩ := raw_doc1 hrp hnl h3 (fun h e => absurd he h)
  have hup : ∀ W : World, Calls Tryz.prog 18 #[.string ⟨#[115, 116, 121, 108, 101]⟩] W fun e w' => e = .returned (.string ⟨#[83, 84, 89, 76, 69]⟩) ∧ Below W.heap.size W w' := fun W => rupper_any ⟨#[115, 116, 121, 108, 101]⟩ W (by decide)
  have hdl : ([60, 115, 116, 121, 108, 101, 62] ++ s ++ [60, 47, 83, 84, 89, 76, 69, 32, 62, 122]).length ≤ 15000 := by rw [List.length_append, List.length_append]; simp only [List.length_cons, List.length_nil]; omega
  have htk := fun W (hW : Env W) => ktokens_any (tstr ([60, 115, 116, 121, 108, 101, 62] ++ s ++ [60, 47, 83, 84, 89, 76, 69, 32, 62, 122])) W hW (by rw [tstr_size]; exact hdl) (by rw [tstr_data, hdr]; exact hdl)
  simp only [tstr_data] at htk
  rw [hdt] at htk
  have hcat : (⟨#[60]⟩ ++ ⟨#[115, 116, 121, 108, 101]⟩ ++ ⟨#[62]⟩ ++ tstr s ++ ⟨#[60, 47]⟩ ++ ⟨#[83, 84, 89, 76, 69]⟩ ++ ⟨#[32, 62, 122]⟩ : ByteArray) = tstr ([60, 115, 116, 121, 108, 101, 62] ++ s ++ [60, 47, 83, 84, 89, 76, 69, 32, 62, 122]) := by
      rw [show (⟨#[60]⟩ : ByteArray) = tstr [60] from rfl, show (⟨#[115, 116, 121, 108, 101]⟩ : ByteArray) = tstr [115, 116, 121, 108, 101] from rfl, show (⟨#[62]⟩ : ByteArray) = tstr [62] from rfl, show (⟨#[60, 47]⟩ : ByteArray) = tstr [60, 47] from rfl, show (⟨#[83, 84, 89, 76, 69]⟩ : ByteArray) = tstr [83, 84, 89, 76, 69] from rfl, show (⟨#[32, 62, 122]⟩ : ByteArray) = tstr [32, 62, 122] from rfl, tstr_append, tstr_append, tstr_append, tstr_append, tstr_append, tstr_append]
      congr 1
      simp
  clear hrp hnl hdr hdt h1 h2 h3 hdl
  generalize tstr ([60, 115, 116, 121, 108, 101, 62] ++ s ++ [60, 47, 83, 84, 89, 76, 69, 32, 62, 122]) = D3 at hcat htk
  generalize tstr (Txt.rep s) = R1 at hrr f1
  generalize tstr (Txt.newl false s) = R2 at hrn f2
  have hm1 : Int.tmod k 4 = 1 := hk
  have hm2 : k % 4 = 1 := by rw [← Int.tmod_eq_emod_of_nonneg hk0]; exact hk
  have hz0 : ((tstr s).size : Int) = 0 := by rw [he]; rfl
  have hem : ((tstr s).toList == []) = true := by rw [he, Lib.toList_data, tstr_data]; rfl
  rw [if_pos he] at htk
  clear he hs hbig
  generalize tstr s = S at *
  go_enter Tryz.func6, Tryz.ntmps6
  go_wp2_with fail
  refine haw.mono ?_
  clear haw
  rintro e w1 ⟨rfl, hb1⟩
  go_wp2_with fail
  refine (hrr w1).mono ?_
  clear hrr
  rintro e w2 ⟨rfl, hb2⟩
  have hb12 := below_trans' hb1 hb2
  go_wp2_with fail
  refine (hrn w2).mono ?_
  clear hrn
  rintro e w3 ⟨rfl, rfl⟩
  go_wp2_with fail
  refine (hfi w2).mono ?_
  clear hfi
  rintro e w3 ⟨rfl, rfl⟩
  go_wp2_with fail
  refine (hup _).mono ?_
  clear hup
  rintro e w6 ⟨rfl, hb6⟩
  have hb16 := below_trans' (hb12.alloc hb12.size _) hb6
  have htk2 := htk w6 (HE.out.below hb16)
  clear htk
  go_wp2_with fail
  first | skip | rw [hcat]
  refine htk2.mono ?_
  clear htk2
  rintro e w7 ⟨v, l, rfl, hl, hr, hb7⟩
  have hlen := congrArg List.length hl
  rw [List.length_map] at hlen
  have hB := below_trans' hb16 hb7
  have hln : l.length = 3 := hlen
  obtain ⟨g, c, rfl, _, hgl, c0, c1, c2, c3, c4⟩ := hr.at 1 (by omega)
  have hl1 : l[1].1 = ⟨2, [115, 116, 121, 108, 101], [], false, []⟩ := by
      have h9 := List.getElem_of_eq hl (i := 1) (by rw [List.length_map]; omega)
      simpa using h9
  rw [hl1] at c0 c1
  have k0 : w7.cell? ⟨g, 5, none⟩ = some (.int .i64 2) := c0
  have k1 : w7.cell? ⟨g, 6, none⟩ = some (.string ⟨#[115, 116, 121, 108, 101]⟩) := c1
  rw [hln]
  clear hl hlen hr hln hb16 hb7 c0 c1 c2 c3 c4 hl1
  go_wp2_with fail
  go_ret
  exact ⟨rfl, hB⟩

set_option maxRecDepth 100000 in
set_option maxHeartbeats 2000000 in
theorem raw_main1n (a : ByteArray) (k : Int) (w : World) (hE : Env w) (hz : a.size ≤ 140737488351232) (hb : a.size ≤ 1500) (h1 : Txt.rep a.data.toList = a.data.toList) (h2 : Txt.newl false a.data.toList = a.data.toList) (h3 : Mk.find [60, 47] a.data.toList = none) (hk0 : 0 ≤ k) (hk : Int.tmod k 4 = 1) (he : a.data.toList ≠ []) (hlast : ∀ h : a.data.toList ≠ [], a.data.toList.getLast h ≠ 60) :
    Calls Tryz.prog 6 #[.string a, .int .u8 k] w fun e w' => e = .returned (.bool true) ∧ Below w.heap.size w w' := by
  have HE := Lib.hid hE
  have haw := mawake_any w hE
  clear hE
  obtain ⟨s, hs⟩ : ∃ s, a.data.toList = s := ⟨_, rfl⟩
  obtain rfl : a = tstr s := str_of_list hs
  rw [hs] at he hlast
  have hbig : s.length ≤ 1500 := by rw [tstr_size] at hb; exact hb
  have hbig' : ((tstr s).size : Int) ≤ 1500 := by rw [tstr_size]; omega
  rw [hs] at h1
  rw [hs] at h2
  rw [hs] at h3
  have hrp := h1
  have hnl := h2
  have f1 := eq_fact hrp
  have hrr := fun W => rrepair_any (tstr s) W (by rw [tstr_size]; omega)
  simp only [tstr_data] at hrr
  have f2 := eq_fact hnl
  have hrn := fun W => rnewlines_any (tstr s) W (by rw [tstr_size]; omega)
  simp only [tstr_data] at hrn
  have hfi := fun W => find_fact W hbig
  rw [h3] at hfi
  rw [show fnd 0 none = -1 from rfl] at hfi
  obtain ⟨hdr, hdt⟩ := raw_doc1 hrp hnl h3 hlast
  have hup : ∀ W : World, Calls Tryz.prog 18 #[.string ⟨#[115, 116, 121, 108, 101]⟩] W fun e w' => e = .returned (.string ⟨#[83, 84, 89, 76, 69]⟩) ∧ Below W.heap.size W w' := fun W => rupper_any ⟨#[115, 116, 121, 108, 101]⟩ W (by decide)
  have hdl : ([60, 115, 116, 121, 108, 101, 62] ++ s ++ [60, 47, 83, 84, 89, 76, 69, 32, 62, 122]).length ≤ 15000 := by rw [List.length_append, List.length_append]; simp only [List.length_cons, List.length_nil]; omega
  have htk := fun W (hW : Env W) => ktokens_any (tstr ([60, 115, 116, 121, 108, 101, 62] ++ s ++ [60, 47, 83, 84, 89, 76, 69, 32, 62, 122])) W hW (by rw [tstr_size]; exact hdl) (by rw [tstr_data, hdr]; exact hdl)
  simp only [tstr_data] at htk
  rw [hdt] at htk
  have hcat : (⟨#[60]⟩ ++ ⟨#[115, 116, 121, 108, 101]⟩ ++ ⟨#[62]⟩ ++ tstr s ++ ⟨#[60, 47]⟩ ++ ⟨#[83, 84, 89, 76, 69]⟩ ++ ⟨#[32, 62, 122]⟩ : ByteArray) = tstr ([60, 115, 116, 121, 108, 101, 62] ++ s ++ [60, 47, 83, 84, 89, 76, 69, 32, 62, 122]) := by
      rw [show (⟨#[60]⟩ : ByteArray) = tstr [60] from rfl, show (⟨#[115, 116, 121, 108, 101]⟩ : ByteArray) = tstr [115, 116, 121, 108, 101] from rfl, show (⟨#[62]⟩ : ByteArray) = tstr [62] from rfl, show (⟨#[60, 47]⟩ : ByteArray) = tstr [60, 47] from rfl, show (⟨#[83, 84, 89, 76, 69]⟩ : ByteArray) = tstr [83, 84, 89, 76, 69] from rfl, show (⟨#[32, 62, 122]⟩ : ByteArray) = tstr [32, 62, 122] from rfl, tstr_append, tstr_append, tstr_append, tstr_append, tstr_append, tstr_append]
      congr 1
      simp
  clear hrp hnl hdr hdt h1 h2 h3 hdl
  generalize tstr ([60, 115, 116, 121, 108, 101, 62] ++ s ++ [60, 47, 83, 84, 89, 76, 69, 32, 62, 122]) = D3 at hcat htk
  generalize tstr (Txt.rep s) = R1 at hrr f1
  generalize tstr (Txt.newl false s) = R2 at hrn f2
  have hm1 : Int.tmod k 4 = 1 := hk
  have hm2 : k % 4 = 1 := by rw [← Int.tmod_eq_emod_of_nonneg hk0]; exact hk
  have hposI : (0 : Int) < ((tstr s).size : Int) := by rw [tstr_size]; have := List.length_pos_iff.2 he; omega
  have hpos : 0 < (tstr s).size := by omega
  have hq1 : (tstr s).size - 1 < (tstr s).size := by omega
  have hq2 : ((((tstr s)[(tstr s).size - 1]).toNat : Int) == 60) = false := last_no he hlast hq1
  obtain ⟨hem, hem2⟩ := tstr_some he
  rw [if_neg he] at htk
  have heq : ((tstr s).toList == (tstr s).toList) = true := by simp
  clear he hlast hs hbig
  go_enter Tryz.func6, Tryz.ntmps6
  go_wp2_with fail
  refine haw.mono ?_
  clear haw
  rintro e w1 ⟨rfl, hb1⟩
  go_wp2_with fail
  refine (hrr w1).mono ?_
  clear hrr
  rintro e w2 ⟨rfl, hb2⟩
  have hb12 := below_trans' hb1 hb2
  go_wp2_with fail
  refine (hrn w2).mono ?_
  clear hrn
  rintro e w3 ⟨rfl, rfl⟩
  go_wp2_with fail
  refine (hfi w2).mono ?_
  clear hfi
  rintro e w3 ⟨rfl, rfl⟩
  go_wp2_with fail
  refine (hup _).mono ?_
  clear hup
  rintro e w6 ⟨rfl, hb6⟩
  have hb16 := below_trans' (hb12.alloc hb12.size _) hb6
  have htk2 := htk w6 (HE.out.below hb16)
  clear htk
  go_wp2_with fail
  first | skip | rw [hcat]
  refine htk2.mono ?_
  clear htk2
  rintro e w7 ⟨v, l, rfl, hl, hr, hb7⟩
  have hlen := congrArg List.length hl
  rw [List.length_map] at hlen
  have hB := below_trans' hb16 hb7
  have hln : l.length = 4 := hlen
  obtain ⟨g, c, rfl, _, hgl, c0, c1, c2, c3, c4⟩ := hr.at 1 (by omega)
  obtain ⟨g2, c9, e2, _, _, d0, d1, d2, d3, d4⟩ := hr.at 2 (by omega)
  obtain ⟨rfl, rfl⟩ : g = g2 ∧ c = c9 := by simpa using e2
  obtain ⟨g3, c8, e3, _, _, f0, f1x, f2x, f3, f4⟩ := hr.at 3 (by omega)
  obtain ⟨rfl, rfl⟩ : g = g3 ∧ c = c8 := by simpa using e3
  have hl1 : l[1].1 = Mk.txt (s) := by
      have h9 := List.getElem_of_eq hl (i := 1) (by rw [List.length_map]; omega)
      simpa using h9
  have hl2 : l[2].1 = ⟨2, [115, 116, 121, 108, 101], [], false, []⟩ := by
      have h9 := List.getElem_of_eq hl (i := 2) (by rw [List.length_map]; omega)
      simpa using h9
  have hl3 : l[3].1 = Mk.txt [122] := by
      have h9 := List.getElem_of_eq hl (i := 3) (by rw [List.length_map]; omega)
      simpa using h9
  rw [hl1] at c0 c4
  rw [hl2] at d0 d1
  rw [hl3] at f4
  have k0 : w7.cell? ⟨g, 5, none⟩ = some (.int .i64 3) := c0
  have k4 : w7.cell? ⟨g, 9, none⟩ = some (.string (tstr s)) := c4
  have k10 : w7.cell? ⟨g, 10, none⟩ = some (.int .i64 2) := d0
  have k11 : w7.cell? ⟨g, 11, none⟩ = some (.string ⟨#[115, 116, 121, 108, 101]⟩) := d1
  have k19 : w7.cell? ⟨g, 19, none⟩ = some (.string ⟨#[122]⟩) := f4
  rw [hln]
  clear hl hlen hr hln hb16 hb7 c0 c1 c2 c3 c4 hl1 hl2 hl3 d0 d1 d2 d3 d4 f0 f1x f2x f3 f4 e2 e3
  go_wp2_with fail
  go_ret
  exact ⟨rfl, hB⟩

end Go.Proofs.YtckmlbcpldpkpaaGreatDoor

/- MarkupRaw with the names title and textarea. -/
namespace Go.Proofs.YtckmlbcpldpkpaaGreatDoor
open Go Go.RowKit
set_option linter.unusedVariables false

set_option maxRecDepth 100000 in
set_option maxHeartbeats 2000000 in
theorem raw_main2e (a : ByteArray) (k : Int) (w : World) (hE : Env w) (hz : a.size ≤ 140737488351232) (hb : a.size ≤ 1500) (h1 : Txt.rep a.data.toList = a.data.toList) (h2 : Txt.newl false a.data.toList = a.data.toList) (h3 : Mk.find [60, 47] a.data.toList = none) (hk0 : 0 ≤ k) (hk : Int.tmod k 4 = 2) (he : a.data.toList = []) :
    Calls Tryz.prog 6 #[.string a, .int .u8 k] w fun e w' => e = .returned (.bool true) ∧ Below w.heap.size w w' := by
  have HE := Lib.hid hE
  have haw := mawake_any w hE
  clear hE
  obtain ⟨s, hs⟩ : ∃ s, a.data.toList = s := ⟨_, rfl⟩
  obtain rfl : a = tstr s := str_of_list hs
  rw [hs] at he
  have hbig : s.length ≤ 1500 := by rw [tstr_size] at hb; exact hb
  have hbig' : ((tstr s).size : Int) ≤ 1500 := by rw [tstr_size]; omega
  rw [hs] at h1
  rw [hs] at h2
  rw [hs] at h3
  have hrp := h1
  have hnl := h2
  have f1 := eq_fact hrp
  have hrr := fun W => rrepair_any (tstr s) W (by rw [tstr_size]; omega)
  simp only [tstr_data] at hrr
  have f2 := eq_fact hnl
  have hrn := fun W => rnewlines_any (tstr s) W (by rw [tstr_size]; omega)
  simp only [tstr_data] at hrn
  have hfi := fun W => find_fact W hbig
  rw [h3] at hfi
  rw [show fnd 0 none = -1 from rfl] at hfi
  obtain ⟨hdr, hdt⟩ := raw_doc2 hrp hnl h3 (fun h e => absurd he h)
  have hup : ∀ W : World, Calls Tryz.prog 18 #[.string ⟨#[116, 105, 116, 108, 101]⟩] W fun e w' => e = .returned (.string ⟨#[84, 73, 84, 76, 69]⟩) ∧ Below W.heap.size W w' := fun W => rupper_any ⟨#[116, 105, 116, 108, 101]⟩ W (by decide)
  have hde := fun W => rdecode_any (tstr s) W (by rw [tstr_size]; omega)
  simp only [tstr_data] at hde
  have hdl : ([60, 116, 105, 116, 108, 101, 62] ++ s ++ [60, 47, 84, 73, 84, 76, 69, 32, 62, 122]).length ≤ 15000 := by rw [List.length_append, List.length_append]; simp only [List.length_cons, List.length_nil]; omega
  have htk := fun W (hW : Env W) => ktokens_any (tstr ([60, 116, 105, 116, 108, 101, 62] ++ s ++ [60, 47, 84, 73, 84, 76, 69, 32, 62, 122])) W hW (by rw [tstr_size]; exact hdl) (by rw [tstr_data, hdr]; exact hdl)
  simp only [tstr_data] at htk
  rw [hdt] at htk
  have hcat : (⟨#[60]⟩ ++ ⟨#[116, 105, 116, 108, 101]⟩ ++ ⟨#[62]⟩ ++ tstr s ++ ⟨#[60, 47]⟩ ++ ⟨#[84, 73, 84, 76, 69]⟩ ++ ⟨#[32, 62, 122]⟩ : ByteArray) = tstr ([60, 116, 105, 116, 108, 101, 62] ++ s ++ [60, 47, 84, 73, 84, 76, 69, 32, 62, 122]) := by
      rw [show (⟨#[60]⟩ : ByteArray) = tstr [60] from rfl, show (⟨#[116, 105, 116, 108, 101]⟩ : ByteArray) = tstr [116, 105, 116, 108, 101] from rfl, show (⟨#[62]⟩ : ByteArray) = tstr [62] from rfl, show (⟨#[60, 47]⟩ : ByteArray) = tstr [60, 47] from rfl, show (⟨#[84, 73, 84, 76, 69]⟩ : ByteArray) = tstr [84, 73, 84, 76, 69] from rfl, show (⟨#[32, 62, 122]⟩ : ByteArray) = tstr [32, 62, 122] from rfl, tstr_append, tstr_append, tstr_append, tstr_append, tstr_append, tstr_append]
      congr 1
      simp
  clear hrp hnl hdr hdt h1 h2 h3 hdl
  generalize tstr ([60, 116, 105, 116, 108, 101, 62] ++ s ++ [60, 47, 84, 73, 84, 76, 69, 32, 62, 122]) = D3 at hcat htk
  generalize tstr (Txt.rep s) = R1 at hrr f1
  generalize tstr (Txt.newl false s) = R2 at hrn f2
  generalize Ent.decode s = DS at hde htk
  have hm1 : Int.tmod k 4 = 2 := hk
  have hm2 : k % 4 = 2 := by rw [← Int.tmod_eq_emod_of_nonneg hk0]; exact hk
  have hz0 : ((tstr s).size : Int) = 0 := by rw [he]; rfl
  have hem : ((tstr s).toList == []) = true := by rw [he, Lib.toList_data, tstr_data]; rfl
  rw [if_pos he] at htk
  clear he hs hbig
  generalize tstr s = S at *
  go_enter Tryz.func6, Tryz.ntmps6
  go_wp2_with fail
  refine haw.mono ?_
  clear haw
  rintro e w1 ⟨rfl, hb1⟩
  go_wp2_with fail
  refine (hrr w1).mono ?_
  clear hrr
  rintro e w2 ⟨rfl, hb2⟩
  have hb12 := below_trans' hb1 hb2
  go_wp2_with fail
  refine (hrn w2).mono ?_
  clear hrn
  rintro e w3 ⟨rfl, rfl⟩
  go_wp2_with fail
  refine (hfi w2).mono ?_
  clear hfi
  rintro e w3 ⟨rfl, rfl⟩
  go_wp2_with fail
  refine (hde _).mono ?_
  clear hde
  rintro e w5 ⟨rfl, hb5⟩
  have hb15 := below_trans' (hb12.alloc hb12.size _) hb5
  go_wp2_with fail
  refine (hup _).mono ?_
  clear hup
  rintro e w6 ⟨rfl, hb6⟩
  have hb16 := below_trans' hb15 hb6
  have htk2 := htk w6 (HE.out.below hb16)
  clear htk
  go_wp2_with fail
  first | skip | rw [hcat]
  refine htk2.mono ?_
  clear htk2
  rintro e w7 ⟨v, l, rfl, hl, hr, hb7⟩
  have hlen := congrArg List.length hl
  rw [List.length_map] at hlen
  have hB := below_trans' hb16 hb7
  have hln : l.length = 3 := hlen
  obtain ⟨g, c, rfl, _, hgl, c0, c1, c2, c3, c4⟩ := hr.at 1 (by omega)
  have hl1 : l[1].1 = ⟨2, [116, 105, 116, 108, 101], [], false, []⟩ := by
      have h9 := List.getElem_of_eq hl (i := 1) (by rw [List.length_map]; omega)
      simpa using h9
  rw [hl1] at c0 c1
  have k0 : w7.cell? ⟨g, 5, none⟩ = some (.int .i64 2) := c0
  have k1 : w7.cell? ⟨g, 6, none⟩ = some (.string ⟨#[116, 105, 116, 108, 101]⟩) := c1
  rw [hln]
  clear hl hlen hr hln hb16 hb7 c0 c1 c2 c3 c4 hl1
  go_wp2_with fail
  go_ret
  exact ⟨rfl, hB⟩

set_option maxRecDepth 100000 in
set_option maxHeartbeats 2000000 in
theorem raw_main2n (a : ByteArray) (k : Int) (w : World) (hE : Env w) (hz : a.size ≤ 140737488351232) (hb : a.size ≤ 1500) (h1 : Txt.rep a.data.toList = a.data.toList) (h2 : Txt.newl false a.data.toList = a.data.toList) (h3 : Mk.find [60, 47] a.data.toList = none) (hk0 : 0 ≤ k) (hk : Int.tmod k 4 = 2) (he : a.data.toList ≠ []) (hlast : ∀ h : a.data.toList ≠ [], a.data.toList.getLast h ≠ 60) :
    Calls Tryz.prog 6 #[.string a, .int .u8 k] w fun e w' => e = .returned (.bool true) ∧ Below w.heap.size w w' := by
  have HE := Lib.hid hE
  have haw := mawake_any w hE
  clear hE
  obtain ⟨s, hs⟩ : ∃ s, a.data.toList = s := ⟨_, rfl⟩
  obtain rfl : a = tstr s := str_of_list hs
  rw [hs] at he hlast
  have hbig : s.length ≤ 1500 := by rw [tstr_size] at hb; exact hb
  have hbig' : ((tstr s).size : Int) ≤ 1500 := by rw [tstr_size]; omega
  rw [hs] at h1
  rw [hs] at h2
  rw [hs] at h3
  have hrp := h1
  have hnl := h2
  have f1 := eq_fact hrp
  have hrr := fun W => rrepair_any (tstr s) W (by rw [tstr_size]; omega)
  simp only [tstr_data] at hrr
  have f2 := eq_fact hnl
  have hrn := fun W => rnewlines_any (tstr s) W (by rw [tstr_size]; omega)
  simp only [tstr_data] at hrn
  have hfi := fun W => find_fact W hbig
  rw [h3] at hfi
  rw [show fnd 0 none = -1 from rfl] at hfi
  obtain ⟨hdr, hdt⟩ := raw_doc2 hrp hnl h3 hlast
  have hup : ∀ W : World, Calls Tryz.prog 18 #[.string ⟨#[116, 105, 116, 108, 101]⟩] W fun e w' => e = .returned (.string ⟨#[84, 73, 84, 76, 69]⟩) ∧ Below W.heap.size W w' := fun W => rupper_any ⟨#[116, 105, 116, 108, 101]⟩ W (by decide)
  have hde := fun W => rdecode_any (tstr s) W (by rw [tstr_size]; omega)
  simp only [tstr_data] at hde
  have hdl : ([60, 116, 105, 116, 108, 101, 62] ++ s ++ [60, 47, 84, 73, 84, 76, 69, 32, 62, 122]).length ≤ 15000 := by rw [List.length_append, List.length_append]; simp only [List.length_cons, List.length_nil]; omega
  have htk := fun W (hW : Env W) => ktokens_any (tstr ([60, 116, 105, 116, 108, 101, 62] ++ s ++ [60, 47, 84, 73, 84, 76, 69, 32, 62, 122])) W hW (by rw [tstr_size]; exact hdl) (by rw [tstr_data, hdr]; exact hdl)
  simp only [tstr_data] at htk
  rw [hdt] at htk
  have hcat : (⟨#[60]⟩ ++ ⟨#[116, 105, 116, 108, 101]⟩ ++ ⟨#[62]⟩ ++ tstr s ++ ⟨#[60, 47]⟩ ++ ⟨#[84, 73, 84, 76, 69]⟩ ++ ⟨#[32, 62, 122]⟩ : ByteArray) = tstr ([60, 116, 105, 116, 108, 101, 62] ++ s ++ [60, 47, 84, 73, 84, 76, 69, 32, 62, 122]) := by
      rw [show (⟨#[60]⟩ : ByteArray) = tstr [60] from rfl, show (⟨#[116, 105, 116, 108, 101]⟩ : ByteArray) = tstr [116, 105, 116, 108, 101] from rfl, show (⟨#[62]⟩ : ByteArray) = tstr [62] from rfl, show (⟨#[60, 47]⟩ : ByteArray) = tstr [60, 47] from rfl, show (⟨#[84, 73, 84, 76, 69]⟩ : ByteArray) = tstr [84, 73, 84, 76, 69] from rfl, show (⟨#[32, 62, 122]⟩ : ByteArray) = tstr [32, 62, 122] from rfl, tstr_append, tstr_append, tstr_append, tstr_append, tstr_append, tstr_append]
      congr 1
      simp
  clear hrp hnl hdr hdt h1 h2 h3 hdl
  generalize tstr ([60, 116, 105, 116, 108, 101, 62] ++ s ++ [60, 47, 84, 73, 84, 76, 69, 32, 62, 122]) = D3 at hcat htk
  generalize tstr (Txt.rep s) = R1 at hrr f1
  generalize tstr (Txt.newl false s) = R2 at hrn f2
  generalize Ent.decode s = DS at hde htk
  have hm1 : Int.tmod k 4 = 2 := hk
  have hm2 : k % 4 = 2 := by rw [← Int.tmod_eq_emod_of_nonneg hk0]; exact hk
  have hposI : (0 : Int) < ((tstr s).size : Int) := by rw [tstr_size]; have := List.length_pos_iff.2 he; omega
  have hpos : 0 < (tstr s).size := by omega
  have hq1 : (tstr s).size - 1 < (tstr s).size := by omega
  have hq2 : ((((tstr s)[(tstr s).size - 1]).toNat : Int) == 60) = false := last_no he hlast hq1
  obtain ⟨hem, hem2⟩ := tstr_some he
  rw [if_neg he] at htk
  have heq : ((tstr DS).toList == (tstr DS).toList) = true := by simp
  clear he hlast hs hbig
  go_enter Tryz.func6, Tryz.ntmps6
  go_wp2_with fail
  refine haw.mono ?_
  clear haw
  rintro e w1 ⟨rfl, hb1⟩
  go_wp2_with fail
  refine (hrr w1).mono ?_
  clear hrr
  rintro e w2 ⟨rfl, hb2⟩
  have hb12 := below_trans' hb1 hb2
  go_wp2_with fail
  refine (hrn w2).mono ?_
  clear hrn
  rintro e w3 ⟨rfl, rfl⟩
  go_wp2_with fail
  refine (hfi w2).mono ?_
  clear hfi
  rintro e w3 ⟨rfl, rfl⟩
  go_wp2_with fail
  refine (hde _).mono ?_
  clear hde
  rintro e w5 ⟨rfl, hb5⟩
  have hb15 := below_trans' (hb12.alloc hb12.size _) hb5
  go_wp2_with fail
  refine (hup _).mono ?_
  clear hup
  rintro e w6 ⟨rfl, hb6⟩
  have hb16 := below_trans' hb15 hb6
  have htk2 := htk w6 (HE.out.below hb16)
  clear htk
  go_wp2_with fail
  first | skip | rw [hcat]
  refine htk2.mono ?_
  clear htk2
  rintro e w7 ⟨v, l, rfl, hl, hr, hb7⟩
  have hlen := congrArg List.length hl
  rw [List.length_map] at hlen
  have hB := below_trans' hb16 hb7
  have hln : l.length = 4 := hlen
  obtain ⟨g, c, rfl, _, hgl, c0, c1, c2, c3, c4⟩ := hr.at 1 (by omega)
  obtain ⟨g2, c9, e2, _, _, d0, d1, d2, d3, d4⟩ := hr.at 2 (by omega)
  obtain ⟨rfl, rfl⟩ : g = g2 ∧ c = c9 := by simpa using e2
  obtain ⟨g3, c8, e3, _, _, f0, f1x, f2x, f3, f4⟩ := hr.at 3 (by omega)
  obtain ⟨rfl, rfl⟩ : g = g3 ∧ c = c8 := by simpa using e3
  have hl1 : l[1].1 = Mk.txt (DS) := by
      have h9 := List.getElem_of_eq hl (i := 1) (by rw [List.length_map]; omega)
      simpa using h9
  have hl2 : l[2].1 = ⟨2, [116, 105, 116, 108, 101], [], false, []⟩ := by
      have h9 := List.getElem_of_eq hl (i := 2) (by rw [List.length_map]; omega)
      simpa using h9
  have hl3 : l[3].1 = Mk.txt [122] := by
      have h9 := List.getElem_of_eq hl (i := 3) (by rw [List.length_map]; omega)
      simpa using h9
  rw [hl1] at c0 c4
  rw [hl2] at d0 d1
  rw [hl3] at f4
  have k0 : w7.cell? ⟨g, 5, none⟩ = some (.int .i64 3) := c0
  have k4 : w7.cell? ⟨g, 9, none⟩ = some (.string (tstr DS)) := c4
  have k10 : w7.cell? ⟨g, 10, none⟩ = some (.int .i64 2) := d0
  have k11 : w7.cell? ⟨g, 11, none⟩ = some (.string ⟨#[116, 105, 116, 108, 101]⟩) := d1
  have k19 : w7.cell? ⟨g, 19, none⟩ = some (.string ⟨#[122]⟩) := f4
  rw [hln]
  clear hl hlen hr hln hb16 hb7 c0 c1 c2 c3 c4 hl1 hl2 hl3 d0 d1 d2 d3 d4 f0 f1x f2x f3 f4 e2 e3
  go_wp2_with fail
  go_ret
  exact ⟨rfl, hB⟩

set_option maxRecDepth 100000 in
set_option maxHeartbeats 2000000 in
theorem raw_main3e (a : ByteArray) (k : Int) (w : World) (hE : Env w) (hz : a.size ≤ 140737488351232) (hb : a.size ≤ 1500) (h1 : Txt.rep a.data.toList = a.data.toList) (h2 : Txt.newl false a.data.toList = a.data.toList) (h3 : Mk.find [60, 47] a.data.toList = none) (hk0 : 0 ≤ k) (hk : Int.tmod k 4 = 3) (he : a.data.toList = []) :
    Calls Tryz.prog 6 #[.string a, .int .u8 k] w fun e w' => e = .returned (.bool true) ∧ Below w.heap.size w w' := by
  have HE := Lib.hid hE
  have haw := mawake_any w hE
  clear hE
  obtain ⟨s, hs⟩ : ∃ s, a.data.toList = s := ⟨_, rfl⟩
  obtain rfl : a = tstr s := str_of_list hs
  rw [hs] at he
  have hbig : s.length ≤ 1500 := by rw [tstr_size] at hb; exact hb
  have hbig' : ((tstr s).size : Int) ≤ 1500 := by rw [tstr_size]; omega
  rw [hs] at h1
  rw [hs] at h2
  rw [hs] at h3
  have hrp := h1
  have hnl := h2
  have f1 := eq_fact hrp
  have hrr := fun W => rrepair_any (tstr s) W (by rw [tstr_size]; omega)
  simp only [tstr_data] at hrr
  have f2 := eq_fact hnl
  have hrn := fun W => rnewlines_any (tstr s) W (by rw [tstr_size]; omega)
  simp only [tstr_data] at hrn
  have hfi := fun W => find_fact W hbig
  rw [h3] at hfi
  rw [show fnd 0 none = -1 from rfl] at hfi
  obtain ⟨hdr, hdt⟩ := raw_doc3 hrp hnl h3 (fun h e => absurd he h)
  have hup : ∀ W : World, Calls Tryz.prog 18 #[.string ⟨#[116, 101, 120, 116, 97, 114, 101, 97]⟩] W fun e w' => e = .returned (.string ⟨#[84, 69, 88, 84, 65, 82, 69, 65]⟩) ∧ Below W.heap.size W w' := fun W => rupper_any ⟨#[116, 101, 120, 116, 97, 114, 101, 97]⟩ W (by decide)
  have hde := fun W => rdecode_any (tstr s) W (by rw [tstr_size]; omega)
  simp only [tstr_data] at hde
  have hdl : ([60, 116, 101, 120, 116, 97, 114, 101, 97, 62] ++ s ++ [60, 47, 84, 69, 88, 84, 65, 82, 69, 65, 32, 62, 122]).length ≤ 15000 := by rw [List.length_append, List.length_append]; simp only [List.length_cons, List.length_nil]; omega
  have htk := fun W (hW : Env W) => ktokens_any (tstr ([60, 116, 101, 120, 116, 97, 114, 101, 97, 62] ++ s ++ [60, 47, 84, 69, 88, 84, 65, 82, 69, 65, 32, 62, 122])) W hW (by rw [tstr_size]; exact hdl) (by rw [tstr_data, hdr]; exact hdl)
  simp only [tstr_data] at htk
  rw [hdt] at htk
  have hcat : (⟨#[60]⟩ ++ ⟨#[116, 101, 120, 116, 97, 114, 101, 97]⟩ ++ ⟨#[62]⟩ ++ tstr s ++ ⟨#[60, 47]⟩ ++ ⟨#[84, 69, 88, 84, 65, 82, 69, 65]⟩ ++ ⟨#[32, 62, 122]⟩ : ByteArray) = tstr ([60, 116, 101, 120, 116, 97, 114, 101, 97, 62] ++ s ++ [60, 47, 84, 69, 88, 84, 65, 82, 69, 65, 32, 62, 122]) := by
      rw [show (⟨#[60]⟩ : ByteArray) = tstr [60] from rfl, show (⟨#[116, 101, 120, 116, 97, 114, 101, 97]⟩ : ByteArray) = tstr [116, 101, 120, 116, 97, 114, 101, 97] from rfl, show (⟨#[62]⟩ : ByteArray) = tstr [62] from rfl, show (⟨#[60, 47]⟩ : ByteArray) = tstr [60, 47] from rfl, show (⟨#[84, 69, 88, 84, 65, 82, 69, 65]⟩ : ByteArray) = tstr [84, 69, 88, 84, 65, 82, 69, 65] from rfl, show (⟨#[32, 62, 122]⟩ : ByteArray) = tstr [32, 62, 122] from rfl, tstr_append, tstr_append, tstr_append, tstr_append, tstr_append, tstr_append]
      congr 1
      simp
  clear hrp hnl hdr hdt h1 h2 h3 hdl
  generalize tstr ([60, 116, 101, 120, 116, 97, 114, 101, 97, 62] ++ s ++ [60, 47, 84, 69, 88, 84, 65, 82, 69, 65, 32, 62, 122]) = D3 at hcat htk
  generalize tstr (Txt.rep s) = R1 at hrr f1
  generalize tstr (Txt.newl false s) = R2 at hrn f2
  generalize Ent.decode s = DS at hde htk
  have hm1 : Int.tmod k 4 = 3 := hk
  have hm2 : k % 4 = 3 := by rw [← Int.tmod_eq_emod_of_nonneg hk0]; exact hk
  have hz0 : ((tstr s).size : Int) = 0 := by rw [he]; rfl
  have hem : ((tstr s).toList == []) = true := by rw [he, Lib.toList_data, tstr_data]; rfl
  rw [if_pos he] at htk
  clear he hs hbig
  generalize tstr s = S at *
  go_enter Tryz.func6, Tryz.ntmps6
  go_wp2_with fail
  refine haw.mono ?_
  clear haw
  rintro e w1 ⟨rfl, hb1⟩
  go_wp2_with fail
  refine (hrr w1).mono ?_
  clear hrr
  rintro e w2 ⟨rfl, hb2⟩
  have hb12 := below_trans' hb1 hb2
  go_wp2_with fail
  refine (hrn w2).mono ?_
  clear hrn
  rintro e w3 ⟨rfl, rfl⟩
  go_wp2_with fail
  refine (hfi w2).mono ?_
  clear hfi
  rintro e w3 ⟨rfl, rfl⟩
  go_wp2_with fail
  refine (hde _).mono ?_
  clear hde
  rintro e w5 ⟨rfl, hb5⟩
  have hb15 := below_trans' (hb12.alloc hb12.size _) hb5
  go_wp2_with fail
  refine (hup _).mono ?_
  clear hup
  rintro e w6 ⟨rfl, hb6⟩
  have hb16 := below_trans' hb15 hb6
  have htk2 := htk w6 (HE.out.below hb16)
  clear htk
  go_wp2_with fail
  first | skip | rw [hcat]
  refine htk2.mono ?_
  clear htk2
  rintro e w7 ⟨v, l, rfl, hl, hr, hb7⟩
  have hlen := congrArg List.length hl
  rw [List.length_map] at hlen
  have hB := below_trans' hb16 hb7
  have hln : l.length = 3 := hlen
  obtain ⟨g, c, rfl, _, hgl, c0, c1, c2, c3, c4⟩ := hr.at 1 (by omega)
  have hl1 : l[1].1 = ⟨2, [116, 101, 120, 116, 97, 114, 101, 97], [], false, []⟩ := by
      have h9 := List.getElem_of_eq hl (i := 1) (by rw [List.length_map]; omega)
      simpa using h9
  rw [hl1] at c0 c1
  have k0 : w7.cell? ⟨g, 5, none⟩ = some (.int .i64 2) := c0
  have k1 : w7.cell? ⟨g, 6, none⟩ = some (.string ⟨#[116, 101, 120, 116, 97, 114, 101, 97]⟩) := c1
  rw [hln]
  clear hl hlen hr hln hb16 hb7 c0 c1 c2 c3 c4 hl1
  go_wp2_with fail
  go_ret
  exact ⟨rfl, hB⟩

set_option maxRecDepth 100000 in
set_option maxHeartbeats 2000000 in
theorem raw_main3n (a : ByteArray) (k : Int) (w : World) (hE : Env w) (hz : a.size ≤ 140737488351232) (hb : a.size ≤ 1500) (h1 : Txt.rep a.data.toList = a.data.toList) (h2 : Txt.newl false a.data.toList = a.data.toList) (h3 : Mk.find [60, 47] a.data.toList = none) (hk0 : 0 ≤ k) (hk : Int.tmod k 4 = 3) (he : a.data.toList ≠ []) (hlast : ∀ h : a.data.toList ≠ [], a.data.toList.getLast h ≠ 60) :
    Calls Tryz.prog 6 #[.string a, .int .u8 k] w fun e w' => e = .returned (.bool true) ∧ Below w.heap.size w w' := by
  have HE := Lib.hid hE
  have haw := mawake_any w hE
  clear hE
  obtain ⟨s, hs⟩ : ∃ s, a.data.toList = s := ⟨_, rfl⟩
  obtain rfl : a = tstr s := str_of_list hs
  rw [hs] at he hlast
  have hbig : s.length ≤ 1500 := by rw [tstr_size] at hb; exact hb
  have hbig' : ((tstr s).size : Int) ≤ 1500 := by rw [tstr_size]; omega
  rw [hs] at h1
  rw [hs] at h2
  rw [hs] at h3
  have hrp := h1
  have hnl := h2
  have f1 := eq_fact hrp
  have hrr := fun W => rrepair_any (tstr s) W (by rw [tstr_size]; omega)
  simp only [tstr_data] at hrr
  have f2 := eq_fact hnl
  have hrn := fun W => rnewlines_any (tstr s) W (by rw [tstr_size]; omega)
  simp only [tstr_data] at hrn
  have hfi := fun W => find_fact W hbig
  rw [h3] at hfi
  rw [show fnd 0 none = -1 from rfl] at hfi
  obtain ⟨hdr, hdt⟩ := raw_doc3 hrp hnl h3 hlast
  have hup : ∀ W : World, Calls Tryz.prog 18 #[.string ⟨#[116, 101, 120, 116, 97, 114, 101, 97]⟩] W fun e w' => e = .returned (.string ⟨#[84, 69, 88, 84, 65, 82, 69, 65]⟩) ∧ Below W.heap.size W w' := fun W => rupper_any ⟨#[116, 101, 120, 116, 97, 114, 101, 97]⟩ W (by decide)
  have hde := fun W => rdecode_any (tstr s) W (by rw [tstr_size]; omega)
  simp only [tstr_data] at hde
  have hdl : ([60, 116, 101, 120, 116, 97, 114, 101, 97, 62] ++ s ++ [60, 47, 84, 69, 88, 84, 65, 82, 69, 65, 32, 62, 122]).length ≤ 15000 := by rw [List.length_append, List.length_append]; simp only [List.length_cons, List.length_nil]; omega
  have htk := fun W (hW : Env W) => ktokens_any (tstr ([60, 116, 101, 120, 116, 97, 114, 101, 97, 62] ++ s ++ [60, 47, 84, 69, 88, 84, 65, 82, 69, 65, 32, 62, 122])) W hW (by rw [tstr_size]; exact hdl) (by rw [tstr_data, hdr]; exact hdl)
  simp only [tstr_data] at htk
  rw [hdt] at htk
  have hcat : (⟨#[60]⟩ ++ ⟨#[116, 101, 120, 116, 97, 114, 101, 97]⟩ ++ ⟨#[62]⟩ ++ tstr s ++ ⟨#[60, 47]⟩ ++ ⟨#[84, 69, 88, 84, 65, 82, 69, 65]⟩ ++ ⟨#[32, 62, 122]⟩ : ByteArray) = tstr ([60, 116, 101, 120, 116, 97, 114, 101, 97, 62] ++ s ++ [60, 47, 84, 69, 88, 84, 65, 82, 69, 65, 32, 62, 122]) := by
      rw [show (⟨#[60]⟩ : ByteArray) = tstr [60] from rfl, show (⟨#[116, 101, 120, 116, 97, 114, 101, 97]⟩ : ByteArray) = tstr [116, 101, 120, 116, 97, 114, 101, 97] from rfl, show (⟨#[62]⟩ : ByteArray) = tstr [62] from rfl, show (⟨#[60, 47]⟩ : ByteArray) = tstr [60, 47] from rfl, show (⟨#[84, 69, 88, 84, 65, 82, 69, 65]⟩ : ByteArray) = tstr [84, 69, 88, 84, 65, 82, 69, 65] from rfl, show (⟨#[32, 62, 122]⟩ : ByteArray) = tstr [32, 62, 122] from rfl, tstr_append, tstr_append, tstr_append, tstr_append, tstr_append, tstr_append]
      congr 1
      simp
  clear hrp hnl hdr hdt h1 h2 h3 hdl
  generalize tstr ([60, 116, 101, 120, 116, 97, 114, 101, 97, 62] ++ s ++ [60, 47, 84, 69, 88, 84, 65, 82, 69, 65, 32, 62, 122]) = D3 at hcat htk
  generalize tstr (Txt.rep s) = R1 at hrr f1
  generalize tstr (Txt.newl false s) = R2 at hrn f2
  generalize Ent.decode s = DS at hde htk
  have hm1 : Int.tmod k 4 = 3 := hk
  have hm2 : k % 4 = 3 := by rw [← Int.tmod_eq_emod_of_nonneg hk0]; exact hk
  have hposI : (0 : Int) < ((tstr s).size : Int) := by rw [tstr_size]; have := List.length_pos_iff.2 he; omega
  have hpos : 0 < (tstr s).size := by omega
  have hq1 : (tstr s).size - 1 < (tstr s).size := by omega
  have hq2 : ((((tstr s)[(tstr s).size - 1]).toNat : Int) == 60) = false := last_no he hlast hq1
  obtain ⟨hem, hem2⟩ := tstr_some he
  rw [if_neg he] at htk
  have heq : ((tstr DS).toList == (tstr DS).toList) = true := by simp
  clear he hlast hs hbig
  go_enter Tryz.func6, Tryz.ntmps6
  go_wp2_with fail
  refine haw.mono ?_
  clear haw
  rintro e w1 ⟨rfl, hb1⟩
  go_wp2_with fail
  refine (hrr w1).mono ?_
  clear hrr
  rintro e w2 ⟨rfl, hb2⟩
  have hb12 := below_trans' hb1 hb2
  go_wp2_with fail
  refine (hrn w2).mono ?_
  clear hrn
  rintro e w3 ⟨rfl, rfl⟩
  go_wp2_with fail
  refine (hfi w2).mono ?_
  clear hfi
  rintro e w3 ⟨rfl, rfl⟩
  go_wp2_with fail
  refine (hde _).mono ?_
  clear hde
  rintro e w5 ⟨rfl, hb5⟩
  have hb15 := below_trans' (hb12.alloc hb12.size _) hb5
  go_wp2_with fail
  refine (hup _).mono ?_
  clear hup
  rintro e w6 ⟨rfl, hb6⟩
  have hb16 := below_trans' hb15 hb6
  have htk2 := htk w6 (HE.out.below hb16)
  clear htk
  go_wp2_with fail
  first | skip | rw [hcat]
  refine htk2.mono ?_
  clear htk2
  rintro e w7 ⟨v, l, rfl, hl, hr, hb7⟩
  have hlen := congrArg List.length hl
  rw [List.length_map] at hlen
  have hB := below_trans' hb16 hb7
  have hln : l.length = 4 := hlen
  obtain ⟨g, c, rfl, _, hgl, c0, c1, c2, c3, c4⟩ := hr.at 1 (by omega)
  obtain ⟨g2, c9, e2, _, _, d0, d1, d2, d3, d4⟩ := hr.at 2 (by omega)
  obtain ⟨rfl, rfl⟩ : g = g2 ∧ c = c9 := by simpa using e2
  obtain ⟨g3, c8, e3, _, _, f0, f1x, f2x, f3, f4⟩ := hr.at 3 (by omega)
  obtain ⟨rfl, rfl⟩ : g = g3 ∧ c = c8 := by simpa using e3
  have hl1 : l[1].1 = Mk.txt (DS) := by
      have h9 := List.getElem_of_eq hl (i := 1) (by rw [List.length_map]; omega)
      simpa using h9
  have hl2 : l[2].1 = ⟨2, [116, 101, 120, 116, 97, 114, 101, 97], [], false, []⟩ := by
      have h9 := List.getElem_of_eq hl (i := 2) (by rw [List.length_map]; omega)
      simpa using h9
  have hl3 : l[3].1 = Mk.txt [122] := by
      have h9 := List.getElem_of_eq hl (i := 3) (by rw [List.length_map]; omega)
      simpa using h9
  rw [hl1] at c0 c4
  rw [hl2] at d0 d1
  rw [hl3] at f4
  have k0 : w7.cell? ⟨g, 5, none⟩ = some (.int .i64 3) := c0
  have k4 : w7.cell? ⟨g, 9, none⟩ = some (.string (tstr DS)) := c4
  have k10 : w7.cell? ⟨g, 10, none⟩ = some (.int .i64 2) := d0
  have k11 : w7.cell? ⟨g, 11, none⟩ = some (.string ⟨#[116, 101, 120, 116, 97, 114, 101, 97]⟩) := d1
  have k19 : w7.cell? ⟨g, 19, none⟩ = some (.string ⟨#[122]⟩) := f4
  rw [hln]
  clear hl hlen hr hln hb16 hb7 c0 c1 c2 c3 c4 hl1 hl2 hl3 d0 d1 d2 d3 d4 f0 f1x f2x f3 f4 e2 e3
  go_wp2_with fail
  go_ret
  exact ⟨rfl, hB⟩

end Go.Proofs.YtckmlbcpldpkpaaGreatDoor

/- The statement MarkupRaw returns true: its walk. -/
namespace Go.Proofs.YtckmlbcpldpkpaaGreatDoor
open Go Go.RowKit
set_option linter.unusedVariables false

theorem raw_walk (a : ByteArray) (k : Int) (w : World) (hE : Env w) (hz : a.size ≤ 140737488351232) (hk : 0 ≤ k ∧ k ≤ 255) :
    Calls Tryz.prog 6 #[.string a, .int .u8 k] w fun e w' => e = .returned (.bool true) ∧ Below w.heap.size w w' := by
  by_cases hb : a.size ≤ 1500
  case neg => exact raw_big a k w hE hz hb
  by_cases h1 : Txt.rep a.data.toList = a.data.toList
  case neg => exact raw_rep a k w hE hz hb h1
  by_cases h2 : Txt.newl false a.data.toList = a.data.toList
  case neg => exact raw_newl a k w hE hz hb h1 h2
  by_cases h3 : Mk.find [60, 47] a.data.toList = none
  case neg => exact raw_find a k w hE hz hb h1 h2 h3
  have hm : Int.tmod k 4 = 0 ∨ Int.tmod k 4 = 1 ∨ Int.tmod k 4 = 2 ∨ Int.tmod k 4 = 3 := by
    rw [Int.tmod_eq_emod_of_nonneg hk.1]; omega
  by_cases he : a.data.toList = []
  · rcases hm with h | h | h | h
    · exact raw_main0e a k w hE hz hb h1 h2 h3 hk.1 h he
    · exact raw_main1e a k w hE hz hb h1 h2 h3 hk.1 h he
    · exact raw_main2e a k w hE hz hb h1 h2 h3 hk.1 h he
    · exact raw_main3e a k w hE hz hb h1 h2 h3 hk.1 h he
  by_cases hl : a.data.toList.getLast he = 60
  · have hp : 0 < a.size := List.length_pos_iff.2 he
    refine raw_last a k w hE hz hb h1 h2 h3 ⟨by omega, ?_⟩
    have hg : a[a.size - 1] = a.data.toList.getLast he := by rw [List.getLast_eq_getElem]; rfl
    rw [hg, hl]; rfl
  · rcases hm with h | h | h | h
    · exact raw_main0n a k w hE hz hb h1 h2 h3 hk.1 h he (fun _ => hl)
    · exact raw_main1n a k w hE hz hb h1 h2 h3 hk.1 h he (fun _ => hl)
    · exact raw_main2n a k w hE hz hb h1 h2 h3 hk.1 h he (fun _ => hl)
    · exact raw_main3n a k w hE hz hb h1 h2 h3 hk.1 h he (fun _ => hl)

end Go.Proofs.YtckmlbcpldpkpaaGreatDoor

namespace Go.Proofs.YtckmlbcpldpkpaaGreatDoor.markupRaw
open Go.ChangeShapes Go.WideShapes Go.ChangeAt Go.RowKit
open Go.ChangeMaps (open_string shut_string)
set_option linter.unusedVariables false

theorem own : ownKnob Tryz.prog.godebug = none := by kernel_rfl
theorem laidOut : laidOutB Tryz.prog = true := by kernel_rfl

theorem bu8 {n : Int} (h : (Lit.int .u8 n).wf = true) : 0 ≤ n ∧ n ≤ 255 := by
  simpa [Lit.wf, IntKind.min, IntKind.max, IntKind.bits, IntKind.signed] using h
theorem bi64 {n : Int} (h : (Lit.int .i64 n).wf = true) : -9223372036854775808 ≤ n ∧ n ≤ 9223372036854775807 := by
  simpa [Lit.wf, IntKind.min, IntKind.max, IntKind.bits, IntKind.signed] using h

open Go.Shelf Go.Lib in
theorem laid_lit {W : World} (h : laidMetH Tryz.prog Rows.markupRawRow.laid W) : Lit W := by
  rw [MakeChecks.laidMetH_plain _ _ _ (by kernel_rfl)] at h
  have e1 : Rows.laid_unicode_utf8_first = firstData := Pinned.utf8First_eq
  have e2 : (Rows.laid_unicode_utf8_acceptRanges : DataW Unit) = acceptData := by kernel_rfl
  exact utf8Tabs_of_readsT (U8Types.of196 Tryz.lays196) ⟨by kernel_rfl, by kernel_rfl, by kernel_rfl, by kernel_rfl, by kernel_rfl, by kernel_rfl, by kernel_rfl⟩
    (e1 ▸ Lib.laidMet.reads h (.tail _ (.tail _ (.head _)))) (e2 ▸ Lib.laidMet.reads h (.head _))
theorem laid_tab {W : World} (h : laidMetH Tryz.prog Rows.markupRawRow.laid W) : Tab W := by
  rw [MakeChecks.laidMetH_plain _ _ _ (by kernel_rfl)] at h
  exact tab_of (Lib.laidMet.reads h (.tail _ (.head _)))

/-! The step from the walk to the row. -/
set_option maxRecDepth 100000 in
theorem lifted (os : Os) (started : os.Started) (H : Type) (enc : TypeId × Value → H) :
    ReturnsInHanded {} Tryz.checked os 6 .any (fun w args => (Rows.markupRawSpec.pre enc Tryz.prog Tryz.f6 [] false w args ∧ laidMetH Tryz.prog Rows.markupRawRow.laid w) ∧ sizedMet enc Tryz.prog Tryz.f6 (OpenSpec.ofChange Rows.markupRawSpec) false w args) (Rows.markupRawSpec.post enc Tryz.prog Tryz.f6 false true false false) := by
  have key : ∀ (W : World) (base : Nat) (args : Array Value) (ds gs : List (DataW H)) (before : List MemPlace),
      (∀ (j : Nat) t v, Tryz.f6.params[j]? = some t → args[j]? = some v → Value.okWide Tryz.prog W .any base t v) →
      DataW.Whole enc Tryz.prog Tryz.f6.params.toList Rows.markupRawSpec.vars false W args.toList ds gs before →
      (DataW.weightsEach Tryz.prog (Tryz.f6.params.toList ++ Rows.markupRawSpec.plain.varTypes Tryz.prog) (ds ++ gs)).all (· ≤ reachBytes) = true →
      laidMetH Tryz.prog Rows.markupRawRow.laid W →
      W.ShapedOpen Tryz.prog →
      Calls Tryz.prog 6 args W fun e W' => ∃ v, e = .returned v ∧ Rows.markupRawSpec.post enc Tryz.prog Tryz.f6 false true false false W args v W' := by
    intro W base args ds gs before hval0 hW hsz0 hL hsh
    have hT : Env W := ⟨laid_lit hL, laid_tab hL, Tryz.maxLen W hsh⟩
    have hval : ∀ (j : Nat) t v, Tryz.f6.params[j]? = some t → args[j]? = some v → Value.okWide Tryz.prog W .any base t v := hval0
    have hsz : (DataW.weightsEach Tryz.prog (Tryz.f6.params.toList ++ Rows.markupRawSpec.plain.varTypes Tryz.prog) (ds ++ gs)).all (· ≤ reachBytes) = true := hsz0
    have hW' := hW
    obtain ⟨p, q, hA0, hV, rfl, hfz, hnd⟩ := hW
    have hA : DataW.TrodAll enc Tryz.prog W 0 (fun _ => true) true Tryz.f6.params.toList args.toList ds p := hA0
    rw [Tryz.params6] at hA hval hsz
    obtain ⟨v0, vs0, d0, ds0, p0, q0, hargs, rfl, rfl, h0, r0⟩ := trodAll_cons hA
    obtain ⟨v1, vs1, d1, ds1, p1, q1, rfl, rfl, rfl, h1, r1⟩ := trodAll_cons r0
    obtain ⟨rfl, rfl, rfl⟩ := trodAll_nil r1
    obtain rfl : args = #[v0, v1] := by cases args; simp_all
    obtain ⟨rfl, rfl⟩ := trodVars_none hV
    obtain ⟨a0, rfl, rfl, rfl, w0⟩ := open_string Tryz.underlying9 (hval 0 9 v0 rfl rfl) h0
    have s0 : a0.size ≤ 140737488351232 := sized_string hsz (j := 0) (t := 9) rfl rfl
    obtain ⟨a1, rfl, rfl, rfl, w1⟩ := open_int Tryz.underlying5 (hval 1 5 v1 rfl rfl) h1
    clear hA0 hval0 hsz0
    refine (raw_walk a0 a1 W hT s0 (bu8 w1)).mono fun e W' ⟨he, bel⟩ => ?_
    subst he
    exact ⟨_, rfl, _, _, _, [], _, [], hW', trodAll_mk1 (shut_bool Tryz.underlying4 _), (trodAll_cons_mk (shut_string Tryz.underlying9 w0) (trodAll_cons_mk (shut_int Tryz.underlying5 w1) trodAll_mk0)), rfl, bel.frame _, fun h => by cases h⟩
  refine returnsInHanded_of_calls own started (by kernel_rfl)
    (ChangeSpec.witness_shaped (enc := enc) (C := Tryz.checked) (os := os) (X := fun w _ => laidMetH Tryz.prog Rows.markupRawRow.laid w) false (World.laidAll Tryz.prog os Rows.markupRawRow.laid) #[.string ByteArray.empty, .int .u8 0] 8 (World.laidAll_os _ _ _)
      (World.shaped_of_ZipB (by kernel_rfl) (by kernel_rfl)) (by kernel_rfl) (by kernel_rfl) (by kernel_rfl)
      (by rw [MakeChecks.laidMetH_plain _ _ _ (by kernel_rfl)]; exact laidMet_laidAll _ (by kernel_rfl) (by kernel_rfl))) ?_
  intro w tape i _ hsh _ hok hpre _
  obtain ⟨_, _, _, fn', hfn', _, _, _, _, hval⟩ := hok
  obtain rfl : fn' = Tryz.f6 := Option.some.inj (hfn'.symm.trans Tryz.func6)
  obtain ⟨⟨⟨ds, gs, before, hw, _⟩, hlaid⟩, hz⟩ := hpre
  refine (key (w.forCall tape i) w.heap.size i.args ds gs before hval (DataW.Whole.of_heap (w' := w.forCall tape i) (by rfl) hw) (hz.weights hw) (hlaid.of_heap (by rfl)) hsh).mono fun e W' ⟨v, he, hp⟩ => ?_
  subst he
  exact ChangeSpec.post_blind hp

theorem over : Rows.markupRawRow.holds Tryz.pinned (OpenSpec.ofChange Rows.markupRawSpec) :=
  OpenClaim.holds_of_wide 6 Tryz.f6 rfl rfl rfl rfl rfl rfl rfl ⟨rfl, rfl, rfl, rfl, rfl⟩ rfl rfl rfl rfl rfl (by kernel_rfl) Tryz.func6 (by kernel_rfl)
    (of_decide_eq_true (by kernel_rfl)) (by unfold Func.isWrapper; first | (rw [if_pos (by decide +kernel)]; kernel_rfl) | (rw [if_neg (by decide +kernel)]; exact ⟨rfl, rfl⟩))
    (fun os started H enc _ => lifted os started H enc)

/-- The statement: the card, over the row. -/
theorem proved : Rows.MarkupRawCardSaid :=
  Claim7.holds_tied_plain_at .later [] [.data, .data, .pinned] true _ false over (fun _ h => by cases h) (by kernel_rfl) (fun _ h => by cases h) markupRaw_row_tie rfl ⟨rfl, rfl⟩ (by kernel_rfl) rfl
    (fun f fn hf hfn => by
      obtain rfl : f = 6 := Option.some.inj ((show Tryz.prog.funcNamed Rows.markupRawRow.func = some 6 by kernel_rfl).symm.trans hf) |>.symm
      obtain rfl : fn = Tryz.f6 := (Option.some.inj (Tryz.func6.symm.trans hfn)).symm
      exact ⟨by kernel_rfl, fun j t ht => by
        rw [Tryz.params6] at ht
        have hm : t ∈ [9, 5] := by simpa using Array.mem_of_getElem? ht
        have hall : ([9, 5].all fun u => !Tryz.prog.wantsStandIn u) = true := by kernel_rfl
        exact (show Tryz.prog.wantsStandIn t = false by simpa using List.all_eq_true.1 hall t hm)⟩)
    (by kernel_rfl)
end Go.Proofs.YtckmlbcpldpkpaaGreatDoor.markupRaw
