/- For all strings names and values and either truth value, the statement MarkupTags returns true: a start tag that is written with quoted and escaped attributes, with different valid names, is read as these attributes; all read as before. -/
import Derived.IntWalk
import Derived.Test.YtckmlbcpldpkpaaGreatDoorProg
import Derived.Lib.SmallJoins
import Derived.Deep.Slices
import Derived.ChangeSame
import Derived.ProofKit
import Derived.SliceStrings
import Derived.BigQuiet
import Derived.Test.YtckmlbcpldpkpaaGreatDoorRows
import Derived.Test.YtckmlbcpldpkpaaGreatDoorCards
import Derived.Test.YtckmlbcpldpkpaaGreatDoorTie
import Derived.PinnedBridge
import Derived.Lib.LaidU8T
import Derived.Lib.LaidIn
import Derived.Lay
import Derived.LaidMore
import Derived.SevenTiedAt
import Derived.SizedLaws
import Derived.ChangeOld
import Derived.Below
import Derived.WalkKit
import Derived.OpenShut
import Derived.ShutString
import Derived.Test.YtckmlbcpldpkpaaGreatDoorKA
import Derived.Test.YtckmlbcpldpkpaaGreatDoorKB
import Derived.Test.YtckmlbcpldpkpaaGreatDoorKC
import Derived.Test.YtckmlbcpldpkpaaGreatDoorKG
namespace Go.Proofs.YtckmlbcpldpkpaaGreatDoor.Mk
open Go
set_option linter.unusedVariables false

/-- A small letter. -/
def low (c : UInt8) : Bool := decide (97 ≤ c.toNat) && decide (c.toNat ≤ 122)
/-- A name that is tried: small letters, one to twenty. -/
def pname (n : List UInt8) : Bool := n.all low && decide (0 < n.length) && decide (n.length ≤ 20)
/-- An attribute, written. -/
def item (p : List UInt8 × List UInt8) : List UInt8 := 32 :: (p.1 ++ 61 :: 34 :: (p.2.flatMap Ent.escA ++ [34]))
theorem low_num {c : UInt8} (h : low c = true) : 97 ≤ c.toNat ∧ c.toNat ≤ 122 := by
  unfold low at h
  simpa using h
theorem sp_no {c : UInt8} (h : 33 ≤ c.toNat) : Txt.sp c = false := by
  unfold Txt.sp
  simp only [Bool.or_eq_false_iff, beq_eq_false_iff_ne, ne_eq]
  omega
theorem low_stop {c : UInt8} (h : low c = true) : stopC c = false := by
  have := low_num h
  unfold stopC
  rw [sp_no (by omega)]
  simp only [Bool.or_eq_false_iff, beq_eq_false_iff_ne, ne_eq]
  exact ⟨⟨trivial, by omega⟩, by omega⟩
theorem low_in {c : UInt8} (h : low c = true) : inName c = true := by
  have := low_num h
  unfold inName
  rw [low_stop h]
  have : (c.toNat == 61) = false := by rw [beq_eq_false_iff_ne]; omega
  rw [this]; rfl
theorem low_lo {c : UInt8} (h : low c = true) : Txt.lo c = c := by
  have := low_num h
  unfold Txt.lo
  rw [if_neg (by omega)]
theorem map_lo : ∀ {n : List UInt8}, n.all low = true → n.map Txt.lo = n := by
  intro n
  induction n with
  | nil => intro _; rfl
  | cons c r ih =>
    intro h
    rw [List.all_cons, Bool.and_eq_true] at h
    rw [List.map_cons, low_lo h.1, ih h.2]
theorem find_one : ∀ {E : List UInt8} {q : UInt8} (r : List UInt8), (∀ c ∈ E, c ≠ q) → find [q] (E ++ q :: r) = some E.length := by
  intro E
  induction E with
  | nil => intro q r _; exact find_here (by simp [List.isPrefixOf])
  | cons c E ih =>
    intro q r h
    have hne : c ≠ q := h c List.mem_cons_self
    rw [List.cons_append, find_next (by simp [List.isPrefixOf]; exact fun e => hne e.symm), ih r (fun x hx => h x (List.mem_cons_of_mem _ hx))]
    rfl
/-- The value in quotes, read. -/
theorem value_quoted (v r : List UInt8) : value (34 :: (v.flatMap Ent.escA ++ 34 :: r)) = some (v.flatMap Ent.escA, r) := by
  unfold value
  simp only
  rw [if_pos (show UInt8.toNat 34 = 34 ∨ UInt8.toNat 34 = 39 from Or.inl rfl), find_one r (flat_no (fun c d hd => ((escA_ascii c).2.2 d hd).1) v)]
  simp only [Option.map_some]
  rw [List.take_left, ← List.drop_drop, List.drop_left]
  rfl
theorem decode_escA_all (s : List UInt8) : Ent.decode (s.flatMap Ent.escA) = s := by
  have := Ent.decode_backA s []
  rwa [List.append_nil, Ent.decode_nil, List.append_nil] at this
/-- An attribute, read. -/
theorem attr_item {c : UInt8} {n : List UInt8} (v r : List UInt8) (h : (c :: n).all low = true) :
    attr (c :: (n ++ 61 :: 34 :: (v.flatMap Ent.escA ++ 34 :: r))) = some (c :: n, v, r) := by
  have h2 := h
  rw [List.all_cons, Bool.and_eq_true] at h2
  have hin : n.all inName = true := by
    rw [List.all_eq_true]
    intro x hx
    exact low_in (List.all_eq_true.1 h2.2 x hx)
  have ht := Ent.tw_append (p := inName) n (61 :: 34 :: (v.flatMap Ent.escA ++ 34 :: r)) hin
  have e1 : (61 :: 34 :: (v.flatMap Ent.escA ++ 34 :: r)).takeWhile inName = [] := List.takeWhile_cons_of_neg (by decide)
  have e2 : (61 :: 34 :: (v.flatMap Ent.escA ++ 34 :: r)).dropWhile inName = 61 :: 34 :: (v.flatMap Ent.escA ++ 34 :: r) := List.dropWhile_cons_of_neg (by decide)
  have e3 : (61 :: 34 :: (v.flatMap Ent.escA ++ 34 :: r)).dropWhile Txt.sp = 61 :: 34 :: (v.flatMap Ent.escA ++ 34 :: r) := List.dropWhile_cons_of_neg (by decide)
  have e4 : (34 :: (v.flatMap Ent.escA ++ 34 :: r)).dropWhile Txt.sp = 34 :: (v.flatMap Ent.escA ++ 34 :: r) := List.dropWhile_cons_of_neg (by decide)
  unfold attr
  simp only
  rw [ht.1, ht.2, e1, e2, e3, List.append_nil, map_lo h]
  simp only
  rw [if_pos (show UInt8.toNat 61 = 61 from rfl), e4, value_quoted]
  simp only [Option.map_some]
  rw [decode_escA_all]
theorem skip_low {c : UInt8} (b : Bool) (r : List UInt8) (h : low c = true) : skip b (c :: r) = (b, c :: r) := by
  have h1 := low_num h
  unfold skip
  rw [sp_no (by omega)]
  have : (c.toNat == 47) = false := by rw [beq_eq_false_iff_ne]; omega
  rw [this, if_neg (by decide)]
/-- One attribute more. -/
theorem attrs_item {n : List UInt8} (acc : List (List UInt8 × List UInt8)) (v r : List UInt8) (h : pname n = true) (hnew : acc.any (fun p => p.1 == n) = false) (hl : acc.length < 64) :
    attrs acc (item (n, v) ++ r) = attrs (acc ++ [(n, v)]) r := by
  unfold pname at h
  simp only [Bool.and_eq_true] at h
  cases n with
  | nil => exact absurd h.1.2 (by decide)
  | cons c n =>
    have hl2 := h.1.1
    rw [List.all_cons, Bool.and_eq_true] at hl2
    have e : item (c :: n, v) ++ r = 32 :: c :: (n ++ 61 :: 34 :: (v.flatMap Ent.escA ++ 34 :: r)) := by
      unfold item; simp
    have hsk : skip false (32 :: c :: (n ++ 61 :: 34 :: (v.flatMap Ent.escA ++ 34 :: r))) = (false, c :: (n ++ 61 :: 34 :: (v.flatMap Ent.escA ++ 34 :: r))) := by
      conv => lhs; unfold skip
      rw [if_pos (by decide)]
      exact skip_low _ _ hl2.1
    have h62 := low_num hl2.1
    rw [e, attrs_def, hsk]
    simp only
    rw [if_neg (by omega), attr_item v r h.1.1]
    simp only
    unfold addA
    rw [if_neg (by rw [hnew]; exact Bool.false_ne_true), if_pos hl]
/-- The end of a start tag. -/
theorem attrs_end (acc : List (List UInt8 × List UInt8)) (b : Bool) (r : List UInt8) : attrs acc ((if b then [47] else []) ++ 62 :: r) = some (acc, b, r) := by
  rw [attrs_def]
  cases b <;> rfl
/-- All of them. -/
theorem attrs_items : ∀ (ps acc : List (List UInt8 × List UInt8)) (b : Bool) (r : List UInt8), (∀ p ∈ ps, pname p.1 = true) → (acc ++ ps).length ≤ 64 → (acc ++ ps).Pairwise (fun p q => p.1 ≠ q.1) →
    attrs acc (ps.flatMap item ++ ((if b then [47] else []) ++ 62 :: r)) = some (acc ++ ps, b, r) := by
  intro ps
  induction ps with
  | nil =>
    intro acc b r _ _ _
    rw [List.append_nil]
    exact attrs_end acc b r
  | cons p ps ih =>
    intro acc b r h1 h2 h3
    have e : acc ++ p :: ps = (acc ++ [p]) ++ ps := by simp
    have hnew : acc.any (fun q => q.1 == p.1) = false := by
      rw [List.any_eq_false]
      intro q hq
      have := (List.pairwise_append.1 h3).2.2 q hq p List.mem_cons_self
      simpa using this
    rw [List.flatMap_cons, List.append_assoc, attrs_item acc p.2 _ (h1 p List.mem_cons_self) hnew (by rw [List.length_append, List.length_cons] at h2; omega), e]
    exact ih (acc ++ [p]) b r (fun q hq => h1 q (List.mem_cons_of_mem _ hq)) (by rw [← e]; exact h2) (by rw [← e]; exact h3)
/-- The document that is tried. -/
def tagDoc (ps : List (List UInt8 × List UInt8)) (b : Bool) : List UInt8 := [60, 120] ++ ps.flatMap item ++ (if b then [47] else []) ++ [62, 121]
theorem tag_tokens {ps : List (List UInt8 × List UInt8)} (b : Bool) (h1 : ∀ p ∈ ps, pname p.1 = true) (h2 : ps.length ≤ 64) (h3 : ps.Pairwise (fun p q => p.1 ≠ q.1)) :
    tokens (tagDoc ps b) = [⟨1, [120], ps, b, []⟩, txt [121]] := by
  have e : tagDoc ps b = 60 :: 120 :: (ps.flatMap item ++ ((if b then [47] else []) ++ 62 :: [121])) := by
    unfold tagDoc; simp
  have hstop : ∃ c t, ps.flatMap item ++ ((if b then [47] else []) ++ 62 :: [121]) = c :: t ∧ stopC c = true := by
    cases ps with
    | nil => cases b <;> exact ⟨_, _, rfl, by decide⟩
    | cons p ps => exact ⟨32, _, rfl, by decide⟩
  have ha := attrs_items ps [] b [121] h1 (by rw [List.nil_append]; exact h2) (by rw [List.nil_append]; exact h3)
  rw [List.nil_append] at ha
  have hs : start (120 :: (ps.flatMap item ++ ((if b then [47] else []) ++ 62 :: [121]))) = some (⟨1, [120], ps, b, []⟩, [121]) := by
    obtain ⟨c, t, hct, hc⟩ := hstop
    unfold start name
    have f1 : (120 :: (ps.flatMap item ++ ((if b then [47] else []) ++ 62 :: [121]))).takeWhile (fun c => !stopC c) = [120] := by
      rw [hct, List.takeWhile_cons_of_pos (by decide), List.takeWhile_cons_of_neg (by rw [hc]; decide)]
    have f2 : (120 :: (ps.flatMap item ++ ((if b then [47] else []) ++ 62 :: [121]))).dropWhile (fun c => !stopC c) = ps.flatMap item ++ ((if b then [47] else []) ++ 62 :: [121]) := by
      rw [List.dropWhile_cons_of_pos (by decide), hct, List.dropWhile_cons_of_neg (by rw [hc]; decide)]
    rw [f1, f2, ha]
    rfl
  rw [e, tokens_start (b := 120) (by decide) hs (show ¬ (rawName [120] || plainName [120]) = true by decide), tokens_last (List.cons_ne_nil _ _) (by decide), Ent.decode_same [121] (by decide)]
/-- Its text is plain. -/
theorem item_rep {p : List UInt8 × List UInt8} (h1 : pname p.1 = true) (h2 : Txt.rep p.2 = p.2) : Txt.rep (item p) = item p := by
  unfold pname at h1
  simp only [Bool.and_eq_true] at h1
  have e : item p = (32 :: (p.1 ++ [61, 34])) ++ (p.2.flatMap Ent.escA ++ [34]) := by unfold item; simp
  rw [e]
  refine rep_two (rep_ascii ?_) (rep_two (rep_flat Ent.escA (fun c h => (escA_ascii c).1 h) (fun c h => (escA_ascii c).2.1 h) _ p.2 (Nat.le_refl _) h2) (rep_ascii (by decide)))
  intro c hc
  rcases List.mem_cons.1 hc with rfl | hc
  · decide
  · rcases List.mem_append.1 hc with hc | hc
    · have := low_num (List.all_eq_true.1 h1.1.1 c hc); omega
    · simp at hc; rcases hc with rfl | rfl <;> decide
theorem item_no {p : List UInt8 × List UInt8} (h1 : pname p.1 = true) : ∀ c ∈ item p, c ≠ 13 := by
  unfold pname at h1
  simp only [Bool.and_eq_true] at h1
  have e : item p = (32 :: (p.1 ++ [61, 34])) ++ (p.2.flatMap Ent.escA ++ [34]) := by unfold item; simp
  rw [e]
  intro c hc
  rcases List.mem_append.1 hc with hc | hc
  · rcases List.mem_cons.1 hc with rfl | hc
    · decide
    · rcases List.mem_append.1 hc with hc | hc
      · have := low_num (List.all_eq_true.1 h1.1.1 c hc)
        intro e; subst e
        have : (13 : UInt8).toNat = 13 := rfl
        omega
      · simp at hc; rcases hc with rfl | rfl <;> decide
  · rcases List.mem_append.1 hc with hc | hc
    · exact flat_no (fun c d hd => ((escA_ascii c).2.2 d hd).2) p.2 c hc
    · simp at hc; subst hc; decide
theorem tag_plain {ps : List (List UInt8 × List UInt8)} (b : Bool) (h1 : ∀ p ∈ ps, pname p.1 = true) (h2 : ∀ p ∈ ps, Txt.rep p.2 = p.2) :
    Txt.rep (tagDoc ps b) = tagDoc ps b ∧ ∀ c ∈ tagDoc ps b, c ≠ 13 := by
  have hf : ∀ ps : List (List UInt8 × List UInt8), (∀ p ∈ ps, pname p.1 = true) → (∀ p ∈ ps, Txt.rep p.2 = p.2) → Txt.rep (ps.flatMap item) = ps.flatMap item ∧ ∀ c ∈ ps.flatMap item, c ≠ 13 := by
    intro ps
    induction ps with
    | nil => intro _ _; exact ⟨Txt.rep_nil, fun c hc => by cases hc⟩
    | cons p ps ih =>
      intro h1 h2
      obtain ⟨i1, i2⟩ := ih (fun q hq => h1 q (List.mem_cons_of_mem _ hq)) (fun q hq => h2 q (List.mem_cons_of_mem _ hq))
      rw [List.flatMap_cons]
      refine ⟨rep_two (item_rep (h1 p List.mem_cons_self) (h2 p List.mem_cons_self)) i1, fun c hc => ?_⟩
      rcases List.mem_append.1 hc with hc | hc
      · exact item_no (h1 p List.mem_cons_self) c hc
      · exact i2 c hc
  obtain ⟨f1, f2⟩ := hf ps h1 h2
  unfold tagDoc
  constructor
  · exact rep_two (rep_two (rep_two (rep_ascii (by decide)) f1) (by cases b <;> exact rep_ascii (by decide))) (rep_ascii (by decide))
  · intro c hc
    rcases List.mem_append.1 hc with hc | hc
    · rcases List.mem_append.1 hc with hc | hc
      · rcases List.mem_append.1 hc with hc | hc
        · simp at hc; rcases hc with rfl | rfl <;> decide
        · exact f2 c hc
      · cases b
        · cases hc
        · simp at hc; subst hc; decide
    · simp at hc; rcases hc with rfl | rfl <;> decide
theorem item_len {p : List UInt8 × List UInt8} (h1 : pname p.1 = true) : (item p).length ≤ 24 + 6 * p.2.length := by
  unfold pname at h1
  simp only [Bool.and_eq_true, decide_eq_true_eq] at h1
  have := Ent.flat_len Ent.escA Ent.escA_len p.2
  unfold item
  simp only [List.length_cons, List.length_append, List.length_nil]
  omega
theorem items_len : ∀ ps : List (List UInt8 × List UInt8), (∀ p ∈ ps, pname p.1 = true) → (∀ p ∈ ps, p.2.length ≤ 100) → (ps.flatMap item).length ≤ 624 * ps.length := by
  intro ps
  induction ps with
  | nil => intro _ _; exact Nat.le_refl _
  | cons p ps ih =>
    intro h1 h2
    have a := ih (fun q hq => h1 q (List.mem_cons_of_mem _ hq)) (fun q hq => h2 q (List.mem_cons_of_mem _ hq))
    have b := item_len (h1 p List.mem_cons_self)
    have c := h2 p List.mem_cons_self
    rw [List.flatMap_cons, List.length_append, List.length_cons]
    omega

end Go.Proofs.YtckmlbcpldpkpaaGreatDoor.Mk

/- The law's plain returns what the plain text says. -/
namespace Go.Proofs.YtckmlbcpldpkpaaGreatDoor
open Go Go.RowKit
set_option linter.unusedVariables false

set_option maxRecDepth 100000 in
set_option maxHeartbeats 400000 in
theorem lplain_any (s : ByteArray) (w : World) (hs : s.size ≤ maxLen) :
    Calls Tryz.prog 12 #[.string s] w fun e w' => e = .returned (.bool (Mk.pname s.data.toList)) ∧ w = w' := by
  have hml : maxLen ≤ 9223372036854775807 := by unfold maxLen; omega
  have hll : s.data.toList.length = s.size := rfl
  obtain ⟨B, hBB⟩ : ∃ B, Mk.pname s.data.toList = B := ⟨_, rfl⟩
  rw [hBB]
  have HB := Lib.hid hBB
  clear hBB
  go_enter Tryz.func12, Tryz.ntmps12
  go_wp2_with fail
  go_loop [3] (fun a => ∃ k : Nat, a = .int .i64 (k : Int) ∧ k ≤ s.size ∧ (s.data.toList.take k).all Mk.low = true) (fun a => s.size - (intOf a).toNat)
  case atStart => exact ⟨0, rfl, Nat.zero_le _, rfl⟩
  case round =>
    obtain ⟨k, rfl, hk, hall⟩ := hrel
    by_cases hlt : k < s.size
    · have hltI : (k : Int) < (s.size : Int) := by omega
      have hget : s.data.toList[k]? = some s[k] := by
        rw [Array.getElem?_toList]; exact Array.getElem?_eq_getElem hlt
      have htk : (s.data.toList.take (k + 1)).all Mk.low = Mk.low s[k] := by
        rw [List.take_add_one, hget, List.all_append, hall]; simp
      by_cases h1 : 97 ≤ s[k].toNat
      · by_cases h2 : s[k].toNat ≤ 122
        · have hlow : Mk.low s[k] = true := by unfold Mk.low; simp [h1, h2]
          rw [hlow] at htk
          go_wp2_with fail
          go_roundw
          case rel => exact ⟨k + 1, by go_num, by omega, htk⟩
          case measure => simp [intOf]; omega
        · have hlow : Mk.low s[k] = false := by unfold Mk.low; simp; omega
          have hno : Mk.pname s.data.toList = false := by
            unfold Mk.pname
            rw [Bool.and_eq_false_iff, Bool.and_eq_false_iff]
            refine .inl (.inl ?_)
            rw [List.all_eq_false]
            exact ⟨s[k], List.mem_of_getElem? hget, by rw [hlow]; exact Bool.false_ne_true⟩
          rw [HB.out] at hno
          clear hall htk hget hlow
          go_wp2_with fail
          go_ret
          exact ⟨rfl, rfl⟩
      · have hlow : Mk.low s[k] = false := by unfold Mk.low; simp; omega
        have hno : Mk.pname s.data.toList = false := by
          unfold Mk.pname
          rw [Bool.and_eq_false_iff, Bool.and_eq_false_iff]
          refine .inl (.inl ?_)
          rw [List.all_eq_false]
          exact ⟨s[k], List.mem_of_getElem? hget, by rw [hlow]; exact Bool.false_ne_true⟩
        rw [HB.out] at hno
        clear hall htk hget hlow
        go_wp2_with fail
        go_ret
        exact ⟨rfl, rfl⟩
    · obtain rfl : k = s.size := by omega
      rw [← hll, List.take_length] at hall
      have hp : Mk.pname s.data.toList = (decide (0 < s.size) && decide (s.size ≤ 20)) := by
        unfold Mk.pname
        rw [hall, hll]; rfl
      rw [HB.out] at hp
      have HP := Lib.hid hp
      clear hp hall
      by_cases h1 : 0 < s.size
      · have h1I : (0 : Int) < (s.size : Int) := by omega
        by_cases h2 : s.size ≤ 20
        · have h2I : (s.size : Int) ≤ 20 := by omega
          go_wp2_with fail
          go_ret
          exact ⟨retB (by rw [HP.out, decide_eq_true h1]; simp; omega), rfl⟩
        · have h2I : ¬ (s.size : Int) ≤ 20 := by omega
          go_wp2_with fail
          go_ret
          exact ⟨retB (by rw [HP.out, decide_eq_true h1]; simp; omega), rfl⟩
      · have h1I : ¬ (0 : Int) < (s.size : Int) := by omega
        go_wp2_with fail
        go_ret
        exact ⟨retB (by rw [HP.out, decide_eq_false h1]; simp), rfl⟩

end Go.Proofs.YtckmlbcpldpkpaaGreatDoor

/- The statement MarkupTexts returns true: its walk. -/
namespace Go.Proofs.YtckmlbcpldpkpaaGreatDoor
open Go Go.RowKit
set_option linter.unusedVariables false

theorem ne_fact {a b : List UInt8} (h : a ≠ b) : ((tstr a).toList == (tstr b).toList) = false := by
  rw [Lib.toList_data, Lib.toList_data, tstr_data, tstr_data]; simpa using h
theorem eq_fact {a b : List UInt8} (h : a = b) : ((tstr a).toList == (tstr b).toList) = true := by
  subst h; simp
theorem all_of {l : List UInt8} {p : UInt8 → Prop} [DecidablePred p] (h : l.all (fun c => decide (p c)) = true) : ∀ c ∈ l, p c := fun c hc => of_decide_eq_true (List.all_eq_true.1 h c hc)
theorem decode_esc_all (s : List UInt8) : Ent.decode (s.flatMap Ent.esc) = s := by
  have := Ent.decode_back s []
  rwa [List.append_nil, Ent.decode_nil, List.append_nil] at this
theorem flat_nil (s : List UInt8) : s.flatMap Ent.esc = [] ↔ s = [] := by
  constructor
  · intro h
    have := decode_esc_all s
    rw [h, Ent.decode_nil] at this
    exact this.symm
  · intro h; subst h; rfl
/-- The document's text, and its tokens. -/
theorem texts_doc {s : List UInt8} (h1 : Txt.rep s = s) : Txt.rep ([60, 112, 62] ++ s.flatMap Ent.esc ++ [60, 47, 112, 62]) = [60, 112, 62] ++ s.flatMap Ent.esc ++ [60, 47, 112, 62] ∧
    Mk.tokens (docText ([60, 112, 62] ++ s.flatMap Ent.esc ++ [60, 47, 112, 62])) = ⟨1, [112], [], false, []⟩ :: ((if s = [] then [] else [Mk.txt s]) ++ [⟨2, [112], [], false, []⟩]) := by
  have hE := Mk.rep_flat Ent.esc (fun c h => (Mk.esc_ascii c).1 h) (fun c h => (Mk.esc_ascii c).2.1 h) _ s (Nat.le_refl _) h1
  have hR : Txt.rep ([60, 112, 62] ++ s.flatMap Ent.esc ++ [60, 47, 112, 62]) = [60, 112, 62] ++ s.flatMap Ent.esc ++ [60, 47, 112, 62] :=
    Mk.rep_two (Mk.rep_two (Mk.rep_ascii (by decide)) hE) (Mk.rep_ascii (by decide))
  have hC : ∀ c ∈ [60, 112, 62] ++ s.flatMap Ent.esc ++ [60, 47, 112, 62], c ≠ 13 := by
    intro c hc
    rcases List.mem_append.1 hc with hc | hc
    · rcases List.mem_append.1 hc with hc | hc
      · exact all_of (p := fun c => c ≠ 13) (by decide) c hc
      · exact Mk.flat_no (fun c d hd => ((Mk.esc_ascii c).2.2 d hd).2) s c hc
    · exact all_of (p := fun c => c ≠ 13) (by decide) c hc
  refine ⟨hR, ?_⟩
  rw [docText_same hR hC, Mk.tokens_p _ (Mk.flat_no (fun c d hd => ((Mk.esc_ascii c).2.2 d hd).1) s), decode_esc_all]
  by_cases h0 : s = []
  · rw [if_pos ((flat_nil s).2 h0), if_pos h0]
  · rw [if_neg (fun e => h0 ((flat_nil s).1 e)), if_neg h0]

set_option maxRecDepth 100000 in
set_option maxHeartbeats 2000000 in
theorem texts_walk (a : ByteArray) (w : World) (hE : Env w) (hz : a.size ≤ 140737488351232) :
    Calls Tryz.prog 5 #[.string a] w fun e w' => e = .returned (.bool true) ∧ Below w.heap.size w w' := by
  have HE := Lib.hid hE
  have haw := mawake_any w hE
  clear hE
  by_cases hbig : a.size ≤ 1500
  · have hbig' : (a.size : Int) ≤ 1500 := by omega
    obtain ⟨s, hs⟩ : ∃ s, a.data.toList = s := ⟨_, rfl⟩
    obtain rfl : a = tstr s := str_of_list hs
    rw [tstr_size] at hbig
    by_cases hrp : Txt.rep s = s
    · have f1 := eq_fact hrp
      by_cases hnl : Txt.newl false s = s
      · have f2 := eq_fact hnl
        obtain ⟨hdr, hdt⟩ := texts_doc hrp
        have hEl := Ent.flat_len Ent.esc Ent.esc_len s
        obtain ⟨E, hEE⟩ : ∃ E, s.flatMap Ent.esc = E := ⟨_, rfl⟩
        rw [hEE] at hdr hdt hEl
        have had1 : ∀ W : World, (Op.stringOp .add ⟨#[60, 112, 62]⟩ (tstr E)).run Tryz.prog W = .ok (.string (tstr ([60, 112, 62] ++ E))) W := fun W => by
          rw [show (⟨#[60, 112, 62]⟩ : ByteArray) = tstr [60, 112, 62] from rfl, run_string_add_sum W _ _ (by rw [tstr_size, tstr_size]; simp only [List.length_cons, List.length_nil]; omega), tstr_append]
        have had2 : ∀ W : World, (Op.stringOp .add (tstr ([60, 112, 62] ++ E)) ⟨#[60, 47, 112, 62]⟩).run Tryz.prog W = .ok (.string (tstr ([60, 112, 62] ++ E ++ [60, 47, 112, 62]))) W := fun W => by
          rw [show (⟨#[60, 47, 112, 62]⟩ : ByteArray) = tstr [60, 47, 112, 62] from rfl, run_string_add_sum W _ _ (by rw [tstr_size, tstr_size, List.length_append]; simp only [List.length_cons, List.length_nil]; omega), tstr_append]
        have hrr := fun W => rrepair_any (tstr s) W (by rw [tstr_size]; omega)
        have hrn := fun W => rnewlines_any (tstr s) W (by rw [tstr_size]; omega)
        have hes := fun W => rescape_text (tstr s) W (by rw [tstr_size]; omega)
        simp only [tstr_data] at hrr hrn hes
        rw [hEE] at hes
        have hdl : ([60, 112, 62] ++ E ++ [60, 47, 112, 62]).length ≤ 15000 := by
          rw [List.length_append, List.length_append]; simp only [List.length_cons, List.length_nil]; omega
        have htk := fun W (hW : Env W) => ktokens_any (tstr ([60, 112, 62] ++ E ++ [60, 47, 112, 62])) W hW (by rw [tstr_size]; exact hdl) (by rw [tstr_data, hdr]; exact hdl)
        simp only [tstr_data] at htk
        rw [hdt] at htk
        clear hdr hdt hEE hrp hnl hdl hEl
        generalize tstr ([60, 112, 62] ++ E ++ [60, 47, 112, 62]) = D at htk had2
        generalize tstr ([60, 112, 62] ++ E) = D1 at had1 had2
        generalize tstr E = EE at had1 hes
        generalize tstr (Txt.rep s) = R1 at hrr f1
        generalize tstr (Txt.newl false s) = R2 at hrn f2
        go_enter Tryz.func5, Tryz.ntmps5
        go_wp2_with fail
        refine haw.mono ?_
        clear haw
        rintro e w1 ⟨rfl, hb1⟩
        go_wp2_with fail
        refine (hrr w1).mono ?_
        clear hrr
        rintro e w2 ⟨rfl, hb2⟩
        go_wp2_with fail
        refine (hrn w2).mono ?_
        clear hrn
        rintro e w3 ⟨rfl, rfl⟩
        go_wp2_with fail
        refine (hes w2).mono ?_
        clear hes
        rintro e w3 ⟨rfl, rfl⟩
        have hb12 := below_trans' hb1 hb2
        have htk2 := htk w2 (HE.out.below hb12)
        clear htk hb1 hb2
        go_wp2_with fail
        refine htk2.mono ?_
        clear htk2
        rintro e w4 ⟨v, l, rfl, hl, hr, hb4⟩
        have hlen := congrArg List.length hl
        rw [List.length_map] at hlen
        have hB := below_trans' hb12 hb4
        by_cases h0 : s = []
        · subst h0
          have hem : ((tstr []).toList == []) = true := by rw [Lib.toList_data, tstr_data]; rfl
          have hem2 := tstr_none.1
          rw [if_pos rfl] at hlen
          have hl2 : l.length = 2 := hlen
          obtain ⟨A, c, rfl⟩ := hr.form
          rw [hl2]
          clear hl hlen hr hl2 hb12 hb4
          generalize tstr [] = S at hem hem2
          go_wp2_with fail
          go_ret
          exact ⟨rfl, hB⟩
        · obtain ⟨hem, hem2⟩ := tstr_some h0
          rw [if_neg h0] at hlen hl
          have hl3 : l.length = 3 := hlen
          obtain ⟨g, c, rfl, _, hgl, c0, c1, c2, c3, c4⟩ := hr.at 1 (by omega)
          have hl1 : l[1].1 = Mk.txt s := by
            have h9 := List.getElem_of_eq hl (i := 1) (by rw [List.length_map]; omega)
            simpa using h9
          rw [hl1] at c0 c4
          have k0 : w4.cell? ⟨g, 5, none⟩ = some (.int .i64 3) := c0
          have k4 : w4.cell? ⟨g, 9, none⟩ = some (.string (tstr s)) := c4
          rw [hl3]
          clear hl hlen hr hl3 hb12 hb4 c0 c1 c2 c3 c4 hl1 h0
          have heq : ((tstr s).toList == (tstr s).toList) = true := by simp
          clear f1 f2
          generalize tstr s = S at hem hem2 k4 heq hbig'
          go_wp2_with fail
          go_ret
          exact ⟨rfl, hB⟩
      · have f2 := ne_fact hnl
        have hrr := fun W => rrepair_any (tstr s) W (by rw [tstr_size]; omega)
        have hrn := fun W => rnewlines_any (tstr s) W (by rw [tstr_size]; omega)
        simp only [tstr_data] at hrr hrn
        clear hrp hnl
        generalize tstr (Txt.rep s) = R1 at hrr f1
        generalize tstr (Txt.newl false s) = R2 at hrn f2
        go_enter Tryz.func5, Tryz.ntmps5
        go_wp2_with fail
        refine haw.mono ?_
        clear haw
        rintro e w1 ⟨rfl, hb1⟩
        go_wp2_with fail
        refine (hrr w1).mono ?_
        clear hrr
        rintro e w2 ⟨rfl, hb2⟩
        go_wp2_with fail
        refine (hrn w2).mono ?_
        clear hrn
        rintro e w3 ⟨rfl, rfl⟩
        have hb12 := below_trans' hb1 hb2
        have haw2 := mawake_any w2 (HE.out.below hb12)
        go_wp2_with fail
        refine haw2.mono ?_
        rintro e w4 ⟨rfl, hb4⟩
        go_wp2_with fail
        go_ret
        exact ⟨rfl, below_trans' hb12 hb4⟩
    · have f1 := ne_fact hrp
      have hrr := fun W => rrepair_any (tstr s) W (by rw [tstr_size]; omega)
      simp only [tstr_data] at hrr
      clear hrp
      generalize tstr (Txt.rep s) = R1 at hrr f1
      go_enter Tryz.func5, Tryz.ntmps5
      go_wp2_with fail
      refine haw.mono ?_
      clear haw
      rintro e w1 ⟨rfl, hb1⟩
      go_wp2_with fail
      refine (hrr w1).mono ?_
      clear hrr
      rintro e w2 ⟨rfl, hb2⟩
      have hb12 := below_trans' hb1 hb2
      have haw2 := mawake_any w2 (HE.out.below hb12)
      go_wp2_with fail
      refine haw2.mono ?_
      rintro e w4 ⟨rfl, hb4⟩
      go_wp2_with fail
      go_ret
      exact ⟨rfl, below_trans' hb12 hb4⟩
  · have hbig' : ¬ (a.size : Int) ≤ 1500 := by omega
    go_enter Tryz.func5, Tryz.ntmps5
    go_wp2_with fail
    refine haw.mono ?_
    clear haw
    rintro e w1 ⟨rfl, hb1⟩
    have haw2 := mawake_any w1 (HE.out.below hb1)
    go_wp2_with fail
    refine haw2.mono ?_
    rintro e w4 ⟨rfl, hb4⟩
    go_wp2_with fail
    go_ret
    exact ⟨rfl, below_trans' hb1 hb4⟩

end Go.Proofs.YtckmlbcpldpkpaaGreatDoor

/- Slices of strings that come in: what the walks are told of them. -/
namespace Go.Proofs.YtckmlbcpldpkpaaGreatDoor
open Go Go.RowKit Go.Joins Go.ChangeShapes Go.WideShapes Go.Deep

/-- For each number below n there is a thing: a list of them. -/
theorem list_of {α : Type} [Inhabited α] {Q : Nat → α → Prop} {n : Nat} (h : ∀ i, i < n → ∃ x, Q i x) : ∃ l : List α, l.length = n ∧ ∀ i x, l[i]? = some x → Q i x := by
  have h2 : ∀ i, ∃ x, i < n → Q i x := fun i => by
    by_cases hi : i < n
    · obtain ⟨x, hx⟩ := h i hi
      exact ⟨x, fun _ => hx⟩
    · exact ⟨default, fun h' => absurd h' hi⟩
  obtain ⟨f, hf⟩ := Classical.axiomOfChoice h2
  refine ⟨(List.range n).map f, by simp, fun i x hx => ?_⟩
  have hlt := (List.getElem?_eq_some_iff.1 hx).1
  rw [List.length_map, List.length_range] at hlt
  have e : ((List.range n).map f)[i]? = some (f i) := by simp [hlt]
  rw [e] at hx
  injection hx with hx
  rw [← hx]
  exact hf i hlt
theorem add_plain (b o j : Nat) : (⟨b, o, none⟩ : Addr).add j = ⟨b, o + j, none⟩ := by unfold Addr.add; split <;> simp_all

/-- What the walk is told of a slice of strings: each lies in its cell. -/
def StrsIn (w : World) (A : Option Addr) (l : List ByteArray) : Prop :=
  ∀ (i : Nat) (x : ByteArray), l[i]? = some x → ∃ b o, A = some ⟨b, o, none⟩ ∧ w.cell? ⟨b, o + i, none⟩ = some (.string x)
theorem StrsIn.below {w w' : World} {A : Option Addr} {l : List ByteArray} (h : StrsIn w A l) (hb : Below w.heap.size w w') : StrsIn w' A l := by
  intro i x hi
  obtain ⟨b, o, h1, h2⟩ := h i x hi
  exact ⟨b, o, h1, (hb.cell (World.block_lt_of_cell? w _ h2)).trans h2⟩

set_option maxRecDepth 100000 in
theorem open_strs {H : Type} {enc : TypeId × Value → H} {w : World} {base : Nat} {spare : Nat → Bool} {held : Bool} {r : Reach} {b0 : Nat} {v : Value} {d : DataW H} {p : List MemPlace}
    (hv : Value.okWide Tryz.prog w r b0 35 v) (h : DataW.Trod enc Tryz.prog w base spare held 35 v d p) :
    ∃ (A : Option Addr) (cp : Nat) (l : List ByteArray), v = .slice A l.length cp ∧ StrsIn w A l ∧ l.length ≤ cp ∧ ∀ x ∈ l, x.size ≤ maxLen := by
  obtain ⟨A, len0, cap0, rfl⟩ := okWide_slice Tryz.underlying35 hv
  obtain ⟨fuel, hf⟩ := h
  have hC : Tryz.prog.cellsOf 9 = 1 := by kernel_rfl
  rcases open_slice Tryz.underlying35 hf with ⟨hcs, _⟩ | ⟨a, len, cap, m, n, D, Pl, hcs, _, hl, _, hm, _, hi⟩
  · simp [Value.cells] at hcs
    obtain ⟨rfl, rfl, rfl⟩ := hcs
    exact ⟨none, 0, [], rfl, fun i x hi => by simp at hi, Nat.le_refl _, fun x hx => by cases hx⟩
  · simp [Value.cells] at hcs
    obtain ⟨rfl, rfl, rfl⟩ := hcs
    rw [hC] at hi
    have hlm : len0 ≤ m := by rw [hm]; split <;> omega
    have key : ∀ i, i < len0 → ∃ x : ByteArray, x.size ≤ maxLen ∧ w.cell? ((a.add (i * 1)).add 0) = some (.string x) := by
      intro i hil
      obtain ⟨cs, hc, ht⟩ := hi i (by omega)
      obtain ⟨_, hcl, hat⟩ := World.cells?_some hc
      match cs, hcl with
      | [c0], _ =>
        obtain ⟨x0, e0, _, v0⟩ := DataW.trod_string Tryz.underlying9 ht
        simp only [List.cons.injEq, and_true] at e0
        subst e0
        exact ⟨x0, v0, hat 0 (by omega)⟩
    obtain ⟨l, hll, hlx⟩ := list_of key
    refine ⟨some a, cap0, l, by rw [hll], fun i x hx => ?_, by rw [hll]; exact hl, fun x hx => ?_⟩
    · obtain ⟨_, k0⟩ := hlx i x hx
      obtain ⟨b, o, sp⟩ := a
      have hsp : sp = none := by
        have hlt := (List.getElem?_eq_some_iff.1 hx).1
        obtain ⟨_, j0⟩ := hlx 0 _ (List.getElem?_eq_getElem (by omega))
        simpa [Addr.add] using World.cell?_spot j0
      subst hsp
      rw [add_plain, add_plain, Nat.mul_one] at k0
      exact ⟨b, o, rfl, k0⟩
    · obtain ⟨i, hi, e⟩ := List.getElem_of_mem hx
      exact (hlx i x (List.getElem?_eq_some_iff.2 ⟨hi, e⟩)).1

end Go.Proofs.YtckmlbcpldpkpaaGreatDoor

/- What MarkupTags keeps from round to round. -/
namespace Go.Proofs.YtckmlbcpldpkpaaGreatDoor
open Go Go.RowKit
set_option linter.unusedVariables false

/-- Pairs that are tried: valid names, values that are text, all names different. -/
structure TgSt (ps : List (List UInt8 × List UInt8)) : Prop where
  name : ∀ p ∈ ps, Mk.pname p.1 = true
  rep : ∀ p ∈ ps, Txt.rep p.2 = p.2
  short : ∀ p ∈ ps, p.2.length ≤ 100
  diff : ps.Pairwise fun p q => p.1 ≠ q.1
theorem TgSt.nil : TgSt [] := ⟨fun p hp => (by cases hp), fun p hp => (by cases hp), fun p hp => (by cases hp), List.Pairwise.nil⟩
theorem TgSt.snoc {P : List (List UInt8 × List UInt8)} {i : Nat} (h : TgSt (P.take i)) (hi : i < P.length) (h1 : Mk.pname P[i].1 = true) (h2 : Txt.rep P[i].2 = P[i].2) (h3 : P[i].2.length ≤ 100)
    (h4 : ∀ (k : Nat) (hk : k < i), P[k].1 ≠ P[i].1) : TgSt (P.take (i + 1)) := by
  have e : P.take (i + 1) = P.take i ++ [P[i]] := (List.take_append_getElem hi).symm
  rw [e]
  have one : ∀ {Q : List UInt8 × List UInt8 → Prop}, (∀ p ∈ P.take i, Q p) → Q P[i] → ∀ p ∈ P.take i ++ [P[i]], Q p := fun ha hb p hp => by
    rcases List.mem_append.1 hp with hp | hp
    · exact ha p hp
    · rw [List.mem_singleton.1 hp]; exact hb
  refine ⟨one h.name h1, one h.rep h2, one h.short h3, ?_⟩
  rw [List.pairwise_append]
  refine ⟨h.diff, List.pairwise_singleton _ _, fun p hp q hq => ?_⟩
  rw [List.mem_singleton.1 hq]
  obtain ⟨k, hk, rfl⟩ := List.getElem_of_mem hp
  rw [List.length_take] at hk
  rw [List.getElem_take]
  exact h4 k (by omega)
/-- The text so far. -/
def tgDoc (P : List (List UInt8 × List UInt8)) (i : Nat) : List UInt8 := [60, 120] ++ (P.take i).flatMap Mk.item
theorem tgDoc_succ {P : List (List UInt8 × List UInt8)} {i : Nat} (hi : i < P.length) : tgDoc P (i + 1) = tgDoc P i ++ Mk.item P[i] := by
  unfold tgDoc
  rw [show P.take (i + 1) = P.take i ++ [P[i]] from (List.take_append_getElem hi).symm, List.flatMap_append, List.append_assoc]
  simp
theorem tgDoc_len {P : List (List UInt8 × List UInt8)} {i : Nat} (h : TgSt (P.take i)) (hi : i ≤ 20) : (tgDoc P i).length ≤ 12482 := by
  have := Mk.items_len (P.take i) h.name h.short
  have hl : (P.take i).length ≤ i := by rw [List.length_take]; omega
  unfold tgDoc
  rw [List.length_append]
  have h2 : ([60, 120] : List UInt8).length = 2 := rfl
  omega
/-- Pairs in two rows of strings. -/
def TgIn (w : World) (A0 A1 : Option Addr) (P : List (List UInt8 × List UInt8)) : Prop :=
  ∀ (i : Nat) (h : i < P.length), (∃ b o, A0 = some ⟨b, o, none⟩ ∧ w.cell? ⟨b, o + i, none⟩ = some (.string (tstr P[i].1))) ∧ (∃ b o, A1 = some ⟨b, o, none⟩ ∧ w.cell? ⟨b, o + i, none⟩ = some (.string (tstr P[i].2))) ∧ (tstr P[i].1).size ≤ maxLen
theorem tg_in {w : World} {A0 A1 : Option Addr} {l0 l1 : List ByteArray} (h0 : StrsIn w A0 l0) (h1 : StrsIn w A1 l1) (hl : l0.length ≤ l1.length) (hz : ∀ x ∈ l0, x.size ≤ maxLen) :
    ∃ P : List (List UInt8 × List UInt8), P.length = l0.length ∧ TgIn w A0 A1 P := by
  refine ⟨l0.zipWith (fun a b => (a.data.toList, b.data.toList)) l1, by rw [List.length_zipWith]; omega, fun i h => ?_⟩
  rw [List.length_zipWith] at h
  have e0 : l0[i]? = some l0[i] := List.getElem?_eq_getElem (by omega)
  have e1 : l1[i]? = some l1[i] := List.getElem?_eq_getElem (by omega)
  rw [List.getElem_zipWith]
  have s0 : tstr l0[i].data.toList = l0[i] := rfl
  have s1 : tstr l1[i].data.toList = l1[i] := rfl
  refine ⟨?_, ?_, ?_⟩
  · rw [s0]; exact h0 i _ e0
  · rw [s1]; exact h1 i _ e1
  · rw [s0]; exact hz _ (List.getElem_mem (by omega))
theorem TgIn.below {w w' : World} {A0 A1 : Option Addr} {P : List (List UInt8 × List UInt8)} (h : TgIn w A0 A1 P) (hb : Below w.heap.size w w') : TgIn w' A0 A1 P := by
  intro i hi
  obtain ⟨⟨b, o, e1, c1⟩, ⟨b', o', e2, c2⟩, hz⟩ := h i hi
  exact ⟨⟨b, o, e1, (hb.cell (World.block_lt_of_cell? w _ c1)).trans c1⟩, ⟨b', o', e2, (hb.cell (World.block_lt_of_cell? w _ c2)).trans c2⟩, hz⟩

end Go.Proofs.YtckmlbcpldpkpaaGreatDoor

/- What each token of a document is like. No program is imported. -/
namespace Go.Proofs.YtckmlbcpldpkpaaGreatDoor.Mk
open Go
set_option linter.unusedVariables false

theorem lo_lo (c : UInt8) : Txt.lo (Txt.lo c) = Txt.lo c := by
  apply UInt8.toNat_inj.1
  have h1 := Txt.lo_num (Txt.lo c)
  have h2 := Txt.lo_num c
  split at h2
  · split at h1
    · omega
    · omega
  · split at h1
    · omega
    · omega
theorem lo_all (l : List UInt8) : (l.map Txt.lo).map Txt.lo = l.map Txt.lo := by
  rw [List.map_map]
  exact List.map_congr_left fun c _ => lo_lo c
/-- A row of attributes: names in lower case, not empty, different; at most 64. -/
structure GoodA (N : Nat) (l : List (List UInt8 × List UInt8)) : Prop where
  len : l.length ≤ 64
  ne : ∀ p ∈ l, p.1 ≠ []
  low : ∀ p ∈ l, p.1.map Txt.lo = p.1
  diff : l.Pairwise fun p q => p.1 ≠ q.1
  short : ∀ p ∈ l, p.1.length ≤ N
theorem GoodA.nil (N : Nat) : GoodA N [] := ⟨by decide, fun p hp => (by cases hp), fun p hp => (by cases hp), List.Pairwise.nil, fun p hp => (by cases hp)⟩
theorem GoodA.add {N : Nat} {l : List (List UInt8 × List UInt8)} (h : GoodA N l) {n : List UInt8} (v : List UInt8) (h1 : n ≠ []) (h2 : n.map Txt.lo = n) (h3 : n.length ≤ N) : GoodA N (addA l n v) := by
  refine ⟨addA_len l n v h.len, ?_, ?_, ?_, ?_⟩
  · unfold addA
    split
    · exact h.ne
    · split
      · intro p hp
        rcases List.mem_append.1 hp with hp | hp
        · exact h.ne p hp
        · rw [List.mem_singleton.1 hp]; exact h1
      · exact h.ne
  · unfold addA
    split
    · exact h.low
    · split
      · intro p hp
        rcases List.mem_append.1 hp with hp | hp
        · exact h.low p hp
        · rw [List.mem_singleton.1 hp]; exact h2
      · exact h.low
  · unfold addA
    split
    · exact h.diff
    · rename_i hn
      split
      · rw [List.pairwise_append]
        refine ⟨h.diff, List.pairwise_singleton _ _, fun p hp q hq => ?_⟩
        rw [List.mem_singleton.1 hq]
        intro e
        apply hn
        rw [List.any_eq_true]
        exact ⟨p, hp, by simpa using e⟩
      · exact h.diff
  · unfold addA
    split
    · exact h.short
    · split
      · intro p hp
        rcases List.mem_append.1 hp with hp | hp
        · exact h.short p hp
        · rw [List.mem_singleton.1 hp]; exact h3
      · exact h.short
theorem attr_good {l n v r : List UInt8} (h : attr l = some (n, v, r)) : n ≠ [] ∧ n.map Txt.lo = n ∧ n.length ≤ l.length := by
  unfold attr at h
  split at h
  · cases h
  · rename_i c t
    simp only at h
    have key : n = (c :: t.takeWhile inName).map Txt.lo := by
      split at h
      · exact (Prod.mk.inj (Option.some.inj h)).1.symm
      · split at h
        · obtain ⟨p, hp, e⟩ := Option.map_eq_some_iff.1 h
          exact (Prod.mk.inj e).1.symm
        · exact (Prod.mk.inj (Option.some.inj h)).1.symm
    rw [key]
    have ht := (List.takeWhile_sublist (l := t) inName).length_le
    exact ⟨by simp, lo_all _, by rw [List.length_map, List.length_cons, List.length_cons]; omega⟩
theorem attrs_good (N : Nat) : ∀ (n : Nat) (acc : List (List UInt8 × List UInt8)) (l : List UInt8) (p : List (List UInt8 × List UInt8) × Bool × List UInt8), l.length ≤ n → l.length ≤ N → GoodA N acc → attrs acc l = some p → GoodA N p.1 := by
  intro n
  induction n with
  | zero =>
    intro acc l p hl hN hg h
    have hn : l = [] := List.length_eq_zero_iff.1 (by omega)
    subst hn
    rw [attrs_def] at h
    cases h
  | succ n ih =>
    intro acc l p hl hN hg h
    have h1 := skip_le false l
    rw [attrs_def] at h
    cases hs : (skip false l).2 with
    | nil => rw [hs] at h; cases h
    | cons c r =>
      rw [hs, List.length_cons] at h1
      rw [hs] at h
      simp only at h
      split at h
      · obtain rfl := Option.some.inj h
        exact hg
      · cases ha : attr (c :: r) with
        | none => rw [ha] at h; cases h
        | some q =>
          obtain ⟨nm, v, t⟩ := q
          rw [ha] at h
          simp only at h
          have h2 := attr_le ha
          rw [List.length_cons] at h2
          obtain ⟨g1, g2, g3⟩ := attr_good ha
          rw [List.length_cons] at g3
          exact ih _ t p (by omega) (by omega) (hg.add v g1 g2 (by omega)) h
/-- A token with the fields of its kind. -/
structure GoodT (N : Nat) (t : Tok) : Prop where
  kind : 1 ≤ t.kind ∧ t.kind ≤ 5
  name : t.kind = 1 ∨ t.kind = 2 ↔ t.name ≠ []
  text : t.kind = 1 ∨ t.kind = 2 → t.text = []
  bare : t.kind ≠ 1 → t.attrs = [] ∧ t.closed = false
  full : t.kind = 3 → t.text ≠ []
  low : t.name.map Txt.lo = t.name
  attrs : GoodA N t.attrs
  short : t.name.length ≤ N
theorem isL_go {c : UInt8} (h : Ent.isL c = true) : stopC c = false := by
  unfold Ent.isL at h
  simp only [Bool.or_eq_true, Bool.and_eq_true, decide_eq_true_eq] at h
  unfold stopC Txt.sp
  simp only [Bool.or_eq_false_iff, beq_eq_false_iff_ne]
  omega
theorem name_ne {l : List UInt8} (h : letter l = true) : name l ≠ [] := by
  cases l with
  | nil => cases h
  | cons c r =>
    have hc : stopC c = false := isL_go h
    unfold name
    rw [List.takeWhile_cons_of_pos (by rw [hc]; rfl)]
    simp
theorem good_text (N : Nat) {l : List UInt8} (h : l ≠ []) : GoodT N (txt l) :=
  ⟨⟨Nat.le_of_ble_eq_true rfl, Nat.le_of_ble_eq_true rfl⟩, ⟨fun h => (by rcases h with h | h <;> cases h), fun h => absurd rfl h⟩, fun h => (by rcases h with h | h <;> cases h), fun _ => ⟨rfl, rfl⟩, fun _ => h, rfl, GoodA.nil _, Nat.zero_le _⟩
theorem good_comment (N : Nat) (l : List UInt8) : GoodT N ⟨4, [], [], false, l⟩ :=
  ⟨⟨Nat.le_of_ble_eq_true rfl, Nat.le_of_ble_eq_true rfl⟩, ⟨fun h => (by rcases h with h | h <;> cases h), fun h => absurd rfl h⟩, fun h => (by rcases h with h | h <;> cases h), fun _ => ⟨rfl, rfl⟩, fun h => (by cases h), rfl, GoodA.nil _, Nat.zero_le _⟩
theorem good_doctype (N : Nat) (l : List UInt8) : GoodT N ⟨5, [], [], false, l⟩ :=
  ⟨⟨Nat.le_of_ble_eq_true rfl, Nat.le_of_ble_eq_true rfl⟩, ⟨fun h => (by rcases h with h | h <;> cases h), fun h => absurd rfl h⟩, fun h => (by rcases h with h | h <;> cases h), fun _ => ⟨rfl, rfl⟩, fun h => (by cases h), rfl, GoodA.nil _, Nat.zero_le _⟩
theorem good_bogus (N : Nat) (b : Bool) (l : List UInt8) : GoodT N (bogus b l) := by
  unfold bogus
  split
  · exact good_doctype _ _
  · exact good_comment _ _
theorem name_le (l : List UInt8) : (name l).length ≤ l.length := by
  unfold name
  rw [List.length_map]
  exact (List.takeWhile_sublist _).length_le
theorem good_end {N : Nat} {l : List UInt8} (h : letter l = true) (hN : l.length ≤ N) : GoodT N ⟨2, name l, [], false, []⟩ :=
  ⟨⟨Nat.le_of_ble_eq_true rfl, Nat.le_of_ble_eq_true rfl⟩, ⟨fun _ => name_ne h, fun _ => .inr rfl⟩, fun _ => rfl, fun _ => ⟨rfl, rfl⟩, fun h => (by cases h), lo_all _, GoodA.nil _, Nat.le_trans (name_le l) hN⟩
theorem good_start {N : Nat} {l : List UInt8} {p : Tok × List UInt8} (h : letter l = true) (hN : l.length ≤ N) (hs : start l = some p) : GoodT N p.1 := by
  unfold start at hs
  obtain ⟨q, hq, rfl⟩ := Option.map_eq_some_iff.1 hs
  exact ⟨⟨Nat.le_of_ble_eq_true rfl, Nat.le_of_ble_eq_true rfl⟩, ⟨fun _ => name_ne h, fun _ => .inl rfl⟩, fun _ => rfl, fun h => absurd rfl h, fun h => (by cases h), lo_all _, attrs_good N _ _ _ _ (Nat.le_refl _) (Nat.le_trans (dropWhile_le _ _) hN) (GoodA.nil _) hq, Nat.le_trans (name_le l) hN⟩
theorem good_after (N : Nat) (t : Tok) (r : List UInt8) : ∀ x ∈ (after t r).1, GoodT N x := by
  unfold after
  split
  · intro x hx
    simp only at hx
    split at hx
    all_goals
      split at hx
      · cases hx
      · rename_i hne
        rw [List.mem_singleton.1 hx]
        exact good_text N hne
  · intro x hx; cases hx
theorem step_good {N : Nat} {l : List UInt8} {p : List Tok × List UInt8} (h0 : l ≠ []) (hN : l.length ≤ N) (h : step l = some p) : ∀ t ∈ p.1, GoodT N t := by
  unfold step at h
  split at h
  · obtain rfl := Option.some.inj h
    intro t ht
    rw [List.mem_singleton.1 ht]; exact good_comment _ _
  · split at h
    · rename_i hl
      obtain ⟨k, _, rfl⟩ := Option.map_eq_some_iff.1 h
      intro t ht
      rw [List.mem_singleton.1 ht]
      rw [Bool.and_eq_true] at hl
      exact good_end hl.2 (by rw [List.length_drop]; omega)
    · split at h
      · obtain rfl := Option.some.inj h
        intro t ht; cases ht
      · split at h
        · obtain rfl := Option.some.inj h
          intro t ht
          rw [List.mem_singleton.1 ht]; exact good_bogus _ _ _
        · split at h
          · rename_i hl
            rw [Bool.and_eq_true] at hl
            obtain ⟨q, hq, rfl⟩ := Option.map_eq_some_iff.1 h
            intro t ht
            rcases List.mem_cons.1 ht with rfl | ht
            · exact good_start hl.2 (by rw [List.length_drop]; omega) hq
            · exact good_after _ _ _ t ht
          · obtain rfl := Option.some.inj h
            intro t ht
            rw [List.mem_singleton.1 ht]
            refine good_text N ?_
            cases l with
            | nil => exact absurd rfl h0
            | cons c r =>
              rw [List.take_succ_cons]
              exact decode_ne (List.cons_ne_nil _ _)
theorem tokens_good (N : Nat) : ∀ (n : Nat) (l : List UInt8), l.length ≤ n → l.length ≤ N → ∀ t ∈ tokens l, GoodT N t := by
  intro n
  induction n with
  | zero =>
    intro l hl hN t ht
    have hn : l = [] := List.length_eq_zero_iff.1 (by omega)
    subst hn
    rw [tokens_nil] at ht; cases ht
  | succ n ih =>
    intro l hl hN t ht
    by_cases h0 : l = []
    · subst h0; rw [tokens_nil] at ht; cases ht
    cases hs : step l with
    | none => rw [tokens_none hs] at ht; cases ht
    | some p =>
      rw [tokens_some h0 hs] at ht
      rcases List.mem_append.1 ht with ht | ht
      · exact step_good h0 hN hs t ht
      · have := step_lt h0 hs
        exact ih p.2 (by omega) (by omega) t ht

theorem toks_len (c : Bool) : ∀ (n : Nat) (raw s : List UInt8), s.length ≤ n → (toks c raw s).1.length ≤ s.length := by
  intro n
  induction n with
  | zero =>
    intro raw s hl
    rw [toks_stop (.inl (List.length_eq_zero_iff.1 (by omega)))]; exact Nat.zero_le _
  | succ n ih =>
    intro raw s hl
    have h1 := nxt_toks c s.length raw s (Nat.le_refl _)
    generalize nxt c raw s = x at h1
    obtain ⟨o, r', s'⟩ := x
    cases o with
    | none =>
      simp only at h1
      rw [h1.1]; exact Nat.zero_le _
    | some t =>
      simp only at h1
      have h2 := ih r' s' (by omega)
      rw [h1.1, List.length_cons]; omega
theorem tokens_len (s : List UInt8) : (tokens s).length ≤ s.length := by
  rw [← (toks_tokens _ s (Nat.le_refl _)).1]
  exact toks_len _ _ _ _ (Nat.le_refl _)

end Go.Proofs.YtckmlbcpldpkpaaGreatDoor.Mk

/- The statement MarkupTags returns true: its walk. -/
namespace Go.Proofs.YtckmlbcpldpkpaaGreatDoor
open Go Go.RowKit
set_option linter.unusedVariables false

theorem bne_fact {a b : List UInt8} (h : a = b) : ((tstr a).toList != (tstr b).toList) = false := by rw [bne, eq_fact h]; rfl
theorem bne_fact' {a b : List UInt8} (h : a ≠ b) : ((tstr a).toList != (tstr b).toList) = true := by rw [bne, ne_fact h]; rfl
theorem below_dr {B : Nat} {a w : World} (h : Below B a w) (q : Nat) : Below B a (w.drewN q) := ⟨h.os, h.tape, h.output, h.size, h.block⟩

set_option maxRecDepth 100000 in
set_option maxHeartbeats 8000000 in
theorem tags_walk (A0 : Option Addr) (cap0 : Nat) (ss0 : List ByteArray) (A1 : Option Addr) (cap1 : Nat) (ss1 : List ByteArray) (cl : Bool) (w : World) (hE : Env w) (hA0 : StrsIn w A0 ss0) (hA1 : StrsIn w A1 ss1) (hz0 : ∀ x ∈ ss0, x.size ≤ 140737488351232) (hz1 : ∀ x ∈ ss1, x.size ≤ 140737488351232) :
    Calls Tryz.prog 4 #[.slice A0 ss0.length cap0, .slice A1 ss1.length cap1, .bool cl] w fun e w' => e = .returned (.bool true) ∧ Below w.heap.size w w' := by
  have haw := fun W (hW : Env W) => mawake_any W hW
  by_cases hn20 : ss0.length ≤ 20
  case neg =>
    have hn20I : ¬ (ss0.length : Int) ≤ 20 := by omega
    go_enter Tryz.func4, Tryz.ntmps4
    go_wp2_with fail
    refine (haw w hE).mono ?_
    rintro e w1 ⟨rfl, hb1⟩
    go_wp2_with fail
    refine (haw w1 (hE.below hb1)).mono ?_
    rintro e w2 ⟨rfl, hb2⟩
    go_wp2_with fail
    go_ret
    exact ⟨rfl, below_trans' hb1 hb2⟩
  have hn20I : (ss0.length : Int) ≤ 20 := by omega
  by_cases hvn : ss0.length ≤ ss1.length
  case neg =>
    have hvnI : (ss1.length : Int) < (ss0.length : Int) := by omega
    go_enter Tryz.func4, Tryz.ntmps4
    go_wp2_with fail
    refine (haw w hE).mono ?_
    rintro e w1 ⟨rfl, hb1⟩
    go_wp2_with fail
    refine (haw w1 (hE.below hb1)).mono ?_
    rintro e w2 ⟨rfl, hb2⟩
    go_wp2_with fail
    go_ret
    exact ⟨rfl, below_trans' hb1 hb2⟩
  have hvnI : ¬ (ss1.length : Int) < (ss0.length : Int) := by omega
  obtain ⟨P, hPl, hP⟩ := tg_in hA0 hA1 hvn (fun x hx => by have := hz0 x hx; unfold maxLen; omega)
  have hPz : ∀ (i : Nat) (h : i < P.length), P[i].2.length ≤ 140737488351232 := fun i h => by
    obtain ⟨_, ⟨b, o, e1, c1⟩, _⟩ := hP i h
    obtain ⟨b', o', e2, c2⟩ := hA1 i _ (List.getElem?_eq_getElem (by omega))
    rw [e1] at e2
    injection e2 with e2
    injection e2 with e3 e4
    subst e3 e4
    rw [c1] at c2
    injection c2 with c2
    injection c2 with c2
    have h9 := hz1 _ (List.getElem_mem (by omega : i < ss1.length))
    rw [← c2, tstr_size] at h9
    exact h9
  obtain ⟨n, hn⟩ : ∃ n, ss0.length = n := ⟨_, rfl⟩
  obtain ⟨m1, hm1⟩ : ∃ m1, ss1.length = m1 := ⟨_, rfl⟩
  rw [hn] at hPl hn20 hn20I hvn hvnI ⊢
  rw [hm1] at hvn hvnI ⊢
  clear hA0 hA1 hz0 hz1 hn hm1
  have HPL := Lib.hid hPl
  have HPZ := Lib.hid hPz
  clear hPl hPz
  go_enter Tryz.func4, Tryz.ntmps4
  go_wp2_with fail
  refine (haw w hE).mono ?_
  rintro e w1 ⟨rfl, hb1⟩
  have hP1 := hP.below hb1
  have HE1 := Lib.hid (hE.below hb1)
  have HB1 := Lib.hid hb1
  clear haw hb1 hP hE
  go_wp2_with fail
  simp only [show decide (m1 < n) = false from decide_eq_false (by omega), Bool.or_false]
  go_loopw [7, 8] (fun vs vi wr => ∃ I : Nat, vi = .int .i64 (I : Int) ∧ I ≤ n ∧ vs = .string (tstr (tgDoc P I)) ∧ TgSt (P.take I) ∧ Below w1.heap.size w1 wr) (fun _ vi _ => n - (intOf vi).toNat)
  case atStart => exact ⟨0, rfl, Nat.zero_le _, rfl, TgSt.nil, Below.refl _ _⟩
  case round =>
    obtain ⟨I, rfl, hI, rfl, hS, hB⟩ := hrel
    have hdl := tgDoc_len hS (by omega)
    by_cases hlt : I < n
    · have hltI : (I : Int) < (n : Int) := by omega
      have hlm : (I : Int) < (m1 : Int) := by omega
      have hIP : I < P.length := by rw [HPL.out]; exact hlt
      obtain ⟨⟨b0, o0, rfl, k0⟩, ⟨b1, o1, rfl, k1⟩, hzn⟩ := hP1.below hB I hIP
      have hvz := HPZ.out I hIP
      have HS := Lib.hid hS
      have HB := Lib.hid hB
      have hsnoc := fun h1 h2 h3 h4 => hS.snoc hIP h1 h2 h3 h4
      have hsucc := tgDoc_succ hIP
      have hcells : ∀ (k : Nat) (hk : k < P.length), wr.cell? ⟨b0, o0 + k, none⟩ = some (.string (tstr P[k].1)) := fun k hk => by
        obtain ⟨⟨b', o', e', c'⟩, _, _⟩ := hP1.below hB k hk
        injection e' with e'
        injection e' with e3 e4
        subst e3 e4
        exact c'
      have HC := Lib.hid hcells
      have hpl := fun W => lplain_any (tstr P[I].1) W hzn
      simp only [tstr_data] at hpl
      have HSN := Lib.hid hsnoc
      have HSU := Lib.hid hsucc
      clear hS hB hsnoc hsucc hcells
      obtain ⟨n1, hn1⟩ : ∃ x, P[I].1 = x := ⟨_, rfl⟩
      obtain ⟨n2, hn2⟩ : ∃ x, P[I].2 = x := ⟨_, rfl⟩
      rw [hn1] at k0 hpl hzn
      rw [hn2] at k1 hvz
      have hpn1 : ∀ h : P.length > I, P[I].1 = n1 := fun _ => hn1
      have hvs : (tstr n2).size = n2.length := tstr_size n2
      have HN1 := Lib.hid hn1
      have HN2 := Lib.hid hn2
      clear hn1 hn2 hpn1
      cases hq : Mk.pname n1 with
      | false =>
        rw [hq] at hpl
        have hpq : ∀ W, Calls Tryz.prog 12 #[.string (tstr n1)] W fun e w' => e = .returned (.bool false) ∧ w' = W := fun W => (hpl W).mono fun _ _ ⟨h, h2⟩ => ⟨h, h2.symm⟩
        clear hq
        go_wp2_with fail
        go_quiet ((go_at_call 12; exact Calls.quiet_of_same (hpq _)))
        go_wp2_with fail
        go_ret
        exact ⟨rfl, HB1.out.trans (below_dr (HB.out.mono HB1.out.size) _)⟩
      | true =>
        rw [hq] at hpl
        have hpq : ∀ W, Calls Tryz.prog 12 #[.string (tstr n1)] W fun e w' => e = .returned (.bool true) ∧ w' = W := fun W => (hpl W).mono fun _ _ ⟨h, h2⟩ => ⟨h, h2.symm⟩
        by_cases h100 : n2.length ≤ 100
        case neg =>
          have h100I : decide ((100 : Int) < (n2.length : Int)) = true := decide_eq_true (by omega)
          have h100J : decide (100 < n2.length) = true := decide_eq_true (by omega)
          clear hq
          go_wp2_with fail
          go_quiet ((go_at_call 12; exact Calls.quiet_of_same (hpq _)))
          go_wp2_with fail
          go_ret
          exact ⟨rfl, HB1.out.trans (below_dr (HB.out.mono HB1.out.size) _)⟩
        go_wp2_with fail
        have h100I : decide ((100 : Int) < ((tstr n2).size : Int)) = false := decide_eq_false (by omega)
        have h100J : decide ((100 : Int) < (n2.length : Int)) = false := decide_eq_false (by omega)
        have h100K : decide (100 < n2.length) = false := decide_eq_false (by omega)
        have hrr := fun W => rrepair_any (tstr n2) W (by rw [tstr_size]; omega)
        have hrn := fun W => rnewlines_any (tstr n2) W (by rw [tstr_size]; omega)
        simp only [tstr_data] at hrr hrn
        by_cases hr7 : Txt.rep n2 = n2
        case neg =>
          have f1 := ne_fact hr7
          have f1b := bne_fact' hr7
          clear hr7 hrn
          generalize tstr (Txt.rep n2) = R1 at hrr f1 f1b
          go_wp2_with fail
          refine wp_region_noPanic ?_
          refine wp_region_held_drew (S := (fun W => W.cell? ⟨b0, o0 + I, none⟩ = some (.string (tstr n1)) ∧ W.cell? ⟨b1, o1 + I, none⟩ = some (.string (tstr n2)) ∧ Below wr.heap.size wr W)) (by kernel_rfl) ?_ (fun hHeld => ?_)
          · exact ⟨k0, k1, Below.drew (Below.refl _ _)⟩
          refine wpAnyH_take (i := 0) (oi := { dst := some 33, op := Op.move (Operand.tmp 0), type := 35, pos := "law.go:131", after := #[], guard := none }) (v := ?_) rfl (by kernel_rfl) (by kernel_rfl) (by kernel_rfl) (fun _ _ _ h => h) (Or.inl ⟨by rfl, ?_⟩) (by assumption) ?_
          rotate_left 1
          · (intro w' hSw; (try dsimp only at hSw); go_simp <;> with_reducible rfl)
          try simp only [Act.put, List.setIfInBounds_toArray, List.set_cons_zero, List.set_cons_succ]
          refine wpAnyH_take (i := 1) (oi := { dst := some 34, op := Op.move (Operand.tmp 8), type := 3, pos := "law.go:131", after := #[], guard := none }) (v := ?_) rfl (by kernel_rfl) (by kernel_rfl) (by kernel_rfl) (fun _ _ _ h => h) (Or.inl ⟨by rfl, ?_⟩) (by assumption) ?_
          rotate_left 1
          · (intro w' hSw; (try dsimp only at hSw); go_simp <;> with_reducible rfl)
          try simp only [Act.put, List.setIfInBounds_toArray, List.set_cons_zero, List.set_cons_succ]
          refine wpAnyH_take (i := 2) (oi := { dst := some 35, op := Op.indexAddr 35 (Operand.tmp 33) (Operand.tmp 34), type := 0, pos := "law.go:131", after := #[{ on := 0, ground := Ground.data }, { on := 1, ground := Ground.data }], guard := none }) (v := ?_) rfl (by kernel_rfl) (by kernel_rfl) (by kernel_rfl) (fun _ _ _ h => h) (Or.inl ⟨by rfl, ?_⟩) (by assumption) ?_
          rotate_left 1
          · (intro w' hSw; (try dsimp only at hSw); go_simp <;> with_reducible rfl)
          try simp only [Act.put, List.setIfInBounds_toArray, List.set_cons_zero, List.set_cons_succ]
          refine wpAnyH_take (i := 3) (oi := { dst := some 36, op := Op.load 9 (Operand.tmp 35), type := 9, pos := "law.go:131", after := #[{ on := 2, ground := Ground.data }], guard := none }) (v := ?_) rfl (by kernel_rfl) (by kernel_rfl) (by kernel_rfl) (fun _ _ _ h => h) (Or.inl ⟨by rfl, ?_⟩) (by assumption) ?_
          rotate_left 1
          · (intro w' hSw; (try dsimp only at hSw); go_simp <;> with_reducible rfl)
          try simp only [Act.put, List.setIfInBounds_toArray, List.set_cons_zero, List.set_cons_succ]
          refine wpAnyH_ready (rs := [4]) (by kernel_rfl) (by simp) ?_
          refine AllReadyH.cons (o := { dst := some 37, op := Op.call { callee := Callee.value (Operand.func 12), args := #[Operand.tmp 36], argTypes := #[9] }, type := 4, pos := "law.go:131", after := #[{ on := 3, ground := Ground.data }], guard := none }) rfl (fun K hK => ?_) AllReadyH.nil
          go_simp
          refine (hpl _).mono ?_
          rintro e w' ⟨rfl, rfl⟩
          refine hK.out _ _ ?_ (fun hHeld => ?_)
          · exact hHeld
          clear hK K
          try simp only [Act.put, List.setIfInBounds_toArray, List.set_cons_zero, List.set_cons_succ]
          refine wpAnyH_take (i := 5) (oi := { dst := some 38, op := Op.unOp UnOp.not 4 (Operand.tmp 37), type := 4, pos := "law.go:131", after := #[{ on := 4, ground := Ground.data }], guard := none }) (v := ?_) rfl (by kernel_rfl) (by kernel_rfl) (by kernel_rfl) (fun _ _ _ h => h) (Or.inl ⟨by rfl, ?_⟩) (by assumption) ?_
          rotate_left 1
          · (intro w' hSw; (try dsimp only at hSw); go_simp <;> with_reducible rfl)
          try simp only [Act.put, List.setIfInBounds_toArray, List.set_cons_zero, List.set_cons_succ]
          refine wpAnyH_take (i := 6) (oi := { dst := some 39, op := Op.move (Operand.tmp 38), type := 4, pos := "law.go:131", after := #[{ on := 5, ground := Ground.data }, { on := 4, ground := Ground.chain }], guard := none }) (v := ?_) rfl (by kernel_rfl) (by kernel_rfl) (by kernel_rfl) (fun _ _ _ h => h) (Or.inl ⟨by rfl, ?_⟩) (by assumption) ?_
          rotate_left 1
          · (intro w' hSw; (try dsimp only at hSw); go_simp <;> with_reducible rfl)
          try simp only [Act.put, List.setIfInBounds_toArray, List.set_cons_zero, List.set_cons_succ]
          refine wpAnyH_take (i := 7) (oi := { dst := some 40, op := Op.move (Operand.tmp 1), type := 35, pos := "law.go:131", after := #[{ on := 6, ground := Ground.guard }], guard := some (6, false) }) (v := ?_) rfl (by kernel_rfl) (by kernel_rfl) (by kernel_rfl) (fun _ _ _ h => h) (Or.inl ⟨by rfl, ?_⟩) (by assumption) ?_
          rotate_left 1
          · (intro w' hSw; (try dsimp only at hSw); go_simp <;> with_reducible rfl)
          try simp only [Act.put, List.setIfInBounds_toArray, List.set_cons_zero, List.set_cons_succ]
          refine wpAnyH_take (i := 8) (oi := { dst := some 41, op := Op.move (Operand.tmp 8), type := 3, pos := "law.go:131", after := #[{ on := 6, ground := Ground.guard }], guard := some (6, false) }) (v := ?_) rfl (by kernel_rfl) (by kernel_rfl) (by kernel_rfl) (fun _ _ _ h => h) (Or.inl ⟨by rfl, ?_⟩) (by assumption) ?_
          rotate_left 1
          · (intro w' hSw; (try dsimp only at hSw); go_simp <;> with_reducible rfl)
          try simp only [Act.put, List.setIfInBounds_toArray, List.set_cons_zero, List.set_cons_succ]
          refine wpAnyH_take (i := 9) (oi := { dst := some 42, op := Op.indexAddr 35 (Operand.tmp 40) (Operand.tmp 41), type := 0, pos := "law.go:131", after := #[{ on := 7, ground := Ground.data }, { on := 8, ground := Ground.data }, { on := 6, ground := Ground.guard }], guard := some (6, false) }) (v := ?_) rfl (by kernel_rfl) (by kernel_rfl) (by kernel_rfl) (fun _ _ _ h => h) (Or.inl ⟨by rfl, ?_⟩) (by assumption) ?_
          rotate_left 1
          · (intro w' hSw; (try dsimp only at hSw); go_simp <;> with_reducible rfl)
          try simp only [Act.put, List.setIfInBounds_toArray, List.set_cons_zero, List.set_cons_succ]
          refine wpAnyH_take (i := 10) (oi := { dst := some 43, op := Op.load 9 (Operand.tmp 42), type := 9, pos := "law.go:131", after := #[{ on := 9, ground := Ground.data }, { on := 6, ground := Ground.guard }], guard := some (6, false) }) (v := ?_) rfl (by kernel_rfl) (by kernel_rfl) (by kernel_rfl) (fun _ _ _ h => h) (Or.inl ⟨by rfl, ?_⟩) (by assumption) ?_
          rotate_left 1
          · (intro w' hSw; (try dsimp only at hSw); go_simp <;> with_reducible rfl)
          try simp only [Act.put, List.setIfInBounds_toArray, List.set_cons_zero, List.set_cons_succ]
          refine wpAnyH_take (i := 11) (oi := { dst := some 44, op := Op.call { callee := Callee.builtin Builtin.len, args := #[Operand.tmp 43], argTypes := #[9] }, type := 3, pos := "law.go:131", after := #[{ on := 10, ground := Ground.data }, { on := 6, ground := Ground.guard }], guard := some (6, false) }) (v := ?_) rfl (by kernel_rfl) (by kernel_rfl) (by kernel_rfl) (fun _ _ _ h => h) (Or.inl ⟨by rfl, ?_⟩) (by assumption) ?_
          rotate_left 1
          · (intro w' hSw; (try dsimp only at hSw); go_simp <;> with_reducible rfl)
          try simp only [Act.put, List.setIfInBounds_toArray, List.set_cons_zero, List.set_cons_succ]
          refine wpAnyH_take (i := 12) (oi := { dst := some 45, op := Op.binOp BinOp.gtr 3 (Operand.tmp 44) (Operand.const (Value.int IntKind.i64 100)) 3, type := 4, pos := "law.go:131", after := #[{ on := 11, ground := Ground.data }, { on := 6, ground := Ground.guard }], guard := some (6, false) }) (v := ?_) rfl (by kernel_rfl) (by kernel_rfl) (by kernel_rfl) (fun _ _ _ h => h) (Or.inl ⟨by rfl, ?_⟩) (by assumption) ?_
          rotate_left 1
          · (intro w' hSw; (try dsimp only at hSw); go_simp <;> with_reducible rfl)
          try simp only [Act.put, List.setIfInBounds_toArray, List.set_cons_zero, List.set_cons_succ]
          refine wpAnyH_take (i := 13) (oi := { dst := some 46, op := Op.pick (Operand.tmp 39) (Operand.const (Value.bool true)) (Operand.tmp 45), type := 4, pos := "law.go:131", after := #[{ on := 6, ground := Ground.data }, { on := 12, ground := Ground.data }], guard := none }) (v := ?_) rfl (by kernel_rfl) (by kernel_rfl) (by kernel_rfl) (fun _ _ _ h => h) (Or.inl ⟨by rfl, ?_⟩) (by assumption) ?_
          rotate_left 1
          · (intro w' hSw; (try dsimp only at hSw); go_simp <;> with_reducible rfl)
          try simp only [Act.put, List.setIfInBounds_toArray, List.set_cons_zero, List.set_cons_succ]
          refine wpAnyH_take (i := 14) (oi := { dst := some 47, op := Op.move (Operand.tmp 46), type := 4, pos := "law.go:131", after := #[{ on := 13, ground := Ground.data }, { on := 6, ground := Ground.chain }], guard := none }) (v := ?_) rfl (by kernel_rfl) (by kernel_rfl) (by kernel_rfl) (fun _ _ _ h => h) (Or.inl ⟨by rfl, ?_⟩) (by assumption) ?_
          rotate_left 1
          · (intro w' hSw; (try dsimp only at hSw); go_simp <;> with_reducible rfl)
          try simp only [Act.put, List.setIfInBounds_toArray, List.set_cons_zero, List.set_cons_succ]
          refine wpAnyH_take (i := 15) (oi := { dst := some 48, op := Op.move (Operand.tmp 1), type := 35, pos := "law.go:131", after := #[{ on := 14, ground := Ground.guard }], guard := some (14, false) }) (v := ?_) rfl (by kernel_rfl) (by kernel_rfl) (by kernel_rfl) (fun _ _ _ h => h) (Or.inl ⟨by rfl, ?_⟩) (by assumption) ?_
          rotate_left 1
          · (intro w' hSw; (try dsimp only at hSw); go_simp <;> with_reducible rfl)
          try simp only [Act.put, List.setIfInBounds_toArray, List.set_cons_zero, List.set_cons_succ]
          refine wpAnyH_take (i := 16) (oi := { dst := some 49, op := Op.move (Operand.tmp 8), type := 3, pos := "law.go:131", after := #[{ on := 14, ground := Ground.guard }], guard := some (14, false) }) (v := ?_) rfl (by kernel_rfl) (by kernel_rfl) (by kernel_rfl) (fun _ _ _ h => h) (Or.inl ⟨by rfl, ?_⟩) (by assumption) ?_
          rotate_left 1
          · (intro w' hSw; (try dsimp only at hSw); go_simp <;> with_reducible rfl)
          try simp only [Act.put, List.setIfInBounds_toArray, List.set_cons_zero, List.set_cons_succ]
          refine wpAnyH_take (i := 17) (oi := { dst := some 50, op := Op.indexAddr 35 (Operand.tmp 48) (Operand.tmp 49), type := 0, pos := "law.go:131", after := #[{ on := 15, ground := Ground.data }, { on := 16, ground := Ground.data }, { on := 14, ground := Ground.guard }], guard := some (14, false) }) (v := ?_) rfl (by kernel_rfl) (by kernel_rfl) (by kernel_rfl) (fun _ _ _ h => h) (Or.inl ⟨by rfl, ?_⟩) (by assumption) ?_
          rotate_left 1
          · (intro w' hSw; (try dsimp only at hSw); go_simp <;> with_reducible rfl)
          try simp only [Act.put, List.setIfInBounds_toArray, List.set_cons_zero, List.set_cons_succ]
          refine wpAnyH_take (i := 18) (oi := { dst := some 51, op := Op.load 9 (Operand.tmp 50), type := 9, pos := "law.go:131", after := #[{ on := 17, ground := Ground.data }, { on := 14, ground := Ground.guard }], guard := some (14, false) }) (v := ?_) rfl (by kernel_rfl) (by kernel_rfl) (by kernel_rfl) (fun _ _ _ h => h) (Or.inl ⟨by rfl, ?_⟩) (by assumption) ?_
          rotate_left 1
          · (intro w' hSw; (try dsimp only at hSw); go_simp <;> with_reducible rfl)
          try simp only [Act.put, List.setIfInBounds_toArray, List.set_cons_zero, List.set_cons_succ]
          refine wpAnyH_take (i := 20) (oi := { dst := some 53, op := Op.move (Operand.tmp 1), type := 35, pos := "law.go:131", after := #[{ on := 14, ground := Ground.guard }], guard := some (14, false) }) (v := ?_) rfl (by kernel_rfl) (by kernel_rfl) (by kernel_rfl) (fun _ _ _ h => h) (Or.inl ⟨by rfl, ?_⟩) (by assumption) ?_
          rotate_left 1
          · (intro w' hSw; (try dsimp only at hSw); go_simp <;> with_reducible rfl)
          try simp only [Act.put, List.setIfInBounds_toArray, List.set_cons_zero, List.set_cons_succ]
          refine wpAnyH_take (i := 21) (oi := { dst := some 54, op := Op.move (Operand.tmp 8), type := 3, pos := "law.go:131", after := #[{ on := 14, ground := Ground.guard }], guard := some (14, false) }) (v := ?_) rfl (by kernel_rfl) (by kernel_rfl) (by kernel_rfl) (fun _ _ _ h => h) (Or.inl ⟨by rfl, ?_⟩) (by assumption) ?_
          rotate_left 1
          · (intro w' hSw; (try dsimp only at hSw); go_simp <;> with_reducible rfl)
          try simp only [Act.put, List.setIfInBounds_toArray, List.set_cons_zero, List.set_cons_succ]
          refine wpAnyH_take (i := 22) (oi := { dst := some 55, op := Op.indexAddr 35 (Operand.tmp 53) (Operand.tmp 54), type := 0, pos := "law.go:131", after := #[{ on := 20, ground := Ground.data }, { on := 21, ground := Ground.data }, { on := 14, ground := Ground.guard }], guard := some (14, false) }) (v := ?_) rfl (by kernel_rfl) (by kernel_rfl) (by kernel_rfl) (fun _ _ _ h => h) (Or.inl ⟨by rfl, ?_⟩) (by assumption) ?_
          rotate_left 1
          · (intro w' hSw; (try dsimp only at hSw); go_simp <;> with_reducible rfl)
          try simp only [Act.put, List.setIfInBounds_toArray, List.set_cons_zero, List.set_cons_succ]
          refine wpAnyH_take (i := 23) (oi := { dst := some 56, op := Op.load 9 (Operand.tmp 55), type := 9, pos := "law.go:131", after := #[{ on := 22, ground := Ground.data }, { on := 14, ground := Ground.guard }], guard := some (14, false) }) (v := ?_) rfl (by kernel_rfl) (by kernel_rfl) (by kernel_rfl) (fun _ _ _ h => h) (Or.inl ⟨by rfl, ?_⟩) (by assumption) ?_
          rotate_left 1
          · (intro w' hSw; (try dsimp only at hSw); go_simp <;> with_reducible rfl)
          try simp only [Act.put, List.setIfInBounds_toArray, List.set_cons_zero, List.set_cons_succ]
          refine wpAnyH_ready (rs := [19]) (by kernel_rfl) (by simp) ?_
          refine AllReadyH.cons (o := { dst := some 52, op := Op.call { callee := Callee.value (Operand.func 13), args := #[Operand.tmp 51], argTypes := #[9] }, type := 9, pos := "law.go:131", after := #[{ on := 18, ground := Ground.data }, { on := 14, ground := Ground.chain }, { on := 14, ground := Ground.guard }], guard := some (14, false) }) rfl (fun K hK => ?_) AllReadyH.nil
          go_simp
          refine (hrr _).mono ?_
          rintro e w7 ⟨rfl, hbR⟩
          refine hK.out _ _ ?_ (fun hHeld => ?_)
          · exact ⟨(hbR.cell (World.block_lt_of_cell? _ _ hHeld.1)).trans hHeld.1, (hbR.cell (World.block_lt_of_cell? _ _ hHeld.2.1)).trans hHeld.2.1, below_trans' hHeld.2.2 hbR⟩
          clear hK K
          try simp only [Act.put, List.setIfInBounds_toArray, List.set_cons_zero, List.set_cons_succ]
          refine wpAnyH_take (i := 24) (oi := { dst := some 57, op := Op.binOp BinOp.neq 9 (Operand.tmp 52) (Operand.tmp 56) 9, type := 4, pos := "law.go:131", after := #[{ on := 19, ground := Ground.data }, { on := 23, ground := Ground.data }, { on := 14, ground := Ground.guard }], guard := some (14, false) }) (v := ?_) rfl (by kernel_rfl) (by kernel_rfl) (by kernel_rfl) (fun _ _ _ h => h) (Or.inl ⟨by rfl, ?_⟩) (by assumption) ?_
          rotate_left 1
          · (intro w' hSw; (try dsimp only at hSw); go_simp <;> with_reducible rfl)
          try simp only [Act.put, List.setIfInBounds_toArray, List.set_cons_zero, List.set_cons_succ]
          refine wpAnyH_take (i := 25) (oi := { dst := some 58, op := Op.pick (Operand.tmp 47) (Operand.const (Value.bool true)) (Operand.tmp 57), type := 4, pos := "law.go:131", after := #[{ on := 14, ground := Ground.data }, { on := 24, ground := Ground.data }], guard := none }) (v := ?_) rfl (by kernel_rfl) (by kernel_rfl) (by kernel_rfl) (fun _ _ _ h => h) (Or.inl ⟨by rfl, ?_⟩) (by assumption) ?_
          rotate_left 1
          · (intro w' hSw; (try dsimp only at hSw); go_simp <;> with_reducible rfl)
          try simp only [Act.put, List.setIfInBounds_toArray, List.set_cons_zero, List.set_cons_succ]
          refine wpAnyH_take (i := 26) (oi := { dst := some 59, op := Op.move (Operand.tmp 58), type := 4, pos := "law.go:131", after := #[{ on := 25, ground := Ground.data }, { on := 19, ground := Ground.chain }], guard := none }) (v := ?_) rfl (by kernel_rfl) (by kernel_rfl) (by kernel_rfl) (fun _ _ _ h => h) (Or.inl ⟨by rfl, ?_⟩) (by assumption) ?_
          rotate_left 1
          · (intro w' hSw; (try dsimp only at hSw); go_simp <;> with_reducible rfl)
          try simp only [Act.put, List.setIfInBounds_toArray, List.set_cons_zero, List.set_cons_succ]
          refine wpAnyH_take (i := 27) (oi := { dst := some 60, op := Op.move (Operand.tmp 1), type := 35, pos := "law.go:131", after := #[{ on := 26, ground := Ground.guard }], guard := some (26, false) }) (v := undef) rfl (by kernel_rfl) (by kernel_rfl) (by kernel_rfl) (fun _ _ _ h => h) (Or.inr ⟨by rfl, rfl⟩) (by assumption) ?_
          try simp only [Act.put, List.setIfInBounds_toArray, List.set_cons_zero, List.set_cons_succ]
          refine wpAnyH_take (i := 28) (oi := { dst := some 61, op := Op.move (Operand.tmp 8), type := 3, pos := "law.go:131", after := #[{ on := 26, ground := Ground.guard }], guard := some (26, false) }) (v := undef) rfl (by kernel_rfl) (by kernel_rfl) (by kernel_rfl) (fun _ _ _ h => h) (Or.inr ⟨by rfl, rfl⟩) (by assumption) ?_
          try simp only [Act.put, List.setIfInBounds_toArray, List.set_cons_zero, List.set_cons_succ]
          refine wpAnyH_take (i := 29) (oi := { dst := some 62, op := Op.indexAddr 35 (Operand.tmp 60) (Operand.tmp 61), type := 0, pos := "law.go:131", after := #[{ on := 27, ground := Ground.data }, { on := 28, ground := Ground.data }, { on := 26, ground := Ground.guard }], guard := some (26, false) }) (v := undef) rfl (by kernel_rfl) (by kernel_rfl) (by kernel_rfl) (fun _ _ _ h => h) (Or.inr ⟨by rfl, rfl⟩) (by assumption) ?_
          try simp only [Act.put, List.setIfInBounds_toArray, List.set_cons_zero, List.set_cons_succ]
          refine wpAnyH_take (i := 30) (oi := { dst := some 63, op := Op.load 9 (Operand.tmp 62), type := 9, pos := "law.go:131", after := #[{ on := 29, ground := Ground.data }, { on := 26, ground := Ground.guard }], guard := some (26, false) }) (v := undef) rfl (by kernel_rfl) (by kernel_rfl) (by kernel_rfl) (fun _ _ _ h => h) (Or.inr ⟨by rfl, rfl⟩) (by assumption) ?_
          try simp only [Act.put, List.setIfInBounds_toArray, List.set_cons_zero, List.set_cons_succ]
          refine wpAnyH_take (i := 31) (oi := { dst := some 64, op := Op.call { callee := Callee.value (Operand.func 14), args := #[Operand.tmp 63], argTypes := #[9] }, type := 9, pos := "law.go:131", after := #[{ on := 30, ground := Ground.data }, { on := 26, ground := Ground.chain }, { on := 26, ground := Ground.guard }], guard := some (26, false) }) (v := undef) rfl (by kernel_rfl) (by kernel_rfl) (by kernel_rfl) (fun _ _ _ h => h) (Or.inr ⟨by rfl, rfl⟩) (by assumption) ?_
          try simp only [Act.put, List.setIfInBounds_toArray, List.set_cons_zero, List.set_cons_succ]
          refine wpAnyH_take (i := 32) (oi := { dst := some 65, op := Op.move (Operand.tmp 1), type := 35, pos := "law.go:131", after := #[{ on := 26, ground := Ground.guard }], guard := some (26, false) }) (v := undef) rfl (by kernel_rfl) (by kernel_rfl) (by kernel_rfl) (fun _ _ _ h => h) (Or.inr ⟨by rfl, rfl⟩) (by assumption) ?_
          try simp only [Act.put, List.setIfInBounds_toArray, List.set_cons_zero, List.set_cons_succ]
          refine wpAnyH_take (i := 33) (oi := { dst := some 66, op := Op.move (Operand.tmp 8), type := 3, pos := "law.go:131", after := #[{ on := 26, ground := Ground.guard }], guard := some (26, false) }) (v := undef) rfl (by kernel_rfl) (by kernel_rfl) (by kernel_rfl) (fun _ _ _ h => h) (Or.inr ⟨by rfl, rfl⟩) (by assumption) ?_
          try simp only [Act.put, List.setIfInBounds_toArray, List.set_cons_zero, List.set_cons_succ]
          refine wpAnyH_take (i := 34) (oi := { dst := some 67, op := Op.indexAddr 35 (Operand.tmp 65) (Operand.tmp 66), type := 0, pos := "law.go:131", after := #[{ on := 32, ground := Ground.data }, { on := 33, ground := Ground.data }, { on := 26, ground := Ground.guard }], guard := some (26, false) }) (v := undef) rfl (by kernel_rfl) (by kernel_rfl) (by kernel_rfl) (fun _ _ _ h => h) (Or.inr ⟨by rfl, rfl⟩) (by assumption) ?_
          try simp only [Act.put, List.setIfInBounds_toArray, List.set_cons_zero, List.set_cons_succ]
          refine wpAnyH_take (i := 35) (oi := { dst := some 68, op := Op.load 9 (Operand.tmp 67), type := 9, pos := "law.go:131", after := #[{ on := 34, ground := Ground.data }, { on := 26, ground := Ground.guard }], guard := some (26, false) }) (v := undef) rfl (by kernel_rfl) (by kernel_rfl) (by kernel_rfl) (fun _ _ _ h => h) (Or.inr ⟨by rfl, rfl⟩) (by assumption) ?_
          try simp only [Act.put, List.setIfInBounds_toArray, List.set_cons_zero, List.set_cons_succ]
          refine wpAnyH_take (i := 36) (oi := { dst := some 69, op := Op.binOp BinOp.neq 9 (Operand.tmp 64) (Operand.tmp 68) 9, type := 4, pos := "law.go:131", after := #[{ on := 31, ground := Ground.data }, { on := 35, ground := Ground.data }, { on := 26, ground := Ground.guard }], guard := some (26, false) }) (v := undef) rfl (by kernel_rfl) (by kernel_rfl) (by kernel_rfl) (fun _ _ _ h => h) (Or.inr ⟨by rfl, rfl⟩) (by assumption) ?_
          try simp only [Act.put, List.setIfInBounds_toArray, List.set_cons_zero, List.set_cons_succ]
          refine wpAnyH_take (i := 37) (oi := { dst := some 70, op := Op.pick (Operand.tmp 59) (Operand.const (Value.bool true)) (Operand.tmp 69), type := 4, pos := "law.go:131", after := #[{ on := 26, ground := Ground.data }, { on := 36, ground := Ground.data }], guard := none }) (v := ?_) rfl (by kernel_rfl) (by kernel_rfl) (by kernel_rfl) (fun _ _ _ h => h) (Or.inl ⟨by rfl, ?_⟩) (by assumption) ?_
          rotate_left 1
          · (intro w' hSw; (try dsimp only at hSw); go_simp <;> with_reducible rfl)
          try simp only [Act.put, List.setIfInBounds_toArray, List.set_cons_zero, List.set_cons_succ]
          refine wpAnyH_done (by kernel_rfl) ?_ _
          refine NoPanic.normal ?_
          have hB7 := HB1.out.trans ((HB.out.trans (hHeld.2.2.mono HB.out.size)).mono HB1.out.size)
          go_wp2_with fail
          go_ret
          exact ⟨rfl, hB7⟩
        have f1 := eq_fact hr7
        have f1b := bne_fact hr7
        by_cases hn7 : Txt.newl false n2 = n2
        case neg =>
          have f2 := ne_fact hn7
          have f2b := bne_fact' hn7
          clear hr7 hn7
          generalize tstr (Txt.rep n2) = R1 at hrr f1 f1b
          generalize tstr (Txt.newl false n2) = R2 at hrn f2 f2b
          go_wp2_with fail
          refine wp_region_noPanic ?_
          refine wp_region_held_drew (S := (fun W => W.cell? ⟨b0, o0 + I, none⟩ = some (.string (tstr n1)) ∧ W.cell? ⟨b1, o1 + I, none⟩ = some (.string (tstr n2)) ∧ Below wr.heap.size wr W)) (by kernel_rfl) ?_ (fun hHeld => ?_)
          · exact ⟨k0, k1, Below.drew (Below.refl _ _)⟩
          refine wpAnyH_take (i := 0) (oi := { dst := some 33, op := Op.move (Operand.tmp 0), type := 35, pos := "law.go:131", after := #[], guard := none }) (v := ?_) rfl (by kernel_rfl) (by kernel_rfl) (by kernel_rfl) (fun _ _ _ h => h) (Or.inl ⟨by rfl, ?_⟩) (by assumption) ?_
          rotate_left 1
          · (intro w' hSw; (try dsimp only at hSw); go_simp <;> with_reducible rfl)
          try simp only [Act.put, List.setIfInBounds_toArray, List.set_cons_zero, List.set_cons_succ]
          refine wpAnyH_take (i := 1) (oi := { dst := some 34, op := Op.move (Operand.tmp 8), type := 3, pos := "law.go:131", after := #[], guard := none }) (v := ?_) rfl (by kernel_rfl) (by kernel_rfl) (by kernel_rfl) (fun _ _ _ h => h) (Or.inl ⟨by rfl, ?_⟩) (by assumption) ?_
          rotate_left 1
          · (intro w' hSw; (try dsimp only at hSw); go_simp <;> with_reducible rfl)
          try simp only [Act.put, List.setIfInBounds_toArray, List.set_cons_zero, List.set_cons_succ]
          refine wpAnyH_take (i := 2) (oi := { dst := some 35, op := Op.indexAddr 35 (Operand.tmp 33) (Operand.tmp 34), type := 0, pos := "law.go:131", after := #[{ on := 0, ground := Ground.data }, { on := 1, ground := Ground.data }], guard := none }) (v := ?_) rfl (by kernel_rfl) (by kernel_rfl) (by kernel_rfl) (fun _ _ _ h => h) (Or.inl ⟨by rfl, ?_⟩) (by assumption) ?_
          rotate_left 1
          · (intro w' hSw; (try dsimp only at hSw); go_simp <;> with_reducible rfl)
          try simp only [Act.put, List.setIfInBounds_toArray, List.set_cons_zero, List.set_cons_succ]
          refine wpAnyH_take (i := 3) (oi := { dst := some 36, op := Op.load 9 (Operand.tmp 35), type := 9, pos := "law.go:131", after := #[{ on := 2, ground := Ground.data }], guard := none }) (v := ?_) rfl (by kernel_rfl) (by kernel_rfl) (by kernel_rfl) (fun _ _ _ h => h) (Or.inl ⟨by rfl, ?_⟩) (by assumption) ?_
          rotate_left 1
          · (intro w' hSw; (try dsimp only at hSw); go_simp <;> with_reducible rfl)
          try simp only [Act.put, List.setIfInBounds_toArray, List.set_cons_zero, List.set_cons_succ]
          refine wpAnyH_ready (rs := [4]) (by kernel_rfl) (by simp) ?_
          refine AllReadyH.cons (o := { dst := some 37, op := Op.call { callee := Callee.value (Operand.func 12), args := #[Operand.tmp 36], argTypes := #[9] }, type := 4, pos := "law.go:131", after := #[{ on := 3, ground := Ground.data }], guard := none }) rfl (fun K hK => ?_) AllReadyH.nil
          go_simp
          refine (hpl _).mono ?_
          rintro e w' ⟨rfl, rfl⟩
          refine hK.out _ _ ?_ (fun hHeld => ?_)
          · exact hHeld
          clear hK K
          try simp only [Act.put, List.setIfInBounds_toArray, List.set_cons_zero, List.set_cons_succ]
          refine wpAnyH_take (i := 5) (oi := { dst := some 38, op := Op.unOp UnOp.not 4 (Operand.tmp 37), type := 4, pos := "law.go:131", after := #[{ on := 4, ground := Ground.data }], guard := none }) (v := ?_) rfl (by kernel_rfl) (by kernel_rfl) (by kernel_rfl) (fun _ _ _ h => h) (Or.inl ⟨by rfl, ?_⟩) (by assumption) ?_
          rotate_left 1
          · (intro w' hSw; (try dsimp only at hSw); go_simp <;> with_reducible rfl)
          try simp only [Act.put, List.setIfInBounds_toArray, List.set_cons_zero, List.set_cons_succ]
          refine wpAnyH_take (i := 6) (oi := { dst := some 39, op := Op.move (Operand.tmp 38), type := 4, pos := "law.go:131", after := #[{ on := 5, ground := Ground.data }, { on := 4, ground := Ground.chain }], guard := none }) (v := ?_) rfl (by kernel_rfl) (by kernel_rfl) (by kernel_rfl) (fun _ _ _ h => h) (Or.inl ⟨by rfl, ?_⟩) (by assumption) ?_
          rotate_left 1
          · (intro w' hSw; (try dsimp only at hSw); go_simp <;> with_reducible rfl)
          try simp only [Act.put, List.setIfInBounds_toArray, List.set_cons_zero, List.set_cons_succ]
          refine wpAnyH_take (i := 7) (oi := { dst := some 40, op := Op.move (Operand.tmp 1), type := 35, pos := "law.go:131", after := #[{ on := 6, ground := Ground.guard }], guard := some (6, false) }) (v := ?_) rfl (by kernel_rfl) (by kernel_rfl) (by kernel_rfl) (fun _ _ _ h => h) (Or.inl ⟨by rfl, ?_⟩) (by assumption) ?_
          rotate_left 1
          · (intro w' hSw; (try dsimp only at hSw); go_simp <;> with_reducible rfl)
          try simp only [Act.put, List.setIfInBounds_toArray, List.set_cons_zero, List.set_cons_succ]
          refine wpAnyH_take (i := 8) (oi := { dst := some 41, op := Op.move (Operand.tmp 8), type := 3, pos := "law.go:131", after := #[{ on := 6, ground := Ground.guard }], guard := some (6, false) }) (v := ?_) rfl (by kernel_rfl) (by kernel_rfl) (by kernel_rfl) (fun _ _ _ h => h) (Or.inl ⟨by rfl, ?_⟩) (by assumption) ?_
          rotate_left 1
          · (intro w' hSw; (try dsimp only at hSw); go_simp <;> with_reducible rfl)
          try simp only [Act.put, List.setIfInBounds_toArray, List.set_cons_zero, List.set_cons_succ]
          refine wpAnyH_take (i := 9) (oi := { dst := some 42, op := Op.indexAddr 35 (Operand.tmp 40) (Operand.tmp 41), type := 0, pos := "law.go:131", after := #[{ on := 7, ground := Ground.data }, { on := 8, ground := Ground.data }, { on := 6, ground := Ground.guard }], guard := some (6, false) }) (v := ?_) rfl (by kernel_rfl) (by kernel_rfl) (by kernel_rfl) (fun _ _ _ h => h) (Or.inl ⟨by rfl, ?_⟩) (by assumption) ?_
          rotate_left 1
          · (intro w' hSw; (try dsimp only at hSw); go_simp <;> with_reducible rfl)
          try simp only [Act.put, List.setIfInBounds_toArray, List.set_cons_zero, List.set_cons_succ]
          refine wpAnyH_take (i := 10) (oi := { dst := some 43, op := Op.load 9 (Operand.tmp 42), type := 9, pos := "law.go:131", after := #[{ on := 9, ground := Ground.data }, { on := 6, ground := Ground.guard }], guard := some (6, false) }) (v := ?_) rfl (by kernel_rfl) (by kernel_rfl) (by kernel_rfl) (fun _ _ _ h => h) (Or.inl ⟨by rfl, ?_⟩) (by assumption) ?_
          rotate_left 1
          · (intro w' hSw; (try dsimp only at hSw); go_simp <;> with_reducible rfl)
          try simp only [Act.put, List.setIfInBounds_toArray, List.set_cons_zero, List.set_cons_succ]
          refine wpAnyH_take (i := 11) (oi := { dst := some 44, op := Op.call { callee := Callee.builtin Builtin.len, args := #[Operand.tmp 43], argTypes := #[9] }, type := 3, pos := "law.go:131", after := #[{ on := 10, ground := Ground.data }, { on := 6, ground := Ground.guard }], guard := some (6, false) }) (v := ?_) rfl (by kernel_rfl) (by kernel_rfl) (by kernel_rfl) (fun _ _ _ h => h) (Or.inl ⟨by rfl, ?_⟩) (by assumption) ?_
          rotate_left 1
          · (intro w' hSw; (try dsimp only at hSw); go_simp <;> with_reducible rfl)
          try simp only [Act.put, List.setIfInBounds_toArray, List.set_cons_zero, List.set_cons_succ]
          refine wpAnyH_take (i := 12) (oi := { dst := some 45, op := Op.binOp BinOp.gtr 3 (Operand.tmp 44) (Operand.const (Value.int IntKind.i64 100)) 3, type := 4, pos := "law.go:131", after := #[{ on := 11, ground := Ground.data }, { on := 6, ground := Ground.guard }], guard := some (6, false) }) (v := ?_) rfl (by kernel_rfl) (by kernel_rfl) (by kernel_rfl) (fun _ _ _ h => h) (Or.inl ⟨by rfl, ?_⟩) (by assumption) ?_
          rotate_left 1
          · (intro w' hSw; (try dsimp only at hSw); go_simp <;> with_reducible rfl)
          try simp only [Act.put, List.setIfInBounds_toArray, List.set_cons_zero, List.set_cons_succ]
          refine wpAnyH_take (i := 13) (oi := { dst := some 46, op := Op.pick (Operand.tmp 39) (Operand.const (Value.bool true)) (Operand.tmp 45), type := 4, pos := "law.go:131", after := #[{ on := 6, ground := Ground.data }, { on := 12, ground := Ground.data }], guard := none }) (v := ?_) rfl (by kernel_rfl) (by kernel_rfl) (by kernel_rfl) (fun _ _ _ h => h) (Or.inl ⟨by rfl, ?_⟩) (by assumption) ?_
          rotate_left 1
          · (intro w' hSw; (try dsimp only at hSw); go_simp <;> with_reducible rfl)
          try simp only [Act.put, List.setIfInBounds_toArray, List.set_cons_zero, List.set_cons_succ]
          refine wpAnyH_take (i := 14) (oi := { dst := some 47, op := Op.move (Operand.tmp 46), type := 4, pos := "law.go:131", after := #[{ on := 13, ground := Ground.data }, { on := 6, ground := Ground.chain }], guard := none }) (v := ?_) rfl (by kernel_rfl) (by kernel_rfl) (by kernel_rfl) (fun _ _ _ h => h) (Or.inl ⟨by rfl, ?_⟩) (by assumption) ?_
          rotate_left 1
          · (intro w' hSw; (try dsimp only at hSw); go_simp <;> with_reducible rfl)
          try simp only [Act.put, List.setIfInBounds_toArray, List.set_cons_zero, List.set_cons_succ]
          refine wpAnyH_take (i := 15) (oi := { dst := some 48, op := Op.move (Operand.tmp 1), type := 35, pos := "law.go:131", after := #[{ on := 14, ground := Ground.guard }], guard := some (14, false) }) (v := ?_) rfl (by kernel_rfl) (by kernel_rfl) (by kernel_rfl) (fun _ _ _ h => h) (Or.inl ⟨by rfl, ?_⟩) (by assumption) ?_
          rotate_left 1
          · (intro w' hSw; (try dsimp only at hSw); go_simp <;> with_reducible rfl)
          try simp only [Act.put, List.setIfInBounds_toArray, List.set_cons_zero, List.set_cons_succ]
          refine wpAnyH_take (i := 16) (oi := { dst := some 49, op := Op.move (Operand.tmp 8), type := 3, pos := "law.go:131", after := #[{ on := 14, ground := Ground.guard }], guard := some (14, false) }) (v := ?_) rfl (by kernel_rfl) (by kernel_rfl) (by kernel_rfl) (fun _ _ _ h => h) (Or.inl ⟨by rfl, ?_⟩) (by assumption) ?_
          rotate_left 1
          · (intro w' hSw; (try dsimp only at hSw); go_simp <;> with_reducible rfl)
          try simp only [Act.put, List.setIfInBounds_toArray, List.set_cons_zero, List.set_cons_succ]
          refine wpAnyH_take (i := 17) (oi := { dst := some 50, op := Op.indexAddr 35 (Operand.tmp 48) (Operand.tmp 49), type := 0, pos := "law.go:131", after := #[{ on := 15, ground := Ground.data }, { on := 16, ground := Ground.data }, { on := 14, ground := Ground.guard }], guard := some (14, false) }) (v := ?_) rfl (by kernel_rfl) (by kernel_rfl) (by kernel_rfl) (fun _ _ _ h => h) (Or.inl ⟨by rfl, ?_⟩) (by assumption) ?_
          rotate_left 1
          · (intro w' hSw; (try dsimp only at hSw); go_simp <;> with_reducible rfl)
          try simp only [Act.put, List.setIfInBounds_toArray, List.set_cons_zero, List.set_cons_succ]
          refine wpAnyH_take (i := 18) (oi := { dst := some 51, op := Op.load 9 (Operand.tmp 50), type := 9, pos := "law.go:131", after := #[{ on := 17, ground := Ground.data }, { on := 14, ground := Ground.guard }], guard := some (14, false) }) (v := ?_) rfl (by kernel_rfl) (by kernel_rfl) (by kernel_rfl) (fun _ _ _ h => h) (Or.inl ⟨by rfl, ?_⟩) (by assumption) ?_
          rotate_left 1
          · (intro w' hSw; (try dsimp only at hSw); go_simp <;> with_reducible rfl)
          try simp only [Act.put, List.setIfInBounds_toArray, List.set_cons_zero, List.set_cons_succ]
          refine wpAnyH_take (i := 20) (oi := { dst := some 53, op := Op.move (Operand.tmp 1), type := 35, pos := "law.go:131", after := #[{ on := 14, ground := Ground.guard }], guard := some (14, false) }) (v := ?_) rfl (by kernel_rfl) (by kernel_rfl) (by kernel_rfl) (fun _ _ _ h => h) (Or.inl ⟨by rfl, ?_⟩) (by assumption) ?_
          rotate_left 1
          · (intro w' hSw; (try dsimp only at hSw); go_simp <;> with_reducible rfl)
          try simp only [Act.put, List.setIfInBounds_toArray, List.set_cons_zero, List.set_cons_succ]
          refine wpAnyH_take (i := 21) (oi := { dst := some 54, op := Op.move (Operand.tmp 8), type := 3, pos := "law.go:131", after := #[{ on := 14, ground := Ground.guard }], guard := some (14, false) }) (v := ?_) rfl (by kernel_rfl) (by kernel_rfl) (by kernel_rfl) (fun _ _ _ h => h) (Or.inl ⟨by rfl, ?_⟩) (by assumption) ?_
          rotate_left 1
          · (intro w' hSw; (try dsimp only at hSw); go_simp <;> with_reducible rfl)
          try simp only [Act.put, List.setIfInBounds_toArray, List.set_cons_zero, List.set_cons_succ]
          refine wpAnyH_take (i := 22) (oi := { dst := some 55, op := Op.indexAddr 35 (Operand.tmp 53) (Operand.tmp 54), type := 0, pos := "law.go:131", after := #[{ on := 20, ground := Ground.data }, { on := 21, ground := Ground.data }, { on := 14, ground := Ground.guard }], guard := some (14, false) }) (v := ?_) rfl (by kernel_rfl) (by kernel_rfl) (by kernel_rfl) (fun _ _ _ h => h) (Or.inl ⟨by rfl, ?_⟩) (by assumption) ?_
          rotate_left 1
          · (intro w' hSw; (try dsimp only at hSw); go_simp <;> with_reducible rfl)
          try simp only [Act.put, List.setIfInBounds_toArray, List.set_cons_zero, List.set_cons_succ]
          refine wpAnyH_take (i := 23) (oi := { dst := some 56, op := Op.load 9 (Operand.tmp 55), type := 9, pos := "law.go:131", after := #[{ on := 22, ground := Ground.data }, { on := 14, ground := Ground.guard }], guard := some (14, false) }) (v := ?_) rfl (by kernel_rfl) (by kernel_rfl) (by kernel_rfl) (fun _ _ _ h => h) (Or.inl ⟨by rfl, ?_⟩) (by assumption) ?_
          rotate_left 1
          · (intro w' hSw; (try dsimp only at hSw); go_simp <;> with_reducible rfl)
          try simp only [Act.put, List.setIfInBounds_toArray, List.set_cons_zero, List.set_cons_succ]
          refine wpAnyH_ready (rs := [19]) (by kernel_rfl) (by simp) ?_
          refine AllReadyH.cons (o := { dst := some 52, op := Op.call { callee := Callee.value (Operand.func 13), args := #[Operand.tmp 51], argTypes := #[9] }, type := 9, pos := "law.go:131", after := #[{ on := 18, ground := Ground.data }, { on := 14, ground := Ground.chain }, { on := 14, ground := Ground.guard }], guard := some (14, false) }) rfl (fun K hK => ?_) AllReadyH.nil
          go_simp
          refine (hrr _).mono ?_
          rintro e w7 ⟨rfl, hbR⟩
          refine hK.out _ _ ?_ (fun hHeld => ?_)
          · exact ⟨(hbR.cell (World.block_lt_of_cell? _ _ hHeld.1)).trans hHeld.1, (hbR.cell (World.block_lt_of_cell? _ _ hHeld.2.1)).trans hHeld.2.1, below_trans' hHeld.2.2 hbR⟩
          clear hK K
          try simp only [Act.put, List.setIfInBounds_toArray, List.set_cons_zero, List.set_cons_succ]
          refine wpAnyH_take (i := 24) (oi := { dst := some 57, op := Op.binOp BinOp.neq 9 (Operand.tmp 52) (Operand.tmp 56) 9, type := 4, pos := "law.go:131", after := #[{ on := 19, ground := Ground.data }, { on := 23, ground := Ground.data }, { on := 14, ground := Ground.guard }], guard := some (14, false) }) (v := ?_) rfl (by kernel_rfl) (by kernel_rfl) (by kernel_rfl) (fun _ _ _ h => h) (Or.inl ⟨by rfl, ?_⟩) (by assumption) ?_
          rotate_left 1
          · (intro w' hSw; (try dsimp only at hSw); go_simp <;> with_reducible rfl)
          try simp only [Act.put, List.setIfInBounds_toArray, List.set_cons_zero, List.set_cons_succ]
          refine wpAnyH_take (i := 25) (oi := { dst := some 58, op := Op.pick (Operand.tmp 47) (Operand.const (Value.bool true)) (Operand.tmp 57), type := 4, pos := "law.go:131", after := #[{ on := 14, ground := Ground.data }, { on := 24, ground := Ground.data }], guard := none }) (v := ?_) rfl (by kernel_rfl) (by kernel_rfl) (by kernel_rfl) (fun _ _ _ h => h) (Or.inl ⟨by rfl, ?_⟩) (by assumption) ?_
          rotate_left 1
          · (intro w' hSw; (try dsimp only at hSw); go_simp <;> with_reducible rfl)
          try simp only [Act.put, List.setIfInBounds_toArray, List.set_cons_zero, List.set_cons_succ]
          refine wpAnyH_take (i := 26) (oi := { dst := some 59, op := Op.move (Operand.tmp 58), type := 4, pos := "law.go:131", after := #[{ on := 25, ground := Ground.data }, { on := 19, ground := Ground.chain }], guard := none }) (v := ?_) rfl (by kernel_rfl) (by kernel_rfl) (by kernel_rfl) (fun _ _ _ h => h) (Or.inl ⟨by rfl, ?_⟩) (by assumption) ?_
          rotate_left 1
          · (intro w' hSw; (try dsimp only at hSw); go_simp <;> with_reducible rfl)
          try simp only [Act.put, List.setIfInBounds_toArray, List.set_cons_zero, List.set_cons_succ]
          refine wpAnyH_take (i := 27) (oi := { dst := some 60, op := Op.move (Operand.tmp 1), type := 35, pos := "law.go:131", after := #[{ on := 26, ground := Ground.guard }], guard := some (26, false) }) (v := ?_) rfl (by kernel_rfl) (by kernel_rfl) (by kernel_rfl) (fun _ _ _ h => h) (Or.inl ⟨by rfl, ?_⟩) (by assumption) ?_
          rotate_left 1
          · (intro w' hSw; (try dsimp only at hSw); go_simp <;> with_reducible rfl)
          try simp only [Act.put, List.setIfInBounds_toArray, List.set_cons_zero, List.set_cons_succ]
          refine wpAnyH_take (i := 28) (oi := { dst := some 61, op := Op.move (Operand.tmp 8), type := 3, pos := "law.go:131", after := #[{ on := 26, ground := Ground.guard }], guard := some (26, false) }) (v := ?_) rfl (by kernel_rfl) (by kernel_rfl) (by kernel_rfl) (fun _ _ _ h => h) (Or.inl ⟨by rfl, ?_⟩) (by assumption) ?_
          rotate_left 1
          · (intro w' hSw; (try dsimp only at hSw); go_simp <;> with_reducible rfl)
          try simp only [Act.put, List.setIfInBounds_toArray, List.set_cons_zero, List.set_cons_succ]
          refine wpAnyH_take (i := 29) (oi := { dst := some 62, op := Op.indexAddr 35 (Operand.tmp 60) (Operand.tmp 61), type := 0, pos := "law.go:131", after := #[{ on := 27, ground := Ground.data }, { on := 28, ground := Ground.data }, { on := 26, ground := Ground.guard }], guard := some (26, false) }) (v := ?_) rfl (by kernel_rfl) (by kernel_rfl) (by kernel_rfl) (fun _ _ _ h => h) (Or.inl ⟨by rfl, ?_⟩) (by assumption) ?_
          rotate_left 1
          · (intro w' hSw; (try dsimp only at hSw); go_simp <;> with_reducible rfl)
          try simp only [Act.put, List.setIfInBounds_toArray, List.set_cons_zero, List.set_cons_succ]
          refine wpAnyH_take (i := 30) (oi := { dst := some 63, op := Op.load 9 (Operand.tmp 62), type := 9, pos := "law.go:131", after := #[{ on := 29, ground := Ground.data }, { on := 26, ground := Ground.guard }], guard := some (26, false) }) (v := ?_) rfl (by kernel_rfl) (by kernel_rfl) (by kernel_rfl) (fun _ _ _ h => h) (Or.inl ⟨by rfl, ?_⟩) (by assumption) ?_
          rotate_left 1
          · (intro w' hSw; (try dsimp only at hSw); go_simp <;> with_reducible rfl)
          try simp only [Act.put, List.setIfInBounds_toArray, List.set_cons_zero, List.set_cons_succ]
          refine wpAnyH_take (i := 32) (oi := { dst := some 65, op := Op.move (Operand.tmp 1), type := 35, pos := "law.go:131", after := #[{ on := 26, ground := Ground.guard }], guard := some (26, false) }) (v := ?_) rfl (by kernel_rfl) (by kernel_rfl) (by kernel_rfl) (fun _ _ _ h => h) (Or.inl ⟨by rfl, ?_⟩) (by assumption) ?_
          rotate_left 1
          · (intro w' hSw; (try dsimp only at hSw); go_simp <;> with_reducible rfl)
          try simp only [Act.put, List.setIfInBounds_toArray, List.set_cons_zero, List.set_cons_succ]
          refine wpAnyH_take (i := 33) (oi := { dst := some 66, op := Op.move (Operand.tmp 8), type := 3, pos := "law.go:131", after := #[{ on := 26, ground := Ground.guard }], guard := some (26, false) }) (v := ?_) rfl (by kernel_rfl) (by kernel_rfl) (by kernel_rfl) (fun _ _ _ h => h) (Or.inl ⟨by rfl, ?_⟩) (by assumption) ?_
          rotate_left 1
          · (intro w' hSw; (try dsimp only at hSw); go_simp <;> with_reducible rfl)
          try simp only [Act.put, List.setIfInBounds_toArray, List.set_cons_zero, List.set_cons_succ]
          refine wpAnyH_take (i := 34) (oi := { dst := some 67, op := Op.indexAddr 35 (Operand.tmp 65) (Operand.tmp 66), type := 0, pos := "law.go:131", after := #[{ on := 32, ground := Ground.data }, { on := 33, ground := Ground.data }, { on := 26, ground := Ground.guard }], guard := some (26, false) }) (v := ?_) rfl (by kernel_rfl) (by kernel_rfl) (by kernel_rfl) (fun _ _ _ h => h) (Or.inl ⟨by rfl, ?_⟩) (by assumption) ?_
          rotate_left 1
          · (intro w' hSw; (try dsimp only at hSw); go_simp <;> with_reducible rfl)
          try simp only [Act.put, List.setIfInBounds_toArray, List.set_cons_zero, List.set_cons_succ]
          refine wpAnyH_take (i := 35) (oi := { dst := some 68, op := Op.load 9 (Operand.tmp 67), type := 9, pos := "law.go:131", after := #[{ on := 34, ground := Ground.data }, { on := 26, ground := Ground.guard }], guard := some (26, false) }) (v := ?_) rfl (by kernel_rfl) (by kernel_rfl) (by kernel_rfl) (fun _ _ _ h => h) (Or.inl ⟨by rfl, ?_⟩) (by assumption) ?_
          rotate_left 1
          · (intro w' hSw; (try dsimp only at hSw); go_simp <;> with_reducible rfl)
          try simp only [Act.put, List.setIfInBounds_toArray, List.set_cons_zero, List.set_cons_succ]
          refine wpAnyH_ready (rs := [31]) (by kernel_rfl) (by simp) ?_
          refine AllReadyH.cons (o := { dst := some 64, op := Op.call { callee := Callee.value (Operand.func 14), args := #[Operand.tmp 63], argTypes := #[9] }, type := 9, pos := "law.go:131", after := #[{ on := 30, ground := Ground.data }, { on := 26, ground := Ground.chain }, { on := 26, ground := Ground.guard }], guard := some (26, false) }) rfl (fun K hK => ?_) AllReadyH.nil
          go_simp
          refine (hrn _).mono ?_
          rintro e w' ⟨rfl, rfl⟩
          refine hK.out _ _ ?_ (fun hHeld => ?_)
          · exact hHeld
          clear hK K
          try simp only [Act.put, List.setIfInBounds_toArray, List.set_cons_zero, List.set_cons_succ]
          refine wpAnyH_take (i := 36) (oi := { dst := some 69, op := Op.binOp BinOp.neq 9 (Operand.tmp 64) (Operand.tmp 68) 9, type := 4, pos := "law.go:131", after := #[{ on := 31, ground := Ground.data }, { on := 35, ground := Ground.data }, { on := 26, ground := Ground.guard }], guard := some (26, false) }) (v := ?_) rfl (by kernel_rfl) (by kernel_rfl) (by kernel_rfl) (fun _ _ _ h => h) (Or.inl ⟨by rfl, ?_⟩) (by assumption) ?_
          rotate_left 1
          · (intro w' hSw; (try dsimp only at hSw); go_simp <;> with_reducible rfl)
          try simp only [Act.put, List.setIfInBounds_toArray, List.set_cons_zero, List.set_cons_succ]
          refine wpAnyH_take (i := 37) (oi := { dst := some 70, op := Op.pick (Operand.tmp 59) (Operand.const (Value.bool true)) (Operand.tmp 69), type := 4, pos := "law.go:131", after := #[{ on := 26, ground := Ground.data }, { on := 36, ground := Ground.data }], guard := none }) (v := ?_) rfl (by kernel_rfl) (by kernel_rfl) (by kernel_rfl) (fun _ _ _ h => h) (Or.inl ⟨by rfl, ?_⟩) (by assumption) ?_
          rotate_left 1
          · (intro w' hSw; (try dsimp only at hSw); go_simp <;> with_reducible rfl)
          try simp only [Act.put, List.setIfInBounds_toArray, List.set_cons_zero, List.set_cons_succ]
          refine wpAnyH_done (by kernel_rfl) ?_ _
          refine NoPanic.normal ?_
          have hB7 := HB1.out.trans ((HB.out.trans (hHeld.2.2.mono HB.out.size)).mono HB1.out.size)
          go_wp2_with fail
          go_ret
          exact ⟨rfl, hB7⟩
        have f2 := eq_fact hn7
        have f2b := bne_fact hn7
        have HREP := Lib.hid hr7
        clear hr7 hn7
        generalize tstr (Txt.rep n2) = R1 at hrr f1 f1b
        generalize tstr (Txt.newl false n2) = R2 at hrn f2 f2b
        go_wp2_with fail
        refine wp_region_noPanic ?_
        refine wp_region_held_drew (S := (fun W => W.cell? ⟨b0, o0 + I, none⟩ = some (.string (tstr n1)) ∧ W.cell? ⟨b1, o1 + I, none⟩ = some (.string (tstr n2)) ∧ Below wr.heap.size wr W)) (by kernel_rfl) ?_ (fun hHeld => ?_)
        · exact ⟨k0, k1, Below.drew (Below.refl _ _)⟩
        refine wpAnyH_take (i := 0) (oi := { dst := some 33, op := Op.move (Operand.tmp 0), type := 35, pos := "law.go:131", after := #[], guard := none }) (v := ?_) rfl (by kernel_rfl) (by kernel_rfl) (by kernel_rfl) (fun _ _ _ h => h) (Or.inl ⟨by rfl, ?_⟩) (by assumption) ?_
        rotate_left 1
        · (intro w' hSw; (try dsimp only at hSw); go_simp <;> with_reducible rfl)
        try simp only [Act.put, List.setIfInBounds_toArray, List.set_cons_zero, List.set_cons_succ]
        refine wpAnyH_take (i := 1) (oi := { dst := some 34, op := Op.move (Operand.tmp 8), type := 3, pos := "law.go:131", after := #[], guard := none }) (v := ?_) rfl (by kernel_rfl) (by kernel_rfl) (by kernel_rfl) (fun _ _ _ h => h) (Or.inl ⟨by rfl, ?_⟩) (by assumption) ?_
        rotate_left 1
        · (intro w' hSw; (try dsimp only at hSw); go_simp <;> with_reducible rfl)
        try simp only [Act.put, List.setIfInBounds_toArray, List.set_cons_zero, List.set_cons_succ]
        refine wpAnyH_take (i := 2) (oi := { dst := some 35, op := Op.indexAddr 35 (Operand.tmp 33) (Operand.tmp 34), type := 0, pos := "law.go:131", after := #[{ on := 0, ground := Ground.data }, { on := 1, ground := Ground.data }], guard := none }) (v := ?_) rfl (by kernel_rfl) (by kernel_rfl) (by kernel_rfl) (fun _ _ _ h => h) (Or.inl ⟨by rfl, ?_⟩) (by assumption) ?_
        rotate_left 1
        · (intro w' hSw; (try dsimp only at hSw); go_simp <;> with_reducible rfl)
        try simp only [Act.put, List.setIfInBounds_toArray, List.set_cons_zero, List.set_cons_succ]
        refine wpAnyH_take (i := 3) (oi := { dst := some 36, op := Op.load 9 (Operand.tmp 35), type := 9, pos := "law.go:131", after := #[{ on := 2, ground := Ground.data }], guard := none }) (v := ?_) rfl (by kernel_rfl) (by kernel_rfl) (by kernel_rfl) (fun _ _ _ h => h) (Or.inl ⟨by rfl, ?_⟩) (by assumption) ?_
        rotate_left 1
        · (intro w' hSw; (try dsimp only at hSw); go_simp <;> with_reducible rfl)
        try simp only [Act.put, List.setIfInBounds_toArray, List.set_cons_zero, List.set_cons_succ]
        refine wpAnyH_ready (rs := [4]) (by kernel_rfl) (by simp) ?_
        refine AllReadyH.cons (o := { dst := some 37, op := Op.call { callee := Callee.value (Operand.func 12), args := #[Operand.tmp 36], argTypes := #[9] }, type := 4, pos := "law.go:131", after := #[{ on := 3, ground := Ground.data }], guard := none }) rfl (fun K hK => ?_) AllReadyH.nil
        go_simp
        refine (hpl _).mono ?_
        rintro e w' ⟨rfl, rfl⟩
        refine hK.out _ _ ?_ (fun hHeld => ?_)
        · exact hHeld
        clear hK K
        try simp only [Act.put, List.setIfInBounds_toArray, List.set_cons_zero, List.set_cons_succ]
        refine wpAnyH_take (i := 5) (oi := { dst := some 38, op := Op.unOp UnOp.not 4 (Operand.tmp 37), type := 4, pos := "law.go:131", after := #[{ on := 4, ground := Ground.data }], guard := none }) (v := ?_) rfl (by kernel_rfl) (by kernel_rfl) (by kernel_rfl) (fun _ _ _ h => h) (Or.inl ⟨by rfl, ?_⟩) (by assumption) ?_
        rotate_left 1
        · (intro w' hSw; (try dsimp only at hSw); go_simp <;> with_reducible rfl)
        try simp only [Act.put, List.setIfInBounds_toArray, List.set_cons_zero, List.set_cons_succ]
        refine wpAnyH_take (i := 6) (oi := { dst := some 39, op := Op.move (Operand.tmp 38), type := 4, pos := "law.go:131", after := #[{ on := 5, ground := Ground.data }, { on := 4, ground := Ground.chain }], guard := none }) (v := ?_) rfl (by kernel_rfl) (by kernel_rfl) (by kernel_rfl) (fun _ _ _ h => h) (Or.inl ⟨by rfl, ?_⟩) (by assumption) ?_
        rotate_left 1
        · (intro w' hSw; (try dsimp only at hSw); go_simp <;> with_reducible rfl)
        try simp only [Act.put, List.setIfInBounds_toArray, List.set_cons_zero, List.set_cons_succ]
        refine wpAnyH_take (i := 7) (oi := { dst := some 40, op := Op.move (Operand.tmp 1), type := 35, pos := "law.go:131", after := #[{ on := 6, ground := Ground.guard }], guard := some (6, false) }) (v := ?_) rfl (by kernel_rfl) (by kernel_rfl) (by kernel_rfl) (fun _ _ _ h => h) (Or.inl ⟨by rfl, ?_⟩) (by assumption) ?_
        rotate_left 1
        · (intro w' hSw; (try dsimp only at hSw); go_simp <;> with_reducible rfl)
        try simp only [Act.put, List.setIfInBounds_toArray, List.set_cons_zero, List.set_cons_succ]
        refine wpAnyH_take (i := 8) (oi := { dst := some 41, op := Op.move (Operand.tmp 8), type := 3, pos := "law.go:131", after := #[{ on := 6, ground := Ground.guard }], guard := some (6, false) }) (v := ?_) rfl (by kernel_rfl) (by kernel_rfl) (by kernel_rfl) (fun _ _ _ h => h) (Or.inl ⟨by rfl, ?_⟩) (by assumption) ?_
        rotate_left 1
        · (intro w' hSw; (try dsimp only at hSw); go_simp <;> with_reducible rfl)
        try simp only [Act.put, List.setIfInBounds_toArray, List.set_cons_zero, List.set_cons_succ]
        refine wpAnyH_take (i := 9) (oi := { dst := some 42, op := Op.indexAddr 35 (Operand.tmp 40) (Operand.tmp 41), type := 0, pos := "law.go:131", after := #[{ on := 7, ground := Ground.data }, { on := 8, ground := Ground.data }, { on := 6, ground := Ground.guard }], guard := some (6, false) }) (v := ?_) rfl (by kernel_rfl) (by kernel_rfl) (by kernel_rfl) (fun _ _ _ h => h) (Or.inl ⟨by rfl, ?_⟩) (by assumption) ?_
        rotate_left 1
        · (intro w' hSw; (try dsimp only at hSw); go_simp <;> with_reducible rfl)
        try simp only [Act.put, List.setIfInBounds_toArray, List.set_cons_zero, List.set_cons_succ]
        refine wpAnyH_take (i := 10) (oi := { dst := some 43, op := Op.load 9 (Operand.tmp 42), type := 9, pos := "law.go:131", after := #[{ on := 9, ground := Ground.data }, { on := 6, ground := Ground.guard }], guard := some (6, false) }) (v := ?_) rfl (by kernel_rfl) (by kernel_rfl) (by kernel_rfl) (fun _ _ _ h => h) (Or.inl ⟨by rfl, ?_⟩) (by assumption) ?_
        rotate_left 1
        · (intro w' hSw; (try dsimp only at hSw); go_simp <;> with_reducible rfl)
        try simp only [Act.put, List.setIfInBounds_toArray, List.set_cons_zero, List.set_cons_succ]
        refine wpAnyH_take (i := 11) (oi := { dst := some 44, op := Op.call { callee := Callee.builtin Builtin.len, args := #[Operand.tmp 43], argTypes := #[9] }, type := 3, pos := "law.go:131", after := #[{ on := 10, ground := Ground.data }, { on := 6, ground := Ground.guard }], guard := some (6, false) }) (v := ?_) rfl (by kernel_rfl) (by kernel_rfl) (by kernel_rfl) (fun _ _ _ h => h) (Or.inl ⟨by rfl, ?_⟩) (by assumption) ?_
        rotate_left 1
        · (intro w' hSw; (try dsimp only at hSw); go_simp <;> with_reducible rfl)
        try simp only [Act.put, List.setIfInBounds_toArray, List.set_cons_zero, List.set_cons_succ]
        refine wpAnyH_take (i := 12) (oi := { dst := some 45, op := Op.binOp BinOp.gtr 3 (Operand.tmp 44) (Operand.const (Value.int IntKind.i64 100)) 3, type := 4, pos := "law.go:131", after := #[{ on := 11, ground := Ground.data }, { on := 6, ground := Ground.guard }], guard := some (6, false) }) (v := ?_) rfl (by kernel_rfl) (by kernel_rfl) (by kernel_rfl) (fun _ _ _ h => h) (Or.inl ⟨by rfl, ?_⟩) (by assumption) ?_
        rotate_left 1
        · (intro w' hSw; (try dsimp only at hSw); go_simp <;> with_reducible rfl)
        try simp only [Act.put, List.setIfInBounds_toArray, List.set_cons_zero, List.set_cons_succ]
        refine wpAnyH_take (i := 13) (oi := { dst := some 46, op := Op.pick (Operand.tmp 39) (Operand.const (Value.bool true)) (Operand.tmp 45), type := 4, pos := "law.go:131", after := #[{ on := 6, ground := Ground.data }, { on := 12, ground := Ground.data }], guard := none }) (v := ?_) rfl (by kernel_rfl) (by kernel_rfl) (by kernel_rfl) (fun _ _ _ h => h) (Or.inl ⟨by rfl, ?_⟩) (by assumption) ?_
        rotate_left 1
        · (intro w' hSw; (try dsimp only at hSw); go_simp <;> with_reducible rfl)
        try simp only [Act.put, List.setIfInBounds_toArray, List.set_cons_zero, List.set_cons_succ]
        refine wpAnyH_take (i := 14) (oi := { dst := some 47, op := Op.move (Operand.tmp 46), type := 4, pos := "law.go:131", after := #[{ on := 13, ground := Ground.data }, { on := 6, ground := Ground.chain }], guard := none }) (v := ?_) rfl (by kernel_rfl) (by kernel_rfl) (by kernel_rfl) (fun _ _ _ h => h) (Or.inl ⟨by rfl, ?_⟩) (by assumption) ?_
        rotate_left 1
        · (intro w' hSw; (try dsimp only at hSw); go_simp <;> with_reducible rfl)
        try simp only [Act.put, List.setIfInBounds_toArray, List.set_cons_zero, List.set_cons_succ]
        refine wpAnyH_take (i := 15) (oi := { dst := some 48, op := Op.move (Operand.tmp 1), type := 35, pos := "law.go:131", after := #[{ on := 14, ground := Ground.guard }], guard := some (14, false) }) (v := ?_) rfl (by kernel_rfl) (by kernel_rfl) (by kernel_rfl) (fun _ _ _ h => h) (Or.inl ⟨by rfl, ?_⟩) (by assumption) ?_
        rotate_left 1
        · (intro w' hSw; (try dsimp only at hSw); go_simp <;> with_reducible rfl)
        try simp only [Act.put, List.setIfInBounds_toArray, List.set_cons_zero, List.set_cons_succ]
        refine wpAnyH_take (i := 16) (oi := { dst := some 49, op := Op.move (Operand.tmp 8), type := 3, pos := "law.go:131", after := #[{ on := 14, ground := Ground.guard }], guard := some (14, false) }) (v := ?_) rfl (by kernel_rfl) (by kernel_rfl) (by kernel_rfl) (fun _ _ _ h => h) (Or.inl ⟨by rfl, ?_⟩) (by assumption) ?_
        rotate_left 1
        · (intro w' hSw; (try dsimp only at hSw); go_simp <;> with_reducible rfl)
        try simp only [Act.put, List.setIfInBounds_toArray, List.set_cons_zero, List.set_cons_succ]
        refine wpAnyH_take (i := 17) (oi := { dst := some 50, op := Op.indexAddr 35 (Operand.tmp 48) (Operand.tmp 49), type := 0, pos := "law.go:131", after := #[{ on := 15, ground := Ground.data }, { on := 16, ground := Ground.data }, { on := 14, ground := Ground.guard }], guard := some (14, false) }) (v := ?_) rfl (by kernel_rfl) (by kernel_rfl) (by kernel_rfl) (fun _ _ _ h => h) (Or.inl ⟨by rfl, ?_⟩) (by assumption) ?_
        rotate_left 1
        · (intro w' hSw; (try dsimp only at hSw); go_simp <;> with_reducible rfl)
        try simp only [Act.put, List.setIfInBounds_toArray, List.set_cons_zero, List.set_cons_succ]
        refine wpAnyH_take (i := 18) (oi := { dst := some 51, op := Op.load 9 (Operand.tmp 50), type := 9, pos := "law.go:131", after := #[{ on := 17, ground := Ground.data }, { on := 14, ground := Ground.guard }], guard := some (14, false) }) (v := ?_) rfl (by kernel_rfl) (by kernel_rfl) (by kernel_rfl) (fun _ _ _ h => h) (Or.inl ⟨by rfl, ?_⟩) (by assumption) ?_
        rotate_left 1
        · (intro w' hSw; (try dsimp only at hSw); go_simp <;> with_reducible rfl)
        try simp only [Act.put, List.setIfInBounds_toArray, List.set_cons_zero, List.set_cons_succ]
        refine wpAnyH_take (i := 20) (oi := { dst := some 53, op := Op.move (Operand.tmp 1), type := 35, pos := "law.go:131", after := #[{ on := 14, ground := Ground.guard }], guard := some (14, false) }) (v := ?_) rfl (by kernel_rfl) (by kernel_rfl) (by kernel_rfl) (fun _ _ _ h => h) (Or.inl ⟨by rfl, ?_⟩) (by assumption) ?_
        rotate_left 1
        · (intro w' hSw; (try dsimp only at hSw); go_simp <;> with_reducible rfl)
        try simp only [Act.put, List.setIfInBounds_toArray, List.set_cons_zero, List.set_cons_succ]
        refine wpAnyH_take (i := 21) (oi := { dst := some 54, op := Op.move (Operand.tmp 8), type := 3, pos := "law.go:131", after := #[{ on := 14, ground := Ground.guard }], guard := some (14, false) }) (v := ?_) rfl (by kernel_rfl) (by kernel_rfl) (by kernel_rfl) (fun _ _ _ h => h) (Or.inl ⟨by rfl, ?_⟩) (by assumption) ?_
        rotate_left 1
        · (intro w' hSw; (try dsimp only at hSw); go_simp <;> with_reducible rfl)
        try simp only [Act.put, List.setIfInBounds_toArray, List.set_cons_zero, List.set_cons_succ]
        refine wpAnyH_take (i := 22) (oi := { dst := some 55, op := Op.indexAddr 35 (Operand.tmp 53) (Operand.tmp 54), type := 0, pos := "law.go:131", after := #[{ on := 20, ground := Ground.data }, { on := 21, ground := Ground.data }, { on := 14, ground := Ground.guard }], guard := some (14, false) }) (v := ?_) rfl (by kernel_rfl) (by kernel_rfl) (by kernel_rfl) (fun _ _ _ h => h) (Or.inl ⟨by rfl, ?_⟩) (by assumption) ?_
        rotate_left 1
        · (intro w' hSw; (try dsimp only at hSw); go_simp <;> with_reducible rfl)
        try simp only [Act.put, List.setIfInBounds_toArray, List.set_cons_zero, List.set_cons_succ]
        refine wpAnyH_take (i := 23) (oi := { dst := some 56, op := Op.load 9 (Operand.tmp 55), type := 9, pos := "law.go:131", after := #[{ on := 22, ground := Ground.data }, { on := 14, ground := Ground.guard }], guard := some (14, false) }) (v := ?_) rfl (by kernel_rfl) (by kernel_rfl) (by kernel_rfl) (fun _ _ _ h => h) (Or.inl ⟨by rfl, ?_⟩) (by assumption) ?_
        rotate_left 1
        · (intro w' hSw; (try dsimp only at hSw); go_simp <;> with_reducible rfl)
        try simp only [Act.put, List.setIfInBounds_toArray, List.set_cons_zero, List.set_cons_succ]
        refine wpAnyH_ready (rs := [19]) (by kernel_rfl) (by simp) ?_
        refine AllReadyH.cons (o := { dst := some 52, op := Op.call { callee := Callee.value (Operand.func 13), args := #[Operand.tmp 51], argTypes := #[9] }, type := 9, pos := "law.go:131", after := #[{ on := 18, ground := Ground.data }, { on := 14, ground := Ground.chain }, { on := 14, ground := Ground.guard }], guard := some (14, false) }) rfl (fun K hK => ?_) AllReadyH.nil
        go_simp
        refine (hrr _).mono ?_
        rintro e w7 ⟨rfl, hbR⟩
        refine hK.out _ _ ?_ (fun hHeld => ?_)
        · exact ⟨(hbR.cell (World.block_lt_of_cell? _ _ hHeld.1)).trans hHeld.1, (hbR.cell (World.block_lt_of_cell? _ _ hHeld.2.1)).trans hHeld.2.1, below_trans' hHeld.2.2 hbR⟩
        clear hK K
        try simp only [Act.put, List.setIfInBounds_toArray, List.set_cons_zero, List.set_cons_succ]
        refine wpAnyH_take (i := 24) (oi := { dst := some 57, op := Op.binOp BinOp.neq 9 (Operand.tmp 52) (Operand.tmp 56) 9, type := 4, pos := "law.go:131", after := #[{ on := 19, ground := Ground.data }, { on := 23, ground := Ground.data }, { on := 14, ground := Ground.guard }], guard := some (14, false) }) (v := ?_) rfl (by kernel_rfl) (by kernel_rfl) (by kernel_rfl) (fun _ _ _ h => h) (Or.inl ⟨by rfl, ?_⟩) (by assumption) ?_
        rotate_left 1
        · (intro w' hSw; (try dsimp only at hSw); go_simp <;> with_reducible rfl)
        try simp only [Act.put, List.setIfInBounds_toArray, List.set_cons_zero, List.set_cons_succ]
        refine wpAnyH_take (i := 25) (oi := { dst := some 58, op := Op.pick (Operand.tmp 47) (Operand.const (Value.bool true)) (Operand.tmp 57), type := 4, pos := "law.go:131", after := #[{ on := 14, ground := Ground.data }, { on := 24, ground := Ground.data }], guard := none }) (v := ?_) rfl (by kernel_rfl) (by kernel_rfl) (by kernel_rfl) (fun _ _ _ h => h) (Or.inl ⟨by rfl, ?_⟩) (by assumption) ?_
        rotate_left 1
        · (intro w' hSw; (try dsimp only at hSw); go_simp <;> with_reducible rfl)
        try simp only [Act.put, List.setIfInBounds_toArray, List.set_cons_zero, List.set_cons_succ]
        refine wpAnyH_take (i := 26) (oi := { dst := some 59, op := Op.move (Operand.tmp 58), type := 4, pos := "law.go:131", after := #[{ on := 25, ground := Ground.data }, { on := 19, ground := Ground.chain }], guard := none }) (v := ?_) rfl (by kernel_rfl) (by kernel_rfl) (by kernel_rfl) (fun _ _ _ h => h) (Or.inl ⟨by rfl, ?_⟩) (by assumption) ?_
        rotate_left 1
        · (intro w' hSw; (try dsimp only at hSw); go_simp <;> with_reducible rfl)
        try simp only [Act.put, List.setIfInBounds_toArray, List.set_cons_zero, List.set_cons_succ]
        refine wpAnyH_take (i := 27) (oi := { dst := some 60, op := Op.move (Operand.tmp 1), type := 35, pos := "law.go:131", after := #[{ on := 26, ground := Ground.guard }], guard := some (26, false) }) (v := ?_) rfl (by kernel_rfl) (by kernel_rfl) (by kernel_rfl) (fun _ _ _ h => h) (Or.inl ⟨by rfl, ?_⟩) (by assumption) ?_
        rotate_left 1
        · (intro w' hSw; (try dsimp only at hSw); go_simp <;> with_reducible rfl)
        try simp only [Act.put, List.setIfInBounds_toArray, List.set_cons_zero, List.set_cons_succ]
        refine wpAnyH_take (i := 28) (oi := { dst := some 61, op := Op.move (Operand.tmp 8), type := 3, pos := "law.go:131", after := #[{ on := 26, ground := Ground.guard }], guard := some (26, false) }) (v := ?_) rfl (by kernel_rfl) (by kernel_rfl) (by kernel_rfl) (fun _ _ _ h => h) (Or.inl ⟨by rfl, ?_⟩) (by assumption) ?_
        rotate_left 1
        · (intro w' hSw; (try dsimp only at hSw); go_simp <;> with_reducible rfl)
        try simp only [Act.put, List.setIfInBounds_toArray, List.set_cons_zero, List.set_cons_succ]
        refine wpAnyH_take (i := 29) (oi := { dst := some 62, op := Op.indexAddr 35 (Operand.tmp 60) (Operand.tmp 61), type := 0, pos := "law.go:131", after := #[{ on := 27, ground := Ground.data }, { on := 28, ground := Ground.data }, { on := 26, ground := Ground.guard }], guard := some (26, false) }) (v := ?_) rfl (by kernel_rfl) (by kernel_rfl) (by kernel_rfl) (fun _ _ _ h => h) (Or.inl ⟨by rfl, ?_⟩) (by assumption) ?_
        rotate_left 1
        · (intro w' hSw; (try dsimp only at hSw); go_simp <;> with_reducible rfl)
        try simp only [Act.put, List.setIfInBounds_toArray, List.set_cons_zero, List.set_cons_succ]
        refine wpAnyH_take (i := 30) (oi := { dst := some 63, op := Op.load 9 (Operand.tmp 62), type := 9, pos := "law.go:131", after := #[{ on := 29, ground := Ground.data }, { on := 26, ground := Ground.guard }], guard := some (26, false) }) (v := ?_) rfl (by kernel_rfl) (by kernel_rfl) (by kernel_rfl) (fun _ _ _ h => h) (Or.inl ⟨by rfl, ?_⟩) (by assumption) ?_
        rotate_left 1
        · (intro w' hSw; (try dsimp only at hSw); go_simp <;> with_reducible rfl)
        try simp only [Act.put, List.setIfInBounds_toArray, List.set_cons_zero, List.set_cons_succ]
        refine wpAnyH_take (i := 32) (oi := { dst := some 65, op := Op.move (Operand.tmp 1), type := 35, pos := "law.go:131", after := #[{ on := 26, ground := Ground.guard }], guard := some (26, false) }) (v := ?_) rfl (by kernel_rfl) (by kernel_rfl) (by kernel_rfl) (fun _ _ _ h => h) (Or.inl ⟨by rfl, ?_⟩) (by assumption) ?_
        rotate_left 1
        · (intro w' hSw; (try dsimp only at hSw); go_simp <;> with_reducible rfl)
        try simp only [Act.put, List.setIfInBounds_toArray, List.set_cons_zero, List.set_cons_succ]
        refine wpAnyH_take (i := 33) (oi := { dst := some 66, op := Op.move (Operand.tmp 8), type := 3, pos := "law.go:131", after := #[{ on := 26, ground := Ground.guard }], guard := some (26, false) }) (v := ?_) rfl (by kernel_rfl) (by kernel_rfl) (by kernel_rfl) (fun _ _ _ h => h) (Or.inl ⟨by rfl, ?_⟩) (by assumption) ?_
        rotate_left 1
        · (intro w' hSw; (try dsimp only at hSw); go_simp <;> with_reducible rfl)
        try simp only [Act.put, List.setIfInBounds_toArray, List.set_cons_zero, List.set_cons_succ]
        refine wpAnyH_take (i := 34) (oi := { dst := some 67, op := Op.indexAddr 35 (Operand.tmp 65) (Operand.tmp 66), type := 0, pos := "law.go:131", after := #[{ on := 32, ground := Ground.data }, { on := 33, ground := Ground.data }, { on := 26, ground := Ground.guard }], guard := some (26, false) }) (v := ?_) rfl (by kernel_rfl) (by kernel_rfl) (by kernel_rfl) (fun _ _ _ h => h) (Or.inl ⟨by rfl, ?_⟩) (by assumption) ?_
        rotate_left 1
        · (intro w' hSw; (try dsimp only at hSw); go_simp <;> with_reducible rfl)
        try simp only [Act.put, List.setIfInBounds_toArray, List.set_cons_zero, List.set_cons_succ]
        refine wpAnyH_take (i := 35) (oi := { dst := some 68, op := Op.load 9 (Operand.tmp 67), type := 9, pos := "law.go:131", after := #[{ on := 34, ground := Ground.data }, { on := 26, ground := Ground.guard }], guard := some (26, false) }) (v := ?_) rfl (by kernel_rfl) (by kernel_rfl) (by kernel_rfl) (fun _ _ _ h => h) (Or.inl ⟨by rfl, ?_⟩) (by assumption) ?_
        rotate_left 1
        · (intro w' hSw; (try dsimp only at hSw); go_simp <;> with_reducible rfl)
        try simp only [Act.put, List.setIfInBounds_toArray, List.set_cons_zero, List.set_cons_succ]
        refine wpAnyH_ready (rs := [31]) (by kernel_rfl) (by simp) ?_
        refine AllReadyH.cons (o := { dst := some 64, op := Op.call { callee := Callee.value (Operand.func 14), args := #[Operand.tmp 63], argTypes := #[9] }, type := 9, pos := "law.go:131", after := #[{ on := 30, ground := Ground.data }, { on := 26, ground := Ground.chain }, { on := 26, ground := Ground.guard }], guard := some (26, false) }) rfl (fun K hK => ?_) AllReadyH.nil
        go_simp
        refine (hrn _).mono ?_
        rintro e w' ⟨rfl, rfl⟩
        refine hK.out _ _ ?_ (fun hHeld => ?_)
        · exact hHeld
        clear hK K
        try simp only [Act.put, List.setIfInBounds_toArray, List.set_cons_zero, List.set_cons_succ]
        refine wpAnyH_take (i := 36) (oi := { dst := some 69, op := Op.binOp BinOp.neq 9 (Operand.tmp 64) (Operand.tmp 68) 9, type := 4, pos := "law.go:131", after := #[{ on := 31, ground := Ground.data }, { on := 35, ground := Ground.data }, { on := 26, ground := Ground.guard }], guard := some (26, false) }) (v := ?_) rfl (by kernel_rfl) (by kernel_rfl) (by kernel_rfl) (fun _ _ _ h => h) (Or.inl ⟨by rfl, ?_⟩) (by assumption) ?_
        rotate_left 1
        · (intro w' hSw; (try dsimp only at hSw); go_simp <;> with_reducible rfl)
        try simp only [Act.put, List.setIfInBounds_toArray, List.set_cons_zero, List.set_cons_succ]
        refine wpAnyH_take (i := 37) (oi := { dst := some 70, op := Op.pick (Operand.tmp 59) (Operand.const (Value.bool true)) (Operand.tmp 69), type := 4, pos := "law.go:131", after := #[{ on := 26, ground := Ground.data }, { on := 36, ground := Ground.data }], guard := none }) (v := ?_) rfl (by kernel_rfl) (by kernel_rfl) (by kernel_rfl) (fun _ _ _ h => h) (Or.inl ⟨by rfl, ?_⟩) (by assumption) ?_
        rotate_left 1
        · (intro w' hSw; (try dsimp only at hSw); go_simp <;> with_reducible rfl)
        try simp only [Act.put, List.setIfInBounds_toArray, List.set_cons_zero, List.set_cons_succ]
        refine wpAnyH_done (by kernel_rfl) ?_ _
        refine NoPanic.normal ?_
        obtain ⟨k07, k17, hB7⟩ := hHeld
        have HB7 := Lib.hid (HB.out.trans (hB7.mono HB.out.size))
        have HB70 := Lib.hid hB7
        have HPN := Lib.hid hq
        have h100H := Lib.hid h100
        clear hrr hrn f1 f1b f2 f2b hpl hpq k0 k1 hB7 hq h100I h100J h100K
        go_wp2_with fail
        obtain ⟨wo, hwo⟩ : ∃ wo : World, wo = wr := ⟨_, rfl⟩
        subst hwo
        go_loopw [9] (fun vk wr => ∃ q : Nat, vk = .int .i64 q ∧ q ≤ I ∧ (∀ (k : Nat) (hk : k < q), k < P.length → P[k]?.map Prod.fst ≠ some n1) ∧ Below w7.heap.size w7 wr) (fun vk _ => I - (intOf vk).toNat)
        case atStart => exact ⟨0, rfl, Nat.zero_le _, fun k hk => by omega, Below.refl _ _⟩
        case round =>
          obtain ⟨q, rfl, hqI, hdf, hBx⟩ := hrel
          have k0 : wr.cell? ⟨b0, o0 + I, none⟩ = some (.string (tstr n1)) := (hBx.cell (World.block_lt_of_cell? w7 _ k07)).trans k07
          by_cases hql : q < I
          · have hqlI : (q : Int) < (I : Int) := by omega
            have hqn : (q : Int) < (n : Int) := by omega
            have hqP : q < P.length := by rw [HPL.out]; omega
            have kq : wr.cell? ⟨b0, o0 + q, none⟩ = some (.string (tstr P[q].1)) := by
              have h9 := HC.out q hqP
              have h8 := (HB70.out.cell (World.block_lt_of_cell? wo _ h9)).trans h9
              exact (hBx.cell (World.block_lt_of_cell? w7 _ h8)).trans h8
            obtain ⟨nq, hnq⟩ : ∃ x, P[q].1 = x := ⟨_, rfl⟩
            rw [hnq] at kq
            by_cases he : nq = n1
            · have fe := eq_fact he
              have hB8 := HB1.out.trans ((HB7.out.trans (hBx.mono HB7.out.size)).mono HB1.out.size)
              clear hdf hBx he hnq
              generalize tstr nq = QQ at kq fe
              generalize tstr n1 = NN at k0 fe
              go_wp2_with fail
              go_quiet (fail)
              go_wp2_with fail
              go_ret
              exact ⟨rfl, below_dr hB8 _⟩
            · have fe := ne_fact he
              have HDF := Lib.hid (show ∀ (k : Nat) (hk : k < q + 1), k < P.length → P[k]?.map Prod.fst ≠ some n1 from fun k hk hkP => by
                by_cases hkq : k < q
                · exact hdf k hkq hkP
                · obtain rfl : k = q := by omega
                  rw [List.getElem?_eq_getElem hkP, Option.map_some, hnq]
                  intro e
                  exact he (Option.some.inj e))
              have HBX := Lib.hid hBx
              clear hdf hBx he hnq
              generalize tstr nq = QQ at kq fe
              generalize tstr n1 = NN at k0 fe
              go_wp2_with fail
              go_quiet (fail)
              go_wp2_with fail
              go_roundw
              case rel => exact ⟨q + 1, by go_num, by omega, HDF.out, below_dr HBX.out _⟩
              case measure => simp [intOf]; omega
          · obtain rfl : q = I := by omega
            have k1 : wr.cell? ⟨b1, o1 + q, none⟩ = some (.string (tstr n2)) := (hBx.cell (World.block_lt_of_cell? w7 _ k17)).trans k17
            have hTG := HSN.out (by rw [HN1.out]; exact HPN.out) (by rw [HN2.out]; exact HREP.out) (by rw [HN2.out]; exact h100H.out) (fun k hk => by
              have h9 := hdf k hk (by rw [HPL.out]; omega)
              rw [List.getElem?_eq_getElem (by rw [HPL.out]; omega), Option.map_some] at h9
              rw [HN1.out]
              exact fun e => h9 (by rw [e]))
            have hSU := HSU.out
            have hit : Mk.item P[q] = 32 :: (n1 ++ 61 :: 34 :: (n2.flatMap Ent.escA ++ [34])) := by
              unfold Mk.item; rw [HN1.out, HN2.out]
            rw [hit] at hSU
            have hn1l : n1.length ≤ 20 := by
              have h9 := HPN.out
              unfold Mk.pname at h9
              simp only [Bool.and_eq_true, decide_eq_true_eq] at h9
              exact h9.2
            have hel := Ent.flat_len Ent.escA Ent.escA_len n2
            have hes := fun W => rescape_attr (tstr n2) W (by rw [tstr_size]; omega)
            simp only [tstr_data] at hes
            obtain ⟨E, hE⟩ : ∃ E, n2.flatMap Ent.escA = E := ⟨_, rfl⟩
            rw [hE] at hes hSU hel
            have heq : ∀ W, Calls Tryz.prog 15 #[.string (tstr n2), .bool true] W fun e w' => e = .returned (.string (tstr E)) ∧ w' = W := fun W => (hes W).mono fun _ _ ⟨h, h2⟩ => ⟨h, h2.symm⟩
            have ad1 : ∀ W : World, (Op.stringOp .add ⟨#[32]⟩ (tstr n1)).run Tryz.prog W = .ok (.string (tstr ([32] ++ n1))) W := fun W => by
              rw [show (⟨#[32]⟩ : ByteArray) = tstr [32] from rfl, run_string_add_sum W _ _ (by rw [tstr_size, tstr_size]; simp only [List.length_cons, List.length_nil]; omega), tstr_append]
            have ad2 : ∀ W : World, (Op.stringOp .add (tstr ([32] ++ n1)) ⟨#[61, 34]⟩).run Tryz.prog W = .ok (.string (tstr ([32] ++ n1 ++ [61, 34]))) W := fun W => by
              rw [show (⟨#[61, 34]⟩ : ByteArray) = tstr [61, 34] from rfl, run_string_add_sum W _ _ (by rw [tstr_size, tstr_size, List.length_append]; simp only [List.length_cons, List.length_nil]; omega), tstr_append]
            have ad3 : ∀ W : World, (Op.stringOp .add (tstr ([32] ++ n1 ++ [61, 34])) (tstr E)).run Tryz.prog W = .ok (.string (tstr ([32] ++ n1 ++ [61, 34] ++ E))) W := fun W => by
              rw [run_string_add_sum W _ _ (by rw [tstr_size, tstr_size, List.length_append, List.length_append]; simp only [List.length_cons, List.length_nil]; omega), tstr_append]
            have ad4 : ∀ W : World, (Op.stringOp .add (tstr ([32] ++ n1 ++ [61, 34] ++ E)) ⟨#[34]⟩).run Tryz.prog W = .ok (.string (tstr ([32] ++ n1 ++ [61, 34] ++ E ++ [34]))) W := fun W => by
              rw [show (⟨#[34]⟩ : ByteArray) = tstr [34] from rfl, run_string_add_sum W _ _ (by rw [tstr_size, tstr_size, List.length_append, List.length_append, List.length_append]; simp only [List.length_cons, List.length_nil]; omega), tstr_append]
            have ad5 : ∀ W : World, (Op.stringOp .add (tstr (tgDoc P q)) (tstr ([32] ++ n1 ++ [61, 34] ++ E ++ [34]))).run Tryz.prog W = .ok (.string (tstr (tgDoc P (q + 1)))) W := fun W => by
              rw [run_string_add_sum W _ _ (by rw [tstr_size, tstr_size, List.length_append, List.length_append, List.length_append, List.length_append]; simp only [List.length_cons, List.length_nil]; omega), tstr_append, hSU]
              simp
            have HTG := Lib.hid hTG
            have HB8 := Lib.hid (HB7.out.trans (hBx.mono HB7.out.size))
            clear hTG hSU hit hel hes hE hdf hBx
            generalize tstr ([32] ++ n1 ++ [61, 34] ++ E ++ [34]) = D4 at ad4 ad5
            generalize tstr ([32] ++ n1 ++ [61, 34] ++ E) = D3 at ad3 ad4
            generalize tstr ([32] ++ n1 ++ [61, 34]) = D2 at ad2 ad3
            generalize tstr ([32] ++ n1) = D1 at ad1 ad2
            generalize tstr E = EE at ad3 heq
            generalize tstr n1 = NN at ad1 k0
            generalize tstr n2 = VV at heq k1
            generalize tstr (tgDoc P q) = G0 at ad5 ⊢
            go_wp2_with fail
            go_quiet ((go_at_call 15; exact Calls.quiet_of_same (heq _)))
            go_wp2_with fail
            go_roundw
            case rel => exact ⟨q + 1, by go_num, by omega, rfl, HTG.out, below_dr HB8.out _⟩
            case measure => simp [intOf]; omega
    · have hIn : I = n := by omega
      subst hIn
      have hPt : P.take I = P := List.take_of_length_le (by rw [HPL.out]; exact Nat.le_refl _)
      rw [hPt] at hS
      have hD : ∀ b : Bool, tgDoc P I ++ (if b then [47] else []) ++ [62, 121] = Mk.tagDoc P b := fun b => by
        unfold tgDoc Mk.tagDoc; rw [hPt]
      have hpl := fun b => Mk.tag_plain (ps := P) b hS.name hS.rep
      have htg := fun b => Mk.tag_tokens (ps := P) b hS.name (by rw [HPL.out]; omega) hS.diff
      have hDl : ∀ b : Bool, (Mk.tagDoc P b).length ≤ 12485 := fun b => by
        rw [← hD]
        cases b <;> simp only [List.length_append, List.length_cons, List.length_nil, if_true, Bool.false_eq_true, if_false] <;> omega
      have htk := fun W (hW : Env W) => ktokens_any (tstr (Mk.tagDoc P cl)) W hW (by rw [tstr_size]; have := hDl cl; omega) (by rw [tstr_data, (hpl cl).1]; have := hDl cl; omega)
      simp only [tstr_data] at htk
      rw [docText_same (hpl cl).1 (hpl cl).2, htg cl] at htk
      have hE := HE1.out.below hB
      have had2 : ∀ W : World, (Op.stringOp .add (tstr (tgDoc P I ++ (if cl then [47] else []))) ⟨#[62, 121]⟩).run Tryz.prog W = .ok (.string (tstr (Mk.tagDoc P cl))) W := fun W => by
        rw [show (⟨#[62, 121]⟩ : ByteArray) = tstr [62, 121] from rfl, run_string_add_sum W _ _ (by rw [tstr_size, tstr_size, List.length_append]; cases cl <;> simp only [List.length_cons, List.length_nil, if_true, Bool.false_eq_true, if_false] <;> omega), tstr_append, hD]
      have had1 : ∀ W : World, (Op.stringOp .add (tstr (tgDoc P I)) ⟨#[47]⟩).run Tryz.prog W = .ok (.string (tstr (tgDoc P I ++ [47]))) W := fun W => by
        rw [show (⟨#[47]⟩ : ByteArray) = tstr [47] from rfl, run_string_add_sum W _ _ (by rw [tstr_size, tstr_size]; simp only [List.length_cons, List.length_nil]; omega), tstr_append]
      have HB := Lib.hid hB
      clear hS hPt hD hpl htg hDl hB
      generalize tstr (Mk.tagDoc P cl) = D at htk had2
      cases cl with
      | true =>
        simp only [if_true] at had2
        generalize tstr (tgDoc P I ++ [47]) = G1 at had1 had2
        generalize tstr (tgDoc P I) = G0 at had1 ⊢
        go_wp2_with fail
        refine (htk wr hE).mono ?_
        clear htk had2 had1
        rintro e w5 ⟨v, l, rfl, hl, hr, hb5⟩
        have hlen := congrArg List.length hl
        rw [List.length_map] at hlen
        have hl2 : l.length = 2 := hlen
        obtain ⟨g, c, rfl, q0, hgl, c0, c1, c2, c3, c4⟩ := hr.at 0 (by omega)
        obtain ⟨g', c', hv, q1, q2, q3, q4, q5, q6, d4⟩ := hr.at 1 (by omega)
        clear q0 q1 q2 q3 q4 q5 q6
        injection hv with hv _ hc
        subst hc
        injection hv with hv
        injection hv with hv
        subst hv
        have e0 : l[0].1 = ⟨1, [120], P, true, []⟩ := by
          have h9 := List.getElem_of_eq hl (i := 0) (by rw [List.length_map]; omega)
          simpa using h9
        have e1 : l[1].1 = Mk.txt [121] := by
          have h9 := List.getElem_of_eq hl (i := 1) (by rw [List.length_map]; omega)
          simpa using h9
        have har := hr.2 _ (List.getElem_mem (by omega : 0 < l.length))
        rw [e0] at c0 c1 c3 har
        rw [e1] at d4
        generalize l[0].2 = SL at c2 har
        obtain ⟨AS, cs, rfl⟩ := har.form
        have hpn : (⟨1, [120], P, true, []⟩ : Mk.Tok).attrs.length = I := HPL.out
        rw [hpn] at c2
        have k0 : w5.cell? ⟨g, 0, none⟩ = some (.int .i64 1) := c0
        have k1 : w5.cell? ⟨g, 1, none⟩ = some (.string (tstr [120])) := c1
        have k2 : w5.cell? ⟨g, 2, none⟩ = some (.slice AS I cs) := c2
        have k3 : w5.cell? ⟨g, 3, none⟩ = some (.bool true) := c3
        have k9 : w5.cell? ⟨g, 9, none⟩ = some (.string (tstr [121])) := d4
        have fx : ((tstr [120]).toList != [120]) = false := by rw [Lib.toList_data, tstr_data]; rfl
        have fy : ((tstr [121]).toList != [121]) = false := by rw [Lib.toList_data, tstr_data]; rfl
        have fx2 : ((tstr [120]).toList == [120]) = true := by rw [Lib.toList_data, tstr_data]; rfl
        have fy2 : ((tstr [121]).toList == [121]) = true := by rw [Lib.toList_data, tstr_data]; rfl
        have fI : ((I : Int) != (I : Int)) = false := by simp
        rw [hl2]
        have HAR := Lib.hid har
        have HB5 := Lib.hid (HB.out.trans (hb5.mono HB.out.size))
        clear hl hr hlen hl2 c0 c1 c2 c3 c4 d4 e0 e1 har hpn hb5 hE
        generalize tstr [120] = XX at k1 fx fx2
        generalize tstr [121] = YY at k9 fy fy2
        go_wp2_with fail
        obtain ⟨wo, hwo⟩ : ∃ wo : World, wo = wr := ⟨_, rfl⟩
        subst hwo
        go_loopw [11] (fun vi wr => ∃ q : Nat, vi = .int .i64 q ∧ q ≤ I ∧ Below w5.heap.size w5 wr) (fun vi _ => I - (intOf vi).toNat)
        case atStart => exact ⟨0, rfl, Nat.zero_le _, Below.refl _ _⟩
        case round =>
          obtain ⟨q, rfl, hq, hBx⟩ := hrel
          have hBB := HB5.out.trans (hBx.mono HB5.out.size)
          by_cases hql : q < I
          · have hqlI : (q : Int) < (I : Int) := by omega
            have hqm : (q : Int) < (m1 : Int) := by omega
            have hqP : q < P.length := by rw [HPL.out]; exact hql
            have kk2 : wr.cell? ⟨g, 2, none⟩ = some (.slice AS I cs) := (hBx.cell (World.block_lt_of_cell? w5 _ k2)).trans k2
            obtain ⟨⟨b0, o0, rfl, n0⟩, ⟨b1, o1, rfl, n1⟩, _⟩ := hP1.below hBB q hqP
            obtain ⟨x1, y1, hX1, _, hx1, s0, s1⟩ := HAR.out.at q hqP
            injection hX1 with hX1 _ hz1
            subst hX1 hz1
            replace s0 : wr.cell? ⟨x1, q * 2, none⟩ = some (.string (tstr P[q].1)) := (hBx.cell hx1).trans s0
            replace s1 : wr.cell? ⟨x1, q * 2 + 1, none⟩ = some (.string (tstr P[q].2)) := (hBx.cell hx1).trans s1
            generalize tstr P[q].1 = S0 at n0 s0
            generalize tstr P[q].2 = S1 at n1 s1
            have HBX := Lib.hid hBx
            clear hBB hBx k0 k1 k2 k3 k9
            go_wp2_with fail
            go_quiet (fail)
            go_wp2_with fail
            go_roundw
            case rel => exact ⟨q + 1, by go_num, by omega, below_dr HBX.out _⟩
            case measure => simp [intOf]; omega
          · have hqlI : ¬ (q : Int) < (I : Int) := by omega
            go_wp2_with fail
            go_ret
            exact ⟨rfl, HB1.out.trans (hBB.mono HB1.out.size)⟩
      | false =>
        simp only [Bool.false_eq_true, if_false, List.append_nil] at had2
        clear had1
        generalize tstr (tgDoc P I) = G0 at had2 ⊢
        go_wp2_with fail
        refine (htk wr hE).mono ?_
        clear htk had2 
        rintro e w5 ⟨v, l, rfl, hl, hr, hb5⟩
        have hlen := congrArg List.length hl
        rw [List.length_map] at hlen
        have hl2 : l.length = 2 := hlen
        obtain ⟨g, c, rfl, q0, hgl, c0, c1, c2, c3, c4⟩ := hr.at 0 (by omega)
        obtain ⟨g', c', hv, q1, q2, q3, q4, q5, q6, d4⟩ := hr.at 1 (by omega)
        clear q0 q1 q2 q3 q4 q5 q6
        injection hv with hv _ hc
        subst hc
        injection hv with hv
        injection hv with hv
        subst hv
        have e0 : l[0].1 = ⟨1, [120], P, false, []⟩ := by
          have h9 := List.getElem_of_eq hl (i := 0) (by rw [List.length_map]; omega)
          simpa using h9
        have e1 : l[1].1 = Mk.txt [121] := by
          have h9 := List.getElem_of_eq hl (i := 1) (by rw [List.length_map]; omega)
          simpa using h9
        have har := hr.2 _ (List.getElem_mem (by omega : 0 < l.length))
        rw [e0] at c0 c1 c3 har
        rw [e1] at d4
        generalize l[0].2 = SL at c2 har
        obtain ⟨AS, cs, rfl⟩ := har.form
        have hpn : (⟨1, [120], P, false, []⟩ : Mk.Tok).attrs.length = I := HPL.out
        rw [hpn] at c2
        have k0 : w5.cell? ⟨g, 0, none⟩ = some (.int .i64 1) := c0
        have k1 : w5.cell? ⟨g, 1, none⟩ = some (.string (tstr [120])) := c1
        have k2 : w5.cell? ⟨g, 2, none⟩ = some (.slice AS I cs) := c2
        have k3 : w5.cell? ⟨g, 3, none⟩ = some (.bool false) := c3
        have k9 : w5.cell? ⟨g, 9, none⟩ = some (.string (tstr [121])) := d4
        have fx : ((tstr [120]).toList != [120]) = false := by rw [Lib.toList_data, tstr_data]; rfl
        have fy : ((tstr [121]).toList != [121]) = false := by rw [Lib.toList_data, tstr_data]; rfl
        have fx2 : ((tstr [120]).toList == [120]) = true := by rw [Lib.toList_data, tstr_data]; rfl
        have fy2 : ((tstr [121]).toList == [121]) = true := by rw [Lib.toList_data, tstr_data]; rfl
        have fI : ((I : Int) != (I : Int)) = false := by simp
        rw [hl2]
        have HAR := Lib.hid har
        have HB5 := Lib.hid (HB.out.trans (hb5.mono HB.out.size))
        clear hl hr hlen hl2 c0 c1 c2 c3 c4 d4 e0 e1 har hpn hb5 hE
        generalize tstr [120] = XX at k1 fx fx2
        generalize tstr [121] = YY at k9 fy fy2
        go_wp2_with fail
        obtain ⟨wo, hwo⟩ : ∃ wo : World, wo = wr := ⟨_, rfl⟩
        subst hwo
        go_loopw [11] (fun vi wr => ∃ q : Nat, vi = .int .i64 q ∧ q ≤ I ∧ Below w5.heap.size w5 wr) (fun vi _ => I - (intOf vi).toNat)
        case atStart => exact ⟨0, rfl, Nat.zero_le _, Below.refl _ _⟩
        case round =>
          obtain ⟨q, rfl, hq, hBx⟩ := hrel
          have hBB := HB5.out.trans (hBx.mono HB5.out.size)
          by_cases hql : q < I
          · have hqlI : (q : Int) < (I : Int) := by omega
            have hqm : (q : Int) < (m1 : Int) := by omega
            have hqP : q < P.length := by rw [HPL.out]; exact hql
            have kk2 : wr.cell? ⟨g, 2, none⟩ = some (.slice AS I cs) := (hBx.cell (World.block_lt_of_cell? w5 _ k2)).trans k2
            obtain ⟨⟨b0, o0, rfl, n0⟩, ⟨b1, o1, rfl, n1⟩, _⟩ := hP1.below hBB q hqP
            obtain ⟨x1, y1, hX1, _, hx1, s0, s1⟩ := HAR.out.at q hqP
            injection hX1 with hX1 _ hz1
            subst hX1 hz1
            replace s0 : wr.cell? ⟨x1, q * 2, none⟩ = some (.string (tstr P[q].1)) := (hBx.cell hx1).trans s0
            replace s1 : wr.cell? ⟨x1, q * 2 + 1, none⟩ = some (.string (tstr P[q].2)) := (hBx.cell hx1).trans s1
            generalize tstr P[q].1 = S0 at n0 s0
            generalize tstr P[q].2 = S1 at n1 s1
            have HBX := Lib.hid hBx
            clear hBB hBx k0 k1 k2 k3 k9
            go_wp2_with fail
            go_quiet (fail)
            go_wp2_with fail
            go_roundw
            case rel => exact ⟨q + 1, by go_num, by omega, below_dr HBX.out _⟩
            case measure => simp [intOf]; omega
          · have hqlI : ¬ (q : Int) < (I : Int) := by omega
            go_wp2_with fail
            go_ret
            exact ⟨rfl, HB1.out.trans (hBB.mono HB1.out.size)⟩

end Go.Proofs.YtckmlbcpldpkpaaGreatDoor

namespace Go.Proofs.YtckmlbcpldpkpaaGreatDoor.markupTags
open Go.ChangeShapes Go.WideShapes Go.ChangeAt Go.RowKit
open Go.ChangeMaps (open_string shut_string)
set_option linter.unusedVariables false

theorem own : ownKnob Tryz.prog.godebug = none := by kernel_rfl
theorem laidOut : laidOutB Tryz.prog = true := by kernel_rfl

theorem bu8 {n : Int} (h : (Lit.int .u8 n).wf = true) : 0 ≤ n ∧ n ≤ 255 := by
  simpa [Lit.wf, IntKind.min, IntKind.max, IntKind.bits, IntKind.signed] using h
theorem bi64 {n : Int} (h : (Lit.int .i64 n).wf = true) : -9223372036854775808 ≤ n ∧ n ≤ 9223372036854775807 := by
  simpa [Lit.wf, IntKind.min, IntKind.max, IntKind.bits, IntKind.signed] using h
theorem weight_mem {H : Type} {P : Program} {e : TypeId} {s : ByteArray} {l : List ByteArray} (h : s ∈ l) : s.data.toList.length ∈ DataW.weightsAll P e (strs (H := H) l) := by
  induction l with
  | nil => cases h
  | cons t l ih =>
    have e1 : strs (H := H) (t :: l) = .lit (.string t.data.toList) :: strs l := rfl
    rw [e1, DataW.weightsAll, DataW.weights]
    rcases List.mem_cons.1 h with rfl | h
    · exact List.mem_append_left _ (List.mem_singleton.2 rfl)
    · exact List.mem_append_right _ (ih h)
theorem strsIn_of {w : World} {x : Addr} {ss : List ByteArray} {len : Nat} (hl : len ≤ ss.length) (hc : ∀ i, i < ss.length → w.cell? (x.add i) = some (.string (ss.getD i ByteArray.empty))) : StrsIn w (some x) (ss.take len) := by
  intro i y hi
  have hil : i < len := by
    have := (List.getElem?_eq_some_iff.1 hi).1
    rw [List.length_take] at this; omega
  rw [List.getElem?_take_of_lt hil] at hi
  obtain ⟨b, o, sp⟩ := x
  have hci := hc i (by omega)
  have hsp : sp = none := by simpa [Addr.add] using World.cell?_spot (hc 0 (by omega))
  subst hsp
  rw [add_plain] at hci
  refine ⟨b, o, rfl, ?_⟩
  rw [hci, List.getD, hi]; rfl

open Go.Shelf Go.Lib in
theorem laid_lit {W : World} (h : laidMetH Tryz.prog Rows.markupTagsRow.laid W) : Lit W := by
  rw [MakeChecks.laidMetH_plain _ _ _ (by kernel_rfl)] at h
  have e1 : Rows.laid_unicode_utf8_first = firstData := Pinned.utf8First_eq
  have e2 : (Rows.laid_unicode_utf8_acceptRanges : DataW Unit) = acceptData := by kernel_rfl
  exact utf8Tabs_of_readsT (U8Types.of196 Tryz.lays196) ⟨by kernel_rfl, by kernel_rfl, by kernel_rfl, by kernel_rfl, by kernel_rfl, by kernel_rfl, by kernel_rfl⟩
    (e1 ▸ Lib.laidMet.reads h (.tail _ (.tail _ (.head _)))) (e2 ▸ Lib.laidMet.reads h (.head _))
theorem laid_tab {W : World} (h : laidMetH Tryz.prog Rows.markupTagsRow.laid W) : Tab W := by
  rw [MakeChecks.laidMetH_plain _ _ _ (by kernel_rfl)] at h
  exact tab_of (Lib.laidMet.reads h (.tail _ (.head _)))

/-! The step from the walk to the row. -/
set_option maxRecDepth 100000 in
theorem lifted (os : Os) (started : os.Started) (H : Type) (enc : TypeId × Value → H) :
    ReturnsInHanded {} Tryz.checked os 4 .any (fun w args => (Rows.markupTagsSpec.pre enc Tryz.prog Tryz.f4 [] false w args ∧ laidMetH Tryz.prog Rows.markupTagsRow.laid w) ∧ sizedMet enc Tryz.prog Tryz.f4 (OpenSpec.ofChange Rows.markupTagsSpec) false w args) (Rows.markupTagsSpec.post enc Tryz.prog Tryz.f4 false true false false) := by
  have key : ∀ (W : World) (base : Nat) (args : Array Value) (ds gs : List (DataW H)) (before : List MemPlace),
      (∀ (j : Nat) t v, Tryz.f4.params[j]? = some t → args[j]? = some v → Value.okWide Tryz.prog W .any base t v) →
      DataW.Whole enc Tryz.prog Tryz.f4.params.toList Rows.markupTagsSpec.vars false W args.toList ds gs before →
      (DataW.weightsEach Tryz.prog (Tryz.f4.params.toList ++ Rows.markupTagsSpec.plain.varTypes Tryz.prog) (ds ++ gs)).all (· ≤ reachBytes) = true →
      laidMetH Tryz.prog Rows.markupTagsRow.laid W →
      W.ShapedOpen Tryz.prog →
      Calls Tryz.prog 4 args W fun e W' => ∃ v, e = .returned v ∧ Rows.markupTagsSpec.post enc Tryz.prog Tryz.f4 false true false false W args v W' := by
    intro W base args ds gs before hval0 hW hsz0 hL hsh
    have hT : Env W := ⟨laid_lit hL, laid_tab hL, Tryz.maxLen W hsh⟩
    have hval : ∀ (j : Nat) t v, Tryz.f4.params[j]? = some t → args[j]? = some v → Value.okWide Tryz.prog W .any base t v := hval0
    have hsz : (DataW.weightsEach Tryz.prog (Tryz.f4.params.toList ++ Rows.markupTagsSpec.plain.varTypes Tryz.prog) (ds ++ gs)).all (· ≤ reachBytes) = true := hsz0
    have hW' := hW
    obtain ⟨p, q, hA0, hV, rfl, hfz, hnd⟩ := hW
    have hA : DataW.TrodAll enc Tryz.prog W 0 (fun _ => true) true Tryz.f4.params.toList args.toList ds p := hA0
    rw [Tryz.params4] at hA hval hsz
    obtain ⟨v0, vs0, d0, ds0, p0, q0, hargs, rfl, rfl, h0, r0⟩ := trodAll_cons hA
    obtain ⟨v1, vs1, d1, ds1, p1, q1, rfl, rfl, rfl, h1, r1⟩ := trodAll_cons r0
    obtain ⟨v2, vs2, d2, ds2, p2, q2, rfl, rfl, rfl, h2, r2⟩ := trodAll_cons r1
    obtain ⟨rfl, rfl, rfl⟩ := trodAll_nil r2
    obtain rfl : args = #[v0, v1, v2] := by cases args; simp_all
    obtain ⟨rfl, rfl⟩ := trodVars_none hV
    have k0 := h0
    have lt0 : ∀ x ∈ p0, x.block < W.heap.size := by obtain ⟨m, hm⟩ := k0; exact DataW.trod_lt m _ _ _ hm
    obtain ⟨a0, len0, cap0, rfl⟩ := okWide_slice Tryz.underlying35 (hval 0 35 v0 rfl rfl)
    obtain ⟨ss0, w0, hl0, hz0⟩ : ∃ ss : List ByteArray, StrsIn W a0 ss ∧ ss.length = len0 ∧ ∀ s ∈ ss, s.size ≤ 140737488351232 := by
      obtain ⟨fuel, hf⟩ := h0
      rcases open_strings Tryz.underlying35 Tryz.underlying9 (by kernel_rfl) hf with ⟨hcs, _⟩ | ⟨x, l, c, ss, hcs, _, hl, hm, hz, hx, hcell, _⟩
      · simp [Value.cells] at hcs
        obtain ⟨rfl, rfl, rfl⟩ := hcs
        exact ⟨[], fun i x hi => by simp at hi, rfl, fun s hs => by cases hs⟩
      · simp [Value.cells] at hcs
        obtain ⟨rfl, rfl, rfl⟩ := hcs
        injection hx with hx _
        subst hx
        have hzc : ss.length = cap0 := by simpa using hz
        refine ⟨ss.take len0, strsIn_of (by omega) hcell, by rw [List.length_take]; omega, fun s hs => ?_⟩
        have h1 := List.all_eq_true.1 hsz _ (DataW.weights_mem_each (j := 0) (t := 35) rfl rfl s.data.toList.length (by
          simp only [DataW.weights, Tryz.underlying35]
          exact List.mem_cons_of_mem _ (List.mem_append_left _ (weight_mem hs))))
        have h2 : s.data.toList.length ≤ reachBytes := by simpa using h1
        exact h2
    subst hl0
    have k1 := h1
    have lt1 : ∀ x ∈ p1, x.block < W.heap.size := by obtain ⟨m, hm⟩ := k1; exact DataW.trod_lt m _ _ _ hm
    obtain ⟨a1, len1, cap1, rfl⟩ := okWide_slice Tryz.underlying35 (hval 1 35 v1 rfl rfl)
    obtain ⟨ss1, w1, hl1, hz1⟩ : ∃ ss : List ByteArray, StrsIn W a1 ss ∧ ss.length = len1 ∧ ∀ s ∈ ss, s.size ≤ 140737488351232 := by
      obtain ⟨fuel, hf⟩ := h1
      rcases open_strings Tryz.underlying35 Tryz.underlying9 (by kernel_rfl) hf with ⟨hcs, _⟩ | ⟨x, l, c, ss, hcs, _, hl, hm, hz, hx, hcell, _⟩
      · simp [Value.cells] at hcs
        obtain ⟨rfl, rfl, rfl⟩ := hcs
        exact ⟨[], fun i x hi => by simp at hi, rfl, fun s hs => by cases hs⟩
      · simp [Value.cells] at hcs
        obtain ⟨rfl, rfl, rfl⟩ := hcs
        injection hx with hx _
        subst hx
        have hzc : ss.length = cap1 := by simpa using hz
        refine ⟨ss.take len1, strsIn_of (by omega) hcell, by rw [List.length_take]; omega, fun s hs => ?_⟩
        have h1 := List.all_eq_true.1 hsz _ (DataW.weights_mem_each (j := 1) (t := 35) rfl rfl s.data.toList.length (by
          simp only [DataW.weights, Tryz.underlying35]
          exact List.mem_cons_of_mem _ (List.mem_append_left _ (weight_mem hs))))
        have h2 : s.data.toList.length ≤ reachBytes := by simpa using h1
        exact h2
    subst hl1
    obtain ⟨a2, rfl, rfl, rfl⟩ := open_bool Tryz.underlying4 (hval 2 4 v2 rfl rfl) h2
    clear hA0 hval0 hsz0
    refine (tags_walk a0 cap0 ss0 a1 cap1 ss1 a2 W hT w0 w1 hz0 hz1).mono fun e W' ⟨he, bel⟩ => ?_
    subst he
    exact ⟨_, rfl, _, _, _, [], _, [], hW', trodAll_mk1 (shut_bool Tryz.underlying4 _), (trodAll_cons_mk (Below.trod laidOut (by kernel_rfl) (of_decide_eq_true (by kernel_rfl)) k0 bel lt0) (trodAll_cons_mk (Below.trod laidOut (by kernel_rfl) (of_decide_eq_true (by kernel_rfl)) k1 bel lt1) (trodAll_cons_mk (shut_bool Tryz.underlying4 _) trodAll_mk0))), rfl, bel.frame _, fun h => by cases h⟩
  refine returnsInHanded_of_calls own started (by kernel_rfl)
    (ChangeSpec.witness_shaped (enc := enc) (C := Tryz.checked) (os := os) (X := fun w _ => laidMetH Tryz.prog Rows.markupTagsRow.laid w) false (World.laidAll Tryz.prog os Rows.markupTagsRow.laid) #[.slice none 0 0, .slice none 0 0, .bool false] 8 (World.laidAll_os _ _ _)
      (World.shaped_of_ZipB (by kernel_rfl) (by kernel_rfl)) (by kernel_rfl) (by kernel_rfl) (by kernel_rfl)
      (by rw [MakeChecks.laidMetH_plain _ _ _ (by kernel_rfl)]; exact laidMet_laidAll _ (by kernel_rfl) (by kernel_rfl))) ?_
  intro w tape i _ hsh _ hok hpre _
  obtain ⟨_, _, _, fn', hfn', _, _, _, _, hval⟩ := hok
  obtain rfl : fn' = Tryz.f4 := Option.some.inj (hfn'.symm.trans Tryz.func4)
  obtain ⟨⟨⟨ds, gs, before, hw, _⟩, hlaid⟩, hz⟩ := hpre
  refine (key (w.forCall tape i) w.heap.size i.args ds gs before hval (DataW.Whole.of_heap (w' := w.forCall tape i) (by rfl) hw) (hz.weights hw) (hlaid.of_heap (by rfl)) hsh).mono fun e W' ⟨v, he, hp⟩ => ?_
  subst he
  exact ChangeSpec.post_blind hp

theorem over : Rows.markupTagsRow.holds Tryz.pinned (OpenSpec.ofChange Rows.markupTagsSpec) :=
  OpenClaim.holds_of_wide 4 Tryz.f4 rfl rfl rfl rfl rfl rfl rfl ⟨rfl, rfl, rfl, rfl, rfl⟩ rfl rfl rfl rfl rfl (by kernel_rfl) Tryz.func4 (by kernel_rfl)
    (of_decide_eq_true (by kernel_rfl)) (by unfold Func.isWrapper; first | (rw [if_pos (by decide +kernel)]; kernel_rfl) | (rw [if_neg (by decide +kernel)]; exact ⟨rfl, rfl⟩))
    (fun os started H enc _ => lifted os started H enc)

/-- The statement: the card, over the row. -/
theorem proved : Rows.MarkupTagsCardSaid :=
  Claim7.holds_tied_plain_at .later [] [.data, .data, .pinned] true _ false over (fun _ h => by cases h) (by kernel_rfl) (fun _ h => by cases h) markupTags_row_tie rfl ⟨rfl, rfl⟩ (by kernel_rfl) rfl
    (fun f fn hf hfn => by
      obtain rfl : f = 4 := Option.some.inj ((show Tryz.prog.funcNamed Rows.markupTagsRow.func = some 4 by kernel_rfl).symm.trans hf) |>.symm
      obtain rfl : fn = Tryz.f4 := (Option.some.inj (Tryz.func4.symm.trans hfn)).symm
      exact ⟨by kernel_rfl, fun j t ht => by
        rw [Tryz.params4] at ht
        have hm : t ∈ [35, 4] := by simpa using Array.mem_of_getElem? ht
        have hall : ([35, 4].all fun u => !Tryz.prog.wantsStandIn u) = true := by kernel_rfl
        exact (show Tryz.prog.wantsStandIn t = false by simpa using List.all_eq_true.1 hall t hm)⟩)
    (by kernel_rfl)
end Go.Proofs.YtckmlbcpldpkpaaGreatDoor.markupTags
