/- What each token of a document is like. No program is imported. -/
import Derived.Test.YtckmlbcpldpkpaaGreatDoorKA
namespace Go.Proofs.YtckmlbcpldpkpaaGreatDoor.Mk
open Go
set_option linter.unusedVariables false

theorem lo_lo (c : UInt8) : Txt.lo (Txt.lo c) = Txt.lo c := by
  apply UInt8.toNat_inj.1
  have h1 := Txt.lo_num (Txt.lo c)
  have h2 := Txt.lo_num c
  split at h2
  · split at h1
    · omega
    · omega
  · split at h1
    · omega
    · omega
theorem lo_all (l : List UInt8) : (l.map Txt.lo).map Txt.lo = l.map Txt.lo := by
  rw [List.map_map]
  exact List.map_congr_left fun c _ => lo_lo c
/-- A row of attributes: names in lower case, not empty, different; at most 64. -/
structure GoodA (N : Nat) (l : List (List UInt8 × List UInt8)) : Prop where
  len : l.length ≤ 64
  ne : ∀ p ∈ l, p.1 ≠ []
  low : ∀ p ∈ l, p.1.map Txt.lo = p.1
  diff : l.Pairwise fun p q => p.1 ≠ q.1
  short : ∀ p ∈ l, p.1.length ≤ N
theorem GoodA.nil (N : Nat) : GoodA N [] := ⟨by decide, fun p hp => (by cases hp), fun p hp => (by cases hp), List.Pairwise.nil, fun p hp => (by cases hp)⟩
theorem GoodA.add {N : Nat} {l : List (List UInt8 × List UInt8)} (h : GoodA N l) {n : List UInt8} (v : List UInt8) (h1 : n ≠ []) (h2 : n.map Txt.lo = n) (h3 : n.length ≤ N) : GoodA N (addA l n v) := by
  refine ⟨addA_len l n v h.len, ?_, ?_, ?_, ?_⟩
  · unfold addA
    split
    · exact h.ne
    · split
      · intro p hp
        rcases List.mem_append.1 hp with hp | hp
        · exact h.ne p hp
        · rw [List.mem_singleton.1 hp]; exact h1
      · exact h.ne
  · unfold addA
    split
    · exact h.low
    · split
      · intro p hp
        rcases List.mem_append.1 hp with hp | hp
        · exact h.low p hp
        · rw [List.mem_singleton.1 hp]; exact h2
      · exact h.low
  · unfold addA
    split
    · exact h.diff
    · rename_i hn
      split
      · rw [List.pairwise_append]
        refine ⟨h.diff, List.pairwise_singleton _ _, fun p hp q hq => ?_⟩
        rw [List.mem_singleton.1 hq]
        intro e
        apply hn
        rw [List.any_eq_true]
        exact ⟨p, hp, by simpa using e⟩
      · exact h.diff
  · unfold addA
    split
    · exact h.short
    · split
      · intro p hp
        rcases List.mem_append.1 hp with hp | hp
        · exact h.short p hp
        · rw [List.mem_singleton.1 hp]; exact h3
      · exact h.short
theorem attr_good {l n v r : List UInt8} (h : attr l = some (n, v, r)) : n ≠ [] ∧ n.map Txt.lo = n ∧ n.length ≤ l.length := by
  unfold attr at h
  split at h
  · cases h
  · rename_i c t
    simp only at h
    have key : n = (c :: t.takeWhile inName).map Txt.lo := by
      split at h
      · exact (Prod.mk.inj (Option.some.inj h)).1.symm
      · split at h
        · obtain ⟨p, hp, e⟩ := Option.map_eq_some_iff.1 h
          exact (Prod.mk.inj e).1.symm
        · exact (Prod.mk.inj (Option.some.inj h)).1.symm
    rw [key]
    have ht := (List.takeWhile_sublist (l := t) inName).length_le
    exact ⟨by simp, lo_all _, by rw [List.length_map, List.length_cons, List.length_cons]; omega⟩
theorem attrs_good (N : Nat) : ∀ (n : Nat) (acc : List (List UInt8 × List UInt8)) (l : List UInt8) (p : List (List UInt8 × List UInt8) × Bool × List UInt8), l.length ≤ n → l.length ≤ N → GoodA N acc → attrs acc l = some p → GoodA N p.1 := by
  intro n
  induction n with
  | zero =>
    intro acc l p hl hN hg h
    have hn : l = [] := List.length_eq_zero_iff.1 (by omega)
    subst hn
    rw [attrs_def] at h
    cases h
  | succ n ih =>
    intro acc l p hl hN hg h
    have h1 := skip_le false l
    rw [attrs_def] at h
    cases hs : (skip false l).2 with
    | nil => rw [hs] at h; cases h
    | cons c r =>
      rw [hs, List.length_cons] at h1
      rw [hs] at h
      simp only at h
      split at h
      · obtain rfl := Option.some.inj h
        exact hg
      · cases ha : attr (c :: r) with
        | none => rw [ha] at h; cases h
        | some q =>
          obtain ⟨nm, v, t⟩ := q
          rw [ha] at h
          simp only at h
          have h2 := attr_le ha
          rw [List.length_cons] at h2
          obtain ⟨g1, g2, g3⟩ := attr_good ha
          rw [List.length_cons] at g3
          exact ih _ t p (by omega) (by omega) (hg.add v g1 g2 (by omega)) h
/-- A token with the fields of its kind. -/
structure GoodT (N : Nat) (t : Tok) : Prop where
  kind : 1 ≤ t.kind ∧ t.kind ≤ 5
  name : t.kind = 1 ∨ t.kind = 2 ↔ t.name ≠ []
  text : t.kind = 1 ∨ t.kind = 2 → t.text = []
  bare : t.kind ≠ 1 → t.attrs = [] ∧ t.closed = false
  full : t.kind = 3 → t.text ≠ []
  low : t.name.map Txt.lo = t.name
  attrs : GoodA N t.attrs
  short : t.name.length ≤ N
theorem isL_go {c : UInt8} (h : Ent.isL c = true) : stopC c = false := by
  unfold Ent.isL at h
  simp only [Bool.or_eq_true, Bool.and_eq_true, decide_eq_true_eq] at h
  unfold stopC Txt.sp
  simp only [Bool.or_eq_false_iff, beq_eq_false_iff_ne]
  omega
theorem name_ne {l : List UInt8} (h : letter l = true) : name l ≠ [] := by
  cases l with
  | nil => cases h
  | cons c r =>
    have hc : stopC c = false := isL_go h
    unfold name
    rw [List.takeWhile_cons_of_pos (by rw [hc]; rfl)]
    simp
theorem good_text (N : Nat) {l : List UInt8} (h : l ≠ []) : GoodT N (txt l) :=
  ⟨⟨Nat.le_of_ble_eq_true rfl, Nat.le_of_ble_eq_true rfl⟩, ⟨fun h => (by rcases h with h | h <;> cases h), fun h => absurd rfl h⟩, fun h => (by rcases h with h | h <;> cases h), fun _ => ⟨rfl, rfl⟩, fun _ => h, rfl, GoodA.nil _, Nat.zero_le _⟩
theorem good_comment (N : Nat) (l : List UInt8) : GoodT N ⟨4, [], [], false, l⟩ :=
  ⟨⟨Nat.le_of_ble_eq_true rfl, Nat.le_of_ble_eq_true rfl⟩, ⟨fun h => (by rcases h with h | h <;> cases h), fun h => absurd rfl h⟩, fun h => (by rcases h with h | h <;> cases h), fun _ => ⟨rfl, rfl⟩, fun h => (by cases h), rfl, GoodA.nil _, Nat.zero_le _⟩
theorem good_doctype (N : Nat) (l : List UInt8) : GoodT N ⟨5, [], [], false, l⟩ :=
  ⟨⟨Nat.le_of_ble_eq_true rfl, Nat.le_of_ble_eq_true rfl⟩, ⟨fun h => (by rcases h with h | h <;> cases h), fun h => absurd rfl h⟩, fun h => (by rcases h with h | h <;> cases h), fun _ => ⟨rfl, rfl⟩, fun h => (by cases h), rfl, GoodA.nil _, Nat.zero_le _⟩
theorem good_bogus (N : Nat) (b : Bool) (l : List UInt8) : GoodT N (bogus b l) := by
  unfold bogus
  split
  · exact good_doctype _ _
  · exact good_comment _ _
theorem name_le (l : List UInt8) : (name l).length ≤ l.length := by
  unfold name
  rw [List.length_map]
  exact (List.takeWhile_sublist _).length_le
theorem good_end {N : Nat} {l : List UInt8} (h : letter l = true) (hN : l.length ≤ N) : GoodT N ⟨2, name l, [], false, []⟩ :=
  ⟨⟨Nat.le_of_ble_eq_true rfl, Nat.le_of_ble_eq_true rfl⟩, ⟨fun _ => name_ne h, fun _ => .inr rfl⟩, fun _ => rfl, fun _ => ⟨rfl, rfl⟩, fun h => (by cases h), lo_all _, GoodA.nil _, Nat.le_trans (name_le l) hN⟩
theorem good_start {N : Nat} {l : List UInt8} {p : Tok × List UInt8} (h : letter l = true) (hN : l.length ≤ N) (hs : start l = some p) : GoodT N p.1 := by
  unfold start at hs
  obtain ⟨q, hq, rfl⟩ := Option.map_eq_some_iff.1 hs
  exact ⟨⟨Nat.le_of_ble_eq_true rfl, Nat.le_of_ble_eq_true rfl⟩, ⟨fun _ => name_ne h, fun _ => .inl rfl⟩, fun _ => rfl, fun h => absurd rfl h, fun h => (by cases h), lo_all _, attrs_good N _ _ _ _ (Nat.le_refl _) (Nat.le_trans (dropWhile_le _ _) hN) (GoodA.nil _) hq, Nat.le_trans (name_le l) hN⟩
theorem good_after (N : Nat) (t : Tok) (r : List UInt8) : ∀ x ∈ (after t r).1, GoodT N x := by
  unfold after
  split
  · intro x hx
    simp only at hx
    split at hx
    all_goals
      split at hx
      · cases hx
      · rename_i hne
        rw [List.mem_singleton.1 hx]
        exact good_text N hne
  · intro x hx; cases hx
theorem step_good {N : Nat} {l : List UInt8} {p : List Tok × List UInt8} (h0 : l ≠ []) (hN : l.length ≤ N) (h : step l = some p) : ∀ t ∈ p.1, GoodT N t := by
  unfold step at h
  split at h
  · obtain rfl := Option.some.inj h
    intro t ht
    rw [List.mem_singleton.1 ht]; exact good_comment _ _
  · split at h
    · rename_i hl
      obtain ⟨k, _, rfl⟩ := Option.map_eq_some_iff.1 h
      intro t ht
      rw [List.mem_singleton.1 ht]
      rw [Bool.and_eq_true] at hl
      exact good_end hl.2 (by rw [List.length_drop]; omega)
    · split at h
      · obtain rfl := Option.some.inj h
        intro t ht; cases ht
      · split at h
        · obtain rfl := Option.some.inj h
          intro t ht
          rw [List.mem_singleton.1 ht]; exact good_bogus _ _ _
        · split at h
          · rename_i hl
            rw [Bool.and_eq_true] at hl
            obtain ⟨q, hq, rfl⟩ := Option.map_eq_some_iff.1 h
            intro t ht
            rcases List.mem_cons.1 ht with rfl | ht
            · exact good_start hl.2 (by rw [List.length_drop]; omega) hq
            · exact good_after _ _ _ t ht
          · obtain rfl := Option.some.inj h
            intro t ht
            rw [List.mem_singleton.1 ht]
            refine good_text N ?_
            cases l with
            | nil => exact absurd rfl h0
            | cons c r =>
              rw [List.take_succ_cons]
              exact decode_ne (List.cons_ne_nil _ _)
theorem tokens_good (N : Nat) : ∀ (n : Nat) (l : List UInt8), l.length ≤ n → l.length ≤ N → ∀ t ∈ tokens l, GoodT N t := by
  intro n
  induction n with
  | zero =>
    intro l hl hN t ht
    have hn : l = [] := List.length_eq_zero_iff.1 (by omega)
    subst hn
    rw [tokens_nil] at ht; cases ht
  | succ n ih =>
    intro l hl hN t ht
    by_cases h0 : l = []
    · subst h0; rw [tokens_nil] at ht; cases ht
    cases hs : step l with
    | none => rw [tokens_none hs] at ht; cases ht
    | some p =>
      rw [tokens_some h0 hs] at ht
      rcases List.mem_append.1 ht with ht | ht
      · exact step_good h0 hN hs t ht
      · have := step_lt h0 hs
        exact ih p.2 (by omega) (by omega) t ht

theorem toks_len (c : Bool) : ∀ (n : Nat) (raw s : List UInt8), s.length ≤ n → (toks c raw s).1.length ≤ s.length := by
  intro n
  induction n with
  | zero =>
    intro raw s hl
    rw [toks_stop (.inl (List.length_eq_zero_iff.1 (by omega)))]; exact Nat.zero_le _
  | succ n ih =>
    intro raw s hl
    have h1 := nxt_toks c s.length raw s (Nat.le_refl _)
    generalize nxt c raw s = x at h1
    obtain ⟨o, r', s'⟩ := x
    cases o with
    | none =>
      simp only at h1
      rw [h1.1]; exact Nat.zero_le _
    | some t =>
      simp only at h1
      have h2 := ih r' s' (by omega)
      rw [h1.1, List.length_cons]; omega
theorem tokens_len (s : List UInt8) : (tokens s).length ≤ s.length := by
  rw [← (toks_tokens _ s (Nat.le_refl _)).1]
  exact toks_len _ _ _ _ (Nat.le_refl _)

end Go.Proofs.YtckmlbcpldpkpaaGreatDoor.Mk
