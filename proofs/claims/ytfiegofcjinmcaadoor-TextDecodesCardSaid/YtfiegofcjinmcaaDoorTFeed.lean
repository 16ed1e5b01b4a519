/- Texts in pieces: where a text may be cut without turning its repaired form. No program is imported. -/
import Derived.Test.YtfiegofcjinmcaaDoorTxt
namespace Go.Proofs.YtfiegofcjinmcaaDoor.Txt

/-- A proper beginning of a valid sequence. -/
def beg : List UInt8 → Bool
  | [a] => decide (194 ≤ a.toNat) && decide (a.toNat ≤ 244)
  | [a, b] => decide (224 ≤ a.toNat) && decide (a.toNat ≤ 244) && snd a b
  | [a, b, c] => decide (240 ≤ a.toNat) && decide (a.toNat ≤ 244) && snd a b && cont c
  | _ => false

theorem beg_prefix {p y : List UInt8} {n : Nat} (h : Begins (p ++ y) n) (hp : p ≠ []) (hl : p.length < n) : beg p = true := by
  match p, hp with
  | [a], _ =>
    cases h with
    | one a r h => simp at hl
    | two a b r h1 h2 h3 => simp [beg]; omega
    | three a b c r h1 h2 h3 h4 => simp [beg]; omega
    | four a b c d r h1 h2 h3 h4 h5 => simp [beg]; omega
  | [a, b], _ =>
    cases h with
    | one a r h => simp at hl
    | two a b r h1 h2 h3 => simp at hl
    | three a b c r h1 h2 h3 h4 => simp [beg, h3]; omega
    | four a b c d r h1 h2 h3 h4 h5 => simp [beg, h3]; omega
  | [a, b, c], _ =>
    cases h with
    | one a r h => simp at hl
    | two a b r h1 h2 h3 => simp at hl
    | three a b c r h1 h2 h3 h4 => simp at hl
    | four a b c d r h1 h2 h3 h4 h5 => simp [beg, h3, h4]; omega
  | a :: b :: c :: d :: r, _ =>
    have := h.four_at_most
    simp only [List.length_cons] at hl
    omega
theorem cont_inside {p y : List UInt8} {b : UInt8} {n : Nat} (h : Begins (p ++ b :: y) n) (hp : p ≠ []) (hl : p.length < n) : cont b = true := by
  match p, hp with
  | [a], _ =>
    cases h with
    | one a r h => simp at hl
    | two a b r h1 h2 h3 => exact h3
    | three a b c r h1 h2 h3 h4 => exact snd_cont h3
    | four a b c d r h1 h2 h3 h4 h5 => exact snd_cont h3
  | [a, b], _ =>
    cases h with
    | one a r h => simp at hl
    | two a b r h1 h2 h3 => simp at hl
    | three a b c r h1 h2 h3 h4 => exact h4
    | four a b c d r h1 h2 h3 h4 h5 => exact h4
  | [a, b, c], _ =>
    cases h with
    | one a r h => simp at hl
    | two a b r h1 h2 h3 => simp at hl
    | three a b c r h1 h2 h3 h4 => simp at hl
    | four a b c d r h1 h2 h3 h4 h5 => exact h5
  | a :: b :: c :: d :: r, _ =>
    have := h.four_at_most
    simp only [List.length_cons] at hl
    omega
theorem beg_first {b : UInt8} {r : List UInt8} (h : beg (b :: r) = true) : 194 ≤ b.toNat := by
  unfold beg at h
  split at h
  · rename_i e; injection e with e1 e2; subst e1; simp at h; omega
  · rename_i e; injection e with e1 e2; subst e1; simp at h; omega
  · rename_i e; injection e with e1 e2; subst e1; simp at h; omega
  · cases h
theorem beg_len {l : List UInt8} (h : beg l = true) : 1 ≤ l.length ∧ l.length ≤ 3 := by
  unfold beg at h
  split at h <;> simp at h ⊢
theorem size_append {l : List UInt8} (h : size l ≠ 0) (y : List UInt8) : size (l ++ y) = size l := by
  have := size_other h (l.drop (size l) ++ y)
  rwa [← List.append_assoc, List.take_append_drop] at this
theorem begins_left {l y : List UInt8} {n : Nat} (h : Begins (l ++ y) n) (hn : n ≤ l.length) : Begins l n := by
  have := h.other (l.drop n)
  rwa [List.take_append_of_le_length hn, List.take_append_drop] at this

/-- Nothing that begins before l2 goes on into it, or behind it. -/
def Cut (l1 l2 : List UInt8) : Prop := (l2 = [] ∨ beg l2 = true) ∧ ∀ d q, l1 = d ++ q → q ≠ [] → beg (q ++ l2) = false
theorem Cut.drop {l1 l2 : List UInt8} (h : Cut l1 l2) (n : Nat) : Cut (l1.drop n) l2 := by
  refine ⟨h.1, fun d q e hq => h.2 (l1.take n ++ d) q ?_ hq⟩
  rw [List.append_assoc, ← e, List.take_append_drop]

theorem rep_cut {l1 l2 : List UInt8} (h : Cut l1 l2) (x : List UInt8) : rep (l1 ++ (l2 ++ x)) = rep l1 ++ rep (l2 ++ x) := by
  induction hn : l1.length using Nat.strongRecOn generalizing l1 with
  | _ n ih =>
    cases l1 with
    | nil => rw [rep_nil]; rfl
    | cons a t =>
      subst hn
      by_cases h0 : size ((a :: t) ++ (l2 ++ x)) = 0
      · have h1 : size (a :: t) = 0 := Classical.byContradiction fun hne => by rw [size_append hne] at h0; exact hne h0
        have e : rep (a :: (t ++ (l2 ++ x))) = bad ++ rep (t ++ (l2 ++ x)) := rep_bad h0
        have e2 : rep (t ++ (l2 ++ x)) = rep t ++ rep (l2 ++ x) := ih t.length (by simp) (h.drop 1) rfl
        rw [List.cons_append, e, e2, rep_bad h1, List.append_assoc]
      · have hb := begins_of h0
        obtain ⟨m, hm⟩ : ∃ m, size ((a :: t) ++ (l2 ++ x)) = m := ⟨_, rfl⟩
        rw [hm] at hb h0
        by_cases hle : m ≤ (a :: t).length
        · have hs := size_begins (begins_left hb hle)
          rw [rep_good (l := (a :: t) ++ (l2 ++ x)) (by rw [hm]; exact h0), hm, List.take_append_of_le_length hle, List.drop_append_of_le_length hle, ih _ ?_ (h.drop m) rfl, rep_good (l := a :: t) (by rw [hs]; exact h0), hs, List.append_assoc]
          simp only [List.length_drop, List.length_cons]; omega
        · exfalso
          rcases h.1 with hl2 | hl2
          · have h1 := beg_prefix (p := a :: t) hb (by simp) (by omega)
            have h2 := h.2 [] (a :: t) rfl (by simp)
            rw [hl2, List.append_nil, h1] at h2
            cases h2
          · cases l2 with
            | nil => cases hl2
            | cons b r =>
              have h1 := cont_inside (p := a :: t) (b := b) (y := r ++ x) hb (by simp) (by omega)
              have h2 := beg_first hl2
              simp [cont] at h1
              omega
/-- What is withheld, in pieces. -/
theorem rep_cut_nil {l1 l2 : List UInt8} (h : Cut l1 l2) : rep (l1 ++ l2) = rep l1 ++ rep l2 := by
  have := rep_cut h []
  rwa [List.append_nil] at this

end Go.Proofs.YtfiegofcjinmcaaDoor.Txt
