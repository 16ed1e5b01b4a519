/- An arena of numbers as lists: the records by slots, and the free slots. No program is imported. -/
import Derived.Test.YthocodmniofioaaAPln
namespace Go.Proofs.Ythocodmniofioaa.Ar
open Go Go.RowKit

/-- The slot of a handle, if a record is there. -/
def has (b s : Int) (cs : List (Option Int)) (h : Int) : Option Nat :=
  if 0 ≤ idx b s h then (match cs[(idx b s h).toNat]? with | some (some _) => some (idx b s h).toNat | _ => none) else none
theorem has_some {b s : Int} {cs : List (Option Int)} {h : Int} {i : Nat} (e : has b s cs h = some i) : idx b s h = i ∧ i < cs.length ∧ ∃ v, cs[i]? = some (some v) := by
  unfold has at e
  split at e
  · rename_i h0
    cases hc : cs[(idx b s h).toNat]? with
    | none => rw [hc] at e; cases e
    | some c =>
      cases c with
      | none => rw [hc] at e; cases e
      | some v =>
        rw [hc] at e
        have e' : (idx b s h).toNat = i := Option.some.inj e
        subst e'
        exact ⟨by omega, (List.getElem?_eq_some_iff.1 hc).1, v, hc⟩
  · cases e
theorem has_none {b s : Int} {cs : List (Option Int)} {h : Int} (e : has b s cs h = none) : idx b s h < 0 ∨ (0 ≤ idx b s h ∧ (cs.length : Int) ≤ idx b s h) ∨ (∃ i : Nat, idx b s h = i ∧ i < cs.length ∧ cs[i]? = some none) := by
  unfold has at e
  split at e
  · rename_i h0
    by_cases hl : (idx b s h).toNat < cs.length
    · right; right
      refine ⟨(idx b s h).toNat, by omega, hl, ?_⟩
      cases hc : cs[(idx b s h).toNat]? with
      | none => rw [List.getElem?_eq_none_iff] at hc; omega
      | some c =>
        cases c with
        | none => rfl
        | some v => rw [hc] at e; cases e
    · right; left; omega
  · left; omega
/-- What a function that looks a handle up returns. -/
def hasI (b s : Int) (cs : List (Option Int)) (h : Int) : Int := match has b s cs h with | some i => (i : Int) | none => -1
/-- How many records there are. -/
def live (cs : List (Option Int)) : Nat := (cs.filter Option.isSome).length
theorem live_le (cs : List (Option Int)) : live cs ≤ cs.length := List.length_filter_le _ _
/-- The operations. -/
def add (cs : List (Option Int)) (fr : List Nat) (v : Int) : List (Option Int) × List Nat × Nat :=
  match fr.getLast? with
  | none => (cs ++ [some v], [], cs.length)
  | some i => (cs.set i (some v), fr.dropLast, i)
def set (b s : Int) (cs : List (Option Int)) (h v : Int) : List (Option Int) := match has b s cs h with | some i => cs.set i (some v) | none => cs
def drop (b s : Int) (cs : List (Option Int)) (fr : List Nat) (h : Int) : List (Option Int) × List Nat := match has b s cs h with | some i => (cs.set i none, fr ++ [i]) | none => (cs, fr)
def get (b s : Int) (cs : List (Option Int)) (h : Int) : Option Int := match has b s cs h with | some i => (cs[i]?).join | none => none
/-- The free slots are slots without a record, each once. -/
def Ok (cs : List (Option Int)) (fr : List Nat) : Prop := fr.Nodup ∧ ∀ i ∈ fr, cs[i]? = some none

/-- The slots as cells. -/
def slot (c : Option Int) : List Value := match c with | some n => [.bool true, .int .i64 n] | none => [.bool false, .int .i64 0]
def slots (cs : List (Option Int)) : List Value := cs.flatMap slot
theorem slots_append (a b : List (Option Int)) : slots (a ++ b) = slots a ++ slots b := by simp [slots]
theorem slot_len (c : Option Int) : (slot c).length = 2 := by cases c <;> rfl
theorem slots_len (cs : List (Option Int)) : (slots cs).length = cs.length * 2 := by
  induction cs with
  | nil => rfl
  | cons c r ih =>
    have : slots (c :: r) = slot c ++ slots r := rfl
    rw [this, List.length_append, slot_len, ih, List.length_cons]; omega
theorem slots_get (cs : List (Option Int)) (i : Nat) (c : Option Int) (h : cs[i]? = some c) : (slots cs)[i * 2]? = some (.bool c.isSome) ∧ (slots cs)[i * 2 + 1]? = some (.int .i64 (c.getD 0)) := by
  induction cs generalizing i with
  | nil => simp at h
  | cons d r ih =>
    have e : slots (d :: r) = slot d ++ slots r := rfl
    cases i with
    | zero =>
      simp at h
      subst h
      rw [e]
      cases d <;> exact ⟨rfl, rfl⟩
    | succ i =>
      rw [List.getElem?_cons_succ] at h
      obtain ⟨h1, h2⟩ := ih i h
      rw [e, List.getElem?_append_right (by rw [slot_len]; omega), List.getElem?_append_right (by rw [slot_len]; omega), slot_len, show (i + 1) * 2 - 2 = i * 2 from by omega, show (i + 1) * 2 + 1 - 2 = i * 2 + 1 from by omega]
      exact ⟨h1, h2⟩
theorem slots_set (cs : List (Option Int)) (i : Nat) (x : Option Int) (h : i < cs.length) : ((slots cs).set (i * 2) (.bool x.isSome)).set (i * 2 + 1) (.int .i64 (x.getD 0)) = slots (cs.set i x) := by
  induction cs generalizing i with
  | nil => simp at h
  | cons d r ih =>
    have e : slots (d :: r) = slot d ++ slots r := rfl
    cases i with
    | zero =>
      have e2 : slots ((d :: r).set 0 x) = slot x ++ slots r := rfl
      rw [e, e2]
      cases d <;> cases x <;> rfl
    | succ i =>
      have e2 : slots ((d :: r).set (i + 1) x) = slot d ++ slots (r.set i x) := rfl
      rw [e, e2, ← ih i (by simpa using h), List.set_append_right _ _ (by rw [slot_len]; omega), List.set_append_right _ _ (by rw [slot_len]; omega), slot_len, show (i + 1) * 2 - 2 = i * 2 from by omega, show (i + 1) * 2 + 1 - 2 = i * 2 + 1 from by omega]
/-- Numbers as cells. -/
def nums (fr : List Nat) : List Value := fr.map fun (i : Nat) => Value.int .i64 (i : Int)
theorem nums_append (a b : List Nat) : nums (a ++ b) = nums a ++ nums b := by simp [nums]

end Go.Proofs.Ythocodmniofioaa.Ar
