/- What an arena's operations keep: the free slots are slots without a record, and how long the lists are. No program is imported. -/
import Derived.Test.YthocodmniofioaaAVac
import Derived.Test.YthocodmniofioaaAFil
namespace Go.Proofs.Ythocodmniofioaa.Ar
open Go Go.RowKit

theorem Ok.nil : Ok [] [] := ⟨List.nodup_nil, fun _ h => by simp at h⟩
theorem add_ok {cs : List (Option Int)} {fr : List Nat} (h : Ok cs fr) (v : Int) : Ok (add cs fr v).1 (add cs fr v).2.1 := by
  unfold add
  cases e : fr.getLast? with
  | none =>
    have : fr = [] := List.getLast?_eq_none_iff.1 e
    subst this
    exact ⟨List.nodup_nil, fun _ h => by simp at h⟩
  | some i =>
    obtain ⟨L, rfl⟩ : ∃ L, fr = L ++ [i] := by
      have hz : fr ≠ [] := fun h => by simp [h] at e
      refine ⟨fr.dropLast, ?_⟩
      have := List.dropLast_concat_getLast hz
      rw [List.getLast?_eq_some_getLast hz] at e
      injection e with e
      rw [e] at this
      exact this.symm
    have hd := h.1
    rw [List.nodup_append] at hd
    refine ⟨by simpa using hd.1, fun j hj => ?_⟩
    have hj' : j ∈ L := by simpa using hj
    have h1 := h.2 j (by simp [hj'])
    show (cs.set i (some v))[j]? = some none
    rw [List.getElem?_set, if_neg (fun e' => hd.2.2 j hj' i (by simp) e'.symm)]
    exact h1
theorem add_len (cs : List (Option Int)) (fr : List Nat) (v : Int) : (add cs fr v).1.length ≤ cs.length + 1 := by
  unfold add
  cases fr.getLast? with
  | none => simp
  | some i => simp
theorem set_ok {b s h : Int} {cs : List (Option Int)} {fr : List Nat} (hk : Ok cs fr) (v : Int) : Ok (set b s cs h v) fr := by
  unfold set
  cases e : has b s cs h with
  | none => exact hk
  | some i =>
    obtain ⟨_, _, u, h3⟩ := has_some e
    refine ⟨hk.1, fun j hj => ?_⟩
    have h4 := hk.2 j hj
    show (cs.set i (some v))[j]? = some none
    rw [List.getElem?_set, if_neg (fun e' => by subst e'; rw [h3] at h4; cases h4)]
    exact h4
theorem set_len (b s h v : Int) (cs : List (Option Int)) : (set b s cs h v).length = cs.length := by
  unfold set
  split <;> simp
theorem drop_dropAt {b s h : Int} {cs : List (Option Int)} {fr : List Nat} {i : Nat} (e : has b s cs h = some i) : drop b s cs fr h = dropAt (cs, fr) i := by
  obtain ⟨_, _, u, h3⟩ := has_some e
  unfold drop dropAt
  rw [e]
  simp only [h3]
theorem drop_ok {b s h : Int} {cs : List (Option Int)} {fr : List Nat} (hk : Ok cs fr) : Ok (drop b s cs fr h).1 (drop b s cs fr h).2 := by
  cases e : has b s cs h with
  | none => unfold drop; rw [e]; exact hk
  | some i => rw [drop_dropAt e]; exact dropAt_ok (p := (cs, fr)) hk i
theorem drop_len (b s h : Int) (cs : List (Option Int)) (fr : List Nat) : (drop b s cs fr h).1.length = cs.length := by
  unfold drop
  split <;> simp
theorem get_some {b s h v : Int} {cs : List (Option Int)} (e : get b s cs h = some v) : ∃ i, has b s cs h = some i ∧ cs[i]? = some (some v) := by
  unfold get at e
  cases hh : has b s cs h with
  | none => rw [hh] at e; cases e
  | some i =>
    rw [hh] at e
    obtain ⟨_, _, u, h3⟩ := has_some hh
    simp only [h3] at e
    cases e
    exact ⟨i, rfl, h3⟩
theorem get_of_has {b s h : Int} {cs : List (Option Int)} {i : Nat} (e : has b s cs h = some i) : ∃ v, get b s cs h = some v ∧ cs[i]? = some (some v) := by
  obtain ⟨_, _, u, h3⟩ := has_some e
  exact ⟨u, by unfold get; rw [e]; simp [h3], h3⟩
theorem get_of_none {b s h : Int} {cs : List (Option Int)} (e : has b s cs h = none) : get b s cs h = none := by unfold get; rw [e]
end Go.Proofs.Ythocodmniofioaa.Ar
