/- The records of an arena in ascending order of their slots, as a list. No program is imported. -/
import Derived.Test.YthocodmniofioaaAMod
namespace Go.Proofs.Ythocodmniofioaa.Ar
open Go Go.RowKit

/-- A record: its slot and its number. -/
structure Rc where
  i : Nat
  v : Int
  hi : i < 1000
  hv : -9223372036854775808 ≤ v ∧ v ≤ 9223372036854775807
/-- What a slot holds, as a record. -/
def mkRc (i : Nat) : Option Int → Option Rc
  | some v => if h : i < 1000 ∧ (-9223372036854775808 ≤ v ∧ v ≤ 9223372036854775807) then some ⟨i, v, h.1, h.2⟩ else none
  | none => none
theorem mkRc_some {i : Nat} {v : Int} (h1 : i < 1000) (h2 : -9223372036854775808 ≤ v ∧ v ≤ 9223372036854775807) : mkRc i (some v) = some ⟨i, v, h1, h2⟩ := by
  unfold mkRc; simp only; rw [dif_pos ⟨h1, h2⟩]
theorem mkRc_is {i : Nat} {o : Option Int} {x : Rc} (h : mkRc i o = some x) : x.i = i ∧ o = some x.v := by
  unfold mkRc at h
  split at h
  · split at h
    · obtain rfl := Option.some.inj h; exact ⟨rfl, rfl⟩
    · cases h
  · cases h
/-- The records of the first k slots. -/
def rcs (cs : List (Option Int)) (k : Nat) : List Rc := (List.range k).filterMap fun i => mkRc i (cs[i]?).join
theorem rcs_zero (cs : List (Option Int)) : rcs cs 0 = [] := rfl
theorem rcs_succ (cs : List (Option Int)) (k : Nat) : rcs cs (k + 1) = rcs cs k ++ (mkRc k (cs[k]?).join).toList := by
  unfold rcs
  rw [List.range_succ, List.filterMap_append]
  congr 1
theorem rcs_some {cs : List (Option Int)} {k : Nat} {v : Int} (h : cs[k]? = some (some v)) (h1 : k < 1000) (h2 : -9223372036854775808 ≤ v ∧ v ≤ 9223372036854775807) : rcs cs (k + 1) = rcs cs k ++ [⟨k, v, h1, h2⟩] := by
  rw [rcs_succ, h]
  show rcs cs k ++ (mkRc k (some v)).toList = _
  rw [mkRc_some h1 h2]; rfl
theorem rcs_none {cs : List (Option Int)} {k : Nat} (h : cs[k]? = some none) : rcs cs (k + 1) = rcs cs k := by
  rw [rcs_succ, h]
  show rcs cs k ++ (mkRc k none).toList = _
  exact List.append_nil _
theorem rcs_mem {cs : List (Option Int)} {k : Nat} {x : Rc} (h : x ∈ rcs cs k) : x.i < k ∧ cs[x.i]? = some (some x.v) := by
  unfold rcs at h
  obtain ⟨i, hi, hx⟩ := List.mem_filterMap.1 h
  obtain ⟨h1, h2⟩ := mkRc_is hx
  rw [← h1] at h2 hi
  refine ⟨by simpa using hi, ?_⟩
  cases hc : cs[x.i]? with
  | none => rw [hc] at h2; cases h2
  | some o =>
    rw [hc] at h2
    have h2' : o = some x.v := h2
    rw [h2']
theorem rcs_sorted (cs : List (Option Int)) (k : Nat) : (rcs cs k).Pairwise fun x y => x.i < y.i := by
  induction k with
  | zero => exact List.Pairwise.nil
  | succ k ih =>
    rw [rcs_succ, List.pairwise_append]
    refine ⟨ih, ?_, ?_⟩
    · cases mkRc k (cs[k]?).join with
      | none => exact List.Pairwise.nil
      | some x => exact List.pairwise_singleton _ _
    · intro x hx y hy
      have h1 := (rcs_mem hx).1
      cases hm : mkRc k (cs[k]?).join with
      | none => rw [hm] at hy; cases hy
      | some z =>
        rw [hm] at hy
        have : y = z := by simpa using hy
        subst this
        have := (mkRc_is hm).1
        omega
theorem rcs_prefix (cs : List (Option Int)) (k n : Nat) (h : k ≤ n) : rcs cs k <+: rcs cs n := by
  induction n with
  | zero => obtain rfl : k = 0 := by omega
            exact List.prefix_refl _
  | succ n ih =>
    by_cases e : k = n + 1
    · subst e; exact List.prefix_refl _
    · exact (ih (by omega)).trans (by rw [rcs_succ]; exact List.prefix_append _ _)
/-- What comes next. -/
theorem rcs_next {cs : List (Option Int)} {n : Nat} {pre : List Rc} {x : Rc} (h : pre ++ [x] <+: rcs cs n) : cs[x.i]? = some (some x.v) ∧ ∀ y ∈ pre, y.i < x.i := by
  have hm : x ∈ rcs cs n := h.subset (by simp)
  refine ⟨(rcs_mem hm).2, ?_⟩
  have hs := (rcs_sorted cs n).sublist h.sublist
  rw [List.pairwise_append] at hs
  exact fun y hy => hs.2.2 y hy x (by simp)
/-- The slot of the last record. -/
def lastI (pre : List Rc) : Int := match pre.getLast? with | some y => (y.i : Int) | none => -1
theorem lastI_nil : lastI [] = -1 := rfl
theorem lastI_snoc (pre : List Rc) (x : Rc) : lastI (pre ++ [x]) = (x.i : Int) := by unfold lastI; rw [List.getLast?_append]; rfl
theorem lastI_range (pre : List Rc) : -1 ≤ lastI pre ∧ lastI pre < 1000 := by
  unfold lastI
  split
  · rename_i y h
    have := y.hi
    omega
  · omega
theorem not_next_last {cs : List (Option Int)} {n : Nat} {pre : List Rc} {x : Rc} (h : (x.i : Int) ≤ lastI pre) : ¬ pre ++ [x] <+: rcs cs n := by
  intro hp
  unfold lastI at h
  split at h
  · rename_i y hy
    have hy' : y ∈ pre := List.mem_of_getLast? hy
    have := (rcs_next hp).2 y hy'
    omega
  · omega
theorem not_next_val {cs : List (Option Int)} {n : Nat} {pre : List Rc} {x : Rc} (h : (cs[x.i]?).join ≠ some x.v) : ¬ pre ++ [x] <+: rcs cs n := by
  intro hp
  rw [(rcs_next hp).1] at h
  exact h rfl
theorem live_take (cs : List (Option Int)) (hc : ∀ v, some v ∈ cs → -9223372036854775808 ≤ v ∧ v ≤ 9223372036854775807) (hl : cs.length ≤ 1000) : ∀ k, k ≤ cs.length → (rcs cs k).length = live (cs.take k) := by
  intro k
  induction k with
  | zero => intro _; rfl
  | succ k ih =>
    intro h
    have hk : k < cs.length := h
    have hg : cs[k]? = some cs[k] := List.getElem?_eq_getElem hk
    have ht : live (cs.take (k + 1)) = live (cs.take k) + (if cs[k].isSome then 1 else 0) := by
      unfold live
      rw [List.take_succ_eq_append_getElem hk, List.filter_append, List.length_append]
      congr 1
      cases cs[k] <;> rfl
    rw [ht, ← ih (by omega)]
    cases hv : cs[k] with
    | none => rw [rcs_none (by rw [hg, hv])]; rfl
    | some v => rw [rcs_some (by rw [hg, hv]) (by omega) (hc v (by rw [← hv]; exact List.getElem_mem hk)), List.length_append]; rfl
theorem rcs_live {cs : List (Option Int)} (hc : ∀ v, some v ∈ cs → -9223372036854775808 ≤ v ∧ v ≤ 9223372036854775807) (hl : cs.length ≤ 1000) : (rcs cs cs.length).length = live cs := by
  rw [live_take cs hc hl cs.length (Nat.le_refl _), List.take_length]
theorem get_hdl (b s : Int) (cs : List (Option Int)) (i : Nat) (h : i < 1000) : get b s cs (hdl b s i) = (cs[i]?).join := by
  have hi : idx b s (hdl b s i) = i := hdl_slot b s i (by omega) (by omega)
  unfold get has
  rw [hi, if_pos (by omega), Int.toNat_natCast]
  cases hc : cs[i]? with
  | none => simp
  | some o => cases o <;> simp [hc]

end Go.Proofs.Ythocodmniofioaa.Ar
