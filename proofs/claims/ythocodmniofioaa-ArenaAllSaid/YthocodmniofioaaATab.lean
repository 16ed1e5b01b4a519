/- Lists that are written as tables; what an arena does to them. No program is imported. -/
import Derived.Test.YthocodmniofioaaAMod
namespace Go.Proofs.Ythocodmniofioaa.Ar
open Go Go.RowKit

def tab {α : Type} (m : Nat) (f : Nat → α) : List α := (List.range m).map f
variable {α : Type} {m : Nat} {f g : Nat → α}
theorem tab_len : (tab m f).length = m := by simp [tab]
theorem tab_get {i : Nat} (h : i < m) : (tab m f)[i]? = some (f i) := by simp [tab, h]
theorem tab_succ : tab (m + 1) f = tab m f ++ [f m] := by simp [tab, List.range_succ]
theorem tab_congr (h : ∀ i, i < m → f i = g i) : tab m f = tab m g := List.map_congr_left fun i hi => h i (List.mem_range.1 hi)
theorem tab_set {j : Nat} {x : α} : (tab m f).set j x = tab m (fun i => if i = j then x else f i) := by
  apply List.ext_getElem?
  intro i
  rw [List.getElem?_set]
  by_cases hi : i < m
  · rw [tab_get hi, tab_len]
    by_cases hj : j = i
    · subst hj; rw [if_pos rfl, if_pos hi, tab_get hi, if_pos rfl]
    · rw [if_neg hj, tab_get hi, if_neg (fun e => hj e.symm)]
  · have h1 : (tab m f)[i]? = none := List.getElem?_eq_none (by rw [tab_len]; omega)
    have h2 : (tab m (fun i => if i = j then x else f i))[i]? = none := List.getElem?_eq_none (by rw [tab_len]; omega)
    rw [h1, h2, tab_len]
    by_cases hj : j = i
    · subst hj; simp [hi]
    · simp [hj]
theorem live_tab {f : Nat → Option Int} (h : ∀ i, i < m → (f i).isSome = true) : live (tab m f) = m := by
  have : (tab m f).filter Option.isSome = tab m f := List.filter_eq_self.2 (fun x hx => by
    obtain ⟨i, hi, rfl⟩ := List.mem_map.1 hx
    exact h i (List.mem_range.1 hi))
  unfold live
  rw [this, tab_len]

/-- A slot's handle has its slot. -/
theorem has_hdl {b s : Int} {cs : List (Option Int)} {j : Nat} (hj : j < cs.length) (hl : cs.length ≤ 1000) {v : Int} (h : cs[j]? = some (some v)) : has b s cs (hdl b s j) = some j := by
  have e := hdl_slot b s j (by omega) (by omega)
  unfold has
  rw [e, if_pos (by omega), Int.toNat_natCast, h]
theorem has_hdl_none {b s : Int} {cs : List (Option Int)} {j : Nat} (hj : j < cs.length) (hl : cs.length ≤ 1000) (h : cs[j]? = some none) : has b s cs (hdl b s j) = none := by
  have e := hdl_slot b s j (by omega) (by omega)
  unfold has
  rw [e, if_pos (by omega), Int.toNat_natCast, h]

/-! ArenaFresh: m records are added, the first k dropped, k added again. -/
def first (i : Nat) : Option Int := some (i : Int)
def emp (j i : Nat) : Option Int := if i < j then none else some (i : Int)
def fil (k j i : Nat) : Option Int := if i < k - j then none else if i < k then some (-1) else some (i : Int)
theorem add_first (k : Nat) : add (tab k first) [] (k : Int) = (tab (k + 1) first, [], k) := by
  unfold add
  rw [tab_succ]
  simp [first, tab_len]
theorem emp_zero (m : Nat) : tab m (emp 0) = tab m first := tab_congr fun i _ => by simp [emp, first]
theorem emp_ok {m j : Nat} (h : j ≤ m) : Ok (tab m (emp j)) (List.range j) := by
  refine ⟨List.nodup_range, fun i hi => ?_⟩
  have := List.mem_range.1 hi
  rw [tab_get (by omega), emp, if_pos this]
theorem has_emp {b s : Int} {m j : Nat} (h : j < m) (hm : m ≤ 1000) : has b s (tab m (emp j)) (hdl b s j) = some j :=
  has_hdl (by rw [tab_len]; exact h) (by rw [tab_len]; exact hm) (by rw [tab_get h, emp, if_neg (by omega)])
theorem has_emp' {b s : Int} {m j : Nat} (h : j < m) (hm : m ≤ 1000) : has b s (tab m (emp (j + 1))) (hdl b s j) = none :=
  has_hdl_none (by rw [tab_len]; exact h) (by rw [tab_len]; exact hm) (by rw [tab_get h, emp, if_pos (by omega)])
theorem drop_emp {b s : Int} {m j : Nat} (h : j < m) (hm : m ≤ 1000) : drop b s (tab m (emp j)) (List.range j) (hdl b s j) = (tab m (emp (j + 1)), List.range (j + 1)) := by
  unfold drop
  rw [has_emp h hm, List.range_succ]
  show (_, _) = _
  rw [tab_set]
  congr 1
  refine tab_congr fun i _ => ?_
  unfold emp
  by_cases h1 : i = j
  · rw [if_pos h1, if_pos (by omega)]
  · rw [if_neg h1]
    by_cases h2 : i < j
    · rw [if_pos h2, if_pos (by omega)]
    · rw [if_neg h2, if_neg (by omega)]
theorem drop_emp' {b s : Int} {m j : Nat} (h : j < m) (hm : m ≤ 1000) : drop b s (tab m (emp (j + 1))) (List.range (j + 1)) (hdl b s j) = (tab m (emp (j + 1)), List.range (j + 1)) := by
  unfold drop
  rw [has_emp' h hm]
theorem fil_zero (m k : Nat) : tab m (fil k 0) = tab m (emp k) := tab_congr fun i _ => by
  unfold fil emp
  rw [Nat.sub_zero]
  by_cases h : i < k
  · rw [if_pos h, if_pos h]
  · rw [if_neg h, if_neg h, if_neg h]
theorem fil_ok {m k j : Nat} (h : k ≤ m) : Ok (tab m (fil k j)) (List.range (k - j)) := by
  refine ⟨List.nodup_range, fun i hi => ?_⟩
  have := List.mem_range.1 hi
  rw [tab_get (by omega), fil, if_pos this]
theorem add_fil {m k j : Nat} (hj : j < k) : add (tab m (fil k j)) (List.range (k - j)) (-1) = (tab m (fil k (j + 1)), List.range (k - (j + 1)), k - 1 - j) := by
  have e : k - j = (k - 1 - j) + 1 := by omega
  have e2 : k - (j + 1) = k - 1 - j := by omega
  unfold add
  rw [e2, e, List.range_succ]
  simp only [List.getLast?_concat, List.dropLast_concat]
  rw [tab_set]
  congr 1
  refine tab_congr fun i _ => ?_
  unfold fil
  rw [e2]
  repeat' split
  all_goals first | rfl | omega
theorem fil_live (m k : Nat) : live (tab m (fil k k)) = m := live_tab fun i _ => by
  unfold fil
  rw [Nat.sub_self, if_neg (by omega)]
  split <;> rfl
end Go.Proofs.Ythocodmniofioaa.Ar
