/- Handles and slots as numbers. No program is imported. -/
import Derived.WalkKit
namespace Go.Proofs.Ythocodmniofioaa.Ar
open Go Go.RowKit

/-- The nearest number from 1 to 1000. -/
def nrm (n : Int) : Int := min (max n 1) 1000
theorem nrm_pos (n : Int) : 1 ≤ nrm n ∧ nrm n ≤ 1000 := by unfold nrm; omega
/-- The handle of a slot. -/
def hdl (b s i : Int) : Int := if i < 0 ∨ 2147483647 < i then 0 else nrm b + nrm s * i
/-- The slot of a handle. -/
def idx (b s h : Int) : Int := if h < nrm b ∨ (h - nrm b) % nrm s ≠ 0 ∨ 2147483647 < (h - nrm b) / nrm s then -1 else (h - nrm b) / nrm s
theorem mul_le (s : Int) (i : Int) (h0 : 0 ≤ i) (h1 : i ≤ 2147483647) : 0 ≤ nrm s * i ∧ nrm s * i ≤ 2147483647000 := by
  have := nrm_pos s
  constructor
  · exact Int.mul_nonneg (by omega) h0
  · calc nrm s * i ≤ 1000 * i := Int.mul_le_mul_of_nonneg_right (by omega) h0
      _ ≤ _ := by omega
theorem hdl_slot (b s i : Int) (h0 : 0 ≤ i) (h1 : i ≤ 2147483647) : idx b s (hdl b s i) = i := by
  have hs := nrm_pos s
  have hm := mul_le s i h0 h1
  unfold hdl
  rw [if_neg (by omega)]
  unfold idx
  have e : nrm b + nrm s * i - nrm b = nrm s * i := by omega
  rw [e, Int.mul_emod_right, Int.mul_ediv_cancel_left _ (by omega : nrm s ≠ 0), if_neg (by omega)]
theorem idx_handle (b s h : Int) (hi : idx b s h ≠ -1) : 0 ≤ idx b s h ∧ idx b s h ≤ 2147483647 ∧ hdl b s (idx b s h) = h := by
  have hs := nrm_pos s
  unfold idx at hi ⊢
  split at hi
  · exact absurd rfl hi
  · rename_i hc
    rw [if_neg hc]
    have h1 : ¬ h < nrm b := fun x => hc (.inl x)
    have h2 : (h - nrm b) % nrm s = 0 := Classical.byContradiction fun x => hc (.inr (.inl x))
    have h3 : ¬ 2147483647 < (h - nrm b) / nrm s := fun x => hc (.inr (.inr x))
    have h4 : 0 ≤ (h - nrm b) / nrm s := Int.ediv_nonneg (by omega) (by omega)
    refine ⟨h4, by omega, ?_⟩
    unfold hdl
    rw [if_neg (by omega)]
    have := Int.emod_add_mul_ediv (h - nrm b) (nrm s)
    omega

theorem hdl_range (b s i : Int) : 0 ≤ hdl b s i ∧ hdl b s i ≤ 2147483648000 := by
  unfold hdl
  split
  · omega
  · have := mul_le s i (by omega) (by omega)
    have := nrm_pos b
    omega
theorem idx_range (b s h : Int) : -1 ≤ idx b s h ∧ idx b s h ≤ 2147483647 := by
  by_cases hi : idx b s h = -1
  · omega
  · have := idx_handle b s h hi
    omega
/-- How the machine reckons a slot. -/
theorem idx_parts (b s h : Int) (h0 : nrm b ≤ h) (h1 : h ≤ 9223372036854775807) : wrap64 (h - nrm b) = h - nrm b ∧ (h - nrm b).tmod (nrm s) = (h - nrm b) % nrm s ∧ wrap64 ((h - nrm b).tdiv (nrm s)) = (h - nrm b) / nrm s := by
  have hb := nrm_pos b
  have hs := nrm_pos s
  refine ⟨by unfold wrap64; omega, Int.tmod_eq_emod_of_nonneg (by omega), ?_⟩
  rw [Int.tdiv_eq_ediv_of_nonneg (by omega)]
  have h2 : 0 ≤ (h - nrm b) / nrm s := Int.ediv_nonneg (by omega) (by omega)
  have h3 : (h - nrm b) / nrm s ≤ h - nrm b := Int.ediv_le_self _ (by omega)
  unfold wrap64; omega

/-- The four ways of a handle. -/
theorem idx_ways (b s h : Int) (h1 : h ≤ 9223372036854775807) :
    (h < nrm b ∧ idx b s h = -1) ∨
    (¬ h < nrm b ∧ wrap64 (h - nrm b) = h - nrm b ∧ ¬ (h - nrm b).tmod (nrm s) = 0 ∧ ¬ (h - nrm b) % nrm s = 0 ∧ idx b s h = -1) ∨
    (¬ h < nrm b ∧ wrap64 (h - nrm b) = h - nrm b ∧ (h - nrm b).tmod (nrm s) = 0 ∧ (h - nrm b) % nrm s = 0 ∧ ∃ q, wrap64 ((h - nrm b).tdiv (nrm s)) = q ∧ 2147483647 < q ∧ idx b s h = -1) ∨
    (¬ h < nrm b ∧ wrap64 (h - nrm b) = h - nrm b ∧ (h - nrm b).tmod (nrm s) = 0 ∧ (h - nrm b) % nrm s = 0 ∧ ∃ q, wrap64 ((h - nrm b).tdiv (nrm s)) = q ∧ ¬ 2147483647 < q ∧ idx b s h = q) := by
  by_cases hlt : h < nrm b
  · exact .inl ⟨hlt, by unfold idx; rw [if_pos (.inl hlt)]⟩
  · obtain ⟨e1, e2, e3⟩ := idx_parts b s h (by omega) h1
    by_cases hr : (h - nrm b) % nrm s = 0
    · by_cases hq : 2147483647 < (h - nrm b) / nrm s
      · exact .inr (.inr (.inl ⟨hlt, e1, by rw [e2, hr], hr, _, e3, hq, by unfold idx; rw [if_pos (.inr (.inr hq))]⟩))
      · exact .inr (.inr (.inr ⟨hlt, e1, by rw [e2, hr], hr, _, e3, hq, by unfold idx; rw [if_neg (fun y => y.elim hlt (fun z => z.elim (fun u => u hr) hq))]⟩))
    · exact .inr (.inl ⟨hlt, e1, by rw [e2]; exact hr, hr, by unfold idx; rw [if_pos (.inr (.inl hr))]⟩)

end Go.Proofs.Ythocodmniofioaa.Ar
