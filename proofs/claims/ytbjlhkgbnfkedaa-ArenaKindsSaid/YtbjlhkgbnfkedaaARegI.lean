/- A region that draws its order, by an invariant. -/
import Derived.Test.YtbjlhkgbnfkedaaAKindS
import Derived.Deep.RegionHeld3
namespace Go.Proofs.Ytbjlhkgbnfkedaa
open Go Go.RowKit

theorem count_set {L : Array Bool} {i : Nat} (h : L.getD i true = false) : (L.setIfInBounds i true).toList.countP (fun b => !b) + 1 = L.toList.countP (fun b => !b) := by
  have hi : i < L.size := by
    rcases Nat.lt_or_ge i L.size with h' | h'
    · exact h'
    · simp [Array.getD, Nat.not_lt.2 h'] at h
  have hb : L[i] = false := by simpa [Array.getD, hi] using h
  have hl : i < L.toList.length := by simpa using hi
  rw [Array.toList_setIfInBounds, List.countP_set hl]
  have hb' : L.toList[i] = false := by simpa using hb
  have hpos : 0 < L.toList.countP (fun b => !b) := List.countP_pos_iff.2 ⟨false, by rw [← hb']; exact List.getElem_mem hl, rfl⟩
  rw [hb']
  show L.toList.countP (fun b => !b) - 1 + 0 + 1 = _
  omega
theorem wpAnyH_inv {P : Program} {md : Region.Mode} {ops : Array Oper} {Q : Exit → Act → World → Prop} {I : Array Bool → Act → World → Prop}
    (hs : ∀ L a w i, I L a w → i ∈ Region.ready md ops L → wpOp P ops Q i (fun a' w' => True ∧ I (L.setIfInBounds i true) a' w') a w)
    (hd : ∀ L a w, I L a w → Region.ready md ops L = [] → Q .normal a w) :
    ∀ (fuel : Nat) (L : Array Bool) (a : Act) (w : World), L.toList.countP (fun b => !b) ≤ fuel → I L a w → wpAnyH P md ops Q (fun _ => True) fuel L a w
  | 0, L, a, w, hc, h => by
    have hr : Region.ready md ops L = [] := by
      cases hr : Region.ready md ops L with
      | nil => rfl
      | cons i r =>
        have hm : i ∈ Region.ready md ops L := by rw [hr]; exact List.mem_cons_self ..
        have := count_set (mem_ready.1 hm).1
        omega
    exact ⟨hr, hd L a w h hr⟩
  | fuel + 1, L, a, w, hc, h => ⟨fun hr => hd L a w h hr, fun i hi => wpOp_mono (fun a' w' h' => ⟨h'.1, wpAnyH_inv hs hd fuel _ a' w' (by have := count_set (mem_ready.1 hi).1; omega) h'.2⟩) (hs L a w i h hi)⟩
theorem inv_step {P : Program} {ops : Array Oper} {Q : Exit → Act → World → Prop} {I : Act → World → Prop} {i : Nat} {o : Oper} {a : Act} {w : World} (ho : ops[i]? = some o)
    (h : ∀ K' : Act → World → Prop, Shut (∀ a w, I a w → K' a w) → if Region.wanted o (yielded ops a.tmps) = true then Oper.wp P o a w K' Q else K' (a.put o.dst undef) w) : wpOp P ops Q i (fun a' w' => True ∧ I a' w') a w :=
  wpOp_step ho (fun K' hK => h K' (fun a w hI => hK a w ⟨trivial, hI⟩))
theorem getD_same {L : Array Bool} {i : Nat} (h : i < L.size) : (L.setIfInBounds i true).getD i false = true := by simp [Array.getD, h]
theorem getD_other {L : Array Bool} {i j : Nat} (h : i ≠ j) : (L.setIfInBounds i true).getD j false = L.getD j false := getD_set_ne false h
end Go.Proofs.Ytbjlhkgbnfkedaa
