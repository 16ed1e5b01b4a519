/- An arena that was filled and from which some records were dropped: as lists, and the slices of numbers that come in. No program is imported. -/
import Derived.Test.YthocodmniofioaaARow
namespace Go.Proofs.Ythocodmniofioaa.Ar
open Go Go.RowKit

def dropAt (p : List (Option Int) × List Nat) (j : Nat) : List (Option Int) × List Nat := match p.1[j]? with | some (some _) => (p.1.set j none, p.2 ++ [j]) | _ => p
theorem drop_hdl (b s : Int) {cs : List (Option Int)} {fr : List Nat} {j : Nat} (hj : j < cs.length) (hl : cs.length ≤ 1000) : drop b s cs fr (hdl b s j) = dropAt (cs, fr) j := by
  unfold drop dropAt
  have hc : cs[j]? = some cs[j] := List.getElem?_eq_getElem hj
  cases hv : cs[j] with
  | none => rw [hv] at hc; rw [has_hdl_none hj hl hc]; simp only [hc]
  | some v => rw [hv] at hc; rw [has_hdl hj hl hc]; simp only [hc]
theorem dropAt_len (p : List (Option Int) × List Nat) (j : Nat) : (dropAt p j).1.length = p.1.length ∧ (dropAt p j).2.length ≤ p.2.length + 1 := by
  unfold dropAt
  split <;> simp
theorem dropAt_ok {p : List (Option Int) × List Nat} (h : Ok p.1 p.2) (j : Nat) : Ok (dropAt p j).1 (dropAt p j).2 := by
  unfold dropAt
  split
  · rename_i v hv
    have hj : j ∉ p.2 := fun hm => by have := h.2 j hm; rw [hv] at this; cases this
    have hlt := (List.getElem?_eq_some_iff.1 hv).1
    refine ⟨?_, fun i hi => ?_⟩
    · show (p.2 ++ [j]).Nodup
      rw [List.nodup_append]
      exact ⟨h.1, by simp, fun a ha b hb => by simp at hb; subst hb; intro e; subst e; exact hj ha⟩
    · show (p.1.set j none)[i]? = some none
      rw [List.getElem?_set]
      by_cases e : j = i
      · subst e; simp [hlt]
      · rw [if_neg e]
        have hi' : i ∈ p.2 ++ [j] := hi
        rw [List.mem_append] at hi'
        rcases hi' with hi' | hi'
        · exact h.2 i hi'
        · simp at hi'; exact absurd hi'.symm e
  · exact h
def filStep (n : Nat) (p : List (Option Int) × List Nat) (d : Int) : List (Option Int) × List Nat := if n = 0 then p else dropAt p (d.toNat % n)
def filAt (n : Nat) (ds : List Int) (p : List (Option Int) × List Nat) : List (Option Int) × List Nat := ds.foldl (filStep n) p
theorem filStep_ok {n : Nat} {p : List (Option Int) × List Nat} (d : Int) (h : Ok p.1 p.2) : Ok (filStep n p d).1 (filStep n p d).2 ∧ (filStep n p d).1.length = p.1.length := by
  unfold filStep
  split
  · exact ⟨h, rfl⟩
  · exact ⟨dropAt_ok h _, (dropAt_len _ _).1⟩
theorem filAt_ok (n : Nat) (ds : List Int) (p : List (Option Int) × List Nat) (h : Ok p.1 p.2) : Ok (filAt n ds p).1 (filAt n ds p).2 ∧ (filAt n ds p).1.length = p.1.length := by
  unfold filAt
  induction ds generalizing p with
  | nil => exact ⟨h, rfl⟩
  | cons d r ih =>
    have := filStep_ok (n := n) d h
    have := ih _ this.1
    exact ⟨this.1, this.2.trans ‹_ ∧ (filStep n p d).1.length = _›.2⟩
theorem filAt_take {n : Nat} {ds : List Int} {p : List (Option Int) × List Nat} {k : Nat} {d : Int} (h : ds[k]? = some d) : filAt n (ds.take (k + 1)) p = filStep n (filAt n (ds.take k) p) d := by
  have hk := (List.getElem?_eq_some_iff.1 h).1
  have he := (List.getElem?_eq_some_iff.1 h).2
  unfold filAt
  rw [List.take_succ_eq_append_getElem hk, he, List.foldl_append]
  rfl
theorem add_take {l : List Int} {k : Nat} {v : Int} (h : l[k]? = some v) : add ((l.take k).map some) [] v = ((l.take (k + 1)).map some, [], k) := by
  have hk := (List.getElem?_eq_some_iff.1 h).1
  have he := (List.getElem?_eq_some_iff.1 h).2
  unfold add
  rw [List.take_succ_eq_append_getElem hk, he, List.map_append]
  simp [List.length_take]
  omega
end Go.Proofs.Ythocodmniofioaa.Ar
namespace Go.Proofs.Ythocodmniofioaa
open Go Go.RowKit
/-- What the walk is told of a slice of numbers that came in. -/
def Nums (kd : IntKind) (w : World) (A : Option Addr) (l : List Int) : Prop :=
  ∀ (i : Nat) (x : Int), l[i]? = some x → ∃ b o, A = some ⟨b, o, none⟩ ∧ w.cell? ⟨b, o + i, none⟩ = some (.int kd x)
theorem Nums.below {kd : IntKind} {w w' : World} {A : Option Addr} {l : List Int} (h : Nums kd w A l) (hb : Below w.heap.size w w') : Nums kd w' A l := by
  intro i x hi
  obtain ⟨b, o, h1, h2⟩ := h i x hi
  exact ⟨b, o, h1, (hb.cell (World.block_lt_of_cell? w _ h2)).trans h2⟩
end Go.Proofs.Ythocodmniofioaa
