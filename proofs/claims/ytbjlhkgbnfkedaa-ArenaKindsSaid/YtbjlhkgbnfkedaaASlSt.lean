/- The state of the walk of ArenaSalts: two arenas and the rows of their handles, apart from each other. -/
import Derived.Test.YtbjlhkgbnfkedaaACodeG
import Derived.Test.YtbjlhkgbnfkedaaAAptW
import Derived.Test.YtbjlhkgbnfkedaaAOkp
namespace Go.Proofs.Ytbjlhkgbnfkedaa.Ar
open Go Go.RowKit

/-- What becomes of a slot, whatever the Salt. -/
def hasAt (cs : List (Option Int)) (j : Nat) : Option Nat := match cs[j]? with | some (some _) => some j | _ => none
def setAt (cs : List (Option Int)) (j : Nat) (v : Int) : List (Option Int) := match cs[j]? with | some (some _) => cs.set j (some v) | _ => cs
def getAt (cs : List (Option Int)) (j : Nat) : Option Int := (cs[j]?).join
section
variable {b s : Int} {cs : List (Option Int)} {fr : List Nat} {j : Nat}
theorem has_at (hj : j < cs.length) (hl : cs.length ≤ 1000) : has b s cs (hdl b s j) = hasAt cs j := by
  unfold hasAt
  have hc : cs[j]? = some cs[j] := List.getElem?_eq_getElem hj
  cases hv : cs[j] with
  | none => rw [hv] at hc; rw [has_hdl_none hj hl hc]; simp only [hc]
  | some v => rw [hv] at hc; rw [has_hdl hj hl hc]; simp only [hc]
theorem set_at (hj : j < cs.length) (hl : cs.length ≤ 1000) (v : Int) : set b s cs (hdl b s j) v = setAt cs j v := by
  unfold set setAt
  have hc : cs[j]? = some cs[j] := List.getElem?_eq_getElem hj
  cases hv : cs[j] with
  | none => rw [hv] at hc; rw [has_hdl_none hj hl hc]; simp only [hc]
  | some u => rw [hv] at hc; rw [has_hdl hj hl hc]; simp only [hc]
theorem get_at (hj : j < cs.length) (hl : cs.length ≤ 1000) : get b s cs (hdl b s j) = getAt cs j := by
  unfold get getAt
  have hc : cs[j]? = some cs[j] := List.getElem?_eq_getElem hj
  cases hv : cs[j] with
  | none => rw [hv] at hc; rw [has_hdl_none hj hl hc, hc]; rfl
  | some u => rw [hv] at hc; rw [has_hdl hj hl hc]
theorem drop_at (hj : j < cs.length) (hl : cs.length ≤ 1000) : drop b s cs fr (hdl b s j) = dropAt (cs, fr) j := drop_hdl b s hj hl
theorem setAt_ok {v : Int} (hk : Ok cs fr) : Ok (setAt cs j v) fr ∧ (setAt cs j v).length = cs.length := by
  unfold setAt
  split
  · rename_i u h3
    refine ⟨⟨hk.1, fun i hi => ?_⟩, by simp⟩
    have h4 := hk.2 i hi
    rw [List.getElem?_set, if_neg (fun e' => by subst e'; rw [h3] at h4; cases h4)]
    exact h4
  · exact ⟨hk, rfl⟩
/-- The slot that an addition takes. -/
theorem add_slot (cs : List (Option Int)) (fr : List Nat) (v : Int) : add cs fr v = ((add cs fr v).1, (add cs fr v).2.1, (add cs fr v).2.2) := rfl
theorem add_lt {cs : List (Option Int)} {fr : List Nat} (h : Ok cs fr) (v : Int) : (add cs fr v).2.2 < (add cs fr v).1.length ∧ cs.length ≤ (add cs fr v).1.length := by
  unfold add
  cases e : fr.getLast? with
  | none => simp
  | some i =>
    have := (List.getElem?_eq_some_iff.1 (h.2 i (List.mem_of_getLast? e))).1
    simp [this]
end
/-- The handles of some slots. -/
def hdls (b s : Int) (sl : List Nat) : List Int := sl.map fun (j : Nat) => hdl b s (j : Int)
theorem hdls_len (b s : Int) (sl : List Nat) : (hdls b s sl).length = sl.length := by simp [hdls]
theorem hdls_append (b s : Int) (sl : List Nat) (j : Nat) : hdls b s (sl ++ [j]) = hdls b s sl ++ [hdl b s (j : Int)] := by simp [hdls]
theorem hdls_get {b s : Int} {sl : List Nat} {i j : Nat} (h : sl[i]? = some j) : (hdls b s sl)[i]? = some (hdl b s (j : Int)) := by simp [hdls, h]
end Go.Proofs.Ytbjlhkgbnfkedaa.Ar
namespace Go.Proofs.Ytbjlhkgbnfkedaa
open Go Go.RowKit

/-- The state: two arenas, in B1 and in B2, and two rows of handles. -/
structure SS (W1 w : World) (B1 B2 : Nat) (b s b' s' : Int) (cs : List (Option Int)) (fr : List Nat) (cs' : List (Option Int)) (fr' : List Nat) (F1 F2 : Nat → Prop) (g1 g2 : Value) (l1 l2 : List Int) : Prop where
  a1 : AI W1.heap.size w B1 b s cs fr F1
  a2 : AI W1.heap.size w B2 b' s' cs' fr' F2
  x : w.ownsRow W1.heap.size 3 1 g1 l1.length (ints l1)
  y : w.ownsRow W1.heap.size 3 1 g2 l2.length (ints l2)
  dd : ∀ k, F1 k → ¬ F2 k
  x1 : ∀ k, g1.ownBlock = some k → ¬ F1 k
  x2 : ∀ k, g1.ownBlock = some k → ¬ F2 k
  y1 : ∀ k, g2.ownBlock = some k → ¬ F1 k
  y2 : ∀ k, g2.ownBlock = some k → ¬ F2 k
  xy : ∀ k, g1.ownBlock = some k → g2.ownBlock ≠ some k
  bel : Below W1.heap.size W1 w
section
variable {W1 w w' : World} {B1 B2 : Nat} {b s b' s' : Int} {cs cs' ct : List (Option Int)} {fr fr' ft : List Nat} {F1 F2 F' : Nat → Prop} {g1 g2 g' : Value} {l1 l2 : List Int}
theorem SS.swap (h : SS W1 w B1 B2 b s b' s' cs fr cs' fr' F1 F2 g1 g2 l1 l2) : SS W1 w B2 B1 b' s' b s cs' fr' cs fr F2 F1 g2 g1 l2 l1 :=
  ⟨h.a2, h.a1, h.y, h.x, fun k h2 h1 => h.dd k h1 h2, h.y2, h.y1, h.x2, h.x1, fun k h2 h1 => h.xy k h1 h2, h.bel⟩
theorem SS.below (h : SS W1 w B1 B2 b s b' s' cs fr cs' fr' F1 F2 g1 g2 l1 l2) (hb : Below w.heap.size w w') : SS W1 w' B1 B2 b s b' s' cs fr cs' fr' F1 F2 g1 g2 l1 l2 :=
  ⟨h.a1.below hb, h.a2.below hb, own_turns (S := fun _ => False) h.x (.of_below hb) (fun _ _ => id), own_turns (S := fun _ => False) h.y (.of_below hb) (fun _ _ => id), h.dd, h.x1, h.x2, h.y1, h.y2, h.xy, h.bel.trans (hb.mono h.bel.size)⟩
theorem SS.step (h : SS W1 w B1 B2 b s b' s' cs fr cs' fr' F1 F2 g1 g2 l1 l2) (ha : AI W1.heap.size w' B1 b s ct ft F') (hs : AStep w w' F1 F') : SS W1 w' B1 B2 b s b' s' ct ft cs' fr' F' F2 g1 g2 l1 l2 :=
  ⟨ha, h.a2.turns hs.1 (fun k h2 h1 => h.dd k h1 h2), own_turns h.x hs.1 h.x1, own_turns h.y hs.1 h.y1,
   fun k h1 h2 => h.dd k (hs.2 k (h.a2.lt k h2).2 h1) h2, fun k hk hF => h.x1 k hk (hs.2 k (h.x.lt k hk).2 hF), h.x2, fun k hk hF => h.y1 k hk (hs.2 k (h.y.lt k hk).2 hF), h.y2, h.xy,
   h.bel.trans (hs.1.below h.bel.size fun j hj => (h.a1.lt j hj).1)⟩
theorem SS.push {z : Int} (h : SS W1 w B1 B2 b s b' s' cs fr cs' fr' F1 F2 g1 g2 l1 l2) (ho : w'.ownsRow W1.heap.size 3 1 g' (l1.length + 1) (ints l1 ++ ints [z])) (hg : w.grownBy w' g1.ownBlock) (hf : Fresh w g1 g') : SS W1 w' B1 B2 b s b' s' cs fr cs' fr' F1 F2 g' g2 (l1 ++ [z]) l2 := by
  have ht : Turns (fun k => g1.ownBlock = some k) w w' := .of_grown hg (fun k hk => hk)
  have hnew : ∀ k, g'.ownBlock = some k → g1.ownBlock = some k ∨ w.heap.size ≤ k := fun k hk => by
    rcases hf with e | e
    · exact .inl (e ▸ hk)
    · exact .inr (e k hk)
  refine ⟨h.a1.turns ht (fun k hF hk => h.x1 k hk hF), h.a2.turns ht (fun k hF hk => h.x2 k hk hF), by rw [ints_append, List.length_append]; exact ho, own_turns h.y ht (fun k hk hx => h.xy k hx hk), h.dd, fun k hk hF => ?_, fun k hk hF => ?_, h.y1, h.y2, fun k hk hy => ?_, h.bel.grown hg h.bel.size (fun j hj => (h.x.lt j hj).1)⟩
  · rcases hnew k hk with e | e
    · exact h.x1 k e hF
    · have := (h.a1.lt k hF).2; omega
  · rcases hnew k hk with e | e
    · exact h.x2 k e hF
    · have := (h.a2.lt k hF).2; omega
  · rcases hnew k hk with e | e
    · exact h.xy k e hy
    · have := (h.y.lt k hy).2; omega
end
end Go.Proofs.Ytbjlhkgbnfkedaa
