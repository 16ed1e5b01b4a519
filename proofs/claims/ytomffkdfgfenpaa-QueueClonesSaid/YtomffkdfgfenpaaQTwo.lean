/- Two queues that lie apart; a row into which is stored; a queue filled with numbers that came in. -/
import Derived.Test.YtomffkdfgfenpaaQClo
namespace Go.Proofs.Ytomffkdfgfenpaa
open Go Go.RowKit

abbrev QI (base : Nat) (w : World) (Q : Nat) (q : Value) (l : List Int) : Prop := QM 26 3 1 base w Q q l.length (ints l)
structure Two (base : Nat) (w : World) (Q : Nat) (q : Value) (l : List Int) (C : Nat) (c : Value) (m : List Int) : Prop where
  a : QI base w Q q l
  b : QI base w C c m
  ap : ∀ k, Foot Q q k → ¬ Foot C c k
section
variable {base : Nat} {w w' : World} {Q C : Nat} {q c q' c' : Value} {l m l' m' : List Int}
theorem Two.swap (h : Two base w Q q l C c m) : Two base w C c m Q q l := ⟨h.b, h.a, fun k hk hq => h.ap k hq hk⟩
theorem Two.below (h : Two base w Q q l C c m) (hb : Below w.heap.size w w') : Two base w' Q q l C c m := ⟨h.a.below hb, h.b.below hb, h.ap⟩
/-- The first one makes a step. -/
theorem Two.step (h : Two base w Q q l C c m) (hq : QI base w' Q q' l') (hs : AStep w w' (Foot Q q) (Foot Q q')) : Two base w' Q q' l' C c m :=
  ⟨hq, h.b.turns hs.1 (fun k hk hf => h.ap k hf hk), fun k hk hc => h.ap k (hs.2 k (h.b.lt k hc).2 hk) hc⟩
theorem Two.stepB (h : Two base w Q q l C c m) (hq : QI base w' C c' m') (hs : AStep w w' (Foot C c) (Foot C c')) : Two base w' Q q l C c' m' := (h.swap.step hq hs).swap
/-- A step keeps what lies below. -/
theorem step_below {n : Nat} {F F' : Nat → Prop} (hs : AStep w w' F F') (hF : ∀ k, F k → n ≤ k) (hn : n ≤ w.heap.size) : Below n w w' := hs.1.below hn hF
/-- A copy is laid in a variable of its own. -/
theorem Two.clone {w1 : World} {v : Value} (h : QI base w Q q l) (hb : base ≤ w.heap.size) (ho : TR w1 w.heap.size 3 1 v l.length (ints l)) (h1 : Below w.heap.size w w1) :
    Two base (w1.alloc (.cells #[v] 26)) Q q l w1.heap.size v l := by
  have hs := h1.size
  have hq := h.below h1
  refine ⟨hq.below ((Below.refl _ w1).alloc (Nat.le_refl _) _), ⟨Whole.new w1 _ _, (ho.lower hb).below ((Below.refl _ w1).alloc (Nat.le_refl _) _), by omega⟩, fun k hk hc => ?_⟩
  have := (h.lt k hk).2
  rcases hc with e | e
  · omega
  · have := (ho.lt k e).1
    omega
end

/-- A cell of a row is stored. -/
theorem TR.set {w : World} {base : Nat} {e : TypeId} {size : Nat} {g off n c : Nat} {xs : List Value} (h : TR w base e size (.slice (some ⟨g, off, none⟩) n c) n xs) (j : Nat) (u : Value) (hj : j < n * size) :
    TR (w.setCell ⟨g, off + j, none⟩ u) base e size (.slice (some ⟨g, off, none⟩) n c) n (xs.set j u) ∧ w.grownBy (w.setCell ⟨g, off + j, none⟩ u) (some g) := by
  rcases h.2 with ⟨h', _⟩ | ⟨g', off', cap', cur, h', hb, hg, hnc, hcm, hcs, hc⟩
  · simp at h'
  · simp only [Value.slice.injEq, Option.some.injEq, Addr.mk.injEq, and_true, true_and] at h'
    obtain ⟨⟨rfl, rfl⟩, rfl⟩ := h'
    have hmul : n * size ≤ c * size := Nat.mul_le_mul_right _ hnc
    refine ⟨⟨by simpa using h.1, .inr ⟨g, off, c, cur.setIfInBounds (off + j) u, rfl, hb, heap_setCell_same w g (off + j) cur e u hg, hnc, hcm, by simpa using hcs, fun i hi => ?_⟩⟩,
      ⟨rfl, rfl, rfl, by simp, fun k _ hk => heap_setCell_other w ⟨g, off + j, none⟩ k u (fun e => hk (by simp [e]))⟩⟩
    rw [Array.getElem?_setIfInBounds, List.getElem?_set]
    by_cases hij : j = i
    · subst hij
      have h1 : off + j < cur.size := by omega
      have h2 : j < xs.length := by rw [h.1]; exact hj
      simp [h1, h2]
    · rw [if_neg (by omega), if_neg hij, hc i hi]
end Go.Proofs.Ytomffkdfgfenpaa
