/- An arena in memory: its variable, its two rows, and what a step of a walk does to that. No program is imported. -/
import Derived.Test.YthocodmniofioaaAHas
namespace Go.Proofs.Ythocodmniofioaa
open Go Go.RowKit

/-- At most the blocks of S have turned, and there may be new ones. -/
structure Turns (S : Nat → Prop) (w w' : World) : Prop where
  os : w'.os = w.os
  tape : w'.tape = w.tape
  output : w'.output = w.output
  size : w.heap.size ≤ w'.heap.size
  block : ∀ k, k < w.heap.size → ¬ S k → w'.heap[k]? = w.heap[k]?
section
variable {w w' w'' : World} {S S' U : Nat → Prop}
theorem Turns.of_below (h : Below w.heap.size w w') : Turns S w w' := ⟨h.os, h.tape, h.output, h.size, fun k hk _ => h.block k hk⟩
theorem Turns.of_grown {row : Option Nat} (h : w.grownBy w' row) (hS : ∀ k, row = some k → S k) : Turns S w w' := ⟨h.os, h.tape, h.output, h.size, fun k hk hn => h.block k hk (fun e => hn (hS k e.symm))⟩
theorem Turns.refl (S : Nat → Prop) (w : World) : Turns S w w := ⟨rfl, rfl, rfl, Nat.le_refl _, fun _ _ _ => rfl⟩
theorem Turns.trans (h : Turns S w w') (h' : Turns S' w' w'') (h1 : ∀ k, k < w.heap.size → S k → U k) (h2 : ∀ k, k < w.heap.size → S' k → U k) : Turns U w w'' :=
  ⟨h'.os.trans h.os, h'.tape.trans h.tape, h'.output.trans h.output, Nat.le_trans h.size h'.size, fun k hk hn => (h'.block k (Nat.lt_of_lt_of_le hk h.size) (fun x => hn (h2 k hk x))).trans (h.block k hk (fun x => hn (h1 k hk x)))⟩
theorem Turns.below {B : Nat} (h : Turns S w w') (hB : B ≤ w.heap.size) (hS : ∀ k, S k → B ≤ k) : Below B w w' :=
  ⟨h.os, h.tape, h.output, h.size, fun k hk => h.block k (Nat.lt_of_lt_of_le hk hB) (fun x => by have := hS k x; omega)⟩
theorem Whole.turns {b : Nat} {cs : Array Value} {t : TypeId} (h : Whole w b cs t) (ht : Turns S w w') (hn : ¬ S b) : Whole w' b cs t := (ht.block b h.lt hn).trans h
theorem own_turns {base size : Nat} {e : TypeId} {v : Value} {n : Nat} {xs : List Value} (h : w.ownsRow base e size v n xs) (ht : Turns S w w') (hn : ∀ k, v.ownBlock = some k → ¬ S k) : w'.ownsRow base e size v n xs := by
  refine ⟨h.1, ?_⟩
  rcases h.2 with hv | ⟨g, cap, cur, rfl, hb, hg, hr⟩
  · exact .inl hv
  · exact .inr ⟨g, cap, cur, rfl, hb, (ht.block g (Array.getElem?_eq_some_iff.1 hg).1 (hn g (by simp [Value.ownBlock]))).trans hg, hr⟩
end

/-- The blocks of an arena. -/
def Foot (B : Nat) (vs vf : Value) : Nat → Prop := fun k => k = B ∨ vs.ownBlock = some k ∨ vf.ownBlock = some k
/-- An arena in the variable B: the slots' cells are xs, n of them each; F are its blocks, all at base or above. -/
def AM (T St E : TypeId) (n base : Nat) (w : World) (B : Nat) (b s : Int) (len : Nat) (xs : List Value) (fr : List Nat) (live : Nat) (F : Nat → Prop) : Prop :=
  ∃ vs vf, Whole w B #[.int .i64 b, .int .i64 s, vs, vf, .int .i64 live] T ∧ base ≤ B ∧ w.ownsRow base St n vs len xs ∧ w.ownsRow base E 1 vf fr.length (Ar.nums fr) ∧ F = Foot B vs vf
section
variable {T St E : TypeId} {n base B len live : Nat} {w w' : World} {b s : Int} {xs : List Value} {fr : List Nat} {F S : Nat → Prop}
theorem AM.lt (h : AM T St E n base w B b s len xs fr live F) : ∀ k, F k → base ≤ k ∧ k < w.heap.size := by
  obtain ⟨vs, vf, h1, h2, h3, h4, rfl⟩ := h
  rintro k (rfl | hk | hk)
  · exact ⟨h2, h1.lt⟩
  · exact h3.lt k hk
  · exact h4.lt k hk
theorem AM.var (h : AM T St E n base w B b s len xs fr live F) : F B := by
  obtain ⟨vs, vf, _, _, _, _, rfl⟩ := h
  exact .inl rfl
theorem AM.turns (h : AM T St E n base w B b s len xs fr live F) (ht : Turns S w w') (hn : ∀ k, F k → ¬ S k) : AM T St E n base w' B b s len xs fr live F := by
  obtain ⟨vs, vf, h1, h2, h3, h4, rfl⟩ := h
  exact ⟨vs, vf, h1.turns ht (hn B (.inl rfl)), h2, own_turns h3 ht (fun k hk => hn k (.inr (.inl hk))), own_turns h4 ht (fun k hk => hn k (.inr (.inr hk))), rfl⟩
theorem AM.below (h : AM T St E n base w B b s len xs fr live F) (hb : Below w.heap.size w w') : AM T St E n base w' B b s len xs fr live F :=
  h.turns (S := fun _ => False) (.of_below hb) (fun _ _ => id)
end
/-- A step of an arena: its blocks stay its own, or new ones come. -/
def AStep (w w' : World) (F F' : Nat → Prop) : Prop := Turns F w w' ∧ ∀ k, k < w.heap.size → F' k → F k
section
variable {w w' w'' : World} {F F' F'' G : Nat → Prop}
theorem AStep.apart (h : AStep w w' F F') (hG : ∀ k, G k → k < w.heap.size) (hn : ∀ k, G k → ¬ F k) : ∀ k, G k → ¬ F' k := fun k hg hf => hn k hg (h.2 k (hG k hg) hf)
end
end Go.Proofs.Ythocodmniofioaa
