/- A slice of numbers that came in, as the rows open it. No program is imported. -/
import Derived.Test.YthocodmniofioaaAFil
namespace Go.Proofs.Ythocodmniofioaa
open Go Go.RowKit

/-- What the walk is told of a slice of integers that came in. -/
def Ints (k : IntKind) (w : World) (A : Option Addr) (zs : List Int) : Prop :=
  ∀ i, i < zs.length → ∃ b o, A = some ⟨b, o, none⟩ ∧ b < w.heap.size ∧ w.cell? ⟨b, o + i, none⟩ = some (.int k (zs.getD i 0))
theorem Ints.below {k : IntKind} {w w' : World} {A : Option Addr} {zs : List Int} (h : Ints k w A zs) (hb : Below w.heap.size w w') : Ints k w' A zs := by
  intro i hi
  obtain ⟨b, o, h1, h2, h3⟩ := h i hi
  exact ⟨b, o, h1, by have := hb.size; omega, (hb.cell (p := ⟨b, o + i, none⟩) h2).trans h3⟩

/-- What the walk is told of a slice of integers: nil, or a row of cells with its numbers. -/
def IsRow (k : IntKind) (w : World) (a : Option Addr) (len cap : Nat) (zs : List Int) : Prop :=
  (a = none ∧ len = 0 ∧ cap = 0 ∧ zs = []) ∨
  ∃ x, a = some x ∧ len ≤ cap ∧ cap ≤ maxLen ∧ zs.length = cap ∧ (∀ i, i < zs.length → w.cell? (x.add i) = some (.int k (zs.getD i 0))) ∧ ∀ n ∈ zs, (Lit.int k n).wf = true
section
variable {k : IntKind} {w : World} {a : Option Addr} {len cap : Nat} {zs : List Int}
theorem IsRow.length (h : IsRow k w a len cap zs) : (zs.take len).length = len := by
  rcases h with ⟨_, rfl, _, rfl⟩ | ⟨x, _, hl, _, hz, _⟩
  · rfl
  · rw [List.length_take]; omega
theorem IsRow.max (h : IsRow k w a len cap zs) : len ≤ maxLen := by
  rcases h with ⟨_, rfl, _, rfl⟩ | ⟨x, _, hl, hm, _⟩
  · exact Nat.zero_le _
  · omega
theorem IsRow.wf (h : IsRow k w a len cap zs) : ∀ n ∈ zs.take len, (Lit.int k n).wf = true := by
  intro n hn
  rcases h with ⟨_, rfl, _, rfl⟩ | ⟨x, _, _, _, _, _, hw⟩
  · simp at hn
  · exact hw n (List.mem_of_mem_take hn)
theorem IsRow.ints (h : IsRow k w a len cap zs) : Ints k w a (zs.take len) := by
  intro i hi
  have hil : i < len := by rw [h.length] at hi; exact hi
  rcases h with ⟨_, rfl, _, rfl⟩ | ⟨x, rfl, hl, _, hz, hc, _⟩
  · omega
  · obtain ⟨b, o, sp⟩ := x
    have hci := hc i (by omega)
    have hsp : sp = none := by simpa [Addr.add] using World.cell?_spot (hc 0 (by omega))
    subst hsp
    have hadd : (⟨b, o, none⟩ : Addr).add i = ⟨b, o + i, none⟩ := by unfold Addr.add; split <;> simp_all
    rw [hadd] at hci
    refine ⟨b, o, rfl, World.block_lt_of_cell? w _ hci, ?_⟩
    rw [hci]
    simp [List.getD, hil]
end

theorem nums_of {k : IntKind} {w : World} {a : Option Addr} {len cap : Nat} {zs : List Int} (h : IsRow k w a len cap zs) : Nums k w a (zs.take len) ∧ (zs.take len).length = len ∧ ∀ x ∈ zs.take len, (Lit.int k x).wf = true := by
  refine ⟨fun i x hi => ?_, h.length, h.wf⟩
  have hlt := (List.getElem?_eq_some_iff.1 hi).1
  obtain ⟨b, o, h1, _, h3⟩ := h.ints i hlt
  refine ⟨b, o, h1, ?_⟩
  have e : (zs.take len).getD i 0 = x := by simp [List.getD, hi]
  rw [e] at h3
  exact h3
end Go.Proofs.Ythocodmniofioaa
