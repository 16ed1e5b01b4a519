/- A slice of strings that comes in: what the walks are told of it. -/
import Derived.Test.YtbjlhkgbnfkedaaAOpO
import Derived.SliceStrings
namespace Go.Proofs.Ytbjlhkgbnfkedaa
open Go Go.RowKit Go.Joins Go.ChangeShapes Go.WideShapes Go.Deep

/-- What the walk is told of a slice of strings: each lies in its cell. -/
def StrsIn (w : World) (A : Option Addr) (l : List ByteArray) : Prop :=
  ∀ (i : Nat) (x : ByteArray), l[i]? = some x → ∃ b o, A = some ⟨b, o, none⟩ ∧ w.cell? ⟨b, o + i, none⟩ = some (.string x)
theorem StrsIn.below {w w' : World} {A : Option Addr} {l : List ByteArray} (h : StrsIn w A l) (hb : Below w.heap.size w w') : StrsIn w' A l := by
  intro i x hi
  obtain ⟨b, o, h1, h2⟩ := h i x hi
  exact ⟨b, o, h1, (hb.cell (World.block_lt_of_cell? w _ h2)).trans h2⟩

set_option maxRecDepth 100000 in
theorem open_strs {H : Type} {enc : TypeId × Value → H} {w : World} {base : Nat} {spare : Nat → Bool} {held : Bool} {r : Reach} {b0 : Nat} {v : Value} {d : DataW H} {p : List MemPlace}
    (hv : Value.okWide Try.prog w r b0 73 v) (h : DataW.Trod enc Try.prog w base spare held 73 v d p) :
    ∃ (A : Option Addr) (cp : Nat) (l : List ByteArray), v = .slice A l.length cp ∧ StrsIn w A l ∧ ∀ x ∈ l, x.size ≤ maxLen := by
  obtain ⟨A, len0, cap0, rfl⟩ := okWide_slice Try.underlying73 hv
  obtain ⟨fuel, hf⟩ := h
  have hC : Try.prog.cellsOf 9 = 1 := by kernel_rfl
  rcases open_slice Try.underlying73 hf with ⟨hcs, _⟩ | ⟨a, len, cap, m, n, D, Pl, hcs, _, hl, _, hm, _, hi⟩
  · simp [Value.cells] at hcs
    obtain ⟨rfl, rfl, rfl⟩ := hcs
    exact ⟨none, 0, [], rfl, fun i x hi => by simp at hi, fun x hx => by simp at hx⟩
  · simp [Value.cells] at hcs
    obtain ⟨rfl, rfl, rfl⟩ := hcs
    rw [hC] at hi
    have hlm : len0 ≤ m := by rw [hm]; split <;> omega
    have key : ∀ i, i < len0 → ∃ x : ByteArray, x.size ≤ maxLen ∧ w.cell? ((a.add (i * 1)).add 0) = some (.string x) := by
      intro i hil
      obtain ⟨cs, hc, ht⟩ := hi i (by omega)
      obtain ⟨_, hcl, hat⟩ := World.cells?_some hc
      match cs, hcl with
      | [c0], _ =>
        obtain ⟨x0, e0, _, v0⟩ := DataW.trod_string Try.underlying9 ht
        simp only [List.cons.injEq, and_true] at e0
        subst e0
        exact ⟨x0, v0, hat 0 (by omega)⟩
    obtain ⟨l, hll, hlx⟩ := list_of key
    refine ⟨some a, cap0, l, by rw [hll], fun i x hx => ?_, fun x hx => ?_⟩
    · obtain ⟨_, k0⟩ := hlx i x hx
      obtain ⟨b, o, sp⟩ := a
      have hsp : sp = none := by
        have hlt := (List.getElem?_eq_some_iff.1 hx).1
        obtain ⟨_, j0⟩ := hlx 0 _ (List.getElem?_eq_getElem (by omega))
        simpa [Addr.add] using World.cell?_spot j0
      subst hsp
      rw [add_plain, add_plain, Nat.mul_one] at k0
      exact ⟨b, o, rfl, k0⟩
    · obtain ⟨i, hi, rfl⟩ := List.mem_iff_getElem.1 hx
      exact (hlx i _ (List.getElem?_eq_getElem hi)).1
end Go.Proofs.Ytbjlhkgbnfkedaa
