/- Slices of strings and of operations that come in: what the walks are told of them. -/
import Derived.Test.YtomffkdfgfenpaaQIns
import Derived.Test.YtomffkdfgfenpaaQInt
import Derived.Lib.SmallJoins
import Derived.Deep.Slices
import Derived.ChangeSame
import Derived.ProofKit
import Derived.SliceStrings
namespace Go.Proofs.Ytomffkdfgfenpaa
open Go Go.RowKit Go.Joins Go.ChangeShapes Go.WideShapes Go.Deep

/-- For each number below n there is a thing: a list of them. -/
theorem list_of {α : Type} [Inhabited α] {Q : Nat → α → Prop} {n : Nat} (h : ∀ i, i < n → ∃ x, Q i x) : ∃ l : List α, l.length = n ∧ ∀ i x, l[i]? = some x → Q i x := by
  have h2 : ∀ i, ∃ x, i < n → Q i x := fun i => by
    by_cases hi : i < n
    · obtain ⟨x, hx⟩ := h i hi
      exact ⟨x, fun _ => hx⟩
    · exact ⟨default, fun h' => absurd h' hi⟩
  obtain ⟨f, hf⟩ := Classical.axiomOfChoice h2
  refine ⟨(List.range n).map f, by simp, fun i x hx => ?_⟩
  have hlt := (List.getElem?_eq_some_iff.1 hx).1
  rw [List.length_map, List.length_range] at hlt
  have e : ((List.range n).map f)[i]? = some (f i) := by simp [hlt]
  rw [e] at hx
  injection hx with hx
  rw [← hx]
  exact hf i hlt
theorem add_plain (b o j : Nat) : (⟨b, o, none⟩ : Addr).add j = ⟨b, o + j, none⟩ := by unfold Addr.add; split <;> simp_all

/-- What the walk is told of a slice of strings: each lies in its cell. -/
def StrsIn (w : World) (A : Option Addr) (l : List ByteArray) : Prop :=
  ∀ (i : Nat) (x : ByteArray), l[i]? = some x → ∃ b o, A = some ⟨b, o, none⟩ ∧ w.cell? ⟨b, o + i, none⟩ = some (.string x)
theorem StrsIn.below {w w' : World} {A : Option Addr} {l : List ByteArray} (h : StrsIn w A l) (hb : Below w.heap.size w w') : StrsIn w' A l := by
  intro i x hi
  obtain ⟨b, o, h1, h2⟩ := h i x hi
  exact ⟨b, o, h1, (hb.cell (World.block_lt_of_cell? w _ h2)).trans h2⟩

set_option maxRecDepth 100000 in
theorem open_strs {H : Type} {enc : TypeId × Value → H} {w : World} {base : Nat} {spare : Nat → Bool} {held : Bool} {r : Reach} {b0 : Nat} {v : Value} {d : DataW H} {p : List MemPlace}
    (hv : Value.okWide Try.prog w r b0 33 v) (h : DataW.Trod enc Try.prog w base spare held 33 v d p) :
    ∃ (A : Option Addr) (cp : Nat) (l : List ByteArray), v = .slice A l.length cp ∧ StrsIn w A l ∧ l.length ≤ cp := by
  obtain ⟨A, len0, cap0, rfl⟩ := okWide_slice Try.underlying33 hv
  obtain ⟨fuel, hf⟩ := h
  have hC : Try.prog.cellsOf 9 = 1 := by kernel_rfl
  rcases open_slice Try.underlying33 hf with ⟨hcs, _⟩ | ⟨a, len, cap, m, n, D, Pl, hcs, _, hl, _, hm, _, hi⟩
  · simp [Value.cells] at hcs
    obtain ⟨rfl, rfl, rfl⟩ := hcs
    exact ⟨none, 0, [], rfl, fun i x hi => by simp at hi, Nat.le_refl _⟩
  · simp [Value.cells] at hcs
    obtain ⟨rfl, rfl, rfl⟩ := hcs
    rw [hC] at hi
    have hlm : len0 ≤ m := by rw [hm]; split <;> omega
    have key : ∀ i, i < len0 → ∃ x : ByteArray, x.size ≤ maxLen ∧ w.cell? ((a.add (i * 1)).add 0) = some (.string x) := by
      intro i hil
      obtain ⟨cs, hc, ht⟩ := hi i (by omega)
      obtain ⟨_, hcl, hat⟩ := World.cells?_some hc
      match cs, hcl with
      | [c0], _ =>
        obtain ⟨x0, e0, _, v0⟩ := DataW.trod_string Try.underlying9 ht
        simp only [List.cons.injEq, and_true] at e0
        subst e0
        exact ⟨x0, v0, hat 0 (by omega)⟩
    obtain ⟨l, hll, hlx⟩ := list_of key
    refine ⟨some a, cap0, l, by rw [hll], fun i x hx => ?_, by rw [hll]; exact hl⟩
    · obtain ⟨_, k0⟩ := hlx i x hx
      obtain ⟨b, o, sp⟩ := a
      have hsp : sp = none := by
        have hlt := (List.getElem?_eq_some_iff.1 hx).1
        obtain ⟨_, j0⟩ := hlx 0 _ (List.getElem?_eq_getElem (by omega))
        simpa [Addr.add] using World.cell?_spot j0
      subst hsp
      rw [add_plain, add_plain, Nat.mul_one] at k0
      exact ⟨b, o, rfl, k0⟩

/-- What the walk is told of a slice of operations: each lies in its three cells. -/
def Ops (w : World) (A : Option Addr) (l : List T3) : Prop :=
  ∀ (i : Nat) (x : T3), l[i]? = some x → ∃ b o, A = some ⟨b, o, none⟩ ∧ w.cell? ⟨b, o + i * 3, none⟩ = some (.int .u8 x.1) ∧ w.cell? ⟨b, o + i * 3 + 1, none⟩ = some (.int .u8 x.2.1) ∧ w.cell? ⟨b, o + i * 3 + 2, none⟩ = some (.int .i16 x.2.2)
theorem Ops.below {w w' : World} {A : Option Addr} {l : List T3} (h : Ops w A l) (hb : Below w.heap.size w w') : Ops w' A l := by
  intro i x hi
  obtain ⟨b, o, h1, h2, h3, h4⟩ := h i x hi
  exact ⟨b, o, h1, (hb.cell (World.block_lt_of_cell? w _ h2)).trans h2, (hb.cell (World.block_lt_of_cell? w _ h3)).trans h3, (hb.cell (World.block_lt_of_cell? w _ h4)).trans h4⟩
def OpOk (x : T3) : Prop := 0 ≤ x.1 ∧ x.1 ≤ 255 ∧ 0 ≤ x.2.1 ∧ x.2.1 ≤ 255 ∧ -32768 ≤ x.2.2 ∧ x.2.2 ≤ 32767
set_option maxRecDepth 100000 in
theorem open_ops {H : Type} {enc : TypeId × Value → H} {w : World} {base : Nat} {spare : Nat → Bool} {held : Bool} {r : Reach} {b0 : Nat} {v : Value} {d : DataW H} {p : List MemPlace}
    (hv : Value.okWide Try.prog w r b0 52 v) (h : DataW.Trod enc Try.prog w base spare held 52 v d p) :
    ∃ (A : Option Addr) (cp : Nat) (l : List T3), v = .slice A l.length cp ∧ Ops w A l ∧ ∀ x ∈ l, OpOk x := by
  obtain ⟨A, len0, cap0, rfl⟩ := okWide_slice Try.underlying52 hv
  obtain ⟨fuel, hf⟩ := h
  have hC : Try.prog.cellsOf 60 = 3 := by kernel_rfl
  have hC0 : Try.prog.cellsOf 5 = 1 := by kernel_rfl
  have hC2 : Try.prog.cellsOf 27 = 1 := by kernel_rfl
  rcases open_slice Try.underlying52 hf with ⟨hcs, _⟩ | ⟨a, len, cap, m, n, D, Pl, hcs, _, hl, _, hm, _, hi⟩
  · simp [Value.cells] at hcs
    obtain ⟨rfl, rfl, rfl⟩ := hcs
    exact ⟨none, 0, [], rfl, fun i x hi => by simp at hi, fun x hx => by simp at hx⟩
  · simp [Value.cells] at hcs
    obtain ⟨rfl, rfl, rfl⟩ := hcs
    rw [hC] at hi
    have hlm : len0 ≤ m := by rw [hm]; split <;> omega
    have key : ∀ i, i < len0 → ∃ x : T3, OpOk x ∧ w.cell? ((a.add (i * 3)).add 0) = some (.int .u8 x.1) ∧ w.cell? ((a.add (i * 3)).add 1) = some (.int .u8 x.2.1) ∧ w.cell? ((a.add (i * 3)).add 2) = some (.int .i16 x.2.2) := by
      intro i hil
      obtain ⟨cs, hc, ht⟩ := hi i (by omega)
      obtain ⟨_, hcl, hat⟩ := World.cells?_some hc
      obtain ⟨xs, n', _, _, _, hxl, hg⟩ := DataW.trod_struct Try.underlying60 ht
      match cs, hcl, xs, hxl with
      | [c0, c1, c2], _, [z0, z1, z2], _ =>
        have g0 := hg 0 _ rfl
        have g1 := hg 1 _ rfl
        have g2 := hg 2 _ rfl
        simp [hC0, hC2] at g0 g1 g2
        obtain ⟨x0, e0, _, v0⟩ := DataW.trod_int Try.underlying5 g0
        obtain ⟨x1, e1, _, v1⟩ := DataW.trod_int Try.underlying5 g1
        obtain ⟨x2, e2, _, v2⟩ := DataW.trod_int Try.underlying27 g2
        simp only [List.cons.injEq, and_true] at e0 e1 e2
        subst e0 e1 e2
        exact ⟨(x0, x1, x2), ⟨(op8u v0).1, (op8u v0).2, (op8u v1).1, (op8u v1).2, op16 v2⟩, hat 0 (by omega), hat 1 (by omega), hat 2 (by omega)⟩
    obtain ⟨l, hll, hlx⟩ := list_of key
    refine ⟨some a, cap0, l, by rw [hll], fun i x hx => ?_, fun x hx => ?_⟩
    · obtain ⟨_, k0, k1, k2⟩ := hlx i x hx
      obtain ⟨b, o, sp⟩ := a
      have hsp : sp = none := by
        have hlt := (List.getElem?_eq_some_iff.1 hx).1
        obtain ⟨_, j0, _⟩ := hlx 0 _ (List.getElem?_eq_getElem (by omega))
        simpa [Addr.add] using World.cell?_spot j0
      subst hsp
      rw [add_plain, add_plain] at k0 k1 k2
      exact ⟨b, o, rfl, k0, k1, k2⟩
    · obtain ⟨i, hi, rfl⟩ := List.mem_iff_getElem.1 hx
      exact (hlx i _ (List.getElem?_eq_getElem hi)).1

end Go.Proofs.Ytomffkdfgfenpaa
