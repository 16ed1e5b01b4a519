/- A slice of operations that comes in, an array of three numbers, and a slice of strings: what the walks are told of them. -/
import Derived.Test.YthocodmniofioaaAOps
import Derived.Test.YthocodmniofioaaASalt
import Derived.Lib.SmallJoins
import Derived.Deep.Slices
import Derived.ChangeSame
import Derived.ProofKit
namespace Go.Proofs.Ythocodmniofioaa
open Go Go.RowKit Go.Joins Go.ChangeShapes Go.WideShapes Go.Deep

theorem op8 {n : Int} (h : (Lit.int .u8 n).wf = true) : 0 ≤ n ∧ n ≤ 255 := by
  simpa [Lit.wf, IntKind.min, IntKind.max, IntKind.bits, IntKind.signed] using h
theorem op16 {n : Int} (h : (Lit.int .i16 n).wf = true) : -32768 ≤ n ∧ n ≤ 32767 := by
  simpa [Lit.wf, IntKind.min, IntKind.max, IntKind.bits, IntKind.signed] using h
/-- For each number below n there is a thing: a list of them. -/
theorem list_of {α : Type} [Inhabited α] {Q : Nat → α → Prop} {n : Nat} (h : ∀ i, i < n → ∃ x, Q i x) : ∃ l : List α, l.length = n ∧ ∀ i x, l[i]? = some x → Q i x := by
  have h2 : ∀ i, ∃ x, i < n → Q i x := fun i => by
    by_cases hi : i < n
    · obtain ⟨x, hx⟩ := h i hi
      exact ⟨x, fun _ => hx⟩
    · exact ⟨default, fun h' => absurd h' hi⟩
  obtain ⟨f, hf⟩ := Classical.axiomOfChoice h2
  refine ⟨(List.range n).map f, by simp, fun i x hx => ?_⟩
  have hlt := (List.getElem?_eq_some_iff.1 hx).1
  rw [List.length_map, List.length_range] at hlt
  have e : ((List.range n).map f)[i]? = some (f i) := by simp [hlt]
  rw [e] at hx
  injection hx with hx
  rw [← hx]
  exact hf i hlt
theorem add_plain (b o j : Nat) : (⟨b, o, none⟩ : Addr).add j = ⟨b, o + j, none⟩ := by unfold Addr.add; split <;> simp_all

set_option maxRecDepth 100000 in
theorem open_ops {H : Type} {enc : TypeId × Value → H} {w : World} {base : Nat} {spare : Nat → Bool} {held : Bool} {r : Reach} {b0 : Nat} {v : Value} {d : DataW H} {p : List MemPlace}
    (hv : Value.okWide Try.prog w r b0 24 v) (h : DataW.Trod enc Try.prog w base spare held 24 v d p) :
    ∃ (A : Option Addr) (cp : Nat) (l : List (Int × Int × Bool × Int)), v = .slice A l.length cp ∧ Ops w A l ∧ ∀ x ∈ l, OpOk x := by
  obtain ⟨A, len0, cap0, rfl⟩ := okWide_slice Try.underlying24 hv
  obtain ⟨fuel, hf⟩ := h
  have hC : Try.prog.cellsOf 36 = 4 := by kernel_rfl
  have hC0 : Try.prog.cellsOf 5 = 1 := by kernel_rfl
  have hC1 : Try.prog.cellsOf 4 = 1 := by kernel_rfl
  have hC2 : Try.prog.cellsOf 34 = 1 := by kernel_rfl
  rcases open_slice Try.underlying24 hf with ⟨hcs, _⟩ | ⟨a, len, cap, m, n, D, Pl, hcs, _, hl, _, hm, _, hi⟩
  · simp [Value.cells] at hcs
    obtain ⟨rfl, rfl, rfl⟩ := hcs
    exact ⟨none, 0, [], rfl, fun i x hi => by simp at hi, fun x hx => by simp at hx⟩
  · simp [Value.cells] at hcs
    obtain ⟨rfl, rfl, rfl⟩ := hcs
    rw [hC] at hi
    have hlm : len0 ≤ m := by rw [hm]; split <;> omega
    have key : ∀ i, i < len0 → ∃ x : Int × Int × Bool × Int, OpOk x ∧ w.cell? ((a.add (i * 4)).add 0) = some (.int .u8 x.1) ∧ w.cell? ((a.add (i * 4)).add 1) = some (.int .u8 x.2.1) ∧ w.cell? ((a.add (i * 4)).add 2) = some (.bool x.2.2.1) ∧ w.cell? ((a.add (i * 4)).add 3) = some (.int .i16 x.2.2.2) := by
      intro i hil
      obtain ⟨cs, hc, ht⟩ := hi i (by omega)
      obtain ⟨_, hcl, hat⟩ := World.cells?_some hc
      obtain ⟨xs, n', _, _, _, hxl, hg⟩ := DataW.trod_struct Try.underlying36 ht
      match cs, hcl, xs, hxl with
      | [c0, c1, c2, c3], _, [z0, z1, z2, z3], _ =>
        have g0 := hg 0 _ rfl
        have g1 := hg 1 _ rfl
        have g2 := hg 2 _ rfl
        have g3 := hg 3 _ rfl
        simp [hC0, hC1, hC2] at g0 g1 g2 g3
        obtain ⟨x0, e0, _, v0⟩ := DataW.trod_int Try.underlying5 g0
        obtain ⟨x1, e1, _, v1⟩ := DataW.trod_int Try.underlying5 g1
        obtain ⟨x2, e2, _⟩ := DataW.trod_bool Try.underlying4 g2
        obtain ⟨x3, e3, _, v3⟩ := DataW.trod_int Try.underlying34 g3
        simp only [List.cons.injEq, and_true] at e0 e1 e2 e3
        subst e0 e1 e2 e3
        exact ⟨(x0, x1, x2, x3), ⟨(op8 v0).1, (op8 v0).2, (op8 v1).1, (op8 v1).2, op16 v3⟩, hat 0 (by omega), hat 1 (by omega), hat 2 (by omega), hat 3 (by omega)⟩
    obtain ⟨l, hll, hlx⟩ := list_of key
    refine ⟨some a, cap0, l, by rw [hll], fun i x hx => ?_, fun x hx => ?_⟩
    · obtain ⟨_, k0, k1, k2, k3⟩ := hlx i x hx
      obtain ⟨b, o, sp⟩ := a
      have hsp : sp = none := by
        have hlt := (List.getElem?_eq_some_iff.1 hx).1
        obtain ⟨_, j0, _⟩ := hlx 0 _ (List.getElem?_eq_getElem (by omega))
        simpa [Addr.add] using World.cell?_spot j0
      subst hsp
      rw [add_plain, add_plain] at k0 k1 k2 k3
      exact ⟨b, o, rfl, k0, k1, k2, k3⟩
    · obtain ⟨i, hi, rfl⟩ := List.mem_iff_getElem.1 hx
      exact (hlx i _ (List.getElem?_eq_getElem hi)).1

set_option maxRecDepth 100000 in
theorem open_three {H : Type} {enc : TypeId × Value → H} {w : World} {base : Nat} {spare : Nat → Bool} {held : Bool} {r : Reach} {b0 : Nat} {v : Value} {d : DataW H} {p : List MemPlace}
    (hv : Value.okWide Try.prog w r b0 68 v) (h : DataW.Trod enc Try.prog w base spare held 68 v d p) : ∃ x y z : Int, v = .agg #[.int .i64 x, .int .i64 y, .int .i64 z] ∧ I64 x ∧ I64 y ∧ I64 z := by
  unfold Value.okWide at hv
  rw [Try.underlying68] at hv
  obtain ⟨cs, rfl, hsz, _⟩ := hv
  have hC : Try.prog.cellsOf 68 = 3 := by kernel_rfl
  have hC0 : Try.prog.cellsOf 3 = 1 := by kernel_rfl
  rw [hC] at hsz
  obtain ⟨fuel, hf⟩ := h
  obtain ⟨xs, m, _, _, _, hxl, hg⟩ := DataW.trod_array Try.underlying68 hf
  obtain ⟨l⟩ := cs
  match l, hsz, xs, hxl with
  | [c0, c1, c2], _, [z0, z1, z2], _ =>
    have g0 := hg 0 (by omega)
    have g1 := hg 1 (by omega)
    have g2 := hg 2 (by omega)
    simp [hC0, Value.cells] at g0 g1 g2
    obtain ⟨x0, e0, _, v0⟩ := DataW.trod_int Try.underlying3 g0
    obtain ⟨x1, e1, _, v1⟩ := DataW.trod_int Try.underlying3 g1
    obtain ⟨x2, e2, _, v2⟩ := DataW.trod_int Try.underlying3 g2
    simp only [List.cons.injEq, and_true] at e0 e1 e2
    subst e0 e1 e2
    exact ⟨x0, x1, x2, rfl, bound64 v0, bound64 v1, bound64 v2⟩
end Go.Proofs.Ythocodmniofioaa
