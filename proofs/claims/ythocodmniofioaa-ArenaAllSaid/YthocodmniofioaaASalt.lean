/- A Salt that comes in by value: its two numbers. -/
import Derived.Test.YthocodmniofioaaARef
import Derived.Lib.SmallJoins
import Derived.ProofKit
namespace Go.Proofs.Ythocodmniofioaa
open Go Go.RowKit Go.Joins

theorem bound64 {n : Int} (h : (Lit.int .i64 n).wf = true) : I64 n := by
  simpa [I64, Lit.wf, IntKind.min, IntKind.max, IntKind.bits, IntKind.signed] using h
set_option maxRecDepth 100000 in
theorem open_salt {H : Type} {enc : TypeId × Value → H} {w : World} {base : Nat} {spare : Nat → Bool} {held : Bool} {r : Reach} {b0 : Nat} {v : Value} {d : DataW H} {p : List MemPlace}
    (hv : Value.okWide Try.prog w r b0 23 v) (h : DataW.Trod enc Try.prog w base spare held 23 v d p) : ∃ b s : Int, v = saltV b s ∧ I64 b ∧ I64 s := by
  obtain ⟨c0, c1, y0, y1, n, rfl, rfl, rfl, h0, h1⟩ := open_agg2 Try.underlying23 (by kernel_rfl) (by kernel_rfl) hv h
  obtain ⟨a, e0, rfl, wa⟩ := DataW.trod_int Try.underlying3 h0
  obtain ⟨e, e1, rfl, we⟩ := DataW.trod_int Try.underlying3 h1
  simp only [List.cons.injEq, and_true] at e0 e1
  subst e0 e1
  exact ⟨a, e, rfl, bound64 wa, bound64 we⟩
end Go.Proofs.Ythocodmniofioaa
