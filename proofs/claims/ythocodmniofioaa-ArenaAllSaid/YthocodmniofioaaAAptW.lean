/- Blocks that are no blocks of an arena, by their types. No program is imported. -/
import Derived.Test.YthocodmniofioaaAStep
namespace Go.Proofs.Ythocodmniofioaa
open Go Go.RowKit

section
variable {T St E : TypeId} {n base B len live : Nat} {w w' : World} {b s : Int} {xs : List Value} {fr : List Nat} {F S : Nat → Prop}
theorem AM.not_whole (h : AM T St E n base w B b s len xs fr live F) {k : Nat} {cs : Array Value} {t : TypeId} (hk : Whole w k cs t) (h1 : t ≠ T) (h2 : t ≠ St) (h3 : t ≠ E) : ¬ F k := by
  obtain ⟨vs, vf, k1, _, k3, k4, rfl⟩ := h
  rintro (rfl | hx | hx)
  · exact Whole.unlike hk k1 h1 rfl
  · exact own_unlike k3 hk h2.symm hx
  · exact own_unlike k4 hk h3.symm hx
theorem AM.not_row (h : AM T St E n base w B b s len xs fr live F) {e : TypeId} {b' sz m : Nat} {v : Value} {ys : List Value} (hr : w.ownsRow b' e sz v m ys) (h1 : e ≠ T) (h2 : e ≠ St) (h3 : e ≠ E) : ∀ k, v.ownBlock = some k → ¬ F k := by
  intro k hk
  rcases hr.2 with ⟨rfl, _⟩ | ⟨g, cap, cur, rfl, _, hg, _⟩
  · simp [Value.ownBlock] at hk
  · have e' : g = k := by simpa [Value.ownBlock] using hk
    subst e'
    exact h.not_whole (show Whole w g cur e from hg) h1 h2 h3
end
end Go.Proofs.Ythocodmniofioaa
