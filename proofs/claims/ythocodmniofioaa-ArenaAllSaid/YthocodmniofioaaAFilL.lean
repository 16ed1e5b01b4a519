/- An arena that was filled, laid in a variable. -/
import Derived.Test.YthocodmniofioaaAFilW
import Derived.Test.YthocodmniofioaaAAptW
import Derived.Test.YthocodmniofioaaAOkp
namespace Go.Proofs.Ythocodmniofioaa
open Go.RowKit

theorem Filled.laid {base : Nat} {w : World} {b s : Int} {n : Nat} {cs : List (Option Int)} {fr : List Nat} {vs vf vg : Value} (h : Filled base w b s n cs fr vs vf vg) (hb : base ≤ w.heap.size) :
    AI base (w.alloc (.cells #[.int .i64 b, .int .i64 s, vs, vf, .int .i64 (Ar.live cs : Nat)] 29)) w.heap.size b s cs fr (Foot w.heap.size vs vf) ∧
    Row 3 base (w.alloc (.cells #[.int .i64 b, .int .i64 s, vs, vf, .int .i64 (Ar.live cs : Nat)] 29)) vg (Ar.tab n fun j => Ar.hdl b s j) (Foot w.heap.size vs vf) := by
  obtain ⟨h1, h2, h3, h4, h5⟩ := h
  refine ⟨⟨vs, vf, Whole.new w _ _, hb, h1.alloc _, h2.alloc _, rfl⟩, ⟨?_, ?_⟩⟩
  · rw [Ar.tab_len]; exact h3.alloc _
  · rintro k hk (rfl | hx | hx)
    · have := (h3.lt _ hk).2; omega
    · exact h5 k hk hx
    · exact h4 k hk hx
theorem Filled.slices {base : Nat} {w : World} {b s : Int} {n : Nat} {cs : List (Option Int)} {fr : List Nat} {vs vf vg : Value} (h : Filled base w b s n cs fr vs vf vg) :
    ∃ A c A' c' Ag cg, vs = .slice A cs.length c ∧ vf = .slice A' fr.length c' ∧ vg = .slice Ag n cg := by
  obtain ⟨A, c, rfl⟩ := own_slice (own_zero h.1)
  obtain ⟨A', c', rfl⟩ := own_slice (own_zero h.2.1)
  obtain ⟨Ag, cg, rfl⟩ := own_slice (own_zero h.2.2.1)
  exact ⟨A, c, A', c', Ag, cg, rfl, rfl, rfl⟩
end Go.Proofs.Ythocodmniofioaa
