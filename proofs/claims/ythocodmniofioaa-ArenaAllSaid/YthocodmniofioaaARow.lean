/- A row of numbers of the call's own (the handles that were given out), and one more. No program is imported. -/
import Derived.Test.YthocodmniofioaaAMem
import Derived.Test.YthocodmniofioaaAApp
import Derived.Test.YthocodmniofioaaATab
namespace Go.Proofs.Ythocodmniofioaa
open Go Go.RowKit

def ints (l : List Int) : List Value := l.map fun i => .int .i64 i
theorem ints_len (l : List Int) : (ints l).length = l.length := by simp [ints]
theorem ints_append (a b : List Int) : ints (a ++ b) = ints a ++ ints b := by simp [ints]
theorem ints_one (l : List Int) : ∀ u ∈ ints l, u.oneCell' = true := by
  intro u hu
  obtain ⟨i, _, rfl⟩ := List.mem_map.1 hu
  rfl
theorem ints_get {l : List Int} {i : Nat} {x : Int} (h : l[i]? = some x) : (ints l)[i]? = some (.int .i64 x) := by simp [ints, h]
/-- A row of numbers that lies apart from an arena. -/
def Row (E : TypeId) (base : Nat) (w : World) (v : Value) (l : List Int) (F : Nat → Prop) : Prop :=
  w.ownsRow base E 1 v l.length (ints l) ∧ ∀ k, v.ownBlock = some k → ¬ F k
section
variable {E : TypeId} {base : Nat} {w w' : World} {v v' : Value} {l : List Int} {F F' : Nat → Prop}
theorem Row.nil (E : TypeId) (base : Nat) (w : World) (F : Nat → Prop) : Row E base w (.slice none 0 0) [] F :=
  ⟨World.ownsRow_nil _ _ _ _, fun k h => by simp [Value.ownBlock] at h⟩
theorem Row.step (h : Row E base w v l F) (hs : AStep w w' F F') : Row E base w' v l F' :=
  ⟨own_turns h.1 hs.1 h.2, fun k hk hf => h.2 k hk (hs.2 k (h.1.lt k hk).2 hf)⟩
theorem Row.turns (h : Row E base w v l F) (ht : Turns F w w') : Row E base w' v l F := ⟨own_turns h.1 ht h.2, h.2⟩
theorem Row.below (h : Row E base w v l F) (hb : Below w.heap.size w w') : Row E base w' v l F := ⟨own_turns (S := fun _ => False) h.1 (.of_below hb) (fun _ _ => id), h.2⟩
theorem Row.slice (h : Row E base w v l F) : ∃ A c, v = .slice A l.length c := own_form h.1
/-- One of its cells. -/
theorem Row.len {A : Option Addr} {n c : Nat} (h : Row E base w (.slice A n c) l F) : n = l.length := by
  obtain ⟨_, _, e⟩ := h.slice
  injection e
theorem Row.cell {A : Option Addr} {n c : Nat} (h : Row E base w (.slice A n c) l F) {i : Nat} {x : Int} (hi : l[i]? = some x) : ∃ g, A = some ⟨g, 0, none⟩ ∧ w.cell? ⟨g, i, none⟩ = some (.int .i64 x) := by
  have hn := h.len
  subst hn
  have hlt := (List.getElem?_eq_some_iff.1 hi).1
  obtain ⟨g, hg, _, hc⟩ := own_cells (w := w) (A := A) (c := c) (n := l.length) (xs := ints l) (size := 1) (e := E) (by
    have := h.1
    refine ⟨this.1, ?_⟩
    rcases this.2 with hn | ⟨g, cap, cur, hv, _, hr⟩
    · exact .inl hn
    · exact .inr ⟨g, cap, cur, hv, Nat.zero_le _, hr⟩) (by omega)
  exact ⟨g, hg, hc i _ (ints_get hi)⟩
theorem Row.cell' {g n c : Nat} (h : Row E base w (.slice (some ⟨g, 0, none⟩) n c) l F) {i : Nat} {x : Int} (hi : l[i]? = some x) : w.cell? ⟨g, i, none⟩ = some (.int .i64 x) := by
  obtain ⟨g', hg, hc⟩ := h.cell hi
  have e : g = g' := by injection hg with hg; injection hg
  rw [e]; exact hc
/-- The one number that is appended, in a row of its own. -/
theorem row_one (w : World) (E : TypeId) (x : Int) : (w.alloc (.cells #[.int .i64 x] E)).ownsRow 0 E 1 (.slice (some ⟨w.heap.size, 0, none⟩) 1 1) 1 (ints [x]) :=
  World.ownsRow_lit (base := 0) (e := E) (size := 1) w #[.int .i64 x] 1 (by simp) (by unfold maxLen; omega) rfl
/-- The row has grown by itself; the arena lies where it lay. -/
theorem Row.push {T St E' : TypeId} {n B len live : Nat} {b s x : Int} {xs : List Value} {fr : List Nat} (hA : AM T St E' n base w B b s len xs fr live F) (h : Row E base w v l F)
    (ho : w'.ownsRow base E 1 v' (l.length + 1) (ints l ++ ints [x])) (hg : w.grownBy w' v.ownBlock) (hf : Fresh w v v') :
    AM T St E' n base w' B b s len xs fr live F ∧ Row E base w' v' (l ++ [x]) F ∧ Turns (fun k => v.ownBlock = some k) w w' := by
  have ht : Turns (fun k => v.ownBlock = some k) w w' := .of_grown hg (fun k hk => hk)
  refine ⟨hA.turns ht (fun k hk hv => h.2 k hv hk), ⟨?_, fun k hk hF => ?_⟩, ht⟩
  · rw [ints_append, List.length_append]; exact ho
  · rcases hf with e | e
    · exact h.2 k (e ▸ hk) hF
    · have h1 := e k hk
      have h2 := (hA.lt k hF).2
      omega
end
end Go.Proofs.Ythocodmniofioaa
