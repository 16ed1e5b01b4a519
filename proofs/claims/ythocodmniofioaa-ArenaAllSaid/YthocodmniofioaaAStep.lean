/- What the steps of an arena's methods do to the arena in memory. No program is imported. -/
import Derived.Test.YthocodmniofioaaAMem
import Derived.Test.YthocodmniofioaaAVac
import Derived.Test.YthocodmniofioaaARow
import Derived.Test.YthocodmniofioaaASet
import Derived.Test.YthocodmniofioaaAAdd
namespace Go.Proofs.Ythocodmniofioaa
open Go Go.RowKit

theorem own_ne {w : World} {b1 b2 s1 s2 n1 n2 : Nat} {e1 e2 : TypeId} {v1 v2 : Value} {x1 x2 : List Value} (h1 : w.ownsRow b1 e1 s1 v1 n1 x1) (h2 : w.ownsRow b2 e2 s2 v2 n2 x2) (hn : e1 ≠ e2) : v1.ownBlock = none ∨ v1.ownBlock ≠ v2.ownBlock := by
  rcases h1.2 with ⟨rfl, _⟩ | ⟨g, cap, cur, rfl, _, hg, _⟩
  · exact .inl rfl
  · refine .inr fun e => ?_
    rcases h2.2 with ⟨rfl, _⟩ | ⟨g', cap', cur', rfl, _, hg', _⟩
    · simp [Value.ownBlock] at e
    · have e' : g = g' := by simpa [Value.ownBlock] using e
      subst e'
      rw [hg] at hg'
      injection hg' with hg'
      injection hg' with _ h2
      exact hn h2
theorem AStep.trans {w w1 w2 : World} {F F1 F2 : Nat → Prop} (h : AStep w w1 F F1) (h' : AStep w1 w2 F1 F2) : AStep w w2 F F2 :=
  ⟨h.1.trans h'.1 (fun _ _ x => x) (fun k hk x => h.2 k hk x), fun k hk x => h.2 k hk (h'.2 k (Nat.lt_of_lt_of_le hk h.1.size) x)⟩
theorem AStep.of_turns {w w1 : World} {F : Nat → Prop} (h : Turns F w w1) : AStep w w1 F F := ⟨h, fun _ _ x => x⟩
theorem AStep.of_below {w w1 : World} {F : Nat → Prop} (h : Below w.heap.size w w1) : AStep w w1 F F := .of_turns (.of_below h)

section
variable {T St E : TypeId} {n base B len len' live : Nat} {w w1 w5 : World} {b s : Int} {xs xs' : List Value} {fr fr' : List Nat} {vs vf v5 : Value}
/-- An arena in memory, its two slices by name. -/
def AMv (T St E : TypeId) (n base : Nat) (w : World) (B : Nat) (b s : Int) (vs : Value) (len : Nat) (xs : List Value) (vf : Value) (fr : List Nat) (live : Nat) : Prop :=
  Whole w B #[.int .i64 b, .int .i64 s, vs, vf, .int .i64 live] T ∧ base ≤ B ∧ w.ownsRow base St n vs len xs ∧ w.ownsRow base E 1 vf fr.length (Ar.nums fr) ∧ St ≠ T ∧ E ≠ T ∧ E ≠ St
theorem AMv.am (h : AMv T St E n base w B b s vs len xs vf fr live) : AM T St E n base w B b s len xs fr live (Foot B vs vf) := ⟨vs, vf, h.1, h.2.1, h.2.2.1, h.2.2.2.1, rfl⟩
theorem AMv.lt (h : AMv T St E n base w B b s vs len xs vf fr live) : B < w.heap.size := h.1.lt
theorem AM.opened {F : Nat → Prop} (h : AM T St E n base w B b s len xs fr live F) (h1 : St ≠ T) (h2 : E ≠ T) (h3 : E ≠ St) : ∃ A c A' c', AMv T St E n base w B b s (.slice A len c) len xs (.slice A' fr.length c') fr live ∧ F = Foot B (.slice A len c) (.slice A' fr.length c') := by
  obtain ⟨vs, vf, k1, k2, k3, k4, k5⟩ := h
  obtain ⟨A, c, rfl⟩ := own_slice (own_zero k3)
  obtain ⟨A', c', rfl⟩ := own_slice (own_zero k4)
  exact ⟨A, c, A', c', ⟨k1, k2, k3, k4, h1, h2, h3⟩, k5⟩
theorem AMv.turns {S : Nat → Prop} (h : AMv T St E n base w B b s vs len xs vf fr live) (ht : Turns S w w1) (hn : ∀ k, Foot B vs vf k → ¬ S k) : AMv T St E n base w1 B b s vs len xs vf fr live :=
  ⟨h.1.turns ht (hn B (.inl rfl)), h.2.1, own_turns h.2.2.1 ht (fun k hk => hn k (.inr (.inl hk))), own_turns h.2.2.2.1 ht (fun k hk => hn k (.inr (.inr hk))), h.2.2.2.2⟩
theorem AMv.below (h : AMv T St E n base w B b s vs len xs vf fr live) (hb : Below w.heap.size w w1) : AMv T St E n base w1 B b s vs len xs vf fr live :=
  h.turns (S := fun _ => False) (.of_below hb) (fun _ _ => id)
theorem AMv.cells (h : AMv T St E n base w B b s vs len xs vf fr live) : w.cell? ⟨B, 0, none⟩ = some (.int .i64 b) ∧ w.cell? ⟨B, 1, none⟩ = some (.int .i64 s) ∧ w.cell? ⟨B, 2, none⟩ = some vs ∧ w.cell? ⟨B, 3, none⟩ = some vf ∧ w.cell? ⟨B, 4, none⟩ = some (.int .i64 live) :=
  ⟨h.1.cell 0, h.1.cell 1, h.1.cell 2, h.1.cell 3, h.1.cell 4⟩
/-- The slots' slice has grown. -/
theorem AMv.grow_slots (h : AMv T St E n base w B b s vs len xs vf fr live) (h1 : Below w.heap.size w w1) (g : w1.grownBy w5 vs.ownBlock) (o : w5.ownsRow base St n v5 len' xs') (f : Fresh w1 vs v5) :
    Whole w5 B #[.int .i64 b, .int .i64 s, vs, vf, .int .i64 live] T ∧ AMv T St E n base (w5.setCell ⟨B, 2, none⟩ v5) B b s v5 len' xs' vf fr live ∧ AStep w (w5.setCell ⟨B, 2, none⟩ v5) (Foot B vs vf) (Foot B v5 vf) := by
  have k := h.below h1
  obtain ⟨k1, k2, k3, k4, t1, t2, t3⟩ := k
  have hW : Whole w5 B #[.int .i64 b, .int .i64 s, vs, vf, .int .i64 live] T := k1.grown g (fun e => own_unlike k3 k1 t1 e.symm)
  have hvf := k4.kept g (own_ne k4 k3 t3)
  have gp : w5.grownBy (w5.setCell ⟨B, 2, none⟩ v5) (some B) := gb_put (gb_of_below (Below.refl w5.heap.size w5) _) 2 v5
  have o' := o.kept gp (.inr (own_unlike o hW t1))
  have hvf' := hvf.kept gp (.inr (own_unlike hvf hW t2))
  refine ⟨hW, ⟨hW.put 2 v5, k2, o', hvf', t1, t2, t3⟩, ?_, ?_⟩
  · have a1 : Turns (Foot B vs vf) w w1 := .of_below h1
    have a2 : Turns (Foot B vs vf) w1 w5 := .of_grown g (fun k hk => .inr (.inl hk))
    have a3 : Turns (Foot B vs vf) w5 (w5.setCell ⟨B, 2, none⟩ v5) := .of_grown gp (fun k hk => .inl (by simpa using hk.symm))
    exact (a1.trans a2 (fun _ _ x => x) (fun _ _ x => x)).trans a3 (fun _ _ x => x) (fun _ _ x => x)
  · rintro k hk (rfl | hx | hx)
    · exact .inl rfl
    · rcases f with f | f
      · exact .inr (.inl (f ▸ hx))
      · exact absurd (Nat.lt_of_lt_of_le hk h1.size) (Nat.not_lt.2 (f k hx))
    · exact .inr (.inr hx)
/-- The free slots' slice has grown, or is another one of the same row. -/
theorem AMv.grow_free (h : AMv T St E n base w B b s vs len xs vf fr live) (h1 : Below w.heap.size w w1) (g : w1.grownBy w5 vf.ownBlock) (o : w5.ownsRow base E 1 v5 fr'.length (Ar.nums fr')) (f : Fresh w1 vf v5) :
    Whole w5 B #[.int .i64 b, .int .i64 s, vs, vf, .int .i64 live] T ∧ AMv T St E n base (w5.setCell ⟨B, 3, none⟩ v5) B b s vs len xs v5 fr' live ∧ AStep w (w5.setCell ⟨B, 3, none⟩ v5) (Foot B vs vf) (Foot B vs v5) := by
  have k := h.below h1
  obtain ⟨k1, k2, k3, k4, t1, t2, t3⟩ := k
  have hW : Whole w5 B #[.int .i64 b, .int .i64 s, vs, vf, .int .i64 live] T := k1.grown g (fun e => own_unlike k4 k1 t2 e.symm)
  have hvs := k3.kept g (own_ne k3 k4 t3.symm)
  have gp : w5.grownBy (w5.setCell ⟨B, 3, none⟩ v5) (some B) := gb_put (gb_of_below (Below.refl w5.heap.size w5) _) 3 v5
  have o' := o.kept gp (.inr (own_unlike o hW t2))
  have hvs' := hvs.kept gp (.inr (own_unlike hvs hW t1))
  refine ⟨hW, ⟨hW.put 3 v5, k2, hvs', o', t1, t2, t3⟩, ?_, ?_⟩
  · have a1 : Turns (Foot B vs vf) w w1 := .of_below h1
    have a2 : Turns (Foot B vs vf) w1 w5 := .of_grown g (fun k hk => .inr (.inr hk))
    have a3 : Turns (Foot B vs vf) w5 (w5.setCell ⟨B, 3, none⟩ v5) := .of_grown gp (fun k hk => .inl (by simpa using hk.symm))
    exact (a1.trans a2 (fun _ _ x => x) (fun _ _ x => x)).trans a3 (fun _ _ x => x) (fun _ _ x => x)
  · rintro k hk (rfl | hx | hx)
    · exact .inl rfl
    · exact .inr (.inl hx)
    · rcases f with f | f
      · exact .inr (.inr (f ▸ hx))
      · exact absurd (Nat.lt_of_lt_of_le hk h1.size) (Nat.not_lt.2 (f k hx))
/-- The count is another. -/
theorem AMv.count (h : AMv T St E n base w B b s vs len xs vf fr live) (live' : Nat) (z : Int) (hz : z = (live' : Int)) :
    AMv T St E n base (w.setCell ⟨B, 4, none⟩ (.int .i64 z)) B b s vs len xs vf fr live' ∧ AStep w (w.setCell ⟨B, 4, none⟩ (.int .i64 z)) (Foot B vs vf) (Foot B vs vf) := by
  subst hz
  obtain ⟨k1, k2, k3, k4, t1, t2, t3⟩ := h
  have gp : w.grownBy (w.setCell ⟨B, 4, none⟩ (.int .i64 live')) (some B) := gb_put (gb_of_below (Below.refl w.heap.size w) _) 4 _
  exact ⟨⟨k1.put 4 _, k2, k3.kept gp (.inr (own_unlike k3 k1 t1)), k4.kept gp (.inr (own_unlike k4 k1 t2)), t1, t2, t3⟩, .of_turns (.of_grown gp (fun k hk => .inl (by simpa using hk.symm)))⟩
/-- A cell of a slot is another. -/
theorem AMv.put {g c : Nat} (h : AMv T St E n base w B b s (.slice (some ⟨g, 0, none⟩) len c) len xs vf fr live) (j : Nat) (u : Value) :
    AMv T St E n base (w.setCell ⟨g, j, none⟩ u) B b s (.slice (some ⟨g, 0, none⟩) len c) len (xs.set j u) vf fr live ∧ AStep w (w.setCell ⟨g, j, none⟩ u) (Foot B (.slice (some ⟨g, 0, none⟩) len c) vf) (Foot B (.slice (some ⟨g, 0, none⟩) len c) vf) := by
  obtain ⟨k1, k2, k3, k4, t1, t2, t3⟩ := h
  obtain ⟨o, gp⟩ := k3.stored j u
  have hne := own_unlike k3 k1 t1
  have hk4 := own_ne k4 k3 t3
  exact ⟨⟨k1.grown gp (fun e => hne (by simpa [Value.ownBlock] using e.symm)), k2, o, k4.kept gp (by simpa [Value.ownBlock] using hk4), t1, t2, t3⟩, .of_turns (.of_grown gp (fun k hk => .inr (.inl (by simpa [Value.ownBlock] using hk))))⟩
/-- A slot's cell. -/
theorem AMv.slot {A : Option Addr} {c : Nat} (h : AMv T St E n base w B b s (.slice A len c) len xs vf fr live) (hl : 0 < len) : ∃ g, A = some ⟨g, 0, none⟩ ∧ g ≠ B ∧ ∀ j, j < len * n → w.cell? ⟨g, j, none⟩ = xs[j]? ∧ w.frozen? ⟨g, j, none⟩ = false := by
  obtain ⟨g, rfl, _, _⟩ := own_cells (own_zero h.2.2.1) hl
  refine ⟨g, rfl, fun e => own_unlike h.2.2.1 h.1 h.2.2.2.2.1 (by simp [Value.ownBlock, e]), fun j hj => ⟨h.2.2.1.cellAt j hj, h.2.2.1.frozenAt j⟩⟩
/-- The address of a slot's record. -/
def slotPtr (n : Nat) (vs : Value) (o : Option Nat) : Option Addr :=
  match o, vs with
  | some i, .slice (some a) _ _ => some ⟨a.block, i * n + 1, none⟩
  | _, _ => none
end
end Go.Proofs.Ythocodmniofioaa
