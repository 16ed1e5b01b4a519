/- A set of timers in memory; the list of timers with one more. -/
import Derived.Test.YtomffkdfgfenpaaQIns
import Derived.Test.YtomffkdfgfenpaaQSrch
import Derived.BigQuiet
import Derived.Deep.RegionHeld3
namespace Go.Proofs.Ytomffkdfgfenpaa
open Go Go.RowKit

/-! The list, plainly. -/
/-- Behind all that are due no later. -/
def ins (x : T3) : List T3 → List T3
  | [] => [x]
  | y :: l => if x.2.1 < y.2.1 then x :: y :: l else y :: ins x l
def Srt (l : List T3) : Prop := l.Pairwise fun a b => a.2.1 ≤ b.2.1
theorem ins_len (x : T3) : ∀ l, (ins x l).length = l.length + 1
  | [] => rfl
  | y :: l => by
    unfold ins
    split
    · rfl
    · rw [List.length_cons, ins_len x l, List.length_cons]
theorem mem_ins (x : T3) : ∀ (l : List T3) (z : T3), z ∈ ins x l ↔ z = x ∨ z ∈ l
  | [], z => by simp [ins]
  | y :: l, z => by
    unfold ins
    split
    · simp
    · rw [List.mem_cons, mem_ins x l z, List.mem_cons]
      constructor
      · rintro (h | h | h)
        · exact .inr (.inl h)
        · exact .inl h
        · exact .inr (.inr h)
      · rintro (h | h | h)
        · exact .inr (.inl h)
        · exact .inl h
        · exact .inr (.inr h)
theorem ins_srt (x : T3) : ∀ {l : List T3}, Srt l → Srt (ins x l)
  | [], _ => List.pairwise_singleton _ _
  | y :: l, h => by
    obtain ⟨h1, h2⟩ := List.pairwise_cons.1 h
    unfold ins
    split
    · rename_i hlt
      refine List.pairwise_cons.2 ⟨fun z hz => ?_, h⟩
      rcases List.mem_cons.1 hz with rfl | hz
      · omega
      · have := h1 z hz
        omega
    · refine List.pairwise_cons.2 ⟨fun z hz => ?_, ins_srt x h2⟩
      rcases (mem_ins x l z).1 hz with rfl | hz
      · omega
      · exact h1 z hz
theorem ins_at (x : T3) : ∀ (l : List T3) (k : Nat), k ≤ l.length → (∀ t y, t < k → l[t]? = some y → y.2.1 ≤ x.2.1) → (∀ t y, k ≤ t → l[t]? = some y → x.2.1 < y.2.1) → l.take k ++ x :: l.drop k = ins x l
  | [], k, hk, _, _ => by
    have : k = 0 := by simpa using hk
    subst this
    rfl
  | y :: l, 0, _, _, h2 => by
    have := h2 0 y (Nat.le_refl _) rfl
    simp [ins, this]
  | y :: l, k + 1, hk, h1, h2 => by
    have hy := h1 0 y (by omega) rfl
    have ih := ins_at x l k (by simpa using hk) (fun t z ht hz => h1 (t + 1) z (by omega) (by simpa using hz)) (fun t z ht hz => h2 (t + 1) z (by omega) (by simpa using hz))
    unfold ins
    rw [if_neg (by omega), ← ih]
    simp
theorem Srt.le {l : List T3} (h : Srt l) {i j : Nat} {x y : T3} (hi : l[i]? = some x) (hj : l[j]? = some y) (hij : i ≤ j) : x.2.1 ≤ y.2.1 := by
  by_cases e : i = j
  · subst e
    rw [hi] at hj
    injection hj with hj
    subst hj
    exact Int.le_refl _
  · have hil := (List.getElem?_eq_some_iff.1 hi)
    have hjl := (List.getElem?_eq_some_iff.1 hj)
    obtain ⟨h1, rfl⟩ := hil
    obtain ⟨h2, rfl⟩ := hjl
    exact List.pairwise_iff_getElem.1 h i j h1 h2 (by omega)

theorem TR.timerAt {w : World} {base : Nat} {e : TypeId} {n g off c : Nat} {l : List T3} (h : TR w base e 3 (.slice (some ⟨g, off, none⟩) n c) n (trow l)) (hn : l.length = n) {i : Nat} {x : T3} (hi : l[i]? = some x) :
    w.cell? ⟨g, off + i * 3, none⟩ = some (.int .i64 x.1) ∧ w.cell? ⟨g, off + i * 3 + 1, none⟩ = some (.int .i64 x.2.1) ∧ w.cell? ⟨g, off + i * 3 + 2, none⟩ = some (.int .i64 x.2.2) := by
  have hlt := (List.getElem?_eq_some_iff.1 hi).1
  obtain ⟨h1, h2, h3⟩ := trow_get hi
  exact ⟨h.cellAt _ _ (by omega) h1, h.cellAt _ _ (by omega) h2, h.cellAt _ _ (by omega) h3⟩

/-! In memory. -/
structure TM (base : Nat) (w : World) (Q : Nat) (v : Value) (l : List T3) (nx : Int) : Prop where
  var : Whole w Q #[v, .int .i64 nx] 55
  row : TR w base 72 3 v l.length (trow l)
  low : base ≤ Q
section
variable {base : Nat} {w w' : World} {Q : Nat} {v : Value} {l : List T3} {nx : Int}
theorem TM.lt (h : TM base w Q v l nx) : ∀ k, Foot Q v k → base ≤ k ∧ k < w.heap.size := by
  rintro k (rfl | hk)
  · exact ⟨h.low, h.var.lt⟩
  · exact h.row.lt k hk
theorem TM.turns {S : Nat → Prop} (h : TM base w Q v l nx) (ht : Turns S w w') (hn : ∀ k, Foot Q v k → ¬ S k) : TM base w' Q v l nx :=
  ⟨h.var.turns ht (hn Q (.inl rfl)), h.row.turns ht (fun k hk => hn k (.inr hk)), h.low⟩
theorem TM.below (h : TM base w Q v l nx) (hb : Below w.heap.size w w') : TM base w' Q v l nx := h.turns (S := fun _ => False) (.of_below hb) fun _ _ => id
theorem TM.new (w : World) (base : Nat) (hb : base ≤ w.heap.size) : TM base (w.alloc (.cells #[.slice none 0 0, .int .i64 0] 55)) w.heap.size (.slice none 0 0) [] 0 :=
  ⟨Whole.new w _ _, TR.nil _ _ _ _, hb⟩
theorem TM.cells (h : TM base w Q v l nx) : w.cell? ⟨Q, 0, none⟩ = some v ∧ w.cell? ⟨Q, 1, none⟩ = some (.int .i64 nx) ∧ w.frozen? ⟨Q, 0, none⟩ = false ∧ w.frozen? ⟨Q, 1, none⟩ = false := ⟨h.var.cell 0, h.var.cell 1, h.var.free 0, h.var.free 1⟩
theorem TM.unlike {b : Nat} {cs : Array Value} {t : TypeId} (h : TM base w Q v l nx) (hb : Whole w b cs t) (h1 : t ≠ 55) (h2 : t ≠ 72) : ¬ Foot Q v b := by
  rintro (e | e)
  · exact Whole.unlike hb h.var h1 e
  · exact h.row.unlike hb h2.symm e
/-- The counter is stored. -/
theorem TM.next (h : TM base w Q v l nx) (y : Int) : TM base (w.setCell ⟨Q, 1, none⟩ (.int .i64 y)) Q v l y ∧ AStep w (w.setCell ⟨Q, 1, none⟩ (.int .i64 y)) (Foot Q v) (Foot Q v) := by
  have g2 : w.grownBy (w.setCell ⟨Q, 1, none⟩ (.int .i64 y)) (some Q) := gb_put (gb_of_below (Below.refl w.heap.size w) (some Q)) 1 _
  have hne : v.ownBlock ≠ some Q := h.row.unlike h.var (by decide)
  refine ⟨⟨h.var.put 1 _, h.row.turns (.of_grown g2 (S := fun k => k = Q) (fun k hk => by simpa using hk.symm)) (fun k hk e => hne (e ▸ hk)), h.low⟩, .of_grown g2 (fun k hk => .inl (by simpa using hk.symm)), fun _ _ x => x⟩
/-- A new slice is stored, whose row has grown out of the old one. -/
theorem TM.grow {w1 : World} {v' : Value} {l' : List T3} (h : TM base w Q v l nx) (h1 : Below w.heap.size w w1) (g : w1.grownBy w' v.ownBlock) (o : TR w' base 72 3 v' l'.length (trow l')) (f : Fresh w1 v v') :
    Whole w' Q #[v, .int .i64 nx] 55 ∧ TM base (w'.setCell ⟨Q, 0, none⟩ v') Q v' l' nx ∧ AStep w (w'.setCell ⟨Q, 0, none⟩ v') (Foot Q v) (Foot Q v') := by
  have hv1 : Whole w1 Q #[v, .int .i64 nx] 55 := h.var.below h1 h.var.lt
  have hv' : Whole w' Q #[v, .int .i64 nx] 55 := hv1.grown g (fun e => h.row.unlike h.var (by decide) e.symm)
  have g2 : w'.grownBy (w'.setCell ⟨Q, 0, none⟩ v') (some Q) := gb_put (gb_of_below (Below.refl w'.heap.size w') (some Q)) 0 v'
  have hne : v'.ownBlock ≠ some Q := o.unlike hv' (by decide)
  refine ⟨hv', ⟨hv'.put 0 v', o.turns (.of_grown g2 (S := fun k => k = Q) (fun k hk => by simpa using hk.symm)) (fun k hk e => hne (e ▸ hk)), h.low⟩, ?_, ?_⟩
  · refine (Turns.of_below (S := Foot Q v) h1).trans ((Turns.of_grown g (S := Foot Q v) fun k hk => .inr hk).trans (U := Foot Q v) (Turns.of_grown g2 (S := Foot Q v) fun k hk => .inl (by simpa using hk.symm)) (fun _ _ x => x) (fun _ _ x => x)) (fun _ _ x => x) (fun _ _ x => x)
  · rintro k hk (rfl | hx)
    · exact .inl rfl
    · rcases f with e | e
      · exact .inr (e ▸ hx)
      · have := e k hx
        have := h1.size
        omega
theorem TM.cut {v' : Value} {l' : List T3} (h : TM base w Q v l nx) (o : TR w base 72 3 v' l'.length (trow l')) (f : v'.ownBlock = v.ownBlock) :
    TM base (w.setCell ⟨Q, 0, none⟩ v') Q v' l' nx ∧ AStep w (w.setCell ⟨Q, 0, none⟩ v') (Foot Q v) (Foot Q v') := by
  obtain ⟨_, h2, h3⟩ := h.grow (Below.refl _ w) ⟨rfl, rfl, rfl, Nat.le_refl _, fun _ _ _ => rfl⟩ o (.inl f)
  exact ⟨h2, h3⟩
theorem TM.timer {A : Option Addr} {c : Nat} (h : TM base w Q (.slice A l.length c) l nx) {i : Nat} {x : T3} (hi : l[i]? = some x) : ∃ g off, A = some ⟨g, off, none⟩ ∧ l.length ≤ c ∧ w.cell? ⟨g, off + i * 3, none⟩ = some (.int .i64 x.1) ∧ w.cell? ⟨g, off + i * 3 + 1, none⟩ = some (.int .i64 x.2.1) ∧ w.cell? ⟨g, off + i * 3 + 2, none⟩ = some (.int .i64 x.2.2) := by
  have hlt := (List.getElem?_eq_some_iff.1 hi).1
  obtain ⟨g, off, hA, _, hnc, hc, _⟩ := h.row.cells (by omega)
  obtain ⟨h1, h2, h3⟩ := trow_get hi
  exact ⟨g, off, hA, hnc, hc _ _ (by omega) h1, hc _ _ (by omega) h2, hc _ _ (by omega) h3⟩
end

/-! The closure of insert. -/
set_option maxRecDepth 100000 in
set_option maxHeartbeats 1000000 in
theorem ins1_any (base Q : Nat) (v : Value) (l : List T3) (nx due : Int) (B3 B5 i : Nat) (x : T3) (w : World) (h : TM base w Q v l nx) (h3 : Whole w B3 #[.pointer (some ⟨Q, 0, none⟩)] 79) (h5 : Whole w B5 #[.int .i64 due] 3) (hi : l[i]? = some x) :
    Calls Try.prog 45 #[.int .i64 i, .pointer (some ⟨B3, 0, none⟩), .pointer (some ⟨B5, 0, none⟩)] w fun e w' => e = .returned (.bool (decide (due < x.2.1))) ∧ Below w.heap.size w w' := by
  obtain ⟨A, c, rfl⟩ := h.row.form
  have hlt := (List.getElem?_eq_some_iff.1 hi).1
  obtain ⟨g, off, rfl, _, _, c1, _⟩ := h.timer hi
  have k3 : w.cell? ⟨B3, 0, none⟩ = some (.pointer (some ⟨Q, 0, none⟩)) := h3.cell 0
  have k5 : w.cell? ⟨B5, 0, none⟩ = some (.int .i64 due) := h5.cell 0
  obtain ⟨k1, k2, _, _⟩ := h.cells
  have hii : (i : Int) < (l.length : Int) := by omega
  have hi0 : (0 : Int) ≤ (i : Int) := by omega
  go_enter Try.func45, Try.ntmps45
  clear h h3 h5 hi
  go_wp2_with fail
  go_quiet (fail)
  go_wp2_with fail
  go_ret
  exact ⟨rfl, rfl, rfl, rfl, Nat.le_refl _, fun _ _ => rfl⟩
end Go.Proofs.Ytomffkdfgfenpaa
