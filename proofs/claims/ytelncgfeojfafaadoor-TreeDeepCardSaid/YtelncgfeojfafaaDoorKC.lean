/- Rows of the call's own, what a step turns, a row of numbers. No program is imported. -/
import Derived.Lib.Hide
import Derived.Test.YtelncgfeojfafaaDoorProg
import Derived.Below
import Derived.BigQuiet
import Derived.Deep.QuietTactic
import Derived.Deep.RegionHeld3
import Derived.Deep.RegionWith
import Derived.Deep.DrawnRows
import Derived.WalkKit
import Derived.Test.YtelncgfeojfafaaDoorKA
namespace Go.Proofs.YtelncgfeojfafaaDoor
open Go Go.RowKit
set_option linter.unusedVariables false
set_option linter.unusedSimpArgs false

/-- A whole number of 64 bits. -/
def I64 (n : Int) : Prop := -9223372036854775808 ≤ n ∧ n ≤ 9223372036854775807
/-- A Salt as a value. -/
abbrev saltV (b s : Int) : Value := .agg #[.int .i64 b, .int .i64 s]
theorem aretI {a b : Int} (h : a = b) : Ending.returned (.int .i64 a) = .returned (.int .i64 b) := by rw [h]
theorem aretB {a b : Bool} (h : a = b) : Ending.returned (.bool a) = .returned (.bool b) := by rw [h]
theorem quiet_below {n : Nat} {w w' : World} (h : Below n w w') (m : Nat) : Below n w (w'.drewN m) := h.trans ⟨rfl, rfl, rfl, Nat.le_refl _, fun _ _ => rfl⟩
theorem w64i {x : Int} (h1 : -9223372036854775808 ≤ x) (h2 : x ≤ 9223372036854775807) : IntKind.i64.wrap x = x := by
  rw [IntKind.wrap_i64]
  omega
/-- Numbers as cells. -/
def nums (fr : List Nat) : List Value := fr.map fun (i : Nat) => Value.int .i64 (i : Int)
theorem nums_append (a b : List Nat) : nums (a ++ b) = nums a ++ nums b := by simp [nums]
theorem nums_len (a : List Nat) : (nums a).length = a.length := by simp [nums]
theorem own_below {w w' : World} {e : TypeId} {size : Nat} {v : Value} {n : Nat} {xs : List Value} (h : w.ownsRow 0 e size v n xs) (hb : Below w.heap.size w w') : w'.ownsRow 0 e size v n xs := by
  refine ⟨h.1, ?_⟩
  rcases h.2 with hn | ⟨g, cap, cur, rfl, h0, hg, hr⟩
  · exact .inl hn
  · exact .inr ⟨g, cap, cur, rfl, h0, (hb.block g (Array.getElem?_eq_some_iff.1 hg).1).trans hg, hr⟩
theorem own_zero {w : World} {B : Nat} {e : TypeId} {size : Nat} {v : Value} {n : Nat} {xs : List Value} (h : w.ownsRow B e size v n xs) : w.ownsRow 0 e size v n xs := by
  refine ⟨h.1, ?_⟩
  rcases h.2 with hn | ⟨g, cap, cur, hv, _, hr⟩
  · exact .inl hn
  · exact .inr ⟨g, cap, cur, hv, Nat.zero_le _, hr⟩
theorem own_slice {w : World} {e : TypeId} {size : Nat} {v : Value} {n : Nat} {xs : List Value} (h : w.ownsRow 0 e size v n xs) : ∃ A c, v = .slice A n c := by
  rcases h.2 with ⟨rfl, rfl⟩ | ⟨g, cap, cur, rfl, _⟩
  · exact ⟨none, 0, rfl⟩
  · exact ⟨_, _, rfl⟩
/-- A row that is not empty, and its cells. -/
theorem own_cells {w : World} {e : TypeId} {size : Nat} {A : Option Addr} {c n : Nat} {xs : List Value} (h : w.ownsRow 0 e size (.slice A n c) n xs) (hn : 0 < n) : ∃ g, A = some ⟨g, 0, none⟩ ∧ g < w.heap.size ∧ ∀ j u, xs[j]? = some u → w.cell? ⟨g, j, none⟩ = some u := by
  have hh := h
  rcases h.2 with ⟨_, rfl⟩ | ⟨g, cap, cur, hv, _, hg, _⟩
  · omega
  · injection hv with hA _ _
    subst hA
    refine ⟨g, rfl, (Array.getElem?_eq_some_iff.1 hg).1, fun j u hu => ?_⟩
    have := hh.cells rfl j u hu
    have e : (⟨g, 0, none⟩ : Addr).add j = ⟨g, j, none⟩ := by unfold Addr.add; split <;> simp_all
    rwa [e] at this

theorem own_unlike {W : World} {B base size : Nat} {e T : TypeId} {cs : Array Value} {v : Value} {n : Nat} {xs : List Value} (h : W.ownsRow base e size v n xs) (hb : Whole W B cs T) (hn : e ≠ T) : v.ownBlock ≠ some B := by
  rcases h.2 with ⟨rfl, _⟩ | ⟨g, cap, cur, rfl, _, hg, _⟩
  · simp [Value.ownBlock]
  · intro x
    have x' : g = B := by simpa [Value.ownBlock] using x
    exact Whole.unlike (cs := cur) (t := e) (show Whole W g cur e from hg) hb hn x'
/-- The first m of a row's elements. -/
theorem own_prefix {w : World} {B g n c : Nat} {e : TypeId} {size : Nat} {xs : List Value} (h : w.ownsRow B e size (.slice (some ⟨g, 0, none⟩) n c) n xs) (m : Nat) (hm : m ≤ n) : w.ownsRow B e size (.slice (some ⟨g, 0, none⟩) m c) m (xs.take (m * size)) := by
  rcases h.2 with ⟨hv, _⟩ | ⟨g', cap, cur, hv, hb, hg, hn, hc, hs, ht⟩
  · cases hv
  · injection hv with h1 h2 h3
    injection h1 with h1
    injection h1 with h1 _ _
    subst h1 h3
    refine ⟨?_, .inr ⟨_, _, cur, rfl, hb, hg, by omega, hc, hs, ?_⟩⟩
    · rw [List.length_take, h.1]; exact Nat.min_eq_left (Nat.mul_le_mul_right _ hm)
    · rw [← ht, List.take_take, Nat.min_eq_left (Nat.mul_le_mul_right _ hm)]
theorem own_cap {w : World} {B g n c : Nat} {e : TypeId} {size : Nat} {xs : List Value} (h : w.ownsRow B e size (.slice (some ⟨g, 0, none⟩) n c) n xs) : n ≤ c := by
  rcases h.2 with ⟨hv, _⟩ | ⟨g', cap, cur, hv, _, _, hn, _⟩
  · cases hv
  · injection hv with _ _ h3
    omega

theorem own_far {w : World} {N B size : Nat} {e : TypeId} {v : Value} {n : Nat} {xs : List Value} (h : w.ownsRow N e size v n xs) (hB : B < N) : some B ≠ v.ownBlock := fun x => by have := (h.lt B x.symm).1; omega
theorem own_ne {w : World} {b1 b2 s1 s2 n1 n2 : Nat} {e1 e2 : TypeId} {v1 v2 : Value} {x1 x2 : List Value} (h1 : w.ownsRow b1 e1 s1 v1 n1 x1) (h2 : w.ownsRow b2 e2 s2 v2 n2 x2) (hn : e1 ≠ e2) : v1.ownBlock = none ∨ v1.ownBlock ≠ v2.ownBlock := by
  rcases h1.2 with ⟨rfl, _⟩ | ⟨g, cap, cur, rfl, _, hg, _⟩
  · exact .inl rfl
  · refine .inr fun e => ?_
    rcases h2.2 with ⟨rfl, _⟩ | ⟨g', cap', cur', rfl, _, hg', _⟩
    · simp [Value.ownBlock] at e
    · have e' : g = g' := by simpa [Value.ownBlock] using e
      subst e'
      rw [hg] at hg'
      injection hg' with hg'
      injection hg' with _ h2
      exact hn h2

/-- At most the blocks of S have turned, and there may be new ones. -/
structure Turns (S : Nat → Prop) (w w' : World) : Prop where
  os : w'.os = w.os
  tape : w'.tape = w.tape
  output : w'.output = w.output
  size : w.heap.size ≤ w'.heap.size
  block : ∀ k, k < w.heap.size → ¬ S k → w'.heap[k]? = w.heap[k]?
section
variable {w w' w'' : World} {S S' U : Nat → Prop}
theorem Turns.of_below (h : Below w.heap.size w w') : Turns S w w' := ⟨h.os, h.tape, h.output, h.size, fun k hk _ => h.block k hk⟩
theorem Turns.of_grown {row : Option Nat} (h : w.grownBy w' row) (hS : ∀ k, row = some k → S k) : Turns S w w' := ⟨h.os, h.tape, h.output, h.size, fun k hk hn => h.block k hk (fun e => hn (hS k e.symm))⟩
theorem Turns.refl (S : Nat → Prop) (w : World) : Turns S w w := ⟨rfl, rfl, rfl, Nat.le_refl _, fun _ _ _ => rfl⟩
theorem Turns.trans (h : Turns S w w') (h' : Turns S' w' w'') (h1 : ∀ k, k < w.heap.size → S k → U k) (h2 : ∀ k, k < w.heap.size → S' k → U k) : Turns U w w'' :=
  ⟨h'.os.trans h.os, h'.tape.trans h.tape, h'.output.trans h.output, Nat.le_trans h.size h'.size, fun k hk hn => (h'.block k (Nat.lt_of_lt_of_le hk h.size) (fun x => hn (h2 k hk x))).trans (h.block k hk (fun x => hn (h1 k hk x)))⟩
theorem Turns.below {B : Nat} (h : Turns S w w') (hB : B ≤ w.heap.size) (hS : ∀ k, S k → B ≤ k) : Below B w w' :=
  ⟨h.os, h.tape, h.output, h.size, fun k hk => h.block k (Nat.lt_of_lt_of_le hk hB) (fun x => by have := hS k x; omega)⟩
theorem Whole.turns {b : Nat} {cs : Array Value} {t : TypeId} (h : Whole w b cs t) (ht : Turns S w w') (hn : ¬ S b) : Whole w' b cs t := (ht.block b h.lt hn).trans h
theorem own_turns {base size : Nat} {e : TypeId} {v : Value} {n : Nat} {xs : List Value} (h : w.ownsRow base e size v n xs) (ht : Turns S w w') (hn : ∀ k, v.ownBlock = some k → ¬ S k) : w'.ownsRow base e size v n xs := by
  refine ⟨h.1, ?_⟩
  rcases h.2 with hv | ⟨g, cap, cur, rfl, hb, hg, hr⟩
  · exact .inl hv
  · exact .inr ⟨g, cap, cur, rfl, hb, (ht.block g (Array.getElem?_eq_some_iff.1 hg).1 (hn g (by simp [Value.ownBlock]))).trans hg, hr⟩
end

/-- A step of an arena: its blocks stay its own, or new ones come. -/
def AStep (w w' : World) (F F' : Nat → Prop) : Prop := Turns F w w' ∧ ∀ k, k < w.heap.size → F' k → F k
section
variable {w w' w'' : World} {F F' F'' G : Nat → Prop}
theorem AStep.apart (h : AStep w w' F F') (hG : ∀ k, G k → k < w.heap.size) (hn : ∀ k, G k → ¬ F k) : ∀ k, G k → ¬ F' k := fun k hg hf => hn k hg (h.2 k (hG k hg) hf)
end
theorem AStep.trans {w w1 w2 : World} {F F1 F2 : Nat → Prop} (h : AStep w w1 F F1) (h' : AStep w1 w2 F1 F2) : AStep w w2 F F2 :=
  ⟨h.1.trans h'.1 (fun _ _ x => x) (fun k hk x => h.2 k hk x), fun k hk x => h.2 k hk (h'.2 k (Nat.lt_of_lt_of_le hk h.1.size) x)⟩
theorem AStep.of_turns {w w1 : World} {F : Nat → Prop} (h : Turns F w w1) : AStep w w1 F F := ⟨h, fun _ _ x => x⟩
theorem AStep.of_below {w w1 : World} {F : Nat → Prop} (h : Below w.heap.size w w1) : AStep w w1 F F := .of_turns (.of_below h)


def ints (l : List Int) : List Value := l.map fun i => .int .i64 i
theorem ints_len (l : List Int) : (ints l).length = l.length := by simp [ints]
theorem ints_append (a b : List Int) : ints (a ++ b) = ints a ++ ints b := by simp [ints]
theorem ints_one (l : List Int) : ∀ u ∈ ints l, u.oneCell' = true := by
  intro u hu
  obtain ⟨i, _, rfl⟩ := List.mem_map.1 hu
  rfl
theorem ints_get {l : List Int} {i : Nat} {x : Int} (h : l[i]? = some x) : (ints l)[i]? = some (.int .i64 x) := by simp [ints, h]
/-- A row of numbers that lies apart from an arena. -/
def Row (E : TypeId) (base : Nat) (w : World) (v : Value) (l : List Int) (F : Nat → Prop) : Prop :=
  w.ownsRow base E 1 v l.length (ints l) ∧ ∀ k, v.ownBlock = some k → ¬ F k
section
variable {E : TypeId} {base : Nat} {w w' : World} {v v' : Value} {l : List Int} {F F' : Nat → Prop}
theorem Row.nil (E : TypeId) (base : Nat) (w : World) (F : Nat → Prop) : Row E base w (.slice none 0 0) [] F :=
  ⟨World.ownsRow_nil _ _ _ _, fun k h => by simp [Value.ownBlock] at h⟩
theorem Row.step (h : Row E base w v l F) (hs : AStep w w' F F') : Row E base w' v l F' :=
  ⟨own_turns h.1 hs.1 h.2, fun k hk hf => h.2 k hk (hs.2 k (h.1.lt k hk).2 hf)⟩
theorem Row.turns (h : Row E base w v l F) (ht : Turns F w w') : Row E base w' v l F := ⟨own_turns h.1 ht h.2, h.2⟩
theorem Row.below (h : Row E base w v l F) (hb : Below w.heap.size w w') : Row E base w' v l F := ⟨own_turns (S := fun _ => False) h.1 (.of_below hb) (fun _ _ => id), h.2⟩
theorem Row.slice (h : Row E base w v l F) : ∃ A c, v = .slice A l.length c := own_form h.1
/-- One of its cells. -/
theorem Row.len {A : Option Addr} {n c : Nat} (h : Row E base w (.slice A n c) l F) : n = l.length := by
  obtain ⟨_, _, e⟩ := h.slice
  injection e
theorem Row.cell {A : Option Addr} {n c : Nat} (h : Row E base w (.slice A n c) l F) {i : Nat} {x : Int} (hi : l[i]? = some x) : ∃ g, A = some ⟨g, 0, none⟩ ∧ w.cell? ⟨g, i, none⟩ = some (.int .i64 x) := by
  have hn := h.len
  subst hn
  have hlt := (List.getElem?_eq_some_iff.1 hi).1
  obtain ⟨g, hg, _, hc⟩ := own_cells (w := w) (A := A) (c := c) (n := l.length) (xs := ints l) (size := 1) (e := E) (by
    have := h.1
    refine ⟨this.1, ?_⟩
    rcases this.2 with hn | ⟨g, cap, cur, hv, _, hr⟩
    · exact .inl hn
    · exact .inr ⟨g, cap, cur, hv, Nat.zero_le _, hr⟩) (by omega)
  exact ⟨g, hg, hc i _ (ints_get hi)⟩
theorem Row.cell' {g n c : Nat} (h : Row E base w (.slice (some ⟨g, 0, none⟩) n c) l F) {i : Nat} {x : Int} (hi : l[i]? = some x) : w.cell? ⟨g, i, none⟩ = some (.int .i64 x) := by
  obtain ⟨g', hg, hc⟩ := h.cell hi
  have e : g = g' := by injection hg with hg; injection hg
  rw [e]; exact hc
/-- The one number that is appended, in a row of its own. -/
theorem row_one (w : World) (E : TypeId) (x : Int) : (w.alloc (.cells #[.int .i64 x] E)).ownsRow 0 E 1 (.slice (some ⟨w.heap.size, 0, none⟩) 1 1) 1 (ints [x]) :=
  World.ownsRow_lit (base := 0) (e := E) (size := 1) w #[.int .i64 x] 1 (by simp) (by unfold maxLen; omega) rfl
end
end Go.Proofs.YtelncgfeojfafaaDoor

/- Contracts of package arena's plain functions: Norm, Handle and Index return what the plain functions say. -/
namespace Go.Proofs.YtelncgfeojfafaaDoor
open Go.RowKit
set_option linter.unusedVariables false
set_option linter.unusedSimpArgs false

set_option maxHeartbeats 400000 in
theorem limited_any (n : Int) (w : World) :
    Calls Tryd.prog 57 #[.int .i64 n] w fun e w' => e = .returned (.int .i64 (Ar.nrm n)) ∧ w' = w := by
  go_enter Tryd.func57, Tryd.ntmps57
  go_wp2
  all_goals go_ret
  all_goals exact ⟨aretI (by unfold Ar.nrm; omega), rfl⟩

set_option maxHeartbeats 1000000 in
theorem anorm_any (b s : Int) (w : World) :
    Calls Tryd.prog 47 #[saltV b s] w fun e w' => e = .returned (saltV (Ar.nrm b) (Ar.nrm s)) ∧ Below w.heap.size w w' := by
  have hb0 := (Below.refl _ w).alloc (Nat.le_refl _) (.cells #[.int .i64 b, .int .i64 s] 26)
  go_enter Tryd.func47, Tryd.ntmps47
  go_wp2_with fail
  go_region_with (go_at_call 57; refine (limited_any _ _).mono ?_; rintro e w2 ⟨rfl, rfl⟩)
  all_goals go_wp2_with fail
  all_goals refine bodyPost_ret (v := saltV (Ar.nrm b) (Ar.nrm s)) ?_ rfl ⟨rfl, (hb0.alloc (by simp) _).trans ⟨rfl, rfl, rfl, Nat.le_refl _, fun _ _ => rfl⟩⟩
  all_goals simp [results, Tryd.f47, go_sem]

theorem salt_put {w : World} {B : Nat} {b s : Int} (h : Whole w B #[.int .i64 b, .int .i64 s] 26) (x y : Int) :
    ∃ w', (w.setCell ⟨B, 0, none⟩ (.int .i64 x)).setCell ⟨B, 1, none⟩ (.int .i64 y) = w' ∧ Whole w' B #[.int .i64 x, .int .i64 y] 26 ∧ w.grownBy w' (some B) :=
  ⟨_, rfl, (h.put 0 _).put 1 _, gb_put (gb_put (gb_of_below (Below.refl w.heap.size w) (some B)) 0 _) 1 _⟩

set_option maxHeartbeats 1000000 in
theorem ahandle_any (b s i : Int) (w : World) (_hi : I64 i) :
    Calls Tryd.prog 29 #[saltV b s, .int .i64 i] w fun e w' => e = .returned (.int .i64 (Ar.hdl b s i)) ∧ Below w.heap.size w w' := by
  have hb0 := (Below.refl _ w).alloc (Nat.le_refl _) (.cells #[.int .i64 b, .int .i64 s] 26)
  by_cases hc : i < 0 ∨ 2147483647 < i
  · have hr : Ar.hdl b s i = 0 := by unfold Ar.hdl; rw [if_pos hc]
    rw [hr]
    rcases hc with hc | hc
    · go_enter Tryd.func29, Tryd.ntmps29
      go_wp2_with fail
      go_ret
      exact ⟨rfl, hb0⟩
    · have hc' : ¬ i < 0 := by omega
      go_enter Tryd.func29, Tryd.ntmps29
      go_wp2_with fail
      go_ret
      exact ⟨rfl, hb0⟩
  · have hr : Ar.hdl b s i = Ar.nrm b + Ar.nrm s * i := by unfold Ar.hdl; rw [if_neg hc]
    have hm := Ar.mul_le s i (by omega) (by omega)
    have hn := Ar.nrm_pos b
    have h1 := w64i (x := Ar.nrm s * i) (by omega) (by omega)
    have h2 := w64i (x := Ar.nrm b + Ar.nrm s * i) (by omega) (by omega)
    have hc1 : ¬ i < 0 := by omega
    have hc2 : ¬ 2147483647 < i := by omega
    rw [hr]
    clear hc hr
    go_enter Tryd.func29, Tryd.ntmps29
    go_wp2_with fail
    refine (anorm_any b s _).mono ?_
    rintro e w2 ⟨rfl, hb2⟩
    have hS2 : Whole w2 w.heap.size #[.int .i64 b, .int .i64 s] 26 := Whole.below (Whole.new w _ _) hb2 (by simp)
    have k0 : w2.cell? ⟨w.heap.size, 0, none⟩ = some (.int .i64 b) := hS2.cell 0
    have k1 : w2.cell? ⟨w.heap.size, 1, none⟩ = some (.int .i64 s) := hS2.cell 1
    have z0 := hS2.free 0
    have z1 := hS2.free 1
    have hB2 : Below w.heap.size w w2 := hb0.trans (hb2.mono (by simp))
    clear hb2 hb0
    go_wp2_with fail
    obtain ⟨w3, hw3, hS3, g3⟩ := salt_put hS2 (Ar.nrm b) (Ar.nrm s)
    rw [hw3]
    have a0 : w3.cell? ⟨w.heap.size, 0, none⟩ = some (.int .i64 (Ar.nrm b)) := hS3.cell 0
    have a1 : w3.cell? ⟨w.heap.size, 1, none⟩ = some (.int .i64 (Ar.nrm s)) := hS3.cell 1
    have hB3 := hB2.grown g3 hB2.size (fun j hj => by simp at hj; omega)
    clear hw3 z0 z1 k0 k1
    go_wp2_with fail
    go_ret
    exact ⟨rfl, hB3⟩

set_option maxHeartbeats 1000000 in
theorem aindex_any (b s h : Int) (w : World) (hh : I64 h) :
    Calls Tryd.prog 62 #[saltV b s, .int .i64 h] w fun e w' => e = .returned (.int .i64 (Ar.idx b s h)) ∧ Below w.heap.size w w' := by
  have hb0 := (Below.refl _ w).alloc (Nat.le_refl _) (.cells #[.int .i64 b, .int .i64 s] 26)
  have hs := Ar.nrm_pos s
  have hs0 : ¬ Ar.nrm s = 0 := by omega
  have hw := Ar.idx_ways b s h hh.2
  obtain ⟨I, hI⟩ : ∃ I, Ar.idx b s h = I := ⟨_, rfl⟩
  rw [hI] at hw ⊢
  have HW := Lib.hid hw
  clear hs hw hI
  go_enter Tryd.func62, Tryd.ntmps62
  go_wp2_with fail
  refine (anorm_any b s _).mono ?_
  rintro e w2 ⟨rfl, hb2⟩
  have hS2 : Whole w2 w.heap.size #[.int .i64 b, .int .i64 s] 26 := Whole.below (Whole.new w _ _) hb2 (by simp)
  have k0 : w2.cell? ⟨w.heap.size, 0, none⟩ = some (.int .i64 b) := hS2.cell 0
  have k1 : w2.cell? ⟨w.heap.size, 1, none⟩ = some (.int .i64 s) := hS2.cell 1
  have z0 := hS2.free 0
  have z1 := hS2.free 1
  have hB2 : Below w.heap.size w w2 := hb0.trans (hb2.mono (by simp))
  clear hb2 hb0
  rcases HW.out with ⟨h1, h9⟩ | ⟨h1, h2, h3, h7, h9⟩ | ⟨h1, h2, h3, h7, q, h4, h6, h9⟩ | ⟨h1, h2, h3, h7, q, h4, h6, h9⟩
  all_goals (have hx := Lib.hid h9)
  all_goals clear HW h9
  all_goals go_wp2_with fail
  all_goals obtain ⟨w3, hw3, hS3, g3⟩ := salt_put hS2 (Ar.nrm b) (Ar.nrm s)
  all_goals rw [hw3]
  all_goals have a0 : w3.cell? ⟨w.heap.size, 0, none⟩ = some (.int .i64 (Ar.nrm b)) := hS3.cell 0
  all_goals have a1 : w3.cell? ⟨w.heap.size, 1, none⟩ = some (.int .i64 (Ar.nrm s)) := hS3.cell 1
  all_goals have hB3 := hB2.grown g3 hB2.size (fun j hj => by simp at hj; omega)
  all_goals clear hw3 z0 z1 k0 k1
  all_goals go_wp2_with fail
  all_goals go_ret
  all_goals first
    | exact ⟨aretI hx.out.symm, hB3⟩
    | exact ⟨aretI (hx.out ▸ (by first | exact h4 | (rw [h2]; exact h4))), hB3⟩

end Go.Proofs.YtelncgfeojfafaaDoor

/- A row of records of several cells, us a table. No program is imported. -/
namespace Go.Proofs.YtelncgfeojfafaaDoor
open Go Go.RowKit
set_option linter.unusedVariables false
set_option linter.unusedSimpArgs false

section
variable {α : Type} {sl : α → List Value} {n m : Nat}
/-- The cells of m records. -/
def cellsT (sl : α → List Value) (m : Nat) (f : Nat → α) : List Value := (List.range m).flatMap fun i => sl (f i)
theorem cellsT_succ (f : Nat → α) : cellsT sl (m + 1) f = cellsT sl m f ++ sl (f m) := by simp [cellsT, List.range_succ]
theorem cellsT_len (hn : ∀ c, (sl c).length = n) (f : Nat → α) : (cellsT sl m f).length = m * n := by
  induction m with
  | zero => simp [cellsT]
  | succ m ih => rw [cellsT_succ, List.length_append, ih, hn, Nat.add_mul, Nat.one_mul]
theorem cellsT_get (hn : ∀ c, (sl c).length = n) (f : Nat → α) {i j : Nat} (hi : i < m) (hj : j < n) : (cellsT sl m f)[i * n + j]? = (sl (f i))[j]? := by
  induction m with
  | zero => omega
  | succ m ih =>
    rw [cellsT_succ]
    by_cases h : i < m
    · have : i * n + j < m * n := by
        calc i * n + j < i * n + n := by omega
          _ = (i + 1) * n := by rw [Nat.add_mul]; omega
          _ ≤ m * n := Nat.mul_le_mul_right _ h
      rw [List.getElem?_append_left (by rw [cellsT_len hn]; exact this), ih h]
    · have e : i = m := by omega
      subst e
      rw [List.getElem?_append_right (by rw [cellsT_len hn]; omega), cellsT_len hn, Nat.add_sub_cancel_left]
theorem cellsT_congr {f g : Nat → α} (h : ∀ i, i < m → f i = g i) : cellsT sl m f = cellsT sl m g := by
  unfold cellsT
  rw [List.flatMap_def, List.flatMap_def]
  congr 1
  exact List.map_congr_left fun i hi => by rw [h i (List.mem_range.1 hi)]
theorem cellsT_ext (hn : ∀ c, (sl c).length = n) (f : Nat → α) (l : List Value) (hl : l.length = m * n) (h : ∀ i j, i < m → j < n → l[i * n + j]? = (sl (f i))[j]?) : l = cellsT sl m f := by
  apply List.ext_getElem?
  intro k
  by_cases hk : k < m * n
  · have hn0 : 0 < n := Nat.pos_of_ne_zero fun e => by subst e; omega
    have e : k = (k / n) * n + k % n := by have := Nat.div_add_mod k n; rw [Nat.mul_comm] at this; omega
    have h1 : k / n < m := Nat.div_lt_of_lt_mul (by rw [Nat.mul_comm]; exact hk)
    have h2 : k % n < n := Nat.mod_lt _ hn0
    rw [e, h _ _ h1 h2, cellsT_get hn f h1 h2]
  · rw [List.getElem?_eq_none (by omega), List.getElem?_eq_none (by rw [cellsT_len hn]; omega)]
/-- One cell is another. -/
theorem cellsT_set (hn : ∀ c, (sl c).length = n) (f : Nat → α) {i j : Nat} (x : α) (v : Value) (hi : i < m) (hj : j < n) (hx : sl x = (sl (f i)).set j v) :
    (cellsT sl m f).set (i * n + j) v = cellsT sl m fun k => if k = i then x else f k := by
  apply cellsT_ext hn
  · rw [List.length_set, cellsT_len hn]
  · intro a c ha hc
    rw [List.getElem?_set, cellsT_get hn f ha hc, cellsT_len hn]
    have hlt : i * n + j < m * n := by
      calc i * n + j < i * n + n := by omega
        _ = (i + 1) * n := by rw [Nat.add_mul]; omega
        _ ≤ m * n := Nat.mul_le_mul_right _ hi
    by_cases e : a = i
    · subst e
      rw [if_pos rfl, hx, List.getElem?_set, hn]
      by_cases e2 : j = c
      · subst e2; rw [if_pos rfl, if_pos rfl, if_pos hlt, if_pos hj]
      · rw [if_neg (by omega), if_neg e2]
    · rw [if_neg e, if_neg]
      intro h
      have h1 : i < a ∨ a < i := by omega
      rcases h1 with h1 | h1
      · have : (i + 1) * n ≤ a * n := Nat.mul_le_mul_right _ h1
        rw [Nat.add_mul] at this; omega
      · have : (a + 1) * n ≤ i * n := Nat.mul_le_mul_right _ h1
        rw [Nat.add_mul] at this; omega
/-- Cells are given one behind the other. -/
def setAll (xs : List Value) (k : Nat) : List Value → List Value
  | [] => xs
  | a :: r => setAll (xs.set k a) (k + 1) r
theorem setAll_len (us xs : List Value) (k : Nat) : (setAll xs k us).length = xs.length := by
  induction us generalizing xs k with
  | nil => rfl
  | cons a r ih => rw [setAll, ih, List.length_set]
theorem setAll_get (us xs : List Value) (k i : Nat) (h : k + us.length ≤ xs.length) : (setAll xs k us)[i]? = if k ≤ i ∧ i < k + us.length then us[i - k]? else xs[i]? := by
  induction us generalizing xs k with
  | nil => rw [setAll, if_neg (by simp only [List.length_nil]; omega)]
  | cons a r ih =>
    simp only [List.length_cons] at h ⊢
    rw [setAll, ih _ _ (by rw [List.length_set]; omega), List.getElem?_set]
    by_cases h1 : k + 1 ≤ i ∧ i < k + 1 + r.length
    · rw [if_pos h1, if_pos (by omega), show i - k = (i - (k + 1)) + 1 from by omega, List.getElem?_cons_succ]
    · rw [if_neg h1]
      by_cases h2 : k = i
      · subst h2; rw [if_pos rfl, if_pos (by omega), if_pos (by omega), Nat.sub_self]; rfl
      · rw [if_neg h2, if_neg (by omega)]
theorem cellsT_setAll (hn : ∀ c, (sl c).length = n) (f : Nat → α) {i : Nat} (x : α) (hi : i < m) :
    setAll (cellsT sl m f) (i * n) (sl x) = cellsT sl m fun k => if k = i then x else f k := by
  have hle : i * n + n ≤ m * n := by
    calc i * n + n = (i + 1) * n := by rw [Nat.add_mul]; omega
      _ ≤ m * n := Nat.mul_le_mul_right _ hi
  apply cellsT_ext hn
  · rw [setAll_len, cellsT_len hn]
  · intro a c ha hc
    rw [setAll_get _ _ _ _ (by rw [hn, cellsT_len hn]; exact hle), hn, cellsT_get hn f ha hc]
    by_cases e : a = i
    · subst e; rw [if_pos (by omega), if_pos rfl, Nat.add_sub_cancel_left]
    · rw [if_neg e, if_neg]
      rintro ⟨h1, h2⟩
      have h3 : i < a ∨ a < i := by omega
      rcases h3 with h3 | h3
      · have : (i + 1) * n ≤ a * n := Nat.mul_le_mul_right _ h3
        rw [Nat.add_mul] at this; omega
      · have : (a + 1) * n ≤ i * n := Nat.mul_le_mul_right _ h3
        rw [Nat.add_mul] at this; omega
end
end Go.Proofs.YtelncgfeojfafaaDoor

/- Trees by handles: nodes with the lists of their children, and how a node's links follow from them. No program is imported. -/
namespace Go.Proofs.YtelncgfeojfafaaDoor.Tr
open Go Go.RowKit
set_option linter.unusedVariables false
set_option linter.unusedSimpArgs false

/-! Neighbours in a list. -/
/-- The first of a list, 0 for none. -/
def fs : List Int → Int
  | [] => 0
  | a :: _ => a
/-- What follows x in a list, 0 for none. -/
def nxt : List Int → Int → Int
  | [], _ => 0
  | a :: r, x => if a = x then fs r else nxt r x
/-- What comes ahead of x in a list, 0 for none. -/
def prv (l : List Int) (x : Int) : Int := nxt l.reverse x
def lst (l : List Int) : Int := fs l.reverse
theorem nxt_split {l1 l2 : List Int} {x : Int} (h : x ∉ l1) : nxt (l1 ++ x :: l2) x = fs l2 := by
  induction l1 with
  | nil => simp [nxt]
  | cons a r ih =>
    simp only [List.mem_cons, not_or] at h
    rw [List.cons_append, nxt, if_neg (fun e => h.1 e.symm), ih h.2]
theorem prv_split {l1 l2 : List Int} {x : Int} (h : x ∉ l2) : prv (l1 ++ x :: l2) x = lst l1 := by
  unfold prv lst
  rw [List.reverse_append, List.reverse_cons, List.append_assoc]
  exact nxt_split (by simpa using h)
theorem nxt_none {l : List Int} {x : Int} (h : x ∉ l) : nxt l x = 0 := by
  induction l with
  | nil => rfl
  | cons a r ih =>
    simp only [List.mem_cons, not_or] at h
    rw [nxt, if_neg (fun e => h.1 e.symm), ih h.2]
theorem prv_none {l : List Int} {x : Int} (h : x ∉ l) : prv l x = 0 := nxt_none (by simpa using h)
theorem lst_nil : lst [] = 0 := rfl
theorem lst_snoc (l : List Int) (x : Int) : lst (l ++ [x]) = x := by simp [lst, fs]
theorem lst_append (l m : List Int) (h : m ≠ []) : lst (l ++ m) = lst m := by
  unfold lst
  rw [List.reverse_append]
  cases e : m.reverse with
  | nil => exact absurd (List.reverse_eq_nil_iff.1 e) h
  | cons a r => rfl
theorem fs_append (l m : List Int) (h : l ≠ []) : fs (l ++ m) = fs l := by cases l with | nil => exact absurd rfl h | cons a r => rfl
theorem fs_mem {l : List Int} (h : fs l ≠ 0) : fs l ∈ l := by cases l with | nil => exact absurd rfl h | cons a r => simp [fs]
theorem lst_mem {l : List Int} (h : lst l ≠ 0) : lst l ∈ l := by have := fs_mem (l := l.reverse) h; simpa [lst] using this
theorem fs_zero {l : List Int} (h0 : 0 ∉ l) (h : fs l = 0) : l = [] := by
  cases l with
  | nil => rfl
  | cons a r => simp only [fs] at h; exact absurd (by simp [h]) h0
theorem lst_zero {l : List Int} (h0 : 0 ∉ l) (h : lst l = 0) : l = [] := List.reverse_eq_nil_iff.1 (fs_zero (by simpa using h0) h)
theorem nxt_mem {l : List Int} {x : Int} (h : nxt l x ≠ 0) : nxt l x ∈ l := by
  induction l with
  | nil => exact absurd rfl h
  | cons a r ih =>
    rw [nxt] at h ⊢
    split at h
    · rename_i e; rw [if_pos e]; exact List.mem_cons_of_mem _ (fs_mem h)
    · rename_i e; rw [if_neg e]; exact List.mem_cons_of_mem _ (ih h)
theorem prv_mem {l : List Int} {x : Int} (h : prv l x ≠ 0) : prv l x ∈ l := by have := nxt_mem (l := l.reverse) h; simpa [prv] using this
/-- One more in the middle: what follows. -/
theorem nxt_ins {l1 l2 : List Int} {h y : Int} (hn : (l1 ++ h :: l2).Nodup) (h0 : 0 ∉ l1 ++ h :: l2) (hy : y ≠ h) : nxt (l1 ++ h :: l2) y = if y = lst l1 ∧ y ≠ 0 then h else nxt (l1 ++ l2) y := by
  by_cases hm : y ∈ l1
  · obtain ⟨a, b, rfl⟩ := List.append_of_mem hm
    have hya : y ∉ a := fun hx => by
      have := (List.nodup_append.1 (List.nodup_append.1 hn).1).2.2 y hx y (by simp)
      exact this rfl
    have hyb : y ∉ b := fun hx => by
      have := (List.nodup_append.1 (List.nodup_append.1 hn).1).2.1
      exact (List.nodup_cons.1 this).1 hx
    have hyz : y ≠ 0 := fun e => h0 (by simp [e])
    rw [List.append_assoc, List.cons_append, nxt_split hya, List.append_assoc, List.cons_append, nxt_split hya]
    cases b with
    | nil => rw [lst_snoc, if_pos ⟨rfl, hyz⟩]; rfl
    | cons c r =>
      rw [if_neg]
      · rfl
      · rintro ⟨e, _⟩
        rw [show a ++ y :: c :: r = (a ++ [y]) ++ (c :: r) from by simp, lst_append _ _ (by simp)] at e
        exact hyb (by rw [e]; exact lst_mem (by rw [← e]; exact hyz))
  · have hl : ¬ (y = lst l1 ∧ y ≠ 0) := by
      rintro ⟨e, hz⟩
      exact hm (by rw [e]; exact lst_mem (by rw [← e]; exact hz))
    rw [if_neg hl]
    clear hl hn h0
    induction l1 with
    | nil => rw [List.nil_append, List.nil_append, nxt, if_neg (fun e => hy e.symm)]
    | cons a r ih =>
      simp only [List.mem_cons, not_or] at hm
      rw [List.cons_append, List.cons_append, nxt, nxt, if_neg (fun e => hm.1 e.symm), if_neg (fun e => hm.1 e.symm)]
      exact ih hm.2
theorem lst_rev (l : List Int) : lst l.reverse = fs l := by simp [lst]
theorem prv_ins {l1 l2 : List Int} {h y : Int} (hn : (l1 ++ h :: l2).Nodup) (h0 : 0 ∉ l1 ++ h :: l2) (hy : y ≠ h) : prv (l1 ++ h :: l2) y = if y = fs l2 ∧ y ≠ 0 then h else prv (l1 ++ l2) y := by
  unfold prv
  have hn' : (l2.reverse ++ h :: l1.reverse).Nodup := by
    have : (l1 ++ h :: l2).reverse.Nodup := List.pairwise_reverse.2 (hn.imp fun a e => a e.symm)
    rwa [List.reverse_append, List.reverse_cons, List.append_assoc] at this
  have h0' : 0 ∉ l2.reverse ++ h :: l1.reverse := fun e => h0 (by simp at e ⊢; rcases e with e | e | e <;> simp [e])
  have := nxt_ins hn' h0' hy
  rw [lst_rev] at this
  rw [List.reverse_append, List.reverse_cons, List.append_assoc, List.reverse_append]
  exact this
theorem fs_ins (l1 l2 : List Int) (h : Int) (h0 : 0 ∉ l1) : fs (l1 ++ h :: l2) = if lst l1 = 0 then h else fs (l1 ++ l2) := by
  cases l1 with
  | nil => rfl
  | cons a r =>
    rw [if_neg]
    · rfl
    · intro e
      have := lst_zero h0 e
      cases this
theorem lst_ins (l1 l2 : List Int) (h : Int) (h0 : 0 ∉ l2) : lst (l1 ++ h :: l2) = if fs l2 = 0 then h else lst (l1 ++ l2) := by
  cases l2 with
  | nil => simp [lst, fs]
  | cons a r =>
    rw [if_neg]
    · rw [show l1 ++ h :: a :: r = (l1 ++ [h]) ++ (a :: r) from by simp, lst_append _ _ (by simp), lst_append _ _ (by simp)]
    · intro e
      have := fs_zero h0 e
      cases this
theorem erase_split {l1 l2 : List Int} {h : Int} (hn : h ∉ l1) : (l1 ++ h :: l2).erase h = l1 ++ l2 := by
  rw [List.erase_append_right _ hn, List.erase_cons_head]
/-- x ahead of b, at the end if b is not there. -/
def insB : List Int → Int → Int → List Int
  | [], _, x => [x]
  | a :: r, b, x => if a = b then x :: a :: r else a :: insB r b x
theorem insB_end {l : List Int} {b x : Int} (h : b ∉ l) : insB l b x = l ++ [x] := by
  induction l with
  | nil => rfl
  | cons a r ih =>
    simp only [List.mem_cons, not_or] at h
    rw [insB, if_neg (fun e => h.1 e.symm), ih h.2]; rfl
theorem insB_split {l1 l2 : List Int} {b x : Int} (h : b ∉ l1) : insB (l1 ++ b :: l2) b x = l1 ++ x :: b :: l2 := by
  induction l1 with
  | nil => simp [insB]
  | cons a r ih =>
    simp only [List.mem_cons, not_or] at h
    rw [List.cons_append, insB, if_neg (fun e => h.1 e.symm), ih h.2]; rfl
/-- The place of b: what lies ahead of it and from it on. -/
theorem insB_place (l : List Int) (b : Int) (x : Int) (hb : b = 0 ∨ b ∈ l) (h0 : 0 ∉ l) (hn : l.Nodup) : ∃ l1 l2, l = l1 ++ l2 ∧ fs l2 = b ∧ insB l b x = l1 ++ x :: l2 := by
  rcases hb with rfl | hb
  · exact ⟨l, [], by simp, rfl, insB_end h0⟩
  · obtain ⟨l1, l2, rfl⟩ := List.append_of_mem hb
    have : b ∉ l1 := fun hx => (List.nodup_append.1 hn).2.2 b hx b (by simp) rfl
    exact ⟨l1, b :: l2, rfl, rfl, insB_split this⟩

/-! Trees. -/
structure GN where
  kind : Int
  name : ByteArray
  attrs : List (ByteArray × ByteArray)
  data : ByteArray
  pa : Int
  kids : List Int
abbrev G := Int → Option GN
def kidsOf (g : G) (h : Int) : List Int := match g h with | some n => n.kids | none => []
def paOf (g : G) (h : Int) : Int := match g h with | some n => n.pa | none => 0
theorem kidsOf_some {g : G} {h : Int} {n : GN} (e : g h = some n) : kidsOf g h = n.kids := by unfold kidsOf; rw [e]
theorem kidsOf_none {g : G} {h : Int} (e : g h = none) : kidsOf g h = [] := by unfold kidsOf; rw [e]
theorem paOf_some {g : G} {h : Int} {n : GN} (e : g h = some n) : paOf g h = n.pa := by unfold paOf; rw [e]
/-- The way up. -/
inductive Up (g : G) : Int → List Int → Prop
  | out {h : Int} : g h = none → Up g h []
  | node {h : Int} {n : GN} {l : List Int} : g h = some n → Up g n.pa l → Up g h (h :: l)
theorem Up.one {g : G} {h : Int} {l m : List Int} (a : Up g h l) (b : Up g h m) : l = m := by
  induction a generalizing m with
  | out e => cases b with | out _ => rfl | node e' _ => rw [e] at e'; cases e'
  | node e _ ih =>
    cases b with
    | out e' => rw [e] at e'; cases e'
    | node e' b => rw [e] at e'; obtain rfl := Option.some.inj e'; rw [ih b]
theorem Up.mem {g : G} {h x : Int} {l : List Int} (a : Up g h l) (hx : x ∈ l) : (g x).isSome := by
  induction a with
  | out => cases hx
  | node e _ ih =>
    rcases List.mem_cons.1 hx with rfl | hx
    · rw [e]; rfl
    · exact ih hx
/-- Consistent: parents and children name each other, and no way up is longer than 128. -/
structure WF (z : Int) (g : G) : Prop where
  zero : g z = none
  up : ∀ h n, g h = some n → n.pa ≠ z → ∃ p, g n.pa = some p ∧ h ∈ p.kids
  down : ∀ h n k, g h = some n → k ∈ n.kids → ∃ m, g k = some m ∧ m.pa = h
  nodup : ∀ h n, g h = some n → n.kids.Nodup
  chain : ∀ h, ∃ l, Up g h l ∧ l.length ≤ 128
section
variable {z : Int} {g : G}
theorem WF.pa (w : WF z g) {h : Int} {n : GN} (e : g h = some n) : n.pa = z ∨ ∃ p, g n.pa = some p ∧ h ∈ p.kids := by
  by_cases hz : n.pa = z
  · exact .inl hz
  · exact .inr (w.up h n e hz)
theorem WF.kid_not_zero (w : WF z g) {h : Int} {n : GN} (e : g h = some n) : z ∉ n.kids := fun hz => by
  obtain ⟨m, h1, _⟩ := w.down h n z e hz
  rw [w.zero] at h1; cases h1
theorem WF.kidsOf_nodup (w : WF z g) (h : Int) : (kidsOf g h).Nodup := by
  cases e : g h with
  | none => rw [kidsOf_none e]; exact List.nodup_nil
  | some n => rw [kidsOf_some e]; exact w.nodup h n e
theorem WF.kidsOf_zero (w : WF z g) (h : Int) : z ∉ kidsOf g h := by
  cases e : g h with
  | none => rw [kidsOf_none e]; simp
  | some n => rw [kidsOf_some e]; exact w.kid_not_zero e
theorem WF.kidsOf_mem (w : WF z g) {h k : Int} (hk : k ∈ kidsOf g h) : ∃ m, g k = some m ∧ m.pa = h := by
  cases e : g h with
  | none => rw [kidsOf_none e] at hk; cases hk
  | some n => rw [kidsOf_some e] at hk; exact w.down h n k e hk
theorem WF.in_parent (w : WF z g) {h : Int} {n : GN} (e : g h = some n) (hp : n.pa ≠ z) : h ∈ kidsOf g n.pa := by
  obtain ⟨p, h1, h2⟩ := w.up h n e hp
  rw [kidsOf_some h1]; exact h2
/-- Nothing lies on the way up from its own parent. -/
theorem WF.above (_w : WF z g) {h : Int} {n : GN} (e : g h = some n) {l : List Int} (hl : Up g n.pa l) : h ∉ l := by
  intro hm
  have key : ∀ (x : Int) (l : List Int), Up g x l → h ∈ l → ∃ l1 l2, l = l1 ++ h :: l2 := fun x l _ hm => List.append_of_mem hm
  have len : ∀ (x : Int) (l : List Int), Up g x l → ∀ l1 l2, l = l1 ++ h :: l2 → Up g h (h :: l2) := by
    intro x l hu
    induction hu with
    | out _ => intro l1 l2 h1; cases l1 <;> cases h1
    | @node y m l e' hu ih =>
      intro l1 l2 h1
      cases l1 with
      | nil =>
        injection h1 with h1 h2
        subst h1 h2
        exact .node e' hu
      | cons a r =>
        injection h1 with h1 h2
        exact ih r l2 h2
  obtain ⟨l1, l2, e1⟩ := key _ _ hl hm
  have u1 := len _ _ hl l1 l2 e1
  have u2 : Up g h (h :: l) := .node e hl
  have := u1.one u2
  injection this with _ this
  have h3 := congrArg List.length this
  have h4 := congrArg List.length e1
  simp at h4
  omega
theorem WF.not_self (w : WF z g) {h : Int} {n : GN} (e : g h = some n) : n.pa ≠ h := by
  intro e1
  obtain ⟨l, hl, _⟩ := w.chain n.pa
  have := w.above e hl
  rw [e1] at hl
  cases hl with
  | out e2 => rw [e] at e2; cases e2
  | node _ _ => simp at this
theorem WF.kid_not_self (w : WF z g) (h : Int) : h ∉ kidsOf g h := fun hm => by
  obtain ⟨m, h1, h2⟩ := w.kidsOf_mem hm
  exact w.not_self h1 h2
end

/-! A node's links. -/
/-- A slice as a value. -/
structure Sl where
  a : Option Addr
  n : Nat
  c : Nat
abbrev Sl.v (x : Sl) : Value := .slice x.a x.n x.c
structure Nd where
  kind : Int
  name : ByteArray
  av : Sl
  data : ByteArray
  pa : Int
  fi : Int
  la : Int
  pr : Int
  ne : Int
abbrev zNd : Nd := ⟨0, ⟨#[]⟩, ⟨none, 0, 0⟩, ⟨#[]⟩, 0, 0, 0, 0, 0⟩
def raw1 (g : G) (av : Int → Sl) (h : Int) (n : GN) : Nd := ⟨n.kind, n.name, av h, n.data, n.pa, fs n.kids, lst n.kids, prv (kidsOf g n.pa) h, nxt (kidsOf g n.pa) h⟩
def raw (g : G) (av : Int → Sl) (h : Int) : Option Nd := (g h).map (raw1 g av h)
theorem raw_some {g : G} {av : Int → Sl} {h : Int} {n : GN} (e : g h = some n) : raw g av h = some (raw1 g av h n) := by unfold raw; rw [e]; rfl
theorem raw_none {g : G} {av : Int → Sl} {h : Int} (e : g h = none) : raw g av h = none := by unfold raw; rw [e]; rfl
/-- One node is another. -/
def upd (R : Int → Option Nd) (h : Int) (f : Nd → Nd) : Int → Option Nd := fun x => if x = h then (R h).map f else R x
/-- One node is given or taken away. -/
def setO (R : Int → Option Nd) (h : Int) (o : Option Nd) : Int → Option Nd := fun x => if x = h then o else R x
theorem setO_same {R : Int → Option Nd} {h : Int} {o : Option Nd} : setO R h o h = o := if_pos rfl
theorem setO_ne {R : Int → Option Nd} {h x : Int} {o : Option Nd} (e : x ≠ h) : setO R h o x = R x := if_neg e
theorem upd_same {R : Int → Option Nd} {h : Int} {f : Nd → Nd} : upd R h f h = (R h).map f := if_pos rfl
theorem upd_ne {R : Int → Option Nd} {h x : Int} {f : Nd → Nd} (e : x ≠ h) : upd R h f x = R x := if_neg e
theorem upd_at {R : Int → Option Nd} {h : Int} {f : Nd → Nd} {n : Nd} (e : R h = some n) : upd R h f h = some (f n) := by rw [upd_same, e]; rfl
theorem upd_none {R : Int → Option Nd} {h x : Int} {f : Nd → Nd} (e : R x = none) : upd R h f x = none := by
  unfold upd; split
  · rename_i e1; subst e1; rw [e]; rfl
  · exact e
def cutG (g : G) (h : Int) : G := fun x => if x = h then (g h).map fun n => { n with pa := 0 } else if x = paOf g h then (g x).map fun n => { n with kids := n.kids.erase h } else g x
def linkG (g : G) (p h b : Int) : G := fun x => if x = h then (g h).map fun n => { n with pa := p } else if x = p then (g p).map fun n => { n with kids := insB n.kids b h } else g x
/-- What the program writes to link a node. -/
def linkR (R : Int → Option Nd) (p h b pv : Int) : Int → Option Nd :=
  let R1 := upd R h fun n => { n with pa := p, pr := pv, ne := b }
  let R2 := if pv = 0 then upd R1 p fun n => { n with fi := h } else upd R1 pv fun n => { n with ne := h }
  if b = 0 then upd R2 p fun n => { n with la := h } else upd R2 b fun n => { n with pr := h }
/-- What the program writes to cut a node off. -/
def cutR (R : Int → Option Nd) (h pa pr ne : Int) : Int → Option Nd :=
  let R1 := if pr = 0 then upd R pa fun n => { n with fi := ne } else upd R pr fun n => { n with ne := ne }
  let R2 := if ne = 0 then upd R1 pa fun n => { n with la := pr } else upd R1 ne fun n => { n with pr := pr }
  upd R2 h fun n => { n with pa := 0, pr := 0, ne := 0 }
end Go.Proofs.YtelncgfeojfafaaDoor.Tr

/- Linking and cutting a node: what is written to its neighbours' links. No program is imported. -/
namespace Go.Proofs.YtelncgfeojfafaaDoor.Tr
open Go Go.RowKit
set_option linter.unusedVariables false
set_option linter.unusedSimpArgs false

section
variable {g : G} {av : Int → Sl} {p h b : Int} {n q : GN}
theorem kidsOf_link (ep : g p = some q) (hp : h ≠ p) (y : Int) : kidsOf (linkG g p h b) y = if y = p then insB q.kids b h else kidsOf g y := by
  unfold kidsOf linkG
  by_cases h1 : y = h
  · subst h1; rw [if_pos rfl, if_neg hp]; cases g y <;> rfl
  · rw [if_neg h1]
    by_cases h2 : y = p
    · subst h2; rw [if_pos rfl, if_pos rfl, ep]; rfl
    · rw [if_neg h2, if_neg h2]
theorem link_raw (w : WF 0 g) (eh : g h = some n) (hn : n.pa = 0) (ep : g p = some q) (hp : h ≠ p) (hb : b = 0 ∨ b ∈ q.kids) :
    raw (linkG g p h b) av = linkR (raw g av) p h b (if b = 0 then lst q.kids else prv q.kids b) := by
  have hnk : h ∉ q.kids := fun hm => by
    obtain ⟨m, h1, h2⟩ := w.down p q h ep hm
    rw [eh] at h1; cases h1
    rw [hn] at h2
    rw [← h2, w.zero] at ep; cases ep
  have hz : h ≠ 0 := fun e => by rw [e, w.zero] at eh; cases eh
  have h0 := w.kid_not_zero ep
  have hnd := w.nodup p q ep
  obtain ⟨l1, l2, e1, e2, e3⟩ := insB_place q.kids b h hb h0 hnd
  have h01 : 0 ∉ l1 := fun hx => h0 (by rw [e1]; simp [hx])
  have h02 : 0 ∉ l2 := fun hx => h0 (by rw [e1]; simp [hx])
  have hpv : (if b = 0 then lst q.kids else prv q.kids b) = lst l1 := by
    rw [e1] at hnd ⊢
    split
    · rename_i hb0
      have : l2 = [] := fs_zero h02 (by rw [e2, hb0])
      rw [this, List.append_nil]
    · rename_i hb0
      cases l2 with
      | nil => exact absurd e2.symm hb0
      | cons c r =>
        simp only [fs] at e2
        subst e2
        exact prv_split (List.nodup_cons.1 (List.nodup_append.1 hnd).2.1).1
  rw [hpv]
  have hnh : h ∉ l1 ++ l2 := by rw [← e1]; exact hnk
  have hnn : (l1 ++ h :: l2).Nodup := by
    rw [e1] at hnd
    simp only [List.mem_append, not_or] at hnh
    rw [List.nodup_append] at hnd ⊢
    refine ⟨hnd.1, List.nodup_cons.2 ⟨hnh.2, hnd.2.1⟩, fun a ha c hc => ?_⟩
    rcases List.mem_cons.1 hc with rfl | hc
    · rintro rfl; exact hnh.1 ha
    · exact hnd.2.2 a ha c hc
  have h0' : 0 ∉ l1 ++ h :: l2 := by
    simp only [List.mem_append, List.mem_cons, not_or]
    exact ⟨h01, fun e => hz e.symm, h02⟩
  have hpar : ∀ y ∈ l1 ++ l2, ∃ m, g y = some m ∧ m.pa = p := fun y hy => w.down p q y ep (by rw [e1]; exact hy)
  have hpp : p ∉ l1 ++ l2 := fun hy => by obtain ⟨m, h1, h2⟩ := hpar p hy; exact w.not_self h1 h2
  have hv1 : lst l1 ≠ 0 → lst l1 ∈ l1 ++ l2 := fun e => List.mem_append_left _ (lst_mem e)
  have hv2 : b ≠ 0 → b ∈ l1 ++ l2 := fun e => List.mem_append_right _ (by rw [← e2] at e ⊢; exact fs_mem e)
  have hk := kidsOf_link (b := b) ep hp
  funext x
  by_cases hx : x = h
  · subst hx
    have e4 : linkG g p x b x = some { n with pa := p } := by unfold linkG; rw [if_pos rfl, eh]; rfl
    have n1 : lst l1 ≠ 0 → x ≠ lst l1 := fun e e' => hnh (e' ▸ hv1 e)
    have n2 : b ≠ 0 → x ≠ b := fun e e' => hnh (e' ▸ hv2 e)
    have e5 : linkR (raw g av) p x b (lst l1) x = some { raw1 g av x n with pa := p, pr := lst l1, ne := b } := by
      unfold linkR
      by_cases c1 : lst l1 = 0 <;> by_cases c2 : b = 0
      · simp only [if_pos c1, if_pos c2]; rw [upd_ne hp, upd_ne hp, upd_at (raw_some eh)]
      · simp only [if_pos c1, if_neg c2]; rw [upd_ne (n2 c2), upd_ne hp, upd_at (raw_some eh)]
      · simp only [if_neg c1, if_pos c2]; rw [upd_ne hp, upd_ne (n1 c1), upd_at (raw_some eh)]
      · simp only [if_neg c1, if_neg c2]; rw [upd_ne (n2 c2), upd_ne (n1 c1), upd_at (raw_some eh)]
    rw [e5, raw_some e4]
    unfold raw1
    simp only
    rw [hk p, if_pos rfl, e3, prv_split (fun hm => hnh (List.mem_append_right _ hm)), nxt_split (fun hm => hnh (List.mem_append_left _ hm)), e2]
  · by_cases hxp : x = p
    · subst hxp
      have e4 : linkG g x h b x = some { q with kids := l1 ++ h :: l2 } := by unfold linkG; rw [if_neg hx, if_pos rfl, ep, ← e3]; rfl
      have n1 : lst l1 ≠ 0 → x ≠ lst l1 := fun e e' => hpp (e' ▸ hv1 e)
      have n2 : b ≠ 0 → x ≠ b := fun e e' => hpp (e' ▸ hv2 e)
      have e5 : linkR (raw g av) x h b (lst l1) x = some { raw1 g av x q with fi := if lst l1 = 0 then h else fs q.kids, la := if b = 0 then h else lst q.kids } := by
        unfold linkR
        by_cases c1 : lst l1 = 0 <;> by_cases c2 : b = 0
        · simp only [if_pos c1, if_pos c2]; rw [upd_same, upd_same, upd_ne hx, raw_some ep]; rfl
        · simp only [if_pos c1, if_neg c2]; rw [upd_ne (n2 c2), upd_same, upd_ne hx, raw_some ep]; rfl
        · simp only [if_neg c1, if_pos c2]; rw [upd_same, upd_ne (n1 c1), upd_ne hx, raw_some ep]; rfl
        · simp only [if_neg c1, if_neg c2]; rw [upd_ne (n2 c2), upd_ne (n1 c1), upd_ne hx, raw_some ep]; rfl
      rw [e5, raw_some e4]
      unfold raw1
      simp only
      rw [hk q.pa, if_neg (w.not_self ep), fs_ins _ _ _ h01, lst_ins _ _ _ h02, e2, ← e1]
    · have e4 : linkG g p h b x = g x := by unfold linkG; rw [if_neg hx, if_neg hxp]
      cases ex : g x with
      | none =>
        have e5 : linkR (raw g av) p h b (lst l1) x = none := by
          unfold linkR
          by_cases c1 : lst l1 = 0 <;> by_cases c2 : b = 0
          · simp only [if_pos c1, if_pos c2]; exact upd_none (upd_none (upd_none (raw_none ex)))
          · simp only [if_pos c1, if_neg c2]; exact upd_none (upd_none (upd_none (raw_none ex)))
          · simp only [if_neg c1, if_pos c2]; exact upd_none (upd_none (upd_none (raw_none ex)))
          · simp only [if_neg c1, if_neg c2]; exact upd_none (upd_none (upd_none (raw_none ex)))
        rw [e5, raw_none (e4.trans ex)]
      | some m =>
        rw [raw_some (e4.trans ex)]
        have hz : x ≠ 0 := fun e => by rw [e, w.zero] at ex; cases ex
        have pm : ∀ y ∈ l1 ++ l2, x = y → m.pa = p := fun y hy e => by obtain ⟨m', h1, h2⟩ := hpar y hy; rw [← e, ex] at h1; cases h1; exact h2
        have e5 : linkR (raw g av) p h b (lst l1) x = some { raw1 g av x m with pr := if x = b then h else prv (kidsOf g m.pa) x, ne := if x = lst l1 then h else nxt (kidsOf g m.pa) x } := by
          have key : ∀ (c : Int) (R : Int → Option Nd) (d : Nd) (f k : Nd → Nd), R x = some d → (if c = 0 then upd R p k else upd R c f) x = some (if x = c then f d else d) := by
            intro c R d f k e
            by_cases c1 : c = 0
            · rw [if_pos c1, if_neg (fun e => hz (e.trans c1)), upd_ne hxp, e]
            · rw [if_neg c1]
              by_cases c2 : x = c
              · subst c2; rw [if_pos rfl, upd_at e]
              · rw [if_neg c2, upd_ne c2, e]
          unfold linkR
          simp only
          rw [key b _ _ _ _ (key (lst l1) _ _ _ _ ((upd_ne hx).trans (raw_some ex)))]
          by_cases c1 : x = lst l1 <;> by_cases c2 : x = b
          · simp only [if_pos c1, if_pos c2] <;> rfl
          · simp only [if_pos c1, if_neg c2] <;> rfl
          · simp only [if_neg c1, if_pos c2] <;> rfl
          · simp only [if_neg c1, if_neg c2] <;> rfl
        rw [e5]
        unfold raw1
        simp only
        rw [hk m.pa]
        by_cases c : m.pa = p
        · rw [if_pos c, e3, c, prv_ins hnn h0' hx, nxt_ins hnn h0' hx, e2, kidsOf_some ep, ← e1]
          simp [hz]
        · rw [if_neg c, if_neg (fun e => c (pm _ (hv2 (by rw [← e]; exact hz)) e)), if_neg (fun e => c (pm _ (hv1 (by rw [← e]; exact hz)) e))]

theorem kidsOf_cut (y : Int) (hp : h ≠ paOf g h) : kidsOf (cutG g h) y = if y = paOf g h then (kidsOf g y).erase h else kidsOf g y := by
  unfold kidsOf cutG
  by_cases h1 : y = h
  · subst h1; rw [if_pos rfl, if_neg hp]; cases g y <;> rfl
  · rw [if_neg h1]
    by_cases h2 : y = paOf g h
    · subst h2; rw [if_pos rfl, if_pos rfl]; cases g (paOf g h) <;> rfl
    · rw [if_neg h2, if_neg h2]
theorem cut_raw (w : WF 0 g) (eh : g h = some n) (hn : n.pa ≠ 0) :
    raw (cutG g h) av = cutR (raw g av) h n.pa (prv (kidsOf g n.pa) h) (nxt (kidsOf g n.pa) h) := by
  obtain ⟨q, ep, hk⟩ := w.up h n eh hn
  have epa := paOf_some eh
  obtain ⟨p, hpe⟩ : ∃ p, n.pa = p := ⟨_, rfl⟩
  have hps : h ≠ p := fun e => w.not_self eh (hpe.trans e.symm)
  rw [hpe] at hn ep epa ⊢
  have hq := kidsOf_some ep
  obtain ⟨l1, l2, e1⟩ := List.append_of_mem hk
  have hnn := w.nodup p q ep
  have h0' := w.kid_not_zero ep
  have hpar : ∀ y ∈ q.kids, ∃ m, g y = some m ∧ m.pa = p := fun y hy => w.down p q y ep hy
  have hpp : p ∉ q.kids := fun hy => by obtain ⟨m, h1, h2⟩ := hpar p hy; exact w.not_self h1 h2
  rw [hq]
  rw [e1] at hnn h0'
  have h1n : h ∉ l1 := fun hx => (List.nodup_append.1 hnn).2.2 h hx h (by simp) rfl
  have h2n : h ∉ l2 := (List.nodup_cons.1 (List.nodup_append.1 hnn).2.1).1
  have h01 : 0 ∉ l1 := fun hx => h0' (by simp [hx])
  have h02 : 0 ∉ l2 := fun hx => h0' (by simp [hx])
  rw [e1, prv_split h2n, nxt_split h1n]
  have hv1 : lst l1 ≠ 0 → lst l1 ∈ l1 := fun e => lst_mem e
  have hv2 : fs l2 ≠ 0 → fs l2 ∈ l2 := fun e => fs_mem e
  have m1 : ∀ y ∈ l1, y ∈ q.kids := fun y hy => by rw [e1]; simp [hy]
  have m2 : ∀ y ∈ l2, y ∈ q.kids := fun y hy => by rw [e1]; simp [hy]
  have hkk := fun y => kidsOf_cut (g := g) (h := h) y (by rw [epa]; exact hps)
  rw [epa] at hkk
  have hke : q.kids.erase h = l1 ++ l2 := by rw [e1]; exact erase_split h1n
  funext x
  by_cases hx : x = h
  · subst hx
    have e4 : cutG g x x = some { n with pa := 0 } := by unfold cutG; rw [if_pos rfl, eh]; rfl
    have n1 : lst l1 ≠ 0 → x ≠ lst l1 := fun e e' => h1n (e' ▸ hv1 e)
    have n2 : fs l2 ≠ 0 → x ≠ fs l2 := fun e e' => h2n (e' ▸ hv2 e)
    have e5 : cutR (raw g av) x p (lst l1) (fs l2) x = some { raw1 g av x n with pa := 0, pr := 0, ne := 0 } := by
      unfold cutR
      simp only
      rw [upd_same]
      by_cases c1 : lst l1 = 0 <;> by_cases c2 : fs l2 = 0
      · simp only [if_pos c1, if_pos c2]; rw [upd_ne hps, upd_ne hps, raw_some eh]; rfl
      · simp only [if_pos c1, if_neg c2]; rw [upd_ne (n2 c2), upd_ne hps, raw_some eh]; rfl
      · simp only [if_neg c1, if_pos c2]; rw [upd_ne hps, upd_ne (n1 c1), raw_some eh]; rfl
      · simp only [if_neg c1, if_neg c2]; rw [upd_ne (n2 c2), upd_ne (n1 c1), raw_some eh]; rfl
    rw [e5, raw_some e4]
    unfold raw1
    simp only
    have e6 : kidsOf (cutG g x) 0 = [] := by rw [hkk 0, if_neg (fun e => hn e.symm)]; exact kidsOf_none w.zero
    rw [e6]; rfl
  · by_cases hxp : x = p
    · subst hxp
      have e4 : cutG g h x = some { q with kids := l1 ++ l2 } := by unfold cutG; rw [if_neg hx, if_pos epa.symm, ep, ← hke]; rfl
      have n1 : lst l1 ≠ 0 → x ≠ lst l1 := fun e e' => hpp (m1 _ (e' ▸ hv1 e))
      have n2 : fs l2 ≠ 0 → x ≠ fs l2 := fun e e' => hpp (m2 _ (e' ▸ hv2 e))
      have e5 : cutR (raw g av) h x (lst l1) (fs l2) x = some { raw1 g av x q with fi := if lst l1 = 0 then fs l2 else fs q.kids, la := if fs l2 = 0 then lst l1 else lst q.kids } := by
        unfold cutR
        simp only
        rw [upd_ne hx]
        by_cases c1 : lst l1 = 0 <;> by_cases c2 : fs l2 = 0
        · simp only [if_pos c1, if_pos c2]; rw [upd_same, upd_same, raw_some ep]; rfl
        · simp only [if_pos c1, if_neg c2]; rw [upd_ne (n2 c2), upd_same, raw_some ep]; rfl
        · simp only [if_neg c1, if_pos c2]; rw [upd_same, upd_ne (n1 c1), raw_some ep]; rfl
        · simp only [if_neg c1, if_neg c2]; rw [upd_ne (n2 c2), upd_ne (n1 c1), raw_some ep]; rfl
      rw [e5, raw_some e4]
      unfold raw1
      simp only
      rw [hkk q.pa, if_neg (w.not_self ep), e1]
      have f1 : fs (l1 ++ l2) = if lst l1 = 0 then fs l2 else fs (l1 ++ h :: l2) := by
        by_cases c1 : lst l1 = 0
        · rw [if_pos c1, lst_zero h01 c1]; rfl
        · rw [if_neg c1, fs_append _ _ (fun e => c1 (by rw [e]; rfl)), fs_append _ _ (fun e => c1 (by rw [e]; rfl))]
      have f2 : lst (l1 ++ l2) = if fs l2 = 0 then lst l1 else lst (l1 ++ h :: l2) := by
        by_cases c2 : fs l2 = 0
        · rw [if_pos c2, fs_zero h02 c2, List.append_nil]
        · have hne : l2 ≠ [] := fun e => c2 (by rw [e]; rfl)
          rw [if_neg c2, lst_append _ _ hne, show l1 ++ h :: l2 = (l1 ++ [h]) ++ l2 from by simp, lst_append _ _ hne]
      rw [f1, f2]
    · have e4 : cutG g h x = g x := by unfold cutG; rw [if_neg hx, if_neg (by rw [epa]; exact hxp)]
      cases ex : g x with
      | none =>
        have e5 : cutR (raw g av) h p (lst l1) (fs l2) x = none := by
          unfold cutR
          refine upd_none ?_
          by_cases c1 : lst l1 = 0 <;> by_cases c2 : fs l2 = 0
          · simp only [if_pos c1, if_pos c2]; exact upd_none (upd_none (raw_none ex))
          · simp only [if_pos c1, if_neg c2]; exact upd_none (upd_none (raw_none ex))
          · simp only [if_neg c1, if_pos c2]; exact upd_none (upd_none (raw_none ex))
          · simp only [if_neg c1, if_neg c2]; exact upd_none (upd_none (raw_none ex))
        rw [e5, raw_none (e4.trans ex)]
      | some m =>
        rw [raw_some (e4.trans ex)]
        have hz : x ≠ 0 := fun e => by rw [e, w.zero] at ex; cases ex
        have pm : ∀ y ∈ q.kids, x = y → m.pa = p := fun y hy e => by obtain ⟨m', h1, h2⟩ := hpar y hy; rw [← e, ex] at h1; cases h1; exact h2
        have e5 : cutR (raw g av) h p (lst l1) (fs l2) x = some { raw1 g av x m with pr := if x = fs l2 then lst l1 else prv (kidsOf g m.pa) x, ne := if x = lst l1 then fs l2 else nxt (kidsOf g m.pa) x } := by
          have key : ∀ (c : Int) (R : Int → Option Nd) (d : Nd) (f k : Nd → Nd), R x = some d → (if c = 0 then upd R p k else upd R c f) x = some (if x = c then f d else d) := by
            intro c R d f k e
            by_cases c1 : c = 0
            · rw [if_pos c1, if_neg (fun e => hz (e.trans c1)), upd_ne hxp, e]
            · rw [if_neg c1]
              by_cases c2 : x = c
              · subst c2; rw [if_pos rfl, upd_at e]
              · rw [if_neg c2, upd_ne c2, e]
          unfold cutR
          simp only
          rw [upd_ne hx, key (fs l2) _ _ _ _ (key (lst l1) _ _ _ _ (raw_some ex))]
          by_cases c1 : x = lst l1 <;> by_cases c2 : x = fs l2
          · simp only [if_pos c1, if_pos c2] <;> rfl
          · simp only [if_pos c1, if_neg c2] <;> rfl
          · simp only [if_neg c1, if_pos c2] <;> rfl
          · simp only [if_neg c1, if_neg c2] <;> rfl
        rw [e5]
        unfold raw1
        simp only
        rw [hkk m.pa]
        by_cases c : m.pa = p
        · rw [if_pos c, c, hq, hke, e1, prv_ins hnn h0' hx, nxt_ins hnn h0' hx]
          have a1 : nxt (l1 ++ l2) x = if x = lst l1 then fs l2 else if x = lst l1 ∧ x ≠ 0 then h else nxt (l1 ++ l2) x := by
            by_cases d : x = lst l1
            · rw [if_pos d]
              have hm : lst l1 ∈ l1 := lst_mem (by rw [← d]; exact hz)
              obtain ⟨a, c, e⟩ := List.append_of_mem hm
              have hl : l1.Nodup := (List.nodup_append.1 hnn).1
              have hc : c = [] := by
                cases c with
                | nil => rfl
                | cons y r =>
                  rw [e, show a ++ lst l1 :: y :: r = (a ++ [lst l1]) ++ (y :: r) from by simp] at hl
                  have h3 : lst l1 ∈ y :: r := by
                    have : lst l1 = lst (y :: r) := by
                      have := lst_append (a ++ [lst l1]) (y :: r) (by simp)
                      rw [← this, show (a ++ [lst l1]) ++ (y :: r) = a ++ lst l1 :: y :: r from by simp, ← e]
                    rw [this]; exact lst_mem (by rw [← this, ← d]; exact hz)
                  exact absurd rfl ((List.nodup_append.1 hl).2.2 (lst l1) (by simp) (lst l1) h3)
              rw [hc] at e
              have ha : lst l1 ∉ a := fun hx => by
                rw [e] at hl
                exact (List.nodup_append.1 hl).2.2 _ hx _ (by simp) rfl
              rw [d]
              conv => lhs; arg 1; rw [e]
              rw [List.append_assoc]
              exact nxt_split ha
            · rw [if_neg d, if_neg (fun e => d e.1)]
          have a2 : prv (l1 ++ l2) x = if x = fs l2 then lst l1 else if x = fs l2 ∧ x ≠ 0 then h else prv (l1 ++ l2) x := by
            by_cases d : x = fs l2
            · rw [if_pos d]
              cases l2 with
              | nil => exact absurd d hz
              | cons y r =>
                have d' : x = y := d
                subst d'
                exact prv_split (List.nodup_cons.1 (List.nodup_cons.1 (List.nodup_append.1 hnn).2.1).2).1
            · rw [if_neg d, if_neg (fun e => d e.1)]
          rw [← a1, ← a2]
        · rw [if_neg c, if_neg (fun e => c (pm _ (m2 _ (hv2 (by rw [← e]; exact hz))) e)), if_neg (fun e => c (pm _ (m1 _ (hv1 (by rw [← e]; exact hz))) e))]
end
end Go.Proofs.YtelncgfeojfafaaDoor.Tr

/- Subtrees: the nodes in document order, the height, what follows a node. No program is imported. -/
namespace Go.Proofs.YtelncgfeojfafaaDoor.Tr
open Go Go.RowKit
set_option linter.unusedVariables false
set_option linter.unusedSimpArgs false

def walk (g : G) : Nat → Int → List Int
  | 0, _ => []
  | f + 1, h => match g h with | none => [] | some n => h :: n.kids.flatMap (walk g f)
def hgt (g : G) : Nat → Int → Nat
  | 0, _ => 0
  | f + 1, h => match g h with | none => 0 | some n => (n.kids.map (hgt g f)).foldl max 0 + 1
def ups (g : G) : Nat → Int → List Int
  | 0, _ => []
  | f + 1, h => match g h with | none => [] | some n => h :: ups g f n.pa
/-- The nodes of a subtree in document order. -/
def walkG (g : G) (h : Int) : List Int := walk g 129 h
/-- Its height. -/
def hgtG (g : G) (h : Int) : Nat := hgt g 129 h
/-- The way up. -/
def upG (g : G) (h : Int) : List Int := ups g 129 h
theorem flat_congr {f k : Int → List Int} {l : List Int} (h : ∀ x ∈ l, f x = k x) : l.flatMap f = l.flatMap k := by
  rw [List.flatMap_def, List.flatMap_def, List.map_congr_left h]
theorem ups_is {g : G} {h : Int} {l : List Int} (u : Up g h l) : ∀ f, l.length ≤ f → ups g f h = l := by
  induction u with
  | out e => intro f _; cases f with | zero => rfl | succ f => rw [ups, e]
  | node e _ ih =>
    intro f hf
    cases f with
    | zero => simp at hf
    | succ f => rw [ups, e]; simp only; rw [ih f (by simpa using hf)]
theorem Up.suffix {g : G} {h : Int} {l2 : List Int} : ∀ (l1 : List Int) {x : Int}, Up g x (l1 ++ h :: l2) → Up g h (h :: l2)
  | [], _, u => by cases u with | node e u => exact .node e u
  | _ :: r, _, u => by cases u with | node _ u => exact Up.suffix r u
theorem Up.parent {g : G} {x k h : Int} {l2 : List Int} (u : Up g x (k :: h :: l2)) : ∃ m, g k = some m ∧ m.pa = h := by
  cases u with
  | node e u =>
    refine ⟨_, e, ?_⟩
    cases u with
    | node _ _ => rfl
section
variable {z : Int} {g : G}
theorem WF.up_is (w : WF z g) (h : Int) : Up g h (upG g h) ∧ (upG g h).length ≤ 128 := by
  obtain ⟨l, u, hl⟩ := w.chain h
  have : upG g h = l := ups_is u 129 (by omega)
  rw [this]; exact ⟨u, hl⟩
theorem WF.upG_of (w : WF z g) {h : Int} {l : List Int} (u : Up g h l) : upG g h = l := (w.up_is h).1.one u
theorem WF.upG_some (w : WF z g) {h : Int} {n : GN} (e : g h = some n) : upG g h = h :: upG g n.pa := w.upG_of (.node e (w.up_is n.pa).1)
theorem WF.upG_none (w : WF z g) {h : Int} (e : g h = none) : upG g h = [] := w.upG_of (.out e)
theorem WF.up_kid (w : WF z g) {h k : Int} {n : GN} (e : g h = some n) (hk : k ∈ n.kids) : upG g k = k :: upG g h := by
  obtain ⟨m, e1, e2⟩ := w.down h n k e hk
  rw [w.upG_some e1, e2]
/-- Induction from the leaves up. -/
theorem WF.induct (w : WF z g) {P : Int → Prop} (step : ∀ h, (∀ n, g h = some n → ∀ k ∈ n.kids, P k) → P h) : ∀ h, P h := by
  have key : ∀ f h, 129 ≤ f + (upG g h).length → P h := by
    intro f
    induction f with
    | zero => intro h hf; have := (w.up_is h).2; omega
    | succ f ih =>
      intro h hf
      refine step h fun n e k hk => ih k ?_
      rw [w.up_kid e hk, List.length_cons]; omega
  exact fun h => key 129 h (by omega)
theorem WF.walk_fuel (w : WF z g) : ∀ f h, 129 ≤ f + (upG g h).length → walk g (f + 1) h = walk g f h := by
  intro f
  induction f with
  | zero => intro h hf; have := (w.up_is h).2; omega
  | succ f ih =>
    intro h hf
    cases e : g h with
    | none => rw [walk, walk, e]
    | some n =>
      rw [walk, walk, e]
      simp only
      congr 1
      rw [List.flatMap_def, List.flatMap_def]
      congr 1
      refine List.map_congr_left fun k hk => ih k ?_
      rw [w.up_kid e hk, List.length_cons]; omega
theorem WF.hgt_fuel (w : WF z g) : ∀ f h, 129 ≤ f + (upG g h).length → hgt g (f + 1) h = hgt g f h := by
  intro f
  induction f with
  | zero => intro h hf; have := (w.up_is h).2; omega
  | succ f ih =>
    intro h hf
    cases e : g h with
    | none => rw [hgt, hgt, e]
    | some n =>
      rw [hgt, hgt, e]
      simp only
      congr 2
      refine List.map_congr_left fun k hk => ih k ?_
      rw [w.up_kid e hk, List.length_cons]; omega
theorem WF.walkG_some (w : WF z g) {h : Int} {n : GN} (e : g h = some n) : walkG g h = h :: n.kids.flatMap (walkG g) := by
  show walk g (128 + 1) h = _
  rw [walk, e]
  simp only
  refine congrArg (fun t => h :: t) (flat_congr fun k hk => ?_)
  show walk g 128 k = walk g (128 + 1) k
  refine (w.walk_fuel 128 k ?_).symm
  rw [w.up_kid e hk, w.upG_some e, List.length_cons, List.length_cons]; omega
theorem walkG_none {h : Int} (e : g h = none) : walkG g h = [] := by
  show walk g (128 + 1) h = _
  rw [walk, e]
theorem WF.hgtG_some (w : WF z g) {h : Int} {n : GN} (e : g h = some n) : hgtG g h = (n.kids.map (hgtG g)).foldl max 0 + 1 := by
  show hgt g (128 + 1) h = _
  rw [hgt, e]
  simp only
  refine congrArg (fun t : List Nat => t.foldl max 0 + 1) (List.map_congr_left fun k hk => ?_)
  show hgt g 128 k = hgt g (128 + 1) k
  refine (w.hgt_fuel 128 k ?_).symm
  rw [w.up_kid e hk, w.upG_some e, List.length_cons, List.length_cons]; omega
theorem foldl_max_le {l : List Nat} {a b : Nat} (ha : a ≤ b) (h : ∀ x ∈ l, x ≤ b) : l.foldl max a ≤ b := by
  induction l generalizing a with
  | nil => exact ha
  | cons x r ih => exact ih (Nat.max_le.2 ⟨ha, h x (by simp)⟩) fun y hy => h y (by simp [hy])
theorem le_foldl_max {l : List Nat} {a : Nat} : a ≤ l.foldl max a ∧ ∀ x ∈ l, x ≤ l.foldl max a := by
  induction l generalizing a with
  | nil => exact ⟨Nat.le_refl _, fun x hx => by cases hx⟩
  | cons y r ih =>
    obtain ⟨h1, h2⟩ := ih (a := max a y)
    refine ⟨Nat.le_trans (Nat.le_max_left _ _) h1, fun x hx => ?_⟩
    rcases List.mem_cons.1 hx with rfl | hx
    · exact Nat.le_trans (Nat.le_max_right _ _) h1
    · exact h2 x hx
theorem WF.hgt_le (w : WF z g) : ∀ h, hgtG g h + (upG g h).length ≤ 129 := by
  refine w.induct fun h ih => ?_
  cases e : g h with
  | none =>
    rw [w.upG_none e]
    show hgt g (128 + 1) h + _ ≤ _
    rw [hgt, e]; simp
  | some n =>
    have hu := (w.up_is h).2
    rw [w.upG_some e, List.length_cons] at hu
    rw [w.hgtG_some e, w.upG_some e, List.length_cons]
    have : (n.kids.map (hgtG g)).foldl max 0 ≤ 127 - (upG g n.pa).length := foldl_max_le (Nat.zero_le _) fun x hx => by
      obtain ⟨k, hk, rfl⟩ := List.mem_map.1 hx
      have := ih n e k hk
      rw [w.up_kid e hk, w.upG_some e, List.length_cons, List.length_cons] at this
      omega
    omega
/-- Who lies in a subtree. -/
theorem WF.mem_walk (w : WF z g) : ∀ h x, x ∈ walkG g h ↔ h ∈ upG g x := by
  refine w.induct fun h ih => fun x => ?_
  cases e : g h with
  | none =>
    rw [walkG_none e]
    refine ⟨fun hx => (List.not_mem_nil hx).elim, fun hx => ?_⟩
    have := (w.up_is x).1.mem hx
    rw [e] at this; cases this
  | some n =>
    rw [w.walkG_some e, List.mem_cons, List.mem_flatMap]
    constructor
    · rintro (rfl | ⟨k, hk, hx⟩)
      · rw [w.upG_some e]; simp
      · obtain ⟨l1, l2, e1⟩ := List.append_of_mem ((ih n e k hk x).1 hx)
        have u := (w.up_is x).1
        rw [e1] at u
        have u3 := (w.upG_of (u.suffix l1)).symm.trans (w.up_kid e hk)
        injection u3 with _ u3
        rw [e1, u3, w.upG_some e]; simp
    · intro hx
      by_cases hxh : x = h
      · exact .inl hxh
      · right
        obtain ⟨l1, l2, e1⟩ := List.append_of_mem hx
        have u := (w.up_is x).1
        by_cases hl1 : l1 = []
        · rw [e1, hl1] at u
          cases u with
          | node e' u' => exact absurd rfl hxh
        · obtain ⟨l3, k, hlk⟩ : ∃ l3 k, l1 = l3 ++ [k] := ⟨l1.dropLast, l1.getLast hl1, (List.dropLast_concat_getLast _).symm⟩
          rw [hlk, List.append_assoc] at e1
          rw [e1] at u
          have u2 := u.suffix l3
          obtain ⟨m, hm1, hm2⟩ := u2.parent
          have hz : h ≠ z := fun e' => by rw [e', w.zero] at e; cases e
          have hkk : k ∈ n.kids := by
            obtain ⟨p, hp1, hp2⟩ := w.up k m hm1 (by rw [hm2]; exact hz)
            rw [hm2, e] at hp1
            obtain rfl := Option.some.inj hp1
            exact hp2
          exact ⟨k, hkk, (ih n e k hkk x).2 (by rw [e1]; simp)⟩
theorem WF.walk_sub (w : WF z g) {h x : Int} (hx : x ∈ walkG g h) : (g x).isSome := by
  have := (w.mem_walk h x).1 hx
  cases e : g x with
  | some n => rfl
  | none => rw [w.upG_none e] at this; cases this
theorem WF.up_nodup (w : WF z g) (h : Int) : (upG g h).Nodup := by
  have key : ∀ (x : Int) (l : List Int), Up g x l → l.Nodup := by
    intro x l u
    induction u with
    | out _ => exact List.nodup_nil
    | node e u ih => exact List.nodup_cons.2 ⟨w.above e u, ih⟩
  exact key _ _ (w.up_is h).1
theorem WF.walk_nodup (w : WF z g) : ∀ h, (walkG g h).Nodup := by
  refine w.induct fun h ih => ?_
  cases e : g h with
  | none => rw [walkG_none e]; exact List.nodup_nil
  | some n =>
    rw [w.walkG_some e, List.nodup_cons]
    refine ⟨fun hm => ?_, ?_⟩
    · obtain ⟨k, hk, hx⟩ := List.mem_flatMap.1 hm
      have h1 := (w.mem_walk k h).1 hx
      rw [w.upG_some e] at h1
      have h2 := w.up_kid e hk
      have h3 := w.up_nodup k
      rw [h2, w.upG_some e] at h3
      rcases List.mem_cons.1 h1 with h1 | h1
      · subst h1; exact (List.nodup_cons.1 h3).1 (by simp)
      · exact (List.nodup_cons.1 h3).1 (by simp [h1])
    · rw [List.flatMap_def]
      refine List.pairwise_flatten.2 ?_
      refine ⟨fun l hl => ?_, ?_⟩
      · obtain ⟨k, hk, rfl⟩ := List.mem_map.1 hl
        exact ih n e k hk
      · rw [List.pairwise_map]
        refine (w.nodup h n e).imp_of_mem fun {a c} ha hc hne => ?_
        intro x hx y hy exy
        subst exy
        have h1 := (w.mem_walk a x).1 hx
        have h2 := (w.mem_walk c x).1 hy
        have ua := w.up_kid e ha
        have uc := w.up_kid e hc
        obtain ⟨l1, l2, e1⟩ := List.append_of_mem h1
        obtain ⟨l3, l4, e2⟩ := List.append_of_mem h2
        have u := (w.up_is x).1
        have v1 := (w.upG_of ((e1 ▸ u).suffix l1)).symm.trans ua
        have v2 := (w.upG_of ((e2 ▸ u).suffix l3)).symm.trans uc
        have hl : l2.length = l4.length := by
          injection v1 with _ v1; injection v2 with _ v2
          rw [v1, v2]
        have e3 := e1.symm.trans e2
        have hlen := congrArg List.length e3
        simp at hlen
        have := (List.append_inj e3 (by omega)).2
        injection this with this
        exact hne this
theorem WF.walk_zero (w : WF z g) (h : Int) : z ∉ walkG g h := fun hm => by
  have := w.walk_sub hm
  rw [w.zero] at this; cases this
theorem fs_walk {h : Int} {n : GN} (w : WF z g) (e : g h = some n) : fs (walkG g h) = h := by rw [w.walkG_some e]; rfl

/-! What follows a node in a subtree. -/
/-- What lies behind x in a list. -/
def aft : List Int → Int → List Int
  | [], _ => []
  | a :: r, x => if a = x then r else aft r x
theorem fs_aft (l : List Int) (x : Int) : fs (aft l x) = nxt l x := by
  induction l with
  | nil => rfl
  | cons a r ih =>
    rw [aft, nxt]
    split
    · rfl
    · exact ih
theorem aft_split {l1 l2 : List Int} {x : Int} (h : x ∉ l1) : aft (l1 ++ x :: l2) x = l2 := by
  induction l1 with
  | nil => simp [aft]
  | cons a r ih =>
    simp only [List.mem_cons, not_or] at h
    rw [List.cons_append, aft, if_neg (fun e => h.1 e.symm), ih h.2]
/-- What comes behind the subtree of the first of a way up, within t. -/
def rest (g : G) (t : Int) : List Int → List Int
  | [] => []
  | x :: l => if x = t then [] else (aft (kidsOf g (paOf g x)) x).flatMap (walkG g) ++ rest g t l
theorem fs_flat (w : WF 0 g) (l : List Int) (hl : ∀ k ∈ l, (g k).isSome) (m : List Int) : fs (l.flatMap (walkG g) ++ m) = if l = [] then fs m else fs l := by
  cases l with
  | nil => rfl
  | cons a r =>
    obtain ⟨n, e⟩ := Option.isSome_iff_exists.1 (hl a (by simp))
    rw [if_neg (by simp), List.flatMap_cons, w.walkG_some e]; rfl
/-- The node behind x. -/
def folG (g : G) (t x : Int) : Int := fs ((kidsOf g x).flatMap (walkG g) ++ rest g t (upG g x))
theorem aft_mem {l : List Int} {x y : Int} (h : y ∈ aft l x) : y ∈ l := by
  induction l with
  | nil => exact h
  | cons a r ih =>
    rw [aft] at h
    split at h
    · exact List.mem_cons_of_mem _ h
    · exact List.mem_cons_of_mem _ (ih h)
/-- On the way up: what the loop of following comes to. -/
theorem WF.rest_step (w : WF 0 g) {t h : Int} {n : GN} (e : g h = some n) (ht : h ≠ t) (l : List Int) : fs (rest g t (h :: l)) = if nxt (kidsOf g n.pa) h = 0 then fs (rest g t l) else nxt (kidsOf g n.pa) h := by
  rw [rest, if_neg ht, paOf_some e]
  have hk : ∀ k ∈ aft (kidsOf g n.pa) h, (g k).isSome := fun k hk => by
    obtain ⟨m, e1, _⟩ := w.kidsOf_mem (aft_mem hk)
    rw [e1]; rfl
  have h0 : 0 ∉ aft (kidsOf g n.pa) h := fun hm => w.kidsOf_zero _ (aft_mem hm)
  rw [fs_flat w _ hk, ← fs_aft]
  by_cases hz : fs (aft (kidsOf g n.pa) h) = 0
  · rw [if_pos (fs_zero h0 hz), if_pos hz]
  · rw [if_neg (fun e => hz (by rw [e]; rfl)), if_neg hz]
theorem rest_top {t : Int} {l : List Int} : rest g t (t :: l) = [] := by rw [rest, if_pos rfl]
theorem WF.rest_next (w : WF 0 g) {t : Int} : ∀ (l : List Int) (h : Int), Up g h l → t ∈ l → ∀ y r, rest g t l = y :: r → (g y).isSome ∧ t ∈ upG g y ∧ r = (kidsOf g y).flatMap (walkG g) ++ rest g t (upG g y) := by
  intro l
  induction l with
  | nil => intro h _ ht; cases ht
  | cons a l ih =>
    intro h u ht y r er
    cases u with
    | @node _ n _ e u =>
      by_cases hat : a = t
      · rw [hat, rest_top] at er; cases er
      · rw [rest, if_neg hat, paOf_some e] at er
        have htl : t ∈ l := by rcases List.mem_cons.1 ht with e1 | e1; exact absurd e1.symm hat; exact e1
        cases ha : aft (kidsOf g n.pa) a with
        | nil =>
          rw [ha] at er
          exact ih n.pa u htl y r er
        | cons c s =>
          have hpz : n.pa ≠ 0 := fun e1 => by rw [e1, kidsOf_none w.zero] at ha; cases ha
          have hcm : c ∈ kidsOf g n.pa := aft_mem (by rw [ha]; simp)
          obtain ⟨mc, ec, ecp⟩ := w.kidsOf_mem hcm
          obtain ⟨A, B, eA⟩ := List.append_of_mem (w.in_parent e hpz)
          have hnd := w.kidsOf_nodup n.pa
          have hA : a ∉ A := fun hm => by rw [eA] at hnd; exact (List.nodup_append.1 hnd).2.2 _ hm _ (by simp) rfl
          rw [eA, aft_split hA] at ha
          rw [ha] at eA
          have hac : aft (kidsOf g n.pa) c = s := by
            rw [eA, show A ++ a :: c :: s = (A ++ [a]) ++ c :: s from by simp]
            refine aft_split fun hm => ?_
            rw [eA, show A ++ a :: c :: s = (A ++ [a]) ++ c :: s from by simp] at hnd
            exact (List.nodup_append.1 hnd).2.2 _ hm _ (by simp) rfl
          rw [eA, show A ++ a :: c :: s = A ++ a :: (c :: s) from rfl, aft_split hA, List.flatMap_cons, w.walkG_some ec] at er
          have er2 : c = y ∧ (mc.kids.flatMap (walkG g) ++ s.flatMap (walkG g)) ++ rest g t l = r := by
            simp only [List.cons_append] at er
            injection er with e1 e2
            exact ⟨e1, e2⟩
          obtain ⟨rfl, er2⟩ := er2
          have hup : upG g c = c :: l := by rw [w.upG_some ec, ecp, w.upG_of u]
          have hct : c ≠ t := fun e1 => by
            have := w.above ec (ecp ▸ u)
            rw [e1] at this; exact this htl
          refine ⟨by rw [ec]; rfl, by rw [hup]; exact List.mem_cons_of_mem _ htl, ?_⟩
          rw [hup, rest, if_neg hct, paOf_some ec, ecp, hac, kidsOf_some ec, ← er2, List.append_assoc]
/-- What comes next, from a node on. -/
theorem WF.fol_next (w : WF 0 g) {t x : Int} (ht : t ∈ upG g x) {y : Int} {r : List Int} (e : (kidsOf g x).flatMap (walkG g) ++ rest g t (upG g x) = y :: r) :
    (g y).isSome ∧ t ∈ upG g y ∧ r = (kidsOf g y).flatMap (walkG g) ++ rest g t (upG g y) := by
  cases hk : kidsOf g x with
  | nil =>
    rw [hk] at e
    exact w.rest_next _ x (w.up_is x).1 ht y r e
  | cons k s =>
    obtain ⟨mk, ek, ekp⟩ := w.kidsOf_mem (show k ∈ kidsOf g x by rw [hk]; simp)
    rw [hk, List.flatMap_cons, w.walkG_some ek] at e
    have e2 : k = y ∧ (mk.kids.flatMap (walkG g) ++ s.flatMap (walkG g)) ++ rest g t (upG g x) = r := by
      simp only [List.cons_append] at e
      injection e with e1 e2
      exact ⟨e1, e2⟩
    obtain ⟨rfl, e2⟩ := e2
    have hup : upG g k = k :: upG g x := by rw [w.upG_some ek, ekp]
    have hkt : k ≠ t := fun e1 => by
      have := w.above ek (w.up_is mk.pa).1
      rw [e1, ekp] at this; exact this ht
    have hak : aft (kidsOf g x) k = s := by rw [hk]; simp [aft]
    refine ⟨by rw [ek]; rfl, by rw [hup]; exact List.mem_cons_of_mem _ ht, ?_⟩
    rw [hup, rest, if_neg hkt, paOf_some ek, ekp, hak, kidsOf_some ek, ← e2, List.append_assoc]
end
end Go.Proofs.YtelncgfeojfafaaDoor.Tr

/- A tree stays consistent when a node is cut off or linked. No program is imported. -/
namespace Go.Proofs.YtelncgfeojfafaaDoor.Tr
open Go Go.RowKit
set_option linter.unusedVariables false
set_option linter.unusedSimpArgs false

section
variable {g : G} {h p c : Int} {n q : GN}
theorem cutG_self (e : g h = some n) : cutG g h h = some { n with pa := 0 } := by unfold cutG; rw [if_pos rfl, e]; rfl
theorem cutG_pa (e : g h = some n) (hp : n.pa ≠ h) (eq : g n.pa = some q) : cutG g h n.pa = some { q with kids := q.kids.erase h } := by
  unfold cutG; rw [if_neg hp, if_pos (paOf_some e).symm, eq]; rfl
theorem cutG_ne {x : Int} (h1 : x ≠ h) (h2 : x ≠ paOf g h) : cutG g h x = g x := by unfold cutG; rw [if_neg h1, if_neg h2]
theorem cutG_isSome {x : Int} : (cutG g h x).isSome = (g x).isSome := by
  unfold cutG
  split
  · rename_i e; rw [e]; cases g h <;> rfl
  · split
    · cases g x <;> rfl
    · rfl
/-- What a node is behind the cut. -/
theorem cutG_pa_of {x : Int} {m : GN} (e : cutG g h x = some m) (hx : x ≠ h) : ∃ m0, g x = some m0 ∧ m.pa = m0.pa ∧ (∀ k, k ∈ m.kids → k ∈ m0.kids) ∧ (x ≠ paOf g h → m.kids = m0.kids) ∧ (x = paOf g h → m.kids = m0.kids.erase h) ∧ m.kind = m0.kind := by
  unfold cutG at e
  rw [if_neg hx] at e
  split at e
  · rename_i hp
    cases ex : g x with
    | none => rw [ex] at e; cases e
    | some m0 =>
      rw [ex] at e
      obtain rfl := Option.some.inj e
      exact ⟨m0, rfl, rfl, fun k hk => List.mem_of_mem_erase hk, fun h => absurd hp h, fun _ => rfl, rfl⟩
  · rename_i hp
    exact ⟨m, e, rfl, fun _ h => h, fun _ => rfl, fun h => absurd h hp, rfl⟩
theorem WF.cut (w : WF 0 g) (e : g h = some n) : WF 0 (cutG g h) := by
  have hz : h ≠ 0 := fun e1 => by rw [e1, w.zero] at e; cases e
  have hzero : cutG g h 0 = none := by
    have := cutG_isSome (g := g) (h := h) (x := 0)
    rw [w.zero] at this
    exact Option.not_isSome_iff_eq_none.1 (by rw [this]; simp)
  have hps : n.pa ≠ h := w.not_self e
  refine ⟨hzero, ?_, ?_, ?_, ?_⟩
  · intro x m em hm
    by_cases hx : x = h
    · rw [hx, cutG_self e] at em; obtain rfl := Option.some.inj em; exact absurd rfl hm
    · obtain ⟨m0, e0, h1, _⟩ := cutG_pa_of em hx
      rw [h1] at hm ⊢
      obtain ⟨r, er, hr⟩ := w.up x m0 e0 hm
      by_cases hq : m0.pa = h
      · rw [hq] at er ⊢
        rw [e] at er; obtain rfl := Option.some.inj er
        exact ⟨_, cutG_self e, hr⟩
      · by_cases hq2 : m0.pa = n.pa
        · rw [hq2] at er ⊢
          exact ⟨_, cutG_pa e hps er, (List.mem_erase_of_ne hx).2 hr⟩
        · exact ⟨r, by rw [cutG_ne hq (by rw [paOf_some e]; exact hq2)]; exact er, hr⟩
  · intro x m k em hk
    by_cases hx : x = h
    · rw [hx, cutG_self e] at em
      obtain rfl := Option.some.inj em
      obtain ⟨mk, e1, e2⟩ := w.down h n k e hk
      have hkh : k ≠ h := fun e3 => w.kid_not_self h (by rw [kidsOf_some e]; exact e3 ▸ hk)
      have := cutG_isSome (g := g) (h := h) (x := k)
      rw [e1] at this
      obtain ⟨m', em'⟩ := Option.isSome_iff_exists.1 this
      obtain ⟨m0, e0, h1, _⟩ := cutG_pa_of em' hkh
      rw [e1] at e0; obtain rfl := Option.some.inj e0
      exact ⟨m', em', by rw [h1, e2, hx]⟩
    · obtain ⟨m0, e0, h1, h2, h3, h4, _⟩ := cutG_pa_of em hx
      obtain ⟨mk, e1, e2⟩ := w.down x m0 k e0 (h2 k hk)
      have hkh : k ≠ h := by
        intro e3
        rw [e3, e] at e1; obtain rfl := Option.some.inj e1
        have hxp : x = paOf g h := by rw [paOf_some e]; exact e2.symm
        rw [h4 hxp, e3] at hk
        exact ((w.nodup x m0 e0).mem_erase_iff.1 hk).1 rfl
      have := cutG_isSome (g := g) (h := h) (x := k)
      rw [e1] at this
      obtain ⟨m', em'⟩ := Option.isSome_iff_exists.1 this
      obtain ⟨m1, e0', h1', _⟩ := cutG_pa_of em' hkh
      rw [e1] at e0'; obtain rfl := Option.some.inj e0'
      exact ⟨m', em', by rw [h1', e2]⟩
  · intro x m em
    by_cases hx : x = h
    · rw [hx, cutG_self e] at em; obtain rfl := Option.some.inj em; exact w.nodup h n e
    · obtain ⟨m0, e0, _, _, h3, h4, _⟩ := cutG_pa_of em hx
      by_cases hp : x = paOf g h
      · rw [h4 hp]; exact (w.nodup x m0 e0).erase h
      · rw [h3 hp]; exact w.nodup x m0 e0
  · intro x
    obtain ⟨l, u, hl⟩ := w.chain x
    have key : ∀ (x : Int) (l : List Int), Up g x l → ∃ l', Up (cutG g h) x l' ∧ l'.length ≤ l.length := by
      intro x l u
      induction u with
      | @out y e1 =>
        refine ⟨[], .out ?_, Nat.le_refl _⟩
        have := cutG_isSome (g := g) (h := h) (x := y)
        rw [e1] at this
        exact Option.not_isSome_iff_eq_none.1 (by rw [this]; simp)
      | @node y m l e1 u ih =>
        by_cases hy : y = h
        · subst hy
          exact ⟨[y], .node (cutG_self e1) (.out hzero), by simp⟩
        · have := cutG_isSome (g := g) (h := h) (x := y)
          rw [e1] at this
          obtain ⟨m', em'⟩ := Option.isSome_iff_exists.1 this
          obtain ⟨m0, e0, h1, _⟩ := cutG_pa_of em' hy
          rw [e1] at e0; obtain rfl := Option.some.inj e0
          obtain ⟨l', u', hl'⟩ := ih
          exact ⟨y :: l', .node em' (by rw [h1]; exact u'), by simp; omega⟩
    obtain ⟨l', u', hl'⟩ := key x l u
    exact ⟨l', u', by omega⟩

theorem linkG_self (e : g h = some n) : linkG g p h c h = some { n with pa := p } := by unfold linkG; rw [if_pos rfl, e]; rfl
theorem linkG_pa (e : g p = some q) (hp : p ≠ h) : linkG g p h c p = some { q with kids := insB q.kids c h } := by unfold linkG; rw [if_neg hp, if_pos rfl, e]; rfl
theorem linkG_ne {x : Int} (h1 : x ≠ h) (h2 : x ≠ p) : linkG g p h c x = g x := by unfold linkG; rw [if_neg h1, if_neg h2]
theorem linkG_isSome {x : Int} (hp : (g p).isSome) : (linkG g p h c x).isSome = (g x).isSome := by
  unfold linkG
  split
  · rename_i e; rw [e]; cases g h <;> rfl
  · split
    · rename_i e; rw [e]; cases g p <;> rfl
    · rfl
theorem mem_insB {l : List Int} {b x y : Int} : y ∈ insB l b x ↔ y = x ∨ y ∈ l := by
  induction l with
  | nil => simp [insB]
  | cons a r ih =>
    rw [insB]
    split
    · simp
    · rw [List.mem_cons, ih, List.mem_cons]
      constructor
      · rintro (h | h | h)
        · exact .inr (.inl h)
        · exact .inl h
        · exact .inr (.inr h)
      · rintro (h | h | h)
        · exact .inr (.inl h)
        · exact .inl h
        · exact .inr (.inr h)
theorem nodup_insB {l : List Int} {b x : Int} (hn : l.Nodup) (hx : x ∉ l) : (insB l b x).Nodup := by
  induction l with
  | nil => simp [insB]
  | cons a r ih =>
    simp only [List.mem_cons, not_or] at hx
    rw [List.nodup_cons] at hn
    rw [insB]
    split
    · exact List.nodup_cons.2 ⟨by simp [hx.1, hx.2], List.nodup_cons.2 hn⟩
    · refine List.nodup_cons.2 ⟨fun hm => ?_, ih hn.2 hx.2⟩
      rcases mem_insB.1 hm with h1 | h1
      · exact hx.1 h1.symm
      · exact hn.1 h1
/-- How deep a subtree goes. -/
theorem WF.deep (w : WF 0 g) : ∀ h x, x ∈ walkG g h → (upG g x).length + 1 ≤ (upG g h).length + hgtG g h := by
  refine w.induct fun h ih => fun x hx => ?_
  cases e : g h with
  | none => rw [walkG_none e] at hx; cases hx
  | some m =>
    rw [w.walkG_some e] at hx
    rw [w.hgtG_some e]
    rcases List.mem_cons.1 hx with rfl | hx
    · omega
    · obtain ⟨k, hk, hx⟩ := List.mem_flatMap.1 hx
      have h1 := ih m e k hk x hx
      rw [w.up_kid e hk, List.length_cons] at h1
      have h2 : hgtG g k ≤ (m.kids.map (hgtG g)).foldl max 0 := le_foldl_max.2 _ (List.mem_map.2 ⟨k, hk, rfl⟩)
      omega
theorem WF.link (w : WF 0 g) (e : g h = some n) (hn : n.pa = 0) (ep : g p = some q) (hu : h ∉ upG g p) (hd : (upG g p).length + hgtG g h ≤ 128) : WF 0 (linkG g p h c) := by
  have hz : h ≠ 0 := fun e1 => by rw [e1, w.zero] at e; cases e
  have hpz : p ≠ 0 := fun e1 => by rw [e1, w.zero] at ep; cases ep
  have hps : p ≠ h := fun e1 => by rw [w.upG_some ep, e1] at hu; exact hu (by simp)
  have hsome := fun x => linkG_isSome (g := g) (p := p) (h := h) (c := c) (x := x) (by rw [ep]; rfl)
  have hzero : linkG g p h c 0 = none := by
    have := hsome 0
    rw [w.zero] at this
    exact Option.not_isSome_iff_eq_none.1 (by rw [this]; simp)
  have hnk : h ∉ q.kids := fun hm => by
    obtain ⟨m, h1, h2⟩ := w.down p q h ep hm
    rw [e] at h1; obtain rfl := Option.some.inj h1
    exact hpz (by rw [← h2, hn])
  have of : ∀ {x : Int} {m : GN}, linkG g p h c x = some m → x ≠ h → ∃ m0, g x = some m0 ∧ m.pa = m0.pa ∧ (x ≠ p → m.kids = m0.kids) := by
    intro x m em hx
    by_cases hxp : x = p
    · rw [hxp, linkG_pa ep hps] at em
      obtain rfl := Option.some.inj em
      exact ⟨q, hxp ▸ ep, rfl, fun h => absurd hxp h⟩
    · rw [linkG_ne hx hxp] at em
      exact ⟨m, em, rfl, fun _ => rfl⟩
  refine ⟨hzero, ?_, ?_, ?_, ?_⟩
  · intro x m em hm
    by_cases hx : x = h
    · rw [hx, linkG_self e] at em; obtain rfl := Option.some.inj em
      exact ⟨_, linkG_pa ep hps, by rw [hx]; exact mem_insB.2 (.inl rfl)⟩
    · obtain ⟨m0, e0, h1, _⟩ := of em hx
      rw [h1] at hm ⊢
      obtain ⟨r, er, hr⟩ := w.up x m0 e0 hm
      by_cases hq : m0.pa = h
      · rw [hq] at er ⊢
        rw [e] at er; obtain rfl := Option.some.inj er
        exact ⟨_, linkG_self e, hr⟩
      · by_cases hq2 : m0.pa = p
        · rw [hq2] at er ⊢
          rw [ep] at er; obtain rfl := Option.some.inj er
          exact ⟨_, linkG_pa ep hps, mem_insB.2 (.inr hr)⟩
        · exact ⟨r, by rw [linkG_ne hq hq2]; exact er, hr⟩
  · intro x m k em hk
    have kid : ∀ m0, g x = some m0 → k ∈ m0.kids → k ≠ h → ∃ m', linkG g p h c k = some m' ∧ m'.pa = x := by
      intro m0 e0 hk hkh
      obtain ⟨mk, e1, e2⟩ := w.down x m0 k e0 hk
      have := hsome k
      rw [e1] at this
      obtain ⟨m', em'⟩ := Option.isSome_iff_exists.1 this
      obtain ⟨m1, e3, h1, _⟩ := of em' hkh
      rw [e1] at e3; obtain rfl := Option.some.inj e3
      exact ⟨m', em', by rw [h1, e2]⟩
    by_cases hx : x = h
    · rw [hx, linkG_self e] at em
      obtain rfl := Option.some.inj em
      exact kid n (hx ▸ e) hk (fun e3 => w.kid_not_self h (by rw [kidsOf_some e]; exact e3 ▸ hk))
    · by_cases hxp : x = p
      · rw [hxp, linkG_pa ep hps] at em
        obtain rfl := Option.some.inj em
        rcases mem_insB.1 hk with rfl | hk
        · exact ⟨_, linkG_self e, hxp.symm⟩
        · exact kid q (hxp ▸ ep) hk (fun e3 => hnk (e3 ▸ hk))
      · obtain ⟨m0, e0, h1, h2⟩ := of em hx
        rw [h2 hxp] at hk
        refine kid m0 e0 hk (fun e3 => ?_)
        obtain ⟨mk, e1, e2⟩ := w.down x m0 k e0 hk
        rw [e3, e] at e1; obtain rfl := Option.some.inj e1
        rw [hn] at e2
        rw [← e2, w.zero] at e0; cases e0
  · intro x m em
    by_cases hx : x = h
    · rw [hx, linkG_self e] at em; obtain rfl := Option.some.inj em; exact w.nodup h n e
    · by_cases hxp : x = p
      · rw [hxp, linkG_pa ep hps] at em
        obtain rfl := Option.some.inj em
        exact nodup_insB (w.nodup p q ep) hnk
      · obtain ⟨m0, e0, h1, h2⟩ := of em hx
        rw [h2 hxp]; exact w.nodup x m0 e0
  · intro x
    have keyA : ∀ (x : Int) (l : List Int), Up g x l → h ∉ l → Up (linkG g p h c) x l := by
      intro x l u
      induction u with
      | @out y e1 =>
        intro _
        refine .out ?_
        have := hsome y
        rw [e1] at this
        exact Option.not_isSome_iff_eq_none.1 (by rw [this]; simp)
      | @node y m l e1 u ih =>
        intro hm
        simp only [List.mem_cons, not_or] at hm
        have := hsome y
        rw [e1] at this
        obtain ⟨m', em'⟩ := Option.isSome_iff_exists.1 this
        obtain ⟨m0, e0, h1, _⟩ := of em' (fun e2 => hm.1 e2.symm)
        rw [e1] at e0; obtain rfl := Option.some.inj e0
        exact .node em' (by rw [h1]; exact ih hm.2)
    have keyB : ∀ (x : Int) (l : List Int), Up g x l → h ∈ l → Up (linkG g p h c) x (l ++ upG g p) := by
      intro x l u
      induction u with
      | out _ => intro hm; cases hm
      | @node y m l e1 u ih =>
        intro hm
        by_cases hy : y = h
        · subst hy
          rw [e] at e1; obtain rfl := Option.some.inj e1
          rw [hn] at u
          cases u with
          | out _ => exact .node (linkG_self e) (keyA p _ (w.up_is p).1 hu)
          | node e2 _ => rw [w.zero] at e2; cases e2
        · have hm2 : h ∈ l := by rcases List.mem_cons.1 hm with h1 | h1; exact absurd h1.symm hy; exact h1
          have := hsome y
          rw [e1] at this
          obtain ⟨m', em'⟩ := Option.isSome_iff_exists.1 this
          obtain ⟨m0, e0, h1, _⟩ := of em' hy
          rw [e1] at e0; obtain rfl := Option.some.inj e0
          exact .node em' (by rw [h1]; exact ih hm2)
    have u := (w.up_is x).1
    by_cases hm : h ∈ upG g x
    · refine ⟨_, keyB _ _ u hm, ?_⟩
      have h1 := w.deep h x ((w.mem_walk h x).2 hm)
      rw [w.upG_some e, hn, w.upG_none w.zero] at h1
      rw [List.length_append]
      simp at h1
      omega
    · exact ⟨_, keyA _ _ u hm, (w.up_is x).2⟩
end
end Go.Proofs.YtelncgfeojfafaaDoor.Tr

/- A tree with one node more, which is in no parent. No program is imported. -/
namespace Go.Proofs.YtelncgfeojfafaaDoor.Tr
open Go Go.RowKit
set_option linter.unusedVariables false
set_option linter.unusedSimpArgs false

def addG (g : G) (h : Int) (m : GN) : G := fun x => if x = h then some m else g x
def addA (av : Int → Sl) (h : Int) (s : Sl) : Int → Sl := fun x => if x = h then s else av x
theorem addG_self (g : G) (h : Int) (m : GN) : addG g h m h = some m := by unfold addG; rw [if_pos rfl]
theorem addG_ne {g : G} {h x : Int} {m : GN} (e : x ≠ h) : addG g h m x = g x := by unfold addG; rw [if_neg e]
theorem addA_self (av : Int → Sl) (h : Int) (s : Sl) : addA av h s h = s := by unfold addA; rw [if_pos rfl]
theorem addA_ne {av : Int → Sl} {h x : Int} {s : Sl} (e : x ≠ h) : addA av h s x = av x := by unfold addA; rw [if_neg e]
section
variable {g : G} {h : Int} {m : GN}
theorem WF.pa_ne (w : WF 0 g) (hn : g h = none) (h0 : h ≠ 0) {x : Int} {n : GN} (e : g x = some n) : n.pa ≠ h := fun e1 => by
  rcases w.pa e with h1 | ⟨p, h1, _⟩
  · exact h0 (e1 ▸ h1)
  · rw [e1, hn] at h1; cases h1
theorem up_add (w : WF 0 g) (hn : g h = none) (h0 : h ≠ 0) : ∀ {l : List Int} {x : Int}, x ≠ h → Up g x l → Up (addG g h m) x l := by
  intro l
  induction l with
  | nil =>
    intro x hx u
    cases u with
    | out e => exact .out (by rw [addG_ne hx]; exact e)
  | cons a r ih =>
    intro x hx u
    cases u with
    | @node _ n _ e u => exact .node (by rw [addG_ne hx]; exact e) (ih (w.pa_ne hn h0 e) u)
theorem kidsOf_add (hk : m.kids = []) (hn : g h = none) (p : Int) : kidsOf (addG g h m) p = kidsOf g p := by
  by_cases e : p = h
  · subst e
    rw [kidsOf_some (addG_self g p m), hk, kidsOf_none hn]
  · unfold kidsOf; rw [addG_ne e]
theorem WF.add (w : WF 0 g) (hn : g h = none) (h0 : h ≠ 0) (hp : m.pa = 0) (hk : m.kids = []) : WF 0 (addG g h m) where
  zero := by rw [addG_ne (Ne.symm h0)]; exact w.zero
  up x n e hx := by
    by_cases e1 : x = h
    · subst e1
      rw [addG_self] at e
      obtain rfl := Option.some.inj e
      exact absurd hp hx
    · rw [addG_ne e1] at e
      obtain ⟨p, h1, h2⟩ := w.up x n e hx
      exact ⟨p, by rw [addG_ne (w.pa_ne hn h0 e)]; exact h1, h2⟩
  down x n k e hkk := by
    by_cases e1 : x = h
    · subst e1
      rw [addG_self] at e
      obtain rfl := Option.some.inj e
      rw [hk] at hkk; cases hkk
    · rw [addG_ne e1] at e
      obtain ⟨mk, h1, h2⟩ := w.down x n k e hkk
      have : k ≠ h := fun e2 => by rw [e2, hn] at h1; cases h1
      exact ⟨mk, by rw [addG_ne this]; exact h1, h2⟩
  nodup x n e := by
    by_cases e1 : x = h
    · subst e1
      rw [addG_self] at e
      obtain rfl := Option.some.inj e
      rw [hk]; exact List.nodup_nil
    · rw [addG_ne e1] at e
      exact w.nodup x n e
  chain x := by
    by_cases e1 : x = h
    · subst e1
      exact ⟨[x], .node (addG_self g x m) (by rw [hp]; exact .out (by rw [addG_ne (Ne.symm h0)]; exact w.zero)), by simp⟩
    · obtain ⟨l, h1, h2⟩ := w.chain x
      exact ⟨l, up_add w hn h0 e1 h1, h2⟩
theorem raw_add {av : Int → Sl} {s : Sl} (hn : g h = none) (h0 : g 0 = none) (hp : m.pa = 0) (hk : m.kids = []) : raw (addG g h m) (addA av h s) = setO (raw g av) h (some ⟨m.kind, m.name, s, m.data, 0, 0, 0, 0, 0⟩) := by
  funext x
  by_cases e : x = h
  · subst e
    rw [raw_some (addG_self g x m), setO_same]
    unfold raw1
    rw [addA_self, hk, hp, kidsOf_add hk hn, kidsOf_none h0]; rfl
  · rw [setO_ne e]
    unfold raw
    rw [addG_ne e]
    cases g x with
    | none => rfl
    | some n =>
      show some _ = some _
      unfold raw1
      rw [addA_ne e, kidsOf_add hk hn]
theorem upG_add (w : WF 0 g) (hn : g h = none) (h0 : h ≠ 0) (hp : m.pa = 0) (hk : m.kids = []) {x : Int} (hx : x ≠ h) : upG (addG g h m) x = upG g x :=
  ((w.add hn h0 hp hk).up_is x).1.one (up_add w hn h0 hx (w.up_is x).1)
end
/-- The empty tree. -/
theorem WF.empty : WF 0 (fun _ => none) where
  zero := rfl
  up _ _ e := by cases e
  down _ _ _ e := by cases e
  nodup _ _ e := by cases e
  chain x := ⟨[], .out rfl, by simp⟩
theorem raw_empty (av : Int → Sl) : raw (fun _ => none) av = fun _ => none := rfl
end Go.Proofs.YtelncgfeojfafaaDoor.Tr

/- Each node that has a parent is a child once. No program is imported. -/
namespace Go.Proofs.YtelncgfeojfafaaDoor.Tr
open Go Go.RowKit
set_option linter.unusedVariables false
set_option linter.unusedSimpArgs false

def cntK (g : G) (l : List Int) : Nat := (l.map fun h => (kidsOf g h).length).sum
def cntP (g : G) (l : List Int) : Nat := (l.filter fun h => decide (paOf g h ≠ 0)).length
theorem cntK_snoc (g : G) (l : List Int) (h : Int) : cntK g (l ++ [h]) = cntK g l + (kidsOf g h).length := by
  unfold cntK; simp
theorem cntP_snoc (g : G) (l : List Int) (h : Int) : cntP g (l ++ [h]) = cntP g l + (if paOf g h ≠ 0 then 1 else 0) := by
  unfold cntP
  rw [List.filter_append, List.length_append]
  by_cases e : paOf g h = 0 <;> simp [e]
theorem nodup_sub_le {l m : List Int} (hn : l.Nodup) (h : ∀ x ∈ l, x ∈ m) : l.length ≤ m.length := by
  induction l generalizing m with
  | nil => exact Nat.zero_le _
  | cons a r ih =>
    obtain ⟨h1, h2⟩ := List.nodup_cons.1 hn
    have ha := h a (by simp)
    have := ih h2 (m := m.erase a) (fun x hx => (List.mem_erase_of_ne (show x ≠ a from fun e => h1 (by rw [← e]; exact hx))).2 (h x (by simp [hx])))
    rw [List.length_erase_of_mem ha] at this
    have hp : 0 < m.length := List.length_pos_of_mem ha
    rw [List.length_cons]
    omega
theorem cnt_eq {g : G} (w : WF 0 g) {L : List Int} (hn : L.Nodup) (hL : ∀ h, h ∈ L ↔ (g h).isSome) : cntK g L = cntP g L := by
  have e : cntK g L = (L.flatMap (kidsOf g)).length := by unfold cntK; rw [List.length_flatMap]
  rw [e]
  unfold cntP
  refine Nat.le_antisymm (nodup_sub_le ?_ ?_) (nodup_sub_le (hn.filter _) ?_)
  · unfold List.Nodup
    rw [List.pairwise_flatMap]
    refine ⟨fun h _ => w.kidsOf_nodup h, hn.imp ?_⟩
    intro a b hab x hx y hy e
    subst e
    obtain ⟨m1, e1, e2⟩ := w.kidsOf_mem hx
    obtain ⟨m2, e3, e4⟩ := w.kidsOf_mem hy
    rw [e1] at e3
    obtain rfl := Option.some.inj e3
    exact hab (e2.symm.trans e4)
  · intro x hx
    obtain ⟨h, hh, hk⟩ := List.mem_flatMap.1 hx
    obtain ⟨m, e1, e2⟩ := w.kidsOf_mem hk
    refine List.mem_filter.2 ⟨(hL x).2 (by rw [e1]; rfl), ?_⟩
    rw [decide_eq_true_eq, paOf_some e1, e2]
    intro e0
    rw [e0, kidsOf_none w.zero] at hk
    cases hk
  · intro x hx
    obtain ⟨h1, h2⟩ := List.mem_filter.1 hx
    obtain ⟨m, e1⟩ := Option.isSome_iff_exists.1 ((hL x).1 h1)
    rw [decide_eq_true_eq, paOf_some e1] at h2
    obtain ⟨p, e2, e3⟩ := w.up x m e1 h2
    exact List.mem_flatMap.2 ⟨m.pa, (hL _).2 (by rw [e2]; rfl), by rw [kidsOf_some e2]; exact e3⟩
end Go.Proofs.YtelncgfeojfafaaDoor.Tr

/- A tree in memory: its variable, the row of its slots, the row of its free slots. No program is imported. -/
namespace Go.Proofs.YtelncgfeojfafaaDoor
open Go Go.RowKit
set_option linter.unusedVariables false
set_option linter.unusedSimpArgs false

/-- A slot's cells. -/
def slN (x : Bool × Tr.Nd) : List Value := [.bool x.1, .int .i64 x.2.kind, .string x.2.name, x.2.av.v, .string x.2.data, .int .i64 x.2.pa, .int .i64 x.2.fi, .int .i64 x.2.la, .int .i64 x.2.pr, .int .i64 x.2.ne]
theorem slN_len : ∀ c, (slN c).length = 10 := fun _ => rfl
/-- A node us a value. -/
abbrev ndV (d : Tr.Nd) : Value := .agg #[.int .i64 d.kind, .string d.name, .slice d.av.a d.av.n d.av.c, .string d.data, .int .i64 d.pa, .int .i64 d.fi, .int .i64 d.la, .int .i64 d.pr, .int .i64 d.ne]
/-- A node us cells. -/
abbrev ndC (d : Tr.Nd) : Array Value := #[.int .i64 d.kind, .string d.name, .slice d.av.a d.av.n d.av.c, .string d.data, .int .i64 d.pa, .int .i64 d.fi, .int .i64 d.la, .int .i64 d.pr, .int .i64 d.ne]
def so (o : Option Tr.Nd) : Bool × Tr.Nd := match o with | some d => (true, d) | none => (false, Tr.zNd)
/-- The cells of all slots. -/
def tcells (b s : Int) (n : Nat) (R : Int → Option Tr.Nd) : List Value := cellsT slN n fun i => so (R (Ar.hdl b s (i : Int)))

theorem hdl_inj {b s : Int} {i j : Nat} (hi : i ≤ 100000) (hj : j ≤ 100000) (e : Ar.hdl b s (i : Int) = Ar.hdl b s (j : Int)) : i = j := by
  have h1 := Ar.hdl_slot b s i (by omega) (by omega)
  have h2 := Ar.hdl_slot b s j (by omega) (by omega)
  rw [e, h2] at h1
  omega
theorem hdl_pos {b s : Int} {i : Nat} (hi : i ≤ 100000) : 1 ≤ Ar.hdl b s (i : Int) ∧ Ar.hdl b s (i : Int) ≤ 2147483648000 := by
  have h1 := Ar.hdl_range b s i
  have h2 := Ar.nrm_pos b
  have h3 := Ar.mul_le s i (by omega) (by omega)
  unfold Ar.hdl at h1 ⊢
  rw [if_neg (by omega)] at h1 ⊢
  omega
/-- Slots, free slots and nodes fit each other. -/
structure Sound (b s : Int) (n : Nat) (R : Int → Option Tr.Nd) (fr : List Nat) (live : Nat) : Prop where
  dom : ∀ h, (R h).isSome → ∃ i : Nat, i < n ∧ Ar.hdl b s (i : Int) = h
  nodup : fr.Nodup
  free : ∀ i ∈ fr, i < n ∧ R (Ar.hdl b s (i : Int)) = none
  count : live + fr.length = n
  le : n ≤ 100000
theorem Sound.out {b s : Int} {n : Nat} {R : Int → Option Tr.Nd} {fr : List Nat} {live : Nat} (h : Sound b s n R fr live) {i : Nat} (hi : n ≤ i) (hi2 : i ≤ 100000) : R (Ar.hdl b s (i : Int)) = none := by
  cases e : R (Ar.hdl b s (i : Int)) with
  | none => rfl
  | some d =>
    obtain ⟨j, h1, h2⟩ := h.dom _ (by rw [e]; rfl)
    have := hdl_inj (by have := h.le; omega) hi2 h2
    omega
theorem Sound.zero {b s : Int} {n : Nat} {R : Int → Option Tr.Nd} {fr : List Nat} {live : Nat} (h : Sound b s n R fr live) {x : Int} (hx : x ≤ 0) : R x = none := by
  cases e : R x with
  | none => rfl
  | some d =>
    obtain ⟨j, h1, h2⟩ := h.dom x (by rw [e]; rfl)
    have := (hdl_pos (b := b) (s := s) (i := j) (by have := h.le; omega)).1
    omega
/-- A handle's slot. -/
theorem Sound.idx {b s : Int} {n : Nat} {R : Int → Option Tr.Nd} {fr : List Nat} {live : Nat} (h : Sound b s n R fr live) (x : Int) :
    (∃ i : Nat, Ar.idx b s x = i ∧ i < n ∧ Ar.hdl b s (i : Int) = x) ∨ (R x = none ∧ (Ar.idx b s x < 0 ∨ (0 ≤ Ar.idx b s x ∧ (n : Int) ≤ Ar.idx b s x))) := by
  have hr := Ar.idx_range b s x
  by_cases h1 : Ar.idx b s x = -1
  · refine .inr ⟨?_, .inl (by omega)⟩
    cases e : R x with
    | none => rfl
    | some d =>
      obtain ⟨j, h2, h3⟩ := h.dom x (by rw [e]; rfl)
      have := Ar.hdl_slot b s j (by omega) (by have := h.le; omega)
      rw [h3] at this
      omega
  · obtain ⟨h2, h3, h4⟩ := Ar.idx_handle b s x h1
    by_cases h5 : Ar.idx b s x < n
    · exact .inl ⟨(Ar.idx b s x).toNat, by omega, by omega, by rw [Int.toNat_of_nonneg h2]; exact h4⟩
    · refine .inr ⟨?_, .inr ⟨h2, by omega⟩⟩
      cases e : R x with
      | none => rfl
      | some d =>
        obtain ⟨j, h6, h7⟩ := h.dom x (by rw [e]; rfl)
        have := Ar.hdl_slot b s j (by omega) (by have := h.le; omega)
        rw [h7] at this
        omega

/-- A tree in the variable B. -/
structure TV (base : Nat) (w : World) (B : Nat) (b s : Int) (vs : Value) (n : Nat) (R : Int → Option Tr.Nd) (vf : Value) (fr : List Nat) (live : Nat) (root : Int) : Prop where
  var : Whole w B #[.int .i64 b, .int .i64 s, vs, vf, .int .i64 live, .int .i64 root] 32
  low : base ≤ B
  row : w.ownsRow base 64 10 vs n (tcells b s n R)
  free : w.ownsRow base 3 1 vf fr.length (nums fr)
/-- Its blocks. -/
def Foot (B : Nat) (vs vf : Value) : Nat → Prop := fun k => k = B ∨ vs.ownBlock = some k ∨ vf.ownBlock = some k
section
variable {base B n live : Nat} {w w1 w5 : World} {b s root : Int} {vs vf v5 : Value} {R : Int → Option Tr.Nd} {fr fr' : List Nat}
theorem TV.lt (h : TV base w B b s vs n R vf fr live root) : ∀ k, Foot B vs vf k → base ≤ k ∧ k < w.heap.size := by
  rintro k (rfl | hk | hk)
  · exact ⟨h.low, h.var.lt⟩
  · exact h.row.lt k hk
  · exact h.free.lt k hk
theorem TV.turns {S : Nat → Prop} (h : TV base w B b s vs n R vf fr live root) (ht : Turns S w w1) (hn : ∀ k, Foot B vs vf k → ¬ S k) : TV base w1 B b s vs n R vf fr live root :=
  ⟨h.var.turns ht (hn B (.inl rfl)), h.low, own_turns h.row ht (fun k hk => hn k (.inr (.inl hk))), own_turns h.free ht (fun k hk => hn k (.inr (.inr hk)))⟩
theorem TV.below (h : TV base w B b s vs n R vf fr live root) (hb : Below w.heap.size w w1) : TV base w1 B b s vs n R vf fr live root :=
  h.turns (S := fun _ => False) (.of_below hb) (fun _ _ => id)
theorem TV.cells (h : TV base w B b s vs n R vf fr live root) : w.cell? ⟨B, 0, none⟩ = some (.int .i64 b) ∧ w.cell? ⟨B, 1, none⟩ = some (.int .i64 s) ∧ w.cell? ⟨B, 2, none⟩ = some vs ∧ w.cell? ⟨B, 3, none⟩ = some vf ∧ w.cell? ⟨B, 4, none⟩ = some (.int .i64 live) ∧ w.cell? ⟨B, 5, none⟩ = some (.int .i64 root) :=
  ⟨h.var.cell 0, h.var.cell 1, h.var.cell 2, h.var.cell 3, h.var.cell 4, h.var.cell 5⟩
theorem TV.slices (h : TV base w B b s vs n R vf fr live root) : ∃ A c A' c', vs = .slice A n c ∧ vf = .slice A' fr.length c' := by
  obtain ⟨A, c, e⟩ := own_slice (own_zero h.row)
  obtain ⟨A', c', e'⟩ := own_slice (own_zero h.free)
  exact ⟨A, c, A', c', e, e'⟩
/-- The slots' slice has grown. -/
theorem TV.grow_slots (h : TV base w B b s vs n R vf fr live root) (h1 : Below w.heap.size w w1) (g : w1.grownBy w5 vs.ownBlock) (o : w5.ownsRow base 64 10 v5 (n + 1) (tcells b s (n + 1) R)) (f : Fresh w1 vs v5) :
    Whole w5 B #[.int .i64 b, .int .i64 s, vs, vf, .int .i64 live, .int .i64 root] 32 ∧ TV base (w5.setCell ⟨B, 2, none⟩ v5) B b s v5 (n + 1) R vf fr live root ∧ AStep w (w5.setCell ⟨B, 2, none⟩ v5) (Foot B vs vf) (Foot B v5 vf) := by
  obtain ⟨k1, k2, k3, k4⟩ := h.below h1
  have t1 : (64 : TypeId) ≠ 32 := by decide
  have t2 : (3 : TypeId) ≠ 32 := by decide
  have t3 : (3 : TypeId) ≠ 64 := by decide
  have hW : Whole w5 B #[.int .i64 b, .int .i64 s, vs, vf, .int .i64 live, .int .i64 root] 32 := k1.grown g (fun e => own_unlike k3 k1 t1 e.symm)
  have hvf := k4.kept g (own_ne k4 k3 t3)
  have gp : w5.grownBy (w5.setCell ⟨B, 2, none⟩ v5) (some B) := gb_put (gb_of_below (Below.refl w5.heap.size w5) _) 2 v5
  have o' := o.kept gp (.inr (own_unlike o hW t1))
  have hvf' := hvf.kept gp (.inr (own_unlike hvf hW t2))
  refine ⟨hW, ⟨hW.put 2 v5, k2, o', hvf'⟩, ?_, ?_⟩
  · have a1 : Turns (Foot B vs vf) w w1 := .of_below h1
    have a2 : Turns (Foot B vs vf) w1 w5 := .of_grown g (fun k hk => .inr (.inl hk))
    have a3 : Turns (Foot B vs vf) w5 (w5.setCell ⟨B, 2, none⟩ v5) := .of_grown gp (fun k hk => .inl (by simpa using hk.symm))
    exact (a1.trans a2 (fun _ _ x => x) (fun _ _ x => x)).trans a3 (fun _ _ x => x) (fun _ _ x => x)
  · rintro k hk (rfl | hx | hx)
    · exact .inl rfl
    · rcases f with f | f
      · exact .inr (.inl (f ▸ hx))
      · exact absurd (Nat.lt_of_lt_of_le hk h1.size) (Nat.not_lt.2 (f k hx))
    · exact .inr (.inr hx)
/-- The free slots' slice has grown, or is another one of the same row. -/
theorem TV.grow_free (h : TV base w B b s vs n R vf fr live root) (h1 : Below w.heap.size w w1) (g : w1.grownBy w5 vf.ownBlock) (o : w5.ownsRow base 3 1 v5 fr'.length (nums fr')) (f : Fresh w1 vf v5) :
    Whole w5 B #[.int .i64 b, .int .i64 s, vs, vf, .int .i64 live, .int .i64 root] 32 ∧ TV base (w5.setCell ⟨B, 3, none⟩ v5) B b s vs n R v5 fr' live root ∧ AStep w (w5.setCell ⟨B, 3, none⟩ v5) (Foot B vs vf) (Foot B vs v5) := by
  obtain ⟨k1, k2, k3, k4⟩ := h.below h1
  have t1 : (64 : TypeId) ≠ 32 := by decide
  have t2 : (3 : TypeId) ≠ 32 := by decide
  have t3 : (3 : TypeId) ≠ 64 := by decide
  have hW : Whole w5 B #[.int .i64 b, .int .i64 s, vs, vf, .int .i64 live, .int .i64 root] 32 := k1.grown g (fun e => own_unlike k4 k1 t2 e.symm)
  have hvs := k3.kept g (own_ne k3 k4 t3.symm)
  have gp : w5.grownBy (w5.setCell ⟨B, 3, none⟩ v5) (some B) := gb_put (gb_of_below (Below.refl w5.heap.size w5) _) 3 v5
  have o' := o.kept gp (.inr (own_unlike o hW t2))
  have hvs' := hvs.kept gp (.inr (own_unlike hvs hW t1))
  refine ⟨hW, ⟨hW.put 3 v5, k2, hvs', o'⟩, ?_, ?_⟩
  · have a1 : Turns (Foot B vs vf) w w1 := .of_below h1
    have a2 : Turns (Foot B vs vf) w1 w5 := .of_grown g (fun k hk => .inr (.inr hk))
    have a3 : Turns (Foot B vs vf) w5 (w5.setCell ⟨B, 3, none⟩ v5) := .of_grown gp (fun k hk => .inl (by simpa using hk.symm))
    exact (a1.trans a2 (fun _ _ x => x) (fun _ _ x => x)).trans a3 (fun _ _ x => x) (fun _ _ x => x)
  · rintro k hk (rfl | hx | hx)
    · exact .inl rfl
    · exact .inr (.inl hx)
    · rcases f with f | f
      · exact .inr (.inr (f ▸ hx))
      · exact absurd (Nat.lt_of_lt_of_le hk h1.size) (Nat.not_lt.2 (f k hx))
/-- The count is another. -/
theorem TV.counted (h : TV base w B b s vs n R vf fr live root) (live' : Nat) (z : Int) (hz : z = (live' : Int)) :
    TV base (w.setCell ⟨B, 4, none⟩ (.int .i64 z)) B b s vs n R vf fr live' root ∧ AStep w (w.setCell ⟨B, 4, none⟩ (.int .i64 z)) (Foot B vs vf) (Foot B vs vf) := by
  subst hz
  have gp : w.grownBy (w.setCell ⟨B, 4, none⟩ (.int .i64 live')) (some B) := gb_put (gb_of_below (Below.refl w.heap.size w) _) 4 _
  exact ⟨⟨h.var.put 4 _, h.low, h.row.kept gp (.inr (own_unlike h.row h.var (by decide))), h.free.kept gp (.inr (own_unlike h.free h.var (by decide)))⟩, .of_turns (.of_grown gp (fun k hk => .inl (by simpa using hk.symm)))⟩
/-- The root is another. -/
theorem TV.rooted (h : TV base w B b s vs n R vf fr live root) (root' : Int) :
    TV base (w.setCell ⟨B, 5, none⟩ (.int .i64 root')) B b s vs n R vf fr live root' ∧ AStep w (w.setCell ⟨B, 5, none⟩ (.int .i64 root')) (Foot B vs vf) (Foot B vs vf) := by
  have gp : w.grownBy (w.setCell ⟨B, 5, none⟩ (.int .i64 root')) (some B) := gb_put (gb_of_below (Below.refl w.heap.size w) _) 5 _
  exact ⟨⟨h.var.put 5 _, h.low, h.row.kept gp (.inr (own_unlike h.row h.var (by decide))), h.free.kept gp (.inr (own_unlike h.free h.var (by decide)))⟩, .of_turns (.of_grown gp (fun k hk => .inl (by simpa using hk.symm)))⟩
/-- Cells are stored one behind the other. -/
def storeAll (w : World) (g k : Nat) : List Value → World
  | [] => w
  | a :: r => storeAll (w.setCell ⟨g, k, none⟩ a) g (k + 1) r
theorem own_storeAll {e : TypeId} {size g c n : Nat} (us : List Value) : ∀ {w : World} {k : Nat} {xs : List Value}, w.ownsRow base e size (.slice (some ⟨g, 0, none⟩) n c) n xs →
    (storeAll w g k us).ownsRow base e size (.slice (some ⟨g, 0, none⟩) n c) n (setAll xs k us) ∧ w.grownBy (storeAll w g k us) (some g) := by
  induction us with
  | nil => intro w k xs h; exact ⟨h, gb_of_below (Below.refl w.heap.size w) _⟩
  | cons a r ih =>
    intro w k xs h
    obtain ⟨o, gp⟩ := h.stored k a
    obtain ⟨o2, gp2⟩ := ih (k := k + 1) o
    exact ⟨o2, gb_trans gp gp2⟩
theorem TV.stored {g c : Nat} {R' : Int → Option Tr.Nd} {w' : World} (h : TV base w B b s (.slice (some ⟨g, 0, none⟩) n c) n R vf fr live root)
    (o : w'.ownsRow base 64 10 (.slice (some ⟨g, 0, none⟩) n c) n (tcells b s n R')) (gp : w.grownBy w' (some g)) :
    TV base w' B b s (.slice (some ⟨g, 0, none⟩) n c) n R' vf fr live root ∧ AStep w w' (Foot B (.slice (some ⟨g, 0, none⟩) n c) vf) (Foot B (.slice (some ⟨g, 0, none⟩) n c) vf) := by
  have hne := own_unlike h.row h.var (by decide)
  have hk4 := own_ne h.free h.row (by decide)
  exact ⟨⟨h.var.grown gp (fun e => hne (by simpa [Value.ownBlock] using e.symm)), h.low, o, h.free.kept gp (by simpa [Value.ownBlock] using hk4)⟩, .of_turns (.of_grown gp (fun k hk => .inr (.inl (by simpa [Value.ownBlock] using hk))))⟩
theorem so_some (d : Tr.Nd) : so (some d) = (true, d) := rfl
theorem so_none : so none = (false, Tr.zNd) := rfl
/-- A whole slot is another. -/
theorem TV.put_slot {g c : Nat} {i : Nat} {o : Option Tr.Nd} (h : TV base w B b s (.slice (some ⟨g, 0, none⟩) n c) n R vf fr live root) (hi : i < n) (hn : n ≤ 100000) {w' : World} (hw : storeAll w g (i * 10) (slN (so o)) = w') :
    TV base w' B b s (.slice (some ⟨g, 0, none⟩) n c) n (Tr.setO R (Ar.hdl b s (i : Int)) o) vf fr live root ∧ AStep w w' (Foot B (.slice (some ⟨g, 0, none⟩) n c) vf) (Foot B (.slice (some ⟨g, 0, none⟩) n c) vf) := by
  obtain ⟨o1, g1⟩ := own_storeAll (slN (so o)) (k := i * 10) h.row
  rw [hw] at o1 g1
  refine h.stored ?_ g1
  have e : setAll (tcells b s n R) (i * 10) (slN (so o)) = tcells b s n (Tr.setO R (Ar.hdl b s (i : Int)) o) := by
    unfold tcells
    rw [cellsT_setAll slN_len _ _ hi]
    refine cellsT_congr fun j hj => ?_
    by_cases e : j = i
    · subst e; rw [if_pos rfl, Tr.setO_same]
    · rw [if_neg e, Tr.setO_ne (fun e' => e (hdl_inj (by omega) (by omega) e'))]
  rw [← e]; exact o1
/-- One field of a node is another. -/
theorem TV.put_field {g c : Nat} {i j : Nat} {d d' : Tr.Nd} {v : Value} (h : TV base w B b s (.slice (some ⟨g, 0, none⟩) n c) n R vf fr live root) (hi : i < n) (hn : n ≤ 100000) (hj : j < 10) (hd : R (Ar.hdl b s (i : Int)) = some d) (f : Tr.Nd → Tr.Nd) (hf : f d = d') (hv : slN (true, d') = (slN (true, d)).set j v) :
    TV base (w.setCell ⟨g, i * 10 + j, none⟩ v) B b s (.slice (some ⟨g, 0, none⟩) n c) n (Tr.upd R (Ar.hdl b s (i : Int)) f) vf fr live root ∧ AStep w (w.setCell ⟨g, i * 10 + j, none⟩ v) (Foot B (.slice (some ⟨g, 0, none⟩) n c) vf) (Foot B (.slice (some ⟨g, 0, none⟩) n c) vf) := by
  obtain ⟨o1, g1⟩ := h.row.stored (i * 10 + j) v
  refine h.stored ?_ g1
  have e : (tcells b s n R).set (i * 10 + j) v = tcells b s n (Tr.upd R (Ar.hdl b s (i : Int)) f) := by
    unfold tcells
    rw [cellsT_set slN_len _ (true, d') v hi hj (by rw [hd]; exact hv)]
    refine cellsT_congr fun k hk => ?_
    by_cases e : k = i
    · subst e; rw [if_pos rfl, Tr.upd_at hd, hf]; rfl
    · rw [if_neg e, Tr.upd_ne (fun e' => e (hdl_inj (by omega) (by omega) e'))]
  rw [← e]; exact o1
/-- A slot's cells. -/
theorem TV.slot {A : Option Addr} {c : Nat} (h : TV base w B b s (.slice A n c) n R vf fr live root) (hl : 0 < n) : ∃ g, A = some ⟨g, 0, none⟩ ∧ g ≠ B ∧ g < w.heap.size ∧ ∀ i j, i < n → j < 10 → w.cell? ⟨g, i * 10 + j, none⟩ = (slN (so (R (Ar.hdl b s (i : Int)))))[j]? ∧ w.frozen? ⟨g, i * 10 + j, none⟩ = false := by
  obtain ⟨g, rfl, hlt, _⟩ := own_cells (own_zero h.row) hl
  refine ⟨g, rfl, fun e => own_unlike h.row h.var (by decide) (by simp [Value.ownBlock, e]), hlt, fun i j hi hj => ⟨?_, h.row.frozenAt _⟩⟩
  have hb : i * 10 + j < n * 10 := by omega
  rw [h.row.cellAt _ hb]
  exact cellsT_get slN_len _ hi hj
end
end Go.Proofs.YtelncgfeojfafaaDoor
