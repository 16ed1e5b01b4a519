/- Handles and slots as numbers. No program is imported. -/
import Derived.WalkKit
import Derived.Below
import Derived.OneCell
import Derived.Deep.Draws
import Derived.Lib.AppendStr
import Derived.Laws.BytesArg
import Derived.Laws.OwnMore
import Derived.Laws.IdiomStrings
import Derived.Test.YtelncgfeojfafaaDoorProg
import Derived.Lib.Hide
import Derived.Lib.DecodeN
import Derived.Lib.RuneBytes
import Derived.Lib.RuneCount
import Derived.Lib.ValidLaws
import Derived.Laws.AppendOwnNone
import Derived.OwnWalk
namespace Go.Proofs.YtelncgfeojfafaaDoor.Ar
open Go Go.RowKit

/-- The nearest number from 1 to 1000. -/
def nrm (n : Int) : Int := min (max n 1) 1000
theorem nrm_pos (n : Int) : 1 ≤ nrm n ∧ nrm n ≤ 1000 := by unfold nrm; omega
/-- The handle of a slot. -/
def hdl (b s i : Int) : Int := if i < 0 ∨ 2147483647 < i then 0 else nrm b + nrm s * i
/-- The slot of a handle. -/
def idx (b s h : Int) : Int := if h < nrm b ∨ (h - nrm b) % nrm s ≠ 0 ∨ 2147483647 < (h - nrm b) / nrm s then -1 else (h - nrm b) / nrm s
theorem mul_le (s : Int) (i : Int) (h0 : 0 ≤ i) (h1 : i ≤ 2147483647) : 0 ≤ nrm s * i ∧ nrm s * i ≤ 2147483647000 := by
  have := nrm_pos s
  constructor
  · exact Int.mul_nonneg (by omega) h0
  · calc nrm s * i ≤ 1000 * i := Int.mul_le_mul_of_nonneg_right (by omega) h0
      _ ≤ _ := by omega
theorem hdl_slot (b s i : Int) (h0 : 0 ≤ i) (h1 : i ≤ 2147483647) : idx b s (hdl b s i) = i := by
  have hs := nrm_pos s
  have hm := mul_le s i h0 h1
  unfold hdl
  rw [if_neg (by omega)]
  unfold idx
  have e : nrm b + nrm s * i - nrm b = nrm s * i := by omega
  rw [e, Int.mul_emod_right, Int.mul_ediv_cancel_left _ (by omega : nrm s ≠ 0), if_neg (by omega)]
theorem idx_handle (b s h : Int) (hi : idx b s h ≠ -1) : 0 ≤ idx b s h ∧ idx b s h ≤ 2147483647 ∧ hdl b s (idx b s h) = h := by
  have hs := nrm_pos s
  unfold idx at hi ⊢
  split at hi
  · exact absurd rfl hi
  · rename_i hc
    rw [if_neg hc]
    have h1 : ¬ h < nrm b := fun x => hc (.inl x)
    have h2 : (h - nrm b) % nrm s = 0 := Classical.byContradiction fun x => hc (.inr (.inl x))
    have h3 : ¬ 2147483647 < (h - nrm b) / nrm s := fun x => hc (.inr (.inr x))
    have h4 : 0 ≤ (h - nrm b) / nrm s := Int.ediv_nonneg (by omega) (by omega)
    refine ⟨h4, by omega, ?_⟩
    unfold hdl
    rw [if_neg (by omega)]
    have := Int.emod_add_mul_ediv (h - nrm b) (nrm s)
    omega

theorem hdl_range (b s i : Int) : 0 ≤ hdl b s i ∧ hdl b s i ≤ 2147483648000 := by
  unfold hdl
  split
  · omega
  · have := mul_le s i (by omega) (by omega)
    have := nrm_pos b
    omega
theorem idx_range (b s h : Int) : -1 ≤ idx b s h ∧ idx b s h ≤ 2147483647 := by
  by_cases hi : idx b s h = -1
  · omega
  · have := idx_handle b s h hi
    omega
/-- How the machine reckons a slot. -/
theorem idx_parts (b s h : Int) (h0 : nrm b ≤ h) (h1 : h ≤ 9223372036854775807) : wrap64 (h - nrm b) = h - nrm b ∧ (h - nrm b).tmod (nrm s) = (h - nrm b) % nrm s ∧ wrap64 ((h - nrm b).tdiv (nrm s)) = (h - nrm b) / nrm s := by
  have hb := nrm_pos b
  have hs := nrm_pos s
  refine ⟨by unfold wrap64; omega, Int.tmod_eq_emod_of_nonneg (by omega), ?_⟩
  rw [Int.tdiv_eq_ediv_of_nonneg (by omega)]
  have h2 : 0 ≤ (h - nrm b) / nrm s := Int.ediv_nonneg (by omega) (by omega)
  have h3 : (h - nrm b) / nrm s ≤ h - nrm b := Int.ediv_le_self _ (by omega)
  unfold wrap64; omega

/-- The four ways of a handle. -/
theorem idx_ways (b s h : Int) (h1 : h ≤ 9223372036854775807) :
    (h < nrm b ∧ idx b s h = -1) ∨
    (¬ h < nrm b ∧ wrap64 (h - nrm b) = h - nrm b ∧ ¬ (h - nrm b).tmod (nrm s) = 0 ∧ ¬ (h - nrm b) % nrm s = 0 ∧ idx b s h = -1) ∨
    (¬ h < nrm b ∧ wrap64 (h - nrm b) = h - nrm b ∧ (h - nrm b).tmod (nrm s) = 0 ∧ (h - nrm b) % nrm s = 0 ∧ ∃ q, wrap64 ((h - nrm b).tdiv (nrm s)) = q ∧ 2147483647 < q ∧ idx b s h = -1) ∨
    (¬ h < nrm b ∧ wrap64 (h - nrm b) = h - nrm b ∧ (h - nrm b).tmod (nrm s) = 0 ∧ (h - nrm b) % nrm s = 0 ∧ ∃ q, wrap64 ((h - nrm b).tdiv (nrm s)) = q ∧ ¬ 2147483647 < q ∧ idx b s h = q) := by
  by_cases hlt : h < nrm b
  · exact .inl ⟨hlt, by unfold idx; rw [if_pos (.inl hlt)]⟩
  · obtain ⟨e1, e2, e3⟩ := idx_parts b s h (by omega) h1
    by_cases hr : (h - nrm b) % nrm s = 0
    · by_cases hq : 2147483647 < (h - nrm b) / nrm s
      · exact .inr (.inr (.inl ⟨hlt, e1, by rw [e2, hr], hr, _, e3, hq, by unfold idx; rw [if_pos (.inr (.inr hq))]⟩))
      · exact .inr (.inr (.inr ⟨hlt, e1, by rw [e2, hr], hr, _, e3, hq, by unfold idx; rw [if_neg (fun y => y.elim hlt (fun z => z.elim (fun u => u hr) hq))]⟩))
    · exact .inr (.inl ⟨hlt, e1, by rw [e2]; exact hr, hr, by unfold idx; rw [if_pos (.inr (.inl hr))]⟩)

end Go.Proofs.YtelncgfeojfafaaDoor.Ar

/- How a Writer and a Reader of package codec lie in memory while a function has them in a variable, and what the steps of a walk do to that. No program is imported. -/
namespace Go.Proofs.YtelncgfeojfafaaDoor
open Go Go.RowKit

/-- Bytes as the cells of a row. -/
def bcells (l : List UInt8) : List Value := l.map fun b => .int .u8 b.toNat
theorem bcells_append (l m : List UInt8) : bcells (l ++ m) = bcells l ++ bcells m := by simp [bcells]
theorem bcells_length (l : List UInt8) : (bcells l).length = l.length := by simp [bcells]
theorem bcells_str (s : ByteArray) : Lib.strCells s = bcells s.data.toList := by
  simp [Lib.strCells, bcells]
theorem bcells_get (l : List UInt8) (j : Nat) (u : Value) (h : (bcells l)[j]? = some u) : ∃ b : UInt8, l[j]? = some b ∧ u = .int .u8 b.toNat := by
  simp only [bcells, List.getElem?_map, Option.map_eq_some_iff] at h
  obtain ⟨b, h1, h2⟩ := h
  exact ⟨b, h1, h2.symm⟩

/-- A block that is known whole. -/
def Whole (w : World) (b : Nat) (cs : Array Value) (t : TypeId) : Prop := w.heap[b]? = some (.cells cs t (0, 0))
section
variable {w w' : World} {b : Nat} {cs : Array Value} {t : TypeId}
theorem Whole.lt (h : Whole w b cs t) : b < w.heap.size := lt_of_block h
theorem Whole.cell (h : Whole w b cs t) (i : Nat) : w.cell? ⟨b, i, none⟩ = cs[i]? := cell_of_row w b i cs t (0, 0) h
theorem Whole.free (h : Whole w b cs t) (i : Nat) : w.frozen? ⟨b, i, none⟩ = false := frozen_of_row w b i cs t h
theorem Whole.drew (h : Whole w b cs t) : Whole w.drew b cs t := h
theorem Whole.drewN (h : Whole w b cs t) (n : Nat) : Whole (w.drewN n) b cs t := h
theorem Whole.alloc (h : Whole w b cs t) (o : Obj) : Whole (w.alloc o) b cs t := (Below.heap_alloc w o b h.lt).trans h
theorem Whole.new (w : World) (cs : Array Value) (t : TypeId) : Whole (w.alloc (.cells cs t)) w.heap.size cs t := heap_alloc_new w _
theorem Whole.put (h : Whole w b cs t) (i : Nat) (v : Value) : Whole (w.setCell ⟨b, i, none⟩ v) b (cs.setIfInBounds i v) t := heap_setCell_same w b i cs t v h
theorem Whole.other (h : Whole w b cs t) {a : Addr} (hn : b ≠ a.block) (v : Value) : Whole (w.setCell a v) b cs t := (heap_setCell_other w a b v hn).trans h
theorem Whole.below {B : Nat} (h : Whole w b cs t) (hb : Below B w w') (hlt : b < B) : Whole w' b cs t := (hb.block b hlt).trans h
theorem Whole.grown {row : Option Nat} (h : Whole w b cs t) (hg : w.grownBy w' row) (hn : some b ≠ row) : Whole w' b cs t := (hg.block b h.lt hn).trans h
theorem Whole.unlike {b' : Nat} {cs' : Array Value} {t' : TypeId} (h : Whole w b cs t) (h' : Whole w b' cs' t') (hn : t ≠ t') : b ≠ b' := by
  intro e
  subst e
  unfold Whole at h h'
  rw [h] at h'
  injection h' with h'
  injection h' with _ h2
  exact hn h2
end

/-! 'grownBy w' (some b)': at most block b has turned, and there may be new ones. -/
section
variable {w w' w'' : World} {b : Nat} {row : Option Nat}
theorem gb_trans (h : w.grownBy w' row) (k : w'.grownBy w'' row) : w.grownBy w'' row :=
  ⟨k.os.trans h.os, k.tape.trans h.tape, k.output.trans h.output, Nat.le_trans h.size k.size, fun i hi hn => (k.block i (Nat.lt_of_lt_of_le hi h.size) hn).trans (h.block i hi hn)⟩
theorem gb_drewN (h : w.grownBy w' row) (n : Nat) : w.grownBy (w'.drewN n) row := ⟨h.os, h.tape, h.output, h.size, h.block⟩
theorem gb_drew (h : w.grownBy w' row) : w.grownBy w'.drew row := ⟨h.os, h.tape, h.output, h.size, h.block⟩
theorem gb_put (h : w.grownBy w' (some b)) (i : Nat) (v : Value) : w.grownBy (w'.setCell ⟨b, i, none⟩ v) (some b) :=
  gb_trans h ⟨rfl, rfl, rfl, by simp [World.setCell], fun k _ hn => heap_setCell_other w' _ k v (fun e => hn (by rw [e]))⟩
theorem gb_alloc (h : w.grownBy w' row) (o : Obj) : w.grownBy (w'.alloc o) row := gb_trans h (World.grownBy_alloc w' o row)
theorem gb_below {B : Nat} (h : w.grownBy w' row) (hB : B ≤ w.heap.size) (hr : ∀ k, row = some k → B ≤ k) : Below B w w' := (Below.refl B w).grown h hB hr
theorem gb_of_below (h : Below w.heap.size w w') (row : Option Nat) : w.grownBy w' row := ⟨h.os, h.tape, h.output, h.size, fun k hk _ => h.block k hk⟩
end

/-- A Reader in a variable: block b, its three fields. -/
def Rd (T : TypeId) (w : World) (b : Nat) (s : ByteArray) (i e : Int) : Prop := Whole w b #[.string s, .int .i64 i, .int .i64 e] T

/-- A Writer in a variable: block b holds its slice, whose row holds the bytes l; both lie at 'base' or above. -/
def Wr (T E : TypeId) (w : World) (base b : Nat) (l : List UInt8) : Prop :=
  ∃ (A : Option Addr) (c : Nat), Whole w b #[.slice A l.length c] T ∧ base ≤ b ∧ w.ownsRow base E 1 (.slice A l.length c) l.length (bcells l)

section
variable {T E : TypeId} {w w' : World} {base b : Nat} {l : List UInt8}
theorem Wr.lt (h : Wr T E w base b l) : b < w.heap.size ∧ base ≤ b := by
  obtain ⟨_, _, h1, h2, _⟩ := h
  exact ⟨h1.lt, h2⟩
theorem own_apart {v : Value} {n : Nat} {xs : List Value} {cs : Array Value} (h : w.ownsRow base E 1 v n xs) (hb : Whole w b cs T) (hn : E ≠ T) : v.ownBlock ≠ some b := by
  rcases h.2 with ⟨rfl, _⟩ | ⟨g, cap, cur, rfl, _, hg, _⟩
  · simp [Value.ownBlock]
  · intro e
    have e' : g = b := by simpa [Value.ownBlock] using e
    exact Whole.unlike (cs := cur) (t := E) (show Whole w g cur E from hg) hb hn e'
/-- The row's value written out. -/
theorem own_form {v : Value} {n : Nat} {xs : List Value} (h : w.ownsRow base E 1 v n xs) : ∃ A c, v = .slice A n c := by
  rcases h.2 with ⟨rfl, rfl⟩ | ⟨g, cap, cur, rfl, _⟩
  · exact ⟨none, 0, rfl⟩
  · exact ⟨_, _, rfl⟩
theorem Wr.new (hb : base ≤ w.heap.size) : Wr T E (w.alloc (.cells #[.slice none 0 0] T)) base w.heap.size [] :=
  ⟨none, 0, Whole.new _ _ _, hb, World.ownsRow_nil _ _ _ _⟩
theorem Wr.drewN (h : Wr T E w base b l) (n : Nat) : Wr T E (w.drewN n) base b l := h
theorem Wr.drew (h : Wr T E w base b l) : Wr T E w.drew base b l := h
theorem Wr.alloc (h : Wr T E w base b l) (o : Obj) : Wr T E (w.alloc o) base b l := by
  obtain ⟨A, c, h1, h2, h3⟩ := h
  exact ⟨A, c, h1.alloc o, h2, h3.alloc o⟩
/-- A Writer stays while a block of another kind is written. -/
theorem Wr.grown {b' : Nat} {cs : Array Value} {t : TypeId} (h : Wr T E w base b l) (hg : w.grownBy w' (some b')) (h' : Whole w b' cs t) (h1 : T ≠ t) (h2 : E ≠ t) : Wr T E w' base b l := by
  obtain ⟨A, c, k1, k2, k3⟩ := h
  exact ⟨A, c, k1.grown hg (fun e => k1.unlike h' h1 (by injection e)), k2, k3.kept hg (.inr (own_apart k3 h' h2))⟩
end

end Go.Proofs.YtelncgfeojfafaaDoor

/- Appending a row that a slice names, whatever the slice, nil too. No program is imported. -/
namespace Go.Proofs.YtelncgfeojfafaaDoor
open Go Go.RowKit

variable {P : Program} {w : World}
/-- A row lies where it lay, or where nothing lay. -/
def Fresh (w : World) (v v' : Value) : Prop := v'.ownBlock = v.ownBlock ∨ ∀ k, v'.ownBlock = some k → w.heap.size ≤ k
/-- A row is the old one, or is new. -/
def NewOr (w : World) (v v' : Value) : Prop := ∀ k, v'.ownBlock = some k → v.ownBlock = some k ∨ w.heap.size ≤ k
theorem NewOr.same (w : World) (v : Value) : NewOr w v v := fun _ h => .inl h
theorem NewOr.nil (w : World) (v : Value) : NewOr w v (.slice none 0 0) := fun k h => by simp [Value.ownBlock] at h
theorem NewOr.of_own {w w' : World} {base size n : Nat} {e : TypeId} {v v' : Value} {xs : List Value} (h : w'.ownsRow base e size v' n xs) (hb : w.heap.size ≤ base) : NewOr w v v' := fun k hk => .inr (Nat.le_trans hb (h.lt k hk).1)
theorem append_fresh (base : Nat) (t ty e : TypeId) (i : TypeInfo) (z : Value) (size bytes : Nat) (ht : P.underlying t = some (.slice e)) (hi : P.info? e = some i) (hz : i.zero = some z)
    (hsize : i.size = size) (hby : i.bytes = bytes) (hzs : z.cells.size = size) (hsz : 0 < size)
    (v : Value) (n : Nat) (xs : List Value) (hown : w.ownsRow base e size v n xs)
    (a : Addr) (m c : Nat) (news : List Value) (hl : news.length = m * size) (hnews : ∀ j u, news[j]? = some u → w.cell? (a.add j) = some u) (h1 : ∀ u ∈ news, u.oneCell' = true)
    (h63 : n + m ≤ maxLen) (hbytes : (n + m) * bytes ≤ 140737488355328) {v' : Value} {w' : World}
    (hrun : (Builtin.append_ #[t, t] ty #[v, .slice (some a) m c]).run P w = .ok v' w') : Fresh w v v' := by
  have hsmall : n + m ≤ 9223372036854775807 := by simp only [maxLen] at h63; omega
  rcases hown.2 with ⟨rfl, rfl⟩ | ⟨g, cap, cur, rfl, hbg, hg, hnc, hcm, hcs, htake⟩
  · have hx : xs = [] := List.eq_nil_of_length_eq_zero (by simpa using hown.1)
    subst hx
    obtain ⟨v2, w2, hr, h2, _, _⟩ := run_append_own (P := P) w w.heap.size t ty e i z size bytes ht hi hz hsize hby hzs hsz _ _ _ (World.ownsRow_nil w w.heap.size e size) a m c news hl hnews h1 h63 hbytes (Nat.le_refl _)
    rw [hrun] at hr
    injection hr with hv _
    subst hv
    exact .inr fun k hk => (h2.lt k hk).1
  · subst hsize
    subst hby
    by_cases hroom : n + m ≤ cap
    · have hfit : n * i.size + news.length ≤ cur.size := by rw [hl, hcs, ← Nat.add_mul]; exact Nat.mul_le_mul_right _ hroom
      have hr := run_append_room (P := P) w t ty e i ht hi g n cap cur hg a m c news hl hnews h1 hroom hfit
      rw [hrun] at hr
      injection hr with hv _
      subst hv
      exact .inl (by simp [Value.ownBlock])
    · have holds : ∀ j u, xs[j]? = some u → w.cell? ((⟨g, 0, none⟩ : Addr).add j) = some u := hown.cells (g := g) rfl
      have hr := run_append_grow (P := P) w t ty e i z ht hi hz ⟨g, 0, none⟩ n cap xs hown.1 holds a m c news hl hnews (by omega) (by omega) (growslice_fits (by omega) hbytes)
      rw [hrun] at hr
      injection hr with hv _
      subst hv
      exact .inr fun k hk => by simp [Value.ownBlock] at hk; omega
theorem run_append_src (base base2 : Nat) (t ty e : TypeId) (i : TypeInfo) (z : Value) (size bytes : Nat) (ht : P.underlying t = some (.slice e)) (hi : P.info? e = some i) (hz : i.zero = some z)
    (hsize : i.size = size) (hby : i.bytes = bytes) (hzs : z.cells.size = size) (hsz : 0 < size)
    (v : Value) (n : Nat) (xs : List Value) (hown : w.ownsRow base e size v n xs) (v2 : Value) (m : Nat) (ys : List Value) (hsrc : w.ownsRow base2 e size v2 m ys) (h1 : ∀ u ∈ ys, u.oneCell' = true)
    (h63 : n + m ≤ maxLen) (hbytes : (n + m) * bytes ≤ 140737488355328) (hbase : base ≤ w.heap.size) :
    ∃ v' w', (Builtin.append_ #[t, t] ty #[v, v2]).run P w = .ok v' w' ∧ w'.ownsRow base e size v' (n + m) (xs ++ ys) ∧ w.grownBy w' v.ownBlock ∧ Fresh w v v' := by
  have hs := hsrc
  rcases hsrc.2 with ⟨rfl, rfl⟩ | ⟨g, cap, cur, rfl, _⟩
  · have hy : ys = [] := by
      have := hsrc.1
      rw [Nat.zero_mul] at this
      exact List.eq_nil_of_length_eq_zero this
    subst hy
    refine ⟨v, w, run_append_owned_none w base t ty e i size ht hi v n xs hown, by rw [List.append_nil, Nat.add_zero]; exact hown, ⟨rfl, rfl, rfl, Nat.le_refl _, fun _ _ _ => rfl⟩, .inl rfl⟩
  · obtain ⟨v', w', hr, h2, h3, _⟩ := run_append_own (P := P) w base t ty e i z size bytes ht hi hz hsize hby hzs hsz v n xs hown ⟨g, 0, none⟩ m cap ys hs.1 (hs.cells rfl) h1 h63 hbytes hbase
    exact ⟨v', w', hr, h2, h3, append_fresh base t ty e i z size bytes ht hi hz hsize hby hzs hsz v n xs hown ⟨g, 0, none⟩ m cap ys hs.1 (hs.cells rfl) h1 h63 hbytes hr⟩

theorem wpList_append_src {ops : Array Oper} {rest : List Oper} {o : Oper} {a : Act} {Q : Exit → Act → World → Prop} (hgd : o.guard = none) (s x : Operand) (t : TypeId)
    (ho : o.op = .call { callee := .builtin .append, args := #[s, x], argTypes := #[t, t] })
    (base base2 : Nat) (e : TypeId) (i : TypeInfo) (z : Value) (size bytes : Nat) (ht : P.underlying t = some (.slice e)) (hi : P.info? e = some i) (hz : i.zero = some z)
    (hsize : i.size = size) (hby : i.bytes = bytes) (hzs : z.cells.size = size) (hsz : 0 < size)
    (v : Value) (n : Nat) (xs : List Value) (hs : a.eval s = v) (hown : w.ownsRow base e size v n xs) (v2 : Value) (m : Nat) (ys : List Value) (hx : a.eval x = v2) (hsrc : w.ownsRow base2 e size v2 m ys) (h1 : ∀ u ∈ ys, u.oneCell' = true)
    (h63 : n + m ≤ maxLen) (hbytes : (n + m) * bytes ≤ 140737488355328) (hbase : base ≤ w.heap.size)
    (h : ∀ v' w', w'.ownsRow base e size v' (n + m) (xs ++ ys) → w.grownBy w' v.ownBlock → Fresh w v v' → wpList P ops Q rest (a.put o.dst v') w') : wpList P ops Q (o :: rest) a w := by
  refine wpList_plain hgd fun K hK => ?_
  obtain ⟨v', w', hr, h2, h3, h4⟩ := run_append_src (P := P) base base2 t o.type e i z size bytes ht hi hz hsize hby hzs hsz v n xs hown v2 m ys hsrc h1 h63 hbytes hbase
  unfold Oper.wp execOp
  simp only [ho, resolve, invoke, builtin, Sem.run_bind, Sem.run_pure, Result.andThen_ok, List.map_toArray, List.map_cons, List.map_nil, hs, hx, hr]
  exact hK _ _ (h v' w' h2 h3 h4)

/-- A guard: the goal is such a step. -/
theorem step_pre {c : Prop} [Decidable c] {A B : Prop} (h : if c then A else B) : if c then A else B := h
/-- At a step of a region that draws its order. -/
theorem step_append_src {ops : Array Oper} {o : Oper} {a : Act} {K : Act → World → Prop} {Q : Exit → Act → World → Prop} {E : Prop} (hgd : o.guard = none) (s x : Operand) (t : TypeId)
    (ho : o.op = .call { callee := .builtin .append, args := #[s, x], argTypes := #[t, t] })
    (base base2 : Nat) (e : TypeId) (i : TypeInfo) (z : Value) (size bytes : Nat) (ht : P.underlying t = some (.slice e)) (hi : P.info? e = some i) (hz : i.zero = some z)
    (hsize : i.size = size) (hby : i.bytes = bytes) (hzs : z.cells.size = size) (hsz : 0 < size)
    (v : Value) (n : Nat) (xs : List Value) (hs : a.eval s = v) (hown : w.ownsRow base e size v n xs) (v2 : Value) (m : Nat) (ys : List Value) (hx : a.eval x = v2) (hsrc : w.ownsRow base2 e size v2 m ys) (h1 : ∀ u ∈ ys, u.oneCell' = true)
    (h63 : n + m ≤ maxLen) (hbytes : (n + m) * bytes ≤ 140737488355328) (hbase : base ≤ w.heap.size)
    (h : ∀ v' w', w'.ownsRow base e size v' (n + m) (xs ++ ys) → w.grownBy w' v.ownBlock → Fresh w v v' → K (a.put o.dst v') w') :
    if Region.wanted o (yielded ops a.tmps) = true then Oper.wp P o a w K Q else E := by
  have hw : Region.wanted o (yielded ops a.tmps) = true := by simp [Region.wanted, hgd]
  rw [if_pos hw]
  obtain ⟨v', w', hr, h2, h3, h4⟩ := run_append_src (P := P) base base2 t o.type e i z size bytes ht hi hz hsize hby hzs hsz v n xs hown v2 m ys hsrc h1 h63 hbytes hbase
  unfold Oper.wp execOp
  simp only [ho, resolve, invoke, builtin, Sem.run_bind, Sem.run_pure, Result.andThen_ok, List.map_toArray, List.map_cons, List.map_nil, hs, hx, hr]
  exact h v' w' h2 h3 h4

end Go.Proofs.YtelncgfeojfafaaDoor

/- Text as lists of bytes: the valid sequences, the repaired form and its code points. No program is imported. -/
namespace Go.Proofs.YtelncgfeojfafaaDoor.Txt

/-- A continuation byte. -/
def cont (b : UInt8) : Bool := decide (128 ≤ b.toNat) && decide (b.toNat ≤ 191)
/-- A byte that may stand behind a first one of three or four. -/
def snd (a b : UInt8) : Bool :=
  if a.toNat = 224 then decide (160 ≤ b.toNat) && decide (b.toNat ≤ 191)
  else if a.toNat = 237 then decide (128 ≤ b.toNat) && decide (b.toNat ≤ 159)
  else if a.toNat = 240 then decide (144 ≤ b.toNat) && decide (b.toNat ≤ 191)
  else if a.toNat = 244 then decide (128 ≤ b.toNat) && decide (b.toNat ≤ 143)
  else cont b
theorem snd_cont {a b : UInt8} (h : snd a b = true) : cont b = true := by
  unfold snd at h
  repeat' split at h
  all_goals first | exact h | (simp [cont] at h ⊢; omega)

/-- How many bytes the valid sequence has with which a list begins: 0 if there is none. -/
def size : List UInt8 → Nat
  | [] => 0
  | a :: r =>
    if a.toNat ≤ 127 then 1
    else if 194 ≤ a.toNat ∧ a.toNat ≤ 223 then (match r with | b :: _ => if cont b then 2 else 0 | _ => 0)
    else if 224 ≤ a.toNat ∧ a.toNat ≤ 239 then (match r with | b :: c :: _ => if snd a b && cont c then 3 else 0 | _ => 0)
    else if 240 ≤ a.toNat ∧ a.toNat ≤ 244 then (match r with | b :: c :: d :: _ => if snd a b && cont c && cont d then 4 else 0 | _ => 0)
    else 0

/-- The four ways in which a list begins with a valid sequence. -/
inductive Begins : List UInt8 → Nat → Prop
  | one (a r) : a.toNat ≤ 127 → Begins (a :: r) 1
  | two (a b r) : 194 ≤ a.toNat → a.toNat ≤ 223 → cont b = true → Begins (a :: b :: r) 2
  | three (a b c r) : 224 ≤ a.toNat → a.toNat ≤ 239 → snd a b = true → cont c = true → Begins (a :: b :: c :: r) 3
  | four (a b c d r) : 240 ≤ a.toNat → a.toNat ≤ 244 → snd a b = true → cont c = true → cont d = true → Begins (a :: b :: c :: d :: r) 4

theorem size_begins {l : List UInt8} {n : Nat} (h : Begins l n) : size l = n := by
  cases h with
  | one a r h => simp [size, h]
  | two a b r h1 h2 h3 =>
    have e : ¬ a.toNat ≤ 127 := by omega
    simp [size, h1, h2, h3, e]
  | three a b c r h1 h2 h3 h4 =>
    have e : ¬ a.toNat ≤ 127 := by omega
    have e2 : ¬ (194 ≤ a.toNat ∧ a.toNat ≤ 223) := by omega
    simp only [size, if_neg e, if_neg e2, if_pos (And.intro h1 h2), h3, h4]; rfl
  | four a b c d r h1 h2 h3 h4 h5 =>
    have e : ¬ a.toNat ≤ 127 := by omega
    have e2 : ¬ (194 ≤ a.toNat ∧ a.toNat ≤ 223) := by omega
    have e3 : ¬ (224 ≤ a.toNat ∧ a.toNat ≤ 239) := by omega
    simp only [size, if_neg e, if_neg e2, if_neg e3, if_pos (And.intro h1 h2), h3, h4, h5]; rfl
theorem begins_of {l : List UInt8} (h : size l ≠ 0) : Begins l (size l) := by
  cases l with
  | nil => exact absurd rfl h
  | cons a r =>
    by_cases e : a.toNat ≤ 127
    · rw [size_begins (.one a r e)]; exact .one a r e
    · by_cases e2 : 194 ≤ a.toNat ∧ a.toNat ≤ 223
      · simp only [size, if_neg e, if_pos e2] at h
        match r, h with
        | [], h => exact absurd rfl h
        | b :: r, h =>
          cases hb : cont b with
          | false => simp [hb] at h
          | true => have := Begins.two a b r e2.1 e2.2 hb; rw [size_begins this]; exact this
      · by_cases e3 : 224 ≤ a.toNat ∧ a.toNat ≤ 239
        · simp only [size, if_neg e, if_neg e2, if_pos e3] at h
          match r, h with
          | [], h => exact absurd rfl h
          | [_], h => exact absurd rfl h
          | b :: c :: r, h =>
            cases hb : snd a b && cont c with
            | false => simp [hb] at h
            | true =>
              simp only [Bool.and_eq_true] at hb
              have := Begins.three a b c r e3.1 e3.2 hb.1 hb.2; rw [size_begins this]; exact this
        · by_cases e4 : 240 ≤ a.toNat ∧ a.toNat ≤ 244
          · simp only [size, if_neg e, if_neg e2, if_neg e3, if_pos e4] at h
            match r, h with
            | [], h => exact absurd rfl h
            | [_], h => exact absurd rfl h
            | [_, _], h => exact absurd rfl h
            | b :: c :: d :: r, h =>
              cases hb : snd a b && cont c && cont d with
              | false => simp [hb] at h
              | true =>
                simp only [Bool.and_eq_true] at hb
                have := Begins.four a b c d r e4.1 e4.2 hb.1.1 hb.1.2 hb.2; rw [size_begins this]; exact this
          · simp only [size, if_neg e, if_neg e2, if_neg e3, if_neg e4] at h
            exact absurd rfl h
theorem Begins.le {l : List UInt8} {n : Nat} (h : Begins l n) : n ≤ l.length := by cases h <;> simp
theorem Begins.four_at_most {l : List UInt8} {n : Nat} (h : Begins l n) : 1 ≤ n ∧ n ≤ 4 := by cases h <;> omega
theorem Begins.other {l : List UInt8} {n : Nat} (h : Begins l n) (r : List UInt8) : Begins (l.take n ++ r) n := by
  cases h with
  | one a t h => exact .one a _ h
  | two a b t h1 h2 h3 => exact .two a b _ h1 h2 h3
  | three a b c t h1 h2 h3 h4 => exact .three a b c _ h1 h2 h3 h4
  | four a b c d t h1 h2 h3 h4 h5 => exact .four a b c d _ h1 h2 h3 h4 h5
theorem size_le (l : List UInt8) : size l ≤ l.length := by
  by_cases h : size l = 0
  · omega
  · exact (begins_of h).le
theorem size_four (l : List UInt8) : size l ≤ 4 := by
  by_cases h : size l = 0
  · omega
  · exact (begins_of h).four_at_most.2
theorem size_other {l : List UInt8} (h : size l ≠ 0) (r : List UInt8) : size (l.take (size l) ++ r) = size l := size_begins ((begins_of h).other r)

/-- The character that stands for what is no sequence. -/
def bad : List UInt8 := [239, 191, 189]
theorem begins_bad (r : List UInt8) : Begins (bad ++ r) 3 := .three 239 191 189 r (by decide) (by decide) (by decide) (by decide)

/-- The code points of the repaired form, each as its bytes. -/
def chunks (l : List UInt8) : List (List UInt8) :=
  match l with
  | [] => []
  | a :: r => if size (a :: r) = 0 then bad :: chunks r else (a :: r).take (size (a :: r)) :: chunks ((a :: r).drop (size (a :: r)))
termination_by l.length
decreasing_by
  · simp
  · simp only [List.length_drop, List.length_cons]; omega
/-- The repaired form. -/
def rep (l : List UInt8) : List UInt8 := (chunks l).flatten

theorem chunks_nil : chunks [] = [] := by unfold chunks; rfl
theorem chunks_bad {a : UInt8} {r : List UInt8} (h : size (a :: r) = 0) : chunks (a :: r) = bad :: chunks r := by
  conv => lhs; unfold chunks
  exact if_pos h
theorem chunks_good {l : List UInt8} (h : size l ≠ 0) : chunks l = l.take (size l) :: chunks (l.drop (size l)) := by
  cases l with
  | nil => exact absurd rfl h
  | cons a r =>
    conv => lhs; unfold chunks
    exact if_neg h
theorem chunks_begins {l : List UInt8} {n : Nat} (h : Begins l n) : chunks l = l.take n :: chunks (l.drop n) := by
  have e := size_begins h
  have := h.four_at_most
  rw [chunks_good (by omega), e]
/-- A sequence alone. -/
def Good (c : List UInt8) : Prop := Begins c c.length
theorem good_bad : Good bad := begins_bad []
theorem good_take {l : List UInt8} (h : size l ≠ 0) : Good (l.take (size l)) := by
  have hb := (begins_of h).other []
  have hl : (l.take (size l)).length = size l := by rw [List.length_take]; have := size_le l; omega
  unfold Good
  rw [hl]
  simpa using hb
theorem chunks_good_cons {c : List UInt8} (h : Good c) (r : List UInt8) : chunks (c ++ r) = c :: chunks r := by
  have hb := Begins.other h r
  rw [List.take_length] at hb
  rw [chunks_begins hb, List.take_left, List.drop_left]
theorem chunks_all_good (l : List UInt8) : ∀ c ∈ chunks l, Good c := by
  induction h : l.length using Nat.strongRecOn generalizing l with
  | _ n ih =>
    cases l with
    | nil => rw [chunks_nil]; intro c hc; cases hc
    | cons a r =>
      by_cases h0 : size (a :: r) = 0
      · rw [chunks_bad h0]
        intro c hc
        rcases List.mem_cons.1 hc with rfl | hc
        · exact good_bad
        · exact ih r.length (by subst h; simp) r rfl c hc
      · rw [chunks_good h0]
        intro c hc
        rcases List.mem_cons.1 hc with rfl | hc
        · exact good_take h0
        · exact ih _ (by subst h; simp only [List.length_drop, List.length_cons]; omega) _ rfl c hc
theorem chunks_flat {cs : List (List UInt8)} (h : ∀ c ∈ cs, Good c) (u : List UInt8) : chunks (cs.flatten ++ u) = cs ++ chunks u := by
  induction cs with
  | nil => rfl
  | cons c cs ih =>
    rw [List.flatten_cons, List.append_assoc, chunks_good_cons (h c List.mem_cons_self), ih (fun c' hc => h c' (List.mem_cons_of_mem _ hc))]; rfl
theorem chunks_rep_append (l u : List UInt8) : chunks (rep l ++ u) = chunks l ++ chunks u := chunks_flat (chunks_all_good l) u
theorem chunks_rep (l : List UInt8) : chunks (rep l) = chunks l := by
  have := chunks_rep_append l []
  rwa [List.append_nil, chunks_nil, List.append_nil] at this
theorem rep_nil : rep [] = [] := by unfold rep; rw [chunks_nil]; rfl
theorem rep_rep (l : List UInt8) : rep (rep l) = rep l := by
  have : rep (rep l) = (chunks (rep l)).flatten := rfl
  rw [this, chunks_rep]; rfl
theorem rep_append (l u : List UInt8) : rep (rep l ++ u) = rep l ++ rep u := by
  have : rep (rep l ++ u) = (chunks (rep l ++ u)).flatten := rfl
  rw [this, chunks_rep_append, List.flatten_append]; rfl
theorem rep_bad {a : UInt8} {r : List UInt8} (h : size (a :: r) = 0) : rep (a :: r) = bad ++ rep r := by
  unfold rep; rw [chunks_bad h]; rfl
theorem rep_good {l : List UInt8} (h : size l ≠ 0) : rep l = l.take (size l) ++ rep (l.drop (size l)) := by
  unfold rep; rw [chunks_good h]; rfl
theorem rep_len (l : List UInt8) : (rep l).length ≤ 3 * l.length := by
  induction h : l.length using Nat.strongRecOn generalizing l with
  | _ n ih =>
    cases l with
    | nil => rw [rep_nil]; simp
    | cons a r =>
      subst h
      by_cases h0 : size (a :: r) = 0
      · rw [rep_bad h0]
        have := ih r.length (by simp) r rfl
        simp only [List.length_append, List.length_cons, bad, List.length_nil]; omega
      · rw [rep_good h0]
        have hl := size_le (a :: r)
        have := ih ((a :: r).drop (size (a :: r))).length (by simp only [List.length_drop, List.length_cons]; omega) _ rfl
        simp only [List.length_append, List.length_take, List.length_drop] at this ⊢
        omega
theorem chunks_len (l : List UInt8) : (chunks l).length ≤ l.length := by
  induction h : l.length using Nat.strongRecOn generalizing l with
  | _ n ih =>
    cases l with
    | nil => rw [chunks_nil]; simp
    | cons a r =>
      subst h
      by_cases h0 : size (a :: r) = 0
      · rw [chunks_bad h0]
        have := ih r.length (by simp) r rfl
        simp only [List.length_cons]; omega
      · rw [chunks_good h0]
        have hl := size_le (a :: r)
        have := ih ((a :: r).drop (size (a :: r))).length (by simp only [List.length_drop, List.length_cons]; omega) _ rfl
        simp only [List.length_cons, List.length_drop] at this ⊢
        omega

end Go.Proofs.YtelncgfeojfafaaDoor.Txt

/- White space, line ends and letters in lists of bytes. No program is imported. -/
namespace Go.Proofs.YtelncgfeojfafaaDoor.Txt

/-- White space. -/
def sp (c : UInt8) : Bool := c.toNat == 9 || c.toNat == 10 || c.toNat == 12 || c.toNat == 13 || c.toNat == 32

/-- Each run of white space as one space; p: there is white space before. -/
def collapse : Bool → List UInt8 → List UInt8
  | _, [] => []
  | p, c :: r => if sp c then (if p then collapse true r else 32 :: collapse true r) else c :: collapse false r

/-- Line ends made line feeds; p: there is a carriage return before. -/
def newl : Bool → List UInt8 → List UInt8
  | _, [] => []
  | p, c :: r => if c = 10 ∧ p = true then newl false r else (if c = 13 then 10 else c) :: newl (c == 13) r
theorem newl_none (p : Bool) (l : List UInt8) : ∀ c ∈ newl p l, c ≠ 13 := by
  induction l generalizing p with
  | nil => intro c hc; cases hc
  | cons a r ih =>
    intro c hc
    unfold newl at hc
    split at hc
    · exact ih _ c hc
    · rcases List.mem_cons.1 hc with rfl | hc
      · split
        · decide
        · assumption
      · exact ih _ c hc
theorem newl_same {l : List UInt8} (h : ∀ c ∈ l, c ≠ 13) : newl false l = l := by
  induction l with
  | nil => rfl
  | cons a r ih =>
    have ha : a ≠ 13 := h a List.mem_cons_self
    have he : (a == 13) = false := by simpa using ha
    unfold newl
    rw [if_neg (by simp), if_neg ha, he, ih (fun c hc => h c (List.mem_cons_of_mem _ hc))]
theorem newl_twice (l : List UInt8) : newl false (newl false l) = newl false l := newl_same (newl_none false l)
theorem newl_len (p : Bool) (l : List UInt8) : (newl p l).length ≤ l.length := by
  induction l generalizing p with
  | nil => simp [newl]
  | cons a r ih =>
    unfold newl
    split
    · have := ih false; simp only [List.length_cons]; omega
    · have := ih (a == 13); simp only [List.length_cons]; omega
theorem collapse_len (p : Bool) (l : List UInt8) : (collapse p l).length ≤ l.length := by
  induction l generalizing p with
  | nil => simp [collapse]
  | cons a r ih =>
    unfold collapse
    have h1 := ih true
    have h2 := ih false
    split
    · split
      · simp only [List.length_cons]; omega
      · simp only [List.length_cons]; omega
    · simp only [List.length_cons]; omega

/-- The parts without white space; the first one goes on a part that has begun. -/
def fields : List UInt8 → List UInt8 → List (List UInt8)
  | p, [] => if p = [] then [] else [p]
  | p, c :: r => if sp c then (if p = [] then fields [] r else p :: fields [] r) else fields (p ++ [c]) r

/-- Without the white space at the beginning, and at the end. -/
def trimL : List UInt8 → List UInt8
  | [] => []
  | c :: r => if sp c then trimL r else c :: r
def trimR (l : List UInt8) : List UInt8 := (trimL l.reverse).reverse
def trim (l : List UInt8) : List UInt8 := trimR (trimL l)
theorem trimR_snoc (l : List UInt8) (c : UInt8) : trimR (l ++ [c]) = if sp c then trimR l else l ++ [c] := by
  unfold trimR
  rw [List.reverse_append]
  simp only [List.reverse_cons, List.reverse_nil, List.nil_append, List.singleton_append, trimL]
  split <;> simp

/-- The letters A to Z, and a to z. -/
def lo (c : UInt8) : UInt8 := if 65 ≤ c.toNat ∧ c.toNat ≤ 90 then c + 32 else c
def up (c : UInt8) : UInt8 := if 97 ≤ c.toNat ∧ c.toNat ≤ 122 then c - 32 else c
theorem lo_num (c : UInt8) : (lo c).toNat = if 65 ≤ c.toNat ∧ c.toNat ≤ 90 then c.toNat + 32 else c.toNat := by
  unfold lo
  split
  · rw [UInt8.toNat_add]
    have : (32 : UInt8).toNat = 32 := rfl
    omega
  · rfl
theorem up_num (c : UInt8) : (up c).toNat = if 97 ≤ c.toNat ∧ c.toNat ≤ 122 then c.toNat - 32 else c.toNat := by
  unfold up
  split
  · rw [UInt8.toNat_sub_of_le]
    · rfl
    · rw [UInt8.le_iff_toNat_le]
      have : (32 : UInt8).toNat = 32 := rfl
      omega
  · rfl

end Go.Proofs.YtelncgfeojfafaaDoor.Txt

/- The reference's functions on bytes and sequences return what the plain texts say. -/
namespace Go.Proofs.YtelncgfeojfafaaDoor
open Go.RowKit

theorem retB {a b : Bool} (h : a = b) : Ending.returned (.bool a) = .returned (.bool b) := by rw [h]
theorem retI {a b : Int} (h : a = b) : Ending.returned (.int .i64 a) = .returned (.int .i64 b) := by rw [h]

/-- A byte of a string lies between two numbers. -/
def inAt (s : ByteArray) (i lo hi : Nat) : Bool := if h : i < s.size then decide (lo ≤ s[i].toNat) && decide (s[i].toNat ≤ hi) else false

theorem inAt_lt {s : ByteArray} {i lo hi : Nat} (h : inAt s i lo hi = true) : i < s.size := by
  unfold inAt at h
  split at h
  · assumption
  · cases h

/-- Continuation bytes stand there. -/
def tailAt (s : ByteArray) : Nat → Nat → Bool
  | _, 0 => true
  | i, n + 1 => inAt s i 128 191 && tailAt s (i + 1) n

theorem tail_step {s : ByteArray} {i n k : Nat} (hk : k < n) (ht : tailAt s i n = tailAt s (i + k) (n - k)) : tailAt s i n = (inAt s (i + k) 128 191 && tailAt s (i + (k + 1)) (n - (k + 1))) := by
  rw [ht, show n - k = (n - (k + 1)) + 1 from by omega]
  rfl

/-- What follows a first byte of three or four. -/
def sndAt (s : ByteArray) (i : Nat) : Bool := if h : i + 1 < s.size then Txt.snd s[i] s[i + 1] else false
theorem snd_spec (s : ByteArray) (i lo hi : Nat) (h0 : i < s.size) (h : ∀ b : UInt8, Txt.snd s[i] b = (decide (lo ≤ b.toNat) && decide (b.toNat ≤ hi))) : inAt s (i + 1) lo hi = sndAt s i := by
  unfold inAt sndAt
  by_cases h1 : i + 1 < s.size
  · rw [dif_pos h1, dif_pos h1, h]
  · rw [dif_neg h1, dif_neg h1]

end Go.Proofs.YtelncgfeojfafaaDoor

/- Taking a string apart rune by rune, as a range over it does, gives the code points of its repaired form. No program is imported. -/
namespace Go.Proofs.YtelncgfeojfafaaDoor.Txt

/-- The byte at a place, 0 beyond the end. -/
def at0 (l : List UInt8) (k : Nat) : Nat := (l.getD k 0).toNat
/-- The first rune of a list of bytes, and its width. -/
def step (l : List UInt8) : Nat × Nat := Lib.decodeN l.length (at0 l 0) (at0 l 1) (at0 l 2) (at0 l 3)

theorem snd_le {a b : UInt8} (h : snd a b = true) : 128 ≤ b.toNat ∧ b.toNat ≤ 191 := by
  have := snd_cont h
  simpa [cont] using this
theorem snd_min {a b : UInt8} (h : snd a b = true) : (a.toNat = 224 → 160 ≤ b.toNat) ∧ (a.toNat = 237 → b.toNat ≤ 159) ∧ (a.toNat = 240 → 144 ≤ b.toNat) ∧ (a.toNat = 244 → b.toNat ≤ 143) := by
  unfold snd at h
  refine ⟨fun e => ?_, fun e => ?_, fun e => ?_, fun e => ?_⟩ <;> simp [e] at h <;> omega
theorem snd_of {a b : UInt8} (h : 128 ≤ b.toNat ∧ b.toNat ≤ 191) (h1 : a.toNat = 224 → 160 ≤ b.toNat) (h2 : a.toNat = 237 → b.toNat ≤ 159) (h3 : a.toNat = 240 → 144 ≤ b.toNat) (h4 : a.toNat = 244 → b.toNat ≤ 143) : snd a b = true := by
  unfold snd cont
  repeat' split
  all_goals (simp; omega)
theorem cont_iff (b : UInt8) : cont b = true ↔ 128 ≤ b.toNat ∧ b.toNat ≤ 191 := by simp [cont]
theorem cons_eq {a b : UInt8} {l m : List UInt8} (h : a = b) (h2 : l = m) : a :: l = b :: m := by rw [h, h2]
theorem byte_of (x : Int) (b : UInt8) (h : x = b.toNat) : x.toNat.toUInt8 = b := by
  subst h
  simp

theorem step_one (a : UInt8) (r : List UInt8) (h : a.toNat ≤ 127) : step (a :: r) = (a.toNat, 1) := by
  have : a.toNat < 128 := by omega
  simp [step, at0, Lib.decodeN, this]
theorem step_two (a b : UInt8) (r : List UInt8) (h1 : 194 ≤ a.toNat) (h2 : a.toNat ≤ 223) (h3 : cont b = true) : step (a :: b :: r) = (a.toNat % 32 * 64 + b.toNat % 64, 2) := by
  rw [cont_iff] at h3
  have e1 : ¬ a.toNat < 128 := by omega
  have e2 : a.toNat / 32 = 6 ∧ 1 < (a :: b :: r).length ∧ b.toNat / 64 = 2 := ⟨by omega, by simp, by omega⟩
  have e3 : a.toNat % 32 * 64 + b.toNat % 64 ≥ 128 := by omega
  show Lib.decodeN _ a.toNat b.toNat _ _ = _
  unfold Lib.decodeN
  rw [if_neg e1, if_pos e2, if_pos e3]
theorem step_three (a b c : UInt8) (r : List UInt8) (h1 : 224 ≤ a.toNat) (h2 : a.toNat ≤ 239) (h3 : snd a b = true) (h4 : cont c = true) :
    step (a :: b :: c :: r) = (a.toNat % 16 * 4096 + b.toNat % 64 * 64 + c.toNat % 64, 3) := by
  rw [cont_iff] at h4
  have hb := snd_le h3
  have hm := snd_min h3
  have e1 : ¬ a.toNat < 128 := by omega
  have e2 : ¬ (a.toNat / 32 = 6 ∧ 1 < (a :: b :: c :: r).length ∧ b.toNat / 64 = 2) := fun h => by omega
  have e3 : a.toNat / 16 = 14 ∧ (1 < (a :: b :: c :: r).length ∧ b.toNat / 64 = 2) ∧ (2 < (a :: b :: c :: r).length ∧ c.toNat / 64 = 2) := ⟨by omega, ⟨by simp, by omega⟩, by simp, by omega⟩
  show Lib.decodeN _ a.toNat b.toNat c.toNat _ = _
  unfold Lib.decodeN
  rw [if_neg e1, if_neg e2, if_pos e3, if_pos (by omega)]
theorem step_four (a b c d : UInt8) (r : List UInt8) (h1 : 240 ≤ a.toNat) (h2 : a.toNat ≤ 244) (h3 : snd a b = true) (h4 : cont c = true) (h5 : cont d = true) :
    step (a :: b :: c :: d :: r) = (a.toNat % 8 * 262144 + b.toNat % 64 * 4096 + c.toNat % 64 * 64 + d.toNat % 64, 4) := by
  rw [cont_iff] at h4 h5
  have hb := snd_le h3
  have hm := snd_min h3
  have e1 : ¬ a.toNat < 128 := by omega
  have e2 : ¬ (a.toNat / 32 = 6 ∧ 1 < (a :: b :: c :: d :: r).length ∧ b.toNat / 64 = 2) := fun h => by omega
  have e3 : ¬ (a.toNat / 16 = 14 ∧ (1 < (a :: b :: c :: d :: r).length ∧ b.toNat / 64 = 2) ∧ (2 < (a :: b :: c :: d :: r).length ∧ c.toNat / 64 = 2)) := fun h => by omega
  have e4 : a.toNat / 8 = 30 ∧ (1 < (a :: b :: c :: d :: r).length ∧ b.toNat / 64 = 2) ∧ (2 < (a :: b :: c :: d :: r).length ∧ c.toNat / 64 = 2) ∧ (3 < (a :: b :: c :: d :: r).length ∧ d.toNat / 64 = 2) :=
    ⟨by omega, ⟨by simp, by omega⟩, ⟨by simp, by omega⟩, by simp, by omega⟩
  show Lib.decodeN _ a.toNat b.toNat c.toNat d.toNat = _
  unfold Lib.decodeN
  rw [if_neg e1, if_neg e2, if_neg e3, if_pos e4, if_pos (by omega)]

/-- Where a list begins with a valid sequence. -/
theorem step_begins {l : List UInt8} {n : Nat} (h : Begins l n) : (step l).2 = n ∧ Lib.encodeRune ((step l).1 : Nat) = l.take n ∧ (n = 1 → (step l).1 < 128) := by
  cases h with
  | one a r h =>
    rw [step_one a r h]
    refine ⟨rfl, ?_, fun _ => by show a.toNat < 128; omega⟩
    show (Lib.encodeRuneZ (a.toNat : Nat)).map _ = [a]
    rw [Lib.encodeRuneZ_one (by omega) (by omega)]
    simp
  | two a b r h1 h2 h3 =>
    rw [step_two a b r h1 h2 h3]
    rw [cont_iff] at h3
    refine ⟨rfl, ?_, fun e => by omega⟩
    show (Lib.encodeRuneZ ((a.toNat % 32 * 64 + b.toNat % 64 : Nat) : Int)).map _ = [a, b]
    rw [Lib.encodeRuneZ_two (by omega) (by omega)]
    exact cons_eq (byte_of _ a (by omega)) (cons_eq (byte_of _ b (by omega)) rfl)
  | three a b c r h1 h2 h3 h4 =>
    rw [step_three a b c r h1 h2 h3 h4]
    rw [cont_iff] at h4
    have hb := snd_le h3
    have hm := snd_min h3
    refine ⟨rfl, ?_, fun e => by omega⟩
    show (Lib.encodeRuneZ ((a.toNat % 16 * 4096 + b.toNat % 64 * 64 + c.toNat % 64 : Nat) : Int)).map _ = [a, b, c]
    rw [Lib.encodeRuneZ_three (by omega)]
    exact cons_eq (byte_of _ a (by omega)) (cons_eq (byte_of _ b (by omega)) (cons_eq (byte_of _ c (by omega)) rfl))
  | four a b c d r h1 h2 h3 h4 h5 =>
    rw [step_four a b c d r h1 h2 h3 h4 h5]
    rw [cont_iff] at h4 h5
    have hb := snd_le h3
    have hm := snd_min h3
    refine ⟨rfl, ?_, fun e => by omega⟩
    show (Lib.encodeRuneZ ((a.toNat % 8 * 262144 + b.toNat % 64 * 4096 + c.toNat % 64 * 64 + d.toNat % 64 : Nat) : Int)).map _ = [a, b, c, d]
    rw [Lib.encodeRuneZ_four (by omega) (by omega)]
    exact cons_eq (byte_of _ a (by omega)) (cons_eq (byte_of _ b (by omega)) (cons_eq (byte_of _ c (by omega)) (cons_eq (byte_of _ d (by omega)) rfl)))

/-- Where it does not. -/
theorem step_bad {l : List UInt8} (hne : l ≠ []) (h : size l = 0) : step l = (65533, 1) := by
  have no : ∀ n, ¬ Begins l n := fun n hb => by have := size_begins hb; have := hb.four_at_most; omega
  unfold step Lib.decodeN
  match l, hne with
  | a :: r, _ =>
  have ha : at0 (a :: r) 0 = a.toNat := rfl
  have h256 := a.toNat_lt
  by_cases e1 : a.toNat < 128
  · exact absurd (.one a r (by omega)) (no 1)
  rw [ha, if_neg e1]
  by_cases e2 : a.toNat / 32 = 6 ∧ (1 < (a :: r).length ∧ at0 (a :: r) 1 / 64 = 2)
  · rw [if_pos e2]
    match r, e2 with
    | b :: r, e2 =>
      have hb : at0 (a :: b :: r) 1 = b.toNat := rfl
      rw [hb] at e2 ⊢
      have hb2 := b.toNat_lt
      by_cases e3 : a.toNat % 32 * 64 + b.toNat % 64 ≥ 128
      · exact absurd (.two a b r (by omega) (by omega) ((cont_iff b).2 (by omega))) (no 2)
      · rw [if_neg e3]
    | [], e2 => exact absurd e2.2.1 (by simp)
  rw [if_neg e2]
  by_cases e3 : a.toNat / 16 = 14 ∧ (1 < (a :: r).length ∧ at0 (a :: r) 1 / 64 = 2) ∧ (2 < (a :: r).length ∧ at0 (a :: r) 2 / 64 = 2)
  · rw [if_pos e3]
    match r, e3 with
    | b :: c :: r, e3 =>
      have hb : at0 (a :: b :: c :: r) 1 = b.toNat := rfl
      have hc : at0 (a :: b :: c :: r) 2 = c.toNat := rfl
      rw [hb, hc] at e3 ⊢
      have hb2 := b.toNat_lt
      have hc2 := c.toNat_lt
      split
      · rename_i e4
        exact absurd (.three a b c r (by omega) (by omega) (snd_of (by omega) (by omega) (by omega) (by omega) (by omega)) ((cont_iff c).2 (by omega))) (no 3)
      · rfl
    | [_], e3 => exact absurd e3.2.2.1 (by simp)
    | [], e3 => exact absurd e3.2.1.1 (by simp)
  rw [if_neg e3]
  by_cases e4 : a.toNat / 8 = 30 ∧ (1 < (a :: r).length ∧ at0 (a :: r) 1 / 64 = 2) ∧ (2 < (a :: r).length ∧ at0 (a :: r) 2 / 64 = 2) ∧ (3 < (a :: r).length ∧ at0 (a :: r) 3 / 64 = 2)
  · rw [if_pos e4]
    match r, e4 with
    | b :: c :: d :: r, e4 =>
      have hb : at0 (a :: b :: c :: d :: r) 1 = b.toNat := rfl
      have hc : at0 (a :: b :: c :: d :: r) 2 = c.toNat := rfl
      have hd : at0 (a :: b :: c :: d :: r) 3 = d.toNat := rfl
      rw [hb, hc, hd] at e4 ⊢
      have hb2 := b.toNat_lt
      have hc2 := c.toNat_lt
      have hd2 := d.toNat_lt
      split
      · rename_i e5
        exact absurd (.four a b c d r (by omega) (by omega) (snd_of (by omega) (by omega) (by omega) (by omega) (by omega)) ((cont_iff c).2 (by omega)) ((cont_iff d).2 (by omega))) (no 4)
      · rfl
    | [_, _], e4 => exact absurd e4.2.2.2.1 (by simp)
    | [_], e4 => exact absurd e4.2.2.1.1 (by simp)
    | [], e4 => exact absurd e4.2.1.1 (by simp)
  rw [if_neg e4]

theorem enc_bad : Lib.encodeRune ((65533 : Nat) : Int) = bad := by decide
/-- One step. -/
theorem chunks_step {l : List UInt8} (hne : l ≠ []) : chunks l = Lib.encodeRune ((step l).1 : Nat) :: chunks (l.drop (step l).2) := by
  by_cases h : size l = 0
  · rw [step_bad hne h, enc_bad]
    match l, hne with
    | a :: r, _ => exact chunks_bad h
  · have hb := begins_of h
    obtain ⟨h1, h2, _⟩ := step_begins hb
    rw [h1, h2]
    exact chunks_good h
theorem step_width {l : List UInt8} (hne : l ≠ []) : 1 ≤ (step l).2 ∧ (step l).2 ≤ l.length := by
  have hl : 1 ≤ l.length := List.length_pos_iff.2 hne
  by_cases h : size l = 0
  · rw [step_bad hne h]; exact ⟨Nat.le_refl _, hl⟩
  · have hb := begins_of h
    obtain ⟨h1, _, _⟩ := step_begins hb
    rw [h1]; exact ⟨hb.four_at_most.1, hb.le⟩
/-- An ASCII rune is its byte; every other one comes of a byte from 128 on. -/
theorem step_ascii {a : UInt8} {r : List UInt8} : (a.toNat < 128 → step (a :: r) = (a.toNat, 1)) ∧ (128 ≤ a.toNat → 128 ≤ (step (a :: r)).1) := by
  refine ⟨fun h => step_one a r (by omega), fun h => ?_⟩
  by_cases hz : size (a :: r) = 0
  · rw [step_bad (by simp) hz]; show 128 ≤ 65533; omega
  · have hb := begins_of hz
    generalize size (a :: r) = n at hb
    cases hb with
    | one a r h' => omega
    | two a b r h1 h2 h3 => rw [step_two a b r h1 h2 h3]; rw [cont_iff] at h3; show 128 ≤ _ + _; omega
    | three a b c r h1 h2 h3 h4 => rw [step_three a b c r h1 h2 h3 h4]; have := snd_le h3; have := snd_min h3; show 128 ≤ _ + _; omega
    | four a b c d r h1 h2 h3 h4 h5 => rw [step_four a b c d r h1 h2 h3 h4 h5]; have := snd_le h3; have := snd_min h3; show 128 ≤ _ + _; omega

theorem get0 (s : ByteArray) (k : Nat) : s.get! k = s.data.toList.getD k 0 := by
  cases s with
  | mk d =>
    show d[k]! = _
    by_cases h : k < d.size
    · rw [getElem!_pos d k h, List.getD_eq_getElem?_getD]
      simp [h]
    · rw [getElem!_neg d k h, List.getD_eq_getElem?_getD]
      simp [h]
      rfl
/-- It is the machine's own. -/
theorem decode_step (s : ByteArray) (pos : Nat) : Utf8.decode s pos = step (s.data.toList.drop pos) := by
  rw [Lib.decode_at]
  have hk : ∀ k, (s.get! (pos + k)).toNat = at0 (s.data.toList.drop pos) k := by
    intro k
    rw [get0]
    simp [at0, List.getD_eq_getElem?_getD]
  have h0 := hk 0
  rw [Nat.add_zero] at h0
  rw [h0, hk 1, hk 2, hk 3]
  unfold step
  congr 1
  rw [List.length_drop]; rfl

theorem runeCountFrom_eq (s : ByteArray) : ∀ fuel pos, s.size ≤ pos + fuel → Lib.runeCountFrom s fuel pos = (chunks (s.data.toList.drop pos)).length
  | 0, pos, h => by
    have : s.data.toList.drop pos = [] := List.drop_eq_nil_of_le (by show s.size ≤ _; omega)
    rw [this, chunks_nil]; rfl
  | f + 1, pos, h => by
    unfold Lib.runeCountFrom
    by_cases hp : pos < s.size
    · have hne : s.data.toList.drop pos ≠ [] := fun e => by have h2 : s.size ≤ pos := List.drop_eq_nil_iff.1 e; omega
      have hw := step_width hne
      rw [if_pos hp, chunks_step hne, decode_step, runeCountFrom_eq s f _ (by omega), List.drop_drop]
      simp only [List.length_cons]
      omega
    · have : s.data.toList.drop pos = [] := List.drop_eq_nil_of_le (by show s.size ≤ _; omega)
      rw [if_neg hp, this, chunks_nil]; rfl
theorem runeCount_eq (s : ByteArray) : Lib.runeCount s = (chunks s.data.toList).length := by
  have := runeCountFrom_eq s s.size 0 (by omega)
  rwa [List.drop_zero] at this

theorem rep_ne {l : List UInt8} (hne : l ≠ []) (h : size l = 0) : rep l ≠ l := by
  match l, hne with
  | a :: r, _ =>
    rw [rep_bad h]
    intro e
    simp only [bad, List.cons_append, List.nil_append, List.cons.injEq] at e
    obtain ⟨e0, e⟩ := e
    generalize rep r = t at e
    subst e0 e
    have h3 : size (239 :: 191 :: 189 :: t) = 3 := size_begins (begins_bad t)
    omega
theorem decodeL_step (l : List UInt8) : Lib.decodeL l = step l := by
  unfold Lib.decodeL
  rw [decode_step]
  rfl
theorem validD_eq (l : List UInt8) : Lib.validD l = decide (rep l = l) := by
  induction hn : l.length using Nat.strongRecOn generalizing l with
  | _ n ih =>
    by_cases hne : l = []
    · subst hne; rw [rep_nil]; rfl
    · rw [Lib.validD_step l hne, decodeL_step]
      by_cases h : size l = 0
      · rw [step_bad hne h, if_pos ⟨rfl, rfl⟩, decide_eq_false (rep_ne hne h)]
      · have hb := begins_of h
        obtain ⟨h1, h2, h3⟩ := step_begins hb
        have hw := hb.four_at_most
        have hle := hb.le
        rw [if_neg (fun e => by have := h3 (by omega); omega), h1, ih (l.drop (size l)).length (by rw [List.length_drop]; omega) _ rfl, rep_good h]
        congr 1
        conv => rhs; rhs; rw [← List.take_append_drop (size l) l]
        rw [List.append_cancel_left_eq]

end Go.Proofs.YtelncgfeojfafaaDoor.Txt

/- Code points as numbers and as bytes; parts of a list of code points; the code points with their indices. No program is imported. -/
namespace Go.Proofs.YtelncgfeojfafaaDoor
open Go Go.RowKit

/-- The number of a code point. -/
def code : List UInt8 → Nat
  | [a] => a.toNat
  | [a, b] => a.toNat % 32 * 64 + b.toNat % 64
  | [a, b, c] => a.toNat % 16 * 4096 + b.toNat % 64 * 64 + c.toNat % 64
  | [a, b, c, d] => a.toNat % 8 * 262144 + b.toNat % 64 * 4096 + c.toNat % 64 * 64 + d.toNat % 64
  | _ => 0

theorem w64 {x : Int} (h1 : -9223372036854775808 ≤ x) (h2 : x < 9223372036854775808) : wrap64 x = x := by
  unfold wrap64; omega

/-- The code points from one index to another. -/
def seg (cs : List (List UInt8)) (a t : Nat) : List (List UInt8) := (cs.take t).drop a
theorem seg_empty (cs : List (List UInt8)) (a t : Nat) (h : t ≤ a) : seg cs a t = [] := by
  unfold seg; exact List.drop_eq_nil_of_le (by rw [List.length_take]; omega)
theorem seg_step (cs : List (List UInt8)) (a k : Nat) (h : a ≤ k) (hk : k < cs.length) : seg cs a (k + 1) = seg cs a k ++ [cs.getD k []] := by
  unfold seg
  rw [List.take_succ_eq_append_getElem hk, List.drop_append_of_le_length (by rw [List.length_take]; omega)]
  simp [List.getD, hk]
theorem seg_all (cs : List (List UInt8)) (a k t : Nat) (h : cs.length ≤ k) (ht : cs.length ≤ t) : seg cs a k = seg cs a t := by
  unfold seg; rw [List.take_of_length_le h, List.take_of_length_le ht]
theorem seg_len (cs : List (List UInt8)) (a t : Nat) : (seg cs a t).flatten.length ≤ cs.flatten.length := by
  unfold seg
  have h1 := congrArg (fun l : List (List UInt8) => l.flatten.length) (List.take_append_drop a (cs.take t))
  have h2 := congrArg (fun l : List (List UInt8) => l.flatten.length) (List.take_append_drop t cs)
  simp only [List.flatten_append, List.length_append] at h1 h2
  omega

theorem slice_same (cs : List (List UInt8)) (a t : Int) : seg cs (max a 0).toNat (min t (cs.length : Int)).toNat = seg cs a.toNat t.toNat := by
  rw [show (max a 0).toNat = a.toNat from by omega]
  by_cases h : t ≤ (cs.length : Int)
  · rw [show min t (cs.length : Int) = t from by omega]
  · exact seg_all cs _ _ _ (by omega) (by omega)

theorem seg_join (cs : List (List UInt8)) (k : Nat) (h : k ≤ cs.length) : (seg cs 0 k).flatten ++ (seg cs k cs.length).flatten = cs.flatten ∧ (seg cs 0 k).length = k := by
  have e1 : seg cs 0 k = cs.take k := by unfold seg; rw [List.drop_zero]
  have e2 : seg cs k cs.length = cs.drop k := by unfold seg; rw [List.take_length]
  rw [e1, e2, ← List.flatten_append, List.take_append_drop, List.length_take]
  exact ⟨rfl, by omega⟩
theorem seg_good {cs : List (List UInt8)} (h : ∀ c ∈ cs, Txt.Good c) (a t : Nat) : Txt.chunks (seg cs a t).flatten = seg cs a t := by
  have hg : ∀ c ∈ seg cs a t, Txt.Good c := fun c hc => h c (List.mem_of_mem_take (List.mem_of_mem_drop hc))
  have := Txt.chunks_flat hg []
  rwa [List.append_nil, Txt.chunks_nil, List.append_nil] at this

/-- The code points with their indices. -/
def enum (cs : List (List UInt8)) : List (Nat × List UInt8) := (List.range cs.length).map fun i => (i, cs.getD i [])
theorem enum_length (cs : List (List UInt8)) : (enum cs).length = cs.length := by simp [enum]
theorem enum_next {cs : List (List UInt8)} {pre : List (Nat × List UInt8)} {x : Nat × List UInt8} (h : pre ++ [x] <+: enum cs) : x = (pre.length, cs.getD pre.length []) := by
  obtain ⟨r, hr⟩ := h
  have hlt : pre.length < (enum cs).length := by rw [← hr]; simp
  have h1 : (enum cs)[pre.length]? = some x := by rw [← hr]; simp
  rw [enum_length] at hlt
  simp [enum, hlt] at h1
  rw [← h1]; simp [List.getD, hlt]
abbrev encP (x : Nat × List UInt8) : Array Value := #[.int .i64 (x.1 : Nat), .int .i32 (code x.2 : Nat)]
theorem code_lt (l : List UInt8) : code l < 2097152 := by
  unfold code
  split
  · rename_i a; have := a.toNat_lt; omega
  · omega
  · omega
  · omega
  · omega

theorem enum_prefix_take (cs : List (List UInt8)) (k : Nat) : (enum cs).take k <+: enum cs := List.take_prefix _ _
theorem drop_cons {cs : List (List UInt8)} {k : Nat} {c : List UInt8} {r : List (List UInt8)} (h : cs.drop k = c :: r) :
    k < cs.length ∧ cs.getD k [] = c ∧ cs.drop (k + 1) = r ∧ (enum cs).take (k + 1) = (enum cs).take k ++ [(k, c)] := by
  have hk : k < cs.length := by
    have := congrArg List.length h
    rw [List.length_drop, List.length_cons] at this
    omega
  rw [List.drop_eq_getElem_cons hk, List.cons.injEq] at h
  have hc : cs.getD k [] = c := by simp [List.getD, hk, h.1]
  refine ⟨hk, hc, h.2, ?_⟩
  have hke : k < (enum cs).length := by rw [enum_length]; exact hk
  rw [List.take_succ_eq_append_getElem hke]
  simp [enum, hk, h.1]

/-- The number of the first code point of a text is the rune that a range over it yields first. -/
theorem step_code {l : List UInt8} (hne : l ≠ []) : code (Lib.encodeRune ((Txt.step l).1 : Nat)) = (Txt.step l).1 := by
  by_cases h : Txt.size l = 0
  · rw [Txt.step_bad hne h]; decide
  · have hb := Txt.begins_of h
    rw [(Txt.step_begins hb).2.1]
    generalize Txt.size l = n at hb
    cases hb with
    | one a r h' => rw [Txt.step_one a r h']; rfl
    | two a b r h1 h2 h3 => rw [Txt.step_two a b r h1 h2 h3]; rfl
    | three a b c r h1 h2 h3 h4 => rw [Txt.step_three a b c r h1 h2 h3 h4]; rfl
    | four a b c d r h1 h2 h3 h4 h5 => rw [Txt.step_four a b c d r h1 h2 h3 h4 h5]; rfl
/-- A sequence is what its number is encoded as. -/
theorem good_code {c : List UInt8} (h : Txt.Good c) : Lib.encodeRune ((code c : Nat) : Int) = c := by
  have hs := (Txt.step_begins h).2.1
  rw [List.take_length] at hs
  have hne : c ≠ [] := fun e => by subst e; have := h.four_at_most.1; simp at this
  have h2 := step_code hne
  rw [hs] at h2
  rw [h2, hs]
theorem good_cells {c : List UInt8} (h : Txt.Good c) : Lib.runeCells ((code c : Nat) : Int) = Lib.byteCells c := by
  rw [← Lib.byteCells_encodeRune, good_code h]

end Go.Proofs.YtelncgfeojfafaaDoor

/- The reference's Size, Repair, Points, Code and Join return what the plain texts say. -/
namespace Go.Proofs.YtelncgfeojfafaaDoor
open Go.RowKit

theorem drop_at (s : ByteArray) (k : Nat) (h : k < s.size) : s.data.toList.drop k = s[k] :: s.data.toList.drop (k + 1) := by
  rw [List.drop_eq_getElem_cons (by simpa using h)]; rfl
theorem drop_end (s : ByteArray) (k : Nat) (h : ¬ k < s.size) : s.data.toList.drop k = [] := List.drop_eq_nil_of_le (by simp only [Array.length_toList]; exact Nat.le_of_not_lt h)

theorem size_if (a x y z : Nat) (t : Bool) :
    (if a ≤ 127 then 1 else if 194 ≤ a ∧ a ≤ 223 then (if 128 ≤ x ∧ x ≤ 191 then 2 else 0) else if 224 ≤ a ∧ a ≤ 239 then (if t = true ∧ 128 ≤ y ∧ y ≤ 191 then 3 else 0) else if 240 ≤ a ∧ a ≤ 244 then (if (t = true ∧ 128 ≤ y ∧ y ≤ 191) ∧ 128 ≤ z ∧ z ≤ 191 then 4 else 0) else 0) =
    (if a ≤ 127 then 1 else if (194 ≤ a ∧ a ≤ 223) ∧ 128 ≤ x ∧ x ≤ 191 then 2 else if ((224 ≤ a ∧ a ≤ 239) ∧ t = true) ∧ 128 ≤ y ∧ y ≤ 191 then 3 else if ((240 ≤ a ∧ a ≤ 244) ∧ t = true) ∧ (128 ≤ y ∧ y ≤ 191) ∧ 128 ≤ z ∧ z ≤ 191 then 4 else 0) := by
  cases t <;> (simp only [true_and, and_true, false_and, and_false, if_false, reduceCtorEq]; repeat' split) <;> omega
theorem size_if3 (a x y : Nat) (t : Bool) :
    (if a ≤ 127 then 1 else if 194 ≤ a ∧ a ≤ 223 then (if 128 ≤ x ∧ x ≤ 191 then 2 else 0) else if 224 ≤ a ∧ a ≤ 239 then (if t = true ∧ 128 ≤ y ∧ y ≤ 191 then 3 else 0) else 0) =
    (if a ≤ 127 then 1 else if (194 ≤ a ∧ a ≤ 223) ∧ 128 ≤ x ∧ x ≤ 191 then 2 else if ((224 ≤ a ∧ a ≤ 239) ∧ t = true) ∧ 128 ≤ y ∧ y ≤ 191 then 3 else 0) := by
  cases t <;> (simp only [true_and, and_true, false_and, and_false, if_false, reduceCtorEq]; repeat' split) <;> omega
theorem size_if2 (a x : Nat) :
    (if a ≤ 127 then 1 else if 194 ≤ a ∧ a ≤ 223 then (if 128 ≤ x ∧ x ≤ 191 then 2 else 0) else 0) = (if a ≤ 127 then 1 else if (194 ≤ a ∧ a ≤ 223) ∧ 128 ≤ x ∧ x ≤ 191 then 2 else 0) := by
  repeat' split
  all_goals omega
theorem size_spec (s : ByteArray) (i : Nat) : Txt.size (s.data.toList.drop i) =
    if inAt s i 0 127 then 1 else if inAt s i 194 223 && tailAt s (i + 1) 1 then 2 else if inAt s i 224 239 && sndAt s i && tailAt s (i + 2) 1 then 3 else if inAt s i 240 244 && sndAt s i && tailAt s (i + 2) 2 then 4 else 0 := by
  by_cases h0 : i < s.size
  · rw [drop_at s i h0]
    by_cases h1 : i + 1 < s.size
    · rw [drop_at s _ h1]
      by_cases h2 : i + 2 < s.size
      · rw [drop_at s _ h2]
        by_cases h3 : i + 3 < s.size
        · rw [drop_at s _ h3]
          simp [Txt.size, inAt, tailAt, sndAt, Txt.cont, h0, h1, h2, h3]
          exact size_if _ _ _ _ _
        · rw [drop_end s _ h3]
          simp [Txt.size, inAt, tailAt, sndAt, Txt.cont, h0, h1, h2, h3]
          exact size_if3 _ _ _ _
      · have h3 : ¬ i + 3 < s.size := by omega
        rw [drop_end s _ h2]
        simp [Txt.size, inAt, tailAt, sndAt, Txt.cont, h0, h1, h2, h3]
        exact size_if2 _ _
    · have h2 : ¬ i + 2 < s.size := by omega
      have h3 : ¬ i + 3 < s.size := by omega
      rw [drop_end s _ h1]
      simp [Txt.size, inAt, tailAt, sndAt, h0, h1, h2, h3]
  · rw [drop_end s i h0]
    simp [Txt.size, inAt, h0]

end Go.Proofs.YtelncgfeojfafaaDoor

/- The reference's Repair returns the repaired form, for every string of at most 2000 bytes. -/
namespace Go.Proofs.YtelncgfeojfafaaDoor
open Go.RowKit

theorem u8Info : (Tryd.prog.info? 5).map (fun i => (i.zero, i.size, i.bytes)) = some (some (.int .u8 0), 1, 1) := by kernel_rfl

/-- A list of bytes as the string that it makes. -/
def tstr (l : List UInt8) : ByteArray := ⟨l.toArray⟩
theorem tstr_size (l : List UInt8) : (tstr l).size = l.length := by simp [tstr, ByteArray.size]
theorem tstr_data (l : List UInt8) : (tstr l).data.toList = l := rfl
theorem tstr_of (s : ByteArray) : tstr s.data.toList = s := rfl
theorem tstr_append (l m : List UInt8) : tstr l ++ tstr m = tstr (l ++ m) := ByteArray.mk_append_mk l m
theorem retS {a b : ByteArray} (h : a = b) : Ending.returned (.string a) = .returned (.string b) := by rw [h]

theorem tstrOf_bytes (l : List UInt8) : strOfNums (l.map fun b => (b.toNat : Int)) = tstr l := by
  unfold strOfNums tstr
  congr 2
  rw [List.map_map]
  conv => rhs; rw [← List.map_id l]
  congr 1
  funext b
  simp
set_option maxRecDepth 100000 in
/-- The bytes of a row of the call's own, made a string. -/
theorem tconv_own {w : World} {base : Nat} {v : Value} {l : List UInt8} (h : w.ownsRow base 5 1 v l.length (bcells l)) :
    (convert 70 9 v).run Tryd.prog w = .ok (.string (tstr l)) w := by
  obtain ⟨A, c, rfl⟩ := own_form h
  rcases h.2 with ⟨hv, hn⟩ | ⟨g, cap, cur, hv, _, _⟩
  · injection hv with h1 h2 h3
    subst h1
    rw [run_convert_bytes_nil w 70 5 Tryd.underlying70 Tryd.underlying5 _ _ 9 Tryd.underlying9]
    rw [List.eq_nil_of_length_eq_zero hn]; rfl
  · injection hv with h1 h2 h3
    subst h1
    rw [run_convert_bytes_arg w 70 5 Tryd.underlying70 Tryd.underlying5 g 0 l.length c (l.map fun b => (b.toNat : Int)) (by simp) ?_ 9 Tryd.underlying9, tstrOf_bytes]
    intro i hi
    rw [Nat.zero_add, h.cellAt i (by omega)]
    simp [bcells, hi]
theorem textract (s : ByteArray) (k n : Nat) : (s.extract k (k + n)).data.toList = (s.data.toList.drop k).take n := by
  rw [ByteArray.data_extract, Array.toList_extract]
  simp

end Go.Proofs.YtelncgfeojfafaaDoor
