/- The reference's functions on bytes and sequences return what the plain texts say. -/
import Derived.Test.YtckmlbcpldpkpaaGreatDoorProg
import Derived.WalkKit
import Derived.Lib.Hide
import Derived.Below
import Derived.OneCell
import Derived.Deep.Draws
import Derived.Lib.AppendStr
import Derived.Laws.BytesArg
import Derived.Laws.AppendOwnNone
import Derived.OwnWalk
import Derived.Laws.IdiomStrings
import Derived.Lib.Strings
import Derived.Lib.ConvBytes
import Derived.Deep.QuietTactic
import Derived.BigQuiet
import Derived.Test.YtckmlbcpldpkpaaGreatDoorKA
namespace Go.Proofs.YtckmlbcpldpkpaaGreatDoor
open Go.RowKit

theorem retB {a b : Bool} (h : a = b) : Ending.returned (.bool a) = .returned (.bool b) := by rw [h]
theorem retI {a b : Int} (h : a = b) : Ending.returned (.int .i64 a) = .returned (.int .i64 b) := by rw [h]

/-- A byte of a string lies between two numbers. -/
def inAt (s : ByteArray) (i lo hi : Nat) : Bool := if h : i < s.size then decide (lo ≤ s[i].toNat) && decide (s[i].toNat ≤ hi) else false

set_option maxHeartbeats 400000 in
theorem in_any (s : ByteArray) (i lo hi : Nat) (w : World) :
    Calls Tryz.prog 47 #[.string s, .int .i64 i, .int .u8 lo, .int .u8 hi] w fun e w' => e = .returned (.bool (inAt s i lo hi)) ∧ w = w' := by
  by_cases h : i < s.size
  · have e : inAt s i lo hi = (decide (lo ≤ s[i].toNat) && decide (s[i].toNat ≤ hi)) := dif_pos h
    have HE := Lib.hid e
    clear e
    go_enter Tryz.func47, Tryz.ntmps47
    go_wp2
    all_goals go_ret
    all_goals refine ⟨retB ?_, rfl⟩
    all_goals rw [HE.out]
    all_goals simp [*]
  · have e : inAt s i lo hi = false := dif_neg h
    have HE := Lib.hid e
    clear e
    go_enter Tryz.func47, Tryz.ntmps47
    go_wp2
    all_goals go_ret
    all_goals exact ⟨retB HE.out.symm, rfl⟩

theorem in_int (s : ByteArray) (i : Nat) (j lo hi : Int) (w : World) (hj : j = i) (h1 : 0 ≤ lo) (h2 : 0 ≤ hi) :
    Calls Tryz.prog 47 #[.string s, .int .i64 j, .int .u8 lo, .int .u8 hi] w fun e w' => e = .returned (.bool (inAt s i lo.toNat hi.toNat)) ∧ w = w' := by
  have := in_any s i lo.toNat hi.toNat w
  rw [Int.toNat_of_nonneg h1, Int.toNat_of_nonneg h2, ← hj] at this
  exact this

theorem in_lit (s : ByteArray) (i lo hi : Nat) (j lo' hi' : Int) (w : World) (hj : j = i) (h1 : lo' = lo) (h2 : hi' = hi) :
    Calls Tryz.prog 47 #[.string s, .int .i64 j, .int .u8 lo', .int .u8 hi'] w fun e w' => e = .returned (.bool (inAt s i lo hi)) ∧ w = w' := by
  subst hj h1 h2
  exact in_any s i lo hi w
theorem inAt_lt {s : ByteArray} {i lo hi : Nat} (h : inAt s i lo hi = true) : i < s.size := by
  unfold inAt at h
  split at h
  · assumption
  · cases h

/-- Continuation bytes stand there. -/
def tailAt (s : ByteArray) : Nat → Nat → Bool
  | _, 0 => true
  | i, n + 1 => inAt s i 128 191 && tailAt s (i + 1) n

theorem tail_step {s : ByteArray} {i n k : Nat} (hk : k < n) (ht : tailAt s i n = tailAt s (i + k) (n - k)) : tailAt s i n = (inAt s (i + k) 128 191 && tailAt s (i + (k + 1)) (n - (k + 1))) := by
  rw [ht, show n - k = (n - (k + 1)) + 1 from by omega]
  rfl

set_option maxHeartbeats 400000 in
theorem tail_any (s : ByteArray) (i n : Nat) (w : World) (hi : i ≤ 281474976710656) (hn : n ≤ 4) :
    Calls Tryz.prog 48 #[.string s, .int .i64 i, .int .i64 n] w fun e w' => e = .returned (.bool (tailAt s i n)) ∧ w = w' := by
  go_enter Tryz.func48, Tryz.ntmps48
  go_wp2_with fail
  go_loop [7] (fun j => ∃ k : Nat, k ≤ n ∧ j = .int .i64 k ∧ tailAt s i n = tailAt s (i + k) (n - k)) (fun j => n - (intOf j).toNat)
  case atStart => exact ⟨0, Nat.zero_le _, rfl, rfl⟩
  case round =>
    obtain ⟨k, hk, rfl, ht⟩ := hrel
    by_cases hlt : k < n
    · have HT := Lib.hid (tail_step hlt ht)
      clear ht
      cases hin : inAt s (i + k) 128 191 with
      | false =>
        have HN := Lib.hid hin
        clear hin
        go_wp2_with fail
        refine (in_any s (i + k) 128 191 w).mono ?_
        rintro e w' ⟨rfl, rfl⟩
        rw [HN.out]
        go_wp2_with fail
        go_ret
        exact ⟨retB (by rw [HT.out, HN.out]; rfl), rfl⟩
      | true =>
        have HN := Lib.hid hin
        clear hin
        go_wp2_with fail
        refine (in_any s (i + k) 128 191 w).mono ?_
        rintro e w' ⟨rfl, rfl⟩
        rw [HN.out]
        go_wp2_with fail
        go_round
        case rel => exact ⟨k + 1, by omega, by go_num, by rw [HT.out, HN.out]; rfl⟩
        case measure => simp [intOf]; omega
    · have ek : k = n := by omega
      have HT := Lib.hid ht
      subst ek
      clear ht
      go_wp2_with fail
      go_ret
      exact ⟨retB (by rw [HT.out, Nat.sub_self]; rfl), rfl⟩

theorem tail_lit (s : ByteArray) (i n : Nat) (j n' : Int) (w : World) (hj : j = i) (h1 : n' = n) (hi : i ≤ 281474976710656) (hn : n ≤ 4) :
    Calls Tryz.prog 48 #[.string s, .int .i64 j, .int .i64 n'] w fun e w' => e = .returned (.bool (tailAt s i n)) ∧ w = w' := by
  subst hj h1
  exact tail_any s i n w hi hn

/-- What follows a first byte of three or four. -/
def sndAt (s : ByteArray) (i : Nat) : Bool := if h : i + 1 < s.size then Txt.snd s[i] s[i + 1] else false
theorem snd_spec (s : ByteArray) (i lo hi : Nat) (h0 : i < s.size) (h : ∀ b : UInt8, Txt.snd s[i] b = (decide (lo ≤ b.toNat) && decide (b.toNat ≤ hi))) : inAt s (i + 1) lo hi = sndAt s i := by
  unfold inAt sndAt
  by_cases h1 : i + 1 < s.size
  · rw [dif_pos h1, dif_pos h1, h]
  · rw [dif_neg h1, dif_neg h1]

set_option maxHeartbeats 400000 in
theorem second_any (s : ByteArray) (i : Nat) (w : World) (hi : i < s.size) (hs : s.size ≤ 281474976710656) :
    Calls Tryz.prog 49 #[.string s, .int .i64 i] w fun e w' => e = .returned (.bool (sndAt s i)) ∧ w = w' := by
  have HS := Lib.hid (snd_spec s i)
  go_enter Tryz.func49, Tryz.ntmps49
  go_wp2_with fail
  all_goals refine (in_int s (i + 1) _ _ _ w (by omega) (by decide) (by decide)).mono ?_
  all_goals rintro e w' ⟨rfl, rfl⟩
  all_goals go_wp2_with fail
  all_goals go_ret
  all_goals refine ⟨retB (HS.out _ _ hi fun b => ?_), rfl⟩
  all_goals simp only [beq_iff_eq, beq_eq_false_iff_ne, ne_eq] at *
  all_goals unfold Txt.snd Txt.cont
  all_goals repeat' split
  all_goals first | rfl | omega

end Go.Proofs.YtckmlbcpldpkpaaGreatDoor

/- How a Writer and a Reader of package codec lie in memory while a function has them in a variable, and what the steps of a walk do to that. No program is imported. -/
namespace Go.Proofs.YtckmlbcpldpkpaaGreatDoor
open Go Go.RowKit

/-- Bytes as the cells of a row. -/
def bcells (l : List UInt8) : List Value := l.map fun b => .int .u8 b.toNat
theorem bcells_append (l m : List UInt8) : bcells (l ++ m) = bcells l ++ bcells m := by simp [bcells]
theorem bcells_length (l : List UInt8) : (bcells l).length = l.length := by simp [bcells]
theorem bcells_str (s : ByteArray) : Lib.strCells s = bcells s.data.toList := by
  simp [Lib.strCells, bcells]
theorem bcells_get (l : List UInt8) (j : Nat) (u : Value) (h : (bcells l)[j]? = some u) : ∃ b : UInt8, l[j]? = some b ∧ u = .int .u8 b.toNat := by
  simp only [bcells, List.getElem?_map, Option.map_eq_some_iff] at h
  obtain ⟨b, h1, h2⟩ := h
  exact ⟨b, h1, h2.symm⟩

/-- A block that is known whole. -/
def Whole (w : World) (b : Nat) (cs : Array Value) (t : TypeId) : Prop := w.heap[b]? = some (.cells cs t (0, 0))
section
variable {w w' : World} {b : Nat} {cs : Array Value} {t : TypeId}
theorem Whole.lt (h : Whole w b cs t) : b < w.heap.size := lt_of_block h
theorem Whole.cell (h : Whole w b cs t) (i : Nat) : w.cell? ⟨b, i, none⟩ = cs[i]? := cell_of_row w b i cs t (0, 0) h
theorem Whole.free (h : Whole w b cs t) (i : Nat) : w.frozen? ⟨b, i, none⟩ = false := frozen_of_row w b i cs t h
theorem Whole.drew (h : Whole w b cs t) : Whole w.drew b cs t := h
theorem Whole.drewN (h : Whole w b cs t) (n : Nat) : Whole (w.drewN n) b cs t := h
theorem Whole.alloc (h : Whole w b cs t) (o : Obj) : Whole (w.alloc o) b cs t := (Below.heap_alloc w o b h.lt).trans h
theorem Whole.new (w : World) (cs : Array Value) (t : TypeId) : Whole (w.alloc (.cells cs t)) w.heap.size cs t := heap_alloc_new w _
theorem Whole.put (h : Whole w b cs t) (i : Nat) (v : Value) : Whole (w.setCell ⟨b, i, none⟩ v) b (cs.setIfInBounds i v) t := heap_setCell_same w b i cs t v h
theorem Whole.other (h : Whole w b cs t) {a : Addr} (hn : b ≠ a.block) (v : Value) : Whole (w.setCell a v) b cs t := (heap_setCell_other w a b v hn).trans h
theorem Whole.below {B : Nat} (h : Whole w b cs t) (hb : Below B w w') (hlt : b < B) : Whole w' b cs t := (hb.block b hlt).trans h
theorem Whole.grown {row : Option Nat} (h : Whole w b cs t) (hg : w.grownBy w' row) (hn : some b ≠ row) : Whole w' b cs t := (hg.block b h.lt hn).trans h
theorem Whole.unlike {b' : Nat} {cs' : Array Value} {t' : TypeId} (h : Whole w b cs t) (h' : Whole w b' cs' t') (hn : t ≠ t') : b ≠ b' := by
  intro e
  subst e
  unfold Whole at h h'
  rw [h] at h'
  injection h' with h'
  injection h' with _ h2
  exact hn h2
end

/-! 'grownBy w' (some b)': at most block b has turned, and there may be new ones. -/
section
variable {w w' w'' : World} {b : Nat} {row : Option Nat}
theorem gb_trans (h : w.grownBy w' row) (k : w'.grownBy w'' row) : w.grownBy w'' row :=
  ⟨k.os.trans h.os, k.tape.trans h.tape, k.output.trans h.output, Nat.le_trans h.size k.size, fun i hi hn => (k.block i (Nat.lt_of_lt_of_le hi h.size) hn).trans (h.block i hi hn)⟩
theorem gb_drewN (h : w.grownBy w' row) (n : Nat) : w.grownBy (w'.drewN n) row := ⟨h.os, h.tape, h.output, h.size, h.block⟩
theorem gb_drew (h : w.grownBy w' row) : w.grownBy w'.drew row := ⟨h.os, h.tape, h.output, h.size, h.block⟩
theorem gb_put (h : w.grownBy w' (some b)) (i : Nat) (v : Value) : w.grownBy (w'.setCell ⟨b, i, none⟩ v) (some b) :=
  gb_trans h ⟨rfl, rfl, rfl, by simp [World.setCell], fun k _ hn => heap_setCell_other w' _ k v (fun e => hn (by rw [e]))⟩
theorem gb_alloc (h : w.grownBy w' row) (o : Obj) : w.grownBy (w'.alloc o) row := gb_trans h (World.grownBy_alloc w' o row)
theorem gb_below {B : Nat} (h : w.grownBy w' row) (hB : B ≤ w.heap.size) (hr : ∀ k, row = some k → B ≤ k) : Below B w w' := (Below.refl B w).grown h hB hr
theorem gb_of_below (h : Below w.heap.size w w') (row : Option Nat) : w.grownBy w' row := ⟨h.os, h.tape, h.output, h.size, fun k hk _ => h.block k hk⟩
end

/-- A Reader in a variable: block b, its three fields. -/
def Rd (T : TypeId) (w : World) (b : Nat) (s : ByteArray) (i e : Int) : Prop := Whole w b #[.string s, .int .i64 i, .int .i64 e] T

/-- A Writer in a variable: block b holds its slice, whose row holds the bytes l; both lie at 'base' or above. -/
def Wr (T E : TypeId) (w : World) (base b : Nat) (l : List UInt8) : Prop :=
  ∃ (A : Option Addr) (c : Nat), Whole w b #[.slice A l.length c] T ∧ base ≤ b ∧ w.ownsRow base E 1 (.slice A l.length c) l.length (bcells l)

section
variable {T E : TypeId} {w w' : World} {base b : Nat} {l : List UInt8}
theorem Wr.lt (h : Wr T E w base b l) : b < w.heap.size ∧ base ≤ b := by
  obtain ⟨_, _, h1, h2, _⟩ := h
  exact ⟨h1.lt, h2⟩
theorem own_apart {v : Value} {n : Nat} {xs : List Value} {cs : Array Value} (h : w.ownsRow base E 1 v n xs) (hb : Whole w b cs T) (hn : E ≠ T) : v.ownBlock ≠ some b := by
  rcases h.2 with ⟨rfl, _⟩ | ⟨g, cap, cur, rfl, _, hg, _⟩
  · simp [Value.ownBlock]
  · intro e
    have e' : g = b := by simpa [Value.ownBlock] using e
    exact Whole.unlike (cs := cur) (t := E) (show Whole w g cur E from hg) hb hn e'
/-- The row's value written out. -/
theorem own_form {v : Value} {n : Nat} {xs : List Value} (h : w.ownsRow base E 1 v n xs) : ∃ A c, v = .slice A n c := by
  rcases h.2 with ⟨rfl, rfl⟩ | ⟨g, cap, cur, rfl, _⟩
  · exact ⟨none, 0, rfl⟩
  · exact ⟨_, _, rfl⟩
theorem Wr.new (hb : base ≤ w.heap.size) : Wr T E (w.alloc (.cells #[.slice none 0 0] T)) base w.heap.size [] :=
  ⟨none, 0, Whole.new _ _ _, hb, World.ownsRow_nil _ _ _ _⟩
theorem Wr.drewN (h : Wr T E w base b l) (n : Nat) : Wr T E (w.drewN n) base b l := h
theorem Wr.drew (h : Wr T E w base b l) : Wr T E w.drew base b l := h
theorem Wr.alloc (h : Wr T E w base b l) (o : Obj) : Wr T E (w.alloc o) base b l := by
  obtain ⟨A, c, h1, h2, h3⟩ := h
  exact ⟨A, c, h1.alloc o, h2, h3.alloc o⟩
/-- A Writer stays while a block of another kind is written. -/
theorem Wr.grown {b' : Nat} {cs : Array Value} {t : TypeId} (h : Wr T E w base b l) (hg : w.grownBy w' (some b')) (h' : Whole w b' cs t) (h1 : T ≠ t) (h2 : E ≠ t) : Wr T E w' base b l := by
  obtain ⟨A, c, k1, k2, k3⟩ := h
  exact ⟨A, c, k1.grown hg (fun e => k1.unlike h' h1 (by injection e)), k2, k3.kept hg (.inr (own_apart k3 h' h2))⟩
end

end Go.Proofs.YtckmlbcpldpkpaaGreatDoor

/- The reference's Size, Repair, Points, Code and Join return what the plain texts say. -/
namespace Go.Proofs.YtckmlbcpldpkpaaGreatDoor
open Go.RowKit

theorem drop_at (s : ByteArray) (k : Nat) (h : k < s.size) : s.data.toList.drop k = s[k] :: s.data.toList.drop (k + 1) := by
  rw [List.drop_eq_getElem_cons (by simpa using h)]; rfl
theorem drop_end (s : ByteArray) (k : Nat) (h : ¬ k < s.size) : s.data.toList.drop k = [] := List.drop_eq_nil_of_le (by simp only [Array.length_toList]; exact Nat.le_of_not_lt h)

theorem size_if (a x y z : Nat) (t : Bool) :
    (if a ≤ 127 then 1 else if 194 ≤ a ∧ a ≤ 223 then (if 128 ≤ x ∧ x ≤ 191 then 2 else 0) else if 224 ≤ a ∧ a ≤ 239 then (if t = true ∧ 128 ≤ y ∧ y ≤ 191 then 3 else 0) else if 240 ≤ a ∧ a ≤ 244 then (if (t = true ∧ 128 ≤ y ∧ y ≤ 191) ∧ 128 ≤ z ∧ z ≤ 191 then 4 else 0) else 0) =
    (if a ≤ 127 then 1 else if (194 ≤ a ∧ a ≤ 223) ∧ 128 ≤ x ∧ x ≤ 191 then 2 else if ((224 ≤ a ∧ a ≤ 239) ∧ t = true) ∧ 128 ≤ y ∧ y ≤ 191 then 3 else if ((240 ≤ a ∧ a ≤ 244) ∧ t = true) ∧ (128 ≤ y ∧ y ≤ 191) ∧ 128 ≤ z ∧ z ≤ 191 then 4 else 0) := by
  cases t <;> (simp only [true_and, and_true, false_and, and_false, if_false, reduceCtorEq]; repeat' split) <;> omega
theorem size_if3 (a x y : Nat) (t : Bool) :
    (if a ≤ 127 then 1 else if 194 ≤ a ∧ a ≤ 223 then (if 128 ≤ x ∧ x ≤ 191 then 2 else 0) else if 224 ≤ a ∧ a ≤ 239 then (if t = true ∧ 128 ≤ y ∧ y ≤ 191 then 3 else 0) else 0) =
    (if a ≤ 127 then 1 else if (194 ≤ a ∧ a ≤ 223) ∧ 128 ≤ x ∧ x ≤ 191 then 2 else if ((224 ≤ a ∧ a ≤ 239) ∧ t = true) ∧ 128 ≤ y ∧ y ≤ 191 then 3 else 0) := by
  cases t <;> (simp only [true_and, and_true, false_and, and_false, if_false, reduceCtorEq]; repeat' split) <;> omega
theorem size_if2 (a x : Nat) :
    (if a ≤ 127 then 1 else if 194 ≤ a ∧ a ≤ 223 then (if 128 ≤ x ∧ x ≤ 191 then 2 else 0) else 0) = (if a ≤ 127 then 1 else if (194 ≤ a ∧ a ≤ 223) ∧ 128 ≤ x ∧ x ≤ 191 then 2 else 0) := by
  repeat' split
  all_goals omega
theorem size_spec (s : ByteArray) (i : Nat) : Txt.size (s.data.toList.drop i) =
    if inAt s i 0 127 then 1 else if inAt s i 194 223 && tailAt s (i + 1) 1 then 2 else if inAt s i 224 239 && sndAt s i && tailAt s (i + 2) 1 then 3 else if inAt s i 240 244 && sndAt s i && tailAt s (i + 2) 2 then 4 else 0 := by
  by_cases h0 : i < s.size
  · rw [drop_at s i h0]
    by_cases h1 : i + 1 < s.size
    · rw [drop_at s _ h1]
      by_cases h2 : i + 2 < s.size
      · rw [drop_at s _ h2]
        by_cases h3 : i + 3 < s.size
        · rw [drop_at s _ h3]
          simp [Txt.size, inAt, tailAt, sndAt, Txt.cont, h0, h1, h2, h3]
          exact size_if _ _ _ _ _
        · rw [drop_end s _ h3]
          simp [Txt.size, inAt, tailAt, sndAt, Txt.cont, h0, h1, h2, h3]
          exact size_if3 _ _ _ _
      · have h3 : ¬ i + 3 < s.size := by omega
        rw [drop_end s _ h2]
        simp [Txt.size, inAt, tailAt, sndAt, Txt.cont, h0, h1, h2, h3]
        exact size_if2 _ _
    · have h2 : ¬ i + 2 < s.size := by omega
      have h3 : ¬ i + 3 < s.size := by omega
      rw [drop_end s _ h1]
      simp [Txt.size, inAt, tailAt, sndAt, h0, h1, h2, h3]
  · rw [drop_end s i h0]
    simp [Txt.size, inAt, h0]

set_option maxHeartbeats 400000 in
theorem size_any (s : ByteArray) (i : Nat) (w : World) (hs : s.size ≤ 140737488351232) (hi : i ≤ s.size) :
    Calls Tryz.prog 36 #[.string s, .int .i64 i] w fun e w' => e = .returned (.int .i64 (Txt.size (s.data.toList.drop i) : Nat)) ∧ w = w' := by
  have HS := Lib.hid (size_spec s i)
  go_enter Tryz.func36, Tryz.ntmps36
  go_wp2_with fail
  iterate 10 all_goals try first
    | (refine (in_lit s i 0 127 _ _ _ w rfl (by decide) (by decide)).mono ?_; rintro e w9 ⟨rfl, rfl⟩; go_wp2_with fail)
    | (refine (in_lit s i 194 223 _ _ _ w rfl (by decide) (by decide)).mono ?_; rintro e w9 ⟨rfl, rfl⟩; go_wp2_with fail)
    | (refine (in_lit s i 224 239 _ _ _ w rfl (by decide) (by decide)).mono ?_; rintro e w9 ⟨rfl, rfl⟩; go_wp2_with fail)
    | (refine (in_lit s i 240 244 _ _ _ w rfl (by decide) (by decide)).mono ?_; rintro e w9 ⟨rfl, rfl⟩; go_wp2_with fail)
    | (refine (tail_lit s (i + 1) 1 _ _ w (by omega) (by decide) (by omega) (by decide)).mono ?_; rintro e w9 ⟨rfl, rfl⟩; go_wp2_with fail)
    | (refine (tail_lit s (i + 2) 1 _ _ w (by omega) (by decide) (by omega) (by decide)).mono ?_; rintro e w9 ⟨rfl, rfl⟩; go_wp2_with fail)
    | (refine (tail_lit s (i + 2) 2 _ _ w (by omega) (by decide) (by omega) (by decide)).mono ?_; rintro e w9 ⟨rfl, rfl⟩; go_wp2_with fail)
    | (refine (second_any s i w (by first | exact inAt_lt (lo := 224) (hi := 239) (by assumption) | exact inAt_lt (lo := 240) (hi := 244) (by assumption)) (by omega)).mono ?_; rintro e w9 ⟨rfl, rfl⟩; go_wp2_with fail)
  all_goals go_ret
  all_goals refine ⟨retI ?_, rfl⟩
  all_goals rw [HS.out]
  all_goals simp [*]

end Go.Proofs.YtckmlbcpldpkpaaGreatDoor

/- The reference's Repair returns the repaired form, for every string of at most 2000 bytes. -/
namespace Go.Proofs.YtckmlbcpldpkpaaGreatDoor
open Go.RowKit

theorem u8Info : (Tryz.prog.info? 5).map (fun i => (i.zero, i.size, i.bytes)) = some (some (.int .u8 0), 1, 1) := by kernel_rfl

/-- A list of bytes as the string that it makes. -/
def tstr (l : List UInt8) : ByteArray := ⟨l.toArray⟩
theorem tstr_size (l : List UInt8) : (tstr l).size = l.length := by simp [tstr, ByteArray.size]
theorem tstr_data (l : List UInt8) : (tstr l).data.toList = l := rfl
theorem tstr_of (s : ByteArray) : tstr s.data.toList = s := rfl
theorem tstr_append (l m : List UInt8) : tstr l ++ tstr m = tstr (l ++ m) := ByteArray.mk_append_mk l m
theorem retS {a b : ByteArray} (h : a = b) : Ending.returned (.string a) = .returned (.string b) := by rw [h]

theorem tstrOf_bytes (l : List UInt8) : strOfNums (l.map fun b => (b.toNat : Int)) = tstr l := by
  unfold strOfNums tstr
  congr 2
  rw [List.map_map]
  conv => rhs; rw [← List.map_id l]
  congr 1
  funext b
  simp
set_option maxRecDepth 100000 in
/-- The bytes of a row of the call's own, made a string. -/
theorem tconv_own {w : World} {base : Nat} {v : Value} {l : List UInt8} (h : w.ownsRow base 5 1 v l.length (bcells l)) :
    (convert 58 9 v).run Tryz.prog w = .ok (.string (tstr l)) w := by
  obtain ⟨A, c, rfl⟩ := own_form h
  rcases h.2 with ⟨hv, hn⟩ | ⟨g, cap, cur, hv, _, _⟩
  · injection hv with h1 h2 h3
    subst h1
    rw [run_convert_bytes_nil w 58 5 Tryz.underlying58 Tryz.underlying5 _ _ 9 Tryz.underlying9]
    rw [List.eq_nil_of_length_eq_zero hn]; rfl
  · injection hv with h1 h2 h3
    subst h1
    rw [run_convert_bytes_arg w 58 5 Tryz.underlying58 Tryz.underlying5 g 0 l.length c (l.map fun b => (b.toNat : Int)) (by simp) ?_ 9 Tryz.underlying9, tstrOf_bytes]
    intro i hi
    rw [Nat.zero_add, h.cellAt i (by omega)]
    simp [bcells, hi]
theorem textract (s : ByteArray) (k n : Nat) : (s.extract k (k + n)).data.toList = (s.data.toList.drop k).take n := by
  rw [ByteArray.data_extract, Array.toList_extract]
  simp

set_option maxRecDepth 100000 in
set_option maxHeartbeats 400000 in
theorem rrepair_any (s : ByteArray) (w : World) (hs : s.size ≤ 10000) :
    Calls Tryz.prog 13 #[.string s] w fun e w' => e = .returned (.string (tstr (Txt.rep s.data.toList))) ∧ Below w.heap.size w w' := by
  obtain ⟨i0, hi, hz0, hz1, hz2⟩ := info_parts u8Info
  have hrl := Txt.rep_len s.data.toList
  have hll : s.data.toList.length = s.size := rfl
  rw [hll] at hrl
  go_enter Tryz.func13, Tryz.ntmps13
  go_wp2_with fail
  go_loopw [3, 4] (fun v i wr => ∃ (k : Nat) (L : List UInt8), k ≤ s.size ∧ i = .int .i64 k ∧ wr.ownsRow w.heap.size 5 1 v L.length (bcells L) ∧ L ++ Txt.rep (s.data.toList.drop k) = Txt.rep s.data.toList ∧ Below w.heap.size w wr) (fun _ i _ => s.size - (intOf i).toNat)
  case atStart => exact ⟨0, [], Nat.zero_le _, rfl, World.ownsRow_nil _ _ _ _, rfl, Below.refl _ _⟩
  case round =>
    obtain ⟨k, L, hk, rfl, hown, hL, hbel⟩ := hrel
    have hLl : L.length ≤ 30000 := by have := congrArg List.length hL; rw [List.length_append] at this; omega
    obtain ⟨A, c, rfl⟩ := own_form hown
    by_cases hlt : k < s.size
    · obtain ⟨n, hn⟩ : ∃ n, Txt.size (s.data.toList.drop k) = n := ⟨_, rfl⟩
      have hn4 := Txt.size_four (s.data.toList.drop k)
      have hnl := Txt.size_le (s.data.toList.drop k)
      rw [List.length_drop, hll] at hnl
      rw [hn] at hn4 hnl
      by_cases h0 : n = 0
      · have hstep : L ++ Txt.bad ++ Txt.rep (s.data.toList.drop (k + 1)) = Txt.rep s.data.toList := by
          rw [← hL, drop_at s k hlt, Txt.rep_bad (by rw [← drop_at s k hlt, hn, h0]), List.append_assoc]
        have HS := Lib.hid hstep
        have HN := Lib.hid hn
        clear hstep hL hn hn4 hnl
        subst h0
        go_wp2_with fail
        refine (size_any s k wr (by omega) (by omega)).mono ?_
        rintro e w2 ⟨rfl, rfl⟩
        rw [HN.out]
        go_wp2_with (at_builtin; refine wpList_append_own _ rfl (.tmp 15) (.tmp 16) 58 rfl w.heap.size 5 i0 (.int .u8 0) 1 1 Tryz.underlying58 hi hz0 hz1 hz2 rfl (by decide) _ L.length (bcells L) rfl (hown.alloc _) ⟨wr.heap.size, 0, none⟩ 3 3 (bcells Txt.bad) rfl rfl ?c1 ?c2 ?c3 ?c4 ?c5 ?_)
        case c1 => intro j u hj; match j, hj with | 0, hj => simp [bcells, Txt.bad] at hj; subst hj; simp [Addr.add] | 1, hj => simp [bcells, Txt.bad] at hj; subst hj; simp [Addr.add] | 2, hj => simp [bcells, Txt.bad] at hj; subst hj; simp [Addr.add]
        case c2 => intro u hu; simp [bcells, Txt.bad] at hu; rcases hu with rfl | rfl | rfl <;> rfl
        case c3 => unfold maxLen; omega
        case c4 => omega
        case c5 => have := hbel.size; simp; omega
        intro v2 w2 ho2 hg2 _
        have hb2 : Below w.heap.size w w2 := (hbel.alloc hbel.size _).grown hg2 (by have := hbel.size; simp; omega) (fun j hj => (hown.lt j hj).1)
        rw [← bcells_append] at ho2
        have HB := Lib.hid hb2
        have HO := Lib.hid ho2
        clear ho2 hg2 hb2
        go_wp2_with fail
        go_roundw
        case rel => exact ⟨k + 1, L ++ Txt.bad, by omega, by go_num, by rw [List.length_append]; exact HO.out, HS.out, HB.out⟩
        case measure => simp [intOf]; omega
      · have hstep : L ++ (s.extract k (k + n)).data.toList ++ Txt.rep (s.data.toList.drop (k + n)) = Txt.rep s.data.toList := by
          have h := Txt.rep_good (l := s.data.toList.drop k) (by rw [hn]; exact h0)
          rw [hn, List.drop_drop] at h
          rw [← hL, h, textract, List.append_assoc]
        have HS := Lib.hid hstep
        have HN := Lib.hid hn
        have hxs : (s.extract k (k + n)).size = n := by rw [ByteArray.size_extract]; omega
        have hnz : ((n : Int) == 0) = false := by simp; omega
        have hsl : ∀ W : World, (Instr.slice 9 (.string s) (some (.int .i64 k)) (some (.int .i64 ((k : Int) + n))) none).run Tryz.prog W = .ok (.string (s.extract k (k + n))) W := fun W => run_slice_string W _ s _ _ _ _ Tryz.underlying9 (by omega) (by omega) (by omega)
        have hHO := Lib.hid hown
        clear hstep hL hn
        go_wp2_with fail
        refine (size_any s k wr (by omega) (by omega)).mono ?_
        rintro e w2 ⟨rfl, rfl⟩
        rw [HN.out]
        go_wp2_with (at_builtin; refine Lib.wpList_append_own_string _ rfl (.tmp 20) (.tmp 26) 58 9 rfl w.heap.size 5 i0 Tryz.underlying58 Tryz.underlying9 hi hz0 hz1 hz2 _ L.length (bcells L) rfl hHO.out (s.extract k (k + n)) rfl ?c3 ?c4 ?c5 ?_)
        case c3 => unfold maxLen; omega
        case c4 => omega
        case c5 => have := hbel.size; omega
        intro v2 w2 ho2 hg2 _
        have hb2 : Below w.heap.size w w2 := hbel.grown hg2 hbel.size (fun j hj => (hHO.out.lt j hj).1)
        rw [bcells_str, ← bcells_append] at ho2
        have HB := Lib.hid hb2
        have HO := Lib.hid ho2
        have hel : (L ++ (s.extract k (k + n)).data.toList).length = L.length + n := by rw [List.length_append]; show _ + (s.extract k (k + n)).size = _; rw [hxs]
        have HE := Lib.hid hel
        clear ho2 hg2 hb2 hxs hel
        go_wp2_with fail
        go_roundw
        case rel => exact ⟨k + n, L ++ (s.extract k (k + n)).data.toList, by omega, by go_num, by rw [HE.out]; exact HO.out, HS.out, HB.out⟩
        case measure => simp [intOf]; omega
    · have ek : k = s.size := by omega
      subst ek
      rw [drop_end s _ (by omega), Txt.rep_nil, List.append_nil] at hL
      have hconv := tconv_own hown
      have HL := Lib.hid hL
      clear hL
      go_wp2_with fail
      go_ret
      exact ⟨retS (by rw [HL.out]), hbel⟩

end Go.Proofs.YtckmlbcpldpkpaaGreatDoor

/- A byte cut out of a string. -/
namespace Go.Proofs.YtckmlbcpldpkpaaGreatDoor
open Go.RowKit

theorem extract_one (s : ByteArray) (k : Nat) (h : k < s.size) : s.extract k (k + 1) = tstr [s[k]] := by
  rw [← tstr_of (s.extract k (k + 1)), textract, drop_at s k h]; rfl
theorem slice1 (s : ByteArray) (k : Nat) (i j : Int) (hi : i = k) (hj : j = (k : Int) + 1) (h : k < s.size) (W : World) :
    (Instr.slice 9 (.string s) (some (.int .i64 i)) (some (.int .i64 j)) none).run Tryz.prog W = .ok (.string (tstr [s[k]])) W := by
  subst hi hj
  rw [run_slice_string W _ s _ _ _ _ Tryz.underlying9 (by omega) (by omega) (by omega), ← extract_one s k h]; rfl

/-- There is white space before. -/
def prevAt (s : ByteArray) : Nat → Bool
  | 0 => false
  | k + 1 => if h : k < s.size then Txt.sp s[k] else false
theorem prevAt_succ (s : ByteArray) (k : Nat) (h : k < s.size) : prevAt s (k + 1) = Txt.sp s[k] := dif_pos h

end Go.Proofs.YtckmlbcpldpkpaaGreatDoor

/- The reference's Newlines returns what the plain text says. -/
namespace Go.Proofs.YtckmlbcpldpkpaaGreatDoor
open Go.RowKit

/-- There is a carriage return before. -/
def crAt (s : ByteArray) : Nat → Bool
  | 0 => false
  | k + 1 => if h : k < s.size then s[k] == 13 else false
theorem crAt_succ (s : ByteArray) (k : Nat) (h : k < s.size) : crAt s (k + 1) = (s[k] == 13) := dif_pos h
theorem u8_is (c : UInt8) (n : Nat) (h : n < 256) : c = UInt8.ofNat n ↔ c.toNat = n := by
  rw [← UInt8.toNat_inj, UInt8.toNat_ofNat']
  omega

set_option maxHeartbeats 400000 in
theorem rnewlines_any (s : ByteArray) (w : World) (hs : s.size ≤ 10000) :
    Calls Tryz.prog 14 #[.string s] w fun e w' => e = .returned (.string (tstr (Txt.newl false s.data.toList))) ∧ w = w' := by
  have hcl := Txt.newl_len false s.data.toList
  have hll : s.data.toList.length = s.size := rfl
  rw [hll] at hcl
  go_enter Tryz.func14, Tryz.ntmps14
  go_wp2_with fail
  go_loop [3, 4] (fun v i => ∃ (k : Nat) (L : List UInt8), k ≤ s.size ∧ i = .int .i64 k ∧ v = .string (tstr L) ∧ L ++ Txt.newl (crAt s k) (s.data.toList.drop k) = Txt.newl false s.data.toList) (fun _ i => s.size - (intOf i).toNat)
  case atStart => exact ⟨0, [], Nat.zero_le _, rfl, rfl, rfl⟩
  case round =>
    obtain ⟨k, L, hk, rfl, rfl, hL⟩ := hrel
    have hLl : L.length ≤ 10000 := by have := congrArg List.length hL; rw [List.length_append] at this; omega
    by_cases hlt : k < s.size
    · rw [drop_at s k hlt] at hL
      have hLs : (tstr L).size ≤ 10000 := by rw [tstr_size]; exact hLl
      have h1s : ∀ c : UInt8, (tstr [c]).size = 1 := fun c => tstr_size _
      have had : ∀ (c : UInt8) (W : World), (Op.stringOp .add (tstr L) (tstr [c])).run Tryz.prog W = .ok (.string (tstr L ++ tstr [c])) W := fun c W => run_string_add_sum W _ _ (by rw [h1s]; omega)
      have hex := extract_one s k hlt
      have hsl : ∀ W : World, (Instr.slice 9 (.string s) (some (.int .i64 k)) (some (.int .i64 ((k : Int) + 1))) none).run Tryz.prog W = .ok (.string (tstr [s[k]])) W := fun W => by
        rw [run_slice_string W _ s _ _ _ _ Tryz.underlying9 (by omega) (by omega) (by omega), ← hex]; rfl
      have hcr := crAt_succ s k hlt
      by_cases hskip : s[k] = 10 ∧ crAt s k = true
      · have hst : L ++ Txt.newl (crAt s (k + 1)) (s.data.toList.drop (k + 1)) = Txt.newl false s.data.toList := by
          rw [← hL, hcr, Txt.newl, if_pos hskip, hskip.1]; rfl
        have HS := Lib.hid hst
        have hn : ((s[k].toNat : Int) == 10) = true := by rw [hskip.1]; rfl
        cases k with
        | zero => exact absurd hskip.2 (by simp [crAt])
        | succ j =>
          have hj : j < s.size := by omega
          have h13 : s[j] = 13 := by have := hskip.2; rw [crAt_succ s j hj] at this; simpa using this
          have hn2 : ((s[j].toNat : Int) == 13) = true := by rw [h13]; rfl
          clear hst hL hex hcr hskip h13
          go_wp2_with fail
          go_round
          case rel => exact ⟨j + 1 + 1, L, by omega, by go_num, rfl, HS.out⟩
          case measure => simp [intOf]; omega
      · have hst : (L ++ [if s[k] = 13 then 10 else s[k]]) ++ Txt.newl (crAt s (k + 1)) (s.data.toList.drop (k + 1)) = Txt.newl false s.data.toList := by
          rw [← hL, hcr, List.append_assoc, Txt.newl, if_neg hskip]; rfl
        have HS := Lib.hid hst
        have hcase : ((s[k].toNat : Int) == 10) = false ∨ (((s[k].toNat : Int) == 10) = true ∧ k = 0) ∨ (((s[k].toNat : Int) == 10) = true ∧ ∃ j, ∃ h : j < s.size, k = j + 1 ∧ ((s[j].toNat : Int) == 13) = false) := by
          by_cases h10 : s[k] = 10
          · right
            have hn : ((s[k].toNat : Int) == 10) = true := by rw [h10]; rfl
            cases k with
            | zero => exact .inl ⟨hn, rfl⟩
            | succ j =>
              have hj : j < s.size := by omega
              refine .inr ⟨hn, j, hj, rfl, ?_⟩
              have : ¬ s[j] = 13 := fun e => hskip ⟨h10, by rw [crAt_succ s j hj, e]; rfl⟩
              have h2 : ¬ s[j].toNat = 13 := fun e => this ((u8_is s[j] 13 (by decide)).2 e)
              simp; omega
          · left
            have h2 : ¬ s[k].toNat = 10 := fun e => h10 ((u8_is s[k] 10 (by decide)).2 e)
            simp; omega
        clear hst hL hex hcr hskip
        by_cases h13 : s[k] = 13
        · rw [if_pos h13] at HS
          have hn3 : ((s[k].toNat : Int) == 13) = true := by rw [h13]; rfl
          have hn0 : ((s[k].toNat : Int) == 10) = false := by rw [h13]; rfl
          clear h13 hcase
          go_wp2_with fail
          go_round
          case rel => exact ⟨k + 1, L ++ [10], by omega, by go_num, by rw [← tstr_append]; rfl, HS.out⟩
          case measure => simp [intOf]; omega
        · rw [if_neg h13] at HS
          have hn3 : ((s[k].toNat : Int) == 13) = false := by
            have h2 : ¬ s[k].toNat = 13 := fun e => h13 ((u8_is s[k] 13 (by decide)).2 e)
            simp; omega
          clear h13
          rcases hcase with hn | ⟨hn, rfl⟩ | ⟨hn, j, hj, rfl, hn2⟩
          · go_wp2_with fail
            go_round
            case rel => exact ⟨k + 1, L ++ [s[k]], hlt, by go_num, by rw [tstr_append], HS.out⟩
            case measure => simp [intOf]; omega
          · have hs0 := slice1 s 0 0 1 rfl rfl hlt
            go_wp2_with fail
            go_round
            case rel => exact ⟨1, L ++ [s[0]], hlt, by go_num, by rw [tstr_append], HS.out⟩
            case measure => simp [intOf]; omega
          · have hs0 := slice1 s (j + 1) ((j : Int) + 1) ((j : Int) + 1 + 1) (by omega) (by omega) hlt
            go_wp2_with fail
            go_round
            case rel => exact ⟨j + 1 + 1, L ++ [s[j + 1]], hlt, by go_num, by rw [tstr_append], HS.out⟩
            case measure => simp [intOf]; omega
    · have ek : k = s.size := by omega
      subst ek
      rw [drop_end s _ hlt] at hL
      have hL2 : L = Txt.newl false s.data.toList := by rw [← hL, Txt.newl, List.append_nil]
      have HL := Lib.hid hL2
      clear hL hL2
      go_wp2_with fail
      go_ret
      exact ⟨retS (by rw [HL.out]), rfl⟩

end Go.Proofs.YtckmlbcpldpkpaaGreatDoor

/- The reference's Space returns what the plain text says. -/
namespace Go.Proofs.YtckmlbcpldpkpaaGreatDoor
open Go.RowKit

set_option maxHeartbeats 400000 in
theorem space_any (c : UInt8) (w : World) :
    Calls Tryz.prog 44 #[.int .u8 c.toNat] w fun e w' => e = .returned (.bool (Txt.sp c)) ∧ w = w' := by
  go_enter Tryz.func44, Tryz.ntmps44
  go_wp2
  all_goals go_ret
  all_goals refine ⟨retB ?_, rfl⟩
  all_goals unfold Txt.sp
  all_goals rw [Bool.eq_iff_iff]
  all_goals simp
  all_goals omega

end Go.Proofs.YtckmlbcpldpkpaaGreatDoor

/- The reference's Trim and Fields return what the plain texts say. -/
namespace Go.Proofs.YtckmlbcpldpkpaaGreatDoor
open Go.RowKit

/-- How long a string in a slot is. -/
def lenOf : Value → Nat
  | .string t => t.size
  | _ => 0
theorem tail_str (t : ByteArray) (h : 0 < t.size) : (t.extract 1 t.size).data.toList = t.data.toList.drop 1 ∧ (t.extract 1 t.size).size = t.size - 1 := by
  refine ⟨?_, by rw [ByteArray.size_extract]; omega⟩
  have := textract t 1 (t.size - 1)
  rw [show 1 + (t.size - 1) = t.size from by omega] at this
  rw [this, List.take_of_length_le]
  rw [List.length_drop]; exact Nat.le_refl _
theorem init_str (t : ByteArray) (h : 0 < t.size) : t.data.toList = (t.extract 0 (t.size - 1)).data.toList ++ [t[t.size - 1]] ∧ (t.extract 0 (t.size - 1)).size = t.size - 1 := by
  refine ⟨?_, by rw [ByteArray.size_extract]; omega⟩
  have h1 := textract t 0 (t.size - 1)
  rw [Nat.zero_add] at h1
  rw [h1, List.drop_zero]
  have h2 := List.take_append_drop (t.size - 1) t.data.toList
  rw [drop_at t (t.size - 1) (by omega), drop_end t _ (by omega)] at h2
  exact h2.symm

set_option maxHeartbeats 400000 in
theorem rtrim_any (s : ByteArray) (w : World) (hs : s.size ≤ 10000) :
    Calls Tryz.prog 32 #[.string s] w fun e w' => e = .returned (.string (tstr (Txt.trim s.data.toList))) ∧ w = w' := by
  go_enter Tryz.func32, Tryz.ntmps32
  go_wp2_with fail
  go_loop [0] (fun v => ∃ t : ByteArray, v = .string t ∧ t.size ≤ 10000 ∧ Txt.trimL t.data.toList = Txt.trimL s.data.toList) (fun v => lenOf v)
  case atStart => exact ⟨s, rfl, hs, rfl⟩
  case round =>
    obtain ⟨t, rfl, ht, hL⟩ := hrel
    have hway : (∃ h : 0 < t.size, Txt.sp t[0] = true) ∨ (∃ h : 0 < t.size, Txt.sp t[0] = false ∧ t.data.toList = Txt.trimL s.data.toList) ∨ (¬ 0 < t.size ∧ t.data.toList = Txt.trimL s.data.toList) := by
      by_cases hz : 0 < t.size
      · have hd := drop_at t 0 hz
        rw [List.drop_zero] at hd
        cases hsp : Txt.sp t[0] with
        | true => exact .inl ⟨hz, hsp⟩
        | false => exact .inr (.inl ⟨hz, hsp, by rw [← hL, hd, Txt.trimL, if_neg (by rw [hsp]; simp)]⟩)
      · have hd := drop_end t 0 hz
        rw [List.drop_zero] at hd
        exact .inr (.inr ⟨hz, by rw [← hL, hd]; rfl⟩)
    rcases hway with ⟨hz, hsp⟩ | ⟨hz, hsp, hfin⟩ | ⟨hz, hfin⟩
    · have hd := drop_at t 0 hz
      rw [List.drop_zero] at hd
      obtain ⟨h1, h2⟩ := tail_str t hz
      have hst : Txt.trimL (t.extract 1 t.size).data.toList = Txt.trimL s.data.toList := by
        rw [← hL, hd, Txt.trimL, if_pos hsp, h1]
      have HS := Lib.hid hst
      have HP := Lib.hid hsp
      clear hst hsp hL hd h1
      go_wp2_with fail
      refine (space_any t[0] w).mono ?_
      rintro e w2 ⟨rfl, rfl⟩
      rw [HP.out]
      go_wp2_with fail
      go_round
      case rel => exact ⟨t.extract 1 t.size, rfl, by omega, HS.out⟩
      case measure =>
        show (t.extract 1 t.size).size < t.size
        omega
    case' inr.inl =>
      have HS := Lib.hid hfin
      have HP := Lib.hid hsp
      clear hL hfin hsp
      go_wp2_with fail
      refine (space_any t[0] w).mono ?_
      rintro e w2 ⟨rfl, rfl⟩
      rw [HP.out]
      go_wp2_with fail
    case' inr.inr =>
      have HS := Lib.hid hfin
      clear hL hfin
      go_wp2_with fail
    all_goals
      go_loop [0] (fun v => ∃ u : ByteArray, v = .string u ∧ u.size ≤ 10000 ∧ Txt.trimR u.data.toList = Txt.trimR t.data.toList) (fun v => lenOf v)
      case atStart => exact ⟨t, rfl, ht, rfl⟩
      case round =>
        obtain ⟨u, rfl, hu, hR⟩ := hrel
        by_cases hzu : 0 < u.size
        · obtain ⟨h1, h2⟩ := init_str u hzu
          have hzi : u.size - 1 < u.size := by omega
          cases hsp : Txt.sp u[u.size - 1] with
          | true =>
            have hst : Txt.trimR (u.extract 0 (u.size - 1)).data.toList = Txt.trimR t.data.toList := by
              rw [← hR]
              conv => rhs; rw [h1, Txt.trimR_snoc, if_pos hsp]
            have HT := Lib.hid hst
            have HP := Lib.hid hsp
            clear hst hsp hR h1
            go_wp2_with fail
            refine (space_any u[u.size - 1] w).mono ?_
            rintro e w2 ⟨rfl, rfl⟩
            rw [HP.out]
            go_wp2_with fail
            go_round
            case rel => exact ⟨u.extract 0 (u.size - 1), rfl, by omega, HT.out⟩
            case measure =>
              show (u.extract 0 (u.size - 1)).size < u.size
              omega
          | false =>
            have hst : u.data.toList = Txt.trimR t.data.toList := by
              rw [← hR]
              conv => rhs; rw [h1, Txt.trimR_snoc, if_neg (by rw [hsp]; simp)]
              exact h1
            have HT := Lib.hid hst
            have HP := Lib.hid hsp
            clear hst hsp hR h1
            go_wp2_with fail
            refine (space_any u[u.size - 1] w).mono ?_
            rintro e w2 ⟨rfl, rfl⟩
            rw [HP.out]
            go_wp2_with fail
            go_ret
            exact ⟨retS (by rw [← tstr_of u, HT.out, HS.out]; rfl), rfl⟩
        · have hd := drop_end u 0 hzu
          rw [List.drop_zero] at hd
          have hst : u.data.toList = Txt.trimR t.data.toList := by rw [← hR, hd]; rfl
          have HT := Lib.hid hst
          clear hst hR hd
          go_wp2_with fail
          go_ret
          exact ⟨retS (by rw [← tstr_of u, HT.out, HS.out]; rfl), rfl⟩

end Go.Proofs.YtckmlbcpldpkpaaGreatDoor

/- A string that is empty, and one that is not. -/
namespace Go.Proofs.YtckmlbcpldpkpaaGreatDoor
open Go.RowKit

theorem tstr_none : (tstr []).toList.isEmpty = true ∧ (!(tstr []).toList.isEmpty) = false := by
  constructor <;> rw [Lib.toList_data, tstr_data] <;> rfl
theorem tstr_some {l : List UInt8} (h : l ≠ []) : (tstr l).toList.isEmpty = false ∧ (!(tstr l).toList.isEmpty) = true := by
  rw [Lib.toList_data, tstr_data]
  cases l with
  | nil => exact absurd rfl h
  | cons a r => exact ⟨rfl, rfl⟩

end Go.Proofs.YtckmlbcpldpkpaaGreatDoor

/- The reference's Lower and Upper return what the plain texts say. -/
namespace Go.Proofs.YtckmlbcpldpkpaaGreatDoor
open Go.RowKit

theorem tbytesWorld_below (w : World) (e : TypeId) (s : ByteArray) : Below w.heap.size w (Lib.bytesWorld w e s) := by
  refine ⟨?_, ?_, ?_, by rw [Lib.bytesWorld_size]; omega, fun k hk => Lib.bytesWorld_at_old w e s k hk⟩ <;>
  · unfold Lib.bytesWorld World.freeze
    split <;> rfl
theorem tbytesWorld_free (w : World) (e : TypeId) (s : ByteArray) (j : Nat) (hj : j < s.size) : (Lib.bytesWorld w e s).frozen? ⟨w.heap.size, j, none⟩ = false := by
  have hn : s.size ≤ (Lib.bytesCells w e s).size := by
    unfold Lib.bytesCells; simp
  simp only [World.frozen?, Lib.bytesWorld_at_new]
  have : ¬ (Lib.bytesCells w e s).size ≤ j := by omega
  simp [this]
theorem tadd_none (b j : Nat) : (⟨b, 0, none⟩ : Addr).add j = ⟨b, j, none⟩ := by unfold Addr.add; split <;> simp_all

/-- A row of bytes that may be written. -/
def BRow (w : World) (g : Nat) (l : List UInt8) : Prop := ∀ j (h : j < l.length), w.cell? ⟨g, j, none⟩ = some (.int .u8 l[j].toNat) ∧ w.frozen? ⟨g, j, none⟩ = false
theorem BRow.set {w : World} {g : Nat} {l : List UInt8} (h : BRow w g l) (k : Nat) (y : UInt8) : BRow (w.setCell ⟨g, k, none⟩ (.int .u8 y.toNat)) g (l.set k y) := by
  intro j hj
  rw [List.length_set] at hj
  obtain ⟨h1, h2⟩ := h j hj
  refine ⟨?_, by rw [World.frozen?_setCell]; exact h2⟩
  by_cases hkj : k = j
  · subst hkj
    rw [World.cell?_setCell_same _ _ _ h1]; simp
  · rw [World.cell?_setCell_other _ _ _ _ (by intro e; injection e with _ h2; exact hkj h2), h1, List.getElem_set_ne hkj]
theorem BRow.conv {w : World} {g cap : Nat} {l : List UInt8} (h : BRow w g l) : (convert 58 9 (.slice (some ⟨g, 0, none⟩) l.length cap)).run Tryz.prog w = .ok (.string (tstr l)) w := by
  refine run_convert_bytes_back _ 58 9 5 ⟨g, 0, none⟩ cap l Tryz.underlying58 Tryz.underlying5 Tryz.underlying9 ?_
  intro j hj
  rw [tadd_none]
  exact (h j hj).1
theorem BRow.new (w : World) (s : ByteArray) : BRow (Lib.bytesWorld w 5 s) w.heap.size s.data.toList := by
  intro j hj
  refine ⟨?_, tbytesWorld_free w _ s j hj⟩
  rw [Lib.bytesWorld_cell w _ s j hj, List.getD_eq_getElem?_getD, List.getElem?_eq_getElem hj]; rfl

/-- The first ones turned. -/
def part (f : UInt8 → UInt8) (l : List UInt8) (k : Nat) : List UInt8 := (l.take k).map f ++ l.drop k
theorem part_len (f : UInt8 → UInt8) (l : List UInt8) (k : Nat) : (part f l k).length = l.length := by
  unfold part; rw [List.length_append, List.length_map, List.length_take, List.length_drop]; omega
theorem part_zero (f : UInt8 → UInt8) (l : List UInt8) : part f l 0 = l := by simp [part]
theorem part_all (f : UInt8 → UInt8) (l : List UInt8) : part f l l.length = l.map f := by simp [part]
theorem part_get (f : UInt8 → UInt8) (l : List UInt8) (k : Nat) (h : k < l.length) : (part f l k)[k]'(by rw [part_len]; exact h) = l[k] := by
  unfold part
  rw [List.getElem_append_right (by rw [List.length_map, List.length_take]; omega)]
  simp only [List.length_map, List.length_take, List.getElem_drop]
  congr 1; omega
theorem part_step (f : UInt8 → UInt8) (l : List UInt8) (k : Nat) (h : k < l.length) : (part f l k).set k (f l[k]) = part f l (k + 1) := by
  unfold part
  rw [List.set_append_right _ _ (by rw [List.length_map, List.length_take]; omega), List.drop_eq_getElem_cons h, List.length_map, List.length_take, show k - min k l.length = 0 from by omega, List.take_succ_eq_append_getElem h, List.set_cons_zero, List.map_append, List.append_assoc]; rfl
theorem part_same (f : UInt8 → UInt8) (l : List UInt8) (k : Nat) (h : k < l.length) (hf : f l[k] = l[k]) : part f l (k + 1) = part f l k := by
  rw [← part_step f l k h, hf]
  have hh : k < (part f l k).length := by rw [part_len]; exact h
  have : (part f l k).set k ((part f l k)[k]'hh) = part f l k := List.set_getElem_self hh
  rwa [part_get f l k h] at this

set_option maxRecDepth 100000 in
set_option maxHeartbeats 400000 in
theorem rlower_any (s : ByteArray) (w : World) (hs : s.size ≤ 10000) :
    Calls Tryz.prog 19 #[.string s] w fun e w' => e = .returned (.string (tstr (s.data.toList.map Txt.lo))) ∧ Below w.heap.size w w' := by
  have hcv := Lib.run_convert_string_bytes (P := Tryz.prog) w 9 58 5 s Tryz.underlying9 Tryz.underlying58 Tryz.underlying5
  generalize grownCap w s.size 0 5 = cap at hcv
  have hll : s.data.toList.length = s.size := rfl
  go_enter Tryz.func19, Tryz.ntmps19
  go_wp2_with fail
  go_loopw [4] (fun i wr => ∃ k : Nat, k ≤ s.size ∧ i = .int .i64 k ∧ BRow wr w.heap.size (part Txt.lo s.data.toList k) ∧ Below w.heap.size w wr) (fun i _ => s.size - (intOf i).toNat)
  case atStart => exact ⟨0, Nat.zero_le _, rfl, by rw [part_zero]; exact BRow.new w s, tbytesWorld_below w _ s⟩
  case round =>
    obtain ⟨k, hk, rfl, hrow, hbel⟩ := hrel
    by_cases hlt : k < s.size
    · have hkl : k < s.data.toList.length := hlt
      obtain ⟨hc, hf⟩ := hrow k (by rw [part_len]; exact hkl)
      rw [part_get _ _ k hkl] at hc
      have hst := part_step Txt.lo s.data.toList k hkl
      have hsm := part_same Txt.lo s.data.toList k hkl
      obtain ⟨c, hcc⟩ : ∃ c, s.data.toList[k] = c := ⟨_, rfl⟩
      rw [hcc] at hc hst hsm
      have hnum := Txt.lo_num c
      have hsz := hbel.size
      by_cases hup : 65 ≤ c.toNat ∧ c.toNat ≤ 90
      · rw [if_pos hup] at hnum
        obtain ⟨h1, h2⟩ := hup
        have hset := hrow.set k (Txt.lo c)
        rw [hst, hnum] at hset
        have HS := Lib.hid hset
        clear hset hst hsm hnum hcc hrow
        go_wp2_with fail
        go_roundw
        case rel => exact ⟨k + 1, by omega, by go_num, HS.out, hbel.setCell (p := ⟨w.heap.size, k, none⟩) (Nat.le_refl _) _⟩
        case measure => simp [intOf]; omega
      · rw [if_neg hup] at hnum
        have hp : part Txt.lo s.data.toList (k + 1) = part Txt.lo s.data.toList k := hsm (UInt8.toNat_inj.1 hnum)
        rw [← hp] at hrow
        have HR := Lib.hid hrow
        clear hst hsm hnum hcc hp hrow
        by_cases h65 : 65 ≤ c.toNat
        · have h90 : ¬ c.toNat ≤ 90 := fun h => hup ⟨h65, h⟩
          clear hup
          go_wp2_with fail
          go_roundw
          case rel => exact ⟨k + 1, by omega, by go_num, HR.out, hbel⟩
          case measure => simp [intOf]; omega
        · clear hup
          go_wp2_with fail
          go_roundw
          case rel => exact ⟨k + 1, by omega, by go_num, HR.out, hbel⟩
          case measure => simp [intOf]; omega
    · have ek : k = s.size := by omega
      subst ek
      rw [← hll, part_all] at hrow
      have hl2 : (s.data.toList.map Txt.lo).length = s.size := by rw [List.length_map]; rfl
      have hconv := hrow.conv (cap := cap)
      rw [hl2] at hconv
      go_wp2_with fail
      go_ret
      exact ⟨rfl, hbel⟩

set_option maxRecDepth 100000 in
set_option maxHeartbeats 400000 in
theorem rupper_any (s : ByteArray) (w : World) (hs : s.size ≤ 10000) :
    Calls Tryz.prog 18 #[.string s] w fun e w' => e = .returned (.string (tstr (s.data.toList.map Txt.up))) ∧ Below w.heap.size w w' := by
  have hcv := Lib.run_convert_string_bytes (P := Tryz.prog) w 9 58 5 s Tryz.underlying9 Tryz.underlying58 Tryz.underlying5
  generalize grownCap w s.size 0 5 = cap at hcv
  have hll : s.data.toList.length = s.size := rfl
  go_enter Tryz.func18, Tryz.ntmps18
  go_wp2_with fail
  go_loopw [4] (fun i wr => ∃ k : Nat, k ≤ s.size ∧ i = .int .i64 k ∧ BRow wr w.heap.size (part Txt.up s.data.toList k) ∧ Below w.heap.size w wr) (fun i _ => s.size - (intOf i).toNat)
  case atStart => exact ⟨0, Nat.zero_le _, rfl, by rw [part_zero]; exact BRow.new w s, tbytesWorld_below w _ s⟩
  case round =>
    obtain ⟨k, hk, rfl, hrow, hbel⟩ := hrel
    by_cases hlt : k < s.size
    · have hkl : k < s.data.toList.length := hlt
      obtain ⟨hc, hf⟩ := hrow k (by rw [part_len]; exact hkl)
      rw [part_get _ _ k hkl] at hc
      have hst := part_step Txt.up s.data.toList k hkl
      have hsm := part_same Txt.up s.data.toList k hkl
      obtain ⟨c, hcc⟩ : ∃ c, s.data.toList[k] = c := ⟨_, rfl⟩
      rw [hcc] at hc hst hsm
      have hnum := Txt.up_num c
      have hsz := hbel.size
      by_cases hup : 97 ≤ c.toNat ∧ c.toNat ≤ 122
      · rw [if_pos hup] at hnum
        obtain ⟨h1, h2⟩ := hup
        have hset := hrow.set k (Txt.up c)
        have hsub : ((c.toNat - 32 : Nat) : Int) = (c.toNat : Int) - 32 := by omega
        rw [hst, hnum, hsub] at hset
        clear hsub
        have HS := Lib.hid hset
        clear hset hst hsm hnum hcc hrow
        go_wp2_with fail
        go_roundw
        case rel => exact ⟨k + 1, by omega, by go_num, HS.out, hbel.setCell (p := ⟨w.heap.size, k, none⟩) (Nat.le_refl _) _⟩
        case measure => simp [intOf]; omega
      · rw [if_neg hup] at hnum
        have hp : part Txt.up s.data.toList (k + 1) = part Txt.up s.data.toList k := hsm (UInt8.toNat_inj.1 hnum)
        rw [← hp] at hrow
        have HR := Lib.hid hrow
        clear hst hsm hnum hcc hp hrow
        by_cases h97 : 97 ≤ c.toNat
        · have h90 : ¬ c.toNat ≤ 122 := fun h => hup ⟨h97, h⟩
          clear hup
          go_wp2_with fail
          go_roundw
          case rel => exact ⟨k + 1, by omega, by go_num, HR.out, hbel⟩
          case measure => simp [intOf]; omega
        · clear hup
          go_wp2_with fail
          go_roundw
          case rel => exact ⟨k + 1, by omega, by go_num, HR.out, hbel⟩
          case measure => simp [intOf]; omega
    · have ek : k = s.size := by omega
      subst ek
      rw [← hll, part_all] at hrow
      have hl2 : (s.data.toList.map Txt.up).length = s.size := by rw [List.length_map]; rfl
      have hconv := hrow.conv (cap := cap)
      rw [hl2] at hconv
      go_wp2_with fail
      go_ret
      exact ⟨rfl, hbel⟩

end Go.Proofs.YtckmlbcpldpkpaaGreatDoor

/- Small words of the walks: results, worlds one behind the other. (XEBas.alone: the same for a seat without the texts of stage 2.) -/
namespace Go.Proofs.YtckmlbcpldpkpaaGreatDoor
open Go Go.RowKit

theorem retSI {a b : ByteArray} {m n : Int} (h : a = b) (k : m = n) : Ending.returned (.tuple #[.string a, .int .i64 m]) = .returned (.tuple #[.string b, .int .i64 n]) := by rw [h, k]
theorem retSB {a b : ByteArray} {m n : Bool} (h : a = b) (k : m = n) : Ending.returned (.tuple #[.string a, .bool m]) = .returned (.tuple #[.string b, .bool n]) := by rw [h, k]
theorem below_trans' {w w1 w2 : World} (h1 : Below w.heap.size w w1) (h2 : Below w1.heap.size w1 w2) : Below w.heap.size w w2 := h1.trans (h2.mono h1.size)

end Go.Proofs.YtckmlbcpldpkpaaGreatDoor

/- A loop over the digits of a number, as a list says it. -/
namespace Go.Proofs.YtckmlbcpldpkpaaGreatDoor
open Go Go.RowKit

theorem drop_get (s : ByteArray) (k : Nat) (h : k < s.size) : s.data.toList.drop k = s[k] :: s.data.toList.drop (k + 1) := List.drop_eq_getElem_cons (l := s.data.toList) (i := k) h
theorem get_opt (s : ByteArray) (k : Nat) (h : k < s.size) : s.data.toList[k]? = some s[k] := List.getElem?_eq_getElem (l := s.data.toList) h
theorem get_end (s : ByteArray) (k : Nat) (h : s.size ≤ k) : s.data.toList[k]? = none := List.getElem?_eq_none (l := s.data.toList) h

/-- The state of the loop over the digits: what is there from index k on, with v. -/
def DSt (base start : Nat) (l : List UInt8) (v k : Nat) : Prop := Ent.digs base 0 (l.drop start) = ((Ent.digs base v (l.drop k)).1, (Ent.digs base v (l.drop k)).2 + (k - start))
theorem DSt.start (base start : Nat) (l : List UInt8) : DSt base start l 0 start := by unfold DSt; rw [Nat.sub_self]; rfl
theorem DSt.step {base start : Nat} {s : ByteArray} {v k : Nat} (h : DSt base start s.data.toList v k) (hk : k < s.size) (hs : start ≤ k) (hd : Ent.dig s[k] < base) : DSt base start s.data.toList (min (v * base + Ent.dig s[k]) 1114112) (k + 1) := by
  unfold DSt at h ⊢
  rw [h, drop_get s k hk]
  conv => lhs; unfold Ent.digs
  rw [if_pos hd]
  simp only [Prod.mk.injEq, true_and]
  omega
theorem DSt.stop {base start : Nat} {s : ByteArray} {v k : Nat} (h : DSt base start s.data.toList v k) (hk : ∀ h : k < s.size, ¬ Ent.dig s[k] < base) : Ent.digs base 0 (s.data.toList.drop start) = (v, k - start) := by
  unfold DSt at h
  rw [h]
  by_cases hl : k < s.size
  · rw [drop_get s k hl]
    unfold Ent.digs
    rw [if_neg (hk hl)]
    simp
  · rw [List.drop_of_length_le (by show s.size ≤ k; omega)]
    unfold Ent.digs
    simp
theorem DSt.none {base start : Nat} {s : ByteArray} {v : Nat} (h : Ent.digs base 0 (s.data.toList.drop start) = (v, start - start)) : Ent.byNum base start s.data.toList = ([], 0) := by
  unfold Ent.byNum
  rw [h, if_pos (Nat.sub_self _)]
theorem DSt.semi {base start : Nat} {s : ByteArray} {v k : Nat} (h : Ent.digs base 0 (s.data.toList.drop start) = (v, k - start)) (hk : start < k) (hl : k < s.size) (h59 : s[k].toNat = 59) : Ent.byNum base start s.data.toList = (Ent.numb v, k + 1) := by
  unfold Ent.byNum
  rw [h, if_neg (by omega)]
  simp only
  rw [show start + (k - start) = k by omega, get_opt s k hl, if_pos (by rw [(u8_is s[k] 59 (by decide)).2 h59]; rfl)]
theorem DSt.bare {base start : Nat} {s : ByteArray} {v k : Nat} (h : Ent.digs base 0 (s.data.toList.drop start) = (v, k - start)) (hk : start < k) (hl : ∀ h : k < s.size, s[k].toNat ≠ 59) : Ent.byNum base start s.data.toList = (Ent.numb v, k) := by
  unfold Ent.byNum
  rw [h, if_neg (by omega)]
  simp only
  rw [show start + (k - start) = k by omega, if_neg]
  · rfl
  · intro e
    by_cases hl' : k < s.size
    · rw [get_opt s k hl'] at e
      exact hl hl' (by rw [Option.some.inj e]; rfl)
    · rw [get_end s k (by omega)] at e; cases e

end Go.Proofs.YtckmlbcpldpkpaaGreatDoor

/- What has been decoded, and what is left; a string's beginning and its rest. -/
namespace Go.Proofs.YtckmlbcpldpkpaaGreatDoor
open Go Go.RowKit

/-- What has been written, and what is left. -/
def DecSt (s0 s : ByteArray) (out : List UInt8) : Prop := Ent.decode s0.data.toList = out ++ Ent.decode s.data.toList ∧ out.length + 4 * s.size ≤ 4 * s0.size
theorem DecSt.start (s : ByteArray) : DecSt s s [] := ⟨rfl, by simp⟩
theorem take_extract (s : ByteArray) (i : Nat) : (s.extract 0 i).data.toList = s.data.toList.take i := by
  have := textract s 0 i
  rwa [Nat.zero_add, List.drop_zero] at this
theorem drop_extract (s : ByteArray) (i : Nat) : (s.extract i s.size).data.toList = s.data.toList.drop i := by
  by_cases h : i ≤ s.size
  · have := textract s i (s.size - i)
    rw [show i + (s.size - i) = s.size from by omega] at this
    rw [this, List.take_of_length_le]
    rw [List.length_drop]; exact Nat.le_refl _
  · rw [ByteArray.data_extract, Array.toList_extract, List.drop_of_length_le (by show s.size ≤ i; omega)]
    simp only [List.extract_eq_take_drop]
    rw [List.drop_of_length_le (by show s.size ≤ i; omega), List.take_nil]
def strSize : Value → Nat
  | .string s => s.size
  | _ => 0
theorem DecSt.byte {s0 s : ByteArray} {out : List UInt8} (h : DecSt s0 s out) (h0 : 0 < s.size) (hn : (Ent.next s.data.toList).2 = 0) : DecSt s0 (s.extract 1 s.size) (out ++ [s[0]]) := by
  have hd := drop_get s 0 h0
  rw [List.drop_zero] at hd
  have e : Ent.decode s.data.toList = s[0] :: Ent.decode (s.data.toList.drop 1) := by
    conv => lhs; rw [hd]
    exact Ent.decode_zero (by rw [← hd]; exact hn)
  refine ⟨?_, ?_⟩
  · rw [h.1, e, drop_extract]; simp
  · have h2 := h.2
    have hs : (s.extract 1 s.size).size = s.size - 1 := by rw [ByteArray.size_extract]; omega
    rw [hs, List.length_append, List.length_singleton]; omega
theorem DecSt.ref {s0 s : ByteArray} {out : List UInt8} (h : DecSt s0 s out) (hn : (Ent.next s.data.toList).2 ≠ 0) : DecSt s0 (s.extract (Ent.next s.data.toList).2 s.size) (out ++ (Ent.next s.data.toList).1) := by
  obtain ⟨g1, g2⟩ := Ent.next_le s.data.toList
  have g1' : (Ent.next s.data.toList).2 ≤ s.size := g1
  refine ⟨?_, ?_⟩
  · rw [h.1, Ent.decode_some hn, drop_extract]; simp
  · have h2 := h.2
    have hs : (s.extract (Ent.next s.data.toList).2 s.size).size = s.size - (Ent.next s.data.toList).2 := by rw [ByteArray.size_extract]; omega
    rw [hs, List.length_append]; omega
theorem DecSt.all {s0 s : ByteArray} {out : List UInt8} (h : DecSt s0 s out) (h0 : s.size = 0) : Ent.decode s0.data.toList = out := by
  have e : s.data.toList = [] := List.length_eq_zero_iff.1 h0
  rw [h.1, e, Ent.decode_nil, List.append_nil]


end Go.Proofs.YtckmlbcpldpkpaaGreatDoor

/- The reference's Table, and its Lookup. -/
namespace Go.Proofs.YtckmlbcpldpkpaaGreatDoor
open Go Go.RowKit

/-- The name, and the character, of a row of the reference's table. -/
def rnm (i : Nat) : List UInt8 := (Ent.tabR.getD i ([], [])).1
def rch (i : Nat) : List UInt8 := (Ent.tabR.getD i ([], [])).2
/-- The reference's table lies in block b. -/
def RTab (w : World) (b : Nat) : Prop := ∀ i < 30, w.cell? ⟨b, i * 2, none⟩ = some (.string (tstr (rnm i))) ∧ w.cell? ⟨b, i * 2 + 1, none⟩ = some (.string (tstr (rch i)))
def rcells : Array Value := (Ent.tabR.flatMap fun p => [Value.string (tstr p.1), Value.string (tstr p.2)]).toArray
theorem rcells_at : ∀ i < 30, rcells[i * 2]? = some (.string (tstr (rnm i))) ∧ rcells[i * 2 + 1]? = some (.string (tstr (rch i))) := by
  intro i hi
  match i, hi with
  | 0, _ | 1, _ | 2, _ | 3, _ | 4, _ | 5, _ | 6, _ | 7, _ | 8, _ | 9, _ => exact ⟨rfl, rfl⟩
  | 10, _ | 11, _ | 12, _ | 13, _ | 14, _ | 15, _ | 16, _ | 17, _ | 18, _ | 19, _ => exact ⟨rfl, rfl⟩
  | 20, _ | 21, _ | 22, _ | 23, _ | 24, _ | 25, _ | 26, _ | 27, _ | 28, _ | 29, _ => exact ⟨rfl, rfl⟩
  | n + 30, h => omega

set_option maxRecDepth 100000 in
set_option maxHeartbeats 1000000 in
theorem rtable_any (w : World) :
    Calls Tryz.prog 52 #[] w fun e w' => ∃ b, e = .returned (.slice (some ⟨b, 0, none⟩) 30 30) ∧ w.heap.size ≤ b ∧ RTab w' b ∧ Below w.heap.size w w' := by
  have hW : Whole (w.alloc (.cells rcells 76)) w.heap.size rcells 76 := Whole.new _ _ _
  have hR : RTab (w.alloc (.cells rcells 76)) w.heap.size := fun i hi => by
    rw [hW.cell, hW.cell]; exact rcells_at i hi
  have hB : Below w.heap.size w (w.alloc (.cells rcells 76)) := (Below.refl _ _).alloc (Nat.le_refl _) _
  clear hW
  go_enter Tryz.func52, Tryz.ntmps52
  go_wp2_with fail
  go_ret
  exact ⟨_, rfl, Nat.le_refl _, hR, hB⟩

end Go.Proofs.YtckmlbcpldpkpaaGreatDoor

/- The reference's Number, digit, begins, number and word return what the plain texts say. -/
namespace Go.Proofs.YtckmlbcpldpkpaaGreatDoor
open Go Go.RowKit

/-- Bytes that a literal has laid, made a string. -/
theorem conv_lit (w : World) (l : List UInt8) (cs : Array Value) (h : cs.toList = l.map fun b => .int .u8 b.toNat) :
    (convert 58 9 (.slice (some ⟨w.heap.size, 0, none⟩) l.length l.length)).run Tryz.prog (w.alloc (.cells cs 5)) = .ok (.string (tstr l)) (w.alloc (.cells cs 5)) := by
  refine run_convert_bytes_back _ 58 9 5 ⟨w.heap.size, 0, none⟩ l.length l Tryz.underlying58 Tryz.underlying5 Tryz.underlying9 ?_
  intro j hj
  have e : (⟨w.heap.size, 0, none⟩ : Addr).add j = ⟨w.heap.size, j, none⟩ := by unfold Addr.add; split <;> simp_all
  rw [e, cell_of_row _ _ j cs 5 (0, 0) (heap_alloc_new w _)]
  rw [← Array.getElem?_toList, h, List.getElem?_map, List.getElem?_eq_getElem hj]; rfl

set_option maxRecDepth 100000 in
set_option maxHeartbeats 400000 in
theorem rnumber_1 (k : Nat) (w : World) (h0 : 1 ≤ k) (h9 : k ≤ 1114111) (h : k < 128) :
    Calls Tryz.prog 62 #[.int .i64 k] w fun e w' => e = .returned (.string (tstr (Ent.num k))) ∧ Below w.heap.size w w' := by
  have cv : (convert 58 9 (.slice (some ⟨w.heap.size, 0, none⟩) 1 1)).run Tryz.prog (w.alloc (.cells #[.int .u8 ((k : Int))] 5)) = .ok (.string (tstr [UInt8.ofNat k])) (w.alloc (.cells #[.int .u8 ((k : Int))] 5)) :=
    conv_lit w [UInt8.ofNat k] _ (by simp <;> omega)
  have ee : tstr (Ent.num k) = _ := congrArg tstr (Ent.num_one k h)
  rw [← ee] at cv
  clear ee
  obtain ⟨r, hr⟩ : ∃ r, tstr (Ent.num k) = r := ⟨_, rfl⟩
  rw [hr] at cv ⊢
  clear hr
  obtain ⟨K, hK⟩ : ∃ K : Int, K = (k : Int) := ⟨_, rfl⟩
  rw [← hK] at cv ⊢
  have g1 : 1 ≤ K := by omega
  have g2 : K ≤ 1114111 := by omega
  have f0 : K < 128 := by omega
  have f1 : K < 55296 := by omega
  clear hK h0 h9 h
  go_enter Tryz.func62, Tryz.ntmps62
  go_wp2_with fail
  go_ret
  exact ⟨rfl, (Below.refl _ _).alloc (Nat.le_refl _) _⟩
set_option maxRecDepth 100000 in
set_option maxHeartbeats 400000 in
theorem rnumber_2 (k : Nat) (w : World) (h0 : 1 ≤ k) (h9 : k ≤ 1114111) (h : ¬ k < 128 ∧ k < 2048) :
    Calls Tryz.prog 62 #[.int .i64 k] w fun e w' => e = .returned (.string (tstr (Ent.num k))) ∧ Below w.heap.size w w' := by
  have cv : (convert 58 9 (.slice (some ⟨w.heap.size, 0, none⟩) 2 2)).run Tryz.prog (w.alloc (.cells #[.int .u8 (192 + (k : Int) / 64), .int .u8 (128 + (k : Int) % 64)] 5)) = .ok (.string (tstr [UInt8.ofNat (192 + k / 64), UInt8.ofNat (128 + k % 64)])) (w.alloc (.cells #[.int .u8 (192 + (k : Int) / 64), .int .u8 (128 + (k : Int) % 64)] 5)) :=
    conv_lit w [UInt8.ofNat (192 + k / 64), UInt8.ofNat (128 + k % 64)] _ (by simp <;> omega)
  have ee : tstr (Ent.num k) = _ := congrArg tstr (Ent.num_two k h.1 h.2)
  rw [← ee] at cv
  clear ee
  obtain ⟨r, hr⟩ : ∃ r, tstr (Ent.num k) = r := ⟨_, rfl⟩
  rw [hr] at cv ⊢
  clear hr
  obtain ⟨K, hK⟩ : ∃ K : Int, K = (k : Int) := ⟨_, rfl⟩
  rw [← hK] at cv ⊢
  have g1 : 1 ≤ K := by omega
  have g2 : K ≤ 1114111 := by omega
  have f0 : 128 ≤ K := by omega
  have f1 : K < 2048 := by omega
  have f2 : K < 55296 := by omega
  clear hK h0 h9 h
  go_enter Tryz.func62, Tryz.ntmps62
  go_wp2_with fail
  go_ret
  exact ⟨rfl, (Below.refl _ _).alloc (Nat.le_refl _) _⟩
set_option maxRecDepth 100000 in
set_option maxHeartbeats 400000 in
theorem rnumber_3 (k : Nat) (w : World) (h0 : 1 ≤ k) (h9 : k ≤ 1114111) (h : ¬ k < 2048 ∧ k < 55296) :
    Calls Tryz.prog 62 #[.int .i64 k] w fun e w' => e = .returned (.string (tstr (Ent.num k))) ∧ Below w.heap.size w w' := by
  have cv : (convert 58 9 (.slice (some ⟨w.heap.size, 0, none⟩) 3 3)).run Tryz.prog (w.alloc (.cells #[.int .u8 (224 + (k : Int) / 4096), .int .u8 (128 + (k : Int) / 64 % 64), .int .u8 (128 + (k : Int) % 64)] 5)) = .ok (.string (tstr [UInt8.ofNat (224 + k / 4096), UInt8.ofNat (128 + k / 64 % 64), UInt8.ofNat (128 + k % 64)])) (w.alloc (.cells #[.int .u8 (224 + (k : Int) / 4096), .int .u8 (128 + (k : Int) / 64 % 64), .int .u8 (128 + (k : Int) % 64)] 5)) :=
    conv_lit w [UInt8.ofNat (224 + k / 4096), UInt8.ofNat (128 + k / 64 % 64), UInt8.ofNat (128 + k % 64)] _ (by simp <;> omega)
  have ee : tstr (Ent.num k) = _ := congrArg tstr (Ent.num_three k h.1 (by omega) (by omega))
  rw [← ee] at cv
  clear ee
  obtain ⟨r, hr⟩ : ∃ r, tstr (Ent.num k) = r := ⟨_, rfl⟩
  rw [hr] at cv ⊢
  clear hr
  obtain ⟨K, hK⟩ : ∃ K : Int, K = (k : Int) := ⟨_, rfl⟩
  rw [← hK] at cv ⊢
  have g1 : 1 ≤ K := by omega
  have g2 : K ≤ 1114111 := by omega
  have f0 : 128 ≤ K := by omega
  have f1 : 2048 ≤ K := by omega
  have f2 : K < 55296 := by omega
  have f3 : K < 65536 := by omega
  clear hK h0 h9 h
  go_enter Tryz.func62, Tryz.ntmps62
  go_wp2_with fail
  go_ret
  exact ⟨rfl, (Below.refl _ _).alloc (Nat.le_refl _) _⟩
set_option maxRecDepth 100000 in
set_option maxHeartbeats 400000 in
theorem rnumber_4 (k : Nat) (w : World) (h0 : 1 ≤ k) (h9 : k ≤ 1114111) (h : 57344 ≤ k ∧ k < 65536) :
    Calls Tryz.prog 62 #[.int .i64 k] w fun e w' => e = .returned (.string (tstr (Ent.num k))) ∧ Below w.heap.size w w' := by
  have cv : (convert 58 9 (.slice (some ⟨w.heap.size, 0, none⟩) 3 3)).run Tryz.prog (w.alloc (.cells #[.int .u8 (224 + (k : Int) / 4096), .int .u8 (128 + (k : Int) / 64 % 64), .int .u8 (128 + (k : Int) % 64)] 5)) = .ok (.string (tstr [UInt8.ofNat (224 + k / 4096), UInt8.ofNat (128 + k / 64 % 64), UInt8.ofNat (128 + k % 64)])) (w.alloc (.cells #[.int .u8 (224 + (k : Int) / 4096), .int .u8 (128 + (k : Int) / 64 % 64), .int .u8 (128 + (k : Int) % 64)] 5)) :=
    conv_lit w [UInt8.ofNat (224 + k / 4096), UInt8.ofNat (128 + k / 64 % 64), UInt8.ofNat (128 + k % 64)] _ (by simp <;> omega)
  have ee : tstr (Ent.num k) = _ := congrArg tstr (Ent.num_three k (by omega) (by omega) (by omega))
  rw [← ee] at cv
  clear ee
  obtain ⟨r, hr⟩ : ∃ r, tstr (Ent.num k) = r := ⟨_, rfl⟩
  rw [hr] at cv ⊢
  clear hr
  obtain ⟨K, hK⟩ : ∃ K : Int, K = (k : Int) := ⟨_, rfl⟩
  rw [← hK] at cv ⊢
  have g1 : 1 ≤ K := by omega
  have g2 : K ≤ 1114111 := by omega
  have f0 : 128 ≤ K := by omega
  have f1 : 2048 ≤ K := by omega
  have f2 : 57343 < K := by omega
  have f3 : 55296 ≤ K := by omega
  have f4 : K < 65536 := by omega
  clear hK h0 h9 h
  go_enter Tryz.func62, Tryz.ntmps62
  go_wp2_with fail
  go_ret
  exact ⟨rfl, (Below.refl _ _).alloc (Nat.le_refl _) _⟩
set_option maxRecDepth 100000 in
set_option maxHeartbeats 400000 in
theorem rnumber_5 (k : Nat) (w : World) (h0 : 1 ≤ k) (h9 : k ≤ 1114111) (h : 65536 ≤ k) :
    Calls Tryz.prog 62 #[.int .i64 k] w fun e w' => e = .returned (.string (tstr (Ent.num k))) ∧ Below w.heap.size w w' := by
  have cv : (convert 58 9 (.slice (some ⟨w.heap.size, 0, none⟩) 4 4)).run Tryz.prog (w.alloc (.cells #[.int .u8 (240 + (k : Int) / 262144), .int .u8 (128 + (k : Int) / 4096 % 64), .int .u8 (128 + (k : Int) / 64 % 64), .int .u8 (128 + (k : Int) % 64)] 5)) = .ok (.string (tstr [UInt8.ofNat (240 + k / 262144), UInt8.ofNat (128 + k / 4096 % 64), UInt8.ofNat (128 + k / 64 % 64), UInt8.ofNat (128 + k % 64)])) (w.alloc (.cells #[.int .u8 (240 + (k : Int) / 262144), .int .u8 (128 + (k : Int) / 4096 % 64), .int .u8 (128 + (k : Int) / 64 % 64), .int .u8 (128 + (k : Int) % 64)] 5)) :=
    conv_lit w [UInt8.ofNat (240 + k / 262144), UInt8.ofNat (128 + k / 4096 % 64), UInt8.ofNat (128 + k / 64 % 64), UInt8.ofNat (128 + k % 64)] _ (by simp <;> omega)
  have ee : tstr (Ent.num k) = _ := congrArg tstr (Ent.num_four k (by omega) (by omega))
  rw [← ee] at cv
  clear ee
  obtain ⟨r, hr⟩ : ∃ r, tstr (Ent.num k) = r := ⟨_, rfl⟩
  rw [hr] at cv ⊢
  clear hr
  obtain ⟨K, hK⟩ : ∃ K : Int, K = (k : Int) := ⟨_, rfl⟩
  rw [← hK] at cv ⊢
  have g1 : 1 ≤ K := by omega
  have g2 : K ≤ 1114111 := by omega
  have f0 : 128 ≤ K := by omega
  have f1 : 2048 ≤ K := by omega
  have f2 : 57343 < K := by omega
  have f3 : 55296 ≤ K := by omega
  have f4 : 65536 ≤ K := by omega
  clear hK h0 h9 h
  go_enter Tryz.func62, Tryz.ntmps62
  go_wp2_with fail
  go_ret
  exact ⟨rfl, (Below.refl _ _).alloc (Nat.le_refl _) _⟩
set_option maxRecDepth 100000 in
set_option maxHeartbeats 400000 in
theorem rnumber_any (n : Int) (w : World) (h1 : -9223372036854775808 ≤ n) (h2 : n ≤ 9223372036854775807) :
    Calls Tryz.prog 62 #[.int .i64 n] w fun e w' => e = .returned (.string (tstr (Ent.numb n))) ∧ Below w.heap.size w w' := by
  by_cases hb : n < 1 ∨ (55296 ≤ n ∧ n ≤ 57343) ∨ 1114111 < n
  · have e : Ent.numb n = [239, 191, 189] := by
      unfold Ent.numb
      split
      · rfl
      · rw [Ent.num_bad n (by omega)]
    have E := Lib.hid e
    clear e
    go_enter Tryz.func62, Tryz.ntmps62
    rcases hb with hb | ⟨hb, hb'⟩ | hb
    · go_wp2_with fail
      go_ret
      exact ⟨retS (by rw [E.out]; rfl), Below.refl _ _⟩
    · have g1 : ¬ n < 1 := by omega
      have g2 : ¬ 1114111 < n := by omega
      go_wp2_with fail
      go_ret
      exact ⟨retS (by rw [E.out]; rfl), Below.refl _ _⟩
    · have g1 : ¬ n < 1 := by omega
      go_wp2_with fail
      go_ret
      exact ⟨retS (by rw [E.out]; rfl), Below.refl _ _⟩
  · obtain ⟨k, rfl⟩ : ∃ k : Nat, n = k := ⟨n.toNat, by omega⟩
    have e : Ent.numb k = Ent.num k := by unfold Ent.numb; rw [if_neg (by omega)]
    rw [e]
    by_cases c1 : k < 128
    · exact rnumber_1 k w (by omega) (by omega) c1
    by_cases c2 : k < 2048
    · exact rnumber_2 k w (by omega) (by omega) ⟨c1, c2⟩
    by_cases c3 : k < 55296
    · exact rnumber_3 k w (by omega) (by omega) ⟨c2, c3⟩
    by_cases c4 : k < 65536
    · exact rnumber_4 k w (by omega) (by omega) ⟨by omega, c4⟩
    · exact rnumber_5 k w (by omega) (by omega) (by omega)

/-- The value of a digit in a base, -1 if it is none. -/
def rdig (c : UInt8) (base : Nat) : Int := if Ent.dig c < base then Ent.dig c else -1

set_option maxHeartbeats 400000 in
theorem rdigit_any (c : UInt8) (base : Nat) (w : World) (hb : base = 10 ∨ base = 16) :
    Calls Tryz.prog 61 #[.int .u8 c.toNat, .int .i64 base] w fun e w' => e = .returned (.int .i64 (rdig c base)) ∧ w = w' := by
  have hc := c.toNat_lt
  have hd : rdig c base = if 48 ≤ c.toNat ∧ c.toNat ≤ 57 then (c.toNat : Int) - 48 else if base = 16 then (if 97 ≤ c.toNat ∧ c.toNat ≤ 102 then (c.toNat : Int) - 87 else if 65 ≤ c.toNat ∧ c.toNat ≤ 70 then (c.toNat : Int) - 55 else -1) else -1 := by
    unfold rdig Ent.dig
    by_cases a : 48 ≤ c.toNat ∧ c.toNat ≤ 57
    · rw [if_pos a, if_pos a, if_pos (by omega)]; omega
    rw [if_neg a, if_neg a]
    by_cases b : 97 ≤ c.toNat ∧ c.toNat ≤ 102
    · rw [if_pos b, if_pos b]
      rcases hb with rfl | rfl
      · rw [if_neg (by omega), if_neg (by omega)]
      · rw [if_pos (by omega), if_pos rfl]; omega
    rw [if_neg b, if_neg b]
    by_cases d : 65 ≤ c.toNat ∧ c.toNat ≤ 70
    · rw [if_pos d, if_pos d]
      rcases hb with rfl | rfl
      · rw [if_neg (by omega), if_neg (by omega)]
      · rw [if_pos (by omega), if_pos rfl]; omega
    rw [if_neg d, if_neg d]
    rcases hb with rfl | rfl <;> rfl
  have HD := Lib.hid hd
  clear hd
  rcases hb with rfl | rfl
  all_goals
    go_enter Tryz.func61, Tryz.ntmps61
    go_wp2_with fail
    all_goals go_ret
    all_goals refine ⟨retI ?_, rfl⟩
    all_goals rw [HD.out]
    all_goals repeat' split
    all_goals first | omega | exact absurd trivial ‹¬True›

set_option maxHeartbeats 400000 in
theorem rword_any (c : UInt8) (w : World) :
    Calls Tryz.prog 53 #[.int .u8 c.toNat] w fun e w' => e = .returned (.bool (Ent.word c)) ∧ w = w' := by
  have hc := c.toNat_lt
  have hd : Ent.word c = (decide (97 ≤ c.toNat) && decide (c.toNat ≤ 122) || decide (65 ≤ c.toNat) && decide (c.toNat ≤ 90) || decide (48 ≤ c.toNat) && decide (c.toNat ≤ 57) || c.toNat == 61) := by
    unfold Ent.word Ent.isL
    rw [Bool.or_comm (decide (65 ≤ c.toNat) && _)]
  have HD := Lib.hid hd
  clear hd
  go_enter Tryz.func53, Tryz.ntmps53
  go_wp2_with fail
  all_goals go_ret
  all_goals refine ⟨retB ?_, rfl⟩
  all_goals rw [HD.out]
  all_goals rw [Bool.eq_iff_iff]
  all_goals simp only [Bool.or_eq_true, Bool.and_eq_true, decide_eq_true_eq, beq_iff_eq, true_iff]
  all_goals omega

set_option maxHeartbeats 400000 in
theorem rbegins_any (s p : ByteArray) (w : World) :
    Calls Tryz.prog 50 #[.string s, .string p] w fun e w' => e = .returned (.bool (p.data.toList.isPrefixOf s.data.toList)) ∧ w = w' := by
  have hl : p.data.toList.isPrefixOf s.data.toList = if p.size ≤ s.size then (s.extract 0 p.size).toList == p.toList else false := by
    have hps : p.data.toList.length = p.size := rfl
    have hss : s.data.toList.length = s.size := rfl
    rw [Bool.eq_iff_iff, List.isPrefixOf_iff_prefix]
    have e := textract s 0 p.size
    rw [Nat.zero_add, List.drop_zero] at e
    split
    · rw [beq_iff_eq, Lib.toList_data, Lib.toList_data, e, ← hps, List.prefix_iff_eq_take]
      exact eq_comm
    · rename_i h
      constructor
      · intro hx; have := hx.length_le; omega
      · intro hx; cases hx
  have HL := Lib.hid hl
  clear hl
  by_cases hle : p.size ≤ s.size
  all_goals
    go_enter Tryz.func50, Tryz.ntmps50
    go_wp2_with fail
    go_ret
    refine ⟨retB ?_, rfl⟩
    rw [HL.out]
    first | rw [if_pos hle] | rw [if_neg hle]

end Go.Proofs.YtckmlbcpldpkpaaGreatDoor

/- The reference's names, each with its character. -/
namespace Go.Proofs.YtckmlbcpldpkpaaGreatDoor
open Go Go.RowKit

theorem look_rnm : ∀ k < 30, Ent.look (rnm k) = some (rch k) := by
  intro i hi
  match i, hi with
  | 0, _ | 1, _ | 2, _ | 3, _ | 4, _ | 5, _ | 6, _ | 7, _ | 8, _ | 9, _ => rfl
  | 10, _ | 11, _ | 12, _ | 13, _ | 14, _ | 15, _ | 16, _ | 17, _ | 18, _ | 19, _ => rfl
  | 20, _ | 21, _ | 22, _ | 23, _ | 24, _ | 25, _ | 26, _ | 27, _ | 28, _ | 29, _ => rfl
  | n + 30, h => omega
theorem rget (i : Nat) (h : i < Ent.tabR.length) : Ent.tabR[i] = (rnm i, rch i) := by
  have e : Ent.tabR.getD i ([], []) = Ent.tabR[i] := by rw [List.getD_eq_getElem?_getD, List.getElem?_eq_getElem h]; rfl
  rw [← e]; rfl
theorem look_gone (nm : List UInt8) (h : ∀ i < 30, rnm i ≠ nm) : Ent.look nm = none := by
  unfold Ent.look
  rw [Option.map_eq_none_iff, List.find?_eq_none]
  intro p hp he
  obtain ⟨i, hi, rfl⟩ := List.getElem_of_mem hp
  have hi' : i < 30 := hi
  rw [rget i hi] at he
  exact h i hi' (beq_iff_eq.1 he)

end Go.Proofs.YtckmlbcpldpkpaaGreatDoor

/- The reference's number: a reference by a number. -/
namespace Go.Proofs.YtckmlbcpldpkpaaGreatDoor
open Go Go.RowKit

set_option maxRecDepth 100000 in
set_option maxHeartbeats 1000000 in
theorem rnumber_at_10 (s : ByteArray) (start : Nat) (w : World) (hst : start ≤ s.size) (hs : s.size ≤ 20000) :
    Calls Tryz.prog 51 #[.string s, .int .i64 start, .int .i64 10] w fun e w' => e = .returned (.tuple #[.string (tstr (Ent.byNum 10 start s.data.toList).1), .int .i64 (Ent.byNum 10 start s.data.toList).2]) ∧ Below w.heap.size w w' := by
  go_enter Tryz.func51, Tryz.ntmps51
  go_wp2_with fail
  go_loop [8, 9] (fun a b => ∃ v k : Nat, start ≤ k ∧ k ≤ s.size ∧ v ≤ 1114112 ∧ a = .int .i64 v ∧ b = .int .i64 k ∧ DSt 10 start s.data.toList v k) (fun _ b => s.size - (intOf b).toNat)
  case atStart => exact ⟨0, start, Nat.le_refl _, hst, by omega, rfl, rfl, DSt.start _ _ _⟩
  case round =>
    obtain ⟨v, k, hk1, hk2, hv, rfl, rfl, hD⟩ := hrel
    by_cases hlt : k < s.size
    · by_cases hd : Ent.dig s[k] < 10
      · have hst := hD.step hlt hk1 hd
        have HS := Lib.hid hst
        clear hst hD
        obtain ⟨d, hdd⟩ : ∃ d, Ent.dig s[k] = d := ⟨_, rfl⟩
        have hc : ∀ w : World, Calls Tryz.prog 61 #[.int .u8 s[k].toNat, .int .i64 10] w fun e w' => e = .returned (.int .i64 (d : Nat)) ∧ w = w' := fun w => by
          have e : rdig s[k] 10 = (d : Nat) := by unfold rdig; rw [if_pos hd, hdd]
          rw [← e]; exact rdigit_any s[k] 10 w (by omega)
        rw [hdd] at hd HS
        clear hdd
        go_wp2_with (go_at_call 61; refine (hc _).mono ?_; rintro e w' ⟨rfl, rfl⟩)
        go_round
        case rel => exact ⟨min (v * 10 + d) 1114112, k + 1, by omega, by omega, by omega, by go_num, by go_num, HS.out⟩
        case measure => simp [intOf]; omega
      · have hend := hD.stop (fun _ => hd)
        have hc : ∀ w : World, Calls Tryz.prog 61 #[.int .u8 s[k].toNat, .int .i64 10] w fun e w' => e = .returned (.int .i64 (-1)) ∧ w = w' := fun w => by
          have e : rdig s[k] 10 = -1 := by unfold rdig; rw [if_neg hd]
          rw [← e]; exact rdigit_any s[k] 10 w (by omega)
        clear hd hD
        have hres1 := fun (h : start < k) (h59 : s[k].toNat = 59) => DSt.semi hend h hlt h59
        have hres2 := fun (h : start < k) (h59 : s[k].toNat ≠ 59) => DSt.bare hend h (fun _ => h59)
        by_cases he : k = start
        · subst he
          have hres := Lib.hid (DSt.none hend)
          clear hend hres1 hres2
          go_wp2_with (go_at_call 61; refine (hc _).mono ?_; rintro e w' ⟨rfl, rfl⟩)
          go_ret2
          exact ⟨retSI (by rw [hres.out]; rfl) (by rw [hres.out]; rfl), Below.refl _ _⟩
        · have hgt : start < k := by omega
          clear hend
          by_cases h59 : s[k].toNat = 59
          · have hres := Lib.hid (hres1 hgt h59)
            have f59 : ((s[k].toNat : Int) == 59) = true := by rw [h59]; rfl
            clear hres1 hres2 h59
            go_wp2_with (first | (go_at_call 61; refine (hc _).mono ?_; rintro e w' ⟨rfl, rfl⟩) | (go_at_call 62; refine (rnumber_any _ _ (by omega) (by omega)).mono ?_; rintro e w' ⟨rfl, hbn⟩))
            go_ret2
            exact ⟨retSI (by rw [hres.out]) (by rw [hres.out]; go_num), hbn⟩
          · have hres := Lib.hid (hres2 hgt h59)
            have f59 : ((s[k].toNat : Int) == 59) = false := by
              rw [beq_eq_false_iff_ne]; omega
            clear hres1 hres2 h59
            go_wp2_with (first | (go_at_call 61; refine (hc _).mono ?_; rintro e w' ⟨rfl, rfl⟩) | (go_at_call 62; refine (rnumber_any _ _ (by omega) (by omega)).mono ?_; rintro e w' ⟨rfl, hbn⟩))
            go_ret2
            exact ⟨retSI (by rw [hres.out]) (by rw [hres.out]), hbn⟩
    · have hend := hD.stop (fun h => absurd h hlt)
      have hks : k = s.size := by omega
      clear hD
      by_cases he : k = start
      · have hres := Lib.hid (DSt.none (he ▸ hend))
        subst he
        clear hend hks
        go_wp2_with fail
        go_ret2
        exact ⟨retSI (by rw [hres.out]; rfl) (by rw [hres.out]; rfl), Below.refl _ _⟩
      · have hgt : start < k := by omega
        have hres := Lib.hid (DSt.bare hend hgt (fun h => absurd h hlt))
        clear hend hks
        go_wp2_with (go_at_call 62; refine (rnumber_any _ _ (by omega) (by omega)).mono ?_; rintro e w' ⟨rfl, hbn⟩)
        go_ret2
        exact ⟨retSI (by rw [hres.out]) (by rw [hres.out]), hbn⟩

set_option maxRecDepth 100000 in
set_option maxHeartbeats 1000000 in
theorem rnumber_at_16 (s : ByteArray) (start : Nat) (w : World) (hst : start ≤ s.size) (hs : s.size ≤ 20000) :
    Calls Tryz.prog 51 #[.string s, .int .i64 start, .int .i64 16] w fun e w' => e = .returned (.tuple #[.string (tstr (Ent.byNum 16 start s.data.toList).1), .int .i64 (Ent.byNum 16 start s.data.toList).2]) ∧ Below w.heap.size w w' := by
  go_enter Tryz.func51, Tryz.ntmps51
  go_wp2_with fail
  go_loop [8, 9] (fun a b => ∃ v k : Nat, start ≤ k ∧ k ≤ s.size ∧ v ≤ 1114112 ∧ a = .int .i64 v ∧ b = .int .i64 k ∧ DSt 16 start s.data.toList v k) (fun _ b => s.size - (intOf b).toNat)
  case atStart => exact ⟨0, start, Nat.le_refl _, hst, by omega, rfl, rfl, DSt.start _ _ _⟩
  case round =>
    obtain ⟨v, k, hk1, hk2, hv, rfl, rfl, hD⟩ := hrel
    by_cases hlt : k < s.size
    · by_cases hd : Ent.dig s[k] < 16
      · have hst := hD.step hlt hk1 hd
        have HS := Lib.hid hst
        clear hst hD
        obtain ⟨d, hdd⟩ : ∃ d, Ent.dig s[k] = d := ⟨_, rfl⟩
        have hc : ∀ w : World, Calls Tryz.prog 61 #[.int .u8 s[k].toNat, .int .i64 16] w fun e w' => e = .returned (.int .i64 (d : Nat)) ∧ w = w' := fun w => by
          have e : rdig s[k] 16 = (d : Nat) := by unfold rdig; rw [if_pos hd, hdd]
          rw [← e]; exact rdigit_any s[k] 16 w (by omega)
        rw [hdd] at hd HS
        clear hdd
        go_wp2_with (go_at_call 61; refine (hc _).mono ?_; rintro e w' ⟨rfl, rfl⟩)
        go_round
        case rel => exact ⟨min (v * 16 + d) 1114112, k + 1, by omega, by omega, by omega, by go_num, by go_num, HS.out⟩
        case measure => simp [intOf]; omega
      · have hend := hD.stop (fun _ => hd)
        have hc : ∀ w : World, Calls Tryz.prog 61 #[.int .u8 s[k].toNat, .int .i64 16] w fun e w' => e = .returned (.int .i64 (-1)) ∧ w = w' := fun w => by
          have e : rdig s[k] 16 = -1 := by unfold rdig; rw [if_neg hd]
          rw [← e]; exact rdigit_any s[k] 16 w (by omega)
        clear hd hD
        have hres1 := fun (h : start < k) (h59 : s[k].toNat = 59) => DSt.semi hend h hlt h59
        have hres2 := fun (h : start < k) (h59 : s[k].toNat ≠ 59) => DSt.bare hend h (fun _ => h59)
        by_cases he : k = start
        · subst he
          have hres := Lib.hid (DSt.none hend)
          clear hend hres1 hres2
          go_wp2_with (go_at_call 61; refine (hc _).mono ?_; rintro e w' ⟨rfl, rfl⟩)
          go_ret2
          exact ⟨retSI (by rw [hres.out]; rfl) (by rw [hres.out]; rfl), Below.refl _ _⟩
        · have hgt : start < k := by omega
          clear hend
          by_cases h59 : s[k].toNat = 59
          · have hres := Lib.hid (hres1 hgt h59)
            have f59 : ((s[k].toNat : Int) == 59) = true := by rw [h59]; rfl
            clear hres1 hres2 h59
            go_wp2_with (first | (go_at_call 61; refine (hc _).mono ?_; rintro e w' ⟨rfl, rfl⟩) | (go_at_call 62; refine (rnumber_any _ _ (by omega) (by omega)).mono ?_; rintro e w' ⟨rfl, hbn⟩))
            go_ret2
            exact ⟨retSI (by rw [hres.out]) (by rw [hres.out]; go_num), hbn⟩
          · have hres := Lib.hid (hres2 hgt h59)
            have f59 : ((s[k].toNat : Int) == 59) = false := by
              rw [beq_eq_false_iff_ne]; omega
            clear hres1 hres2 h59
            go_wp2_with (first | (go_at_call 61; refine (hc _).mono ?_; rintro e w' ⟨rfl, rfl⟩) | (go_at_call 62; refine (rnumber_any _ _ (by omega) (by omega)).mono ?_; rintro e w' ⟨rfl, hbn⟩))
            go_ret2
            exact ⟨retSI (by rw [hres.out]) (by rw [hres.out]), hbn⟩
    · have hend := hD.stop (fun h => absurd h hlt)
      have hks : k = s.size := by omega
      clear hD
      by_cases he : k = start
      · have hres := Lib.hid (DSt.none (he ▸ hend))
        subst he
        clear hend hks
        go_wp2_with fail
        go_ret2
        exact ⟨retSI (by rw [hres.out]; rfl) (by rw [hres.out]; rfl), Below.refl _ _⟩
      · have hgt : start < k := by omega
        have hres := Lib.hid (DSt.bare hend hgt (fun h => absurd h hlt))
        clear hend hks
        go_wp2_with (go_at_call 62; refine (rnumber_any _ _ (by omega) (by omega)).mono ?_; rintro e w' ⟨rfl, hbn⟩)
        go_ret2
        exact ⟨retSI (by rw [hres.out]) (by rw [hres.out]), hbn⟩

end Go.Proofs.YtckmlbcpldpkpaaGreatDoor

/- The reference's Next returns what the plain text says. -/
namespace Go.Proofs.YtckmlbcpldpkpaaGreatDoor
open Go Go.RowKit

/-- What the reference's begins says. -/
def BG (s p : ByteArray) (b : Bool) : Prop := ∀ w : World, Calls Tryz.prog 50 #[.string s, .string p] w fun e w' => e = .returned (.bool b) ∧ w = w'
theorem bg_any (s : ByteArray) (p : List UInt8) : BG s ⟨p.toArray⟩ (p.isPrefixOf s.data.toList) := fun w => rbegins_any s ⟨p.toArray⟩ w
theorem bgp_len {p l : List UInt8} (h : p.isPrefixOf l = true) : p.length ≤ l.length := (List.isPrefixOf_iff_prefix.1 h).length_le
theorem find_first {α : Type} {l : List α} {p : α → Bool} {k : Nat} (hk : k < l.length) (h : ∀ i (hi : i < k), p (l[i]'(by omega)) = false) (ht : p l[k] = true) : l.find? p = some l[k] := by
  induction l generalizing k with
  | nil => simp at hk
  | cons x l ih =>
    cases k with
    | zero => rw [List.find?_cons]; simp only [List.getElem_cons_zero] at ht ⊢; rw [ht]
    | succ k =>
      have h0 := h 0 (by omega)
      simp only [List.getElem_cons_zero] at h0
      rw [List.find?_cons, h0]
      simp only [List.getElem_cons_succ] at ht ⊢
      exact ih (by simpa using hk) (fun i hi => by have := h (i + 1) (by omega); simpa using this) ht
theorem find_gone {α : Type} {l : List α} {p : α → Bool} (h : ∀ i (hi : i < l.length), p l[i] = false) : l.find? p = none := by
  rw [List.find?_eq_none]
  intro x hx e
  obtain ⟨i, hi, rfl⟩ := List.getElem_of_mem hx
  rw [h i hi] at e; cases e

/-- No name and ; up to the k-th. -/
def NoSemi (l : List UInt8) (k : Nat) : Prop := ∀ i < k, (38 :: (rnm i ++ [59])).isPrefixOf l = false
/-- No bare name up to the k-th. -/
def NoBare (l : List UInt8) (k : Nat) : Prop := ∀ i < k, ((38 :: rnm i).isPrefixOf l && Ent.endOk (l.drop ((rnm i).length + 1))) = false
theorem NoSemi.step {l : List UInt8} {k : Nat} (h : NoSemi l k) (hk : (38 :: (rnm k ++ [59])).isPrefixOf l = false) : NoSemi l (k + 1) := fun i hi => by
  by_cases e : i = k
  · subst e; exact hk
  · exact h i (by omega)
theorem NoBare.step {l : List UInt8} {k : Nat} (h : NoBare l k) (hk : ((38 :: rnm k).isPrefixOf l && Ent.endOk (l.drop ((rnm k).length + 1))) = false) : NoBare l (k + 1) := fun i hi => by
  by_cases e : i = k
  · subst e; exact hk
  · exact h i (by omega)
def NoNum (l : List UInt8) : Prop := ([38, 35, 120].isPrefixOf l || [38, 35, 88].isPrefixOf l) = false ∧ [38, 35].isPrefixOf l = false
theorem rnext_semi {l : List UInt8} {k : Nat} (h0 : NoNum l) (h : NoSemi l k) (hk : k < 30) (ht : (38 :: (rnm k ++ [59])).isPrefixOf l = true) : Ent.rnext l = (rch k, (rnm k).length + 2) := by
  unfold Ent.rnext
  rw [if_neg (by rw [h0.1]; simp), if_neg (by rw [h0.2]; simp)]
  have hkl : k < Ent.tabR.length := hk
  rw [find_first (k := k) hkl (fun i hi => by rw [rget]; exact h i hi) (by rw [rget]; exact ht), rget]
theorem take_four (i : Nat) (h : i < (Ent.tabR.take 4).length) : (Ent.tabR.take 4)[i] = (rnm i, rch i) := by
  rw [List.getElem_take]; exact rget i _
theorem rnext_bare {l : List UInt8} {k : Nat} (h0 : NoNum l) (hs : NoSemi l 30) (h : NoBare l k) (hk : k < 4) (ht : ((38 :: rnm k).isPrefixOf l && Ent.endOk (l.drop ((rnm k).length + 1))) = true) : Ent.rnext l = (rch k, (rnm k).length + 1) := by
  unfold Ent.rnext
  rw [if_neg (by rw [h0.1]; simp), if_neg (by rw [h0.2]; simp)]
  have hk4 : k < (Ent.tabR.take 4).length := hk
  rw [find_gone (fun i hi => by rw [rget]; exact hs i hi)]
  simp only
  rw [find_first (k := k) hk4 (fun i hi => by rw [take_four]; exact h i hi) (by rw [take_four]; exact ht), take_four]
theorem rnext_no {l : List UInt8} (h0 : NoNum l) (hs : NoSemi l 30) (h : NoBare l 4) : Ent.rnext l = ([], 0) := by
  unfold Ent.rnext
  rw [if_neg (by rw [h0.1]; simp), if_neg (by rw [h0.2]; simp)]
  rw [find_gone (fun i hi => by rw [rget]; exact hs i hi)]
  simp only
  rw [find_gone (fun i hi => by rw [take_four]; exact h i hi)]
theorem rnm_len : ∀ k < 30, (rnm k).length ≤ 6 := by decide

set_option maxRecDepth 100000 in
set_option maxHeartbeats 1000000 in
theorem rnext_num (s : ByteArray) (w : World) (hs : s.size ≤ 20000) (hn : ¬ NoNum s.data.toList) :
    Calls Tryz.prog 37 #[.string s] w fun e w' => e = .returned (.tuple #[.string (tstr (Ent.rnext s.data.toList).1), .int .i64 (Ent.rnext s.data.toList).2]) ∧ Below w.heap.size w w' := by
  have q1 := bg_any s [38, 35, 120]
  have q2 := bg_any s [38, 35, 88]
  have q3 := bg_any s [38, 35]
  have l1 : [38, 35, 120].isPrefixOf s.data.toList = true → 3 ≤ s.size := fun h => bgp_len h
  have l2 : [38, 35, 88].isPrefixOf s.data.toList = true → 3 ≤ s.size := fun h => bgp_len h
  have l3 : [38, 35].isPrefixOf s.data.toList = true → 2 ≤ s.size := fun h => bgp_len h
  have hu : ∀ P1 P2 P3 : Bool, [38, 35, 120].isPrefixOf s.data.toList = P1 → [38, 35, 88].isPrefixOf s.data.toList = P2 → [38, 35].isPrefixOf s.data.toList = P3 → (P1 || P2) = true → Ent.rnext s.data.toList = Ent.byNum 16 3 s.data.toList := by
    intro P1 P2 P3 e1 e2 _ e
    unfold Ent.rnext
    rw [e1, e2, if_pos e]
  have hv : [38, 35, 120].isPrefixOf s.data.toList = false → [38, 35, 88].isPrefixOf s.data.toList = false → [38, 35].isPrefixOf s.data.toList = true → Ent.rnext s.data.toList = Ent.byNum 10 2 s.data.toList := by
    intro e1 e2 e3
    unfold Ent.rnext
    rw [e1, e2, if_neg (by simp), if_pos e3]
  cases h1 : [38, 35, 120].isPrefixOf s.data.toList with
  | true =>
    rw [h1] at q1
    have hq := rnumber_at_16 s 3 w (l1 h1) hs
    have HN := Lib.hid (hu _ _ _ h1 rfl rfl rfl)
    clear hu hv l1 l2 l3 q2 q3 h1 hn
    go_enter Tryz.func37, Tryz.ntmps37
    go_wp2_with fail
    refine (q1 w).mono ?_
    rintro e w' ⟨rfl, rfl⟩
    go_wp2_with fail
    refine hq.mono ?_
    rintro e w' ⟨rfl, hb⟩
    go_wp2_with fail
    go_ret2
    exact ⟨retSI (by rw [HN.out]) (by rw [HN.out]), hb⟩
  | false =>
    rw [h1] at q1
    cases h2 : [38, 35, 88].isPrefixOf s.data.toList with
    | true =>
      rw [h2] at q2
      have hq := rnumber_at_16 s 3 w (l2 h2) hs
      have HN := Lib.hid (hu _ _ _ h1 h2 rfl rfl)
      clear hu hv l1 l2 l3 q3 h1 h2 hn
      go_enter Tryz.func37, Tryz.ntmps37
      go_wp2_with fail
      refine (q1 w).mono ?_
      rintro e w' ⟨rfl, rfl⟩
      go_wp2_with fail
      refine (q2 w).mono ?_
      rintro e w' ⟨rfl, rfl⟩
      go_wp2_with fail
      refine hq.mono ?_
      rintro e w' ⟨rfl, hb⟩
      go_wp2_with fail
      go_ret2
      exact ⟨retSI (by rw [HN.out]) (by rw [HN.out]), hb⟩
    | false =>
      rw [h2] at q2
      cases h3 : [38, 35].isPrefixOf s.data.toList with
      | true =>
        rw [h3] at q3
        have hq := rnumber_at_10 s 2 w (l3 h3) hs
        have HN := Lib.hid (hv h1 h2 h3)
        clear hu hv l1 l2 l3 h1 h2 h3 hn
        go_enter Tryz.func37, Tryz.ntmps37
        go_wp2_with fail
        refine (q1 w).mono ?_
        rintro e w' ⟨rfl, rfl⟩
        go_wp2_with fail
        refine (q2 w).mono ?_
        rintro e w' ⟨rfl, rfl⟩
        go_wp2_with fail
        refine (q3 w).mono ?_
        rintro e w' ⟨rfl, rfl⟩
        go_wp2_with fail
        refine hq.mono ?_
        rintro e w' ⟨rfl, hb⟩
        go_wp2_with fail
        go_ret2
        exact ⟨retSI (by rw [HN.out]) (by rw [HN.out]), hb⟩
      | false => exact absurd ⟨by rw [h1, h2]; rfl, h3⟩ hn

set_option maxRecDepth 100000 in
set_option maxHeartbeats 2000000 in
theorem rnext_name (s : ByteArray) (w : World) (hn : NoNum s.data.toList) :
    Calls Tryz.prog 37 #[.string s] w fun e w' => e = .returned (.tuple #[.string (tstr (Ent.rnext s.data.toList).1), .int .i64 (Ent.rnext s.data.toList).2]) ∧ Below w.heap.size w w' := by
  have q1 := bg_any s [38, 35, 120]
  have q2 := bg_any s [38, 35, 88]
  have q3 := bg_any s [38, 35]
  have hn1 : [38, 35, 120].isPrefixOf s.data.toList = false := by have := hn.1; simp only [Bool.or_eq_false_iff] at this; exact this.1
  have hn2 : [38, 35, 88].isPrefixOf s.data.toList = false := by have := hn.1; simp only [Bool.or_eq_false_iff] at this; exact this.2
  rw [hn1] at q1
  rw [hn2] at q2
  rw [hn.2] at q3
  clear hn1 hn2
  go_enter Tryz.func37, Tryz.ntmps37
  go_wp2_with fail
  refine (q1 w).mono ?_
  rintro e w' ⟨rfl, rfl⟩
  go_wp2_with fail
  refine (q2 w).mono ?_
  rintro e w' ⟨rfl, rfl⟩
  go_wp2_with fail
  refine (q3 w).mono ?_
  rintro e w' ⟨rfl, rfl⟩
  go_wp2_with fail
  refine (rtable_any w).mono ?_
  rintro e w1 ⟨b, rfl, _, hR, hB⟩
  clear q1 q2 q3
  go_wp2_with fail
  go_loop [5] (fun a => ∃ k : Nat, k ≤ 30 ∧ a = .int .i64 k ∧ NoSemi s.data.toList k) (fun a => 30 - (intOf a).toNat)
  case atStart => exact ⟨0, by omega, rfl, fun i h => absurd h (by omega)⟩
  case round =>
    obtain ⟨k, hk, rfl, hno⟩ := hrel
    by_cases hlt : k < 30
    · obtain ⟨hc, hp⟩ := hR k hlt
      have hnl := rnm_len k hlt
      have hN1 : tstr (rnm k) = tstr (rnm k) := rfl
      have hNz : (tstr (rnm k)).size ≤ 6 := by rw [tstr_size]; exact hnl
      have hA : (⟨#[38]⟩ : ByteArray) ++ tstr (rnm k) = tstr (38 :: rnm k) := tstr_append [38] (rnm k)
      have hAB : tstr (38 :: rnm k) ++ (⟨#[59]⟩ : ByteArray) = tstr (38 :: (rnm k ++ [59])) := tstr_append (38 :: rnm k) [59]
      have hAz : (tstr (38 :: rnm k)).size ≤ 7 := by rw [tstr_size, List.length_cons]; omega
      have hbg := bg_any s (38 :: (rnm k ++ [59]))
      have hbg' : BG s (tstr (38 :: (rnm k ++ [59]))) ((38 :: (rnm k ++ [59])).isPrefixOf s.data.toList) := hbg
      have hNl : (tstr (rnm k)).size = (rnm k).length := tstr_size _
      obtain ⟨N, hN⟩ : ∃ N, tstr (rnm k) = N := ⟨_, rfl⟩
      obtain ⟨A, hAe⟩ : ∃ A, tstr (38 :: rnm k) = A := ⟨_, rfl⟩
      obtain ⟨B, hBe⟩ : ∃ B, tstr (38 :: (rnm k ++ [59])) = B := ⟨_, rfl⟩
      obtain ⟨C, hC⟩ : ∃ C, tstr (rch k) = C := ⟨_, rfl⟩
      rw [hN] at hc hA hNz hNl
      rw [hAe] at hA hAB hAz
      rw [hBe] at hAB hbg'
      rw [hC] at hp
      have had1 : ∀ W : World, (Op.stringOp .add ⟨#[38]⟩ N).run Tryz.prog W = .ok (.string A) W := fun W => by
        rw [← hA]; exact run_string_add_sum W _ _ (by have : (ByteArray.mk #[38]).size = 1 := rfl; omega)
      have had2 : ∀ W : World, (Op.stringOp .add A ⟨#[59]⟩).run Tryz.prog W = .ok (.string B) W := fun W => by
        rw [← hAB]; exact run_string_add_sum W _ _ (by have : (ByteArray.mk #[59]).size = 1 := rfl; omega)
      cases hpre : (38 :: (rnm k ++ [59])).isPrefixOf s.data.toList with
      | true =>
        rw [hpre] at hbg'
        have hres := rnext_semi hn hno hlt hpre
        rw [← hNl] at hres
        have HR := Lib.hid hres
        have HC := Lib.hid hC
        clear hpre hno hN hAe hBe hC hA hAB hAz hbg hN1 hnl hNl hn hres
        go_wp2_with fail
        refine (hbg' w1).mono ?_
        rintro e w' ⟨rfl, rfl⟩
        go_wp2_with fail
        go_quiet (fail)
        go_wp2_with fail
        go_ret2
        exact ⟨retSI (by rw [HR.out, ← HC.out]) (by rw [HR.out]; go_num), hB.trans ⟨rfl, rfl, rfl, Nat.le_refl _, fun _ _ => rfl⟩⟩
      | false =>
        rw [hpre] at hbg'
        have HN := Lib.hid (hno.step hpre)
        clear hpre hno hN hAe hBe hC hA hAB hAz hbg hN1 hnl hNl hp
        go_wp2_with fail
        refine (hbg' w1).mono ?_
        rintro e w' ⟨rfl, rfl⟩
        go_wp2_with fail
        go_round
        case rel => exact ⟨k + 1, by omega, by go_num, HN.out⟩
        case measure => simp [intOf]; omega
    · obtain rfl : k = 30 := by omega
      go_wp2_with fail
      go_loop [6] (fun a => ∃ k : Nat, k ≤ 4 ∧ a = .int .i64 k ∧ NoBare s.data.toList k) (fun a => 4 - (intOf a).toNat)
      case atStart => exact ⟨0, by omega, rfl, fun i h => absurd h (by omega)⟩
      case round =>
        obtain ⟨k, hk4, rfl, hnb⟩ := hrel
        clear hlt hk
        by_cases hlt : k < 4
        · obtain ⟨hc, hp⟩ := hR k (by omega)
          have hnl := rnm_len k (by omega)
          have hNz : (tstr (rnm k)).size ≤ 6 := by rw [tstr_size]; exact hnl
          have hA : (⟨#[38]⟩ : ByteArray) ++ tstr (rnm k) = tstr (38 :: rnm k) := tstr_append [38] (rnm k)
          have hbg : BG s (tstr (38 :: rnm k)) ((38 :: rnm k).isPrefixOf s.data.toList) := bg_any s (38 :: rnm k)
          have hNl : (tstr (rnm k)).size = (rnm k).length := tstr_size _
          obtain ⟨N, hN⟩ : ∃ N, tstr (rnm k) = N := ⟨_, rfl⟩
          obtain ⟨A, hAe⟩ : ∃ A, tstr (38 :: rnm k) = A := ⟨_, rfl⟩
          obtain ⟨C, hC⟩ : ∃ C, tstr (rch k) = C := ⟨_, rfl⟩
          rw [hN] at hc hA hNz hNl
          rw [hAe] at hA hbg
          rw [hC] at hp
          have had1 : ∀ W : World, (Op.stringOp .add ⟨#[38]⟩ N).run Tryz.prog W = .ok (.string A) W := fun W => by
            rw [← hA]; exact run_string_add_sum W _ _ (by have : (ByteArray.mk #[38]).size = 1 := rfl; omega)
          cases hpre : (38 :: rnm k).isPrefixOf s.data.toList with
          | false =>
            rw [hpre] at hbg
            have HN := Lib.hid (hnb.step (by rw [hpre]; rfl))
            clear hpre hno hN hAe hC hA hnl hNl hp hnb
            go_wp2_with fail
            refine (hbg w1).mono ?_
            rintro e w' ⟨rfl, rfl⟩
            go_wp2_with fail
            go_round
            case rel => exact ⟨k + 1, by omega, by go_num, HN.out⟩
            case measure => simp [intOf]; omega
          | true =>
            have hle : N.size + 1 ≤ s.size := by
              have h := bgp_len hpre
              have h' : (rnm k).length + 1 ≤ s.size := h
              omega
            rw [hpre] at hbg
            by_cases hend : s.size = N.size + 1
            · have hok : Ent.endOk (s.data.toList.drop ((rnm k).length + 1)) = true := by
                rw [List.drop_of_length_le (by show s.size ≤ _; omega)]; rfl
              have hres := rnext_bare hn hno hnb hlt (by rw [hpre, hok]; rfl)
              rw [← hNl] at hres
              have HR := Lib.hid hres
              have HC := Lib.hid hC
              have heq : ((s.size : Int) == (N.size : Int) + 1) = true := by rw [beq_iff_eq]; omega
              clear hpre hno hN hAe hC hA hnl hNl hnb hend hok hres hn
              go_wp2_with fail
              refine (hbg w1).mono ?_
              rintro e w' ⟨rfl, rfl⟩
              go_wp2_with fail
              go_ret2
              exact ⟨retSI (by rw [HR.out, ← HC.out]) (by rw [HR.out]; go_num), hB⟩
            · have hgt : N.size + 1 < s.size := by omega
              have hd : s.data.toList.drop ((rnm k).length + 1) = s[N.size + 1] :: s.data.toList.drop (N.size + 1 + 1) := by
                rw [← hNl]; exact drop_get s (N.size + 1) hgt
              obtain ⟨m, hm⟩ : ∃ m, m = N.size + 1 := ⟨_, rfl⟩
              have hmi : (N.size : Int) + 1 = (m : Int) := by omega
              have hml : m < s.size := by omega
              have heq : ((s.size : Int) == (m : Int)) = false := by rw [beq_eq_false_iff_ne]; omega
              have hd2 : s.data.toList.drop ((rnm k).length + 1) = s[m] :: s.data.toList.drop (m + 1) := by
                rw [← hNl, ← hm]; exact drop_get s m hml
              have hok : Ent.endOk (s.data.toList.drop ((rnm k).length + 1)) = !(Ent.word s[m]) := by rw [hd2]; rfl
              have hw := rword_any s[m]
              cases hwd : Ent.word s[m] with
              | true =>
                rw [hwd] at hw hok
                have HN := Lib.hid (hnb.step (by rw [hpre, hok]; rfl))
                clear hpre hno hN hAe hC hA hnl hNl hnb hend hok hd hd2 hm hp hwd
                go_wp2_with fail
                refine (hbg w1).mono ?_
                rintro e w' ⟨rfl, rfl⟩
                go_wp2_with fail
                refine (hw w1).mono ?_
                rintro e w' ⟨rfl, rfl⟩
                go_wp2_with fail
                go_round
                case rel => exact ⟨k + 1, by omega, by go_num, HN.out⟩
                case measure => simp [intOf]; omega
              | false =>
                rw [hwd] at hw hok
                have hres := rnext_bare hn hno hnb hlt (by rw [hpre, hok]; rfl)
                rw [← hNl, ← hm] at hres
                have HR := Lib.hid hres
                have HC := Lib.hid hC
                clear hpre hno hN hAe hC hA hnl hNl hnb hend hok hd hd2 hm hres hn hwd
                go_wp2_with fail
                refine (hbg w1).mono ?_
                rintro e w' ⟨rfl, rfl⟩
                go_wp2_with fail
                refine (hw w1).mono ?_
                rintro e w' ⟨rfl, rfl⟩
                go_wp2_with fail
                go_ret2
                exact ⟨retSI (by rw [HR.out, ← HC.out]) (by rw [HR.out]), hB⟩
        · obtain rfl : k = 4 := by omega
          have HR := Lib.hid (rnext_no hn hno hnb)
          clear hno hnb hn
          go_wp2_with fail
          go_ret2
          exact ⟨retSI (by rw [HR.out]; rfl) (by rw [HR.out]; rfl), hB⟩

theorem rnext_any (s : ByteArray) (w : World) (hs : s.size ≤ 20000) :
    Calls Tryz.prog 37 #[.string s] w fun e w' => e = .returned (.tuple #[.string (tstr (Ent.next s.data.toList).1), .int .i64 (Ent.next s.data.toList).2]) ∧ Below w.heap.size w w' := by
  rw [← Ent.rnext_next]
  by_cases hn : NoNum s.data.toList
  · exact rnext_name s w hn
  · exact rnext_num s w hs hn

end Go.Proofs.YtckmlbcpldpkpaaGreatDoor

/- The reference's Decode returns what the plain text says. -/
namespace Go.Proofs.YtckmlbcpldpkpaaGreatDoor
open Go Go.RowKit

set_option maxRecDepth 100000 in
set_option maxHeartbeats 1000000 in
theorem rdecode_any (s : ByteArray) (w : World) (hs : s.size ≤ 20000) :
    Calls Tryz.prog 17 #[.string s] w fun e w' => e = .returned (.string (tstr (Ent.decode s.data.toList))) ∧ Below w.heap.size w w' := by
  have hB0 : Below w.heap.size w w := Below.refl _ _
  have hrel0 : ∃ (r : ByteArray) (out : List UInt8), Value.string s = .string r ∧ Value.string ⟨#[]⟩ = .string (tstr out) ∧ r.size ≤ s.size ∧ DecSt s r out ∧ Below w.heap.size w w := ⟨s, [], rfl, rfl, Nat.le_refl _, DecSt.start s, hB0⟩
  go_enter Tryz.func17, Tryz.ntmps17
  go_wp2_with fail
  go_loopw [0, 3] (fun a b wr => ∃ (r : ByteArray) (out : List UInt8), a = .string r ∧ b = .string (tstr out) ∧ r.size ≤ s.size ∧ DecSt s r out ∧ Below w.heap.size w wr) (fun a _ _ => strSize a)
  case atStart => exact hrel0
  case round =>
    obtain ⟨r, out, rfl, rfl, hrs, hD, hB⟩ := hrel
    clear hrel0 hB0
    have hBs := hB.size
    have hlen := hD.2
    have hoz : (tstr out).size ≤ 80000 := by rw [tstr_size]; omega
    by_cases h0 : r.size = 0
    · have hres := Lib.hid (hD.all h0)
      have hpos : ¬ 0 < r.size := by omega
      clear hD hlen h0
      go_wp2_with fail
      go_ret
      exact ⟨retS (by rw [hres.out]), hB⟩
    · have hpos : 0 < r.size := by omega
      obtain ⟨g1, g2⟩ := Ent.next_le r.data.toList
      have g1' : (Ent.next r.data.toList).2 ≤ r.size := g1
      have hnx := rnext_any r wr (by omega)
      by_cases hn : (Ent.next r.data.toList).2 = 0
      · have hst := Lib.hid (hD.byte hpos hn)
        have hns := Lib.hid (show (r.extract 1 r.size).size < r.size by rw [ByteArray.size_extract]; omega)
        have hc1 : r.extract 0 1 = tstr [r[0]] := by
          have e := textract r 0 1
          rw [drop_get r 0 hpos] at e
          have e2 : (r.extract 0 1).data.toList = [r[0]] := e
          rw [← tstr_of (r.extract 0 1), e2]
        have sl1 : ∀ W : World, (Instr.slice 9 (.string r) none (some (.int .i64 1)) none).run Tryz.prog W = .ok (.string (tstr [r[0]])) W := fun W => by
          rw [run_slice_string_h (ht := Tryz.underlying9) (h0 := by omega) (h2 := by omega), ← hc1]; rfl
        have sl2 : ∀ W : World, (Instr.slice 9 (.string r) (some (.int .i64 1)) none none).run Tryz.prog W = .ok (.string (r.extract 1 r.size)) W := fun W => by
          rw [run_slice_string_l (ht := Tryz.underlying9) (h0 := by omega) (h1 := by omega)]; rfl
        rw [hn] at hnx
        obtain ⟨C, hC⟩ : ∃ C, tstr (Ent.next r.data.toList).1 = C := ⟨_, rfl⟩
        rw [hC] at hnx
        obtain ⟨Z, hZ⟩ : ∃ Z, r.extract 1 r.size = Z := ⟨_, rfl⟩
        rw [hZ] at sl2 hst hns
        have hcat : tstr out ++ tstr [r[0]] = tstr (out ++ [r[0]]) := tstr_append _ _
        have h1z : (tstr [r[0]]).size = 1 := tstr_size _
        obtain ⟨O, hO⟩ : ∃ O, tstr out = O := ⟨_, rfl⟩
        obtain ⟨Y, hY⟩ : ∃ Y, tstr [r[0]] = Y := ⟨_, rfl⟩
        rw [hO] at hoz hcat ⊢
        rw [hY] at sl1 hcat h1z
        have had : ∀ W : World, (Op.stringOp .add O Y).run Tryz.prog W = .ok (.string (O ++ Y)) W := fun W => run_string_add_sum W _ _ (by omega)
        have HC := Lib.hid hcat
        clear hD hlen h0 g1 g1' g2 hn hC hZ hc1 hcat hO hY h1z
        go_wp2_with fail
        refine hnx.mono ?_
        rintro e w2 ⟨rfl, hb2⟩
        have hB2 := hB.trans (hb2.mono hBs)
        clear hnx hb2
        go_wp2_with fail
        go_roundw
        case rel => exact ⟨Z, _, rfl, by rw [HC.out], by have := hns.out; omega, hst.out, hB2⟩
        case measure => exact hns.out
      · have hst := Lib.hid (hD.ref hn)
        obtain ⟨n, hnn⟩ : ∃ n, (Ent.next r.data.toList).2 = n := ⟨_, rfl⟩
        obtain ⟨c, hc⟩ : ∃ c, (Ent.next r.data.toList).1 = c := ⟨_, rfl⟩
        rw [hnn, hc] at hst hnx
        rw [hnn] at hn g1'
        rw [hc] at g2
        have hns := Lib.hid (show (r.extract n r.size).size < r.size by rw [ByteArray.size_extract]; omega)
        have sl2 : ∀ W : World, (Instr.slice 9 (.string r) (some (.int .i64 n)) none none).run Tryz.prog W = .ok (.string (r.extract n r.size)) W := fun W => by
          rw [run_slice_string_l (ht := Tryz.underlying9) (h0 := by omega) (h1 := by omega)]; rfl
        have hn1 : ((n : Int) == 0) = false := by rw [beq_eq_false_iff_ne]; omega
        obtain ⟨Z, hZ⟩ : ∃ Z, r.extract n r.size = Z := ⟨_, rfl⟩
        rw [hZ] at sl2 hst hns
        have hcat : tstr out ++ tstr c = tstr (out ++ c) := tstr_append _ _
        have h1z : (tstr c).size ≤ 4 := by rw [tstr_size]; exact g2
        obtain ⟨O, hO⟩ : ∃ O, tstr out = O := ⟨_, rfl⟩
        obtain ⟨Y, hY⟩ : ∃ Y, tstr c = Y := ⟨_, rfl⟩
        rw [hO] at hoz hcat ⊢
        rw [hY] at hnx hcat h1z
        have had : ∀ W : World, (Op.stringOp .add O Y).run Tryz.prog W = .ok (.string (O ++ Y)) W := fun W => run_string_add_sum W _ _ (by omega)
        have HC := Lib.hid hcat
        clear hD hlen h0 g1 g2 hn hnn hc hZ hcat hO hY
        go_wp2_with fail
        refine hnx.mono ?_
        rintro e w2 ⟨rfl, hb2⟩
        have hB2 := hB.trans (hb2.mono hBs)
        clear hnx hb2
        go_wp2_with fail
        go_roundw
        case rel => exact ⟨Z, _, rfl, by rw [HC.out], by have := hns.out; omega, hst.out, hB2⟩
        case measure => exact hns.out

end Go.Proofs.YtckmlbcpldpkpaaGreatDoor

/- The reference's Escape returns what the plain texts say. -/
namespace Go.Proofs.YtckmlbcpldpkpaaGreatDoor
open Go Go.RowKit

/-- What has been written when k bytes have been read. -/
def EscSt (f : UInt8 → List UInt8) (s : ByteArray) (k : Nat) (O : ByteArray) : Prop := O = tstr ((s.data.toList.take k).flatMap f) ∧ O.size ≤ 6 * k
theorem EscSt.start (f : UInt8 → List UInt8) (s : ByteArray) : EscSt f s 0 ⟨#[]⟩ := ⟨by simp [tstr], Nat.zero_le _⟩
theorem EscSt.step {f : UInt8 → List UInt8} {s : ByteArray} {k : Nat} {O : ByteArray} (h : EscSt f s k O) (hk : k < s.size) {l : List UInt8} (hl : f s[k] = l) (hn : l.length ≤ 6) : EscSt f s (k + 1) (O ++ tstr l) := by
  obtain ⟨h1, h2⟩ := h
  refine ⟨?_, ?_⟩
  · have e : s.data.toList.take (k + 1) = s.data.toList.take k ++ [s[k]] := by
      have hkl : k < s.data.toList.length := hk
      rw [List.take_succ_eq_append_getElem hkl]; rfl
    rw [e, List.flatMap_append, List.flatMap_cons, List.flatMap_nil, List.append_nil, hl, ← tstr_append, h1]
  · rw [ByteArray.size_append, tstr_size]; omega
theorem EscSt.done {f : UInt8 → List UInt8} {s : ByteArray} {O : ByteArray} (h : EscSt f s s.size O) : O = tstr (s.data.toList.flatMap f) := by
  rw [h.1, List.take_of_length_le (by exact Nat.le_refl _)]
theorem slice_one (s : ByteArray) (k : Nat) (h : k < s.size) (W : World) : (Instr.slice 9 (.string s) (some (.int .i64 k)) (some (.int .i64 ((k : Int) + 1))) none).run Tryz.prog W = .ok (.string (tstr [s[k]])) W := by
  have hex : s.extract k (k + 1) = tstr [s[k]] := by
    have e := textract s k 1
    rw [drop_get s k h] at e
    have e2 : (s.extract k (k + 1)).data.toList = [s[k]] := e
    rw [← tstr_of (s.extract k (k + 1)), e2]
  rw [run_slice_string W _ s _ _ _ _ Tryz.underlying9 (by omega) (by omega) (by omega), ← hex]; rfl

set_option maxRecDepth 100000 in
set_option maxHeartbeats 2000000 in
theorem rescape_text (s : ByteArray) (w : World) (hs : s.size ≤ 2000) :
    Calls Tryz.prog 15 #[.string s, .bool false] w fun e w' => e = .returned (.string (tstr (s.data.toList.flatMap Ent.esc))) ∧ w = w' := by
  go_enter Tryz.func15, Tryz.ntmps15
  go_wp2_with fail
  go_loop [5, 6] (fun a b => ∃ (O : ByteArray) (k : Nat), k ≤ s.size ∧ a = .string O ∧ b = .int .i64 k ∧ EscSt Ent.esc s k O) (fun _ b => s.size - (intOf b).toNat)
  case atStart => exact ⟨⟨#[]⟩, 0, Nat.zero_le _, rfl, rfl, EscSt.start _ _⟩
  case round =>
    obtain ⟨O, k, hk, rfl, rfl, hE⟩ := hrel
    have hOz : O.size ≤ 12000 := by have := hE.2; omega
    by_cases hlt : k < s.size
    · have hsl := slice_one s k hlt
      by_cases h38 : s[k] = 38
      · have hst := Lib.hid (hE.step hlt (l := [38, 97, 109, 112, 59]) (by rw [h38]; rfl) (by decide))
        rw [h38] at hsl
        have hsl' : ∀ W : World, (Instr.slice 9 (.string s) (some (.int .i64 k)) (some (.int .i64 ((k : Int) + 1))) none).run Tryz.prog W = .ok (.string ⟨#[38]⟩) W := hsl
        have had : ∀ W : World, (Op.stringOp .add O ⟨#[38, 97, 109, 112, 59]⟩).run Tryz.prog W = .ok (.string (O ++ tstr [38, 97, 109, 112, 59])) W := fun W => run_string_add_sum W _ _ (by have : (ByteArray.mk #[38, 97, 109, 112, 59]).size = 5 := rfl; omega)
        clear hE hsl
        go_wp2_with fail
        go_round
        case rel => exact ⟨_, k + 1, by omega, rfl, by go_num, hst.out⟩
        case measure => simp [intOf]; omega
      by_cases h13 : s[k] = 13
      · have hst := Lib.hid (hE.step hlt (l := [38, 35, 49, 51, 59]) (by rw [h13]; rfl) (by decide))
        rw [h13] at hsl
        have hsl' : ∀ W : World, (Instr.slice 9 (.string s) (some (.int .i64 k)) (some (.int .i64 ((k : Int) + 1))) none).run Tryz.prog W = .ok (.string ⟨#[13]⟩) W := hsl
        have had : ∀ W : World, (Op.stringOp .add O ⟨#[38, 35, 49, 51, 59]⟩).run Tryz.prog W = .ok (.string (O ++ tstr [38, 35, 49, 51, 59])) W := fun W => run_string_add_sum W _ _ (by have : (ByteArray.mk #[38, 35, 49, 51, 59]).size = 5 := rfl; omega)
        clear hE hsl
        go_wp2_with fail
        go_round
        case rel => exact ⟨_, k + 1, by omega, rfl, by go_num, hst.out⟩
        case measure => simp [intOf]; omega
      by_cases h60 : s[k] = 60
      · have hst := Lib.hid (hE.step hlt (l := [38, 108, 116, 59]) (by rw [h60]; rfl) (by decide))
        rw [h60] at hsl
        have hsl' : ∀ W : World, (Instr.slice 9 (.string s) (some (.int .i64 k)) (some (.int .i64 ((k : Int) + 1))) none).run Tryz.prog W = .ok (.string ⟨#[60]⟩) W := hsl
        have had : ∀ W : World, (Op.stringOp .add O ⟨#[38, 108, 116, 59]⟩).run Tryz.prog W = .ok (.string (O ++ tstr [38, 108, 116, 59])) W := fun W => run_string_add_sum W _ _ (by have : (ByteArray.mk #[38, 108, 116, 59]).size = 4 := rfl; omega)
        clear hE hsl
        go_wp2_with fail
        go_round
        case rel => exact ⟨_, k + 1, by omega, rfl, by go_num, hst.out⟩
        case measure => simp [intOf]; omega
      by_cases h62 : s[k] = 62
      · have hst := Lib.hid (hE.step hlt (l := [38, 103, 116, 59]) (by rw [h62]; rfl) (by decide))
        rw [h62] at hsl
        have hsl' : ∀ W : World, (Instr.slice 9 (.string s) (some (.int .i64 k)) (some (.int .i64 ((k : Int) + 1))) none).run Tryz.prog W = .ok (.string ⟨#[62]⟩) W := hsl
        have had : ∀ W : World, (Op.stringOp .add O ⟨#[38, 103, 116, 59]⟩).run Tryz.prog W = .ok (.string (O ++ tstr [38, 103, 116, 59])) W := fun W => run_string_add_sum W _ _ (by have : (ByteArray.mk #[38, 103, 116, 59]).size = 4 := rfl; omega)
        clear hE hsl
        go_wp2_with fail
        go_round
        case rel => exact ⟨_, k + 1, by omega, rfl, by go_num, hst.out⟩
        case measure => simp [intOf]; omega
      have hst := Lib.hid (hE.step hlt (l := [s[k]]) (by unfold Ent.esc; rw [if_neg h38, if_neg h13, if_neg h60, if_neg h62]) (by simp))
      have q38 : ((tstr [s[k]]).toList == [38]) = false := by
        rw [Lib.toList_data, tstr_data]; simpa using h38
      have q13 : ((tstr [s[k]]).toList == [13]) = false := by
        rw [Lib.toList_data, tstr_data]; simpa using h13
      have q60 : ((tstr [s[k]]).toList == [60]) = false := by
        rw [Lib.toList_data, tstr_data]; simpa using h60
      have q62 : ((tstr [s[k]]).toList == [62]) = false := by
        rw [Lib.toList_data, tstr_data]; simpa using h62
      have hz1 : (tstr [s[k]]).size = 1 := by rw [tstr_size]; rfl
      obtain ⟨X, hX⟩ : ∃ X, tstr [s[k]] = X := ⟨_, rfl⟩
      rw [hX] at hst hsl hz1 q38 q13 q60 q62
      have had : ∀ W : World, (Op.stringOp .add O X).run Tryz.prog W = .ok (.string (O ++ X)) W := fun W => run_string_add_sum W _ _ (by omega)
      clear hE hX hz1 h38 h13 h60 h62
      go_wp2_with fail
      all_goals
        go_round
        case rel => exact ⟨_, k + 1, by omega, rfl, by go_num, hst.out⟩
        case measure => simp [intOf]; omega
    · obtain rfl : k = s.size := by omega
      have hd := Lib.hid hE.done
      clear hE
      go_wp2_with fail
      go_ret
      exact ⟨retS hd.out, rfl⟩

set_option maxRecDepth 100000 in
set_option maxHeartbeats 2000000 in
theorem rescape_attr (s : ByteArray) (w : World) (hs : s.size ≤ 2000) :
    Calls Tryz.prog 15 #[.string s, .bool true] w fun e w' => e = .returned (.string (tstr (s.data.toList.flatMap Ent.escA))) ∧ w = w' := by
  go_enter Tryz.func15, Tryz.ntmps15
  go_wp2_with fail
  go_loop [5, 6] (fun a b => ∃ (O : ByteArray) (k : Nat), k ≤ s.size ∧ a = .string O ∧ b = .int .i64 k ∧ EscSt Ent.escA s k O) (fun _ b => s.size - (intOf b).toNat)
  case atStart => exact ⟨⟨#[]⟩, 0, Nat.zero_le _, rfl, rfl, EscSt.start _ _⟩
  case round =>
    obtain ⟨O, k, hk, rfl, rfl, hE⟩ := hrel
    have hOz : O.size ≤ 12000 := by have := hE.2; omega
    by_cases hlt : k < s.size
    · have hsl := slice_one s k hlt
      by_cases h38 : s[k] = 38
      · have hst := Lib.hid (hE.step hlt (l := [38, 97, 109, 112, 59]) (by rw [h38]; rfl) (by decide))
        rw [h38] at hsl
        have hsl' : ∀ W : World, (Instr.slice 9 (.string s) (some (.int .i64 k)) (some (.int .i64 ((k : Int) + 1))) none).run Tryz.prog W = .ok (.string ⟨#[38]⟩) W := hsl
        have had : ∀ W : World, (Op.stringOp .add O ⟨#[38, 97, 109, 112, 59]⟩).run Tryz.prog W = .ok (.string (O ++ tstr [38, 97, 109, 112, 59])) W := fun W => run_string_add_sum W _ _ (by have : (ByteArray.mk #[38, 97, 109, 112, 59]).size = 5 := rfl; omega)
        clear hE hsl
        go_wp2_with fail
        go_round
        case rel => exact ⟨_, k + 1, by omega, rfl, by go_num, hst.out⟩
        case measure => simp [intOf]; omega
      by_cases h13 : s[k] = 13
      · have hst := Lib.hid (hE.step hlt (l := [38, 35, 49, 51, 59]) (by rw [h13]; rfl) (by decide))
        rw [h13] at hsl
        have hsl' : ∀ W : World, (Instr.slice 9 (.string s) (some (.int .i64 k)) (some (.int .i64 ((k : Int) + 1))) none).run Tryz.prog W = .ok (.string ⟨#[13]⟩) W := hsl
        have had : ∀ W : World, (Op.stringOp .add O ⟨#[38, 35, 49, 51, 59]⟩).run Tryz.prog W = .ok (.string (O ++ tstr [38, 35, 49, 51, 59])) W := fun W => run_string_add_sum W _ _ (by have : (ByteArray.mk #[38, 35, 49, 51, 59]).size = 5 := rfl; omega)
        clear hE hsl
        go_wp2_with fail
        go_round
        case rel => exact ⟨_, k + 1, by omega, rfl, by go_num, hst.out⟩
        case measure => simp [intOf]; omega
      by_cases h34 : s[k] = 34
      · have hst := Lib.hid (hE.step hlt (l := [38, 113, 117, 111, 116, 59]) (by rw [h34]; rfl) (by decide))
        rw [h34] at hsl
        have hsl' : ∀ W : World, (Instr.slice 9 (.string s) (some (.int .i64 k)) (some (.int .i64 ((k : Int) + 1))) none).run Tryz.prog W = .ok (.string ⟨#[34]⟩) W := hsl
        have had : ∀ W : World, (Op.stringOp .add O ⟨#[38, 113, 117, 111, 116, 59]⟩).run Tryz.prog W = .ok (.string (O ++ tstr [38, 113, 117, 111, 116, 59])) W := fun W => run_string_add_sum W _ _ (by have : (ByteArray.mk #[38, 113, 117, 111, 116, 59]).size = 6 := rfl; omega)
        clear hE hsl
        go_wp2_with fail
        go_round
        case rel => exact ⟨_, k + 1, by omega, rfl, by go_num, hst.out⟩
        case measure => simp [intOf]; omega
      have hst := Lib.hid (hE.step hlt (l := [s[k]]) (by unfold Ent.escA; rw [if_neg h38, if_neg h13, if_neg h34]) (by simp))
      have q38 : ((tstr [s[k]]).toList == [38]) = false := by
        rw [Lib.toList_data, tstr_data]; simpa using h38
      have q13 : ((tstr [s[k]]).toList == [13]) = false := by
        rw [Lib.toList_data, tstr_data]; simpa using h13
      have q34 : ((tstr [s[k]]).toList == [34]) = false := by
        rw [Lib.toList_data, tstr_data]; simpa using h34
      have hz1 : (tstr [s[k]]).size = 1 := by rw [tstr_size]; rfl
      obtain ⟨X, hX⟩ : ∃ X, tstr [s[k]] = X := ⟨_, rfl⟩
      rw [hX] at hst hsl hz1 q38 q13 q34
      have had : ∀ W : World, (Op.stringOp .add O X).run Tryz.prog W = .ok (.string (O ++ X)) W := fun W => run_string_add_sum W _ _ (by omega)
      clear hE hX hz1 h38 h13 h34
      go_wp2_with fail
      all_goals
        go_round
        case rel => exact ⟨_, k + 1, by omega, rfl, by go_num, hst.out⟩
        case measure => simp [intOf]; omega
    · obtain rfl : k = s.size := by omega
      have hd := Lib.hid hE.done
      clear hE
      go_wp2_with fail
      go_ret
      exact ⟨retS hd.out, rfl⟩

end Go.Proofs.YtckmlbcpldpkpaaGreatDoor
