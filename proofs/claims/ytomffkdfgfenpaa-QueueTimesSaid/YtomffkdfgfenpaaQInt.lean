/- Rows of numbers, and a slice of numbers that came in. No program is imported. -/
import Derived.Test.YtomffkdfgfenpaaQMem
import Derived.Lib.SmallJoins
import Derived.ProofKit
namespace Go.Proofs.Ytomffkdfgfenpaa
open Go Go.RowKit

def ints (l : List Int) : List Value := l.map fun i => .int .i64 i
theorem ints_len (l : List Int) : (ints l).length = l.length := by simp [ints]
theorem ints_append (a b : List Int) : ints (a ++ b) = ints a ++ ints b := by simp [ints]
theorem ints_cons (a : Int) (b : List Int) : ints (a :: b) = .int .i64 a :: ints b := rfl
theorem ints_one (l : List Int) : ∀ u ∈ ints l, u.oneCell' = true := by
  intro u hu
  obtain ⟨i, _, rfl⟩ := List.mem_map.1 hu
  rfl
theorem ints_get {l : List Int} {i : Nat} {x : Int} (h : l[i]? = some x) : (ints l)[i]? = some (.int .i64 x) := by simp [ints, h]
theorem ints_take (l : List Int) (k : Nat) : (ints l).take k = ints (l.take k) := by simp [ints]
theorem ints_drop (l : List Int) (k : Nat) : (ints l).drop k = ints (l.drop k) := by simp [ints]

/-- What the walk is told of a slice of integers that came in. -/
def Nums (kd : IntKind) (w : World) (A : Option Addr) (l : List Int) : Prop :=
  ∀ (i : Nat) (x : Int), l[i]? = some x → ∃ b o, A = some ⟨b, o, none⟩ ∧ w.cell? ⟨b, o + i, none⟩ = some (.int kd x)
theorem Nums.below {kd : IntKind} {w w' : World} {A : Option Addr} {l : List Int} (h : Nums kd w A l) (hb : Below w.heap.size w w') : Nums kd w' A l := by
  intro i x hi
  obtain ⟨b, o, h1, h2⟩ := h i x hi
  exact ⟨b, o, h1, (hb.cell (World.block_lt_of_cell? w _ h2)).trans h2⟩
def IsRow (k : IntKind) (w : World) (a : Option Addr) (len cap : Nat) (zs : List Int) : Prop :=
  (a = none ∧ len = 0 ∧ cap = 0 ∧ zs = []) ∨
  ∃ x, a = some x ∧ len ≤ cap ∧ cap ≤ maxLen ∧ zs.length = cap ∧ (∀ i, i < zs.length → w.cell? (x.add i) = some (.int k (zs.getD i 0))) ∧ ∀ n ∈ zs, (Lit.int k n).wf = true
section
variable {k : IntKind} {w : World} {a : Option Addr} {len cap : Nat} {zs : List Int}
theorem IsRow.length (h : IsRow k w a len cap zs) : (zs.take len).length = len := by
  rcases h with ⟨_, rfl, _, rfl⟩ | ⟨x, _, hl, _, hz, _⟩
  · rfl
  · rw [List.length_take]; omega
theorem IsRow.wf (h : IsRow k w a len cap zs) : ∀ n ∈ zs.take len, (Lit.int k n).wf = true := by
  intro n hn
  rcases h with ⟨_, rfl, _, rfl⟩ | ⟨x, _, _, _, _, _, hw⟩
  · simp at hn
  · exact hw n (List.mem_of_mem_take hn)
theorem nums_of (h : IsRow k w a len cap zs) : Nums k w a (zs.take len) ∧ (zs.take len).length = len ∧ ∀ x ∈ zs.take len, (Lit.int k x).wf = true := by
  refine ⟨fun i y hi => ?_, h.length, h.wf⟩
  have hil : i < len := by have := (List.getElem?_eq_some_iff.1 hi).1; rw [h.length] at this; exact this
  rcases h with ⟨_, rfl, _, rfl⟩ | ⟨x, rfl, hl, _, hz, hc, _⟩
  · omega
  · obtain ⟨b, o, sp⟩ := x
    have hci := hc i (by omega)
    have hsp : sp = none := by simpa [Addr.add] using World.cell?_spot (hc 0 (by omega))
    subst hsp
    have hadd : (⟨b, o, none⟩ : Addr).add i = ⟨b, o + i, none⟩ := by unfold Addr.add; split <;> simp_all
    rw [hadd] at hci
    refine ⟨b, o, rfl, ?_⟩
    rw [hci]
    have e : zs.getD i 0 = y := by
      rw [List.getElem?_take, if_pos hil] at hi
      simp [List.getD, hi]
    rw [e]
end
theorem op8u {n : Int} (h : (Lit.int .u8 n).wf = true) : 0 ≤ n ∧ n ≤ 255 := by
  simpa [Lit.wf, IntKind.min, IntKind.max, IntKind.bits, IntKind.signed] using h
theorem op8 {n : Int} (h : (Lit.int .i8 n).wf = true) : -128 ≤ n ∧ n ≤ 127 := by
  simpa [Lit.wf, IntKind.min, IntKind.max, IntKind.bits, IntKind.signed] using h
theorem op16 {n : Int} (h : (Lit.int .i16 n).wf = true) : -32768 ≤ n ∧ n ≤ 32767 := by
  simpa [Lit.wf, IntKind.min, IntKind.max, IntKind.bits, IntKind.signed] using h

/-! A queue and a row apart from it. -/
theorem tail_ints {w : World} {base : Nat} {E : TypeId} {v : Value} {n : Nat} {x : Int} {l : List Int} (h : TR w base E 1 v (n + 1) (ints (x :: l))) : TR w base E 1 (tailV v 1 1) n (ints l) := by
  have h1 := h.tail (k := 1) (by omega)
  simpa [ints] using h1
end Go.Proofs.Ytomffkdfgfenpaa
