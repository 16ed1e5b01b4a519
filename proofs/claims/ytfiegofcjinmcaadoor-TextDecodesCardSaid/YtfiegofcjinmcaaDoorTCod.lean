/- Code points as numbers and as bytes; parts of a list of code points; the code points with their indices. No program is imported. -/
import Derived.Test.YtfiegofcjinmcaaDoorTDcd
import Derived.WalkKit
namespace Go.Proofs.YtfiegofcjinmcaaDoor
open Go Go.RowKit

/-- The number of a code point. -/
def code : List UInt8 → Nat
  | [a] => a.toNat
  | [a, b] => a.toNat % 32 * 64 + b.toNat % 64
  | [a, b, c] => a.toNat % 16 * 4096 + b.toNat % 64 * 64 + c.toNat % 64
  | [a, b, c, d] => a.toNat % 8 * 262144 + b.toNat % 64 * 4096 + c.toNat % 64 * 64 + d.toNat % 64
  | _ => 0

theorem w64 {x : Int} (h1 : -9223372036854775808 ≤ x) (h2 : x < 9223372036854775808) : wrap64 x = x := by
  unfold wrap64; omega

/-- The code points from one index to another. -/
def seg (cs : List (List UInt8)) (a t : Nat) : List (List UInt8) := (cs.take t).drop a
theorem seg_empty (cs : List (List UInt8)) (a t : Nat) (h : t ≤ a) : seg cs a t = [] := by
  unfold seg; exact List.drop_eq_nil_of_le (by rw [List.length_take]; omega)
theorem seg_step (cs : List (List UInt8)) (a k : Nat) (h : a ≤ k) (hk : k < cs.length) : seg cs a (k + 1) = seg cs a k ++ [cs.getD k []] := by
  unfold seg
  rw [List.take_succ_eq_append_getElem hk, List.drop_append_of_le_length (by rw [List.length_take]; omega)]
  simp [List.getD, hk]
theorem seg_all (cs : List (List UInt8)) (a k t : Nat) (h : cs.length ≤ k) (ht : cs.length ≤ t) : seg cs a k = seg cs a t := by
  unfold seg; rw [List.take_of_length_le h, List.take_of_length_le ht]
theorem seg_len (cs : List (List UInt8)) (a t : Nat) : (seg cs a t).flatten.length ≤ cs.flatten.length := by
  unfold seg
  have h1 := congrArg (fun l : List (List UInt8) => l.flatten.length) (List.take_append_drop a (cs.take t))
  have h2 := congrArg (fun l : List (List UInt8) => l.flatten.length) (List.take_append_drop t cs)
  simp only [List.flatten_append, List.length_append] at h1 h2
  omega

theorem slice_same (cs : List (List UInt8)) (a t : Int) : seg cs (max a 0).toNat (min t (cs.length : Int)).toNat = seg cs a.toNat t.toNat := by
  rw [show (max a 0).toNat = a.toNat from by omega]
  by_cases h : t ≤ (cs.length : Int)
  · rw [show min t (cs.length : Int) = t from by omega]
  · exact seg_all cs _ _ _ (by omega) (by omega)

theorem seg_join (cs : List (List UInt8)) (k : Nat) (h : k ≤ cs.length) : (seg cs 0 k).flatten ++ (seg cs k cs.length).flatten = cs.flatten ∧ (seg cs 0 k).length = k := by
  have e1 : seg cs 0 k = cs.take k := by unfold seg; rw [List.drop_zero]
  have e2 : seg cs k cs.length = cs.drop k := by unfold seg; rw [List.take_length]
  rw [e1, e2, ← List.flatten_append, List.take_append_drop, List.length_take]
  exact ⟨rfl, by omega⟩
theorem seg_good {cs : List (List UInt8)} (h : ∀ c ∈ cs, Txt.Good c) (a t : Nat) : Txt.chunks (seg cs a t).flatten = seg cs a t := by
  have hg : ∀ c ∈ seg cs a t, Txt.Good c := fun c hc => h c (List.mem_of_mem_take (List.mem_of_mem_drop hc))
  have := Txt.chunks_flat hg []
  rwa [List.append_nil, Txt.chunks_nil, List.append_nil] at this

/-- The code points with their indices. -/
def enum (cs : List (List UInt8)) : List (Nat × List UInt8) := (List.range cs.length).map fun i => (i, cs.getD i [])
theorem enum_length (cs : List (List UInt8)) : (enum cs).length = cs.length := by simp [enum]
theorem enum_next {cs : List (List UInt8)} {pre : List (Nat × List UInt8)} {x : Nat × List UInt8} (h : pre ++ [x] <+: enum cs) : x = (pre.length, cs.getD pre.length []) := by
  obtain ⟨r, hr⟩ := h
  have hlt : pre.length < (enum cs).length := by rw [← hr]; simp
  have h1 : (enum cs)[pre.length]? = some x := by rw [← hr]; simp
  rw [enum_length] at hlt
  simp [enum, hlt] at h1
  rw [← h1]; simp [List.getD, hlt]
abbrev encP (x : Nat × List UInt8) : Array Value := #[.int .i64 (x.1 : Nat), .int .i32 (code x.2 : Nat)]
theorem code_lt (l : List UInt8) : code l < 2097152 := by
  unfold code
  split
  · rename_i a; have := a.toNat_lt; omega
  · omega
  · omega
  · omega
  · omega

theorem enum_prefix_take (cs : List (List UInt8)) (k : Nat) : (enum cs).take k <+: enum cs := List.take_prefix _ _
theorem drop_cons {cs : List (List UInt8)} {k : Nat} {c : List UInt8} {r : List (List UInt8)} (h : cs.drop k = c :: r) :
    k < cs.length ∧ cs.getD k [] = c ∧ cs.drop (k + 1) = r ∧ (enum cs).take (k + 1) = (enum cs).take k ++ [(k, c)] := by
  have hk : k < cs.length := by
    have := congrArg List.length h
    rw [List.length_drop, List.length_cons] at this
    omega
  rw [List.drop_eq_getElem_cons hk, List.cons.injEq] at h
  have hc : cs.getD k [] = c := by simp [List.getD, hk, h.1]
  refine ⟨hk, hc, h.2, ?_⟩
  have hke : k < (enum cs).length := by rw [enum_length]; exact hk
  rw [List.take_succ_eq_append_getElem hke]
  simp [enum, hk, h.1]

/-- The number of the first code point of a text is the rune that a range over it yields first. -/
theorem step_code {l : List UInt8} (hne : l ≠ []) : code (Lib.encodeRune ((Txt.step l).1 : Nat)) = (Txt.step l).1 := by
  by_cases h : Txt.size l = 0
  · rw [Txt.step_bad hne h]; decide
  · have hb := Txt.begins_of h
    rw [(Txt.step_begins hb).2.1]
    generalize Txt.size l = n at hb
    cases hb with
    | one a r h' => rw [Txt.step_one a r h']; rfl
    | two a b r h1 h2 h3 => rw [Txt.step_two a b r h1 h2 h3]; rfl
    | three a b c r h1 h2 h3 h4 => rw [Txt.step_three a b c r h1 h2 h3 h4]; rfl
    | four a b c d r h1 h2 h3 h4 h5 => rw [Txt.step_four a b c d r h1 h2 h3 h4 h5]; rfl
/-- A sequence is what its number is encoded as. -/
theorem good_code {c : List UInt8} (h : Txt.Good c) : Lib.encodeRune ((code c : Nat) : Int) = c := by
  have hs := (Txt.step_begins h).2.1
  rw [List.take_length] at hs
  have hne : c ≠ [] := fun e => by subst e; have := h.four_at_most.1; simp at this
  have h2 := step_code hne
  rw [hs] at h2
  rw [h2, hs]
theorem good_cells {c : List UInt8} (h : Txt.Good c) : Lib.runeCells ((code c : Nat) : Int) = Lib.byteCells c := by
  rw [← Lib.byteCells_encodeRune, good_code h]

end Go.Proofs.YtfiegofcjinmcaaDoor
