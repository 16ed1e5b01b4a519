/- The reference's Size, Repair, Points, Code and Join return what the plain texts say. -/
import Derived.Test.YtfiegofcjinmcaaDoorTRef
import Derived.Test.YtfiegofcjinmcaaDoorMem
import Derived.Laws.AppendOwnNone
import Derived.OwnWalk
namespace Go.Proofs.YtfiegofcjinmcaaDoor
open Go.RowKit

theorem drop_at (s : ByteArray) (k : Nat) (h : k < s.size) : s.data.toList.drop k = s[k] :: s.data.toList.drop (k + 1) := by
  rw [List.drop_eq_getElem_cons (by simpa using h)]; rfl
theorem drop_end (s : ByteArray) (k : Nat) (h : ¬ k < s.size) : s.data.toList.drop k = [] := List.drop_eq_nil_of_le (by simp only [Array.length_toList]; exact Nat.le_of_not_lt h)

theorem size_if (a x y z : Nat) (t : Bool) :
    (if a ≤ 127 then 1 else if 194 ≤ a ∧ a ≤ 223 then (if 128 ≤ x ∧ x ≤ 191 then 2 else 0) else if 224 ≤ a ∧ a ≤ 239 then (if t = true ∧ 128 ≤ y ∧ y ≤ 191 then 3 else 0) else if 240 ≤ a ∧ a ≤ 244 then (if (t = true ∧ 128 ≤ y ∧ y ≤ 191) ∧ 128 ≤ z ∧ z ≤ 191 then 4 else 0) else 0) =
    (if a ≤ 127 then 1 else if (194 ≤ a ∧ a ≤ 223) ∧ 128 ≤ x ∧ x ≤ 191 then 2 else if ((224 ≤ a ∧ a ≤ 239) ∧ t = true) ∧ 128 ≤ y ∧ y ≤ 191 then 3 else if ((240 ≤ a ∧ a ≤ 244) ∧ t = true) ∧ (128 ≤ y ∧ y ≤ 191) ∧ 128 ≤ z ∧ z ≤ 191 then 4 else 0) := by
  cases t <;> (simp only [true_and, and_true, false_and, and_false, if_false, reduceCtorEq]; repeat' split) <;> omega
theorem size_if3 (a x y : Nat) (t : Bool) :
    (if a ≤ 127 then 1 else if 194 ≤ a ∧ a ≤ 223 then (if 128 ≤ x ∧ x ≤ 191 then 2 else 0) else if 224 ≤ a ∧ a ≤ 239 then (if t = true ∧ 128 ≤ y ∧ y ≤ 191 then 3 else 0) else 0) =
    (if a ≤ 127 then 1 else if (194 ≤ a ∧ a ≤ 223) ∧ 128 ≤ x ∧ x ≤ 191 then 2 else if ((224 ≤ a ∧ a ≤ 239) ∧ t = true) ∧ 128 ≤ y ∧ y ≤ 191 then 3 else 0) := by
  cases t <;> (simp only [true_and, and_true, false_and, and_false, if_false, reduceCtorEq]; repeat' split) <;> omega
theorem size_if2 (a x : Nat) :
    (if a ≤ 127 then 1 else if 194 ≤ a ∧ a ≤ 223 then (if 128 ≤ x ∧ x ≤ 191 then 2 else 0) else 0) = (if a ≤ 127 then 1 else if (194 ≤ a ∧ a ≤ 223) ∧ 128 ≤ x ∧ x ≤ 191 then 2 else 0) := by
  repeat' split
  all_goals omega
theorem size_spec (s : ByteArray) (i : Nat) : Txt.size (s.data.toList.drop i) =
    if inAt s i 0 127 then 1 else if inAt s i 194 223 && tailAt s (i + 1) 1 then 2 else if inAt s i 224 239 && sndAt s i && tailAt s (i + 2) 1 then 3 else if inAt s i 240 244 && sndAt s i && tailAt s (i + 2) 2 then 4 else 0 := by
  by_cases h0 : i < s.size
  · rw [drop_at s i h0]
    by_cases h1 : i + 1 < s.size
    · rw [drop_at s _ h1]
      by_cases h2 : i + 2 < s.size
      · rw [drop_at s _ h2]
        by_cases h3 : i + 3 < s.size
        · rw [drop_at s _ h3]
          simp [Txt.size, inAt, tailAt, sndAt, Txt.cont, h0, h1, h2, h3]
          exact size_if _ _ _ _ _
        · rw [drop_end s _ h3]
          simp [Txt.size, inAt, tailAt, sndAt, Txt.cont, h0, h1, h2, h3]
          exact size_if3 _ _ _ _
      · have h3 : ¬ i + 3 < s.size := by omega
        rw [drop_end s _ h2]
        simp [Txt.size, inAt, tailAt, sndAt, Txt.cont, h0, h1, h2, h3]
        exact size_if2 _ _
    · have h2 : ¬ i + 2 < s.size := by omega
      have h3 : ¬ i + 3 < s.size := by omega
      rw [drop_end s _ h1]
      simp [Txt.size, inAt, tailAt, sndAt, h0, h1, h2, h3]
  · rw [drop_end s i h0]
    simp [Txt.size, inAt, h0]

set_option maxHeartbeats 400000 in
theorem size_any (s : ByteArray) (i : Nat) (w : World) (hs : s.size ≤ 140737488351232) (hi : i ≤ s.size) :
    Calls Tryd.prog 18 #[.string s, .int .i64 i] w fun e w' => e = .returned (.int .i64 (Txt.size (s.data.toList.drop i) : Nat)) ∧ w = w' := by
  have HS := Lib.hid (size_spec s i)
  go_enter Tryd.func18, Tryd.ntmps18
  go_wp2_with fail
  iterate 10 all_goals try first
    | (refine (in_lit s i 0 127 _ _ _ w rfl (by decide) (by decide)).mono ?_; rintro e w9 ⟨rfl, rfl⟩; go_wp2_with fail)
    | (refine (in_lit s i 194 223 _ _ _ w rfl (by decide) (by decide)).mono ?_; rintro e w9 ⟨rfl, rfl⟩; go_wp2_with fail)
    | (refine (in_lit s i 224 239 _ _ _ w rfl (by decide) (by decide)).mono ?_; rintro e w9 ⟨rfl, rfl⟩; go_wp2_with fail)
    | (refine (in_lit s i 240 244 _ _ _ w rfl (by decide) (by decide)).mono ?_; rintro e w9 ⟨rfl, rfl⟩; go_wp2_with fail)
    | (refine (tail_lit s (i + 1) 1 _ _ w (by omega) (by decide) (by omega) (by decide)).mono ?_; rintro e w9 ⟨rfl, rfl⟩; go_wp2_with fail)
    | (refine (tail_lit s (i + 2) 1 _ _ w (by omega) (by decide) (by omega) (by decide)).mono ?_; rintro e w9 ⟨rfl, rfl⟩; go_wp2_with fail)
    | (refine (tail_lit s (i + 2) 2 _ _ w (by omega) (by decide) (by omega) (by decide)).mono ?_; rintro e w9 ⟨rfl, rfl⟩; go_wp2_with fail)
    | (refine (second_any s i w (by first | exact inAt_lt (lo := 224) (hi := 239) (by assumption) | exact inAt_lt (lo := 240) (hi := 244) (by assumption)) (by omega)).mono ?_; rintro e w9 ⟨rfl, rfl⟩; go_wp2_with fail)
  all_goals go_ret
  all_goals refine ⟨retI ?_, rfl⟩
  all_goals rw [HS.out]
  all_goals simp [*]

end Go.Proofs.YtfiegofcjinmcaaDoor
