/- Replacing single bytes one after the other is writing each byte's reference. No program is imported. -/
import Derived.Test.YtmpdapjfndjicaaDoorEPln
import Derived.Lib.ReplaceLaws
import Derived.Lib.Replace
import Derived.Lib.CountLaws
import Derived.Lib.IndexMore
namespace Go.Proofs.YtmpdapjfndjicaaDoor.Ent
open Go

/-- All that the library replaces. -/
def ra (old new l : List UInt8) : List UInt8 := Lib.replaceK old new (Lib.count l old) l
theorem replaceAll_ra (old new l : List UInt8) (h : old ≠ new) : Lib.replaceAll l old new = ra old new l := by
  unfold Lib.replaceAll Lib.replace Lib.replaceNum ra
  rw [if_neg (by simpa using h), if_pos (.inl (by omega))]
theorem ra_miss {old new l : List UInt8} (h : Lib.index l old = -1) : ra old new l = l := by
  unfold ra
  rw [Lib.count_miss h, Lib.replaceK]
theorem ra_hit {old new l : List UInt8} {i : Nat} (ho : old ≠ []) (h : Lib.index l old = i) : ra old new l = l.take i ++ new ++ ra old new (l.drop (i + old.length)) := by
  unfold ra
  rw [Lib.count_hit ho h, Nat.add_comm 1, Lib.replaceK_hit old new _ l i h]
theorem ra_nil (old new : List UInt8) (ho : old ≠ []) : ra old new [] = [] := by
  refine ra_miss ?_
  unfold Lib.index
  cases old with
  | nil => exact absurd rfl ho
  | cons a r => rfl
theorem ra_pre {old new l : List UInt8} {b : UInt8} (ho : old ≠ []) (h : old.isPrefixOf (b :: l) = true) : ra old new (b :: l) = new ++ ra old new ((b :: l).drop old.length) := by
  have hi : Lib.index (b :: l) old = ((0 : Nat) : Int) := by unfold Lib.index; rw [if_pos h]; rfl
  rw [ra_hit ho hi, Nat.zero_add]; rfl
theorem ra_cons {old new l : List UInt8} {b : UInt8} (ho : old ≠ []) (h : old.isPrefixOf (b :: l) = false) : ra old new (b :: l) = b :: ra old new l := by
  have hix : Lib.index (b :: l) old = if Lib.index l old == -1 then -1 else Lib.index l old + 1 := by rw [Lib.index, h]; simp
  by_cases hm : Lib.index l old = -1
  · rw [ra_miss hm, ra_miss (by rw [hix, if_pos (beq_iff_eq.2 hm)])]
  · have hge := Lib.index_ge l old
    obtain ⟨j, hj⟩ : ∃ j : Nat, Lib.index l old = j := ⟨(Lib.index l old).toNat, by omega⟩
    have hix' : Lib.index (b :: l) old = ((j + 1 : Nat) : Int) := by rw [hix, if_neg (fun e => hm (beq_iff_eq.1 e)), hj]; omega
    rw [ra_hit ho hj, ra_hit ho hix', show j + 1 + old.length = (j + old.length) + 1 from by omega, List.drop_succ_cons, List.take_succ_cons]
    rfl
/-- One byte replaced. -/
def one (b : UInt8) (new : List UInt8) (c : UInt8) : List UInt8 := if c = b then new else [c]
theorem ra_one (b : UInt8) (new l : List UInt8) : ra [b] new l = l.flatMap (one b new) := by
  induction l with
  | nil => rw [ra_nil _ _ (by simp)]; rfl
  | cons c r ih =>
    rw [List.flatMap_cons]
    by_cases h : c = b
    · subst h
      rw [ra_pre (by simp) (by simp [List.isPrefixOf])]
      unfold one
      rw [if_pos rfl]
      show new ++ ra [c] new r = _
      rw [ih]; rfl
    · rw [ra_cons (by simp) (by simp [List.isPrefixOf, Ne.symm h]), ih]
      unfold one
      rw [if_neg h]; rfl
/-- What Escape and EscapeAttr both write. -/
def escB (c : UInt8) : List UInt8 := if c = 38 then [38, 97, 109, 112, 59] else if c = 13 then [38, 35, 49, 51, 59] else [c]
def escC (c : UInt8) : List UInt8 := if c = 38 then [38, 97, 109, 112, 59] else if c = 13 then [38, 35, 49, 51, 59] else if c = 60 then [38, 108, 116, 59] else [c]
theorem one_len (b : UInt8) (new : List UInt8) (h : new.length ≤ 6) (c : UInt8) : (one b new c).length ≤ 6 := by
  unfold one
  split
  · exact h
  · simp
theorem escB_len (c : UInt8) : (escB c).length ≤ 6 := by
  unfold escB
  repeat' split
  all_goals simp
theorem escC_len (c : UInt8) : (escC c).length ≤ 6 := by
  unfold escC
  repeat' split
  all_goals simp
theorem comp_eq (l : List UInt8) {f g h : UInt8 → List UInt8} (e : ∀ c, (f c).flatMap g = h c) : (l.flatMap f).flatMap g = l.flatMap h := by
  rw [List.flatMap_assoc]
  congr 1
  funext c
  exact e c
theorem comp_B (l : List UInt8) : (l.flatMap (one 38 [38, 97, 109, 112, 59])).flatMap (one 13 [38, 35, 49, 51, 59]) = l.flatMap escB := comp_eq l fun c => by
  by_cases h1 : c = 38
  · subst h1; decide
  by_cases h2 : c = 13
  · subst h2; decide
  simp [one, escB, h1, h2]
theorem comp_C (l : List UInt8) : (l.flatMap escB).flatMap (one 60 [38, 108, 116, 59]) = l.flatMap escC := comp_eq l fun c => by
  by_cases h1 : c = 38
  · subst h1; decide
  by_cases h2 : c = 13
  · subst h2; decide
  by_cases h3 : c = 60
  · subst h3; decide
  simp [one, escB, escC, h1, h2, h3]
theorem comp_D (l : List UInt8) : (l.flatMap escC).flatMap (one 62 [38, 103, 116, 59]) = l.flatMap esc := comp_eq l fun c => by
  by_cases h1 : c = 38
  · subst h1; decide
  by_cases h2 : c = 13
  · subst h2; decide
  by_cases h3 : c = 60
  · subst h3; decide
  by_cases h4 : c = 62
  · subst h4; decide
  simp [one, escC, esc, h1, h2, h3, h4]
theorem comp_A (l : List UInt8) : (l.flatMap escB).flatMap (one 34 [38, 113, 117, 111, 116, 59]) = l.flatMap escA := comp_eq l fun c => by
  by_cases h1 : c = 38
  · subst h1; decide
  by_cases h2 : c = 13
  · subst h2; decide
  by_cases h3 : c = 34
  · subst h3; decide
  simp [one, escB, escA, h1, h2, h3]

end Go.Proofs.YtmpdapjfndjicaaDoor.Ent
