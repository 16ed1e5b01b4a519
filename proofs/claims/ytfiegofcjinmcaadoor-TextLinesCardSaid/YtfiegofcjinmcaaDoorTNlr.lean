/- Replacing all line ends by the library's rule is replacing them byte by byte. No program is imported. -/
import Derived.Test.YtfiegofcjinmcaaDoorSpc
import Derived.Lib.ReplaceLaws
import Derived.Lib.Replace
import Derived.Lib.CountLaws
import Derived.Lib.IndexMore
namespace Go.Proofs.YtfiegofcjinmcaaDoor.Txt
open Go

/-- All that the library replaces. -/
def ra (old new l : List UInt8) : List UInt8 := Lib.replaceK old new (Lib.count l old) l
theorem replaceAll_ra (old new l : List UInt8) (h : old ≠ new) : Lib.replaceAll l old new = ra old new l := by
  unfold Lib.replaceAll Lib.replace Lib.replaceNum ra
  rw [if_neg (by simpa using h), if_pos (.inl (by omega))]
theorem ra_miss {old new l : List UInt8} (h : Lib.index l old = -1) : ra old new l = l := by
  unfold ra
  rw [Lib.count_miss h, Lib.replaceK]
theorem ra_hit {old new l : List UInt8} {i : Nat} (ho : old ≠ []) (h : Lib.index l old = i) : ra old new l = l.take i ++ new ++ ra old new (l.drop (i + old.length)) := by
  unfold ra
  rw [Lib.count_hit ho h, Nat.add_comm 1, Lib.replaceK_hit old new _ l i h]
theorem ra_nil (old new : List UInt8) (ho : old ≠ []) : ra old new [] = [] := by
  refine ra_miss ?_
  unfold Lib.index
  cases old with
  | nil => exact absurd rfl ho
  | cons a r => rfl
theorem ra_pre {old new l : List UInt8} {b : UInt8} (ho : old ≠ []) (h : old.isPrefixOf (b :: l) = true) : ra old new (b :: l) = new ++ ra old new ((b :: l).drop old.length) := by
  have hi : Lib.index (b :: l) old = ((0 : Nat) : Int) := by unfold Lib.index; rw [if_pos h]; rfl
  rw [ra_hit ho hi, Nat.zero_add]; rfl
theorem ra_cons {old new l : List UInt8} {b : UInt8} (ho : old ≠ []) (h : old.isPrefixOf (b :: l) = false) : ra old new (b :: l) = b :: ra old new l := by
  have hix : Lib.index (b :: l) old = if Lib.index l old == -1 then -1 else Lib.index l old + 1 := by rw [Lib.index, h]; simp
  by_cases hm : Lib.index l old = -1
  · rw [ra_miss hm, ra_miss (by rw [hix, if_pos (beq_iff_eq.2 hm)])]
  · have hge := Lib.index_ge l old
    obtain ⟨j, hj⟩ : ∃ j : Nat, Lib.index l old = j := ⟨(Lib.index l old).toNat, by omega⟩
    have hix' : Lib.index (b :: l) old = ((j + 1 : Nat) : Int) := by rw [hix, if_neg (fun e => hm (beq_iff_eq.1 e)), hj]; omega
    rw [ra_hit ho hj, ra_hit ho hix', show j + 1 + old.length = (j + old.length) + 1 from by omega, List.drop_succ_cons, List.take_succ_cons]
    rfl
theorem one_hit (r : List UInt8) : ra [13] [10] (13 :: r) = 10 :: ra [13] [10] r := ra_pre (by simp) (by simp [List.isPrefixOf])
theorem one_pass {c : UInt8} (h : c ≠ 13) (r : List UInt8) : ra [13] [10] (c :: r) = c :: ra [13] [10] r := ra_cons (by simp) (by simp [List.isPrefixOf, Ne.symm h])
theorem two_hit (r : List UInt8) : ra [13, 10] [10] (13 :: 10 :: r) = 10 :: ra [13, 10] [10] r := ra_pre (by simp) (by simp [List.isPrefixOf])
theorem two_end : ra [13, 10] [10] [13] = [13] := by
  rw [ra_cons (by simp) (by simp [List.isPrefixOf]), ra_nil _ _ (by simp)]
theorem two_alone {c : UInt8} (h : c ≠ 10) (r : List UInt8) : ra [13, 10] [10] (13 :: c :: r) = 13 :: ra [13, 10] [10] (c :: r) := ra_cons (by simp) (by simp [List.isPrefixOf, Ne.symm h])
theorem two_pass {c : UInt8} (h : c ≠ 13) (r : List UInt8) : ra [13, 10] [10] (c :: r) = c :: ra [13, 10] [10] r := ra_cons (by simp) (by simp [List.isPrefixOf, Ne.symm h])
theorem two_len (l : List UInt8) : (ra [13, 10] [10] l).length ≤ l.length := by
  induction hn : l.length using Nat.strongRecOn generalizing l with
  | _ n ih =>
    subst hn
    match l with
    | [] => rw [ra_nil _ _ (by simp)]; exact Nat.le_refl _
    | [c] =>
      by_cases h : c = 13
      · subst h; rw [two_end]; exact Nat.le_refl _
      · rw [two_pass h, ra_nil _ _ (by simp)]; exact Nat.le_refl _
    | c :: d :: r =>
      by_cases h : c = 13
      · subst h
        by_cases h2 : d = 10
        · subst h2
          rw [two_hit]
          have := ih r.length (by simp; omega) r rfl
          simp only [List.length_cons]; omega
        · rw [two_alone h2]
          have := ih (d :: r).length (by simp) (d :: r) rfl
          simp only [List.length_cons] at this ⊢; omega
      · rw [two_pass h]
        have := ih (d :: r).length (by simp) (d :: r) rfl
        simp only [List.length_cons] at this ⊢; omega

theorem newl_any {c : UInt8} (h : c ≠ 10) (p : Bool) (r : List UInt8) : newl p (c :: r) = newl false (c :: r) := by
  have e : ∀ q : Bool, newl q (c :: r) = if c = 10 ∧ q = true then newl false r else (if c = 13 then 10 else c) :: newl (c == 13) r := fun q => rfl
  have n1 : ¬ (c = 10 ∧ p = true) := fun x => h x.1
  have n2 : ¬ (c = 10 ∧ false = true) := fun x => h x.1
  rw [e p, e false, if_neg n1, if_neg n2]
theorem newl_ra (l : List UInt8) : ra [13] [10] (ra [13, 10] [10] l) = newl false l := by
  induction hn : l.length using Nat.strongRecOn generalizing l with
  | _ n ih =>
    subst hn
    match l with
    | [] => rw [ra_nil _ _ (by simp), ra_nil _ _ (by simp)]; rfl
    | c :: r =>
      by_cases h : c = 13
      · subst h
        match r with
        | [] => rw [two_end, one_hit, ra_nil _ _ (by simp)]; rfl
        | d :: r =>
          by_cases h2 : d = 10
          · subst h2
            rw [two_hit, one_pass (by decide), ih r.length (by simp; omega) r rfl]
            rfl
          · rw [two_alone h2, one_hit, ih (d :: r).length (by simp) (d :: r) rfl]
            have e : newl false (13 :: d :: r) = 10 :: newl true (d :: r) := rfl
            rw [e, newl_any h2 true r]
      · rw [two_pass h, one_pass h, ih r.length (by simp) r rfl]
        have hc : (c == 13) = false := by simpa using h
        conv => rhs; unfold newl
        rw [if_neg (by simp), if_neg h, hc]

end Go.Proofs.YtfiegofcjinmcaaDoor.Txt
