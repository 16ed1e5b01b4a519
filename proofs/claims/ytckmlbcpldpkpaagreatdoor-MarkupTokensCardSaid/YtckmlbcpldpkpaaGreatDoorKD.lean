/- The program's questions about a character return what the plain texts say. -/
import Derived.Deep.LoopGhost
import Derived.Shelf.Abstract
import Derived.OwnWalk
import Derived.Test.YtckmlbcpldpkpaaGreatDoorKA
import Derived.Test.YtckmlbcpldpkpaaGreatDoorKB
import Derived.Test.YtckmlbcpldpkpaaGreatDoorKC
namespace Go.Proofs.YtckmlbcpldpkpaaGreatDoor
open Go Go.RowKit
set_option linter.unusedVariables false

/-- A question about a character: called in the worlds of W it answers p and leaves the world as it is. -/
def Asks (g : Nat) (lb : Array Value) (p : UInt8 → Bool) (W : World → Prop) : Prop :=
  ∀ w, W w → ∀ c : UInt8, Calls Tryz.prog g (#[.int .u8 c.toNat] ++ lb) w fun e w' => e = .returned (.bool (p c)) ∧ w = w'
def Mk.gap (c : UInt8) : Bool := Txt.sp c || c.toNat == 47
def Mk.isEq (c : UInt8) : Bool := c.toNat == 61
def Mk.isQ (c : UInt8) : Bool := c.toNat == 34 || c.toNat == 39
def Mk.bareV (c : UInt8) : Bool := !Txt.sp c && !(c.toNat == 62)
theorem nat_beq (c : UInt8) (n : Nat) : ((c.toNat : Int) == (n : Int)) = (c.toNat == n) := by
  rw [Bool.eq_iff_iff, beq_iff_eq, beq_iff_eq]; omega

set_option maxHeartbeats 400000 in
theorem kletter_any (c : UInt8) (w : World) :
    Calls Tryz.prog 87 #[.int .u8 c.toNat] w fun e w' => e = .returned (.bool (Ent.isL c)) ∧ w = w' := by
  have hc := c.toNat_lt
  go_enter Tryz.func87, Tryz.ntmps87
  go_wp2_with fail
  all_goals go_ret
  all_goals refine ⟨retB ?_, rfl⟩
  all_goals unfold Ent.isL
  all_goals rw [Bool.eq_iff_iff]
  all_goals simp only [Bool.or_eq_true, Bool.and_eq_true, decide_eq_true_eq, true_iff, Bool.false_eq_true, false_iff]
  all_goals omega

set_option maxHeartbeats 400000 in
theorem kspace_any (c : UInt8) (w : World) :
    Calls Tryz.prog 105 #[.int .u8 c.toNat] w fun e w' => e = .returned (.bool (Txt.sp c)) ∧ w = w' := cspace_any c w

set_option maxHeartbeats 400000 in
theorem kgap_any (c : UInt8) (w : World) :
    Calls Tryz.prog 108 #[.int .u8 c.toNat] w fun e w' => e = .returned (.bool (Mk.gap c)) ∧ w = w' := by
  have hs := cspace_any c w
  cases h : Txt.sp c with
  | true =>
    rw [h] at hs
    have HG := Lib.hid (show Mk.gap c = true by unfold Mk.gap; rw [h]; rfl)
    clear h
    go_enter Tryz.func108, Tryz.ntmps108
    go_wp2_with (go_at_call 105; refine hs.mono ?_; rintro e w' ⟨rfl, rfl⟩)
    go_ret
    exact ⟨retB HG.out.symm, rfl⟩
  | false =>
    rw [h] at hs
    have HG := Lib.hid (show Mk.gap c = ((c.toNat : Int) == 47) by unfold Mk.gap; rw [h]; exact (nat_beq c 47).symm)
    clear h
    go_enter Tryz.func108, Tryz.ntmps108
    go_wp2_with (go_at_call 105; refine hs.mono ?_; rintro e w' ⟨rfl, rfl⟩)
    go_ret
    exact ⟨retB HG.out.symm, rfl⟩

set_option maxHeartbeats 400000 in
theorem kends_any (c : UInt8) (w : World) :
    Calls Tryz.prog 99 #[.int .u8 c.toNat] w fun e w' => e = .returned (.bool (Mk.stopC c)) ∧ w = w' := by
  have hs := kgap_any c w
  cases h : Mk.gap c with
  | true =>
    rw [h] at hs
    have HG := Lib.hid (show Mk.stopC c = true by unfold Mk.stopC; unfold Mk.gap at h; rw [h]; rfl)
    clear h
    go_enter Tryz.func99, Tryz.ntmps99
    go_wp2_with (go_at_call 108; refine hs.mono ?_; rintro e w' ⟨rfl, rfl⟩)
    go_ret
    exact ⟨retB HG.out.symm, rfl⟩
  | false =>
    rw [h] at hs
    have HG := Lib.hid (show Mk.stopC c = ((c.toNat : Int) == 62) by unfold Mk.stopC; unfold Mk.gap at h; rw [h]; exact (nat_beq c 62).symm)
    clear h
    go_enter Tryz.func99, Tryz.ntmps99
    go_wp2_with (go_at_call 108; refine hs.mono ?_; rintro e w' ⟨rfl, rfl⟩)
    go_ret
    exact ⟨retB HG.out.symm, rfl⟩

set_option maxHeartbeats 400000 in
theorem ktag_any (c : UInt8) (w : World) :
    Calls Tryz.prog 107 #[.int .u8 c.toNat] w fun e w' => e = .returned (.bool (!Mk.stopC c)) ∧ w = w' := by
  have hs := kends_any c w
  go_enter Tryz.func107, Tryz.ntmps107
  go_wp2_with (go_at_call 99; refine hs.mono ?_; rintro e w' ⟨rfl, rfl⟩)
  go_ret
  exact ⟨rfl, rfl⟩

set_option maxHeartbeats 400000 in
theorem kequal_any (c : UInt8) (w : World) :
    Calls Tryz.prog 123 #[.int .u8 c.toNat] w fun e w' => e = .returned (.bool (Mk.isEq c)) ∧ w = w' := by
  have HG := Lib.hid (nat_beq c 61)
  go_enter Tryz.func123, Tryz.ntmps123
  go_wp2_with fail
  go_ret
  exact ⟨retB HG.out, rfl⟩

set_option maxHeartbeats 400000 in
theorem kattr_any (c : UInt8) (w : World) :
    Calls Tryz.prog 124 #[.int .u8 c.toNat] w fun e w' => e = .returned (.bool (Mk.inName c)) ∧ w = w' := by
  have hs := kends_any c w
  have hq := kequal_any c w
  cases h : Mk.stopC c with
  | true =>
    rw [h] at hs
    have HG := Lib.hid (show Mk.inName c = false by unfold Mk.inName; rw [h]; rfl)
    clear h
    go_enter Tryz.func124, Tryz.ntmps124
    go_wp2_with (go_at_call 99; refine hs.mono ?_; rintro e w' ⟨rfl, rfl⟩)
    go_ret
    exact ⟨retB HG.out.symm, rfl⟩
  | false =>
    rw [h] at hs
    have HG := Lib.hid (show Mk.inName c = !Mk.isEq c by unfold Mk.inName Mk.isEq; rw [h]; rfl)
    clear h
    go_enter Tryz.func124, Tryz.ntmps124
    go_wp2_with (first | (go_at_call 99; refine hs.mono ?_; rintro e w' ⟨rfl, rfl⟩) | (go_at_call 123; refine hq.mono ?_; rintro e w' ⟨rfl, rfl⟩))
    go_ret
    exact ⟨retB HG.out.symm, rfl⟩

set_option maxHeartbeats 400000 in
theorem kvalue_any (c : UInt8) (w : World) :
    Calls Tryz.prog 138 #[.int .u8 c.toNat] w fun e w' => e = .returned (.bool (Mk.bareV c)) ∧ w = w' := by
  have hs := cspace_any c w
  cases h : Txt.sp c with
  | true =>
    rw [h] at hs
    have HG := Lib.hid (show Mk.bareV c = false by unfold Mk.bareV; rw [h]; rfl)
    clear h
    go_enter Tryz.func138, Tryz.ntmps138
    go_wp2_with (go_at_call 105; refine hs.mono ?_; rintro e w' ⟨rfl, rfl⟩)
    go_ret
    exact ⟨retB HG.out.symm, rfl⟩
  | false =>
    rw [h] at hs
    have HG := Lib.hid (show Mk.bareV c = ((c.toNat : Int) != 62) by unfold Mk.bareV; rw [h]; show (true && !(c.toNat == 62)) = !((c.toNat : Int) == 62); rw [show ((c.toNat : Int) == 62) = (c.toNat == 62) from nat_beq c 62]; rfl)
    clear h
    go_enter Tryz.func138, Tryz.ntmps138
    go_wp2_with (go_at_call 105; refine hs.mono ?_; rintro e w' ⟨rfl, rfl⟩)
    go_ret
    exact ⟨retB HG.out.symm, rfl⟩

set_option maxHeartbeats 400000 in
theorem kquote_any (c : UInt8) (w : World) :
    Calls Tryz.prog 137 #[.int .u8 c.toNat] w fun e w' => e = .returned (.bool (Mk.isQ c)) ∧ w = w' := by
  have HG := Lib.hid (show Mk.isQ c = (((c.toNat : Int) == 34) || ((c.toNat : Int) == 39)) by unfold Mk.isQ; rw [show ((c.toNat : Int) == 34) = (c.toNat == 34) from nat_beq c 34, show ((c.toNat : Int) == 39) = (c.toNat == 39) from nat_beq c 39])
  have hc := c.toNat_lt
  go_enter Tryz.func137, Tryz.ntmps137
  go_wp2_with fail
  all_goals go_ret
  all_goals refine ⟨retB ?_, rfl⟩
  all_goals rw [HG.out]
  all_goals rw [Bool.eq_iff_iff]
  all_goals simp only [Bool.or_eq_true, beq_iff_eq, true_iff]
  all_goals omega

end Go.Proofs.YtckmlbcpldpkpaaGreatDoor

/- The closure that skips characters: what it returns, and where it stands then. -/
namespace Go.Proofs.YtckmlbcpldpkpaaGreatDoor
open Go Go.RowKit
set_option linter.unusedVariables false

/-- Where the closure stands: its two variables' blocks. -/
def Pos (w : World) (ba bs : Nat) (s : ByteArray) (i : Nat) : Prop := Whole w ba #[.int .i64 i] 3 ∧ Whole w bs #[.string s] 9
theorem Pos.apart {w : World} {ba bs : Nat} {s : ByteArray} {i : Nat} (h : Pos w ba bs s i) : bs ≠ ba := by
  refine Whole.unlike h.2 h.1 ?_
  decide
theorem Pos.put {w : World} {ba bs : Nat} {s : ByteArray} {i : Nat} (h : Pos w ba bs s i) (j : Nat) : Pos (w.setCell ⟨ba, 0, none⟩ (.int .i64 j)) ba bs s j :=
  ⟨h.1.put 0 _, h.2.other h.apart _⟩
/-- How many characters are skipped. -/
def Mk.run1 (p : UInt8 → Bool) (most : Nat) (l : List UInt8) : Nat := min most (l.takeWhile p).length
theorem run1_here {p : UInt8 → Bool} {l : List UInt8} {k : Nat} (hk : k ≤ (l.takeWhile p).length) (h : ∀ c r, l.drop k = c :: r → p c = false) : (l.takeWhile p).length = k := by
  induction l generalizing k with
  | nil => simp only [List.takeWhile_nil, List.length_nil] at hk ⊢; omega
  | cons a r ih =>
    by_cases ha : p a = true
    · rw [List.takeWhile_cons_of_pos ha] at hk ⊢
      cases k with
      | zero => have := h a r rfl; rw [ha] at this; cases this
      | succ k =>
        rw [List.length_cons] at hk ⊢
        rw [ih (by omega) (fun c t e => h c t e)]
    · rw [List.takeWhile_cons_of_neg ha] at hk ⊢
      simp only [List.length_nil] at hk ⊢
      omega
theorem run1_more {p : UInt8 → Bool} {l : List UInt8} {k : Nat} (hk : k ≤ (l.takeWhile p).length) {c : UInt8} {r : List UInt8} (h : l.drop k = c :: r) (hp : p c = true) : k + 1 ≤ (l.takeWhile p).length := by
  induction l generalizing k with
  | nil => simp at h
  | cons a t ih =>
    by_cases ha : p a = true
    · rw [List.takeWhile_cons_of_pos ha] at hk ⊢
      cases k with
      | zero => simp
      | succ k =>
        rw [List.length_cons] at hk ⊢
        have := ih (by omega) h
        omega
    · exfalso
      rw [List.takeWhile_cons_of_neg ha] at hk
      simp only [List.length_nil] at hk
      obtain rfl : k = 0 := by omega
      rw [List.drop_zero] at h
      obtain ⟨rfl, _⟩ := List.cons.inj h
      exact ha hp

set_option maxHeartbeats 1000000 in
theorem kskip_any (g : Nat) (lb : Array Value) (p : UInt8 → Bool) (W : World → Prop) (eg : ∀ args w, (callFunc g args).run Tryz.prog w = .ok (.enter g args) w) (hp : Asks g lb p W)
    (ba bs : Nat) (s : ByteArray) (i most : Nat) (w : World) (hs : s.size ≤ 20000) (hi : i ≤ s.size) (hm : most ≤ 9223372036854775807) (h : Pos w ba bs s i)
    (hW : ∀ w', w.grownBy w' (some ba) → W w') :
    Calls Tryz.prog 106 #[.int .i64 most, .func (.func g) #[] lb, .pointer (some ⟨ba, 0, none⟩), .pointer (some ⟨bs, 0, none⟩)] w fun e w' =>
      ∃ t, e = .returned (.string t) ∧ t.data.toList = (s.data.toList.drop i).take (Mk.run1 p most (s.data.toList.drop i)) ∧ Pos w' ba bs s (i + Mk.run1 p most (s.data.toList.drop i)) ∧ w.grownBy w' (some ba) := by
  have hc0 : w.cell? ⟨ba, 0, none⟩ = some (.int .i64 i) := h.1.cell 0
  have HP := Lib.hid (And.intro hp hW)
  clear hp hW
  go_enter Tryz.func106, Tryz.ntmps106
  go_wp2_with fail
  clear hc0
  go_loopg [] (s.size - i) (fun gg wr => ∃ k : Nat, k ≤ most ∧ k ≤ ((s.data.toList.drop i).takeWhile p).length ∧ i + k ≤ s.size ∧ s.size - (i + k) ≤ gg ∧ Pos wr ba bs s (i + k) ∧ w.grownBy wr (some ba))
  case atStart => exact ⟨0, Nat.zero_le _, Nat.zero_le _, hi, Nat.le_refl _, h, gb_of_below (Below.refl _ _) _⟩
  case round =>
    obtain ⟨k, hk, hkt, hki, hgg, hP, hg⟩ := hrel
    have hdone : (k = most ∨ ∀ c r, s.data.toList.drop (i + k) = c :: r → p c = false) → Mk.run1 p most (s.data.toList.drop i) = k := fun h => by
      unfold Mk.run1
      rcases h with rfl | h
      · exact Nat.min_eq_left hkt
      · rw [run1_here hkt (fun c r e => h c r (by rw [← List.drop_drop]; exact e))]
        exact Nat.min_eq_right hk
    have hx := Lib.hid (textract s i k)
    have hsl : ∀ W : World, (Instr.slice 9 (.string s) (some (.int .i64 i)) (some (.int .i64 ((i + k : Nat) : Int))) none).run Tryz.prog W = .ok (.string (s.extract i (i + k))) W := fun W => by
      rw [run_slice_string W _ s _ _ _ _ Tryz.underlying9 (by omega) (by omega) (by omega)]; rfl
    generalize s.extract i (i + k) = X at hsl hx
    have hmore : ∀ c r, s.data.toList.drop (i + k) = c :: r → p c = true → k + 1 ≤ ((s.data.toList.drop i).takeWhile p).length := fun c r e h => run1_more hkt (by rw [List.drop_drop]; exact e) h
    obtain ⟨j, hj⟩ : ∃ j, i + k = j := ⟨_, rfl⟩
    rw [hj] at hki hgg hP hdone hsl hmore
    have hca : wr.cell? ⟨ba, 0, none⟩ = some (.int .i64 (j : Int)) := hP.1.cell 0
    have hcs : wr.cell? ⟨bs, 0, none⟩ = some (.string s) := hP.2.cell 0
    have hfa : wr.frozen? ⟨ba, 0, none⟩ = false := hP.1.free 0
    have HK := Lib.hid (And.intro hk (And.intro hkt hj))
    have hij : i ≤ j := by omega
    by_cases hlt : j < s.size
    · have hlt' : (j : Int) < (s.size : Int) := by omega
      by_cases hmk : k < most
      · have hmk' : (j : Int) - (i : Int) < (most : Int) := by omega
        have hcall := HP.out.1 wr (HP.out.2 wr hg) s[j]
        have hd := drop_get s j hlt
        have hc256 := s[j].toNat_lt
        cases hq : p s[j] with
        | true =>
          rw [hq] at hcall
          have HM := Lib.hid (hmore _ _ hd hq)
          clear hdone hd hq hmore hk hkt hj hmk
          go_wp2_with fail
          refine hcall.mono ?_
          clear hcall
          rintro e w' ⟨rfl, rfl⟩
          go_wp2_with fail
          go_roundg (s.size - (j + 1))
          case rel => exact ⟨k + 1, by have := HK.out; omega, HM.out, by have := HK.out; omega, by have := HK.out; omega, by have := HK.out; rw [show i + (k + 1) = j + 1 from by omega]; exact hP.put (j + 1), gb_put hg 0 _⟩
          case measure => omega
        | false =>
          rw [hq] at hcall
          have HD := Lib.hid (hdone (.inr fun c r e => by rw [hd] at e; obtain ⟨rfl, _⟩ := List.cons.inj e; exact hq))
          clear hdone hd hq hmore hk hkt hj hmk
          go_wp2_with fail
          refine hcall.mono ?_
          clear hcall
          rintro e w' ⟨rfl, rfl⟩
          go_wp2_with fail
          go_ret
          exact ⟨X, rfl, by rw [HD.out]; exact hx.out, by rw [HD.out, HK.out.2.2]; exact hP, hg⟩
      · have hmk' : ¬ (j : Int) - (i : Int) < (most : Int) := by omega
        have HD := Lib.hid (hdone (.inl (by omega)))
        clear hdone hmore hk hkt hj hmk
        go_wp2_with fail
        go_ret
        exact ⟨X, rfl, by rw [HD.out]; exact hx.out, by rw [HD.out, HK.out.2.2]; exact hP, hg⟩
    · have hlt' : ¬ (j : Int) < (s.size : Int) := by omega
      have HD := Lib.hid (hdone (.inr fun c r e => by rw [drop_end s j hlt] at e; cases e))
      clear hdone hmore hk hkt hj
      go_wp2_with fail
      go_ret
      exact ⟨X, rfl, by rw [HD.out]; exact hx.out, by rw [HD.out, HK.out.2.2]; exact hP, hg⟩

end Go.Proofs.YtckmlbcpldpkpaaGreatDoor

/- The closure that skips one character, or all, at the program's questions. -/
namespace Go.Proofs.YtckmlbcpldpkpaaGreatDoor
open Go Go.RowKit
set_option linter.unusedVariables false

theorem dw_drop (p : UInt8 → Bool) : ∀ l : List UInt8, l.drop (l.takeWhile p).length = l.dropWhile p := by
  intro l
  induction l with
  | nil => rfl
  | cons a r ih =>
    by_cases ha : p a = true
    · rw [List.takeWhile_cons_of_pos ha, List.dropWhile_cons_of_pos ha, List.length_cons]; exact ih
    · rw [List.takeWhile_cons_of_neg ha, List.dropWhile_cons_of_neg ha]; rfl
theorem tw_len (p : UInt8 → Bool) (l : List UInt8) : (l.takeWhile p).length ≤ l.length := (List.takeWhile_prefix p).length_le
theorem tw_take (p : UInt8 → Bool) (l : List UInt8) : l.take (l.takeWhile p).length = l.takeWhile p := (List.prefix_iff_eq_take.1 (List.takeWhile_prefix p)).symm
theorem str_of_list {t : ByteArray} {l : List UInt8} (h : t.data.toList = l) : t = tstr l := by rw [← h]; exact (tstr_of t).symm

section
variable {g : Nat} {lb : Array Value} {p : UInt8 → Bool} {W : World → Prop} {ba bs : Nat} {s : ByteArray} {i : Nat} {w : World}

theorem kskip_hit (eg : ∀ args w, (callFunc g args).run Tryz.prog w = .ok (.enter g args) w) (hp : Asks g lb p W) (hs : s.size ≤ 20000) (h : Pos w ba bs s i) (hW : ∀ w', w.grownBy w' (some ba) → W w')
    (hi : i < s.size) (hc : p s[i] = true) :
    Calls Tryz.prog 106 #[.int .i64 1, .func (.func g) #[] lb, .pointer (some ⟨ba, 0, none⟩), .pointer (some ⟨bs, 0, none⟩)] w fun e w' =>
      e = .returned (.string ⟨#[s[i]]⟩) ∧ Pos w' ba bs s (i + 1) ∧ w.grownBy w' (some ba) := by
  have hk := kskip_any g lb p W eg hp ba bs s i 1 w hs (by omega) (by decide) h hW
  have hr : Mk.run1 p 1 (s.data.toList.drop i) = 1 := by
    unfold Mk.run1
    rw [drop_get s i hi, List.takeWhile_cons_of_pos hc]
    simp only [List.length_cons]; omega
  rw [hr] at hk
  refine hk.mono ?_
  rintro e w' ⟨t, rfl, ht, hP, hg⟩
  rw [drop_get s i hi] at ht
  refine ⟨?_, hP, hg⟩
  rw [str_of_list ht]; rfl
theorem kskip_miss (eg : ∀ args w, (callFunc g args).run Tryz.prog w = .ok (.enter g args) w) (hp : Asks g lb p W) (hs : s.size ≤ 20000) (h : Pos w ba bs s i) (hW : ∀ w', w.grownBy w' (some ba) → W w')
    (hi : i ≤ s.size) (hc : ∀ h : i < s.size, p s[i] = false) :
    Calls Tryz.prog 106 #[.int .i64 1, .func (.func g) #[] lb, .pointer (some ⟨ba, 0, none⟩), .pointer (some ⟨bs, 0, none⟩)] w fun e w' =>
      e = .returned (.string ⟨#[]⟩) ∧ Pos w' ba bs s i ∧ w.grownBy w' (some ba) := by
  have hk := kskip_any g lb p W eg hp ba bs s i 1 w hs hi (by decide) h hW
  have hr : Mk.run1 p 1 (s.data.toList.drop i) = 0 := by
    unfold Mk.run1
    by_cases hl : i < s.size
    · rw [drop_get s i hl, List.takeWhile_cons_of_neg (by rw [hc hl]; exact Bool.false_ne_true)]; rfl
    · rw [drop_end s i hl]; rfl
  rw [hr] at hk
  refine hk.mono ?_
  rintro e w' ⟨t, rfl, ht, hP, hg⟩
  refine ⟨?_, hP, hg⟩
  rw [str_of_list ht]; rfl
theorem kskip_all (eg : ∀ args w, (callFunc g args).run Tryz.prog w = .ok (.enter g args) w) (hp : Asks g lb p W) (hs : s.size ≤ 20000) (h : Pos w ba bs s i) (hW : ∀ w', w.grownBy w' (some ba) → W w')
    (hi : i ≤ s.size) :
    Calls Tryz.prog 106 #[.int .i64 9223372036854775807, .func (.func g) #[] lb, .pointer (some ⟨ba, 0, none⟩), .pointer (some ⟨bs, 0, none⟩)] w fun e w' =>
      e = .returned (.string (tstr ((s.data.toList.drop i).takeWhile p))) ∧ Pos w' ba bs s (i + ((s.data.toList.drop i).takeWhile p).length) ∧ w.grownBy w' (some ba) := by
  have hk := kskip_any g lb p W eg hp ba bs s i 9223372036854775807 w hs hi (Nat.le_refl _) h hW
  have hr : Mk.run1 p 9223372036854775807 (s.data.toList.drop i) = ((s.data.toList.drop i).takeWhile p).length := by
    unfold Mk.run1
    have h1 := tw_len p (s.data.toList.drop i)
    rw [List.length_drop] at h1
    have h2 : s.data.toList.length = s.size := rfl
    omega
  rw [hr] at hk
  refine hk.mono ?_
  rintro e w' ⟨t, rfl, ht, hP, hg⟩
  rw [tw_take] at ht
  refine ⟨?_, hP, hg⟩
  rw [str_of_list ht]
end

theorem asks_quote : Asks 137 #[] Mk.isQ (fun _ => True) := fun w _ c => kquote_any c w
theorem asks_value : Asks 138 #[] Mk.bareV (fun _ => True) := fun w _ c => kvalue_any c w
theorem asks_equal : Asks 123 #[] Mk.isEq (fun _ => True) := fun w _ c => kequal_any c w
theorem asks_attr : Asks 124 #[] Mk.inName (fun _ => True) := fun w _ c => kattr_any c w
theorem asks_space : Asks 105 #[] Txt.sp (fun _ => True) := fun w _ c => cspace_any c w
theorem asks_tag : Asks 107 #[] (fun c => !Mk.stopC c) (fun _ => True) := fun w _ c => ktag_any c w
theorem asks_gap : Asks 108 #[] Mk.gap (fun _ => True) := fun w _ c => kgap_any c w
theorem ent_quote : ∀ args w, (callFunc 137 args).run Tryz.prog w = .ok (.enter 137 args) w := enters_of Tryz.func137 (by kernel_rfl) rfl
theorem ent_value : ∀ args w, (callFunc 138 args).run Tryz.prog w = .ok (.enter 138 args) w := enters_of Tryz.func138 (by kernel_rfl) rfl
theorem ent_equal : ∀ args w, (callFunc 123 args).run Tryz.prog w = .ok (.enter 123 args) w := enters_of Tryz.func123 (by kernel_rfl) rfl
theorem ent_attr : ∀ args w, (callFunc 124 args).run Tryz.prog w = .ok (.enter 124 args) w := enters_of Tryz.func124 (by kernel_rfl) rfl
theorem ent_space : ∀ args w, (callFunc 105 args).run Tryz.prog w = .ok (.enter 105 args) w := enters_of Tryz.func105 (by kernel_rfl) rfl
theorem ent_tag : ∀ args w, (callFunc 107 args).run Tryz.prog w = .ok (.enter 107 args) w := enters_of Tryz.func107 (by kernel_rfl) rfl
theorem ent_gap : ∀ args w, (callFunc 108 args).run Tryz.prog w = .ok (.enter 108 args) w := enters_of Tryz.func108 (by kernel_rfl) rfl
theorem ent_quoted : ∀ args w, (callFunc 139 args).run Tryz.prog w = .ok (.enter 139 args) w := enters_of Tryz.func139 (by kernel_rfl) rfl

end Go.Proofs.YtckmlbcpldpkpaaGreatDoor

/- The program's readValue returns what the plain text says. -/
namespace Go.Proofs.YtckmlbcpldpkpaaGreatDoor
open Go Go.RowKit
set_option linter.unusedVariables false

/-- The closure over these two variables. -/
def skipF (ba bs : Nat) : Value := .func (.func 106) #[] #[.pointer (some ⟨ba, 0, none⟩), .pointer (some ⟨bs, 0, none⟩)]

theorem tw_find (q : UInt8) : ∀ l : List UInt8, Mk.find [q] l = if (l.takeWhile fun c => !(c == q)).length < l.length then some (l.takeWhile fun c => !(c == q)).length else none := by
  intro l
  induction l with
  | nil => rfl
  | cons c r ih =>
    by_cases h : c = q
    · subst h
      rw [Mk.find_here (by simp [List.isPrefixOf]), List.takeWhile_cons_of_neg (by simp), if_pos (by simp)]
      rfl
    · rw [Mk.find_next (by rw [Bool.eq_false_iff]; intro e; simp [List.isPrefixOf] at e; exact h e.symm), ih, List.takeWhile_cons_of_pos (by simpa using h)]
      simp only [List.length_cons, Nat.add_lt_add_iff_right]
      split <;> rfl

set_option maxHeartbeats 400000 in
theorem kquoted_any (q : UInt8) (bq : Nat) :
    Asks 139 #[.pointer (some ⟨bq, 0, none⟩)] (fun c => !(c == q)) (fun w => w.cell? ⟨bq, 0, none⟩ = some (.string ⟨#[q]⟩)) := by
  intro w hw c
  have HG := Lib.hid (show (!(c == q)) = ((c.toNat : Int) != (q.toNat : Int)) by
    show (!(c == q)) = !((c.toNat : Int) == (q.toNat : Int))
    rw [nat_beq c q.toNat]
    congr 1
    rw [Bool.eq_iff_iff, beq_iff_eq, beq_iff_eq, UInt8.toNat_inj])
  show Calls Tryz.prog 139 #[.int .u8 c.toNat, .pointer (some ⟨bq, 0, none⟩)] w _
  go_enter Tryz.func139, Tryz.ntmps139
  go_wp2_with fail
  go_ret
  exact ⟨retB HG.out.symm, rfl⟩

/-- Where a value ends: what the reading of it leaves. -/
def ValAt (s : ByteArray) (i j : Nat) (t : ByteArray) : Prop :=
  i ≤ j ∧ j ≤ s.size ∧ match Mk.value (s.data.toList.drop i) with
    | none => j = s.size
    | some p => t.data.toList = p.1 ∧ s.data.toList.drop j = p.2

set_option maxHeartbeats 1000000 in
theorem kreadvalue_any (ba bs : Nat) (s : ByteArray) (i : Nat) (w : World) (hs : s.size ≤ 20000) (hi : i ≤ s.size) (h : Pos w ba bs s i) :
    Calls Tryz.prog 125 #[skipF ba bs] w fun e w' => ∃ t j, e = .returned (.string t) ∧ (ValAt s i j t ∧ t.size ≤ s.size) ∧ Pos w' ba bs s j ∧ w.grownBy w' (some ba) := by
  unfold skipF
  have hT : ∀ w' : World, w.grownBy w' (some ba) → True := fun _ _ => trivial
  by_cases hq : ∃ h : i < s.size, Mk.isQ s[i] = true
  · obtain ⟨hl, hq⟩ := hq
    have h1 := kskip_hit ent_quote asks_quote hs h hT hl hq
    have hd := drop_get s i hl
    generalize s[i] = q at hq h1 hd
    have hval : Mk.value (s.data.toList.drop i) = (Mk.find [q] (s.data.toList.drop (i + 1))).map (fun k => ((s.data.toList.drop (i + 1)).take k, (s.data.toList.drop (i + 1)).drop (k + 1))) := by
      rw [hd]
      unfold Mk.isQ at hq
      simp only [Bool.or_eq_true, beq_iff_eq] at hq
      exact if_pos hq
    have HV := Lib.hid (And.intro hval hq)
    clear hval hd
    have hnb : ((⟨#[q]⟩ : ByteArray).toList == []) = false := by rw [Lib.toList_data]; rfl
    have hq1 : (⟨#[q]⟩ : ByteArray).size = 1 := rfl
    go_enter Tryz.func125, Tryz.ntmps125
    go_wp2_with fail
    refine h1.mono ?_
    clear h1
    rintro e w1 ⟨rfl, hP1, hg1⟩
    have hP2 : Pos (w1.alloc (.cells #[.string ⟨#[q]⟩] 9)) ba bs s (i + 1) := ⟨hP1.1.alloc _, hP1.2.alloc _⟩
    have hQ2 : Whole (w1.alloc (.cells #[.string ⟨#[q]⟩] 9)) w1.heap.size #[.string ⟨#[q]⟩] 9 := Whole.new _ _ _
    have hne : some w1.heap.size ≠ some ba := fun e => by
      have := hP1.1.lt
      injection e with e
      omega
    have h2 := kskip_all ent_quoted (kquoted_any q w1.heap.size) hs hP2 (fun w' hg => (hQ2.grown hg hne).cell 0) hl
    have hg2 := gb_alloc hg1 (.cells #[.string ⟨#[q]⟩] 9)
    have hle := tw_len (fun c => !(c == q)) (s.data.toList.drop (i + 1))
    have hdw := dw_drop (fun c => !(c == q)) (s.data.toList.drop (i + 1))
    rw [List.drop_drop] at hdw
    rw [List.length_drop] at hle
    have hfind := tw_find q (s.data.toList.drop (i + 1))
    have htk := tw_take (fun c => !(c == q)) (s.data.toList.drop (i + 1))
    rw [List.length_drop] at hfind
    have hsl : s.data.toList.length = s.size := rfl
    rw [hsl] at hle hfind
    obtain ⟨V, hV⟩ : ∃ V, (s.data.toList.drop (i + 1)).takeWhile (fun c => !(c == q)) = V := ⟨_, rfl⟩
    rw [hV] at h2 hle hdw hfind htk
    have hhead : ∀ h : i + 1 + V.length < s.size, s[i + 1 + V.length] = q := fun h => by
      have hd := drop_get s (i + 1 + V.length) h
      rw [hdw] at hd
      have := List.head?_dropWhile_not (fun c => !(c == q)) (s.data.toList.drop (i + 1))
      rw [hd] at this
      simpa using this
    have HF := Lib.hid (And.intro hfind (And.intro htk hle))
    clear hV hdw hfind hsl hT htk hle hq hQ2 hne
    go_wp2_with fail
    refine h2.mono ?_
    clear h2
    rintro e w2 ⟨rfl, hP3, hg3⟩
    have hle := HF.out.2.2
    by_cases hend : i + 1 + V.length < s.size
    · have h3 := kskip_hit ent_quote asks_quote hs hP3 (fun _ _ => trivial) hend (by rw [hhead hend]; exact HV.out.2)
      clear hhead
      go_wp2_with fail
      refine h3.mono ?_
      clear h3
      rintro e w3 ⟨rfl, hP4, hg4⟩
      go_wp2_with fail
      go_ret
      refine ⟨_, i + 1 + V.length + 1, rfl, ⟨⟨by omega, by omega, ?_⟩, by rw [tstr_size]; omega⟩, hP4, gb_trans (gb_trans hg2 hg3) hg4⟩
      rw [HV.out.1, HF.out.1, if_pos (by omega)]
      refine ⟨?_, ?_⟩
      · rw [tstr_data]; exact HF.out.2.1.symm
      · show _ = (s.data.toList.drop (i + 1)).drop (V.length + 1)
        rw [List.drop_drop, Nat.add_assoc (i + 1)]
    · have h3 := kskip_miss ent_quote asks_quote hs hP3 (fun _ _ => trivial) (by omega) (fun h => absurd h hend)
      clear hhead
      go_wp2_with fail
      refine h3.mono ?_
      clear h3
      rintro e w3 ⟨rfl, hP4, hg4⟩
      go_wp2_with fail
      go_ret
      refine ⟨_, i + 1 + V.length, rfl, ⟨⟨by omega, by omega, ?_⟩, by rw [tstr_size]; omega⟩, hP4, gb_trans (gb_trans hg2 hg3) hg4⟩
      rw [HV.out.1, HF.out.1, if_neg (by omega)]
      show _ = _
      omega
  · have hmiss : ∀ h : i < s.size, Mk.isQ s[i] = false := fun h => Bool.eq_false_iff.2 fun e => hq ⟨h, e⟩
    have h1 := kskip_miss ent_quote asks_quote hs h hT hi hmiss
    have hval : Mk.value (s.data.toList.drop i) = some ((s.data.toList.drop i).takeWhile Mk.bareV, (s.data.toList.drop i).dropWhile Mk.bareV) := by
      by_cases hl : i < s.size
      · have hd := drop_get s i hl
        have hm := hmiss hl
        rw [hd]
        unfold Mk.isQ at hm
        simp only [Bool.or_eq_false_iff, beq_eq_false_iff_ne] at hm
        exact if_neg (by omega)
      · rw [drop_end s i hl]; rfl
    have HV := Lib.hid hval
    clear hval hmiss hq
    go_enter Tryz.func125, Tryz.ntmps125
    go_wp2_with fail
    refine h1.mono ?_
    clear h1
    rintro e w1 ⟨rfl, hP1, hg1⟩
    have hP2 : Pos (w1.alloc (.cells #[.string ⟨#[]⟩] 9)) ba bs s i := ⟨hP1.1.alloc _, hP1.2.alloc _⟩
    have h2 := kskip_all ent_value asks_value hs hP2 (fun _ _ => trivial) hi
    have hg2 := gb_alloc hg1 (.cells #[.string ⟨#[]⟩] 9)
    have hle := tw_len Mk.bareV (s.data.toList.drop i)
    have hdw := dw_drop Mk.bareV (s.data.toList.drop i)
    rw [List.drop_drop] at hdw
    rw [List.length_drop] at hle
    have hsl : s.data.toList.length = s.size := rfl
    have HD := Lib.hid (And.intro hdw (show ((s.data.toList.drop i).takeWhile Mk.bareV).length ≤ s.size - i by omega))
    clear hdw hle hsl hT
    obtain ⟨B, hB⟩ : ∃ B, (s.data.toList.drop i).takeWhile Mk.bareV = B := ⟨_, rfl⟩
    rw [hB] at h2 HD HV
    clear hB
    go_wp2_with fail
    refine h2.mono ?_
    clear h2
    rintro e w2 ⟨rfl, hP3, hg3⟩
    go_wp2_with fail
    go_ret
    refine ⟨_, i + B.length, rfl, ⟨⟨by omega, by have := HD.out.2; omega, ?_⟩, by have := HD.out.2; rw [tstr_size]; omega⟩, hP3, gb_trans hg2 hg3⟩
    rw [HV.out]
    exact ⟨tstr_data _, HD.out.1⟩

end Go.Proofs.YtckmlbcpldpkpaaGreatDoor

/- The program's readAttr returns what the plain text says. -/
namespace Go.Proofs.YtckmlbcpldpkpaaGreatDoor
open Go Go.RowKit
set_option linter.unusedVariables false

theorem Pos.below {w w' : World} {ba bs : Nat} {s : ByteArray} {i : Nat} (h : Pos w ba bs s i) (hb : Below w.heap.size w w') : Pos w' ba bs s i :=
  ⟨h.1.below hb h.1.lt, h.2.below hb h.2.lt⟩
theorem Pos.alloc {w : World} {ba bs : Nat} {s : ByteArray} {i : Nat} (h : Pos w ba bs s i) (o : Obj) : Pos (w.alloc o) ba bs s i := ⟨h.1.alloc o, h.2.alloc o⟩
/-- Where an attribute ends. -/
def AttAt (s : ByteArray) (i j : Nat) (nm v : List UInt8) : Prop :=
  i < j ∧ j ≤ s.size ∧ match Mk.attr (s.data.toList.drop i) with
    | none => j = s.size
    | some p => nm = p.1 ∧ v = p.2.1 ∧ s.data.toList.drop j = p.2.2
/-- A block that was not there is written. -/
theorem gb_new {w w' : World} {row : Option Nat} (h : w.grownBy w' row) (i : Nat) (v : Value) : w.grownBy (w'.setCell ⟨w.heap.size, i, none⟩ v) row :=
  ⟨h.os, h.tape, h.output, by simpa [World.setCell] using h.size, fun k hk hn => (heap_setCell_other w' _ k v (by show k ≠ w.heap.size; omega)).trans (h.block k hk hn)⟩
theorem decode_small {l : List UInt8} {n : Nat} (h : l.length ≤ n) : (Ent.decode l).length ≤ 4 * n := by
  have := Ent.decode_len l
  omega

/-- The first character of an attribute's name may be =. -/
theorem kskip_head {ba bs : Nat} {s : ByteArray} {i : Nat} {w : World} (hs : s.size ≤ 20000) (hi : i < s.size) (h : Pos w ba bs s i) (hc : Mk.stopC s[i] = false) :
    Calls Tryz.prog 106 #[.int .i64 1, .func (.func 123) #[] #[], .pointer (some ⟨ba, 0, none⟩), .pointer (some ⟨bs, 0, none⟩)] w fun e w' =>
      ∃ H a, e = .returned (.string (tstr H)) ∧ Pos w' ba bs s a ∧ w.grownBy w' (some ba) ∧ a ≤ s.size ∧ H.length ≤ 1 ∧
        H ++ (s.data.toList.drop a).takeWhile Mk.inName = s[i] :: (s.data.toList.drop (i + 1)).takeWhile Mk.inName ∧
        a + ((s.data.toList.drop a).takeWhile Mk.inName).length = i + 1 + ((s.data.toList.drop (i + 1)).takeWhile Mk.inName).length := by
  cases hq : Mk.isEq s[i] with
  | true =>
    refine (kskip_hit ent_equal asks_equal hs h (fun _ _ => trivial) hi hq).mono ?_
    rintro e w' ⟨rfl, hP, hg⟩
    exact ⟨[s[i]], i + 1, rfl, hP, hg, hi, Nat.le_refl _, rfl, rfl⟩
  | false =>
    refine (kskip_miss ent_equal asks_equal hs h (fun _ _ => trivial) (by omega) (fun _ => hq)).mono ?_
    rintro e w' ⟨rfl, hP, hg⟩
    have hin : Mk.inName s[i] = true := by
      unfold Mk.inName
      unfold Mk.isEq at hq
      rw [hc, hq]; rfl
    have e : (s.data.toList.drop i).takeWhile Mk.inName = s[i] :: (s.data.toList.drop (i + 1)).takeWhile Mk.inName := by
      rw [drop_get s i hi, List.takeWhile_cons_of_pos hin]
    refine ⟨[], i, rfl, hP, hg, by omega, Nat.zero_le _, e, ?_⟩
    rw [e, List.length_cons]; omega
theorem attr_none {c : UInt8} {r D : List UInt8} (hD : (r.dropWhile Mk.inName).dropWhile Txt.sp = D) (h : ∀ e t, D = e :: t → e.toNat ≠ 61) : Mk.attr (c :: r) = some ((c :: r.takeWhile Mk.inName).map Txt.lo, [], D) := by
  unfold Mk.attr
  simp only
  rw [hD]
  cases D with
  | nil => rfl
  | cons e t => exact if_neg (h e t rfl)
theorem attr_eq {c e : UInt8} {r t : List UInt8} (hD : (r.dropWhile Mk.inName).dropWhile Txt.sp = e :: t) (h : e.toNat = 61) : Mk.attr (c :: r) = (Mk.value (t.dropWhile Txt.sp)).map (fun p => ((c :: r.takeWhile Mk.inName).map Txt.lo, Ent.decode p.1, p.2)) := by
  unfold Mk.attr
  simp only
  rw [hD]
  exact if_pos h

set_option maxRecDepth 100000 in
set_option maxHeartbeats 1000000 in
theorem kreadattr_any (ba bs : Nat) (s : ByteArray) (i : Nat) (w : World) (hs : s.size ≤ 20000) (hi : i < s.size) (h : Pos w ba bs s i) (hc : Mk.stopC s[i] = false)
    (hE : ∀ w', w.grownBy w' (some ba) → Env w') :
    Calls Tryz.prog 110 #[skipF ba bs] w fun e w' => ∃ nm v j, e = .returned (.agg #[.string (tstr nm), .string (tstr v)]) ∧ AttAt s i j nm v ∧ Pos w' ba bs s j ∧ w.grownBy w' (some ba) := by
  unfold skipF
  have hb0 : Whole (w.alloc (.cells #[.string ⟨#[]⟩, .string ⟨#[]⟩] 39)) w.heap.size #[.string ⟨#[]⟩, .string ⟨#[]⟩] 39 := Whole.new _ _ _
  have hne : some w.heap.size ≠ some ba := fun e => by
    have := h.1.lt
    injection e with e
    omega
  have h1 := kskip_head hs hi (h.alloc (.cells #[.string ⟨#[]⟩, .string ⟨#[]⟩] 39)) hc
  have hg0 : w.grownBy (w.alloc (.cells #[.string ⟨#[]⟩, .string ⟨#[]⟩] 39)) (some ba) := World.grownBy_alloc _ _ _
  have hd0 := drop_get s i hi
  have HE := Lib.hid (And.intro hE (And.intro hd0 (And.intro hc hi)))
  generalize s[i] = c at h1 hd0 HE
  have hlen0 := tw_len Mk.inName (s.data.toList.drop (i + 1))
  have hdw0 := dw_drop Mk.inName (s.data.toList.drop (i + 1))
  rw [List.drop_drop] at hdw0
  rw [List.length_drop] at hlen0
  have hsl : s.data.toList.length = s.size := rfl
  rw [hsl] at hlen0
  obtain ⟨N, hN⟩ : ∃ N, (s.data.toList.drop (i + 1)).takeWhile Mk.inName = N := ⟨_, rfl⟩
  rw [hN] at h1 hlen0 hdw0
  have hdw1 := dw_drop Txt.sp (s.data.toList.drop (i + 1 + N.length))
  have hlen1 := tw_len Txt.sp (s.data.toList.drop (i + 1 + N.length))
  rw [List.drop_drop] at hdw1
  rw [List.length_drop, hsl] at hlen1
  obtain ⟨M, hM⟩ : ∃ M, (s.data.toList.drop (i + 1 + N.length)).takeWhile Txt.sp = M := ⟨_, rfl⟩
  rw [hM] at hdw1 hlen1
  obtain ⟨k2, hk2⟩ : ∃ k2, i + 1 + N.length + M.length = k2 := ⟨_, rfl⟩
  rw [hk2] at hdw1
  have hk2s : k2 ≤ s.size := by omega
  have hik : i < k2 := by omega
  have HN := Lib.hid (And.intro hN (And.intro hdw0 (And.intro hdw1 (And.intro hk2 hM))))
  have hNs : N.length ≤ 20000 := by omega
  clear hE hd0 hc hN hM hdw0 hdw1 hk2 h hsl
  go_enter Tryz.func110, Tryz.ntmps110
  go_wp2_with fail
  refine h1.mono ?_
  clear h1
  rintro e w1 ⟨H, a, rfl, hP1, hg1, ha, hH, hcat, hpos⟩
  have h2 := kskip_all ent_attr asks_attr hs hP1 (fun _ _ => trivial) ha
  rw [hpos] at h2
  generalize (s.data.toList.drop a).takeWhile Mk.inName = T at h2 hcat hpos
  have hTl : T.length ≤ 20000 := by omega
  have HC := Lib.hid hcat
  have hb1 := hb0.grown hg1 hne
  have hg01 := gb_trans hg0 hg1
  clear hcat hpos hb0 hg0 hg1 hP1
  go_wp2_with fail
  refine h2.mono ?_
  clear h2
  rintro e w2 ⟨rfl, hP2, hg2⟩
  have had : ∀ W : World, (Op.stringOp .add (tstr H) (tstr T)).run Tryz.prog W = .ok (.string (tstr (c :: N))) W := fun W => by
    rw [run_string_add_sum W _ _ (by rw [tstr_size, tstr_size]; omega), tstr_append, HC.out]
  have hb2 := hb1.grown hg2 hne
  have hg02 := gb_trans hg01 hg2
  have h3 := tlower_any (tstr (c :: N)) w2 (by rw [tstr_size, List.length_cons]; omega)
  rw [tstr_data] at h3
  clear hb1 hg01 hg2 HC
  go_wp2_with fail
  refine h3.mono ?_
  clear h3
  rintro e w3 ⟨rfl, hbe3⟩
  have hP3 := hP2.below hbe3
  have hb3 := hb2.below hbe3 hb2.lt
  have hg03 := gb_trans hg02 (gb_of_below hbe3 (some ba))
  have h4 := kskip_all ent_space asks_space hs hP3 (fun _ _ => trivial) (by omega)
  rw [HN.out.2.2.2.2, HN.out.2.2.2.1] at h4
  obtain ⟨A, hA⟩ : ∃ A, (c :: N).map Txt.lo = A := ⟨_, rfl⟩
  rw [hA]
  have HA := Lib.hid hA
  clear hb2 hg02 hbe3 hP2 hA
  go_wp2_with fail
  refine h4.mono ?_
  clear h4
  rintro e w4 ⟨rfl, hP4, hg4⟩
  have hb4 := hb3.grown hg4 hne
  have hg04 := gb_trans hg03 hg4
  clear hb3 hg03 hg4 hP3
  have hattr : ∀ D, s.data.toList.drop k2 = D → ((s.data.toList.drop (i + 1)).dropWhile Mk.inName).dropWhile Txt.sp = D := fun D hD => by
    rw [← HN.out.2.1, ← hD, HN.out.2.2.1]
  have HAt := Lib.hid hattr
  clear hattr
  by_cases heq : ∃ h : k2 < s.size, Mk.isEq s[k2] = true
  · obtain ⟨hl2, heq⟩ := heq
    have h5 := kskip_hit ent_equal asks_equal hs hP4 (fun _ _ => trivial) hl2 heq
    have hd2 := drop_get s k2 hl2
    generalize s[k2] = e2 at h5 heq hd2
    have hat := attr_eq (c := c) (HAt.out _ hd2) (by unfold Mk.isEq at heq; exact beq_iff_eq.1 heq)
    rw [HN.out.1] at hat
    have hdw3 := dw_drop Txt.sp (s.data.toList.drop (k2 + 1))
    have hlen3 := tw_len Txt.sp (s.data.toList.drop (k2 + 1))
    rw [List.drop_drop] at hdw3
    rw [List.length_drop, show s.data.toList.length = s.size from rfl] at hlen3
    obtain ⟨L, hL⟩ : ∃ L, (s.data.toList.drop (k2 + 1)).takeWhile Txt.sp = L := ⟨_, rfl⟩
    rw [hL] at hdw3 hlen3
    rw [← hdw3] at hat
    have HT := Lib.hid (And.intro hat hL)
    have hnb : ((⟨#[e2]⟩ : ByteArray).toList == []) = false := by rw [Lib.toList_data]; rfl
    have hq1 : (⟨#[e2]⟩ : ByteArray).size = 1 := rfl
    clear hat hL hdw3 hd2 heq
    go_wp2_with fail
    refine h5.mono ?_
    clear h5
    rintro e w5 ⟨rfl, hP5, hg5⟩
    have hb5 := hb4.grown hg5 hne
    have hg05 := gb_trans hg04 hg5
    have h6 := kskip_all ent_space asks_space hs hP5 (fun _ _ => trivial) hl2
    rw [HT.out.2] at h6
    clear hb4 hg04 hg5 hP4
    go_wp2_with fail
    refine h6.mono ?_
    clear h6
    rintro e w6 ⟨rfl, hP6, hg6⟩
    have hb6 := hb5.grown hg6 hne
    have hg06 := gb_trans hg05 hg6
    clear hb5 hg05 hg6 hP5
    obtain ⟨k3, hk3⟩ : ∃ k3, k2 + 1 + L.length = k3 := ⟨_, rfl⟩
    rw [hk3] at hP6
    have HK3 := Lib.hid hk3
    have hk3s : k3 ≤ s.size := by omega
    have h7 := kreadvalue_any ba bs s k3 w6 hs hk3s hP6
    unfold skipF at h7
    have hk23 : k2 < k3 := by omega
    clear hk3
    go_wp2_with fail
    refine h7.mono ?_
    clear h7
    rintro e w7 ⟨V, j, rfl, hV, hP7, hg7⟩
    have hb7 := hb6.grown hg7 hne
    have hg07 := gb_trans hg06 hg7
    obtain ⟨hV, hVs⟩ := hV
    have h8 := tdecode_any V w7 (HE.out.1 w7 hg07).tab (by omega)
    have HVV := Lib.hid hV
    clear hb6 hg06 hg7 hP6 hV
    go_wp2_with fail
    refine h8.mono ?_
    clear h8
    rintro e w8 ⟨rfl, hbe8⟩
    have hP8 := hP7.below hbe8
    have hb8 := hb7.below hbe8 hb7.lt
    have hg08 := gb_trans hg07 (gb_of_below hbe8 (some ba))
    obtain ⟨D, hD⟩ : ∃ D, Ent.decode V.data.toList = D := ⟨_, rfl⟩
    rw [hD]
    have HD := Lib.hid hD
    have hc8 : w8.cell? ⟨w.heap.size, 0, none⟩ = some (.string ⟨#[]⟩) := hb8.cell 0
    have hc8b : w8.cell? ⟨w.heap.size, 1, none⟩ = some (.string ⟨#[]⟩) := hb8.cell 1
    have hf8 := hb8.free 0
    have hf8b := hb8.free 1
    clear hb7 hg07 hbe8 hP7 hD
    go_wp2_with fail
    have hb9 : Whole ((w8.setCell ⟨w.heap.size, 0, none⟩ (.string (tstr A))).setCell ⟨w.heap.size, 1, none⟩ (.string (tstr D))) w.heap.size #[.string (tstr A), .string (tstr D)] 39 := (hb8.put 0 _).put 1 _
    have hc9 := hb9.cell 0
    have hc9b := hb9.cell 1
    have hnb2 : ba ≠ w.heap.size := fun e => hne (by rw [e])
    have hns : bs ≠ w.heap.size := Whole.unlike hP8.2 hb8 (by decide)
    have hP9 : Pos ((w8.setCell ⟨w.heap.size, 0, none⟩ (.string (tstr A))).setCell ⟨w.heap.size, 1, none⟩ (.string (tstr D))) ba bs s j := ⟨(hP8.1.other hnb2 _).other hnb2 _, (hP8.2.other hns _).other hns _⟩
    have hg9 := gb_new (gb_new hg08 0 (.string (tstr A))) 1 (.string (tstr D))
    have hjj := HVV.out.1
    have hjs := HVV.out.2.1
    clear hb8 hb9
    refine bodyPost_ret (v := .agg #[.string (tstr A), .string (tstr D)]) ?_ rfl ⟨A, D, j, rfl, ⟨by omega, hjs, ?_⟩, hP9, hg9⟩
    · simp [results, Tryz.f110, go_sem, hc9, hc9b]
    · rw [HE.out.2.1, HT.out.1]
      have h3 := HVV.out.2.2
      rw [show k2 + 1 + L.length = k3 from HK3.out]
      cases hv : Mk.value (s.data.toList.drop k3) with
      | none => rw [hv] at h3; exact h3
      | some p =>
        rw [hv] at h3
        refine ⟨HA.out.symm, ?_, h3.2⟩
        show D = Ent.decode p.1
        rw [← h3.1, HD.out]
  · have hmiss : ∀ h : k2 < s.size, Mk.isEq s[k2] = false := fun h => Bool.eq_false_iff.2 fun e => heq ⟨h, e⟩
    have h5 := kskip_miss ent_equal asks_equal hs hP4 (fun _ _ => trivial) hk2s hmiss
    have hat : Mk.attr (c :: s.data.toList.drop (i + 1)) = some ((c :: N).map Txt.lo, [], s.data.toList.drop k2) := by
      rw [← HN.out.1]
      exact attr_none (HAt.out _ rfl) fun e t he => by
        by_cases hl : k2 < s.size
        · have hd2 := drop_get s k2 hl
          rw [he] at hd2
          have := hmiss hl
          unfold Mk.isEq at this
          rw [← (List.cons.inj hd2).1] at this
          exact beq_eq_false_iff_ne.1 this
        · rw [drop_end s k2 hl] at he; cases he
    have HT := Lib.hid hat
    clear hat heq hmiss
    go_wp2_with fail
    refine h5.mono ?_
    clear h5
    rintro e w5 ⟨rfl, hP5, hg5⟩
    have hb5 := hb4.grown hg5 hne
    have hg05 := gb_trans hg04 hg5
    have hc5 : w5.cell? ⟨w.heap.size, 0, none⟩ = some (.string ⟨#[]⟩) := hb5.cell 0
    have hc5b : w5.cell? ⟨w.heap.size, 1, none⟩ = some (.string ⟨#[]⟩) := hb5.cell 1
    have hf5 := hb5.free 0
    have hf5b := hb5.free 1
    clear hb4 hg04 hg5 hP4
    go_wp2_with fail
    have hb6 : Whole ((w5.setCell ⟨w.heap.size, 0, none⟩ (.string (tstr A))).setCell ⟨w.heap.size, 1, none⟩ (.string ⟨#[]⟩)) w.heap.size #[.string (tstr A), .string ⟨#[]⟩] 39 := (hb5.put 0 _).put 1 _
    have hc6 := hb6.cell 0
    have hc6b := hb6.cell 1
    have hnb2 : ba ≠ w.heap.size := fun e => hne (by rw [e])
    have hns : bs ≠ w.heap.size := Whole.unlike hP5.2 hb5 (by decide)
    have hP6 : Pos ((w5.setCell ⟨w.heap.size, 0, none⟩ (.string (tstr A))).setCell ⟨w.heap.size, 1, none⟩ (.string ⟨#[]⟩)) ba bs s k2 := ⟨(hP5.1.other hnb2 _).other hnb2 _, (hP5.2.other hns _).other hns _⟩
    have hg6 := gb_new (gb_new hg05 0 (.string (tstr A))) 1 (.string ⟨#[]⟩)
    clear hb5 hb6
    refine bodyPost_ret (v := .agg #[.string (tstr A), .string ⟨#[]⟩]) ?_ rfl ⟨A, [], k2, rfl, ⟨by omega, hk2s, ?_⟩, hP6, hg6⟩
    · simp [results, Tryz.f110, go_sem, hc6, hc6b]
    · rw [HE.out.2.1, HT.out]
      exact ⟨HA.out.symm, rfl, rfl⟩

end Go.Proofs.YtckmlbcpldpkpaaGreatDoor

/- The program's addAttr returns what the plain text says. -/
namespace Go.Proofs.YtckmlbcpldpkpaaGreatDoor
open Go Go.RowKit
set_option linter.unusedVariables false

/-- Attributes as the cells of a row. -/
def acells (l : List (List UInt8 × List UInt8)) : List Value := l.flatMap fun p => [.string (tstr p.1), .string (tstr p.2)]
theorem acells_append (l m : List (List UInt8 × List UInt8)) : acells (l ++ m) = acells l ++ acells m := by simp [acells]
theorem acells_get : ∀ (l : List (List UInt8 × List UInt8)) (i : Nat) (h : i < l.length), (acells l)[i * 2]? = some (.string (tstr l[i].1)) ∧ (acells l)[i * 2 + 1]? = some (.string (tstr l[i].2)) := by
  intro l
  induction l with
  | nil => intro i h; simp at h
  | cons p r ih =>
    intro i h
    have e : acells (p :: r) = [.string (tstr p.1), .string (tstr p.2)] ++ acells r := rfl
    cases i with
    | zero => exact ⟨rfl, rfl⟩
    | succ i =>
      obtain ⟨h1, h2⟩ := ih i (by simpa using h)
      refine ⟨?_, ?_⟩
      · rw [e, show (i + 1) * 2 = i * 2 + 2 from by omega]; exact h1
      · rw [e, show (i + 1) * 2 + 1 = (i * 2 + 1) + 2 from by omega]; exact h2
theorem acells_length (l : List (List UInt8 × List UInt8)) : (acells l).length = l.length * 2 := by
  induction l with
  | nil => rfl
  | cons p r ih =>
    have e : acells (p :: r) = [.string (tstr p.1), .string (tstr p.2)] ++ acells r := rfl
    rw [e, List.length_append, ih]
    simp only [List.length_cons, List.length_nil]; omega
theorem acells_one (l : List (List UInt8 × List UInt8)) : ∀ u ∈ acells l, u.oneCell' = true := by
  intro u hu
  simp only [acells, List.mem_flatMap] at hu
  obtain ⟨p, _, hu⟩ := hu
  simp at hu
  rcases hu with rfl | rfl <;> rfl
/-- A row of attributes of the call's own. -/
def ARow (T : TypeId) (w : World) (base : Nat) (v : Value) (l : List (List UInt8 × List UInt8)) : Prop := w.ownsRow base T 2 v l.length (acells l)
section
variable {T : TypeId} {w w' : World} {base : Nat} {v : Value} {l : List (List UInt8 × List UInt8)}
theorem ARow.nil (T : TypeId) (w : World) (base : Nat) : ARow T w base (.slice none 0 0) [] := World.ownsRow_nil _ _ _ _
theorem ARow.form (h : ARow T w base v l) : ∃ A c, v = .slice A l.length c := by
  rcases h.2 with ⟨rfl, hn⟩ | ⟨g, cap, cur, rfl, _⟩
  · exact ⟨none, 0, by rw [hn]⟩
  · exact ⟨_, _, rfl⟩
/-- What a reader of the row is told. -/
theorem ARow.at (h : ARow T w base v l) (i : Nat) (hi : i < l.length) : ∃ g c, v = .slice (some ⟨g, 0, none⟩) l.length c ∧ base ≤ g ∧ g < w.heap.size ∧ w.cell? ⟨g, i * 2, none⟩ = some (.string (tstr l[i].1)) ∧ w.cell? ⟨g, i * 2 + 1, none⟩ = some (.string (tstr l[i].2)) := by
  have h' := h
  rcases h'.2 with ⟨_, hn⟩ | ⟨g, cap, cur, rfl, hb, hg, hnc, hcm, hcs, ht⟩
  · omega
  · obtain ⟨e1, e2⟩ := acells_get l i hi
    have hc : ∀ j u, (acells l)[j]? = some u → w.cell? ⟨g, j, none⟩ = some u := fun j u hj => by
      have := World.ownsRow.cells (g := g) h rfl j u hj
      rwa [Addr.add_lit, Nat.zero_add] at this
    exact ⟨g, cap, rfl, hb, lt_of_block hg, hc _ _ e1, hc _ _ e2⟩
theorem ARow.below (h : ARow T w base v l) (hb : Below w.heap.size w w') : ARow T w' base v l := by
  refine ⟨h.1, ?_⟩
  rcases h.2 with hn | ⟨g, cap, cur, rfl, h1, hg, rest⟩
  · exact .inl hn
  · exact .inr ⟨g, cap, cur, rfl, h1, (hb.block g (lt_of_block hg)).trans hg, rest⟩
theorem ARow.grown {row : Option Nat} (h : ARow T w base v l) (hg : w.grownBy w' row) (hn : v.ownBlock = none ∨ v.ownBlock ≠ row) : ARow T w' base v l := h.kept hg hn
theorem ARow.apart {b : Nat} {cs : Array Value} {T' : TypeId} (h : ARow T w base v l) (hb : Whole w b cs T') (hn : T ≠ T') : v.ownBlock ≠ some b := by
  rcases h.2 with ⟨rfl, _⟩ | ⟨g, cap, cur, rfl, _, hg, _⟩
  · simp [Value.ownBlock]
  · intro e
    have e' : g = b := by simpa [Value.ownBlock] using e
    exact Whole.unlike (cs := cur) (t := T) (show Whole w g cur T from hg) hb hn e'
theorem ARow.other {b : Nat} {cs : Array Value} {T' : TypeId} (h : ARow T w base v l) (hb : Whole w b cs T') (hn : T ≠ T') (i : Nat) (x : Value) : ARow T (w.setCell ⟨b, i, none⟩ x) base v l := by
  have hap := h.apart hb hn
  refine h.grown (row := some b) ⟨rfl, rfl, rfl, by simp [World.setCell], fun k _ hk => heap_setCell_other w _ k x (fun e => hk (by rw [e]))⟩ (.inr hap)
theorem ARow.alloc (h : ARow T w base v l) (o : Obj) : ARow T (w.alloc o) base v l := World.ownsRow.alloc h o
end

theorem tstr_beq (a b : List UInt8) : ((tstr a).toList == (tstr b).toList) = (a == b) := by rw [Lib.toList_data, Lib.toList_data, tstr_data, tstr_data]

set_option maxRecDepth 100000 in
set_option maxHeartbeats 400000 in
theorem kadd1_any (x : List UInt8 × List UInt8) (bB : Nat) (nm v : List UInt8) (w : World) (h : Whole w bB #[.string (tstr nm), .string (tstr v)] 39) :
    Calls Tryz.prog 121 #[.agg #[.string (tstr x.1), .string (tstr x.2)], .pointer (some ⟨bB, 0, none⟩)] w fun e w' => e = .returned (.bool (x.1 == nm)) ∧ Below w.heap.size w w' := by
  have h2 := h.alloc (.cells #[.string (tstr x.1), .string (tstr x.2)] 39)
  have c0 := h2.cell 0
  have hb : Below w.heap.size w (w.alloc (.cells #[.string (tstr x.1), .string (tstr x.2)] 39)) := (Below.refl _ _).alloc (Nat.le_refl _) _
  have HQ := Lib.hid (tstr_beq x.1 nm)
  clear h h2
  generalize tstr x.1 = X at c0 HQ hb ⊢
  generalize tstr nm = Y at c0 HQ
  go_enter Tryz.func121, Tryz.ntmps121
  go_wp2_with fail
  go_ret
  exact ⟨retB HQ.out, hb⟩
theorem ent_add1 : ∀ args w, (callFunc 121 args).run Tryz.prog w = .ok (.enter 121 args) w := enters_of Tryz.func121 (by kernel_rfl) rfl

theorem any_next2 {α : Type} {p : α → Bool} {l : List α} {k : Nat} {B : Bool} (h : B = (l.drop k).any p) (hk : k < l.length) (hp : p l[k] = false) : B = (l.drop (k + 1)).any p := by
  rw [h, List.drop_eq_getElem_cons hk, List.any_cons, hp, Bool.false_or]

set_option maxRecDepth 100000 in
set_option maxHeartbeats 1000000 in
theorem kindex_any (bB : Nat) (nm v : List UInt8) (base : Nat) (sl : Value) (l : List (List UInt8 × List UInt8)) (w : World) (hl : l.length ≤ 100) (hr : ARow 39 w base sl l) (h : Whole w bB #[.string (tstr nm), .string (tstr v)] 39) :
    Calls Tryz.prog 136 #[sl, .func (.func 121) #[] #[.pointer (some ⟨bB, 0, none⟩)]] w fun e w' => ∃ z : Int, e = .returned (.int .i64 z) ∧ -1 ≤ z ∧ z ≤ 100 ∧ decide (0 ≤ z) = (l.any fun p => p.1 == nm) ∧ Below w.heap.size w w' := by
  obtain ⟨A, c, rfl⟩ := hr.form
  go_enter Tryz.func136, Tryz.ntmps136
  go_wp2_with fail
  go_loopg [5, 8] l.length (fun gg _ s8 wr => ∃ k : Nat, k ≤ l.length ∧ l.length - k ≤ gg ∧ s8 = .int .i64 k ∧ Below w.heap.size w wr ∧ (l.any fun p => p.1 == nm) = (l.drop k).any fun p => p.1 == nm)
  case atStart => exact ⟨0, Nat.zero_le _, Nat.le_refl _, rfl, Below.refl _ _, rfl⟩
  case round =>
    obtain ⟨k, hk, hgg, rfl, hB, hany⟩ := hrel
    by_cases hlt : k < l.length
    · have hlt' : (k : Int) < (l.length : Int) := by omega
      obtain ⟨g, c', hA, _, hgl, hc0, hc1⟩ := hr.at k hlt
      injection hA with hA _ hc'
      subst hA hc'
      have d0 : wr.cell? ⟨g, k * 2, none⟩ = some (.string (tstr l[k].1)) := (hB.cell hgl).trans hc0
      have d1 : wr.cell? ⟨g, k * 2 + 1, none⟩ = some (.string (tstr l[k].2)) := (hB.cell hgl).trans hc1
      have hcall := kadd1_any l[k] bB nm v wr (h.below hB h.lt)
      have HA := Lib.hid hany
      have HR := Lib.hid (And.intro hr h)
      clear hany hr h hc0 hc1
      cases hq : (l[k].1 == nm) with
      | true =>
        rw [hq] at hcall
        have HF := Lib.hid (show (l.any fun p => p.1 == nm) = true by rw [HA.out, List.drop_eq_getElem_cons hlt, List.any_cons, hq, Bool.true_or])
        clear hq
        generalize tstr l[k].1 = X at d0 hcall
        generalize tstr l[k].2 = Y at d1 hcall
        go_wp2_with fail
        refine hcall.mono ?_
        clear hcall
        rintro e w2 ⟨rfl, hb2⟩
        go_wp2_with fail
        go_ret
        exact ⟨k, rfl, by omega, by omega, by rw [HF.out]; exact decide_eq_true (by omega), hB.trans (hb2.mono hB.size)⟩
      | false =>
        rw [hq] at hcall
        have HF := Lib.hid (any_next2 HA.out hlt hq)
        clear hq
        generalize tstr l[k].1 = X at d0 hcall
        generalize tstr l[k].2 = Y at d1 hcall
        go_wp2_with fail
        refine hcall.mono ?_
        clear hcall
        rintro e w2 ⟨rfl, hb2⟩
        go_wp2_with fail
        go_roundg (l.length - (k + 1))
        case rel => exact ⟨k + 1, by omega, Nat.le_refl _, by go_num, hB.trans (hb2.mono hB.size), HF.out⟩
        case measure => omega
    · have hlt' : ¬ (k : Int) < (l.length : Int) := by omega
      have HF := Lib.hid (show (l.any fun p => p.1 == nm) = false by rw [hany, List.drop_of_length_le (by omega)]; rfl)
      clear hany
      go_wp2_with fail
      go_ret
      exact ⟨-1, rfl, by omega, by omega, by rw [HF.out]; rfl, hB⟩

end Go.Proofs.YtckmlbcpldpkpaaGreatDoor

/- The program's addAttr returns what the plain text says. -/
namespace Go.Proofs.YtckmlbcpldpkpaaGreatDoor
open Go Go.RowKit
set_option linter.unusedVariables false

set_option maxRecDepth 100000 in
set_option maxHeartbeats 400000 in
theorem kcontains_any (bB : Nat) (nm v : List UInt8) (base : Nat) (sl : Value) (l : List (List UInt8 × List UInt8)) (w : World) (hl : l.length ≤ 100) (hr : ARow 39 w base sl l) (h : Whole w bB #[.string (tstr nm), .string (tstr v)] 39) :
    Calls Tryz.prog 122 #[sl, .func (.func 121) #[] #[.pointer (some ⟨bB, 0, none⟩)]] w fun e w' => e = .returned (.bool (l.any fun p => p.1 == nm)) ∧ Below w.heap.size w w' := by
  have hi := kindex_any bB nm v base sl l w hl hr h
  clear hr h
  go_enter Tryz.func122, Tryz.ntmps122
  go_wp2_with fail
  refine hi.mono ?_
  clear hi
  rintro e w2 ⟨z, rfl, h1, h2, hz, hb⟩
  have HZ := Lib.hid hz
  clear hz
  go_wp2_with fail
  all_goals go_ret
  all_goals exact ⟨retB (by first | (rw [← HZ.out]; done) | (rw [← HZ.out]; simp; done) | (rw [← HZ.out]; simp; omega)), hb⟩

theorem attrInfo : (Tryz.prog.info? 39).map (fun i => (i.zero, i.size, i.bytes)) = some (some (.agg #[.string ByteArray.empty, .string ByteArray.empty]), 2, 32) := by kernel_rfl

set_option maxRecDepth 100000 in
set_option maxHeartbeats 1000000 in
theorem kaddattr_any (nm v : List UInt8) (base : Nat) (sl : Value) (l : List (List UInt8 × List UInt8)) (w : World) (hl : l.length ≤ 64) (hr : ARow 39 w base sl l) (hbase : base ≤ w.heap.size) :
    Calls Tryz.prog 109 #[sl, .agg #[.string (tstr nm), .string (tstr v)]] w fun e w' => ∃ sl', e = .returned sl' ∧ ARow 39 w' base sl' (Mk.addA l nm v) ∧ w.grownBy w' sl.ownBlock := by
  obtain ⟨A, c, rfl⟩ := hr.form
  obtain ⟨i0, hi0, hz0, hz1, hz2⟩ := info_parts attrInfo
  have hB : Whole (w.alloc (.cells #[.string (tstr nm), .string (tstr v)] 39)) w.heap.size #[.string (tstr nm), .string (tstr v)] 39 := Whole.new _ _ _
  have hr2 := hr.alloc (.cells #[.string (tstr nm), .string (tstr v)] 39)
  have hg0 : w.grownBy (w.alloc (.cells #[.string (tstr nm), .string (tstr v)] 39)) (Value.slice A l.length c).ownBlock := World.grownBy_alloc _ _ _
  have hcall := kcontains_any w.heap.size nm v base _ l _ (by omega) hr2 hB
  have HA := Lib.hid (show Mk.addA l nm v = if (l.any fun p => p.1 == nm) then l else if l.length < 64 then l ++ [(nm, v)] else l from rfl)
  clear hr
  by_cases h64 : l.length = 64
  · have h64' : ((l.length : Int) == 64) = true := by rw [h64]; rfl
    have HR := Lib.hid hr2
    have HL := Lib.hid h64
    clear hcall hr2 h64
    go_enter Tryz.func109, Tryz.ntmps109
    go_wp2_with fail
    go_ret
    refine ⟨_, rfl, ?_, hg0⟩
    have e : Mk.addA l nm v = l := by
      rw [HA.out]
      split
      · rfl
      · rw [if_neg (by have := HL.out; omega)]
    rw [e]
    exact HR.out
  · have h64' : ((l.length : Int) == 64) = false := by rw [beq_eq_false_iff_ne]; omega
    cases hq : l.any fun p => p.1 == nm with
    | true =>
      rw [hq] at hcall
      have HR := Lib.hid (And.intro hr2 hq)
      clear hr2 h64 hq
      go_enter Tryz.func109, Tryz.ntmps109
      go_wp2_with fail
      refine hcall.mono ?_
      clear hcall
      rintro e w2 ⟨rfl, hb2⟩
      go_wp2_with fail
      go_ret
      refine ⟨_, rfl, ?_, gb_trans hg0 (gb_of_below hb2 _)⟩
      rw [HA.out, HR.out.2]
      exact HR.out.1.below hb2
    | false =>
      rw [hq] at hcall
      have HR := Lib.hid (And.intro hr2 (And.intro hq h64))
      have HBB := Lib.hid hB
      clear hr2 h64 hq hB
      go_enter Tryz.func109, Tryz.ntmps109
      go_wp2_with fail
      refine hcall.mono ?_
      clear hcall
      rintro e w2 ⟨rfl, hb2⟩
      have hB2 := HBB.out.below hb2 HBB.out.lt
      have c0 := hB2.cell 0
      have c1 := hB2.cell 1
      have hown := (HR.out.1.below hb2)
      have hg2 := gb_trans hg0 (gb_of_below hb2 (Value.slice A l.length c).ownBlock)
      have hsz := hb2.size
      have hsz2 := hg2.size
      have HG := Lib.hid hg2
      clear hB2 hg2 hb2 hg0
      go_wp2_with (at_builtin; refine wpList_append_own _ rfl (.tmp 16) (.tmp 18) 28 rfl base 39 i0 (.agg #[.string ByteArray.empty, .string ByteArray.empty]) 2 32 Tryz.underlying28 hi0 hz0 hz1 hz2 rfl (by decide) _ l.length (acells l) rfl (hown.alloc _) ⟨w2.heap.size, 0, none⟩ 1 1 (acells [(nm, v)]) rfl rfl ?c1 ?c2 ?c3 ?c4 ?c5 ?_)
      case c1 =>
        intro j u hj
        match j, hj with
        | 0, hj => simp [acells] at hj; subst hj; simp [Addr.add]
        | 1, hj => simp [acells] at hj; subst hj; simp [Addr.add]
      case c2 => exact acells_one _
      case c3 => unfold maxLen; omega
      case c4 => omega
      case c5 => simp; omega
      intro v2 w3 ho3 hg3 _
      rw [← acells_append] at ho3
      have HO := Lib.hid ho3
      have HG3 := Lib.hid (gb_trans (gb_alloc HG.out (.cells #[.string (tstr nm), .string (tstr v)] 39)) hg3)
      clear ho3 hg3
      go_wp2_with fail
      go_ret
      refine ⟨_, rfl, ?_, HG3.out⟩
      rw [HA.out, HR.out.2.1, if_neg Bool.false_ne_true, if_pos (by have := HR.out.2.2; omega)]
      show World.ownsRow _ _ _ _ _ _ _
      rw [List.length_append]
      exact HO.out

end Go.Proofs.YtckmlbcpldpkpaaGreatDoor
