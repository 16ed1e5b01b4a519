/- The reference's Bound, Handle and Index return what the plain functions say. -/
import Derived.Test.YthocodmniofioaaProg
import Derived.Test.YthocodmniofioaaAPln
import Derived.WalkKit
import Derived.Below
import Derived.Lib.Hide
import Derived.BigQuiet
import Derived.Deep.QuietTactic
import Derived.Deep.RegionHeld3
import Derived.Deep.RegionWith
import Derived.Deep.DrawnRows
namespace Go.Proofs.Ythocodmniofioaa
open Go.RowKit

/-- A whole number of 64 bits. -/
def I64 (n : Int) : Prop := -9223372036854775808 ≤ n ∧ n ≤ 9223372036854775807
/-- A Salt as a value. -/
abbrev saltV (b s : Int) : Value := .agg #[.int .i64 b, .int .i64 s]
theorem aretI {a b : Int} (h : a = b) : Ending.returned (.int .i64 a) = .returned (.int .i64 b) := by rw [h]
theorem aretB {a b : Bool} (h : a = b) : Ending.returned (.bool a) = .returned (.bool b) := by rw [h]

set_option maxHeartbeats 400000 in
theorem bound_any (n : Int) (w : World) :
    Calls Try.prog 24 #[.int .i64 n] w fun e w' => e = .returned (.int .i64 (Ar.nrm n)) ∧ w' = w := by
  go_enter Try.func24, Try.ntmps24
  go_wp2
  all_goals go_ret
  all_goals exact ⟨aretI (by unfold Ar.nrm; omega), rfl⟩

theorem quiet_below {n : Nat} {w w' : World} (h : Below n w w') (m : Nat) : Below n w (w'.drewN m) := h.trans ⟨rfl, rfl, rfl, Nat.le_refl _, fun _ _ => rfl⟩
theorem w64i {x : Int} (h1 : -9223372036854775808 ≤ x) (h2 : x ≤ 9223372036854775807) : IntKind.i64.wrap x = x := by
  rw [IntKind.wrap_i64]
  omega

set_option maxHeartbeats 1000000 in
theorem rhandle_any (b s i : Int) (w : World) (_hi : I64 i) :
    Calls Try.prog 26 #[saltV b s, .int .i64 i] w fun e w' => e = .returned (.int .i64 (Ar.hdl b s i)) ∧ Below w.heap.size w w' := by
  have hb0 := (Below.refl _ w).alloc (Nat.le_refl _) (.cells #[.int .i64 b, .int .i64 s] 23)
  by_cases hc : i < 0 ∨ 2147483647 < i
  · have hr : Ar.hdl b s i = 0 := by unfold Ar.hdl; rw [if_pos hc]
    rw [hr]
    rcases hc with hc | hc
    · go_enter Try.func26, Try.ntmps26
      go_wp2_with fail
      go_ret
      exact ⟨rfl, hb0⟩
    · have hc' : ¬ i < 0 := by omega
      go_enter Try.func26, Try.ntmps26
      go_wp2_with fail
      go_ret
      exact ⟨rfl, hb0⟩
  · have hr : Ar.hdl b s i = Ar.nrm b + Ar.nrm s * i := by unfold Ar.hdl; rw [if_neg hc]
    have hm := Ar.mul_le s i (by omega) (by omega)
    have hn := Ar.nrm_pos b
    have h1 := w64i (x := Ar.nrm s * i) (by omega) (by omega)
    have h2 := w64i (x := Ar.nrm b + Ar.nrm s * i) (by omega) (by omega)
    have hc1 : ¬ i < 0 := by omega
    have hc2 : ¬ 2147483647 < i := by omega
    rw [hr]
    clear hc hr
    go_enter Try.func26, Try.ntmps26
    go_wp2_with fail
    go_quiet (first | (go_at_call 24; exact Calls.quiet_of_same (bound_any _ _)))
    all_goals go_wp2_with fail
    all_goals go_ret
    all_goals exact ⟨rfl, quiet_below hb0 _⟩

set_option maxHeartbeats 1000000 in
theorem rindex_any (b s h : Int) (w : World) (hh : I64 h) :
    Calls Try.prog 28 #[saltV b s, .int .i64 h] w fun e w' => e = .returned (.int .i64 (Ar.idx b s h)) ∧ Below w.heap.size w w' := by
  have hb0 := (Below.refl _ w).alloc (Nat.le_refl _) (.cells #[.int .i64 b, .int .i64 s] 23)
  have hs := Ar.nrm_pos s
  have hs0 : ¬ Ar.nrm s = 0 := by omega
  have hw := Ar.idx_ways b s h hh.2
  obtain ⟨I, hI⟩ : ∃ I, Ar.idx b s h = I := ⟨_, rfl⟩
  rw [hI] at hw ⊢
  have HW := Lib.hid hw
  clear hs hw hI
  go_enter Try.func28, Try.ntmps28
  go_wp2_with fail
  go_quiet (first | (go_at_call 24; exact Calls.quiet_of_same (bound_any _ _)))
  rcases HW.out with ⟨h1, rfl⟩ | ⟨h1, h2, h3, h7, rfl⟩ | ⟨h1, h2, h3, h7, q, h4, h6, rfl⟩ | ⟨h1, h2, h3, h7, q, h4, h6, rfl⟩
  all_goals clear HW
  all_goals go_wp2_with fail
  all_goals go_ret
  all_goals first
    | exact ⟨rfl, quiet_below hb0 _⟩
    | exact ⟨aretI (by first | exact h4 | (rw [h2]; exact h4)), quiet_below hb0 _⟩

end Go.Proofs.Ythocodmniofioaa
