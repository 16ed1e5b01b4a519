/- The reference's handle of an operation. -/
import Derived.Test.YtccdhfpifohhjaaARow
import Derived.Test.YtccdhfpifohhjaaARef
namespace Go.Proofs.Ytccdhfpifohhjaa
open Go.RowKit

/-- An operation as a value. -/
abbrev opV (kd pk : Int) (raw : Bool) (v : Int) : Value := .agg #[.int .u8 kd, .int .u8 pk, .bool raw, .int .i16 v]
/-- Its handle. -/
def opH (pk : Int) (raw : Bool) (v : Int) (given : List Int) : Int := if raw = true ∨ given.length = 0 then v else given.getD (pk.toNat % given.length) 0

set_option maxRecDepth 100000 in
set_option maxHeartbeats 400000 in
theorem roph_any (base : Nat) (F : Nat → Prop) (kd pk v : Int) (raw : Bool) (A : Option Addr) (n c : Nat) (given : List Int) (w : World) (hp : 0 ≤ pk ∧ pk ≤ 255) (hv : -32768 ≤ v ∧ v ≤ 32767) (hg : Row 3 base w (.slice A n c) given F) (hl : given.length ≤ 1000) :
    Calls Try.prog 13 #[opV kd pk raw v, .slice A n c] w fun e w' => e = .returned (.int .i64 (opH pk raw v given)) ∧ Below w.heap.size w w' := by
  have hn := hg.len
  have hb0 := (Below.refl _ w).alloc (Nat.le_refl _) (.cells #[.int .u8 kd, .int .u8 pk, .bool raw, .int .i16 v] 36)
  have hg2 := hg.below hb0
  by_cases hr : raw = true ∨ given.length = 0
  · have hH : opH pk raw v given = v := by unfold opH; rw [if_pos hr]
    have HH := Lib.hid hH
    go_enter Try.func13, Try.ntmps13
    cases raw with
    | true =>
      clear hH hg hg2 hn hr
      go_wp2_with fail
      go_ret
      exact ⟨aretI HH.out.symm, hb0⟩
    | false =>
      have hz : n = 0 := by rcases hr with h | h; · cases h
                            · omega
      subst hz
      clear hH hg hg2 hn hr
      go_wp2_with fail
      go_ret
      exact ⟨aretI HH.out.symm, hb0⟩
  · have hr1 : raw = false := by cases raw with | true => exact absurd (.inl rfl) hr | false => rfl
    have hr2 : 0 < n := by rw [hn]; exact Nat.pos_of_ne_zero fun h => hr (.inr h)
    have hH : opH pk raw v given = given.getD (pk.toNat % given.length) 0 := by unfold opH; rw [if_neg hr]
    subst hr1
    rw [← hn] at hH
    have hzk : pk.toNat % n < n := Nat.mod_lt _ hr2
    obtain ⟨z, hz⟩ : ∃ z : Nat, pk.toNat % n = z := ⟨_, rfl⟩
    rw [hz] at hH hzk
    have htm : Int.tmod pk (n : Int) = (z : Int) := by
      rw [Int.tmod_eq_emod_of_nonneg hp.1, ← hz, Int.natCast_emod, Int.toNat_of_nonneg hp.1]
    have hx : given[z]? = some (given.getD z 0) := by
      have : z < given.length := by omega
      simp [this]
    obtain ⟨g, hAg, hc⟩ := hg2.cell hx
    subst hAg
    have HH := Lib.hid hH
    clear hH hg hg2 hr hx hz
    rw [← hn] at hl
    have HNN := Lib.hid hn
    clear hn
    go_enter Try.func13, Try.ntmps13
    go_wp2_with fail
    go_ret
    exact ⟨aretI HH.out.symm, hb0⟩
end Go.Proofs.Ytccdhfpifohhjaa
