/- The reference's table. -/
import Derived.Test.YtoiednecchbmnaaDoorK04
import Derived.Test.YtoiednecchbmnaaDoorK17
namespace Go.Proofs.YtoiednecchbmnaaDoor
open Go Go.RowKit
set_option linter.unusedVariables false
def kName (k : Nat) : List UInt8 := if k = 0 then [119, 111, 114, 100, 115] else if k = 1 then [99, 111, 108, 111, 114] else if k = 2 then [108, 101, 110, 103, 116, 104] else if k = 3 then [112, 111, 115, 105, 116, 105, 118, 101] else if k = 4 then [97, 110, 121] else if k = 5 then [110, 117, 109, 98, 101, 114] else if k = 6 then [105, 110, 116, 101, 103, 101, 114] else [108, 105, 110, 101]
def TabOk (x : St.Bs × List St.Bs × Nat) : Prop := ∀ w, Calls Tryd.prog 19 #[.string (tstr x.1)] w fun e w' => e = .returned (.tuple #[.string (tstr (St.glue x.2.1)), .string (tstr (kName x.2.2))]) ∧ w = w'
theorem tbeq3 (a : List UInt8) : ∀ b : List UInt8, ((tstr a).toList == b) = decide (a = b) := fun b => by rw [ttl, Bool.eq_iff_iff]; simp
set_option maxHeartbeats 4000000 in
theorem tab0 : TabOk ([98, 97, 99, 107, 103, 114, 111, 117, 110, 100], [[116, 114, 97, 110, 115, 112, 97, 114, 101, 110, 116]], 1) := by
  intro w
  show Calls Tryd.prog 19 #[.string (tstr [98, 97, 99, 107, 103, 114, 111, 117, 110, 100])] w fun e w' => e = .returned (.tuple #[.string (tstr [116, 114, 97, 110, 115, 112, 97, 114, 101, 110, 116]), .string (tstr [99, 111, 108, 111, 114])]) ∧ w = w'
  have hz := tbeq3 [98, 97, 99, 107, 103, 114, 111, 117, 110, 100]
  go_enter Tryd.func19, Tryd.ntmps19
  go_wp2_with fail
  go_ret2
  exact ⟨rfl, rfl⟩
set_option maxHeartbeats 4000000 in
theorem tab1 : TabOk ([98, 111, 114, 100, 101, 114, 45, 98, 111, 116, 116, 111, 109, 45, 119, 105, 100, 116, 104], [], 2) := by
  intro w
  show Calls Tryd.prog 19 #[.string (tstr [98, 111, 114, 100, 101, 114, 45, 98, 111, 116, 116, 111, 109, 45, 119, 105, 100, 116, 104])] w fun e w' => e = .returned (.tuple #[.string (tstr []), .string (tstr [108, 101, 110, 103, 116, 104])]) ∧ w = w'
  have hz := tbeq3 [98, 111, 114, 100, 101, 114, 45, 98, 111, 116, 116, 111, 109, 45, 119, 105, 100, 116, 104]
  go_enter Tryd.func19, Tryd.ntmps19
  go_wp2_with fail
  go_ret2
  exact ⟨rfl, rfl⟩
set_option maxHeartbeats 4000000 in
theorem tab2 : TabOk ([98, 111, 114, 100, 101, 114, 45, 99, 111, 108, 111, 114], [], 1) := by
  intro w
  show Calls Tryd.prog 19 #[.string (tstr [98, 111, 114, 100, 101, 114, 45, 99, 111, 108, 111, 114])] w fun e w' => e = .returned (.tuple #[.string (tstr []), .string (tstr [99, 111, 108, 111, 114])]) ∧ w = w'
  have hz := tbeq3 [98, 111, 114, 100, 101, 114, 45, 99, 111, 108, 111, 114]
  go_enter Tryd.func19, Tryd.ntmps19
  go_wp2_with fail
  go_ret2
  exact ⟨rfl, rfl⟩
set_option maxHeartbeats 4000000 in
theorem tab3 : TabOk ([98, 111, 114, 100, 101, 114, 45, 108, 101, 102, 116, 45, 119, 105, 100, 116, 104], [], 2) := by
  intro w
  show Calls Tryd.prog 19 #[.string (tstr [98, 111, 114, 100, 101, 114, 45, 108, 101, 102, 116, 45, 119, 105, 100, 116, 104])] w fun e w' => e = .returned (.tuple #[.string (tstr []), .string (tstr [108, 101, 110, 103, 116, 104])]) ∧ w = w'
  have hz := tbeq3 [98, 111, 114, 100, 101, 114, 45, 108, 101, 102, 116, 45, 119, 105, 100, 116, 104]
  go_enter Tryd.func19, Tryd.ntmps19
  go_wp2_with fail
  go_ret2
  exact ⟨rfl, rfl⟩
set_option maxHeartbeats 4000000 in
theorem tab4 : TabOk ([98, 111, 114, 100, 101, 114, 45, 114, 105, 103, 104, 116, 45, 119, 105, 100, 116, 104], [], 2) := by
  intro w
  show Calls Tryd.prog 19 #[.string (tstr [98, 111, 114, 100, 101, 114, 45, 114, 105, 103, 104, 116, 45, 119, 105, 100, 116, 104])] w fun e w' => e = .returned (.tuple #[.string (tstr []), .string (tstr [108, 101, 110, 103, 116, 104])]) ∧ w = w'
  have hz := tbeq3 [98, 111, 114, 100, 101, 114, 45, 114, 105, 103, 104, 116, 45, 119, 105, 100, 116, 104]
  go_enter Tryd.func19, Tryd.ntmps19
  go_wp2_with fail
  go_ret2
  exact ⟨rfl, rfl⟩
set_option maxHeartbeats 4000000 in
theorem tab5 : TabOk ([98, 111, 114, 100, 101, 114, 45, 116, 111, 112, 45, 119, 105, 100, 116, 104], [], 2) := by
  intro w
  show Calls Tryd.prog 19 #[.string (tstr [98, 111, 114, 100, 101, 114, 45, 116, 111, 112, 45, 119, 105, 100, 116, 104])] w fun e w' => e = .returned (.tuple #[.string (tstr []), .string (tstr [108, 101, 110, 103, 116, 104])]) ∧ w = w'
  have hz := tbeq3 [98, 111, 114, 100, 101, 114, 45, 116, 111, 112, 45, 119, 105, 100, 116, 104]
  go_enter Tryd.func19, Tryd.ntmps19
  go_wp2_with fail
  go_ret2
  exact ⟨rfl, rfl⟩
set_option maxHeartbeats 4000000 in
theorem tab6 : TabOk ([99, 111, 108, 111, 114], [], 1) := by
  intro w
  show Calls Tryd.prog 19 #[.string (tstr [99, 111, 108, 111, 114])] w fun e w' => e = .returned (.tuple #[.string (tstr []), .string (tstr [99, 111, 108, 111, 114])]) ∧ w = w'
  have hz := tbeq3 [99, 111, 108, 111, 114]
  go_enter Tryd.func19, Tryd.ntmps19
  go_wp2_with fail
  go_ret2
  exact ⟨rfl, rfl⟩
set_option maxHeartbeats 4000000 in
theorem tab7 : TabOk ([100, 105, 115, 112, 108, 97, 121], [[98, 108, 111, 99, 107], [102, 108, 101, 120], [105, 110, 108, 105, 110, 101], [105, 110, 108, 105, 110, 101, 45, 98, 108, 111, 99, 107], [108, 105, 115, 116, 45, 105, 116, 101, 109], [110, 111, 110, 101], [116, 97, 98, 108, 101], [116, 97, 98, 108, 101, 45, 99, 101, 108, 108], [116, 97, 98, 108, 101, 45, 114, 111, 119], [116, 97, 98, 108, 101, 45, 114, 111, 119, 45, 103, 114, 111, 117, 112]], 0) := by
  intro w
  show Calls Tryd.prog 19 #[.string (tstr [100, 105, 115, 112, 108, 97, 121])] w fun e w' => e = .returned (.tuple #[.string (tstr [98, 108, 111, 99, 107, 32, 102, 108, 101, 120, 32, 105, 110, 108, 105, 110, 101, 32, 105, 110, 108, 105, 110, 101, 45, 98, 108, 111, 99, 107, 32, 108, 105, 115, 116, 45, 105, 116, 101, 109, 32, 110, 111, 110, 101, 32, 116, 97, 98, 108, 101, 32, 116, 97, 98, 108, 101, 45, 99, 101, 108, 108, 32, 116, 97, 98, 108, 101, 45, 114, 111, 119, 32, 116, 97, 98, 108, 101, 45, 114, 111, 119, 45, 103, 114, 111, 117, 112]), .string (tstr [119, 111, 114, 100, 115])]) ∧ w = w'
  have hz := tbeq3 [100, 105, 115, 112, 108, 97, 121]
  go_enter Tryd.func19, Tryd.ntmps19
  go_wp2_with fail
  go_ret2
  exact ⟨rfl, rfl⟩
set_option maxHeartbeats 4000000 in
theorem tab8 : TabOk ([102, 108, 101, 120, 45, 98, 97, 115, 105, 115], [[97, 117, 116, 111]], 3) := by
  intro w
  show Calls Tryd.prog 19 #[.string (tstr [102, 108, 101, 120, 45, 98, 97, 115, 105, 115])] w fun e w' => e = .returned (.tuple #[.string (tstr [97, 117, 116, 111]), .string (tstr [112, 111, 115, 105, 116, 105, 118, 101])]) ∧ w = w'
  have hz := tbeq3 [102, 108, 101, 120, 45, 98, 97, 115, 105, 115]
  go_enter Tryd.func19, Tryd.ntmps19
  go_wp2_with fail
  go_ret2
  exact ⟨rfl, rfl⟩
set_option maxHeartbeats 4000000 in
theorem tab9 : TabOk ([102, 108, 101, 120, 45, 100, 105, 114, 101, 99, 116, 105, 111, 110], [[99, 111, 108, 117, 109, 110], [114, 111, 119]], 0) := by
  intro w
  show Calls Tryd.prog 19 #[.string (tstr [102, 108, 101, 120, 45, 100, 105, 114, 101, 99, 116, 105, 111, 110])] w fun e w' => e = .returned (.tuple #[.string (tstr [99, 111, 108, 117, 109, 110, 32, 114, 111, 119]), .string (tstr [119, 111, 114, 100, 115])]) ∧ w = w'
  have hz := tbeq3 [102, 108, 101, 120, 45, 100, 105, 114, 101, 99, 116, 105, 111, 110]
  go_enter Tryd.func19, Tryd.ntmps19
  go_wp2_with fail
  go_ret2
  exact ⟨rfl, rfl⟩
set_option maxHeartbeats 4000000 in
theorem tab10 : TabOk ([102, 108, 101, 120, 45, 103, 114, 111, 119], [], 5) := by
  intro w
  show Calls Tryd.prog 19 #[.string (tstr [102, 108, 101, 120, 45, 103, 114, 111, 119])] w fun e w' => e = .returned (.tuple #[.string (tstr []), .string (tstr [110, 117, 109, 98, 101, 114])]) ∧ w = w'
  have hz := tbeq3 [102, 108, 101, 120, 45, 103, 114, 111, 119]
  go_enter Tryd.func19, Tryd.ntmps19
  go_wp2_with fail
  go_ret2
  exact ⟨rfl, rfl⟩
set_option maxHeartbeats 4000000 in
theorem tab11 : TabOk ([102, 108, 101, 120, 45, 115, 104, 114, 105, 110, 107], [], 5) := by
  intro w
  show Calls Tryd.prog 19 #[.string (tstr [102, 108, 101, 120, 45, 115, 104, 114, 105, 110, 107])] w fun e w' => e = .returned (.tuple #[.string (tstr []), .string (tstr [110, 117, 109, 98, 101, 114])]) ∧ w = w'
  have hz := tbeq3 [102, 108, 101, 120, 45, 115, 104, 114, 105, 110, 107]
  go_enter Tryd.func19, Tryd.ntmps19
  go_wp2_with fail
  go_ret2
  exact ⟨rfl, rfl⟩
set_option maxHeartbeats 4000000 in
theorem tab12 : TabOk ([102, 108, 101, 120, 45, 119, 114, 97, 112], [[110, 111, 119, 114, 97, 112], [119, 114, 97, 112]], 0) := by
  intro w
  show Calls Tryd.prog 19 #[.string (tstr [102, 108, 101, 120, 45, 119, 114, 97, 112])] w fun e w' => e = .returned (.tuple #[.string (tstr [110, 111, 119, 114, 97, 112, 32, 119, 114, 97, 112]), .string (tstr [119, 111, 114, 100, 115])]) ∧ w = w'
  have hz := tbeq3 [102, 108, 101, 120, 45, 119, 114, 97, 112]
  go_enter Tryd.func19, Tryd.ntmps19
  go_wp2_with fail
  go_ret2
  exact ⟨rfl, rfl⟩
set_option maxHeartbeats 4000000 in
theorem tab13 : TabOk ([102, 111, 110, 116, 45, 115, 105, 122, 101], [], 3) := by
  intro w
  show Calls Tryd.prog 19 #[.string (tstr [102, 111, 110, 116, 45, 115, 105, 122, 101])] w fun e w' => e = .returned (.tuple #[.string (tstr []), .string (tstr [112, 111, 115, 105, 116, 105, 118, 101])]) ∧ w = w'
  have hz := tbeq3 [102, 111, 110, 116, 45, 115, 105, 122, 101]
  go_enter Tryd.func19, Tryd.ntmps19
  go_wp2_with fail
  go_ret2
  exact ⟨rfl, rfl⟩
set_option maxHeartbeats 4000000 in
theorem tab14 : TabOk ([104, 101, 105, 103, 104, 116], [[97, 117, 116, 111]], 3) := by
  intro w
  show Calls Tryd.prog 19 #[.string (tstr [104, 101, 105, 103, 104, 116])] w fun e w' => e = .returned (.tuple #[.string (tstr [97, 117, 116, 111]), .string (tstr [112, 111, 115, 105, 116, 105, 118, 101])]) ∧ w = w'
  have hz := tbeq3 [104, 101, 105, 103, 104, 116]
  go_enter Tryd.func19, Tryd.ntmps19
  go_wp2_with fail
  go_ret2
  exact ⟨rfl, rfl⟩
set_option maxHeartbeats 4000000 in
theorem tab15 : TabOk ([108, 101, 102, 116], [[97, 117, 116, 111]], 4) := by
  intro w
  show Calls Tryd.prog 19 #[.string (tstr [108, 101, 102, 116])] w fun e w' => e = .returned (.tuple #[.string (tstr [97, 117, 116, 111]), .string (tstr [97, 110, 121])]) ∧ w = w'
  have hz := tbeq3 [108, 101, 102, 116]
  go_enter Tryd.func19, Tryd.ntmps19
  go_wp2_with fail
  go_ret2
  exact ⟨rfl, rfl⟩
set_option maxHeartbeats 4000000 in
theorem tab16 : TabOk ([108, 105, 110, 101, 45, 104, 101, 105, 103, 104, 116], [[110, 111, 114, 109, 97, 108]], 7) := by
  intro w
  show Calls Tryd.prog 19 #[.string (tstr [108, 105, 110, 101, 45, 104, 101, 105, 103, 104, 116])] w fun e w' => e = .returned (.tuple #[.string (tstr [110, 111, 114, 109, 97, 108]), .string (tstr [108, 105, 110, 101])]) ∧ w = w'
  have hz := tbeq3 [108, 105, 110, 101, 45, 104, 101, 105, 103, 104, 116]
  go_enter Tryd.func19, Tryd.ntmps19
  go_wp2_with fail
  go_ret2
  exact ⟨rfl, rfl⟩
set_option maxHeartbeats 4000000 in
theorem tab17 : TabOk ([109, 97, 114, 103, 105, 110, 45, 98, 111, 116, 116, 111, 109], [[97, 117, 116, 111]], 4) := by
  intro w
  show Calls Tryd.prog 19 #[.string (tstr [109, 97, 114, 103, 105, 110, 45, 98, 111, 116, 116, 111, 109])] w fun e w' => e = .returned (.tuple #[.string (tstr [97, 117, 116, 111]), .string (tstr [97, 110, 121])]) ∧ w = w'
  have hz := tbeq3 [109, 97, 114, 103, 105, 110, 45, 98, 111, 116, 116, 111, 109]
  go_enter Tryd.func19, Tryd.ntmps19
  go_wp2_with fail
  go_ret2
  exact ⟨rfl, rfl⟩
set_option maxHeartbeats 4000000 in
theorem tab18 : TabOk ([109, 97, 114, 103, 105, 110, 45, 108, 101, 102, 116], [[97, 117, 116, 111]], 4) := by
  intro w
  show Calls Tryd.prog 19 #[.string (tstr [109, 97, 114, 103, 105, 110, 45, 108, 101, 102, 116])] w fun e w' => e = .returned (.tuple #[.string (tstr [97, 117, 116, 111]), .string (tstr [97, 110, 121])]) ∧ w = w'
  have hz := tbeq3 [109, 97, 114, 103, 105, 110, 45, 108, 101, 102, 116]
  go_enter Tryd.func19, Tryd.ntmps19
  go_wp2_with fail
  go_ret2
  exact ⟨rfl, rfl⟩
set_option maxHeartbeats 4000000 in
theorem tab19 : TabOk ([109, 97, 114, 103, 105, 110, 45, 114, 105, 103, 104, 116], [[97, 117, 116, 111]], 4) := by
  intro w
  show Calls Tryd.prog 19 #[.string (tstr [109, 97, 114, 103, 105, 110, 45, 114, 105, 103, 104, 116])] w fun e w' => e = .returned (.tuple #[.string (tstr [97, 117, 116, 111]), .string (tstr [97, 110, 121])]) ∧ w = w'
  have hz := tbeq3 [109, 97, 114, 103, 105, 110, 45, 114, 105, 103, 104, 116]
  go_enter Tryd.func19, Tryd.ntmps19
  go_wp2_with fail
  go_ret2
  exact ⟨rfl, rfl⟩
set_option maxHeartbeats 4000000 in
theorem tab20 : TabOk ([109, 97, 114, 103, 105, 110, 45, 116, 111, 112], [[97, 117, 116, 111]], 4) := by
  intro w
  show Calls Tryd.prog 19 #[.string (tstr [109, 97, 114, 103, 105, 110, 45, 116, 111, 112])] w fun e w' => e = .returned (.tuple #[.string (tstr [97, 117, 116, 111]), .string (tstr [97, 110, 121])]) ∧ w = w'
  have hz := tbeq3 [109, 97, 114, 103, 105, 110, 45, 116, 111, 112]
  go_enter Tryd.func19, Tryd.ntmps19
  go_wp2_with fail
  go_ret2
  exact ⟨rfl, rfl⟩
set_option maxHeartbeats 4000000 in
theorem tab21 : TabOk ([109, 97, 120, 45, 119, 105, 100, 116, 104], [[110, 111, 110, 101]], 3) := by
  intro w
  show Calls Tryd.prog 19 #[.string (tstr [109, 97, 120, 45, 119, 105, 100, 116, 104])] w fun e w' => e = .returned (.tuple #[.string (tstr [110, 111, 110, 101]), .string (tstr [112, 111, 115, 105, 116, 105, 118, 101])]) ∧ w = w'
  have hz := tbeq3 [109, 97, 120, 45, 119, 105, 100, 116, 104]
  go_enter Tryd.func19, Tryd.ntmps19
  go_wp2_with fail
  go_ret2
  exact ⟨rfl, rfl⟩
set_option maxHeartbeats 4000000 in
theorem tab22 : TabOk ([109, 105, 110, 45, 119, 105, 100, 116, 104], [], 3) := by
  intro w
  show Calls Tryd.prog 19 #[.string (tstr [109, 105, 110, 45, 119, 105, 100, 116, 104])] w fun e w' => e = .returned (.tuple #[.string (tstr []), .string (tstr [112, 111, 115, 105, 116, 105, 118, 101])]) ∧ w = w'
  have hz := tbeq3 [109, 105, 110, 45, 119, 105, 100, 116, 104]
  go_enter Tryd.func19, Tryd.ntmps19
  go_wp2_with fail
  go_ret2
  exact ⟨rfl, rfl⟩
set_option maxHeartbeats 4000000 in
theorem tab23 : TabOk ([111, 114, 100, 101, 114], [], 6) := by
  intro w
  show Calls Tryd.prog 19 #[.string (tstr [111, 114, 100, 101, 114])] w fun e w' => e = .returned (.tuple #[.string (tstr []), .string (tstr [105, 110, 116, 101, 103, 101, 114])]) ∧ w = w'
  have hz := tbeq3 [111, 114, 100, 101, 114]
  go_enter Tryd.func19, Tryd.ntmps19
  go_wp2_with fail
  go_ret2
  exact ⟨rfl, rfl⟩
set_option maxHeartbeats 4000000 in
theorem tab24 : TabOk ([111, 118, 101, 114, 102, 108, 111, 119], [[104, 105, 100, 100, 101, 110], [115, 99, 114, 111, 108, 108], [118, 105, 115, 105, 98, 108, 101]], 0) := by
  intro w
  show Calls Tryd.prog 19 #[.string (tstr [111, 118, 101, 114, 102, 108, 111, 119])] w fun e w' => e = .returned (.tuple #[.string (tstr [104, 105, 100, 100, 101, 110, 32, 115, 99, 114, 111, 108, 108, 32, 118, 105, 115, 105, 98, 108, 101]), .string (tstr [119, 111, 114, 100, 115])]) ∧ w = w'
  have hz := tbeq3 [111, 118, 101, 114, 102, 108, 111, 119]
  go_enter Tryd.func19, Tryd.ntmps19
  go_wp2_with fail
  go_ret2
  exact ⟨rfl, rfl⟩
set_option maxHeartbeats 4000000 in
theorem tab25 : TabOk ([112, 97, 100, 100, 105, 110, 103, 45, 98, 111, 116, 116, 111, 109], [], 3) := by
  intro w
  show Calls Tryd.prog 19 #[.string (tstr [112, 97, 100, 100, 105, 110, 103, 45, 98, 111, 116, 116, 111, 109])] w fun e w' => e = .returned (.tuple #[.string (tstr []), .string (tstr [112, 111, 115, 105, 116, 105, 118, 101])]) ∧ w = w'
  have hz := tbeq3 [112, 97, 100, 100, 105, 110, 103, 45, 98, 111, 116, 116, 111, 109]
  go_enter Tryd.func19, Tryd.ntmps19
  go_wp2_with fail
  go_ret2
  exact ⟨rfl, rfl⟩
set_option maxHeartbeats 4000000 in
theorem tab26 : TabOk ([112, 97, 100, 100, 105, 110, 103, 45, 108, 101, 102, 116], [], 3) := by
  intro w
  show Calls Tryd.prog 19 #[.string (tstr [112, 97, 100, 100, 105, 110, 103, 45, 108, 101, 102, 116])] w fun e w' => e = .returned (.tuple #[.string (tstr []), .string (tstr [112, 111, 115, 105, 116, 105, 118, 101])]) ∧ w = w'
  have hz := tbeq3 [112, 97, 100, 100, 105, 110, 103, 45, 108, 101, 102, 116]
  go_enter Tryd.func19, Tryd.ntmps19
  go_wp2_with fail
  go_ret2
  exact ⟨rfl, rfl⟩
set_option maxHeartbeats 4000000 in
theorem tab27 : TabOk ([112, 97, 100, 100, 105, 110, 103, 45, 114, 105, 103, 104, 116], [], 3) := by
  intro w
  show Calls Tryd.prog 19 #[.string (tstr [112, 97, 100, 100, 105, 110, 103, 45, 114, 105, 103, 104, 116])] w fun e w' => e = .returned (.tuple #[.string (tstr []), .string (tstr [112, 111, 115, 105, 116, 105, 118, 101])]) ∧ w = w'
  have hz := tbeq3 [112, 97, 100, 100, 105, 110, 103, 45, 114, 105, 103, 104, 116]
  go_enter Tryd.func19, Tryd.ntmps19
  go_wp2_with fail
  go_ret2
  exact ⟨rfl, rfl⟩
set_option maxHeartbeats 4000000 in
theorem tab28 : TabOk ([112, 97, 100, 100, 105, 110, 103, 45, 116, 111, 112], [], 3) := by
  intro w
  show Calls Tryd.prog 19 #[.string (tstr [112, 97, 100, 100, 105, 110, 103, 45, 116, 111, 112])] w fun e w' => e = .returned (.tuple #[.string (tstr []), .string (tstr [112, 111, 115, 105, 116, 105, 118, 101])]) ∧ w = w'
  have hz := tbeq3 [112, 97, 100, 100, 105, 110, 103, 45, 116, 111, 112]
  go_enter Tryd.func19, Tryd.ntmps19
  go_wp2_with fail
  go_ret2
  exact ⟨rfl, rfl⟩
set_option maxHeartbeats 4000000 in
theorem tab29 : TabOk ([112, 111, 115, 105, 116, 105, 111, 110], [[97, 98, 115, 111, 108, 117, 116, 101], [114, 101, 108, 97, 116, 105, 118, 101], [115, 116, 97, 116, 105, 99]], 0) := by
  intro w
  show Calls Tryd.prog 19 #[.string (tstr [112, 111, 115, 105, 116, 105, 111, 110])] w fun e w' => e = .returned (.tuple #[.string (tstr [97, 98, 115, 111, 108, 117, 116, 101, 32, 114, 101, 108, 97, 116, 105, 118, 101, 32, 115, 116, 97, 116, 105, 99]), .string (tstr [119, 111, 114, 100, 115])]) ∧ w = w'
  have hz := tbeq3 [112, 111, 115, 105, 116, 105, 111, 110]
  go_enter Tryd.func19, Tryd.ntmps19
  go_wp2_with fail
  go_ret2
  exact ⟨rfl, rfl⟩
set_option maxHeartbeats 4000000 in
theorem tab30 : TabOk ([116, 101, 120, 116, 45, 97, 108, 105, 103, 110], [[99, 101, 110, 116, 101, 114], [108, 101, 102, 116], [114, 105, 103, 104, 116]], 0) := by
  intro w
  show Calls Tryd.prog 19 #[.string (tstr [116, 101, 120, 116, 45, 97, 108, 105, 103, 110])] w fun e w' => e = .returned (.tuple #[.string (tstr [99, 101, 110, 116, 101, 114, 32, 108, 101, 102, 116, 32, 114, 105, 103, 104, 116]), .string (tstr [119, 111, 114, 100, 115])]) ∧ w = w'
  have hz := tbeq3 [116, 101, 120, 116, 45, 97, 108, 105, 103, 110]
  go_enter Tryd.func19, Tryd.ntmps19
  go_wp2_with fail
  go_ret2
  exact ⟨rfl, rfl⟩
set_option maxHeartbeats 4000000 in
theorem tab31 : TabOk ([116, 111, 112], [[97, 117, 116, 111]], 4) := by
  intro w
  show Calls Tryd.prog 19 #[.string (tstr [116, 111, 112])] w fun e w' => e = .returned (.tuple #[.string (tstr [97, 117, 116, 111]), .string (tstr [97, 110, 121])]) ∧ w = w'
  have hz := tbeq3 [116, 111, 112]
  go_enter Tryd.func19, Tryd.ntmps19
  go_wp2_with fail
  go_ret2
  exact ⟨rfl, rfl⟩
set_option maxHeartbeats 4000000 in
theorem tab32 : TabOk ([118, 101, 114, 116, 105, 99, 97, 108, 45, 97, 108, 105, 103, 110], [[98, 111, 116, 116, 111, 109], [109, 105, 100, 100, 108, 101], [116, 111, 112]], 0) := by
  intro w
  show Calls Tryd.prog 19 #[.string (tstr [118, 101, 114, 116, 105, 99, 97, 108, 45, 97, 108, 105, 103, 110])] w fun e w' => e = .returned (.tuple #[.string (tstr [98, 111, 116, 116, 111, 109, 32, 109, 105, 100, 100, 108, 101, 32, 116, 111, 112]), .string (tstr [119, 111, 114, 100, 115])]) ∧ w = w'
  have hz := tbeq3 [118, 101, 114, 116, 105, 99, 97, 108, 45, 97, 108, 105, 103, 110]
  go_enter Tryd.func19, Tryd.ntmps19
  go_wp2_with fail
  go_ret2
  exact ⟨rfl, rfl⟩
set_option maxHeartbeats 4000000 in
theorem tab33 : TabOk ([118, 105, 115, 105, 98, 105, 108, 105, 116, 121], [[104, 105, 100, 100, 101, 110], [118, 105, 115, 105, 98, 108, 101]], 0) := by
  intro w
  show Calls Tryd.prog 19 #[.string (tstr [118, 105, 115, 105, 98, 105, 108, 105, 116, 121])] w fun e w' => e = .returned (.tuple #[.string (tstr [104, 105, 100, 100, 101, 110, 32, 118, 105, 115, 105, 98, 108, 101]), .string (tstr [119, 111, 114, 100, 115])]) ∧ w = w'
  have hz := tbeq3 [118, 105, 115, 105, 98, 105, 108, 105, 116, 121]
  go_enter Tryd.func19, Tryd.ntmps19
  go_wp2_with fail
  go_ret2
  exact ⟨rfl, rfl⟩
set_option maxHeartbeats 4000000 in
theorem tab34 : TabOk ([119, 104, 105, 116, 101, 45, 115, 112, 97, 99, 101], [[110, 111, 114, 109, 97, 108], [110, 111, 119, 114, 97, 112], [112, 114, 101]], 0) := by
  intro w
  show Calls Tryd.prog 19 #[.string (tstr [119, 104, 105, 116, 101, 45, 115, 112, 97, 99, 101])] w fun e w' => e = .returned (.tuple #[.string (tstr [110, 111, 114, 109, 97, 108, 32, 110, 111, 119, 114, 97, 112, 32, 112, 114, 101]), .string (tstr [119, 111, 114, 100, 115])]) ∧ w = w'
  have hz := tbeq3 [119, 104, 105, 116, 101, 45, 115, 112, 97, 99, 101]
  go_enter Tryd.func19, Tryd.ntmps19
  go_wp2_with fail
  go_ret2
  exact ⟨rfl, rfl⟩
set_option maxHeartbeats 4000000 in
theorem tab35 : TabOk ([119, 105, 100, 116, 104], [[97, 117, 116, 111]], 3) := by
  intro w
  show Calls Tryd.prog 19 #[.string (tstr [119, 105, 100, 116, 104])] w fun e w' => e = .returned (.tuple #[.string (tstr [97, 117, 116, 111]), .string (tstr [112, 111, 115, 105, 116, 105, 118, 101])]) ∧ w = w'
  have hz := tbeq3 [119, 105, 100, 116, 104]
  go_enter Tryd.func19, Tryd.ntmps19
  go_wp2_with fail
  go_ret2
  exact ⟨rfl, rfl⟩
set_option maxHeartbeats 4000000 in
theorem tab36 : TabOk ([122, 45, 105, 110, 100, 101, 120], [[97, 117, 116, 111]], 6) := by
  intro w
  show Calls Tryd.prog 19 #[.string (tstr [122, 45, 105, 110, 100, 101, 120])] w fun e w' => e = .returned (.tuple #[.string (tstr [97, 117, 116, 111]), .string (tstr [105, 110, 116, 101, 103, 101, 114])]) ∧ w = w'
  have hz := tbeq3 [122, 45, 105, 110, 100, 101, 120]
  go_enter Tryd.func19, Tryd.ntmps19
  go_wp2_with fail
  go_ret2
  exact ⟨rfl, rfl⟩
theorem rtable_any : ∀ x ∈ St.kinds, TabOk x := by
  intro x hx
  simp only [St.kinds, List.mem_cons, List.not_mem_nil, or_false] at hx
  rcases hx with rfl | rfl | rfl | rfl | rfl | rfl | rfl | rfl | rfl | rfl | rfl | rfl | rfl | rfl | rfl | rfl | rfl | rfl | rfl | rfl | rfl | rfl | rfl | rfl | rfl | rfl | rfl | rfl | rfl | rfl | rfl | rfl | rfl | rfl | rfl | rfl | rfl
  · exact tab0
  · exact tab1
  · exact tab2
  · exact tab3
  · exact tab4
  · exact tab5
  · exact tab6
  · exact tab7
  · exact tab8
  · exact tab9
  · exact tab10
  · exact tab11
  · exact tab12
  · exact tab13
  · exact tab14
  · exact tab15
  · exact tab16
  · exact tab17
  · exact tab18
  · exact tab19
  · exact tab20
  · exact tab21
  · exact tab22
  · exact tab23
  · exact tab24
  · exact tab25
  · exact tab26
  · exact tab27
  · exact tab28
  · exact tab29
  · exact tab30
  · exact tab31
  · exact tab32
  · exact tab33
  · exact tab34
  · exact tab35
  · exact tab36
end Go.Proofs.YtoiednecchbmnaaDoor
