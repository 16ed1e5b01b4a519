/- Names returns the names in ascending order. -/
import Derived.Test.YtmpdapjfndjicaaDoorETab
import Derived.Test.YtmpdapjfndjicaaDoorMem
namespace Go.Proofs.YtmpdapjfndjicaaDoor
open Go Go.RowKit

/-- The row of names as the first k have been written. -/
def nrow (k : Nat) : Array Value := ((List.range 30).map fun i => if i < k then Value.string (tstr (tnm i)) else Value.string ⟨#[]⟩).toArray
theorem nrow_put (k : Nat) : (nrow k).setIfInBounds k (.string (tstr (tnm k))) = nrow (k + 1) := by
  apply Array.ext
  · simp [nrow]
  · intro i h1 h2
    simp only [nrow, Array.size_setIfInBounds, List.size_toArray, List.length_map, List.length_range] at h1
    rw [Array.getElem_setIfInBounds (by simpa [nrow] using h1)]
    simp only [nrow, List.getElem_toArray, List.getElem_map, List.getElem_range]
    by_cases e : k = i
    · subst e; simp
    · rw [if_neg e]
      by_cases hk : i < k
      · rw [if_pos hk, if_pos (by omega)]
      · rw [if_neg hk, if_neg (by omega)]
theorem nrow_get (i : Nat) (h : i < 30) : (nrow 30)[i]? = some (.string (tstr (tnm i))) := by
  simp [nrow, h]

set_option maxRecDepth 100000 in
set_option maxHeartbeats 1000000 in
theorem tnames_any (w : World) (hT : Tab w) :
    Calls Tryd.prog 11 #[] w fun e w' => ∃ b, e = .returned (.slice (some ⟨b, 0, none⟩) 30 30) ∧ (∀ i < 30, w'.cell? ⟨b, i, none⟩ = some (.string (tstr (tnm i)))) ∧ w.heap.size ≤ b ∧ Below w.heap.size w w' := by
  have hmk : ∀ w : World, (Instr.makeSlice 23 (.int .i64 30) (.int .i64 30)).run Tryd.prog w = .ok (.slice (some ⟨w.heap.size, 0, none⟩) 30 30) (w.alloc (.cells (nrow 0) 9)) := fun _ => by kernel_rfl
  have hw0 : Whole (w.alloc (.cells (nrow 0) 9)) w.heap.size (nrow 0) 9 := Whole.new _ _ _
  have hb0 : Below w.heap.size w (w.alloc (.cells (nrow 0) 9)) := (Below.refl _ _).alloc (Nat.le_refl _) _
  go_enter Tryd.func11, Tryd.ntmps11
  go_wp2_with fail
  go_loopw [4] (fun a wr => ∃ k : Nat, k ≤ 30 ∧ a = .int .i64 k ∧ Whole wr w.heap.size (nrow k) 9 ∧ Below w.heap.size w wr) (fun a _ => 30 - (intOf a).toNat)
  case atStart => exact ⟨0, by omega, rfl, hw0, hb0⟩
  case round =>
    obtain ⟨k, hk, rfl, hW, hB⟩ := hrel
    clear hw0 hb0 hmk
    by_cases hlt : k < 30
    · obtain ⟨hc, hp⟩ := hT.below hB k hlt
      have hput := hW.put k (.string (tstr (tnm k)))
      rw [nrow_put] at hput
      have hB2 := hB.setCell (p := ⟨w.heap.size, k, none⟩) (Nat.le_refl _) (.string (tstr (tnm k)))
      have hcell := hW.cell k
      have hfree := hW.free k
      have hck : (nrow k)[k]? = some (.string ⟨#[]⟩) := by simp [nrow, hlt]
      rw [hck] at hcell
      obtain ⟨N, hN⟩ : ∃ N, tstr (tnm k) = N := ⟨_, rfl⟩
      rw [hN] at hc hput hB2
      have HP := Lib.hid hput
      clear hput hck hp hN
      go_wp2_with fail
      go_roundw
      case rel => exact ⟨k + 1, by omega, by go_num, HP.out, hB2⟩
      case measure => simp [intOf]; omega
    · obtain rfl : k = 30 := by omega
      go_wp2_with fail
      go_ret
      exact ⟨_, rfl, fun i hi => by rw [hW.cell i]; exact nrow_get i hi, Nat.le_refl _, hB⟩

end Go.Proofs.YtmpdapjfndjicaaDoor
