/- The reference's Lookup returns what the plain text says. -/
import Derived.Test.YtmpdapjfndjicaaDoorERtb
import Derived.Test.YtmpdapjfndjicaaDoorERef
namespace Go.Proofs.YtmpdapjfndjicaaDoor
open Go Go.RowKit

theorem look_rnm : ∀ k < 30, Ent.look (rnm k) = some (rch k) := by
  intro i hi
  match i, hi with
  | 0, _ | 1, _ | 2, _ | 3, _ | 4, _ | 5, _ | 6, _ | 7, _ | 8, _ | 9, _ => rfl
  | 10, _ | 11, _ | 12, _ | 13, _ | 14, _ | 15, _ | 16, _ | 17, _ | 18, _ | 19, _ => rfl
  | 20, _ | 21, _ | 22, _ | 23, _ | 24, _ | 25, _ | 26, _ | 27, _ | 28, _ | 29, _ => rfl
  | n + 30, h => omega
theorem rget (i : Nat) (h : i < Ent.tabR.length) : Ent.tabR[i] = (rnm i, rch i) := by
  have e : Ent.tabR.getD i ([], []) = Ent.tabR[i] := by rw [List.getD_eq_getElem?_getD, List.getElem?_eq_getElem h]; rfl
  rw [← e]; rfl
theorem look_gone (nm : List UInt8) (h : ∀ i < 30, rnm i ≠ nm) : Ent.look nm = none := by
  unfold Ent.look
  rw [Option.map_eq_none_iff, List.find?_eq_none]
  intro p hp he
  obtain ⟨i, hi, rfl⟩ := List.getElem_of_mem hp
  have hi' : i < 30 := hi
  rw [rget i hi] at he
  exact h i hi' (beq_iff_eq.1 he)

set_option maxRecDepth 100000 in
set_option maxHeartbeats 1000000 in
theorem rlookup_any (s : ByteArray) (w : World) :
    Calls Tryd.prog 13 #[.string s] w fun e w' => e = .returned (.string (tstr ((Ent.look s.data.toList).getD []))) ∧ Below w.heap.size w w' := by
  go_enter Tryd.func13, Tryd.ntmps13
  go_wp2_with fail
  refine (rtable_any w).mono ?_
  rintro e w1 ⟨b, rfl, _, hR, hB⟩
  go_wp2_with fail
  go_loop [4] (fun a => ∃ k : Nat, k ≤ 30 ∧ a = .int .i64 k ∧ ∀ i < k, rnm i ≠ s.data.toList) (fun a => 30 - (intOf a).toNat)
  case atStart => exact ⟨0, by omega, rfl, fun i h => absurd h (by omega)⟩
  case round =>
    obtain ⟨k, hk, rfl, hno⟩ := hrel
    by_cases hlt : k < 30
    · obtain ⟨hc, hp⟩ := hR k hlt
      obtain ⟨N, hN⟩ : ∃ N, tstr (rnm k) = N := ⟨_, rfl⟩
      obtain ⟨C, hC⟩ : ∃ C, tstr (rch k) = C := ⟨_, rfl⟩
      rw [hN] at hc
      rw [hC] at hp
      by_cases he : rnm k = s.data.toList
      · have hb : (N.toList == s.toList) = true := by rw [Lib.toList_data, Lib.toList_data, ← hN, tstr_data, he]; simp
        have hl : Ent.look s.data.toList = some (rch k) := by rw [← he]; exact look_rnm k hlt
        have HL := Lib.hid hl
        have HC := Lib.hid hC
        clear hN hC he hl hno
        go_wp2_with fail
        go_ret
        exact ⟨retS (by rw [HL.out, ← HC.out]; rfl), hB⟩
      · have hb : (N.toList == s.toList) = false := by rw [Lib.toList_data, Lib.toList_data, ← hN, tstr_data]; simpa using he
        have hnew : ∀ i < k + 1, rnm i ≠ s.data.toList := fun i h => by
          by_cases e : i = k
          · subst e; exact he
          · exact hno i (by omega)
        have HN := Lib.hid hnew
        clear hN hC he hnew hno
        go_wp2_with fail
        go_round
        case rel => exact ⟨k + 1, by omega, by go_num, HN.out⟩
        case measure => simp [intOf]; omega
    · obtain rfl : k = 30 := by omega
      have HL := Lib.hid (look_gone _ hno)
      clear hno
      go_wp2_with fail
      go_ret
      exact ⟨retS (by rw [HL.out]; rfl), hB⟩

end Go.Proofs.YtmpdapjfndjicaaDoor
