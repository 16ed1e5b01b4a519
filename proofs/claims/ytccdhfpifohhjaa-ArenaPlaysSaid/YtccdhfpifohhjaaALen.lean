/- The reference's model: how many records there are. -/
import Derived.Test.YtccdhfpifohhjaaAHas
namespace Go.Proofs.Ytccdhfpifohhjaa
open Go.RowKit

theorem live_take (cs : List (Option Int)) (k : Nat) (c : Option Int) (h : cs[k]? = some c) : Ar.live (cs.take (k + 1)) = Ar.live (cs.take k) + (if c.isSome then 1 else 0) := by
  have hk := (List.getElem?_eq_some_iff.1 h).1
  have he := (List.getElem?_eq_some_iff.1 h).2
  unfold Ar.live
  rw [List.take_succ_eq_append_getElem hk, he, List.filter_append, List.length_append]
  cases c <;> rfl

set_option maxHeartbeats 1000000 in
theorem rlen_any (b s : Int) (vc vf : Value) (cs : List (Option Int)) (fr : List Nat) (w : World) (hm : MR w vc vf cs fr) (hl : cs.length ≤ 10000) :
    Calls Try.prog 46 #[modelV b s vc vf] w fun e w' => e = .returned (.int .i64 (Ar.live cs : Nat)) ∧ Below w.heap.size w w' := by
  obtain ⟨A, c, rfl⟩ := own_slice hm.1
  have hb0 := (Below.refl _ w).alloc (Nat.le_refl _) (.cells #[.int .i64 b, .int .i64 s, .slice A cs.length c, vf] 33)
  have hm2 := hm.below hb0
  obtain ⟨W1, hW1⟩ : ∃ W1, w.alloc (.cells #[.int .i64 b, .int .i64 s, .slice A cs.length c, vf] 33) = W1 := ⟨_, rfl⟩
  have c2 : W1.cell? ⟨w.heap.size, 2, none⟩ = some (.slice A cs.length c) := by rw [← hW1]; exact (Whole.new w _ _).cell 2
  rw [hW1] at hm2 hb0
  go_enter Try.func46, Try.ntmps46
  go_wp2_with fail
  clear hW1
  go_loop [3, 8] (fun n i => ∃ k : Nat, k ≤ cs.length ∧ i = .int .i64 k ∧ n = .int .i64 (Ar.live (cs.take k) : Nat)) (fun _ i => cs.length - (intOf i).toNat)
  case atStart => exact ⟨0, Nat.zero_le _, rfl, rfl⟩
  case round =>
    obtain ⟨k, hk, rfl, rfl⟩ := hrel
    have hlv := Ar.live_le (cs.take k)
    rw [List.length_take] at hlv
    by_cases hlt : k < cs.length
    · obtain ⟨g, rfl, hg, hcell⟩ := own_cells hm2.1 (by omega)
      have hck : cs[k]? = some cs[k] := List.getElem?_eq_getElem hlt
      have hc3 := hcell _ _ (Ar.slots_get cs k _ hck).1
      have hlt2 := live_take cs k _ hck
      obtain ⟨L, hL⟩ : ∃ L, Ar.live (cs.take k) = L := ⟨_, rfl⟩
      obtain ⟨d, hd⟩ : ∃ d, cs[k].isSome = d := ⟨_, rfl⟩
      rw [hL] at hlt2 hlv ⊢
      rw [hd] at hc3 hlt2
      cases d with
      | true =>
        have HL := Lib.hid hlt2
        clear hlt2 hL hd hck hcell
        go_wp2_with fail
        go_round
        case rel => exact ⟨k + 1, by omega, by go_num, by rw [HL.out]; go_num⟩
        case measure => simp [intOf]; omega
      | false =>
        have HL := Lib.hid hlt2
        clear hlt2 hL hd hck hcell
        go_wp2_with fail
        go_round
        case rel => exact ⟨k + 1, by omega, by go_num, by rw [HL.out]; rfl⟩
        case measure => simp [intOf]; omega
    · have ek : k = cs.length := by omega
      subst ek
      rw [List.take_length]
      go_wp2_with fail
      go_ret
      exact ⟨rfl, hb0⟩

end Go.Proofs.Ytccdhfpifohhjaa
