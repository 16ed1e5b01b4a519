/- The reference's Newlines returns what the plain text says. -/
import Derived.Test.YtfiegofcjinmcaaDoorTSub
namespace Go.Proofs.YtfiegofcjinmcaaDoor
open Go.RowKit

/-- There is a carriage return before. -/
def crAt (s : ByteArray) : Nat → Bool
  | 0 => false
  | k + 1 => if h : k < s.size then s[k] == 13 else false
theorem crAt_succ (s : ByteArray) (k : Nat) (h : k < s.size) : crAt s (k + 1) = (s[k] == 13) := dif_pos h
theorem u8_is (c : UInt8) (n : Nat) (h : n < 256) : c = UInt8.ofNat n ↔ c.toNat = n := by
  rw [← UInt8.toNat_inj, UInt8.toNat_ofNat']
  omega

set_option maxHeartbeats 400000 in
theorem rnewlines_any (s : ByteArray) (w : World) (hs : s.size ≤ 10000) :
    Calls Tryd.prog 14 #[.string s] w fun e w' => e = .returned (.string (tstr (Txt.newl false s.data.toList))) ∧ w = w' := by
  have hcl := Txt.newl_len false s.data.toList
  have hll : s.data.toList.length = s.size := rfl
  rw [hll] at hcl
  go_enter Tryd.func14, Tryd.ntmps14
  go_wp2_with fail
  go_loop [3, 4] (fun v i => ∃ (k : Nat) (L : List UInt8), k ≤ s.size ∧ i = .int .i64 k ∧ v = .string (tstr L) ∧ L ++ Txt.newl (crAt s k) (s.data.toList.drop k) = Txt.newl false s.data.toList) (fun _ i => s.size - (intOf i).toNat)
  case atStart => exact ⟨0, [], Nat.zero_le _, rfl, rfl, rfl⟩
  case round =>
    obtain ⟨k, L, hk, rfl, rfl, hL⟩ := hrel
    have hLl : L.length ≤ 10000 := by have := congrArg List.length hL; rw [List.length_append] at this; omega
    by_cases hlt : k < s.size
    · rw [drop_at s k hlt] at hL
      have hLs : (tstr L).size ≤ 10000 := by rw [tstr_size]; exact hLl
      have h1s : ∀ c : UInt8, (tstr [c]).size = 1 := fun c => tstr_size _
      have had : ∀ (c : UInt8) (W : World), (Op.stringOp .add (tstr L) (tstr [c])).run Tryd.prog W = .ok (.string (tstr L ++ tstr [c])) W := fun c W => run_string_add_sum W _ _ (by rw [h1s]; omega)
      have hex := extract_one s k hlt
      have hsl : ∀ W : World, (Instr.slice 9 (.string s) (some (.int .i64 k)) (some (.int .i64 ((k : Int) + 1))) none).run Tryd.prog W = .ok (.string (tstr [s[k]])) W := fun W => by
        rw [run_slice_string W _ s _ _ _ _ Tryd.underlying9 (by omega) (by omega) (by omega), ← hex]; rfl
      have hcr := crAt_succ s k hlt
      by_cases hskip : s[k] = 10 ∧ crAt s k = true
      · have hst : L ++ Txt.newl (crAt s (k + 1)) (s.data.toList.drop (k + 1)) = Txt.newl false s.data.toList := by
          rw [← hL, hcr, Txt.newl, if_pos hskip, hskip.1]; rfl
        have HS := Lib.hid hst
        have hn : ((s[k].toNat : Int) == 10) = true := by rw [hskip.1]; rfl
        cases k with
        | zero => exact absurd hskip.2 (by simp [crAt])
        | succ j =>
          have hj : j < s.size := by omega
          have h13 : s[j] = 13 := by have := hskip.2; rw [crAt_succ s j hj] at this; simpa using this
          have hn2 : ((s[j].toNat : Int) == 13) = true := by rw [h13]; rfl
          clear hst hL hex hcr hskip h13
          go_wp2_with fail
          go_round
          case rel => exact ⟨j + 1 + 1, L, by omega, by go_num, rfl, HS.out⟩
          case measure => simp [intOf]; omega
      · have hst : (L ++ [if s[k] = 13 then 10 else s[k]]) ++ Txt.newl (crAt s (k + 1)) (s.data.toList.drop (k + 1)) = Txt.newl false s.data.toList := by
          rw [← hL, hcr, List.append_assoc, Txt.newl, if_neg hskip]; rfl
        have HS := Lib.hid hst
        have hcase : ((s[k].toNat : Int) == 10) = false ∨ (((s[k].toNat : Int) == 10) = true ∧ k = 0) ∨ (((s[k].toNat : Int) == 10) = true ∧ ∃ j, ∃ h : j < s.size, k = j + 1 ∧ ((s[j].toNat : Int) == 13) = false) := by
          by_cases h10 : s[k] = 10
          · right
            have hn : ((s[k].toNat : Int) == 10) = true := by rw [h10]; rfl
            cases k with
            | zero => exact .inl ⟨hn, rfl⟩
            | succ j =>
              have hj : j < s.size := by omega
              refine .inr ⟨hn, j, hj, rfl, ?_⟩
              have : ¬ s[j] = 13 := fun e => hskip ⟨h10, by rw [crAt_succ s j hj, e]; rfl⟩
              have h2 : ¬ s[j].toNat = 13 := fun e => this ((u8_is s[j] 13 (by decide)).2 e)
              simp; omega
          · left
            have h2 : ¬ s[k].toNat = 10 := fun e => h10 ((u8_is s[k] 10 (by decide)).2 e)
            simp; omega
        clear hst hL hex hcr hskip
        by_cases h13 : s[k] = 13
        · rw [if_pos h13] at HS
          have hn3 : ((s[k].toNat : Int) == 13) = true := by rw [h13]; rfl
          have hn0 : ((s[k].toNat : Int) == 10) = false := by rw [h13]; rfl
          clear h13 hcase
          go_wp2_with fail
          go_round
          case rel => exact ⟨k + 1, L ++ [10], by omega, by go_num, by rw [← tstr_append]; rfl, HS.out⟩
          case measure => simp [intOf]; omega
        · rw [if_neg h13] at HS
          have hn3 : ((s[k].toNat : Int) == 13) = false := by
            have h2 : ¬ s[k].toNat = 13 := fun e => h13 ((u8_is s[k] 13 (by decide)).2 e)
            simp; omega
          clear h13
          rcases hcase with hn | ⟨hn, rfl⟩ | ⟨hn, j, hj, rfl, hn2⟩
          · go_wp2_with fail
            go_round
            case rel => exact ⟨k + 1, L ++ [s[k]], hlt, by go_num, by rw [tstr_append], HS.out⟩
            case measure => simp [intOf]; omega
          · have hs0 := slice1 s 0 0 1 rfl rfl hlt
            go_wp2_with fail
            go_round
            case rel => exact ⟨1, L ++ [s[0]], hlt, by go_num, by rw [tstr_append], HS.out⟩
            case measure => simp [intOf]; omega
          · have hs0 := slice1 s (j + 1) ((j : Int) + 1) ((j : Int) + 1 + 1) (by omega) (by omega) hlt
            go_wp2_with fail
            go_round
            case rel => exact ⟨j + 1 + 1, L ++ [s[j + 1]], hlt, by go_num, by rw [tstr_append], HS.out⟩
            case measure => simp [intOf]; omega
    · have ek : k = s.size := by omega
      subst ek
      rw [drop_end s _ hlt] at hL
      have hL2 : L = Txt.newl false s.data.toList := by rw [← hL, Txt.newl, List.append_nil]
      have HL := Lib.hid hL2
      clear hL hL2
      go_wp2_with fail
      go_ret
      exact ⟨retS (by rw [HL.out]), rfl⟩

end Go.Proofs.YtfiegofcjinmcaaDoor
