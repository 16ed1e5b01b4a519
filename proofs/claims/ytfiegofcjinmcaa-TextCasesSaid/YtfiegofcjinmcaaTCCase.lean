/- The program's Lower and Upper return what the plain texts say. -/
import Derived.Test.YtfiegofcjinmcaaTCase
namespace Go.Proofs.Ytfiegofcjinmcaa
open Go.RowKit

set_option maxRecDepth 100000 in
set_option maxHeartbeats 400000 in
theorem recase_any (s : ByteArray) (fr to : Nat) (f : UInt8 → UInt8) (w : World) (hs : s.size ≤ 10000) (hfr : fr ≤ 128) (hto : to ≤ 128)
    (hf1 : ∀ c : UInt8, fr ≤ c.toNat → c.toNat < fr + 26 → (f c).toNat = c.toNat - fr + to) (hf2 : ∀ c : UInt8, ¬ (fr ≤ c.toNat ∧ c.toNat < fr + 26) → f c = c) :
    Calls Try.prog 33 #[.string s, .int .u8 fr, .int .u8 to] w fun e w' => e = .returned (.string (tstr (s.data.toList.map f))) ∧ Below w.heap.size w w' := by
  have hcv := Lib.run_convert_string_bytes (P := Try.prog) w 9 37 5 s Try.underlying9 Try.underlying37 Try.underlying5
  generalize grownCap w s.size 0 5 = cap at hcv
  have hll : s.data.toList.length = s.size := rfl
  go_enter Try.func33, Try.ntmps33
  go_wp2_with fail
  go_loopw [14] (fun i wr => ∃ k : Nat, k ≤ s.size ∧ i = .int .i64 k ∧ BRow wr w.heap.size (part f s.data.toList k) ∧ Below w.heap.size w wr) (fun i _ => s.size - (intOf i).toNat)
  case atStart => exact ⟨0, Nat.zero_le _, rfl, by rw [part_zero]; exact BRow.new w s, tbytesWorld_below w _ s⟩
  case round =>
    obtain ⟨k, hk, rfl, hrow, hbel⟩ := hrel
    by_cases hlt : k < s.size
    · have hkl : k < s.data.toList.length := hlt
      obtain ⟨hc, hf⟩ := hrow k (by rw [part_len]; exact hkl)
      rw [part_get _ _ k hkl] at hc
      have hst := part_step f s.data.toList k hkl
      have hsm := part_same f s.data.toList k hkl
      obtain ⟨c, hcc⟩ : ∃ c, s.data.toList[k] = c := ⟨_, rfl⟩
      rw [hcc] at hc hst hsm
      have hc256 := c.toNat_lt
      have hsz := hbel.size
      by_cases hup : fr ≤ c.toNat ∧ c.toNat < fr + 26
      · obtain ⟨h1, h2⟩ := hup
        have hnum := hf1 c h1 h2
        have hset := hrow.set k (f c)
        rw [hst, hnum, show ((c.toNat - fr + to : Nat) : Int) = (c.toNat : Int) - fr + to from by omega] at hset
        have HS := Lib.hid hset
        clear hset hst hsm hnum hcc hrow hf1 hf2
        go_wp2_with fail
        go_roundw
        case rel => exact ⟨k + 1, by omega, by go_num, HS.out, hbel.setCell (p := ⟨w.heap.size, k, none⟩) (Nat.le_refl _) _⟩
        case measure => simp [intOf]; omega
      · have hp : part f s.data.toList (k + 1) = part f s.data.toList k := hsm (hf2 c hup)
        rw [← hp] at hrow
        have HR := Lib.hid hrow
        clear hst hsm hcc hp hrow hf1 hf2
        by_cases h65 : fr ≤ c.toNat
        · have h90 : ¬ c.toNat < fr + 26 := fun h => hup ⟨h65, h⟩
          clear hup
          go_wp2_with fail
          go_roundw
          case rel => exact ⟨k + 1, by omega, by go_num, HR.out, hbel⟩
          case measure => simp [intOf]; omega
        · clear hup
          go_wp2_with fail
          go_roundw
          case rel => exact ⟨k + 1, by omega, by go_num, HR.out, hbel⟩
          case measure => simp [intOf]; omega
    · have ek : k = s.size := by omega
      subst ek
      rw [← hll, part_all] at hrow
      have hl2 : (s.data.toList.map f).length = s.size := by rw [List.length_map]; rfl
      have hconv := hrow.conv (cap := cap)
      rw [hl2] at hconv
      go_wp2_with fail
      go_ret
      exact ⟨rfl, hbel⟩

set_option maxHeartbeats 400000 in
theorem tlower_any (s : ByteArray) (w : World) (hs : s.size ≤ 10000) :
    Calls Try.prog 15 #[.string s] w fun e w' => e = .returned (.string (tstr (s.data.toList.map Txt.lo))) ∧ Below w.heap.size w w' := by
  have hR := recase_any s 65 97 Txt.lo w hs (by omega) (by omega) (fun c h1 h2 => by rw [Txt.lo_num, if_pos (by omega)]; omega) (fun c h => by unfold Txt.lo; rw [if_neg (by omega)])
  go_enter Try.func15, Try.ntmps15
  go_wp2_with fail
  refine hR.mono ?_
  rintro e w2 ⟨rfl, hb⟩
  go_wp2_with fail
  go_ret
  exact ⟨rfl, hb⟩

set_option maxHeartbeats 400000 in
theorem tupper_any (s : ByteArray) (w : World) (hs : s.size ≤ 10000) :
    Calls Try.prog 17 #[.string s] w fun e w' => e = .returned (.string (tstr (s.data.toList.map Txt.up))) ∧ Below w.heap.size w w' := by
  have hR := recase_any s 97 65 Txt.up w hs (by omega) (by omega) (fun c h1 h2 => by rw [Txt.up_num, if_pos (by omega)]; omega) (fun c h => by unfold Txt.up; rw [if_neg (by omega)])
  go_enter Try.func17, Try.ntmps17
  go_wp2_with fail
  refine hR.mono ?_
  rintro e w2 ⟨rfl, hb⟩
  go_wp2_with fail
  go_ret
  exact ⟨rfl, hb⟩

end Go.Proofs.Ytfiegofcjinmcaa
