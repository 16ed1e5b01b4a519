/- The reference's number: a reference by a number. -/
import Derived.Test.YtmpdapjfndjicaaDoorENum
namespace Go.Proofs.YtmpdapjfndjicaaDoor
open Go Go.RowKit

set_option maxRecDepth 100000 in
set_option maxHeartbeats 1000000 in
theorem rnumber_at_10 (s : ByteArray) (start : Nat) (w : World) (hst : start ≤ s.size) (hs : s.size ≤ 20000) :
    Calls Tryd.prog 28 #[.string s, .int .i64 start, .int .i64 10] w fun e w' => e = .returned (.tuple #[.string (tstr (Ent.byNum 10 start s.data.toList).1), .int .i64 (Ent.byNum 10 start s.data.toList).2]) ∧ Below w.heap.size w w' := by
  go_enter Tryd.func28, Tryd.ntmps28
  go_wp2_with fail
  go_loop [8, 9] (fun a b => ∃ v k : Nat, start ≤ k ∧ k ≤ s.size ∧ v ≤ 1114112 ∧ a = .int .i64 v ∧ b = .int .i64 k ∧ DSt 10 start s.data.toList v k) (fun _ b => s.size - (intOf b).toNat)
  case atStart => exact ⟨0, start, Nat.le_refl _, hst, by omega, rfl, rfl, DSt.start _ _ _⟩
  case round =>
    obtain ⟨v, k, hk1, hk2, hv, rfl, rfl, hD⟩ := hrel
    by_cases hlt : k < s.size
    · by_cases hd : Ent.dig s[k] < 10
      · have hst := hD.step hlt hk1 hd
        have HS := Lib.hid hst
        clear hst hD
        obtain ⟨d, hdd⟩ : ∃ d, Ent.dig s[k] = d := ⟨_, rfl⟩
        have hc : ∀ w : World, Calls Tryd.prog 39 #[.int .u8 s[k].toNat, .int .i64 10] w fun e w' => e = .returned (.int .i64 (d : Nat)) ∧ w = w' := fun w => by
          have e : rdig s[k] 10 = (d : Nat) := by unfold rdig; rw [if_pos hd, hdd]
          rw [← e]; exact rdigit_any s[k] 10 w (by omega)
        rw [hdd] at hd HS
        clear hdd
        go_wp2_with (go_at_call 39; refine (hc _).mono ?_; rintro e w' ⟨rfl, rfl⟩)
        go_round
        case rel => exact ⟨min (v * 10 + d) 1114112, k + 1, by omega, by omega, by omega, by go_num, by go_num, HS.out⟩
        case measure => simp [intOf]; omega
      · have hend := hD.stop (fun _ => hd)
        have hc : ∀ w : World, Calls Tryd.prog 39 #[.int .u8 s[k].toNat, .int .i64 10] w fun e w' => e = .returned (.int .i64 (-1)) ∧ w = w' := fun w => by
          have e : rdig s[k] 10 = -1 := by unfold rdig; rw [if_neg hd]
          rw [← e]; exact rdigit_any s[k] 10 w (by omega)
        clear hd hD
        have hres1 := fun (h : start < k) (h59 : s[k].toNat = 59) => DSt.semi hend h hlt h59
        have hres2 := fun (h : start < k) (h59 : s[k].toNat ≠ 59) => DSt.bare hend h (fun _ => h59)
        by_cases he : k = start
        · subst he
          have hres := Lib.hid (DSt.none hend)
          clear hend hres1 hres2
          go_wp2_with (go_at_call 39; refine (hc _).mono ?_; rintro e w' ⟨rfl, rfl⟩)
          go_ret2
          exact ⟨retSI (by rw [hres.out]; rfl) (by rw [hres.out]; rfl), Below.refl _ _⟩
        · have hgt : start < k := by omega
          clear hend
          by_cases h59 : s[k].toNat = 59
          · have hres := Lib.hid (hres1 hgt h59)
            have f59 : ((s[k].toNat : Int) == 59) = true := by rw [h59]; rfl
            clear hres1 hres2 h59
            go_wp2_with (first | (go_at_call 39; refine (hc _).mono ?_; rintro e w' ⟨rfl, rfl⟩) | (go_at_call 15; refine (rnumber_any _ _ (by omega) (by omega)).mono ?_; rintro e w' ⟨rfl, hbn⟩))
            go_ret2
            exact ⟨retSI (by rw [hres.out]) (by rw [hres.out]; go_num), hbn⟩
          · have hres := Lib.hid (hres2 hgt h59)
            have f59 : ((s[k].toNat : Int) == 59) = false := by
              rw [beq_eq_false_iff_ne]; omega
            clear hres1 hres2 h59
            go_wp2_with (first | (go_at_call 39; refine (hc _).mono ?_; rintro e w' ⟨rfl, rfl⟩) | (go_at_call 15; refine (rnumber_any _ _ (by omega) (by omega)).mono ?_; rintro e w' ⟨rfl, hbn⟩))
            go_ret2
            exact ⟨retSI (by rw [hres.out]) (by rw [hres.out]), hbn⟩
    · have hend := hD.stop (fun h => absurd h hlt)
      have hks : k = s.size := by omega
      clear hD
      by_cases he : k = start
      · have hres := Lib.hid (DSt.none (he ▸ hend))
        subst he
        clear hend hks
        go_wp2_with fail
        go_ret2
        exact ⟨retSI (by rw [hres.out]; rfl) (by rw [hres.out]; rfl), Below.refl _ _⟩
      · have hgt : start < k := by omega
        have hres := Lib.hid (DSt.bare hend hgt (fun h => absurd h hlt))
        clear hend hks
        go_wp2_with (go_at_call 15; refine (rnumber_any _ _ (by omega) (by omega)).mono ?_; rintro e w' ⟨rfl, hbn⟩)
        go_ret2
        exact ⟨retSI (by rw [hres.out]) (by rw [hres.out]), hbn⟩

set_option maxRecDepth 100000 in
set_option maxHeartbeats 1000000 in
theorem rnumber_at_16 (s : ByteArray) (start : Nat) (w : World) (hst : start ≤ s.size) (hs : s.size ≤ 20000) :
    Calls Tryd.prog 28 #[.string s, .int .i64 start, .int .i64 16] w fun e w' => e = .returned (.tuple #[.string (tstr (Ent.byNum 16 start s.data.toList).1), .int .i64 (Ent.byNum 16 start s.data.toList).2]) ∧ Below w.heap.size w w' := by
  go_enter Tryd.func28, Tryd.ntmps28
  go_wp2_with fail
  go_loop [8, 9] (fun a b => ∃ v k : Nat, start ≤ k ∧ k ≤ s.size ∧ v ≤ 1114112 ∧ a = .int .i64 v ∧ b = .int .i64 k ∧ DSt 16 start s.data.toList v k) (fun _ b => s.size - (intOf b).toNat)
  case atStart => exact ⟨0, start, Nat.le_refl _, hst, by omega, rfl, rfl, DSt.start _ _ _⟩
  case round =>
    obtain ⟨v, k, hk1, hk2, hv, rfl, rfl, hD⟩ := hrel
    by_cases hlt : k < s.size
    · by_cases hd : Ent.dig s[k] < 16
      · have hst := hD.step hlt hk1 hd
        have HS := Lib.hid hst
        clear hst hD
        obtain ⟨d, hdd⟩ : ∃ d, Ent.dig s[k] = d := ⟨_, rfl⟩
        have hc : ∀ w : World, Calls Tryd.prog 39 #[.int .u8 s[k].toNat, .int .i64 16] w fun e w' => e = .returned (.int .i64 (d : Nat)) ∧ w = w' := fun w => by
          have e : rdig s[k] 16 = (d : Nat) := by unfold rdig; rw [if_pos hd, hdd]
          rw [← e]; exact rdigit_any s[k] 16 w (by omega)
        rw [hdd] at hd HS
        clear hdd
        go_wp2_with (go_at_call 39; refine (hc _).mono ?_; rintro e w' ⟨rfl, rfl⟩)
        go_round
        case rel => exact ⟨min (v * 16 + d) 1114112, k + 1, by omega, by omega, by omega, by go_num, by go_num, HS.out⟩
        case measure => simp [intOf]; omega
      · have hend := hD.stop (fun _ => hd)
        have hc : ∀ w : World, Calls Tryd.prog 39 #[.int .u8 s[k].toNat, .int .i64 16] w fun e w' => e = .returned (.int .i64 (-1)) ∧ w = w' := fun w => by
          have e : rdig s[k] 16 = -1 := by unfold rdig; rw [if_neg hd]
          rw [← e]; exact rdigit_any s[k] 16 w (by omega)
        clear hd hD
        have hres1 := fun (h : start < k) (h59 : s[k].toNat = 59) => DSt.semi hend h hlt h59
        have hres2 := fun (h : start < k) (h59 : s[k].toNat ≠ 59) => DSt.bare hend h (fun _ => h59)
        by_cases he : k = start
        · subst he
          have hres := Lib.hid (DSt.none hend)
          clear hend hres1 hres2
          go_wp2_with (go_at_call 39; refine (hc _).mono ?_; rintro e w' ⟨rfl, rfl⟩)
          go_ret2
          exact ⟨retSI (by rw [hres.out]; rfl) (by rw [hres.out]; rfl), Below.refl _ _⟩
        · have hgt : start < k := by omega
          clear hend
          by_cases h59 : s[k].toNat = 59
          · have hres := Lib.hid (hres1 hgt h59)
            have f59 : ((s[k].toNat : Int) == 59) = true := by rw [h59]; rfl
            clear hres1 hres2 h59
            go_wp2_with (first | (go_at_call 39; refine (hc _).mono ?_; rintro e w' ⟨rfl, rfl⟩) | (go_at_call 15; refine (rnumber_any _ _ (by omega) (by omega)).mono ?_; rintro e w' ⟨rfl, hbn⟩))
            go_ret2
            exact ⟨retSI (by rw [hres.out]) (by rw [hres.out]; go_num), hbn⟩
          · have hres := Lib.hid (hres2 hgt h59)
            have f59 : ((s[k].toNat : Int) == 59) = false := by
              rw [beq_eq_false_iff_ne]; omega
            clear hres1 hres2 h59
            go_wp2_with (first | (go_at_call 39; refine (hc _).mono ?_; rintro e w' ⟨rfl, rfl⟩) | (go_at_call 15; refine (rnumber_any _ _ (by omega) (by omega)).mono ?_; rintro e w' ⟨rfl, hbn⟩))
            go_ret2
            exact ⟨retSI (by rw [hres.out]) (by rw [hres.out]), hbn⟩
    · have hend := hD.stop (fun h => absurd h hlt)
      have hks : k = s.size := by omega
      clear hD
      by_cases he : k = start
      · have hres := Lib.hid (DSt.none (he ▸ hend))
        subst he
        clear hend hks
        go_wp2_with fail
        go_ret2
        exact ⟨retSI (by rw [hres.out]; rfl) (by rw [hres.out]; rfl), Below.refl _ _⟩
      · have hgt : start < k := by omega
        have hres := Lib.hid (DSt.bare hend hgt (fun h => absurd h hlt))
        clear hend hks
        go_wp2_with (go_at_call 15; refine (rnumber_any _ _ (by omega) (by omega)).mono ?_; rintro e w' ⟨rfl, hbn⟩)
        go_ret2
        exact ⟨retSI (by rw [hres.out]) (by rw [hres.out]), hbn⟩

end Go.Proofs.YtmpdapjfndjicaaDoor
