/- A reference by a number: the program's byNumber and the reference's number. -/
import Derived.Test.YtmpdapjfndjicaaDoorECod
import Derived.Test.YtmpdapjfndjicaaDoorERef
import Derived.Outline
namespace Go.Proofs.YtmpdapjfndjicaaDoor
open Go Go.RowKit

theorem drop_get (s : ByteArray) (k : Nat) (h : k < s.size) : s.data.toList.drop k = s[k] :: s.data.toList.drop (k + 1) := List.drop_eq_getElem_cons (l := s.data.toList) (i := k) h
theorem get_opt (s : ByteArray) (k : Nat) (h : k < s.size) : s.data.toList[k]? = some s[k] := List.getElem?_eq_getElem (l := s.data.toList) h
theorem get_end (s : ByteArray) (k : Nat) (h : s.size ≤ k) : s.data.toList[k]? = none := List.getElem?_eq_none (l := s.data.toList) h

/-- The state of the loop over the digits: what is there from index k on, with v. -/
def DSt (base start : Nat) (l : List UInt8) (v k : Nat) : Prop := Ent.digs base 0 (l.drop start) = ((Ent.digs base v (l.drop k)).1, (Ent.digs base v (l.drop k)).2 + (k - start))
theorem DSt.start (base start : Nat) (l : List UInt8) : DSt base start l 0 start := by unfold DSt; rw [Nat.sub_self]; rfl
theorem DSt.step {base start : Nat} {s : ByteArray} {v k : Nat} (h : DSt base start s.data.toList v k) (hk : k < s.size) (hs : start ≤ k) (hd : Ent.dig s[k] < base) : DSt base start s.data.toList (min (v * base + Ent.dig s[k]) 1114112) (k + 1) := by
  unfold DSt at h ⊢
  rw [h, drop_get s k hk]
  conv => lhs; unfold Ent.digs
  rw [if_pos hd]
  simp only [Prod.mk.injEq, true_and]
  omega
theorem DSt.stop {base start : Nat} {s : ByteArray} {v k : Nat} (h : DSt base start s.data.toList v k) (hk : ∀ h : k < s.size, ¬ Ent.dig s[k] < base) : Ent.digs base 0 (s.data.toList.drop start) = (v, k - start) := by
  unfold DSt at h
  rw [h]
  by_cases hl : k < s.size
  · rw [drop_get s k hl]
    unfold Ent.digs
    rw [if_neg (hk hl)]
    simp
  · rw [List.drop_of_length_le (by show s.size ≤ k; omega)]
    unfold Ent.digs
    simp
theorem DSt.none {base start : Nat} {s : ByteArray} {v : Nat} (h : Ent.digs base 0 (s.data.toList.drop start) = (v, start - start)) : Ent.byNum base start s.data.toList = ([], 0) := by
  unfold Ent.byNum
  rw [h, if_pos (Nat.sub_self _)]
theorem DSt.semi {base start : Nat} {s : ByteArray} {v k : Nat} (h : Ent.digs base 0 (s.data.toList.drop start) = (v, k - start)) (hk : start < k) (hl : k < s.size) (h59 : s[k].toNat = 59) : Ent.byNum base start s.data.toList = (Ent.numb v, k + 1) := by
  unfold Ent.byNum
  rw [h, if_neg (by omega)]
  simp only
  rw [show start + (k - start) = k by omega, get_opt s k hl, if_pos (by rw [(u8_is s[k] 59 (by decide)).2 h59]; rfl)]
theorem DSt.bare {base start : Nat} {s : ByteArray} {v k : Nat} (h : Ent.digs base 0 (s.data.toList.drop start) = (v, k - start)) (hk : start < k) (hl : ∀ h : k < s.size, s[k].toNat ≠ 59) : Ent.byNum base start s.data.toList = (Ent.numb v, k) := by
  unfold Ent.byNum
  rw [h, if_neg (by omega)]
  simp only
  rw [show start + (k - start) = k by omega, if_neg]
  · rfl
  · intro e
    by_cases hl' : k < s.size
    · rw [get_opt s k hl'] at e
      exact hl hl' (by rw [Option.some.inj e]; rfl)
    · rw [get_end s k (by omega)] at e; cases e

set_option maxRecDepth 100000 in
set_option maxHeartbeats 1000000 in
theorem tbyNumber_10 (s : ByteArray) (start : Nat) (w : World) (hst : start ≤ s.size) (hs : s.size ≤ 20000) :
    Calls Tryd.prog 25 #[.string s, .int .i64 start, .int .i64 10] w fun e w' => e = .returned (.tuple #[.string (tstr (Ent.byNum 10 start s.data.toList).1), .int .i64 (Ent.byNum 10 start s.data.toList).2]) ∧ w = w' := by
  go_enter Tryd.func25, Tryd.ntmps25
  go_wp2_with fail
  go_loop [8, 9] (fun a b => ∃ v k : Nat, start ≤ k ∧ k ≤ s.size ∧ v ≤ 1114112 ∧ a = .int .i64 v ∧ b = .int .i64 k ∧ DSt 10 start s.data.toList v k) (fun _ b => s.size - (intOf b).toNat)
  case atStart => exact ⟨0, start, Nat.le_refl _, hst, by omega, rfl, rfl, DSt.start _ _ _⟩
  case round =>
    obtain ⟨v, k, hk1, hk2, hv, rfl, rfl, hD⟩ := hrel
    by_cases hlt : k < s.size
    · by_cases hd : Ent.dig s[k] < 10
      · have hst := hD.step hlt hk1 hd
        have HS := Lib.hid hst
        clear hst hD
        obtain ⟨d, hdd⟩ : ∃ d, Ent.dig s[k] = d := ⟨_, rfl⟩
        have hc : ∀ w : World, Calls Tryd.prog 36 #[.int .u8 s[k].toNat] w fun e w' => e = .returned (.int .i64 (d : Nat)) ∧ w = w' := fun w => by rw [← hdd]; exact tdigit_any s[k] w
        rw [hdd] at hd HS
        clear hdd
        go_wp2_with (go_at_call 36; refine (hc _).mono ?_; rintro e w' ⟨rfl, rfl⟩)
        go_round
        case rel => exact ⟨min (v * 10 + d) 1114112, k + 1, by omega, by omega, by omega, by go_num, by go_num, HS.out⟩
        case measure => simp [intOf]; omega
      · have hend := hD.stop (fun _ => hd)
        obtain ⟨d, hdd⟩ : ∃ d, Ent.dig s[k] = d := ⟨_, rfl⟩
        have hc : ∀ w : World, Calls Tryd.prog 36 #[.int .u8 s[k].toNat] w fun e w' => e = .returned (.int .i64 (d : Nat)) ∧ w = w' := fun w => by rw [← hdd]; exact tdigit_any s[k] w
        rw [hdd] at hd
        clear hdd hD
        have hres1 := fun (h : start < k) (h59 : s[k].toNat = 59) => DSt.semi hend h hlt h59
        have hres2 := fun (h : start < k) (h59 : s[k].toNat ≠ 59) => DSt.bare hend h (fun _ => h59)
        by_cases he : k = start
        · subst he
          have hres := Lib.hid (DSt.none hend)
          clear hend hres1 hres2
          go_wp2_with (go_at_call 36; refine (hc _).mono ?_; rintro e w' ⟨rfl, rfl⟩)
          go_ret2
          exact ⟨retSI (by rw [hres.out]; rfl) (by rw [hres.out]; rfl), rfl⟩
        · have hgt : start < k := by omega
          clear hend
          by_cases h59 : s[k].toNat = 59
          · have hres := Lib.hid (hres1 hgt h59)
            have f59 : ((s[k].toNat : Int) == 59) = true := by rw [h59]; rfl
            clear hres1 hres2 h59
            go_wp2_with (first | (go_at_call 36; refine (hc _).mono ?_; rintro e w' ⟨rfl, rfl⟩) | (go_at_call 14; refine (tnumber_any _ _).mono ?_; rintro e w' ⟨rfl, rfl⟩))
            go_ret2
            exact ⟨retSI (by rw [hres.out]) (by rw [hres.out]; go_num), rfl⟩
          · have hres := Lib.hid (hres2 hgt h59)
            have f59 : ((s[k].toNat : Int) == 59) = false := by
              rw [beq_eq_false_iff_ne]; omega
            clear hres1 hres2 h59
            go_wp2_with (first | (go_at_call 36; refine (hc _).mono ?_; rintro e w' ⟨rfl, rfl⟩) | (go_at_call 14; refine (tnumber_any _ _).mono ?_; rintro e w' ⟨rfl, rfl⟩))
            go_ret2
            exact ⟨retSI (by rw [hres.out]) (by rw [hres.out]), rfl⟩
    · have hend := hD.stop (fun h => absurd h hlt)
      have hks : k = s.size := by omega
      clear hD
      by_cases he : k = start
      · have hres := Lib.hid (DSt.none (he ▸ hend))
        subst he
        clear hend hks
        go_wp2_with fail
        go_ret2
        exact ⟨retSI (by rw [hres.out]; rfl) (by rw [hres.out]; rfl), rfl⟩
      · have hgt : start < k := by omega
        have hres := Lib.hid (DSt.bare hend hgt (fun h => absurd h hlt))
        clear hend hks
        go_wp2_with (go_at_call 14; refine (tnumber_any _ _).mono ?_; rintro e w' ⟨rfl, rfl⟩)
        go_ret2
        exact ⟨retSI (by rw [hres.out]) (by rw [hres.out]), rfl⟩

set_option maxRecDepth 100000 in
set_option maxHeartbeats 1000000 in
theorem tbyNumber_16 (s : ByteArray) (start : Nat) (w : World) (hst : start ≤ s.size) (hs : s.size ≤ 20000) :
    Calls Tryd.prog 25 #[.string s, .int .i64 start, .int .i64 16] w fun e w' => e = .returned (.tuple #[.string (tstr (Ent.byNum 16 start s.data.toList).1), .int .i64 (Ent.byNum 16 start s.data.toList).2]) ∧ w = w' := by
  go_enter Tryd.func25, Tryd.ntmps25
  go_wp2_with fail
  go_loop [8, 9] (fun a b => ∃ v k : Nat, start ≤ k ∧ k ≤ s.size ∧ v ≤ 1114112 ∧ a = .int .i64 v ∧ b = .int .i64 k ∧ DSt 16 start s.data.toList v k) (fun _ b => s.size - (intOf b).toNat)
  case atStart => exact ⟨0, start, Nat.le_refl _, hst, by omega, rfl, rfl, DSt.start _ _ _⟩
  case round =>
    obtain ⟨v, k, hk1, hk2, hv, rfl, rfl, hD⟩ := hrel
    by_cases hlt : k < s.size
    · by_cases hd : Ent.dig s[k] < 16
      · have hst := hD.step hlt hk1 hd
        have HS := Lib.hid hst
        clear hst hD
        obtain ⟨d, hdd⟩ : ∃ d, Ent.dig s[k] = d := ⟨_, rfl⟩
        have hc : ∀ w : World, Calls Tryd.prog 36 #[.int .u8 s[k].toNat] w fun e w' => e = .returned (.int .i64 (d : Nat)) ∧ w = w' := fun w => by rw [← hdd]; exact tdigit_any s[k] w
        rw [hdd] at hd HS
        clear hdd
        go_wp2_with (go_at_call 36; refine (hc _).mono ?_; rintro e w' ⟨rfl, rfl⟩)
        go_round
        case rel => exact ⟨min (v * 16 + d) 1114112, k + 1, by omega, by omega, by omega, by go_num, by go_num, HS.out⟩
        case measure => simp [intOf]; omega
      · have hend := hD.stop (fun _ => hd)
        obtain ⟨d, hdd⟩ : ∃ d, Ent.dig s[k] = d := ⟨_, rfl⟩
        have hc : ∀ w : World, Calls Tryd.prog 36 #[.int .u8 s[k].toNat] w fun e w' => e = .returned (.int .i64 (d : Nat)) ∧ w = w' := fun w => by rw [← hdd]; exact tdigit_any s[k] w
        rw [hdd] at hd
        clear hdd hD
        have hres1 := fun (h : start < k) (h59 : s[k].toNat = 59) => DSt.semi hend h hlt h59
        have hres2 := fun (h : start < k) (h59 : s[k].toNat ≠ 59) => DSt.bare hend h (fun _ => h59)
        by_cases he : k = start
        · subst he
          have hres := Lib.hid (DSt.none hend)
          clear hend hres1 hres2
          go_wp2_with (go_at_call 36; refine (hc _).mono ?_; rintro e w' ⟨rfl, rfl⟩)
          go_ret2
          exact ⟨retSI (by rw [hres.out]; rfl) (by rw [hres.out]; rfl), rfl⟩
        · have hgt : start < k := by omega
          clear hend
          by_cases h59 : s[k].toNat = 59
          · have hres := Lib.hid (hres1 hgt h59)
            have f59 : ((s[k].toNat : Int) == 59) = true := by rw [h59]; rfl
            clear hres1 hres2 h59
            go_wp2_with (first | (go_at_call 36; refine (hc _).mono ?_; rintro e w' ⟨rfl, rfl⟩) | (go_at_call 14; refine (tnumber_any _ _).mono ?_; rintro e w' ⟨rfl, rfl⟩))
            go_ret2
            exact ⟨retSI (by rw [hres.out]) (by rw [hres.out]; go_num), rfl⟩
          · have hres := Lib.hid (hres2 hgt h59)
            have f59 : ((s[k].toNat : Int) == 59) = false := by
              rw [beq_eq_false_iff_ne]; omega
            clear hres1 hres2 h59
            go_wp2_with (first | (go_at_call 36; refine (hc _).mono ?_; rintro e w' ⟨rfl, rfl⟩) | (go_at_call 14; refine (tnumber_any _ _).mono ?_; rintro e w' ⟨rfl, rfl⟩))
            go_ret2
            exact ⟨retSI (by rw [hres.out]) (by rw [hres.out]), rfl⟩
    · have hend := hD.stop (fun h => absurd h hlt)
      have hks : k = s.size := by omega
      clear hD
      by_cases he : k = start
      · have hres := Lib.hid (DSt.none (he ▸ hend))
        subst he
        clear hend hks
        go_wp2_with fail
        go_ret2
        exact ⟨retSI (by rw [hres.out]; rfl) (by rw [hres.out]; rfl), rfl⟩
      · have hgt : start < k := by omega
        have hres := Lib.hid (DSt.bare hend hgt (fun h => absurd h hlt))
        clear hend hks
        go_wp2_with (go_at_call 14; refine (tnumber_any _ _).mono ?_; rintro e w' ⟨rfl, rfl⟩)
        go_ret2
        exact ⟨retSI (by rw [hres.out]) (by rw [hres.out]), rfl⟩

end Go.Proofs.YtmpdapjfndjicaaDoor
