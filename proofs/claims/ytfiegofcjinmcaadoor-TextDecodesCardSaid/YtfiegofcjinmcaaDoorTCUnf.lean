/- How many bytes at its end a text withholds. -/
import Derived.Test.YtfiegofcjinmcaaDoorTCFul
import Derived.Test.YtfiegofcjinmcaaDoorTRep
namespace Go.Proofs.YtfiegofcjinmcaaDoor
open Go.RowKit

theorem first_size (a : Nat) : (a < 128 → Lib.firstT a % 8 = 0) ∧ (128 ≤ a → a < 194 → Lib.firstT a % 8 = 1) ∧ (194 ≤ a → a < 224 → Lib.firstT a % 8 = 2) ∧ (224 ≤ a → a < 240 → Lib.firstT a % 8 = 3) ∧ (240 ≤ a → a ≤ 244 → Lib.firstT a % 8 = 4) ∧ (244 < a → Lib.firstT a % 8 = 1) := by
  unfold Lib.firstT
  repeat' split
  all_goals omega
theorem first_lt (a : Nat) : Lib.firstT a < 256 := by
  unfold Lib.firstT
  repeat' split
  all_goals omega
theorem snd_acc (a b : UInt8) (h1 : 224 ≤ a.toNat) (h2 : a.toNat ≤ 244) : Txt.snd a b = (!decide (b.toNat < Lib.accLo (Lib.firstT a.toNat / 16)) && !decide (Lib.accHi (Lib.firstT a.toNat / 16) < b.toNat)) := by
  obtain ⟨x, hx⟩ : ∃ x, a.toNat = x := ⟨_, rfl⟩
  have key : ∀ lo hi : Nat, (x = 224 → lo = 160 ∧ hi = 191) → (x = 237 → lo = 128 ∧ hi = 159) → (x = 240 → lo = 144 ∧ hi = 191) → (x = 244 → lo = 128 ∧ hi = 143) → (x ≠ 224 → x ≠ 237 → x ≠ 240 → x ≠ 244 → lo = 128 ∧ hi = 191) → Txt.snd a b = (!decide (b.toNat < lo) && !decide (hi < b.toNat)) := by
    intro lo hi c1 c2 c3 c4 c5
    unfold Txt.snd Txt.cont
    rw [hx]
    repeat' split
    all_goals (rw [Bool.eq_iff_iff]; simp; omega)
  rw [hx]
  refine key _ _ ?_ ?_ ?_ ?_ ?_
  · rintro rfl; decide
  · rintro rfl; decide
  · rintro rfl; decide
  · rintro rfl; decide
  · intro n1 n2 n3 n4
    have : Lib.firstT x = 3 ∨ Lib.firstT x = 4 := by
      unfold Lib.firstT
      repeat' split
      all_goals omega
    rcases this with h | h <;> rw [h] <;> decide

theorem bytes_one (p : ByteArray) (h : p.size = 1) : p.data.toList = [p[0]] := by
  have h1 := drop_at p 0 (by omega)
  have h2 := drop_end p 1 (by omega)
  rw [List.drop_zero] at h1
  rw [h1, h2]
theorem bytes_two (p : ByteArray) (h : p.size = 2) : p.data.toList = [p[0], p[1]] := by
  have h1 := drop_at p 0 (by omega)
  have h2 := drop_at p 1 (by omega)
  have h3 := drop_end p 2 (by omega)
  rw [List.drop_zero] at h1
  rw [h1, h2, h3]
theorem bytes_three (p : ByteArray) (h : p.size = 3) : p.data.toList = [p[0], p[1], p[2]] := by
  have h1 := drop_at p 0 (by omega)
  have h2 := drop_at p 1 (by omega)
  have h3 := drop_at p 2 (by omega)
  have h4 := drop_end p 3 (by omega)
  rw [List.drop_zero] at h1
  rw [h1, h2, h3, h4]

theorem tfull_any (p : ByteArray) (w : World) (h0 : 1 ≤ p.size) (h3 : p.size ≤ 3) (hT : Lit w) :
    Calls Tryd.prog 36 #[.string p] w fun e w' => e = .returned (.bool (!Txt.beg p.data.toList)) ∧ Below w.heap.size w w' := by
  have hsz := first_size p[0].toNat
  have hlt := first_lt p[0].toNat
  obtain ⟨x, hx⟩ : ∃ x, Lib.firstT p[0].toNat = x := ⟨_, rfl⟩
  rw [hx] at hsz hlt
  by_cases hshort : x % 8 ≤ p.size
  · have hb : Txt.beg p.data.toList = false := by
      rcases (by omega : p.size = 1 ∨ p.size = 2 ∨ p.size = 3) with h | h | h
      · rw [bytes_one p h]; simp [Txt.beg]; omega
      · rw [bytes_two p h]; simp [Txt.beg]; intro a1 a2; omega
      · rw [bytes_three p h]; simp [Txt.beg]; intro a1 a2; omega
    rw [hb]
    exact full_short p w x (by omega) h3 hT hx hlt hshort
  · rcases (by omega : p.size = 1 ∨ p.size = 2 ∨ p.size = 3) with h | h | h
    · have hb : Txt.beg p.data.toList = true := by rw [bytes_one p h]; simp [Txt.beg]; omega
      rw [hb]
      exact full_one p w x _ _ h hT hx hlt (by omega) rfl rfl
    · have hr : 224 ≤ p[0].toNat ∧ p[0].toNat ≤ 244 := by omega
      have hs := snd_acc p[0] p[1] hr.1 hr.2
      rw [hx] at hs
      have hb : Txt.beg p.data.toList = Txt.snd p[0] p[1] := by rw [bytes_two p h]; simp [Txt.beg, hr]
      rw [hb, hs]
      by_cases ha : p[1].toNat < Lib.accLo (x / 16)
      · simp only [ha, decide_true, Bool.not_true, Bool.false_and, Bool.not_false]
        exact full_low2 p w x _ _ h hT hx hlt (by omega) rfl rfl ha
      · by_cases hc : Lib.accHi (x / 16) < p[1].toNat
        · simp only [hc, decide_true, Bool.not_true, Bool.and_false, Bool.not_false]
          exact full_high2 p w x _ _ h hT hx hlt (by omega) rfl rfl ha hc
        · simp only [ha, hc, decide_false, Bool.not_false, Bool.and_true, Bool.not_true]
          exact full_two p w x _ _ h hT hx hlt (by omega) rfl rfl ha hc
    · have hr : 240 ≤ p[0].toNat ∧ p[0].toNat ≤ 244 := by omega
      have hs := snd_acc p[0] p[1] (by omega) hr.2
      rw [hx] at hs
      have hb : Txt.beg p.data.toList = (Txt.snd p[0] p[1] && Txt.cont p[2]) := by rw [bytes_three p h]; simp [Txt.beg, hr]
      rw [hb, hs]
      by_cases ha : p[1].toNat < Lib.accLo (x / 16)
      · simp only [ha, decide_true, Bool.not_true, Bool.false_and, Bool.not_false]
        exact full_low3 p w x _ _ h hT hx hlt (by omega) rfl rfl ha
      · by_cases hc : Lib.accHi (x / 16) < p[1].toNat
        · simp only [hc, decide_true, Bool.not_true, Bool.and_false, Bool.false_and, Bool.not_false]
          exact full_high3 p w x _ _ h hT hx hlt (by omega) rfl rfl ha hc
        · simp only [ha, hc, decide_false, Bool.not_false, Bool.and_true, Bool.true_and]
          by_cases hd : p[2].toNat < 128
          · have hcn : Txt.cont p[2] = false := by simp [Txt.cont]; omega
            rw [hcn]
            exact full_third_low p w x _ _ h hT hx hlt (by omega) rfl rfl ha hc hd
          · by_cases he : 191 < p[2].toNat
            · have hcn : Txt.cont p[2] = false := by simp [Txt.cont]; omega
              rw [hcn]
              exact full_third_high p w x _ _ h hT hx hlt (by omega) rfl rfl ha hc hd he
            · have hcn : Txt.cont p[2] = true := by simp [Txt.cont]; omega
              rw [hcn]
              exact full_three p w x _ _ h hT hx hlt (by omega) rfl rfl ha hc hd he

/-- A suffix of a text as a string. -/
theorem suffix_str (s : ByteArray) (k : Nat) (h : k ≤ s.size) : (s.extract (s.size - k) s.size).data.toList = s.data.toList.drop (s.size - k) ∧ (s.extract (s.size - k) s.size).size = k := by
  refine ⟨?_, by rw [ByteArray.size_extract]; omega⟩
  have := textract s (s.size - k) k
  rw [show s.size - k + k = s.size from by omega] at this
  rw [this, List.take_of_length_le]
  rw [List.length_drop]
  show s.size - _ ≤ k
  omega

/-- Where the loop has come to nothing longer than k, and k bytes are nothing or a beginning: there the text may be cut. -/
theorem cut_of {l : List UInt8} {k : Nat} (hk : k ≤ l.length) (h1 : k = 0 ∨ Txt.beg (l.drop (l.length - k)) = true) (h2 : ∀ j, k < j → j ≤ 3 → j ≤ l.length → Txt.beg (l.drop (l.length - j)) = false) :
    Txt.Cut (l.take (l.length - k)) (l.drop (l.length - k)) := by
  refine ⟨?_, fun d q e hq => ?_⟩
  · rcases h1 with h1 | h1
    · left; rw [h1]; exact List.drop_eq_nil_of_le (by omega)
    · exact .inr h1
  · have hl : l = d ++ (q ++ l.drop (l.length - k)) := by
      rw [← List.append_assoc, ← e, List.take_append_drop]
    have hlen := congrArg List.length hl
    rw [List.length_append, List.length_append, List.length_drop] at hlen
    have hq1 : 1 ≤ q.length := List.length_pos_iff.2 hq
    obtain ⟨u, hu⟩ : ∃ u, q ++ l.drop (l.length - k) = u := ⟨_, rfl⟩
    have hul : u.length = q.length + k := by rw [← hu, List.length_append, List.length_drop]; omega
    rw [hu] at hl ⊢
    by_cases h4 : u.length ≤ 3
    · have := h2 u.length (by omega) h4 (by omega)
      have hd : l.drop (l.length - u.length) = u := by
        rw [show l.length - u.length = d.length from by omega]
        conv => lhs; rw [hl]
        exact List.drop_left
      rwa [hd] at this
    · cases hb : Txt.beg u with
      | false => rfl
      | true => have := (Txt.beg_len hb).2; omega

set_option maxRecDepth 100000 in
set_option maxHeartbeats 1000000 in
theorem tunfinished_any (s : ByteArray) (w : World) (hs : s.size ≤ 10010) (hT : Lit w) :
    Calls Tryd.prog 25 #[.string s] w fun e w' => (∃ k : Nat, k ≤ s.size ∧ k ≤ 3 ∧ e = .returned (.int .i64 k) ∧ Txt.Cut (s.data.toList.take (s.size - k)) (s.data.toList.drop (s.size - k))) ∧ Below w.heap.size w w' := by
  have hll : s.data.toList.length = s.size := rfl
  obtain ⟨m, hm⟩ : ∃ m : Nat, m = min 3 s.size := ⟨_, rfl⟩
  go_enter Tryd.func25, Tryd.ntmps25
  go_wp2_with fail
  go_loopw [3] (fun i wr => ∃ k : Nat, k ≤ 3 ∧ k ≤ s.size ∧ i = .int .i64 k ∧ Hid (∀ j, k < j → j ≤ 3 → j ≤ s.size → Txt.beg (s.data.toList.drop (s.size - j)) = false) ∧ Below w.heap.size w wr) (fun i _ => (intOf i).toNat)
  case atStart => exact ⟨m, by omega, by omega, by rw [show min 3 (s.size : Int) = (m : Int) from by omega], Lib.hid (fun j h1 h2 h3 => by omega), Below.refl _ _⟩
  case round =>
    obtain ⟨k, hk3, hks, rfl, HJ, hbel⟩ := hrel
    by_cases hz : 0 < k
    · obtain ⟨e1, e2⟩ := suffix_str s k hks
      have hF := tfull_any (s.extract (s.size - k) s.size) wr (by omega) (by omega) (hT.below hbel)
      rw [e1] at hF
      have hz' : (0 : Int) < (k : Int) := by omega
      have hsl : ∀ W : World, (Instr.slice 9 (.string s) (some (.int .i64 ((s.size : Int) - (k : Int)))) none none).run Tryd.prog W = .ok (.string (s.extract (s.size - k) s.size)) W := by
        intro W
        rw [run_slice_string_l (ht := Tryd.underlying9) (h0 := by omega) (h1 := by omega), show ((s.size : Int) - (k : Int)).toNat = s.size - k from by omega]
      clear e1 e2
      cases hb : Txt.beg (s.data.toList.drop (s.size - k)) with
      | true =>
        rw [hb] at hF
        have HB := Lib.hid hb
        clear hb
        go_wp2_with fail
        refine hF.mono ?_
        rintro e w2 ⟨rfl, hb2⟩
        go_wp2_with fail
        go_ret
        exact ⟨⟨k, hks, hk3, rfl, cut_of hks (.inr HB.out) HJ.out⟩, hbel.trans (hb2.mono hbel.size)⟩
      | false =>
        rw [hb] at hF
        have HB := Lib.hid hb
        clear hb
        go_wp2_with fail
        refine hF.mono ?_
        rintro e w2 ⟨rfl, hb2⟩
        go_wp2_with fail
        go_roundw
        case rel =>
          refine ⟨k - 1, by omega, by omega, by go_num, Lib.hid fun j h1 h2 h3 => ?_, hbel.trans (hb2.mono hbel.size)⟩
          by_cases hjk : j = k
          · rw [hjk]; exact HB.out
          · exact HJ.out j (by omega) h2 h3
        case measure => simp [intOf]; omega
    · obtain rfl : k = 0 := by omega
      go_wp2_with fail
      go_ret
      exact ⟨⟨0, Nat.zero_le _, Nat.zero_le _, rfl, cut_of (Nat.zero_le _) (.inl rfl) HJ.out⟩, hbel⟩

end Go.Proofs.YtfiegofcjinmcaaDoor
