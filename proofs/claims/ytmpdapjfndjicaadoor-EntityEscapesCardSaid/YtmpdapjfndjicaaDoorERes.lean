/- The reference's Escape returns what the plain texts say. -/
import Derived.Test.YtmpdapjfndjicaaDoorEEsp
import Derived.Test.YtmpdapjfndjicaaDoorENum
namespace Go.Proofs.YtmpdapjfndjicaaDoor
open Go Go.RowKit

/-- What has been written when k bytes have been read. -/
def EscSt (f : UInt8 → List UInt8) (s : ByteArray) (k : Nat) (O : ByteArray) : Prop := O = tstr ((s.data.toList.take k).flatMap f) ∧ O.size ≤ 6 * k
theorem EscSt.start (f : UInt8 → List UInt8) (s : ByteArray) : EscSt f s 0 ⟨#[]⟩ := ⟨by simp [tstr], Nat.zero_le _⟩
theorem EscSt.step {f : UInt8 → List UInt8} {s : ByteArray} {k : Nat} {O : ByteArray} (h : EscSt f s k O) (hk : k < s.size) {l : List UInt8} (hl : f s[k] = l) (hn : l.length ≤ 6) : EscSt f s (k + 1) (O ++ tstr l) := by
  obtain ⟨h1, h2⟩ := h
  refine ⟨?_, ?_⟩
  · have e : s.data.toList.take (k + 1) = s.data.toList.take k ++ [s[k]] := by
      have hkl : k < s.data.toList.length := hk
      rw [List.take_succ_eq_append_getElem hkl]; rfl
    rw [e, List.flatMap_append, List.flatMap_cons, List.flatMap_nil, List.append_nil, hl, ← tstr_append, h1]
  · rw [ByteArray.size_append, tstr_size]; omega
theorem EscSt.done {f : UInt8 → List UInt8} {s : ByteArray} {O : ByteArray} (h : EscSt f s s.size O) : O = tstr (s.data.toList.flatMap f) := by
  rw [h.1, List.take_of_length_le (by exact Nat.le_refl _)]
theorem slice_one (s : ByteArray) (k : Nat) (h : k < s.size) (W : World) : (Instr.slice 9 (.string s) (some (.int .i64 k)) (some (.int .i64 ((k : Int) + 1))) none).run Tryd.prog W = .ok (.string (tstr [s[k]])) W := by
  have hex : s.extract k (k + 1) = tstr [s[k]] := by
    have e := textract s k 1
    rw [drop_get s k h] at e
    have e2 : (s.extract k (k + 1)).data.toList = [s[k]] := e
    rw [← tstr_of (s.extract k (k + 1)), e2]
  rw [run_slice_string W _ s _ _ _ _ Tryd.underlying9 (by omega) (by omega) (by omega), ← hex]; rfl

set_option maxRecDepth 100000 in
set_option maxHeartbeats 2000000 in
theorem rescape_text (s : ByteArray) (w : World) (hs : s.size ≤ 2000) :
    Calls Tryd.prog 21 #[.string s, .bool false] w fun e w' => e = .returned (.string (tstr (s.data.toList.flatMap Ent.esc))) ∧ w = w' := by
  go_enter Tryd.func21, Tryd.ntmps21
  go_wp2_with fail
  go_loop [5, 6] (fun a b => ∃ (O : ByteArray) (k : Nat), k ≤ s.size ∧ a = .string O ∧ b = .int .i64 k ∧ EscSt Ent.esc s k O) (fun _ b => s.size - (intOf b).toNat)
  case atStart => exact ⟨⟨#[]⟩, 0, Nat.zero_le _, rfl, rfl, EscSt.start _ _⟩
  case round =>
    obtain ⟨O, k, hk, rfl, rfl, hE⟩ := hrel
    have hOz : O.size ≤ 12000 := by have := hE.2; omega
    by_cases hlt : k < s.size
    · have hsl := slice_one s k hlt
      by_cases h38 : s[k] = 38
      · have hst := Lib.hid (hE.step hlt (l := [38, 97, 109, 112, 59]) (by rw [h38]; rfl) (by decide))
        rw [h38] at hsl
        have hsl' : ∀ W : World, (Instr.slice 9 (.string s) (some (.int .i64 k)) (some (.int .i64 ((k : Int) + 1))) none).run Tryd.prog W = .ok (.string ⟨#[38]⟩) W := hsl
        have had : ∀ W : World, (Op.stringOp .add O ⟨#[38, 97, 109, 112, 59]⟩).run Tryd.prog W = .ok (.string (O ++ tstr [38, 97, 109, 112, 59])) W := fun W => run_string_add_sum W _ _ (by have : (ByteArray.mk #[38, 97, 109, 112, 59]).size = 5 := rfl; omega)
        clear hE hsl
        go_wp2_with fail
        go_round
        case rel => exact ⟨_, k + 1, by omega, rfl, by go_num, hst.out⟩
        case measure => simp [intOf]; omega
      by_cases h13 : s[k] = 13
      · have hst := Lib.hid (hE.step hlt (l := [38, 35, 49, 51, 59]) (by rw [h13]; rfl) (by decide))
        rw [h13] at hsl
        have hsl' : ∀ W : World, (Instr.slice 9 (.string s) (some (.int .i64 k)) (some (.int .i64 ((k : Int) + 1))) none).run Tryd.prog W = .ok (.string ⟨#[13]⟩) W := hsl
        have had : ∀ W : World, (Op.stringOp .add O ⟨#[38, 35, 49, 51, 59]⟩).run Tryd.prog W = .ok (.string (O ++ tstr [38, 35, 49, 51, 59])) W := fun W => run_string_add_sum W _ _ (by have : (ByteArray.mk #[38, 35, 49, 51, 59]).size = 5 := rfl; omega)
        clear hE hsl
        go_wp2_with fail
        go_round
        case rel => exact ⟨_, k + 1, by omega, rfl, by go_num, hst.out⟩
        case measure => simp [intOf]; omega
      by_cases h60 : s[k] = 60
      · have hst := Lib.hid (hE.step hlt (l := [38, 108, 116, 59]) (by rw [h60]; rfl) (by decide))
        rw [h60] at hsl
        have hsl' : ∀ W : World, (Instr.slice 9 (.string s) (some (.int .i64 k)) (some (.int .i64 ((k : Int) + 1))) none).run Tryd.prog W = .ok (.string ⟨#[60]⟩) W := hsl
        have had : ∀ W : World, (Op.stringOp .add O ⟨#[38, 108, 116, 59]⟩).run Tryd.prog W = .ok (.string (O ++ tstr [38, 108, 116, 59])) W := fun W => run_string_add_sum W _ _ (by have : (ByteArray.mk #[38, 108, 116, 59]).size = 4 := rfl; omega)
        clear hE hsl
        go_wp2_with fail
        go_round
        case rel => exact ⟨_, k + 1, by omega, rfl, by go_num, hst.out⟩
        case measure => simp [intOf]; omega
      by_cases h62 : s[k] = 62
      · have hst := Lib.hid (hE.step hlt (l := [38, 103, 116, 59]) (by rw [h62]; rfl) (by decide))
        rw [h62] at hsl
        have hsl' : ∀ W : World, (Instr.slice 9 (.string s) (some (.int .i64 k)) (some (.int .i64 ((k : Int) + 1))) none).run Tryd.prog W = .ok (.string ⟨#[62]⟩) W := hsl
        have had : ∀ W : World, (Op.stringOp .add O ⟨#[38, 103, 116, 59]⟩).run Tryd.prog W = .ok (.string (O ++ tstr [38, 103, 116, 59])) W := fun W => run_string_add_sum W _ _ (by have : (ByteArray.mk #[38, 103, 116, 59]).size = 4 := rfl; omega)
        clear hE hsl
        go_wp2_with fail
        go_round
        case rel => exact ⟨_, k + 1, by omega, rfl, by go_num, hst.out⟩
        case measure => simp [intOf]; omega
      have hst := Lib.hid (hE.step hlt (l := [s[k]]) (by unfold Ent.esc; rw [if_neg h38, if_neg h13, if_neg h60, if_neg h62]) (by simp))
      have q38 : ((tstr [s[k]]).toList == [38]) = false := by
        rw [Lib.toList_data, tstr_data]; simpa using h38
      have q13 : ((tstr [s[k]]).toList == [13]) = false := by
        rw [Lib.toList_data, tstr_data]; simpa using h13
      have q60 : ((tstr [s[k]]).toList == [60]) = false := by
        rw [Lib.toList_data, tstr_data]; simpa using h60
      have q62 : ((tstr [s[k]]).toList == [62]) = false := by
        rw [Lib.toList_data, tstr_data]; simpa using h62
      have hz1 : (tstr [s[k]]).size = 1 := by rw [tstr_size]; rfl
      obtain ⟨X, hX⟩ : ∃ X, tstr [s[k]] = X := ⟨_, rfl⟩
      rw [hX] at hst hsl hz1 q38 q13 q60 q62
      have had : ∀ W : World, (Op.stringOp .add O X).run Tryd.prog W = .ok (.string (O ++ X)) W := fun W => run_string_add_sum W _ _ (by omega)
      clear hE hX hz1 h38 h13 h60 h62
      go_wp2_with fail
      all_goals
        go_round
        case rel => exact ⟨_, k + 1, by omega, rfl, by go_num, hst.out⟩
        case measure => simp [intOf]; omega
    · obtain rfl : k = s.size := by omega
      have hd := Lib.hid hE.done
      clear hE
      go_wp2_with fail
      go_ret
      exact ⟨retS hd.out, rfl⟩

set_option maxRecDepth 100000 in
set_option maxHeartbeats 2000000 in
theorem rescape_attr (s : ByteArray) (w : World) (hs : s.size ≤ 2000) :
    Calls Tryd.prog 21 #[.string s, .bool true] w fun e w' => e = .returned (.string (tstr (s.data.toList.flatMap Ent.escA))) ∧ w = w' := by
  go_enter Tryd.func21, Tryd.ntmps21
  go_wp2_with fail
  go_loop [5, 6] (fun a b => ∃ (O : ByteArray) (k : Nat), k ≤ s.size ∧ a = .string O ∧ b = .int .i64 k ∧ EscSt Ent.escA s k O) (fun _ b => s.size - (intOf b).toNat)
  case atStart => exact ⟨⟨#[]⟩, 0, Nat.zero_le _, rfl, rfl, EscSt.start _ _⟩
  case round =>
    obtain ⟨O, k, hk, rfl, rfl, hE⟩ := hrel
    have hOz : O.size ≤ 12000 := by have := hE.2; omega
    by_cases hlt : k < s.size
    · have hsl := slice_one s k hlt
      by_cases h38 : s[k] = 38
      · have hst := Lib.hid (hE.step hlt (l := [38, 97, 109, 112, 59]) (by rw [h38]; rfl) (by decide))
        rw [h38] at hsl
        have hsl' : ∀ W : World, (Instr.slice 9 (.string s) (some (.int .i64 k)) (some (.int .i64 ((k : Int) + 1))) none).run Tryd.prog W = .ok (.string ⟨#[38]⟩) W := hsl
        have had : ∀ W : World, (Op.stringOp .add O ⟨#[38, 97, 109, 112, 59]⟩).run Tryd.prog W = .ok (.string (O ++ tstr [38, 97, 109, 112, 59])) W := fun W => run_string_add_sum W _ _ (by have : (ByteArray.mk #[38, 97, 109, 112, 59]).size = 5 := rfl; omega)
        clear hE hsl
        go_wp2_with fail
        go_round
        case rel => exact ⟨_, k + 1, by omega, rfl, by go_num, hst.out⟩
        case measure => simp [intOf]; omega
      by_cases h13 : s[k] = 13
      · have hst := Lib.hid (hE.step hlt (l := [38, 35, 49, 51, 59]) (by rw [h13]; rfl) (by decide))
        rw [h13] at hsl
        have hsl' : ∀ W : World, (Instr.slice 9 (.string s) (some (.int .i64 k)) (some (.int .i64 ((k : Int) + 1))) none).run Tryd.prog W = .ok (.string ⟨#[13]⟩) W := hsl
        have had : ∀ W : World, (Op.stringOp .add O ⟨#[38, 35, 49, 51, 59]⟩).run Tryd.prog W = .ok (.string (O ++ tstr [38, 35, 49, 51, 59])) W := fun W => run_string_add_sum W _ _ (by have : (ByteArray.mk #[38, 35, 49, 51, 59]).size = 5 := rfl; omega)
        clear hE hsl
        go_wp2_with fail
        go_round
        case rel => exact ⟨_, k + 1, by omega, rfl, by go_num, hst.out⟩
        case measure => simp [intOf]; omega
      by_cases h34 : s[k] = 34
      · have hst := Lib.hid (hE.step hlt (l := [38, 113, 117, 111, 116, 59]) (by rw [h34]; rfl) (by decide))
        rw [h34] at hsl
        have hsl' : ∀ W : World, (Instr.slice 9 (.string s) (some (.int .i64 k)) (some (.int .i64 ((k : Int) + 1))) none).run Tryd.prog W = .ok (.string ⟨#[34]⟩) W := hsl
        have had : ∀ W : World, (Op.stringOp .add O ⟨#[38, 113, 117, 111, 116, 59]⟩).run Tryd.prog W = .ok (.string (O ++ tstr [38, 113, 117, 111, 116, 59])) W := fun W => run_string_add_sum W _ _ (by have : (ByteArray.mk #[38, 113, 117, 111, 116, 59]).size = 6 := rfl; omega)
        clear hE hsl
        go_wp2_with fail
        go_round
        case rel => exact ⟨_, k + 1, by omega, rfl, by go_num, hst.out⟩
        case measure => simp [intOf]; omega
      have hst := Lib.hid (hE.step hlt (l := [s[k]]) (by unfold Ent.escA; rw [if_neg h38, if_neg h13, if_neg h34]) (by simp))
      have q38 : ((tstr [s[k]]).toList == [38]) = false := by
        rw [Lib.toList_data, tstr_data]; simpa using h38
      have q13 : ((tstr [s[k]]).toList == [13]) = false := by
        rw [Lib.toList_data, tstr_data]; simpa using h13
      have q34 : ((tstr [s[k]]).toList == [34]) = false := by
        rw [Lib.toList_data, tstr_data]; simpa using h34
      have hz1 : (tstr [s[k]]).size = 1 := by rw [tstr_size]; rfl
      obtain ⟨X, hX⟩ : ∃ X, tstr [s[k]] = X := ⟨_, rfl⟩
      rw [hX] at hst hsl hz1 q38 q13 q34
      have had : ∀ W : World, (Op.stringOp .add O X).run Tryd.prog W = .ok (.string (O ++ X)) W := fun W => run_string_add_sum W _ _ (by omega)
      clear hE hX hz1 h38 h13 h34
      go_wp2_with fail
      all_goals
        go_round
        case rel => exact ⟨_, k + 1, by omega, rfl, by go_num, hst.out⟩
        case measure => simp [intOf]; omega
    · obtain rfl : k = s.size := by omega
      have hd := Lib.hid hE.done
      clear hE
      go_wp2_with fail
      go_ret
      exact ⟨retS hd.out, rfl⟩

end Go.Proofs.YtmpdapjfndjicaaDoor
