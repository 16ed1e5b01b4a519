/- The program's Number, digit, isLetter, isBare return what the plain texts say. -/
import Derived.Test.YtmpdapjfndjicaaDoorEBas
import Derived.Laws.Runes
namespace Go.Proofs.YtmpdapjfndjicaaDoor
open Go Go.RowKit

set_option maxHeartbeats 400000 in
theorem tnumber_any (n : Int) (w : World) :
    Calls Tryd.prog 14 #[.int .i64 n] w fun e w' => e = .returned (.string (tstr (Ent.numb n))) ∧ w = w' := by
  have g : ∀ w : World, (convert 21 9 (.int .i32 n)).run Tryd.prog w = .ok (.string (Utf8.encode n)) w := fun w =>
    run_convert_int_string w _ _ .i32 n (by rw [Tryd.underlying21]; rfl) Tryd.underlying9
  by_cases hb : n < 1 ∨ 1114111 < n
  · have e : tstr (Ent.numb n) = tstr [239, 191, 189] := by unfold Ent.numb; rw [if_pos hb]
    have E := Lib.hid e
    clear e
    rcases hb with hb | hb
    · go_enter Tryd.func14, Tryd.ntmps14
      go_wp2_with fail
      go_ret
      exact ⟨retS (by rw [E.out]; rfl), rfl⟩
    · have g1 : ¬ n < 1 := by omega
      go_enter Tryd.func14, Tryd.ntmps14
      go_wp2_with fail
      go_ret
      exact ⟨retS (by rw [E.out]; rfl), rfl⟩
  · have e : tstr (Ent.numb n) = Utf8.encode n := by unfold Ent.numb; rw [if_neg hb]; rfl
    have E := Lib.hid e
    have g1 : ¬ n < 1 := by omega
    have g2 : ¬ 1114111 < n := by omega
    clear e hb
    go_enter Tryd.func14, Tryd.ntmps14
    go_wp2_with fail
    go_ret
    exact ⟨retS (by rw [E.out]), rfl⟩

set_option maxHeartbeats 400000 in
theorem tdigit_any (c : UInt8) (w : World) :
    Calls Tryd.prog 36 #[.int .u8 c.toNat] w fun e w' => e = .returned (.int .i64 (Ent.dig c)) ∧ w = w' := by
  have hc := c.toNat_lt
  have hd : (Ent.dig c : Int) = if 48 ≤ c.toNat ∧ c.toNat ≤ 57 then (c.toNat : Int) - 48 else if 97 ≤ c.toNat ∧ c.toNat ≤ 102 then (c.toNat : Int) - 87 else if 65 ≤ c.toNat ∧ c.toNat ≤ 70 then (c.toNat : Int) - 55 else 16 := by
    unfold Ent.dig
    repeat' split
    all_goals omega
  have HD := Lib.hid hd
  clear hd
  go_enter Tryd.func36, Tryd.ntmps36
  go_wp2_with fail
  all_goals go_ret
  all_goals refine ⟨retI ?_, rfl⟩
  all_goals rw [HD.out]
  all_goals repeat' split
  all_goals omega

set_option maxHeartbeats 400000 in
theorem tisLetter_any (c : UInt8) (w : World) :
    Calls Tryd.prog 37 #[.int .u8 c.toNat] w fun e w' => e = .returned (.bool (Ent.isL c)) ∧ w = w' := by
  have hc := c.toNat_lt
  go_enter Tryd.func37, Tryd.ntmps37
  go_wp2_with fail
  all_goals go_ret
  all_goals refine ⟨retB ?_, rfl⟩
  all_goals unfold Ent.isL
  all_goals rw [Bool.eq_iff_iff]
  all_goals simp only [Bool.or_eq_true, Bool.and_eq_true, decide_eq_true_eq, true_iff, Bool.false_eq_true, false_iff]
  all_goals omega

set_option maxHeartbeats 400000 in
theorem tisBare_any (s : ByteArray) (w : World) :
    Calls Tryd.prog 38 #[.string s] w fun e w' => e = .returned (.bool (Ent.bare s.data.toList)) ∧ w = w' := by
  have h : Ent.bare s.data.toList = Ent.bare s.toList := by rw [Lib.toList_data]
  have H := Lib.hid h
  clear h
  go_enter Tryd.func38, Tryd.ntmps38
  go_wp2_with fail
  all_goals go_ret
  all_goals refine ⟨retB ?_, rfl⟩
  all_goals rw [H.out]
  all_goals unfold Ent.bare
  all_goals simp_all

end Go.Proofs.YtmpdapjfndjicaaDoor
