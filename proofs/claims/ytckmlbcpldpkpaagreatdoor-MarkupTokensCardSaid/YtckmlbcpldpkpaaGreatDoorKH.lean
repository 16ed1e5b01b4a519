/- The reference's at, letter, stop, Begins, Find, cut, name, closing and value return what the plain texts say. -/
import Derived.OwnWalk
import Derived.Test.YtckmlbcpldpkpaaGreatDoorAApp
import Derived.BigQuiet
import Derived.Test.YtckmlbcpldpkpaaGreatDoorKA
import Derived.Test.YtckmlbcpldpkpaaGreatDoorKB
import Derived.Test.YtckmlbcpldpkpaaGreatDoorKE
namespace Go.Proofs.YtckmlbcpldpkpaaGreatDoor
open Go Go.RowKit
set_option linter.unusedVariables false

theorem u8_test (c : UInt8) (n : Nat) (_h : n < 256) : ((c.toNat : Int) == (n : Int)) = (c.toNat == n) := by
  rw [Bool.eq_iff_iff, beq_iff_eq, beq_iff_eq]; omega

set_option maxHeartbeats 400000 in
theorem mat_any (s p : ByteArray) (i : Nat) (w : World) (hs : s.size ≤ 20000) (hp : p.size ≤ 20000) (hi : i ≤ 20010) (hp0 : 0 < p.size) :
    Calls Tryz.prog 28 #[.string s, .int .i64 i, .string p] w fun e w' => e = .returned (.bool (p.data.toList.isPrefixOf (s.data.toList.drop i))) ∧ w = w' := by
  have hps : p.data.toList.length = p.size := rfl
  by_cases hle : i + p.size ≤ s.size
  · have hsl : ∀ W : World, (Instr.slice 9 (.string s) (some (.int .i64 i)) (some (.int .i64 ((i : Int) + (p.size : Int)))) none).run Tryz.prog W = .ok (.string (s.extract i (i + p.size))) W := fun W => by
      rw [run_slice_string W _ s _ _ _ _ Tryz.underlying9 (by omega) (by omega) (by omega)]
      rw [show ((i : Int) + (p.size : Int)).toNat = i + p.size from by omega]; rfl
    have hq : p.data.toList.isPrefixOf (s.data.toList.drop i) = ((s.extract i (i + p.size)).toList == p.toList) := by
      rw [Lib.toList_data, Lib.toList_data, textract, Bool.eq_iff_iff, List.isPrefixOf_iff_prefix, beq_iff_eq, List.prefix_iff_eq_take, hps]
      exact eq_comm
    obtain ⟨X, hX⟩ : ∃ X, s.extract i (i + p.size) = X := ⟨_, rfl⟩
    rw [hX] at hsl hq
    have HQ := Lib.hid hq
    have hle' : (i : Int) + (p.size : Int) ≤ (s.size : Int) := by omega
    clear hq hX hps
    go_enter Tryz.func28, Tryz.ntmps28
    go_wp2_with fail
    go_ret
    exact ⟨retB (by rw [HQ.out]), rfl⟩
  · have hq : p.data.toList.isPrefixOf (s.data.toList.drop i) = false := by
      rw [Bool.eq_false_iff]
      intro e
      have h := (List.isPrefixOf_iff_prefix.1 e).length_le
      rw [List.length_drop] at h
      have h' : p.size ≤ s.size - i := h
      omega
    have HQ := Lib.hid hq
    have hle' : ¬ (i : Int) + (p.size : Int) ≤ (s.size : Int) := by omega
    clear hq hps
    go_enter Tryz.func28, Tryz.ntmps28
    go_wp2_with fail
    go_ret
    exact ⟨retB (by rw [HQ.out]), rfl⟩

set_option maxHeartbeats 400000 in
theorem mletter_any (s : ByteArray) (i : Nat) (w : World) (hs : s.size ≤ 20000) (hi : i ≤ 20010) :
    Calls Tryz.prog 30 #[.string s, .int .i64 i] w fun e w' => e = .returned (.bool (Mk.letter (s.data.toList.drop i))) ∧ w = w' := by
  by_cases hlt : i < s.size
  · have hd : Mk.letter (s.data.toList.drop i) = Ent.isL s[i] := by rw [drop_get s i hlt]; rfl
    have hc := s[i].toNat_lt
    have HD := Lib.hid hd
    clear hd
    go_enter Tryz.func30, Tryz.ntmps30
    go_wp2_with fail
    all_goals go_ret
    all_goals refine ⟨retB ?_, rfl⟩
    all_goals rw [HD.out]
    all_goals unfold Ent.isL
    all_goals rw [Bool.eq_iff_iff]
    all_goals simp only [Bool.or_eq_true, Bool.and_eq_true, decide_eq_true_eq, true_iff, Bool.false_eq_true, false_iff]
    all_goals omega
  · have HD := Lib.hid (show Mk.letter (s.data.toList.drop i) = false by rw [drop_end s i (by omega)]; rfl)
    go_enter Tryz.func30, Tryz.ntmps30
    go_wp2_with fail
    go_ret
    exact ⟨retB (by rw [HD.out]), rfl⟩

end Go.Proofs.YtckmlbcpldpkpaaGreatDoor

/- The reference's stop, Begins and Find return what the plain texts say. -/
namespace Go.Proofs.YtckmlbcpldpkpaaGreatDoor
open Go Go.RowKit
set_option linter.unusedVariables false

set_option maxHeartbeats 400000 in
theorem mstop_any (s : ByteArray) (i : Nat) (w : World) (hi : i ≤ 20010) :
    Calls Tryz.prog 43 #[.string s, .int .i64 i] w fun e w' => e = .returned (.bool (Mk.stop (s.data.toList.drop i))) ∧ w = w' := by
  by_cases hlt : i < s.size
  · have hd : Mk.stop (s.data.toList.drop i) = (Txt.sp s[i] || s[i].toNat == 47 || s[i].toNat == 62) := by rw [drop_get s i hlt]; rfl
    have HD := Lib.hid hd
    clear hd
    have hsp := fun W => space_any s[i] W
    by_cases hb : Txt.sp s[i] = true
    · rw [hb] at HD hsp
      go_enter Tryz.func43, Tryz.ntmps43
      go_wp2_with (go_at_call 44; refine (hsp _).mono ?_; rintro e w' ⟨rfl, rfl⟩)
      go_ret
      exact ⟨retB (by rw [HD.out]; rfl), rfl⟩
    · rw [Bool.eq_false_iff.2 hb] at HD hsp
      clear hb
      by_cases h47 : s[i].toNat = 47
      · have HD2 := Lib.hid (show Mk.stop (s.data.toList.drop i) = true by rw [HD.out, h47]; rfl)
        have f47 : ((s[i].toNat : Int) == 47) = true := by rw [h47]; rfl
        clear HD h47
        go_enter Tryz.func43, Tryz.ntmps43
        go_wp2_with (go_at_call 44; refine (hsp _).mono ?_; rintro e w' ⟨rfl, rfl⟩)
        all_goals go_ret
        exact ⟨retB (by rw [HD2.out]), rfl⟩
      · have HD2 := Lib.hid (show Mk.stop (s.data.toList.drop i) = (s[i].toNat == 62) by rw [HD.out, beq_eq_false_iff_ne.2 h47]; rfl)
        have f47 : ((s[i].toNat : Int) == 47) = false := by rw [beq_eq_false_iff_ne]; omega
        clear HD h47
        go_enter Tryz.func43, Tryz.ntmps43
        go_wp2_with (go_at_call 44; refine (hsp _).mono ?_; rintro e w' ⟨rfl, rfl⟩)
        all_goals go_ret
        refine ⟨retB ?_, rfl⟩
        rw [HD2.out]
        rw [decide_eq_false (by omega : ¬ s.size ≤ i), Bool.false_or]
        exact u8_test _ 62 (by omega)
  · have HD := Lib.hid (show Mk.stop (s.data.toList.drop i) = true by rw [drop_end s i (by omega)]; rfl)
    go_enter Tryz.func43, Tryz.ntmps43
    go_wp2_with fail
    go_ret
    exact ⟨retB (by rw [HD.out]), rfl⟩

set_option maxHeartbeats 400000 in
theorem mbegins_any (s : ByteArray) (i : Nat) (w : World) (hs : s.size ≤ 20000) (hi : i ≤ 20000) :
    Calls Tryz.prog 35 #[.string s, .int .i64 i] w fun e w' => e = .returned (.bool (Mk.begins (s.data.toList.drop i))) ∧ w = w' := by
  have a0 := fun W => mat_any s ⟨#[60]⟩ i W hs (by decide) (by omega) (by decide)
  have a1 := fun W => mletter_any s (i + 1) W hs (by omega)
  have a2 := fun W => mat_any s ⟨#[47]⟩ (i + 1) W hs (by decide) (by omega) (by decide)
  have a3 := fun W => mat_any s ⟨#[33]⟩ (i + 1) W hs (by decide) (by omega) (by decide)
  have a4 := fun W => mat_any s ⟨#[63]⟩ (i + 1) W hs (by decide) (by omega) (by decide)
  have HB := Lib.hid (show Mk.begins (s.data.toList.drop i) = ([60].isPrefixOf (s.data.toList.drop i) && (Mk.letter (s.data.toList.drop (i + 1)) || [47].isPrefixOf (s.data.toList.drop (i + 1)) || [33].isPrefixOf (s.data.toList.drop (i + 1)) || [63].isPrefixOf (s.data.toList.drop (i + 1)))) by
    unfold Mk.begins; rw [List.drop_drop])
  dsimp only at a0 a2 a3 a4
  rw [show ((i + 1 : Nat) : Int) = (i : Int) + 1 from by omega] at a1 a2 a3 a4
  generalize [60].isPrefixOf (s.data.toList.drop i) = b0 at a0 HB
  generalize Mk.letter (s.data.toList.drop (i + 1)) = b1 at a1 HB
  generalize [47].isPrefixOf (s.data.toList.drop (i + 1)) = b2 at a2 HB
  generalize [33].isPrefixOf (s.data.toList.drop (i + 1)) = b3 at a3 HB
  generalize [63].isPrefixOf (s.data.toList.drop (i + 1)) = b4 at a4 HB
  go_enter Tryz.func35, Tryz.ntmps35
  cases b0
  · go_wp2_with (go_at_call 28; with_reducible refine (a0 _).mono ?_; rintro e w' ⟨rfl, rfl⟩)
    go_ret
    exact ⟨retB (by rw [HB.out]; rfl), rfl⟩
  · cases b1
    · cases b2
      · cases b3
        · go_wp2_with ((first | (go_at_call 28; first | with_reducible refine (a0 _).mono ?_ | with_reducible refine (a2 _).mono ?_ | with_reducible refine (a3 _).mono ?_ | with_reducible refine (a4 _).mono ?_) | (go_at_call 30; with_reducible refine (a1 _).mono ?_)); rintro e w' ⟨rfl, rfl⟩)
          all_goals go_ret
          all_goals exact ⟨retB (by rw [HB.out]; cases b4 <;> rfl), rfl⟩
        · go_wp2_with ((first | (go_at_call 28; first | with_reducible refine (a0 _).mono ?_ | with_reducible refine (a2 _).mono ?_ | with_reducible refine (a3 _).mono ?_ | with_reducible refine (a4 _).mono ?_) | (go_at_call 30; with_reducible refine (a1 _).mono ?_)); rintro e w' ⟨rfl, rfl⟩)
          all_goals go_ret
          all_goals exact ⟨retB (by rw [HB.out]; rfl), rfl⟩
      · go_wp2_with ((first | (go_at_call 28; first | with_reducible refine (a0 _).mono ?_ | with_reducible refine (a2 _).mono ?_ | with_reducible refine (a3 _).mono ?_ | with_reducible refine (a4 _).mono ?_) | (go_at_call 30; with_reducible refine (a1 _).mono ?_)); rintro e w' ⟨rfl, rfl⟩)
        all_goals go_ret
        all_goals exact ⟨retB (by rw [HB.out]; rfl), rfl⟩
    · go_wp2_with ((first | (go_at_call 28; first | with_reducible refine (a0 _).mono ?_ | with_reducible refine (a2 _).mono ?_ | with_reducible refine (a3 _).mono ?_ | with_reducible refine (a4 _).mono ?_) | (go_at_call 30; with_reducible refine (a1 _).mono ?_)); rintro e w' ⟨rfl, rfl⟩)
      all_goals go_ret
      all_goals exact ⟨retB (by rw [HB.out]; rfl), rfl⟩

/-- An index as the code says it: -1 for none. -/
def fnd (i : Nat) : Option Nat → Int
  | some k => ((i + k : Nat) : Int)
  | none => -1

set_option maxHeartbeats 400000 in
theorem mfind_any (s p : ByteArray) (i : Nat) (w : World) (hs : s.size ≤ 20000) (hp : p.size ≤ 100) (hp0 : 0 < p.size) (hi : i ≤ 20010) :
    Calls Tryz.prog 16 #[.string s, .int .i64 i, .string p] w fun e w' => e = .returned (.int .i64 (fnd i (Mk.find p.data.toList (s.data.toList.drop i)))) ∧ w = w' := by
  have hpl : p.data.toList.length = p.size := rfl
  go_enter Tryz.func16, Tryz.ntmps16
  go_wp2_with fail
  go_loop [7] (fun a => ∃ k : Nat, a = .int .i64 ((i + k : Nat) : Int) ∧ i + k ≤ 20010 ∧ Mk.find p.data.toList (s.data.toList.drop i) = (Mk.find p.data.toList (s.data.toList.drop (i + k))).map (· + k)) (fun a => 20011 - (intOf a).toNat)
  case atStart => exact ⟨0, rfl, hi, by simp⟩
  case round =>
    obtain ⟨k, rfl, hk, hF⟩ := hrel
    by_cases hle : i + k + p.size ≤ s.size
    · have hat := mat_any s p (i + k) (hs := hs) (hp := by omega) (hi := hk) (hp0 := hp0)
      by_cases hb : p.data.toList.isPrefixOf (s.data.toList.drop (i + k)) = true
      · rw [hb] at hat
        rw [Mk.find_here hb] at hF
        have HF := Lib.hid hF
        clear hF hb
        go_wp2_with (go_at_call 28; refine (hat _).mono ?_; rintro e w' ⟨rfl, rfl⟩)
        go_ret
        refine ⟨?_, rfl⟩
        rw [HF.out]
        rw [show fnd i (Option.map (fun x => x + k) (some 0)) = (i : Int) + (k : Int) from by show ((i + (0 + k) : Nat) : Int) = _; omega]
        rfl
      · have hb' := Bool.eq_false_iff.2 hb
        rw [hb'] at hat
        rw [drop_get s (i + k) (by omega)] at hF hb'
        rw [Mk.find_next hb', Option.map_map] at hF
        have HF := Lib.hid hF
        clear hF hb hb'
        go_wp2_with (go_at_call 28; refine (hat _).mono ?_; rintro e w' ⟨rfl, rfl⟩)
        go_round
        case rel =>
          refine ⟨k + 1, by go_num, by omega, ?_⟩
          rw [HF.out, show i + (k + 1) = i + k + 1 from by omega]
          congr 1
          funext x; simp only [Function.comp]; omega
        case measure => simp [intOf]; omega
    · have hn : Mk.find p.data.toList (s.data.toList.drop (i + k)) = none := Mk.find_short (by
        rw [List.length_drop, hpl]
        have : s.data.toList.length = s.size := rfl
        omega)
      rw [hn] at hF
      have HF := Lib.hid hF
      clear hF hn
      go_wp2_with fail
      go_ret
      exact ⟨by rw [HF.out]; rfl, rfl⟩

end Go.Proofs.YtckmlbcpldpkpaaGreatDoor

/- The reference's cut, name and closing return what the plain texts say. -/
namespace Go.Proofs.YtckmlbcpldpkpaaGreatDoor
open Go Go.RowKit
set_option linter.unusedVariables false

theorem takeWhile_grow {p : UInt8 → Bool} {l : List UInt8} {k : Nat} (h : l.takeWhile p = l.take k ++ (l.drop k).takeWhile p) {c : UInt8} {r : List UInt8} (hd : l.drop k = c :: r) (hp : p c = true) : l.takeWhile p = l.take (k + 1) ++ (l.drop (k + 1)).takeWhile p := by
  have hr : l.drop (k + 1) = r := by rw [← List.drop_drop, hd]; rfl
  have ht : l.take (k + 1) = l.take k ++ [c] := by
    have hk : k < l.length := by
      apply Nat.lt_of_not_le; intro e
      rw [List.drop_of_length_le e] at hd; cases hd
    have hg : l[k] = c := by
      have := List.drop_eq_getElem_cons hk
      rw [hd] at this; exact (List.cons.inj this).1.symm
    rw [List.take_succ_eq_append_getElem hk, hg]
  rw [hr, ht, List.append_assoc, h, hd, List.takeWhile_cons_of_pos hp]; rfl
theorem drop_stop {l : List UInt8} (h : Mk.stop l = true) : l.takeWhile (fun c => !Mk.stopC c) = [] := by
  cases l with
  | nil => rfl
  | cons c r =>
    have : Mk.stopC c = true := h
    rw [List.takeWhile_cons_of_neg (by rw [this]; decide)]

set_option maxHeartbeats 400000 in
theorem mname_any (s : ByteArray) (i : Nat) (w : World) (hs : s.size ≤ 10000) (hi : i ≤ s.size) :
    Calls Tryz.prog 31 #[.string s, .int .i64 i] w fun e w' => e = .returned (.string (tstr (Mk.name (s.data.toList.drop i)))) ∧ Below w.heap.size w w' := by
  go_enter Tryz.func31, Tryz.ntmps31
  go_wp2_with fail
  go_loop [5] (fun a => ∃ k : Nat, a = .int .i64 ((i + k : Nat) : Int) ∧ i + k ≤ s.size ∧ (s.data.toList.drop i).takeWhile (fun c => !Mk.stopC c) = (s.data.toList.drop i).take k ++ ((s.data.toList.drop i).drop k).takeWhile (fun c => !Mk.stopC c)) (fun a => s.size - (intOf a).toNat)
  case atStart => exact ⟨0, rfl, hi, by simp⟩
  case round =>
    obtain ⟨k, rfl, hk, hF⟩ := hrel
    have hst := fun W => mstop_any s (i + k) W (by omega)
    by_cases hb : Mk.stop (s.data.toList.drop (i + k)) = true
    · rw [hb] at hst
      have hn : Mk.name (s.data.toList.drop i) = ((s.data.toList.drop i).take k).map Txt.lo := by
        unfold Mk.name
        rw [hF, List.drop_drop, drop_stop hb, List.append_nil]
      have HN := Lib.hid hn
      clear hn hF hb
      have hx := textract s i k
      have hxs : (s.extract i (i + k)).size ≤ 10000 := by rw [ByteArray.size_extract]; omega
      have hsl : ∀ W : World, (Instr.slice 9 (.string s) (some (.int .i64 i)) (some (.int .i64 ((i : Int) + (k : Int)))) none).run Tryz.prog W = .ok (.string (s.extract i (i + k))) W := fun W => by
        rw [run_slice_string W _ s _ _ _ _ Tryz.underlying9 (by omega) (by omega) (by omega)]
        rw [show ((i : Int) + (k : Int)).toNat = i + k from by omega]; rfl
      have hlo := fun W => rlower_any (s.extract i (i + k)) W hxs
      rw [hx] at hlo
      generalize s.extract i (i + k) = X at hsl hlo
      clear hx hxs
      go_wp2_with (first | (go_at_call 43; refine (hst _).mono ?_; rintro e w' ⟨rfl, rfl⟩) | (go_at_call 19; refine (hlo _).mono ?_; rintro e w' ⟨rfl, hbl⟩))
      go_ret
      exact ⟨by rw [HN.out, List.map_take, List.map_drop]; rfl, hbl⟩
    · have hb' := Bool.eq_false_iff.2 hb
      rw [hb'] at hst
      have hlt : i + k < s.size := by
        apply Nat.lt_of_not_le; intro e
        rw [drop_end s (i + k) (Nat.not_lt.2 e)] at hb'; cases hb'
      have hg := drop_get s (i + k) hlt
      rw [hg] at hb'
      have hF2 := takeWhile_grow hF (c := s[i + k]) (by rw [List.drop_drop]; exact hg) (by show (!Mk.stopC s[i + k]) = true; rw [show Mk.stopC s[i + k] = false from hb']; rfl)
      have HF := Lib.hid hF2
      clear hF hF2 hb hb' hg
      go_wp2_with (go_at_call 43; refine (hst _).mono ?_; rintro e w' ⟨rfl, rfl⟩)
      go_round
      case rel => exact ⟨k + 1, by go_num, by omega, HF.out⟩
      case measure => simp [intOf]; omega

theorem mcut_any (s : ByteArray) (i n : Nat) (o : Option Nat) (w : World) (hs : s.size ≤ 10000) (hi : i ≤ 10010) (hn : n ≤ 3) (ho : ∀ k, o = some k → i + k + n ≤ s.size) :
    Calls Tryz.prog 29 #[.string s, .int .i64 i, .int .i64 (fnd i o), .int .i64 n] w fun e w' => ∃ (t : ByteArray) (j : Nat), e = .returned (.tuple #[.string t, .int .i64 j]) ∧ t.data.toList = (Mk.cut (s.data.toList.drop i) o n).1 ∧ s.data.toList.drop j = (Mk.cut (s.data.toList.drop i) o n).2 ∧ j ≤ s.size ∧ (i ≤ s.size → i ≤ j) ∧ w = w' := by
  cases o with
  | none =>
    have hfd : fnd i none = -1 := rfl
    rw [hfd]
    go_enter Tryz.func29, Tryz.ntmps29
    go_wp2_with fail
    go_ret2
    refine ⟨_, s.size, rfl, ?_, ?_, Nat.le_refl _, id, rfl⟩
    · rw [drop_extract, show (min (i : Int) (s.size : Int)).toNat = min i s.size from by omega]
      show _ = s.data.toList.drop i
      by_cases h : i ≤ s.size
      · rw [Nat.min_eq_left h]
      · rw [Nat.min_eq_right (by omega), drop_end s _ (by omega), drop_end s _ (by omega)]
    · exact drop_end s _ (by omega)
  | some k =>
    have hk := ho k rfl
    have hfd : fnd i (some k) = (i : Int) + (k : Int) := by show ((i + k : Nat) : Int) = _; omega
    rw [hfd]
    have hsl : ∀ W : World, (Instr.slice 9 (.string s) (some (.int .i64 i)) (some (.int .i64 ((i : Int) + (k : Int)))) none).run Tryz.prog W = .ok (.string (s.extract i (i + k))) W := fun W => by
      rw [run_slice_string W _ s _ _ _ _ Tryz.underlying9 (by omega) (by omega) (by omega)]
      rw [show ((i : Int) + (k : Int)).toNat = i + k from by omega]; rfl
    have hx := Lib.hid (textract s i k)
    generalize s.extract i (i + k) = X at hsl hx
    go_enter Tryz.func29, Tryz.ntmps29
    go_wp2_with fail
    go_ret2
    refine ⟨X, i + k + n, ?_, hx.out, ?_, hk, fun _ => by omega, rfl⟩
    · rw [show ((i + k + n : Nat) : Int) = (i : Int) + (k : Int) + (n : Int) from by omega]; rfl
    · show _ = (s.data.toList.drop i).drop (k + n)
      rw [List.drop_drop, Nat.add_assoc]

set_option maxHeartbeats 1000000 in
theorem mclosing_any (s tag : ByteArray) (i : Nat) (w : World) (hs : s.size ≤ 10000) (ht : tag.size ≤ 100) (hi : i ≤ s.size) :
    Calls Tryz.prog 34 #[.string s, .int .i64 i, .string tag] w fun e w' => e = .returned (.int .i64 ((i + Mk.closing tag.data.toList (s.data.toList.drop i) : Nat) : Int)) ∧ Below w.heap.size w w' := by
  have htl : tag.data.toList.length = tag.size := rfl
  have hsl0 : s.data.toList.length = s.size := rfl
  go_enter Tryz.func34, Tryz.ntmps34
  go_wp2_with fail
  go_loopw [7] (fun a wr => ∃ k : Nat, a = .int .i64 ((i + k : Nat) : Int) ∧ i + k ≤ s.size ∧ Mk.closing tag.data.toList (s.data.toList.drop i) = k + Mk.closing tag.data.toList (s.data.toList.drop (i + k)) ∧ Below w.heap.size w wr) (fun a _ => s.size - (intOf a).toNat)
  case atStart => exact ⟨0, rfl, hi, by simp, Below.refl _ _⟩
  case round =>
    obtain ⟨k, rfl, hk, hF, hbl⟩ := hrel
    by_cases hlt : i + k + 2 + tag.size < s.size
    · have a0 := fun W => mat_any s ⟨#[60, 47]⟩ (i + k) W (by omega) (by decide) (by omega) (by decide)
      have hx := textract s (i + k + 2) tag.size
      have hxs : (s.extract (i + k + 2) (i + k + 2 + tag.size)).size ≤ 10000 := by rw [ByteArray.size_extract]; omega
      have hsl : ∀ W : World, (Instr.slice 9 (.string s) (some (.int .i64 ((i : Int) + (k : Int) + 2))) (some (.int .i64 ((i : Int) + (k : Int) + 2 + (tag.size : Int)))) none).run Tryz.prog W = .ok (.string (s.extract (i + k + 2) (i + k + 2 + tag.size))) W := fun W => by
        rw [run_slice_string W _ s _ _ _ _ Tryz.underlying9 (by omega) (by omega) (by omega)]
        rw [show ((i : Int) + (k : Int) + 2).toNat = i + k + 2 from by omega, show ((i : Int) + (k : Int) + 2 + (tag.size : Int)).toNat = i + k + 2 + tag.size from by omega]
      have hlo := fun W => rlower_any (s.extract (i + k + 2) (i + k + 2 + tag.size)) W hxs
      rw [hx] at hlo
      generalize s.extract (i + k + 2) (i + k + 2 + tag.size) = X at hsl hlo
      have hst := fun W => mstop_any s (i + k + 2 + tag.size) W (by omega)
      rw [show ((i + k + 2 + tag.size : Nat) : Int) = (i : Int) + (k : Int) + 2 + (tag.size : Int) from by omega] at hst
      rw [show ((i + k : Nat) : Int) = (i : Int) + (k : Int) from by omega] at a0
      dsimp only at a0
      obtain ⟨c, r, hcr⟩ : ∃ c r, s.data.toList.drop (i + k) = c :: r := ⟨_, _, drop_get s (i + k) (by omega)⟩
      have hdd : (s.data.toList.drop (i + k)).drop (2 + tag.size) = s.data.toList.drop (i + k + 2 + tag.size) := by rw [List.drop_drop, Nat.add_assoc (i + k)]
      have hcl : Mk.closes tag.data.toList (s.data.toList.drop (i + k)) = ([60, 47].isPrefixOf (s.data.toList.drop (i + k)) && ((((s.data.toList.drop (i + k + 2)).take tag.size).map Txt.lo == tag.data.toList)) && Mk.stop (s.data.toList.drop (i + k + 2 + tag.size))) := by
        unfold Mk.closes
        rw [htl, hdd, List.drop_drop, drop_get s (i + k + 2 + tag.size) hlt]; rfl
      have hq : (((s.data.toList.drop (i + k + 2)).take tag.size).map Txt.lo == tag.data.toList) = ((tstr (((s.data.toList.drop (i + k + 2)).take tag.size).map Txt.lo)).toList == tag.toList) := by
        rw [Lib.toList_data, Lib.toList_data]; rfl
      rw [hq] at hcl
      generalize tstr (((s.data.toList.drop (i + k + 2)).take tag.size).map Txt.lo) = Y at hcl hlo
      generalize [60, 47].isPrefixOf (s.data.toList.drop (i + k)) = b0 at hcl a0
      generalize Mk.stop (s.data.toList.drop (i + k + 2 + tag.size)) = b2 at hcl hst
      obtain ⟨b1, hb1⟩ : ∃ b, (Y.toList == tag.toList) = b := ⟨_, rfl⟩
      rw [hb1] at hcl
      have hyes : (b0 && b1 && b2) = true → i + Mk.closing tag.data.toList (s.data.toList.drop i) = i + k := fun h => by
        rw [hF, Mk.closing_here (hcl.trans h)]; rfl
      have hno : (b0 && b1 && b2) = false → Mk.closing tag.data.toList (s.data.toList.drop i) = k + 1 + Mk.closing tag.data.toList (s.data.toList.drop (i + (k + 1))) := fun h => by
        have h2 := hcl.trans h
        rw [drop_get s (i + k) (by omega)] at h2
        rw [hF, drop_get s (i + k) (by omega), Mk.closing_next h2, show i + (k + 1) = i + k + 1 from rfl]; omega
      clear hF hcl hq hdd hcr hx hxs
      cases b0
      · have HF := Lib.hid (hno rfl)
        clear hno hyes
        go_wp2_with (first | (go_at_call 28; refine (a0 _).mono ?_; rintro e w' ⟨rfl, rfl⟩) | (go_at_call 43; refine (hst _).mono ?_; rintro e w' ⟨rfl, rfl⟩) | (go_at_call 19; refine (hlo _).mono ?_; rintro e w' ⟨rfl, hbl2⟩))
        go_round
        case rel => exact ⟨k + 1, by go_num, by omega, HF.out, hbl⟩
        case measure => simp [intOf]; omega
      · cases b1
        · have HF := Lib.hid (hno rfl)
          clear hno hyes
          go_wp2_with (first | (go_at_call 28; refine (a0 _).mono ?_; rintro e w' ⟨rfl, rfl⟩) | (go_at_call 43; refine (hst _).mono ?_; rintro e w' ⟨rfl, rfl⟩) | (go_at_call 19; refine (hlo _).mono ?_; rintro e w' ⟨rfl, hbl2⟩))
          go_round
          case rel => exact ⟨k + 1, by go_num, by omega, HF.out, below_trans' hbl hbl2⟩
          case measure => simp [intOf]; omega
        · cases b2
          · have HF := Lib.hid (hno rfl)
            clear hno hyes
            go_wp2_with (first | (go_at_call 28; refine (a0 _).mono ?_; rintro e w' ⟨rfl, rfl⟩) | (go_at_call 43; refine (hst _).mono ?_; rintro e w' ⟨rfl, rfl⟩) | (go_at_call 19; refine (hlo _).mono ?_; rintro e w' ⟨rfl, hbl2⟩))
            go_round
            case rel => exact ⟨k + 1, by go_num, by omega, HF.out, below_trans' hbl hbl2⟩
            case measure => simp [intOf]; omega
          · have HF := Lib.hid (hyes rfl)
            clear hno hyes
            go_wp2_with (first | (go_at_call 28; refine (a0 _).mono ?_; rintro e w' ⟨rfl, rfl⟩) | (go_at_call 43; refine (hst _).mono ?_; rintro e w' ⟨rfl, rfl⟩) | (go_at_call 19; refine (hlo _).mono ?_; rintro e w' ⟨rfl, hbl2⟩))
            go_ret
            exact ⟨by rw [HF.out, show ((i + k : Nat) : Int) = (i : Int) + (k : Int) from by omega]; rfl, below_trans' hbl hbl2⟩
    · have hsh : Mk.closing tag.data.toList (s.data.toList.drop (i + k)) = s.size - (i + k) := by
        rw [Mk.closing_short (by rw [List.length_drop, htl, hsl0]; omega), List.length_drop, hsl0]
      have HF := Lib.hid (show i + Mk.closing tag.data.toList (s.data.toList.drop i) = s.size by rw [hF, hsh]; omega)
      clear hF hsh
      go_wp2_with fail
      go_ret
      exact ⟨by rw [HF.out]; rfl, hbl⟩

end Go.Proofs.YtckmlbcpldpkpaaGreatDoor

/- The reference's value returns what the plain text says. -/
namespace Go.Proofs.YtckmlbcpldpkpaaGreatDoor
open Go Go.RowKit
set_option linter.unusedVariables false

/-- A bare value goes on. -/
def Mk.bare (c : UInt8) : Bool := !Txt.sp c && !(c.toNat == 62)
theorem takeWhile_done {p : UInt8 → Bool} {l : List UInt8} (h : ∀ c r, l = c :: r → p c = false) : l.takeWhile p = [] ∧ l.dropWhile p = l := by
  cases l with
  | nil => exact ⟨rfl, rfl⟩
  | cons c r => rw [List.takeWhile_cons_of_neg (by rw [h c r rfl]; decide), List.dropWhile_cons_of_neg (by rw [h c r rfl]; decide)]; exact ⟨rfl, rfl⟩
theorem dropWhile_grow {p : UInt8 → Bool} {l : List UInt8} {k : Nat} (h : l.dropWhile p = (l.drop k).dropWhile p) {c : UInt8} {r : List UInt8} (hd : l.drop k = c :: r) (hp : p c = true) : l.dropWhile p = (l.drop (k + 1)).dropWhile p := by
  have hr : l.drop (k + 1) = r := by rw [← List.drop_drop, hd]; rfl
  rw [hr, h, hd, List.dropWhile_cons_of_pos hp]

/-- What value answers: the text and an index, or an index below 0. -/
def ValOk (s : ByteArray) (i : Nat) (e : Ending) : Prop :=
  match Mk.value (s.data.toList.drop i) with
  | none => e = .returned (.tuple #[.string ⟨#[]⟩, .int .i64 (-1)])
  | some p => ∃ (t : ByteArray) (j : Nat), e = .returned (.tuple #[.string t, .int .i64 j]) ∧ t.data.toList = p.1 ∧ s.data.toList.drop j = p.2 ∧ i ≤ j ∧ j ≤ s.size
theorem ValOk.none {s : ByteArray} {i : Nat} {e : Ending} (h : Mk.value (s.data.toList.drop i) = none) (he : e = .returned (.tuple #[.string ⟨#[]⟩, .int .i64 (-1)])) : ValOk s i e := by
  unfold ValOk; rw [h]; exact he
theorem ValOk.some {s : ByteArray} {i : Nat} {e : Ending} {p : List UInt8 × List UInt8} (h : Mk.value (s.data.toList.drop i) = some p) (he : ∃ (t : ByteArray) (j : Nat), e = .returned (.tuple #[.string t, .int .i64 j]) ∧ t.data.toList = p.1 ∧ s.data.toList.drop j = p.2 ∧ i ≤ j ∧ j ≤ s.size) : ValOk s i e := by
  unfold ValOk; rw [h]; exact he

/-- A bare value. -/
theorem value_bare {l : List UInt8} (h1 : [34].isPrefixOf l = false) (h2 : [39].isPrefixOf l = false) : Mk.value l = some (l.takeWhile Mk.bare, l.dropWhile Mk.bare) := by
  cases l with
  | nil => rfl
  | cons c r =>
    have e1 : c.toNat ≠ 34 := fun e => by
      have : c = 34 := UInt8.toNat_inj.1 e
      subst this; cases h1
    have e2 : c.toNat ≠ 39 := fun e => by
      have : c = 39 := UInt8.toNat_inj.1 e
      subst this; cases h2
    show (if c.toNat = 34 ∨ c.toNat = 39 then _ else _) = _
    rw [if_neg (by omega)]; rfl
theorem value_quote {l : List UInt8} {q : UInt8} (hq : q = 34 ∨ q = 39) (h1 : [q].isPrefixOf l = true) : Mk.value l = (Mk.find [q] (l.drop 1)).map (fun k => ((l.drop 1).take k, (l.drop 1).drop (k + 1))) := by
  cases l with
  | nil => cases h1
  | cons c r =>
    have e : q = c := by simpa [List.isPrefixOf] using h1
    subst e
    show (if q.toNat = 34 ∨ q.toNat = 39 then _ else _) = _
    rw [if_pos (by rcases hq with rfl | rfl; exact Or.inl rfl; exact Or.inr rfl)]; rfl

set_option maxHeartbeats 1000000 in
theorem mvalue_any (s : ByteArray) (i : Nat) (w : World) (hs : s.size ≤ 10000) (hi : i ≤ s.size) :
    Calls Tryz.prog 45 #[.string s, .int .i64 i] w fun e w' => ValOk s i e ∧ w = w' := by
  have a1 := fun W => mat_any s ⟨#[34]⟩ i W (by omega) (by decide) (by omega) (by decide)
  have a2 := fun W => mat_any s ⟨#[39]⟩ i W (by omega) (by decide) (by omega) (by decide)
  dsimp only at a1 a2
  by_cases hq : ∃ q : UInt8, (q = 34 ∨ q = 39) ∧ [q].isPrefixOf (s.data.toList.drop i) = true
  · obtain ⟨q, hq, hqp⟩ := hq
    have hlt : i < s.size := by
      apply Nat.lt_of_not_le; intro e
      rw [drop_end s i (Nat.not_lt.2 e)] at hqp; cases hqp
    have hsi : s[i] = q := by
      rw [drop_get s i hlt] at hqp
      have : q = s[i] := by simpa [List.isPrefixOf] using hqp
      exact this.symm
    have hsq : ∀ W : World, (Instr.slice 9 (.string s) (some (.int .i64 i)) (some (.int .i64 ((i : Int) + 1))) none).run Tryz.prog W = .ok (.string ⟨#[q]⟩) W := fun W => by
      rw [run_slice_string W _ s _ _ _ _ Tryz.underlying9 (by omega) (by omega) (by omega)]
      rw [show ((i : Int) + 1).toNat = i + 1 from by omega]
      have h1 := textract s i 1
      rw [drop_get s i hlt, hsi] at h1
      have : s.extract i (i + 1) = ⟨#[q]⟩ := ByteArray.ext (Array.toList_inj.1 h1)
      rw [show ((i : Int)).toNat = i from by omega, this]
    have hfi := fun W => mfind_any s ⟨#[q]⟩ (i + 1) W (by omega) (show 1 ≤ 100 by decide) (show 0 < 1 by decide) (by omega)
    dsimp only at hfi
    rw [show ((i + 1 : Nat) : Int) = (i : Int) + 1 from by omega] at hfi
    have hv := value_quote hq hqp
    rw [List.drop_drop] at hv
    have hvn : Mk.find [q] (s.data.toList.drop (i + 1)) = none → Mk.value (s.data.toList.drop i) = none := fun h => by rw [hv, h]; rfl
    have hvs : ∀ k, Mk.find [q] (s.data.toList.drop (i + 1)) = some k → Mk.value (s.data.toList.drop i) = some ((s.data.toList.drop (i + 1)).take k, s.data.toList.drop (i + 1 + k + 1)) ∧ i + 1 + k + 1 ≤ s.size ∧ fnd (i + 1) (some k) = (i : Int) + 1 + (k : Int) := fun k h => by
      have h2 := Mk.find_le h
      rw [List.length_drop] at h2
      have h3 : s.data.toList.length = s.size := rfl
      simp only [List.length_cons, List.length_nil] at h2
      refine ⟨?_, by omega, by show ((i + 1 + k : Nat) : Int) = _; omega⟩
      rw [hv, h]
      rw [show i + 1 + k + 1 = i + 1 + (k + 1) from by omega, ← List.drop_drop (i := k + 1) (j := i + 1)]; rfl
    clear hv
    rcases hq with rfl | rfl
    · rw [hqp] at a1
      clear hqp hsi a2
      rcases hfd : Mk.find [34] (s.data.toList.drop (i + 1)) with _ | k
      · have HV := Lib.hid (hvn hfd)
        rw [hfd, show fnd (i + 1) none = -1 from rfl] at hfi
        clear hvn hvs hfd
        go_enter Tryz.func45, Tryz.ntmps45
        go_wp2_with (first | (go_at_call 28; (first | with_reducible refine (a1 _).mono ?_ | with_reducible refine (a2 _).mono ?_); rintro e w' ⟨rfl, rfl⟩) | (go_at_call 16; refine (hfi _).mono ?_; rintro e w' ⟨rfl, rfl⟩))
        go_ret2
        exact ⟨ValOk.none HV.out rfl, rfl⟩
      · obtain ⟨hv, hk, hfk⟩ := hvs k hfd
        have HV := Lib.hid hv
        rw [hfd, hfk] at hfi
        clear hvn hvs hfd hv hfk
        have hsl : ∀ W : World, (Instr.slice 9 (.string s) (some (.int .i64 ((i : Int) + 1))) (some (.int .i64 ((i : Int) + 1 + (k : Int)))) none).run Tryz.prog W = .ok (.string (s.extract (i + 1) (i + 1 + k))) W := fun W => by
          rw [run_slice_string W _ s _ _ _ _ Tryz.underlying9 (by omega) (by omega) (by omega)]
          rw [show ((i : Int) + 1 + (k : Int)).toNat = i + 1 + k from by omega, show ((i : Int) + 1).toNat = i + 1 from by omega]
        have hx := Lib.hid (textract s (i + 1) k)
        generalize s.extract (i + 1) (i + 1 + k) = X at hsl hx
        go_enter Tryz.func45, Tryz.ntmps45
        go_wp2_with (first | (go_at_call 28; (first | with_reducible refine (a1 _).mono ?_ | with_reducible refine (a2 _).mono ?_); rintro e w' ⟨rfl, rfl⟩) | (go_at_call 16; refine (hfi _).mono ?_; rintro e w' ⟨rfl, rfl⟩))
        go_ret2
        exact ⟨ValOk.some HV.out ⟨X, i + 1 + k + 1, by rw [show ((i + 1 + k + 1 : Nat) : Int) = (i : Int) + 1 + (k : Int) + 1 from by omega]; rfl, hx.out, rfl, by omega, by omega⟩, rfl⟩
    · have hn : [34].isPrefixOf (s.data.toList.drop i) = false := by rw [drop_get s i hlt, hsi]; rfl
      rw [hn] at a1
      rw [hqp] at a2
      clear hqp hsi hn
      rcases hfd : Mk.find [39] (s.data.toList.drop (i + 1)) with _ | k
      · have HV := Lib.hid (hvn hfd)
        rw [hfd, show fnd (i + 1) none = -1 from rfl] at hfi
        clear hvn hvs hfd
        go_enter Tryz.func45, Tryz.ntmps45
        go_wp2_with (first | (go_at_call 28; (first | with_reducible refine (a1 _).mono ?_ | with_reducible refine (a2 _).mono ?_); rintro e w' ⟨rfl, rfl⟩) | (go_at_call 16; refine (hfi _).mono ?_; rintro e w' ⟨rfl, rfl⟩))
        go_ret2
        exact ⟨ValOk.none HV.out rfl, rfl⟩
      · obtain ⟨hv, hk, hfk⟩ := hvs k hfd
        have HV := Lib.hid hv
        rw [hfd, hfk] at hfi
        clear hvn hvs hfd hv hfk
        have hsl : ∀ W : World, (Instr.slice 9 (.string s) (some (.int .i64 ((i : Int) + 1))) (some (.int .i64 ((i : Int) + 1 + (k : Int)))) none).run Tryz.prog W = .ok (.string (s.extract (i + 1) (i + 1 + k))) W := fun W => by
          rw [run_slice_string W _ s _ _ _ _ Tryz.underlying9 (by omega) (by omega) (by omega)]
          rw [show ((i : Int) + 1 + (k : Int)).toNat = i + 1 + k from by omega, show ((i : Int) + 1).toNat = i + 1 from by omega]
        have hx := Lib.hid (textract s (i + 1) k)
        generalize s.extract (i + 1) (i + 1 + k) = X at hsl hx
        go_enter Tryz.func45, Tryz.ntmps45
        go_wp2_with (first | (go_at_call 28; (first | with_reducible refine (a1 _).mono ?_ | with_reducible refine (a2 _).mono ?_); rintro e w' ⟨rfl, rfl⟩) | (go_at_call 16; refine (hfi _).mono ?_; rintro e w' ⟨rfl, rfl⟩))
        go_ret2
        exact ⟨ValOk.some HV.out ⟨X, i + 1 + k + 1, by rw [show ((i + 1 + k + 1 : Nat) : Int) = (i : Int) + 1 + (k : Int) + 1 from by omega]; rfl, hx.out, rfl, by omega, by omega⟩, rfl⟩
  · have b1 : [34].isPrefixOf (s.data.toList.drop i) = false := Bool.eq_false_iff.2 fun e => hq ⟨34, Or.inl rfl, e⟩
    have b2 : [39].isPrefixOf (s.data.toList.drop i) = false := Bool.eq_false_iff.2 fun e => hq ⟨39, Or.inr rfl, e⟩
    rw [b1] at a1
    rw [b2] at a2
    have HV := Lib.hid (value_bare b1 b2)
    clear hq b1 b2
    go_enter Tryz.func45, Tryz.ntmps45
    go_wp2_with (go_at_call 28; (first | with_reducible refine (a1 _).mono ?_ | with_reducible refine (a2 _).mono ?_); rintro e w' ⟨rfl, rfl⟩)
    go_loop [7] (fun a => ∃ k : Nat, a = .int .i64 ((i + k : Nat) : Int) ∧ i + k ≤ s.size ∧ (s.data.toList.drop i).takeWhile Mk.bare = (s.data.toList.drop i).take k ++ ((s.data.toList.drop i).drop k).takeWhile Mk.bare ∧ (s.data.toList.drop i).dropWhile Mk.bare = ((s.data.toList.drop i).drop k).dropWhile Mk.bare) (fun a => s.size - (intOf a).toNat)
    case atStart => exact ⟨0, rfl, hi, by simp, by simp⟩
    case round =>
      obtain ⟨k, rfl, hk, hF, hG⟩ := hrel
      have hsl : ∀ W : World, (Instr.slice 9 (.string s) (some (.int .i64 i)) (some (.int .i64 ((i : Int) + (k : Int)))) none).run Tryz.prog W = .ok (.string (s.extract i (i + k))) W := fun W => by
        rw [run_slice_string W _ s _ _ _ _ Tryz.underlying9 (by omega) (by omega) (by omega)]
        rw [show ((i : Int) + (k : Int)).toNat = i + k from by omega]; rfl
      have hx := Lib.hid (textract s i k)
      generalize s.extract i (i + k) = X at hsl hx
      have hdone : (∀ c r, s.data.toList.drop (i + k) = c :: r → Mk.bare c = false) → Mk.value (s.data.toList.drop i) = some ((s.data.toList.drop i).take k, s.data.toList.drop (i + k)) := fun h => by
        obtain ⟨g1, g2⟩ := takeWhile_done h
        rw [HV.out, hF, hG, List.drop_drop, g1, g2, List.append_nil]
      by_cases hlt : i + k < s.size
      · have hg := drop_get s (i + k) hlt
        have hsp := fun W => space_any s[i + k] W
        by_cases hs1 : Txt.sp s[i + k] = true
        · have HR := Lib.hid (hdone fun c r h => by
            rw [hg] at h
            obtain ⟨rfl, _⟩ := List.cons.inj h
            unfold Mk.bare; rw [hs1]; rfl)
          rw [hs1] at hsp
          clear hdone hF hG hg hs1
          go_wp2_with (go_at_call 44; refine (hsp _).mono ?_; rintro e w' ⟨rfl, rfl⟩)
          go_ret2
          exact ⟨ValOk.some HR.out ⟨X, i + k, by rw [show ((i + k : Nat) : Int) = (i : Int) + (k : Int) from by omega]; rfl, hx.out, rfl, by omega, hk⟩, rfl⟩
        · have hs1 := Bool.eq_false_iff.2 hs1
          rw [hs1] at hsp
          by_cases h62 : s[i + k].toNat = 62
          · have HR := Lib.hid (hdone fun c r h => by
              rw [hg] at h
              obtain ⟨rfl, _⟩ := List.cons.inj h
              unfold Mk.bare; rw [h62, hs1]; rfl)
            have f62 : ((s[i + k].toNat : Int) == 62) = true := by rw [h62]; rfl
            clear hdone hF hG hg hs1 h62
            go_wp2_with (go_at_call 44; refine (hsp _).mono ?_; rintro e w' ⟨rfl, rfl⟩)
            go_ret2
            exact ⟨ValOk.some HR.out ⟨X, i + k, by rw [show ((i + k : Nat) : Int) = (i : Int) + (k : Int) from by omega]; rfl, hx.out, rfl, by omega, hk⟩, rfl⟩
          · have hp : Mk.bare s[i + k] = true := by unfold Mk.bare; rw [hs1, beq_eq_false_iff_ne.2 h62]; rfl
            have HF := Lib.hid (takeWhile_grow hF (by rw [List.drop_drop]; exact hg) hp)
            have HG := Lib.hid (dropWhile_grow hG (by rw [List.drop_drop]; exact hg) hp)
            have f62 : ((s[i + k].toNat : Int) == 62) = false := by rw [beq_eq_false_iff_ne]; omega
            clear hdone hF hG hg hs1 h62 hp
            go_wp2_with (go_at_call 44; refine (hsp _).mono ?_; rintro e w' ⟨rfl, rfl⟩)
            go_round
            case rel => exact ⟨k + 1, by go_num, by omega, HF.out, HG.out⟩
            case measure => simp [intOf]; omega
      · have HR := Lib.hid (hdone fun c r h => by rw [drop_end s (i + k) hlt] at h; cases h)
        clear hdone hF hG
        go_wp2_with fail
        go_ret2
        exact ⟨ValOk.some HR.out ⟨X, i + k, by rw [show ((i + k : Nat) : Int) = (i : Int) + (k : Int) from by omega]; rfl, hx.out, rfl, by omega, hk⟩, rfl⟩

end Go.Proofs.YtckmlbcpldpkpaaGreatDoor

/- The reference's Raw and Plain. -/
namespace Go.Proofs.YtckmlbcpldpkpaaGreatDoor
open Go Go.RowKit
set_option linter.unusedVariables false

/-- script and style; title and textarea. -/
def Mk.raw (l : List UInt8) : Bool := l == [115, 99, 114, 105, 112, 116] || l == [115, 116, 121, 108, 101]
def Mk.plain (l : List UInt8) : Bool := l == [116, 105, 116, 108, 101] || l == [116, 101, 120, 116, 97, 114, 101, 97]

set_option maxHeartbeats 400000 in
theorem mraw_any (s : ByteArray) (w : World) :
    Calls Tryz.prog 23 #[.string s] w fun e w' => e = .returned (.bool (Mk.raw s.data.toList)) ∧ w = w' := by
  have HR := Lib.hid (show Mk.raw s.data.toList = (s.toList == [115, 99, 114, 105, 112, 116] || s.toList == [115, 116, 121, 108, 101]) by rw [Lib.toList_data]; rfl)
  go_enter Tryz.func23, Tryz.ntmps23
  go_wp2_with fail
  all_goals go_ret
  all_goals refine ⟨retB ?_, rfl⟩
  all_goals rw [HR.out]
  all_goals first | rfl | (rename_i h; rw [h]; rfl)

set_option maxHeartbeats 400000 in
theorem mplain_any (s : ByteArray) (w : World) :
    Calls Tryz.prog 25 #[.string s] w fun e w' => e = .returned (.bool (Mk.plain s.data.toList)) ∧ w = w' := by
  have HR := Lib.hid (show Mk.plain s.data.toList = (s.toList == [116, 105, 116, 108, 101] || s.toList == [116, 101, 120, 116, 97, 114, 101, 97]) by rw [Lib.toList_data]; rfl)
  go_enter Tryz.func25, Tryz.ntmps25
  go_wp2_with fail
  all_goals go_ret
  all_goals refine ⟨retB ?_, rfl⟩
  all_goals rw [HR.out]
  all_goals first | rfl | (rename_i h; rw [h]; rfl)

end Go.Proofs.YtckmlbcpldpkpaaGreatDoor

/- The reference's one and Void. -/
namespace Go.Proofs.YtckmlbcpldpkpaaGreatDoor
open Go Go.RowKit
set_option linter.unusedVariables false

/-- A row of strings begins block b. -/
def OneRow (w : World) (b : Nat) (l : List ByteArray) : Prop := ∀ i (h : i < l.length), w.cell? ⟨b, i, none⟩ = some (.string l[i])
theorem any_next {p : ByteArray → Bool} {l : List ByteArray} {k : Nat} {B : Bool} (h : B = (l.drop k).any p) (hk : k < l.length) (hp : p l[k] = false) : B = (l.drop (k + 1)).any p := by
  rw [h, List.drop_eq_getElem_cons hk, List.any_cons, hp, Bool.false_or]

set_option maxHeartbeats 400000 in
theorem mone_any (s : ByteArray) (b : Nat) (l : List ByteArray) (w : World) (hl : l.length ≤ 100) (hR : OneRow w b l) :
    Calls Tryz.prog 38 #[.string s, .slice (some ⟨b, 0, none⟩) l.length l.length] w fun e w' => e = .returned (.bool (l.any fun x => x.toList == s.toList)) ∧ w = w' := by
  go_enter Tryz.func38, Tryz.ntmps38
  go_wp2_with fail
  go_loop [5] (fun a => ∃ k : Nat, a = .int .i64 k ∧ k ≤ l.length ∧ (l.any fun x => x.toList == s.toList) = (l.drop k).any fun x => x.toList == s.toList) (fun a => l.length - (intOf a).toNat)
  case atStart => exact ⟨0, rfl, Nat.zero_le _, rfl⟩
  case round =>
    obtain ⟨k, rfl, hk, hF⟩ := hrel
    by_cases hlt : k < l.length
    · have hc := hR k hlt
      by_cases he : (l[k].toList == s.toList) = true
      · have HF := Lib.hid (show (l.any fun x => x.toList == s.toList) = true by rw [hF, List.drop_eq_getElem_cons hlt, List.any_cons, he, Bool.true_or])
        clear hF
        go_wp2_with fail
        go_ret
        exact ⟨retB (by rw [HF.out]), rfl⟩
      · have he := Bool.eq_false_iff.2 he
        have HF := Lib.hid (any_next hF hlt he)
        clear hF
        go_wp2_with fail
        go_round
        case rel => exact ⟨k + 1, by go_num, by omega, HF.out⟩
        case measure => simp [intOf]; omega
    · have HF := Lib.hid (show (l.any fun x => x.toList == s.toList) = false by rw [hF, List.drop_of_length_le (by omega)]; rfl)
      clear hF
      go_wp2_with fail
      go_ret
      exact ⟨retB (by rw [HF.out]), rfl⟩

/-- The names of the elements that have no content. -/
def Mk.voids : List (List UInt8) := [[97, 114, 101, 97], [98, 97, 115, 101], [98, 114], [99, 111, 108], [104, 114], [105, 109, 103], [105, 110, 112, 117, 116], [108, 105, 110, 107], [109, 101, 116, 97]]
def Mk.void (l : List UInt8) : Bool := Mk.voids.any fun x => x == l
def voidL : List ByteArray := [⟨#[97, 114, 101, 97]⟩, ⟨#[98, 97, 115, 101]⟩, ⟨#[98, 114]⟩, ⟨#[99, 111, 108]⟩, ⟨#[104, 114]⟩, ⟨#[105, 109, 103]⟩, ⟨#[105, 110, 112, 117, 116]⟩, ⟨#[108, 105, 110, 107]⟩, ⟨#[109, 101, 116, 97]⟩]
def voidC : Array Value := (voidL.map Value.string).toArray
theorem voidL_any (s : ByteArray) : (voidL.any fun x => x.toList == s.toList) = Mk.void s.data.toList := by
  show (voidL.any fun x => x.toList == s.toList) = (voidL.map fun x => x.data.toList).any fun x => x == s.data.toList
  rw [List.any_map]
  congr 1; funext x
  show (x.toList == s.toList) = (x.data.toList == s.data.toList)
  rw [Lib.toList_data, Lib.toList_data]

set_option maxHeartbeats 400000 in
theorem mvoid_any (s : ByteArray) (w : World) :
    Calls Tryz.prog 21 #[.string s] w fun e w' => e = .returned (.bool (Mk.void s.data.toList)) ∧ Below w.heap.size w w' := by
  have hW : Whole (w.alloc (.cells voidC 9)) w.heap.size voidC 9 := Whole.new _ _ _
  have hR : OneRow (w.alloc (.cells voidC 9)) w.heap.size voidL := fun i hi => by
    rw [hW.cell]; unfold voidC; rw [List.getElem?_toArray, List.getElem?_map, List.getElem?_eq_getElem hi]; rfl
  have hB : Below w.heap.size w (w.alloc (.cells voidC 9)) := (Below.refl _ _).alloc (Nat.le_refl _) _
  have ho := mone_any s w.heap.size voidL (w.alloc (.cells voidC 9)) (by decide) hR
  rw [voidL_any] at ho
  clear hW hR
  go_enter Tryz.func21, Tryz.ntmps21
  go_wp2_with (go_at_call 38; refine ho.mono ?_; rintro e w' ⟨rfl, rfl⟩)
  go_ret
  exact ⟨rfl, hB⟩

end Go.Proofs.YtckmlbcpldpkpaaGreatDoor

/- The reference's add: an attribute more, if its name is new. -/
namespace Go.Proofs.YtckmlbcpldpkpaaGreatDoor
open Go Go.RowKit
set_option linter.unusedVariables false

theorem rattrInfo : (Tryz.prog.info? 57).map (fun i => (i.zero, i.size, i.bytes)) = some (some (.agg #[.string ByteArray.empty, .string ByteArray.empty]), 2, 32) := by kernel_rfl
/-- A start tag of the reference's in its box. -/
def RT (w : World) (b : Nat) (nm : ByteArray) (sl : Value) (cl : Bool) : Prop := Whole w b #[.int .i64 1, .string nm, sl, .bool cl, .string ⟨#[]⟩] 33

theorem below_drewN (n : Nat) (w : World) (k : Nat) : Below n w (w.drewN k) := ⟨rfl, rfl, rfl, Nat.le_refl _, fun _ _ => rfl⟩
theorem arow_ne {T T' : TypeId} {w : World} {base b : Nat} {v : Value} {l : List (List UInt8 × List UInt8)} {cs : Array Value} (h : ARow T w base v l) (hb : Whole w b cs T') (hn : T ≠ T') : some b ≠ v.ownBlock := fun e => h.apart hb hn e.symm

set_option maxRecDepth 100000 in
set_option maxHeartbeats 2000000 in
theorem radd_any (bt base : Nat) (N : ByteArray) (nm v : List UInt8) (sl : Value) (l : List (List UInt8 × List UInt8)) (w : World) (hl : l.length ≤ 64) (hr : ARow 57 w base sl l) (ht : RT w bt N sl false) (hbt : base ≤ bt) :
    Calls Tryz.prog 46 #[.pointer (some ⟨bt, 0, none⟩), .agg #[.string (tstr nm), .string (tstr v)]] w fun e w' => e = .returned (.tuple #[]) ∧ ∃ sl', RT w' bt N sl' false ∧ ARow 57 w' base sl' (Mk.addA l nm v) ∧ Below base w w' := by
  obtain ⟨A, c, rfl⟩ := hr.form
  obtain ⟨i0, hi0, hz0, hz1, hz2⟩ := info_parts rattrInfo
  have hbw := Whole.lt ht
  have hbw' : base ≤ w.heap.size := by omega
  have hc2 : acells [(nm, v)] = [.string (tstr nm), .string (tstr v)] := rfl
  have HN := Lib.hid (tstr_beq · nm)
  obtain ⟨X, hX⟩ : ∃ X, tstr nm = X := ⟨_, rfl⟩
  obtain ⟨Y9, hY9⟩ : ∃ Y, tstr v = Y := ⟨_, rfl⟩
  rw [hX, hY9] at hc2 ⊢
  have hB : Whole (w.alloc (.cells #[.string (X), .string (Y9)] 57)) w.heap.size #[.string (X), .string (Y9)] 57 := Whole.new _ _ _
  have hr2 := hr.alloc (.cells #[.string X, .string Y9] 57)
  have ht2 : RT (w.alloc (.cells #[.string X, .string Y9] 57)) bt N (.slice A l.length c) false := Whole.alloc ht _
  have hg0 : Below w.heap.size w (w.alloc (.cells #[.string X, .string Y9] 57)) := (Below.refl _ _).alloc (Nat.le_refl _) _
  have hne : bt ≠ w.heap.size := by omega
  have HA := Lib.hid (show Mk.addA l nm v = if (l.any fun p => p.1 == nm) then l else if l.length < 64 then l ++ [(nm, v)] else l from rfl)
  obtain ⟨w1, hw1⟩ : ∃ w1, w.alloc (.cells #[.string X, .string Y9] 57) = w1 := ⟨_, rfl⟩
  rw [hw1] at hB hr2 ht2 hg0
  have hbw1 : base ≤ w1.heap.size := Nat.le_trans hbw' hg0.size
  have hrw : w.ownsRow base 57 2 (.slice A l.length c) l.length (acells l) := hr
  clear hr ht hY9
  go_enter Tryz.func46, Tryz.ntmps46
  go_wp2_with fail
  go_loopw [4] (fun i wr => ∃ k : Nat, k ≤ l.length ∧ i = .int .i64 k ∧ Below w1.heap.size w1 wr ∧ (l.any fun p => p.1 == nm) = (l.drop k).any fun p => p.1 == nm) (fun i _ => l.length - (intOf i).toNat)
  case atStart => exact ⟨0, Nat.zero_le _, rfl, Below.refl _ _, rfl⟩
  case round =>
    obtain ⟨k, hk, rfl, hBr, hany⟩ := hrel
    have htr := Whole.below ht2 hBr (Whole.lt ht2)
    have hBx := hB.below hBr hB.lt
    have t2 : wr.cell? ⟨bt, 2, none⟩ = some (.slice A l.length c) := htr.cell 2
    have b0 : wr.cell? ⟨w.heap.size, 0, none⟩ = some (.string X) := hBx.cell 0
    have b1 : wr.cell? ⟨w.heap.size, 1, none⟩ = some (.string Y9) := hBx.cell 1
    by_cases hlt : k < l.length
    · have hlt' : (k : Int) < (l.length : Int) := by omega
      obtain ⟨g, c', hA, _, hgl, hc0, hc1⟩ := hr2.at k hlt
      injection hA with hA _ hc'
      subst hA hc'
      have d0 : wr.cell? ⟨g, k * 2, none⟩ = some (.string (tstr l[k].1)) := (hBr.cell hgl).trans hc0
      have hq : ((tstr l[k].1).toList == X.toList) = (l[k].1 == nm) := by rw [← hX]; exact HN.out _
      have HT := Lib.hid (And.intro htr (And.intro hBx hany))
      have HR2 := Lib.hid hr2
      clear htr hBx hany hc0 hc1 hr2
      cases hqq : (l[k].1 == nm) with
      | true =>
        rw [hqq] at hq
        generalize tstr l[k].1 = Y at d0 hq
        go_wp2_with fail
        go_quiet (fail)
        go_wp2_with fail
        exact bodyPost_ret (results_none rfl _ _ _) rfl ⟨rfl, _, Whole.drewN HT.out.1 nq, by rw [HA.out, if_pos (by rw [HT.out.2.2, List.drop_eq_getElem_cons hlt, List.any_cons, hqq, Bool.true_or])]; exact HR2.out.below (hBr.trans (below_drewN _ _ _)), (hg0.mono hbw').trans ((hBr.mono hbw1).trans (below_drewN _ _ _))⟩
      | false =>
        rw [hqq] at hq
        generalize tstr l[k].1 = Y at d0 hq
        go_wp2_with fail
        go_quiet (fail)
        go_wp2_with fail
        go_roundw
        case rel => exact ⟨k + 1, by omega, by go_num, hBr.trans (below_drewN _ _ _), any_next2 HT.out.2.2 hlt hqq⟩
        case measure => simp [intOf]; omega
    · have HAN := Lib.hid (show (l.any fun p => p.1 == nm) = false by rw [hany, List.drop_of_length_le (by omega)]; rfl)
      obtain rfl : k = l.length := by omega
      clear hany
      have hne2 : w.heap.size ≠ bt := fun e => hne e.symm
      by_cases h64 : l.length < 64
      · have h64' : (l.length : Int) < 64 := by omega
        have hb8 : base ≤ wr.heap.size := Nat.le_trans hbw1 hBr.size
        have hWN : wr.drew.ownsRow base 57 2 (.slice A l.length c) l.length (acells l) := hr2.below (hBr.trans (below_drewN _ wr 1))
        have hOWN := hWN.alloc (.cells #[.string X, .string Y9] 57)
        have hSRC : (wr.drew.alloc (.cells #[.string X, .string Y9] 57)).ownsRow 0 57 2 (.slice (some ⟨wr.heap.size, 0, none⟩) 1 1) 1 (acells [(nm, v)]) := by rw [hc2]; exact World.ownsRow_lit wr.drew #[.string X, .string Y9] 1 (Nat.zero_le _) (by unfold maxLen; omega) rfl
        have hTK := Whole.alloc (Whole.drew htr) (.cells #[.string X, .string Y9] 57)
        have hTK0 : (wr.alloc (.cells #[.string X, .string Y9] 57)).cell? ⟨bt, 2, none⟩ = some (.slice A l.length c) := hTK.cell 2
        have hBK := Whole.alloc (Whole.drew hBx) (.cells #[.string X, .string Y9] 57)
        have hBL : Below base w (wr.drew.alloc (.cells #[.string X, .string Y9] 57)) := ((hg0.mono hbw').trans ((hBr.mono hbw1).trans (below_drewN _ wr 1))).alloc hb8 _
        have hNE : some bt ≠ (Value.slice A l.length c).ownBlock := arow_ne (T := 57) hr2 ht2 (by decide)
        have hNB : some w.heap.size ≠ (Value.slice A l.length c).ownBlock := fun e => by have := World.ownsRow.lt hrw _ e.symm; omega
        have hLT : ∀ j, (Value.slice A l.length c).ownBlock = some j → base ≤ j := fun j hj => (World.ownsRow.lt hrw _ hj).1
        go_wp2_with fail
        refine wp_region_noPanic ?_
        refine wp_region_held_drew (S := (fun W => W.cell? ⟨w.heap.size, 0, none⟩ = some (.string X) ∧ W.cell? ⟨w.heap.size, 1, none⟩ = some (.string Y9))) (by kernel_rfl) ?_ (fun hHeld => ?_)
        · exact ⟨b0, b1⟩
        refine wpAnyH_take (i := 0) (oi := { dst := some 31, op := Op.move (Operand.tmp 0), type := 69, pos := "ref.go:210", after := #[], guard := none }) (v := ?_) rfl (by kernel_rfl) (by kernel_rfl) (by kernel_rfl) (fun _ _ _ h => h) (Or.inl ⟨by rfl, ?_⟩) (by assumption) ?_
        rotate_left 1
        · (intro w' hSw; (try dsimp only at hSw); go_simp <;> with_reducible rfl)
        try simp only [Act.put, List.setIfInBounds_toArray, List.set_cons_zero, List.set_cons_succ]
        refine wpAnyH_take (i := 1) (oi := { dst := some 32, op := Op.move (Operand.tmp 0), type := 69, pos := "ref.go:210", after := #[], guard := none }) (v := ?_) rfl (by kernel_rfl) (by kernel_rfl) (by kernel_rfl) (fun _ _ _ h => h) (Or.inl ⟨by rfl, ?_⟩) (by assumption) ?_
        rotate_left 1
        · (intro w' hSw; (try dsimp only at hSw); go_simp <;> with_reducible rfl)
        try simp only [Act.put, List.setIfInBounds_toArray, List.set_cons_zero, List.set_cons_succ]
        refine wpAnyH_take (i := 2) (oi := { dst := some 33, op := Op.nilCheck (Operand.tmp 32), type := 0, pos := "ref.go:210", after := #[{ on := 1, ground := Ground.data }], guard := none }) (v := ?_) rfl (by kernel_rfl) (by kernel_rfl) (by kernel_rfl) (fun _ _ _ h => h) (Or.inl ⟨by rfl, ?_⟩) (by assumption) ?_
        rotate_left 1
        · (intro w' hSw; (try dsimp only at hSw); go_simp <;> with_reducible rfl)
        try simp only [Act.put, List.setIfInBounds_toArray, List.set_cons_zero, List.set_cons_succ]
        refine wpAnyH_take (i := 3) (oi := { dst := some 34, op := Op.fieldAddr 33 (Operand.tmp 33) 2, type := 0, pos := "ref.go:210", after := #[{ on := 2, ground := Ground.data }], guard := none }) (v := ?_) rfl (by kernel_rfl) (by kernel_rfl) (by kernel_rfl) (fun _ _ _ h => h) (Or.inl ⟨by rfl, ?_⟩) (by assumption) ?_
        rotate_left 1
        · (intro w' hSw; (try dsimp only at hSw); go_simp <;> with_reducible rfl)
        try simp only [Act.put, List.setIfInBounds_toArray, List.set_cons_zero, List.set_cons_succ]
        refine wpAnyH_take (i := 5) (oi := { dst := some 36, op := Op.load 57 (Operand.tmp 3), type := 57, pos := "ref.go:210", after := #[], guard := none }) (v := ?_) rfl (by kernel_rfl) (by kernel_rfl) (by kernel_rfl) (fun _ _ _ h => h) (Or.inl ⟨by rfl, ?_⟩) (by assumption) ?_
        rotate_left 1
        · (intro w' hSw; (try dsimp only at hSw); go_simp <;> with_reducible rfl)
        try simp only [Act.put, List.setIfInBounds_toArray, List.set_cons_zero, List.set_cons_succ]
        refine wpAnyH_ready (rs := [4, 6]) (by kernel_rfl) (by simp) ?_
        refine AllReadyH.cons (o := { dst := some 35, op := Op.load 31 (Operand.tmp 34), type := 31, pos := "ref.go:210", after := #[{ on := 3, ground := Ground.data }], guard := none }) rfl (fun K hK => ?_) (AllReadyH.cons (o := { dst := some 37, op := Op.buildSlice 31 1 #[(0, Operand.tmp 36)], type := 31, pos := "ref.go:210", after := #[{ on := 5, ground := Ground.data }], guard := none }) rfl (fun K hK => ?_) AllReadyH.nil)
        · go_simp
          skip
          refine hK.out _ _ ?_ (fun hHeld => ?_)
          · exact ⟨b0, b1⟩
          clear hK K
          try simp only [Act.put, List.setIfInBounds_toArray, List.set_cons_zero, List.set_cons_succ]
          refine wpAnyH_ready (rs := [6]) (by kernel_rfl) (by simp) ?_
          refine AllReadyH.cons (o := { dst := some 37, op := Op.buildSlice 31 1 #[(0, Operand.tmp 36)], type := 31, pos := "ref.go:210", after := #[{ on := 5, ground := Ground.data }], guard := none }) rfl (fun K hK => ?_) AllReadyH.nil
          go_simp
          skip
          refine hK.out _ _ ?_ (fun hHeld => ?_)
          · exact ⟨hBK.cell 0, hBK.cell 1⟩
          clear hK K
          try simp only [Act.put, List.setIfInBounds_toArray, List.set_cons_zero, List.set_cons_succ]
          refine wpAnyH_ready (rs := [7]) (by kernel_rfl) (by simp) ?_
          refine AllReadyH.cons (o := { dst := some 38, op := Op.call { callee := Callee.builtin Builtin.append, args := #[Operand.tmp 35, Operand.tmp 37], argTypes := #[31, 31] }, type := 31, pos := "ref.go:210", after := #[{ on := 4, ground := Ground.data }, { on := 6, ground := Ground.data }], guard := none }) rfl (fun K hK => ?_) AllReadyH.nil
          refine step_append_src rfl (.tmp 35) (.tmp 37) 31 rfl base 0 57 i0 (.agg #[.string ByteArray.empty, .string ByteArray.empty]) 2 32 Tryz.underlying31 hi0 hz0 hz1 hz2 rfl (by decide) (.slice A l.length c) l.length (acells l) (by simp [Act.eval]) hOWN _ 1 (acells [(nm, v)]) (by simp [Act.eval]) hSRC (acells_one _) (by unfold maxLen; omega) (by omega) (by simp; omega) ?_
          intro v5 w5 o5 g5 f5
          rw [← acells_append] at o5
          have a5 : ARow 57 w5 base v5 (l ++ [(nm, v)]) := by unfold ARow; rw [List.length_append]; exact o5
          obtain ⟨A5, cp5, e5⟩ := a5.form
          rw [List.length_append, List.length_singleton] at e5
          subst e5
          have t5 := hTK.grown g5 hNE
          have x5 := hBK.grown g5 hNB
          have y5 := Whole.other x5 (a := ⟨bt, 2, none⟩) hne2 (.slice A5 (l.length + 1) cp5)
          have h5 := hBL.grown g5 (by simp; omega) hLT
          have c5 : w5.cell? ⟨bt, 2, none⟩ = some (.slice A l.length c) := t5.cell 2
          have z5 : w5.frozen? ⟨bt, 2, none⟩ = false := t5.free 2
          refine hK.out _ _ ?_ (fun hHeld => ?_)
          · exact ⟨x5.cell 0, x5.cell 1⟩
          clear hK K
          try simp only [Act.put, List.setIfInBounds_toArray, List.set_cons_zero, List.set_cons_succ]
          refine wpAnyH_take (i := 8) (oi := { dst := some 39, op := Op.nilCheck (Operand.tmp 31), type := 0, pos := "ref.go:210", after := #[{ on := 0, ground := Ground.data }, { on := 0, ground := Ground.phase }, { on := 1, ground := Ground.phase }, { on := 2, ground := Ground.phase }, { on := 3, ground := Ground.phase }, { on := 4, ground := Ground.phase }, { on := 5, ground := Ground.phase }, { on := 6, ground := Ground.phase }, { on := 7, ground := Ground.phase }], guard := none }) (v := ?_) rfl (by kernel_rfl) (by kernel_rfl) (by kernel_rfl) (fun _ _ _ h => h) (Or.inl ⟨by rfl, ?_⟩) (by assumption) ?_
          rotate_left 1
          · (intro w' hSw; (try dsimp only at hSw); go_simp <;> with_reducible rfl)
          try simp only [Act.put, List.setIfInBounds_toArray, List.set_cons_zero, List.set_cons_succ]
          refine wpAnyH_take (i := 9) (oi := { dst := some 40, op := Op.fieldAddr 33 (Operand.tmp 39) 2, type := 0, pos := "ref.go:210", after := #[{ on := 8, ground := Ground.data }, { on := 0, ground := Ground.phase }, { on := 1, ground := Ground.phase }, { on := 2, ground := Ground.phase }, { on := 3, ground := Ground.phase }, { on := 4, ground := Ground.phase }, { on := 5, ground := Ground.phase }, { on := 6, ground := Ground.phase }, { on := 7, ground := Ground.phase }], guard := none }) (v := ?_) rfl (by kernel_rfl) (by kernel_rfl) (by kernel_rfl) (fun _ _ _ h => h) (Or.inl ⟨by rfl, ?_⟩) (by assumption) ?_
          rotate_left 1
          · (intro w' hSw; (try dsimp only at hSw); go_simp <;> with_reducible rfl)
          try simp only [Act.put, List.setIfInBounds_toArray, List.set_cons_zero, List.set_cons_succ]
          refine wpAnyH_ready (rs := [10]) (by kernel_rfl) (by simp) ?_
          refine AllReadyH.cons (o := { dst := none, op := Op.store 31 (Operand.tmp 40) (Operand.tmp 38), type := 0, pos := "ref.go:210", after := #[{ on := 9, ground := Ground.data }, { on := 7, ground := Ground.data }, { on := 7, ground := Ground.chain }, { on := 0, ground := Ground.phase }, { on := 1, ground := Ground.phase }, { on := 2, ground := Ground.phase }, { on := 3, ground := Ground.phase }, { on := 4, ground := Ground.phase }, { on := 5, ground := Ground.phase }, { on := 6, ground := Ground.phase }, { on := 7, ground := Ground.phase }], guard := none }) rfl (fun K hK => ?_) AllReadyH.nil
          go_simp
          skip
          refine hK.out _ _ ?_ (fun hHeld => ?_)
          · exact ⟨y5.cell 0, y5.cell 1⟩
          clear hK K
          try simp only [Act.put, List.setIfInBounds_toArray, List.set_cons_zero, List.set_cons_succ]
          refine wpAnyH_done (by kernel_rfl) ?_ _
          refine NoPanic.normal ?_
          go_wp2_with fail
          refine bodyPost_end (results_none rfl _ _ _) rfl ⟨rfl, _, whole_put t5 2 _ rfl, ?_, h5.setCell (p := ⟨bt, 2, none⟩) hbt _⟩
          rw [HA.out, HAN.out, if_neg Bool.false_ne_true, if_pos h64]
          exact a5.other t5 (by decide) 2 _
        · go_simp
          skip
          refine hK.out _ _ ?_ (fun hHeld => ?_)
          · exact ⟨hBK.cell 0, hBK.cell 1⟩
          clear hK K
          try simp only [Act.put, List.setIfInBounds_toArray, List.set_cons_zero, List.set_cons_succ]
          refine wpAnyH_ready (rs := [4]) (by kernel_rfl) (by simp) ?_
          refine AllReadyH.cons (o := { dst := some 35, op := Op.load 31 (Operand.tmp 34), type := 31, pos := "ref.go:210", after := #[{ on := 3, ground := Ground.data }], guard := none }) rfl (fun K hK => ?_) AllReadyH.nil
          go_simp
          skip
          refine hK.out _ _ ?_ (fun hHeld => ?_)
          · exact hHeld
          clear hK K
          try simp only [Act.put, List.setIfInBounds_toArray, List.set_cons_zero, List.set_cons_succ]
          refine wpAnyH_ready (rs := [7]) (by kernel_rfl) (by simp) ?_
          refine AllReadyH.cons (o := { dst := some 38, op := Op.call { callee := Callee.builtin Builtin.append, args := #[Operand.tmp 35, Operand.tmp 37], argTypes := #[31, 31] }, type := 31, pos := "ref.go:210", after := #[{ on := 4, ground := Ground.data }, { on := 6, ground := Ground.data }], guard := none }) rfl (fun K hK => ?_) AllReadyH.nil
          refine step_append_src rfl (.tmp 35) (.tmp 37) 31 rfl base 0 57 i0 (.agg #[.string ByteArray.empty, .string ByteArray.empty]) 2 32 Tryz.underlying31 hi0 hz0 hz1 hz2 rfl (by decide) (.slice A l.length c) l.length (acells l) (by simp [Act.eval]) hOWN _ 1 (acells [(nm, v)]) (by simp [Act.eval]) hSRC (acells_one _) (by unfold maxLen; omega) (by omega) (by simp; omega) ?_
          intro v5 w5 o5 g5 f5
          rw [← acells_append] at o5
          have a5 : ARow 57 w5 base v5 (l ++ [(nm, v)]) := by unfold ARow; rw [List.length_append]; exact o5
          obtain ⟨A5, cp5, e5⟩ := a5.form
          rw [List.length_append, List.length_singleton] at e5
          subst e5
          have t5 := hTK.grown g5 hNE
          have x5 := hBK.grown g5 hNB
          have y5 := Whole.other x5 (a := ⟨bt, 2, none⟩) hne2 (.slice A5 (l.length + 1) cp5)
          have h5 := hBL.grown g5 (by simp; omega) hLT
          have c5 : w5.cell? ⟨bt, 2, none⟩ = some (.slice A l.length c) := t5.cell 2
          have z5 : w5.frozen? ⟨bt, 2, none⟩ = false := t5.free 2
          refine hK.out _ _ ?_ (fun hHeld => ?_)
          · exact ⟨x5.cell 0, x5.cell 1⟩
          clear hK K
          try simp only [Act.put, List.setIfInBounds_toArray, List.set_cons_zero, List.set_cons_succ]
          refine wpAnyH_take (i := 8) (oi := { dst := some 39, op := Op.nilCheck (Operand.tmp 31), type := 0, pos := "ref.go:210", after := #[{ on := 0, ground := Ground.data }, { on := 0, ground := Ground.phase }, { on := 1, ground := Ground.phase }, { on := 2, ground := Ground.phase }, { on := 3, ground := Ground.phase }, { on := 4, ground := Ground.phase }, { on := 5, ground := Ground.phase }, { on := 6, ground := Ground.phase }, { on := 7, ground := Ground.phase }], guard := none }) (v := ?_) rfl (by kernel_rfl) (by kernel_rfl) (by kernel_rfl) (fun _ _ _ h => h) (Or.inl ⟨by rfl, ?_⟩) (by assumption) ?_
          rotate_left 1
          · (intro w' hSw; (try dsimp only at hSw); go_simp <;> with_reducible rfl)
          try simp only [Act.put, List.setIfInBounds_toArray, List.set_cons_zero, List.set_cons_succ]
          refine wpAnyH_take (i := 9) (oi := { dst := some 40, op := Op.fieldAddr 33 (Operand.tmp 39) 2, type := 0, pos := "ref.go:210", after := #[{ on := 8, ground := Ground.data }, { on := 0, ground := Ground.phase }, { on := 1, ground := Ground.phase }, { on := 2, ground := Ground.phase }, { on := 3, ground := Ground.phase }, { on := 4, ground := Ground.phase }, { on := 5, ground := Ground.phase }, { on := 6, ground := Ground.phase }, { on := 7, ground := Ground.phase }], guard := none }) (v := ?_) rfl (by kernel_rfl) (by kernel_rfl) (by kernel_rfl) (fun _ _ _ h => h) (Or.inl ⟨by rfl, ?_⟩) (by assumption) ?_
          rotate_left 1
          · (intro w' hSw; (try dsimp only at hSw); go_simp <;> with_reducible rfl)
          try simp only [Act.put, List.setIfInBounds_toArray, List.set_cons_zero, List.set_cons_succ]
          refine wpAnyH_ready (rs := [10]) (by kernel_rfl) (by simp) ?_
          refine AllReadyH.cons (o := { dst := none, op := Op.store 31 (Operand.tmp 40) (Operand.tmp 38), type := 0, pos := "ref.go:210", after := #[{ on := 9, ground := Ground.data }, { on := 7, ground := Ground.data }, { on := 7, ground := Ground.chain }, { on := 0, ground := Ground.phase }, { on := 1, ground := Ground.phase }, { on := 2, ground := Ground.phase }, { on := 3, ground := Ground.phase }, { on := 4, ground := Ground.phase }, { on := 5, ground := Ground.phase }, { on := 6, ground := Ground.phase }, { on := 7, ground := Ground.phase }], guard := none }) rfl (fun K hK => ?_) AllReadyH.nil
          go_simp
          skip
          refine hK.out _ _ ?_ (fun hHeld => ?_)
          · exact ⟨y5.cell 0, y5.cell 1⟩
          clear hK K
          try simp only [Act.put, List.setIfInBounds_toArray, List.set_cons_zero, List.set_cons_succ]
          refine wpAnyH_done (by kernel_rfl) ?_ _
          refine NoPanic.normal ?_
          go_wp2_with fail
          refine bodyPost_end (results_none rfl _ _ _) rfl ⟨rfl, _, whole_put t5 2 _ rfl, ?_, h5.setCell (p := ⟨bt, 2, none⟩) hbt _⟩
          rw [HA.out, HAN.out, if_neg Bool.false_ne_true, if_pos h64]
          exact a5.other t5 (by decide) 2 _
      · have h64' : ¬ (l.length : Int) < 64 := by omega
        go_wp2_with fail
        exact bodyPost_end (results_none rfl _ _ _) rfl ⟨rfl, _, htr, by rw [HA.out, HAN.out, if_neg Bool.false_ne_true, if_neg h64]; exact hr2.below hBr, (hg0.mono hbw').trans (hBr.mono hbw1)⟩

end Go.Proofs.YtckmlbcpldpkpaaGreatDoor
