/- The statements' first look, awake, returns true. The walks of EntityNumbers and EntityPlain. -/
import Derived.Test.YtmpdapjfndjicaaDoorEDec
import Derived.Test.YtmpdapjfndjicaaDoorERef
import Derived.Deep.RegionHeld3
import Derived.Deep.RegionWith
import Derived.Deep.DrawnRows
namespace Go.Proofs.YtmpdapjfndjicaaDoor
open Go Go.RowKit
attribute [local go_sem] Oper.semAt_some

theorem awake_d : Ent.decode [97, 38, 108, 116, 59, 98] = [97, 60, 98] := by
  rw [Ent.decode_plain (by decide)]
  have e := Ent.decode_esc 60 [98]
  have e2 : Ent.esc 60 ++ [98] = [38, 108, 116, 59, 98] := rfl
  rw [e2] at e
  rw [e, Ent.decode_plain (by decide), Ent.decode_nil]
theorem eqS (a b : ByteArray) : (a.toList == b.toList) = decide (a.data.toList = b.data.toList) := by
  rw [Lib.toList_data, Lib.toList_data, Bool.eq_iff_iff, beq_iff_eq, decide_eq_true_eq]
theorem sameS (a : ByteArray) : (a.toList == a.toList) = true := by simp

set_option maxHeartbeats 400000 in
theorem awake_any (w : World) (hT : Tab w) :
    Calls Tryd.prog 10 #[] w fun e w' => e = .returned (.bool true) ∧ Below w.heap.size w w' := by
  have hq : ((tstr [97, 60, 98]).toList == [97, 60, 98]) = true := by rw [Lib.toList_data, tstr_data]; rfl
  have hd := tdecode_any (tstr [97, 38, 108, 116, 59, 98]) w hT (by decide)
  rw [tstr_data, awake_d] at hd
  go_enter Tryd.func10, Tryd.ntmps10
  go_wp2_with fail
  refine hd.mono ?_
  rintro e w1 ⟨rfl, hb1⟩
  go_wp2_with fail
  go_ret
  exact ⟨rfl, hb1⟩

set_option maxHeartbeats 400000 in
theorem numbers_walk (n : Int) (w : World) (hT : Tab w) (h1 : -9223372036854775808 ≤ n) (h2 : n ≤ 9223372036854775807) :
    Calls Tryd.prog 4 #[.int .i64 n] w fun e w' => e = .returned (.bool true) ∧ Below w.heap.size w w' := by
  obtain ⟨X, hX⟩ : ∃ X, tstr (Ent.numb n) = X := ⟨_, rfl⟩
  have hq := sameS X
  have hc := fun w => tnumber_any n w
  have hr := fun w => rnumber_any n w h1 h2
  simp only [hX] at hc hr
  clear hX
  go_enter Tryd.func4, Tryd.ntmps4
  go_wp2_with fail
  refine (awake_any w hT).mono ?_
  rintro e w1 ⟨rfl, hb1⟩
  go_wp2_with fail
  refine (hc w1).mono ?_
  rintro e w2 ⟨rfl, rfl⟩
  go_wp2_with fail
  refine (hr w1).mono ?_
  rintro e w2 ⟨rfl, hb2⟩
  go_wp2_with fail
  go_ret
  exact ⟨rfl, below_trans' hb1 hb2⟩

set_option maxHeartbeats 1000000 in
theorem plain_walk (s : ByteArray) (w : World) (hT : Tab w) :
    Calls Tryd.prog 9 #[.string s] w fun e w' => e = .returned (.bool true) ∧ Below w.heap.size w w' := by
  by_cases hs : s.size ≤ 1000
  · go_enter Tryd.func9, Tryd.ntmps9
    go_wp2_with fail
    refine (awake_any w hT).mono ?_
    rintro e w1 ⟨rfl, hb1⟩
    have hT1 := hT.below hb1
    go_wp2_with fail
    go_loop [3] (fun i => ∃ k : Nat, k ≤ s.size ∧ i = .int .i64 k ∧ ∀ c ∈ s.data.toList.take k, c ≠ 38) (fun i => s.size - (intOf i).toNat)
    case atStart => exact ⟨0, Nat.zero_le _, rfl, fun c h => by simp at h⟩
    case round =>
      obtain ⟨k, hk, rfl, hno⟩ := hrel
      by_cases hlt : k < s.size
      · by_cases h38 : s[k].toNat = 38
        · have e1 : Ent.decode s.data.toList = s.data.toList.take k ++ Ent.decode (s.data.toList.drop k) := by
            conv => lhs; rw [← List.take_append_drop k s.data.toList]
            exact Ent.decode_run _ _ hno
          have hd1 := fun w2 (h : Tab w2) => tdecode_any s w2 h (by omega)
          have hxs : (s.extract k s.size).size ≤ 20000 := by rw [ByteArray.size_extract]; omega
          have hd2 := fun w2 (h : Tab w2) => tdecode_any (s.extract k s.size) w2 h hxs
          have sl1 : ∀ W : World, (Instr.slice 9 (.string s) (some (.int .i64 k)) none none).run Tryd.prog W = .ok (.string (s.extract k s.size)) W := fun W => by
            rw [run_slice_string_l (ht := Tryd.underlying9) (h0 := by omega) (h1 := by omega)]; rfl
          have sl2 : ∀ W : World, (Instr.slice 9 (.string s) none (some (.int .i64 k)) none).run Tryd.prog W = .ok (.string (s.extract 0 k)) W := fun W => by
            rw [run_slice_string_h (ht := Tryd.underlying9) (h0 := by omega) (h2 := by omega)]; rfl
          have htl := take_extract s k
          rw [drop_extract] at hd2
          obtain ⟨X, hX⟩ : ∃ X, s.extract k s.size = X := ⟨_, rfl⟩
          obtain ⟨Y, hY⟩ : ∃ Y, s.extract 0 k = Y := ⟨_, rfl⟩
          rw [hX] at sl1 hd2
          rw [hY] at sl2 htl
          have f38 : ((s[k].toNat : Int) == 38) = true := by rw [h38]; rfl
          have hcat : tstr (Ent.decode s.data.toList) = Y ++ tstr (Ent.decode (s.data.toList.drop k)) := by
            rw [e1, ← htl, ← tstr_append]; rfl
          obtain ⟨D, hD⟩ : ∃ D, tstr (Ent.decode (s.data.toList.drop k)) = D := ⟨_, rfl⟩
          obtain ⟨R, hR⟩ : ∃ R, tstr (Ent.decode s.data.toList) = R := ⟨_, rfl⟩
          rw [hD] at hd2 hcat
          rw [hR] at hd1 hcat
          have hsz : Y.size ≤ 20000 := by
            have : Y.size = Y.data.toList.length := rfl
            rw [this, htl, List.length_take]
            have : min k s.data.toList.length ≤ k := Nat.min_le_left _ _
            omega
          have hdz : D.size ≤ 20000 := by
            have hl := Ent.decode_len (s.data.toList.drop k)
            rw [← hD, tstr_size]
            rw [List.length_drop] at hl
            have : s.data.toList.length = s.size := rfl
            omega
          have hq : (R.toList == (Y ++ D).toList) = true := by rw [hcat]; simp
          clear e1 htl hX hY hcat hD hR h38 hno
          have hs1 : ∀ W : World, (Tab W ∧ Below w1.heap.size w1 W) → Calls Tryd.prog 18 #[.string s] W fun e w' => e = .returned (.string R) ∧ (Tab w' ∧ Below w1.heap.size w1 w') := fun W h => (hd1 W h.1).mono fun _ _ ⟨e1, e2⟩ => ⟨e1, h.1.below e2, below_trans' h.2 e2⟩
          have hs2 : ∀ W : World, (Tab W ∧ Below w1.heap.size w1 W) → Calls Tryd.prog 18 #[.string X] W fun e w' => e = .returned (.string D) ∧ (Tab w' ∧ Below w1.heap.size w1 w') := fun W h => (hd2 W h.1).mono fun _ _ ⟨e1, e2⟩ => ⟨e1, h.1.below e2, below_trans' h.2 e2⟩
          have hS0 : Tab w1 ∧ Below w1.heap.size w1 w1 := ⟨hT1, Below.refl _ _⟩
          have hS0' : Tab w1.drew ∧ Below w1.heap.size w1 w1.drew := ⟨hT1, Below.drew (Below.refl _ _)⟩
          have had : ∀ W : World, (Op.stringOp .add Y D).run Tryd.prog W = .ok (.string (Y ++ D)) W := fun W => run_string_add_sum W _ _ (by omega)
          clear hd1 hd2
          go_wp2_with fail
          go_region_held3 (fun W => Tab W ∧ Below w1.heap.size w1 W) (first | assumption | exact hS0' | exact hS0)
            (first | (go_at_call_of 18 (Value.string s); refine (hs1 _ ?_).mono ?_; (assumption); rintro e w9 ⟨rfl, hS9⟩) | (go_at_call_of 18 (Value.string X); refine (hs2 _ ?_).mono ?_; (assumption); rintro e w9 ⟨rfl, hS9⟩))
          rename_i hS2
          go_wp2_with fail
          go_ret
          exact ⟨rfl, below_trans' hb1 hS2.2⟩
        · have hnew : ∀ c ∈ s.data.toList.take (k + 1), c ≠ 38 := by
            intro c hc
            have hkl : k < s.data.toList.length := hlt
            rw [List.take_succ_eq_append_getElem hkl, List.mem_append, List.mem_singleton] at hc
            rcases hc with hc | rfl
            · exact hno c hc
            · intro e
              exact h38 (show (s.data.toList[k]).toNat = 38 by rw [e]; rfl)
          have HN := Lib.hid hnew
          have f38 : ((s[k].toNat : Int) == 38) = false := by rw [beq_eq_false_iff_ne]; omega
          clear hnew hno h38
          go_wp2_with fail
          go_round
          case rel => exact ⟨k + 1, by omega, by go_num, HN.out⟩
          case measure => simp [intOf]; omega
      · have e1 : Ent.decode s.data.toList = s.data.toList := Ent.decode_same _ (fun c hc => hno c (by rwa [List.take_of_length_le (by show s.size ≤ k; omega)]))
        have hd1 := tdecode_any s w1 hT1 (by omega)
        rw [e1, tstr_of] at hd1
        have hq := sameS s
        clear e1 hno
        go_wp2_with fail
        refine hd1.mono ?_
        rintro e w2 ⟨rfl, hb2⟩
        go_wp2_with fail
        go_ret
        exact ⟨rfl, below_trans' hb1 hb2⟩
  · go_enter Tryd.func9, Tryd.ntmps9
    go_wp2_with fail
    refine (awake_any w hT).mono ?_
    rintro e w1 ⟨rfl, hb1⟩
    go_wp2_with fail
    refine (awake_any w1 (hT.below hb1)).mono ?_
    rintro e w2 ⟨rfl, hb2⟩
    go_wp2_with fail
    go_ret
    exact ⟨rfl, below_trans' hb1 hb2⟩

end Go.Proofs.YtmpdapjfndjicaaDoor
