/- The statement ArenaFresh returns true: its walk. -/
import Derived.Test.YthocodmniofioaaACodeG
import Derived.Test.YthocodmniofioaaAHandW
import Derived.Test.YthocodmniofioaaARow
import Derived.Test.YthocodmniofioaaAWith
namespace Go.Proofs.Ythocodmniofioaa
open Go.RowKit

theorem hdl_i64 (b s : Int) (j : Nat) (h : j ≤ 1000) : I64 (Ar.hdl b s j) := by
  have h1 := Ar.nrm_pos s
  have h2 := Ar.nrm_pos b
  have hm := Ar.mul_le s j (by omega) (by omega)
  unfold Ar.hdl
  split <;> (constructor <;> omega)

set_option maxRecDepth 100000 in
set_option maxHeartbeats 1000000 in
theorem fresh_walk (b s : Int) (n d : Int) (w : World) (_hb : I64 b) (_hs : I64 s) (hn : 0 ≤ n ∧ n ≤ 255) (hd : 0 ≤ d ∧ d ≤ 255) :
    Calls Try.prog 9 #[saltV b s, .int .u8 n, .int .u8 d] w fun e w' => e = .returned (.bool true) ∧ Below w.heap.size w w' := by
  obtain ⟨i0, hi0, hz0, hz1, hz2⟩ := info_parts intInfo
  obtain ⟨dd, rfl⟩ : ∃ dd : Nat, d = (dd : Int) := ⟨d.toNat, by omega⟩
  go_enter Try.func9, Try.ntmps9
  go_wp2_with fail
  refine (aawake_any _).mono ?_
  rintro e w1 ⟨rfl, hb1⟩
  have hS1 : Whole w1 w.heap.size #[.int .i64 b, .int .i64 s] 23 := Whole.below (Whole.new w _ _) hb1 (by simp)
  have c1 : w1.cell? ⟨w.heap.size, 0, none⟩ = some (.int .i64 b) := hS1.cell 0
  have c2 : w1.cell? ⟨w.heap.size, 1, none⟩ = some (.int .i64 s) := hS1.cell 1
  have hB1 : Below w.heap.size w w1 := ((Below.refl _ w).alloc (Nat.le_refl _) _).trans (hb1.mono (by simp))
  clear hb1 hS1
  go_wp2_with fail
  refine (anew_any b s _).mono ?_
  rintro e w2 ⟨rfl, hb2⟩
  have hB2 := abelow_trans hB1 hb2
  have hs2 := hB2.size
  have hB3 := hB2.alloc hB2.size (.cells #[.int .i64 b, .int .i64 s, .slice none 0 0, .slice none 0 0, .int .i64 0] 29)
  have hA3 : AI w.heap.size (w2.alloc (.cells #[.int .i64 b, .int .i64 s, .slice none 0 0, .slice none 0 0, .int .i64 0] 29)) w2.heap.size b s (Ar.tab 0 Ar.first) [] (Foot w2.heap.size (.slice none 0 0) (.slice none 0 0)) :=
    ⟨_, _, Whole.new w2 _ _, hs2, World.ownsRow_nil _ _ _ _, World.ownsRow_nil _ _ _ _, rfl⟩
  clear c1 c2 hb2 hB1
  go_wp2_with fail
  obtain ⟨w3, hw3⟩ : ∃ w3, w2.alloc (.cells #[.int .i64 b, .int .i64 s, .slice none 0 0, .slice none 0 0, .int .i64 0] 29) = w3 := ⟨_, rfl⟩
  rw [hw3] at hB3 hA3 ⊢
  obtain ⟨B, hBB⟩ : ∃ B, w2.heap.size = B := ⟨_, rfl⟩
  rw [hBB] at hA3 hs2 ⊢
  obtain ⟨m, hm⟩ : ∃ m : Nat, n % 100 = (m : Int) := ⟨(n % 100).toNat, by omega⟩
  have hm1 : m ≤ 100 := by omega
  rw [hm]
  clear hw3 hBB hB2 hm
  go_loopw [9, 22] (fun g i wr => ∃ (k : Nat) (F : Nat → Prop), k ≤ m ∧ i = .int .i64 k ∧ AI w.heap.size wr B b s (Ar.tab k Ar.first) [] F ∧ Row 3 w.heap.size wr g (Ar.tab k fun j => Ar.hdl b s j) F ∧ Below w.heap.size w wr) (fun _ i _ => m - (intOf i).toNat)
  case atStart => exact ⟨0, _, Nat.zero_le _, rfl, hA3, Row.nil _ _ _ _, hB3⟩
  case round =>
    obtain ⟨k, F, hk, rfl, hA, hR, hbel⟩ := hrel
    obtain ⟨A, cp, hg⟩ := hR.slice
    rw [Ar.tab_len] at hg
    subst hg
    have hbs := hbel.size
    by_cases hlt : k < m
    · have HA := Lib.hid hA
      have HR := Lib.hid hR
      clear hA hR hA3 hB3
      go_wp2_with fail
      refine (aadd_any w.heap.size B b s k (Ar.tab k Ar.first) [] F _ HA.out hbs ⟨List.nodup_nil, fun _ h => by simp at h⟩ (by rw [Ar.tab_len]; omega)).mono ?_
      rintro e w4 ⟨F4, rfl, hA4, hst⟩
      rw [Ar.add_first] at hA4 ⊢
      have hR4 := HR.out.step hst
      have hb4 : Below w.heap.size w w4 := hbel.trans (hst.1.below hbs fun j hj => (HA.out.lt j hj).1)
      have hA5 := hA4.below ((Below.refl _ w4).alloc (Nat.le_refl _) (.cells #[.int .i64 (Ar.hdl b s k)] 3))
      have hR5 := hR4.below ((Below.refl _ w4).alloc (Nat.le_refl _) (.cells #[.int .i64 (Ar.hdl b s k)] 3))
      have s5 := row_one w4 3 (Ar.hdl b s k)
      have hb5 := hb4.alloc hb4.size (.cells #[.int .i64 (Ar.hdl b s k)] 3)
      obtain ⟨w5, hw5⟩ : ∃ w5, w4.alloc (.cells #[.int .i64 (Ar.hdl b s k)] 3) = w5 := ⟨_, rfl⟩
      rw [hw5] at hA5 hR5 s5 hb5
      have hbs5 := hb5.size
      clear hA4 hR4 HA HR hst
      go_wp2_with (at_builtin; refine wpList_append_src rfl _ _ 27 rfl w.heap.size 0 3 i0 (.int .i64 0) 1 8 Try.underlying27 hi0 hz0 hz1 hz2 rfl (by decide) _ _ _ rfl hR5.1 _ 1 (ints [Ar.hdl b s k]) rfl s5 (ints_one _) ?c3 ?c4 ?c5 ?_)
      case c3 => rw [Ar.tab_len]; unfold maxLen; omega
      case c4 => rw [Ar.tab_len]; omega
      case c5 => exact hbs5
      intro v6 w6 o6 g6 f6
      obtain ⟨hA6, hR6, ht6⟩ := hR5.push hA5 o6 g6 f6
      have hb6 : Below w.heap.size w w6 := hb5.trans (ht6.below hbs5 fun j hj => (hR5.1.lt j hj).1)
      clear hA5 hR5 s5 hb5 hw5
      go_wp2_with fail
      go_roundw
      case rel => exact ⟨k + 1, F4, by omega, by go_num, hA6, by rw [Ar.tab_succ]; exact hR6, hb6⟩
      case measure => simp [intOf]; omega
    · have ek : k = m := by omega
      subst ek
      have HA := Lib.hid hA
      have HR := Lib.hid hR
      clear hA hR hA3 hB3
      go_wp2_with fail
      case' inl => obtain ⟨q, hq1, hq2, hqm, HQ⟩ : ∃ q : Nat, q ≤ k ∧ k ≤ q ∧ q ≤ k ∧ Hid (q = k) := ⟨k, by omega, by omega, by omega, Lib.hid rfl⟩
      case' inr => obtain ⟨q, hq1, hq2, hqm, HQ⟩ : ∃ q : Nat, q ≤ dd ∧ dd ≤ q ∧ q ≤ k ∧ Hid (q = dd) := ⟨dd, by omega, by omega, by omega, Lib.hid rfl⟩
      all_goals
        go_loopw [36] (fun i wr => ∃ (j : Nat) (F : Nat → Prop), j ≤ q ∧ i = .int .i64 j ∧ AI w.heap.size wr B b s (Ar.tab k (Ar.emp j)) (List.range j) F ∧ Row 3 w.heap.size wr (.slice A k cp) (Ar.tab k fun j => Ar.hdl b s j) F ∧ Below w.heap.size w wr) (fun i _ => q - (intOf i).toNat)
        case atStart => exact ⟨0, _, Nat.zero_le _, rfl, by rw [Ar.emp_zero]; exact HA.out, HR.out, hbel⟩
        case round =>
          clear HA HR hbel hbs
          obtain ⟨j, F, hj, rfl, hA, hR, hbel⟩ := hrel
          have hbs := hbel.size
          by_cases hlj : j < q
          · obtain ⟨g, hAg, hc⟩ := hR.cell (Ar.tab_get (f := fun j => Ar.hdl b s j) (show j < k by omega))
            have hAh := Ar.has_emp (b := b) (s := s) (m := k) (j := j) (by omega) (by omega)
            subst hAg
            have HAh := Lib.hid hAh
            have HA := Lib.hid hA
            have HR := Lib.hid hR
            clear hA hR hAh
            go_wp2_with fail
            refine (adrop_any w.heap.size B b s (Ar.hdl b s j) (Ar.tab k (Ar.emp j)) (List.range j) F _ HA.out hbs (Ar.emp_ok (by omega)) (hdl_i64 b s j (by omega)) (by rw [Ar.tab_len]; omega)).mono ?_
            rintro e w4 ⟨F4, rfl, hA4, hst⟩
            rw [Ar.drop_emp (by omega) (by omega)] at hA4
            rw [HAh.out]
            have hR4 := HR.out.step hst
            have hb4 : Below w.heap.size w w4 := hbel.trans (hst.1.below hbs fun j hj => (HA.out.lt j hj).1)
            have hbs4 := hb4.size
            have hc4 := hR4.cell' (Ar.tab_get (f := fun j => Ar.hdl b s j) (show j < k by omega))
            have HA4 := Lib.hid hA4
            have HR4 := Lib.hid hR4
            clear hA4 hR4 HA HR hst HAh hc
            go_wp2_with fail
            refine (adrop_any w.heap.size B b s (Ar.hdl b s j) (Ar.tab k (Ar.emp (j + 1))) (List.range (j + 1)) F4 _ HA4.out hbs4 (Ar.emp_ok (by omega)) (hdl_i64 b s j (by omega)) (by rw [Ar.tab_len]; omega)).mono ?_
            rintro e w5 ⟨F5, rfl, hA5, hst⟩
            rw [Ar.drop_emp' (by omega) (by omega)] at hA5
            rw [Ar.has_emp' (by omega) (by omega)]
            have hR5 := HR4.out.step hst
            have hb5 : Below w.heap.size w w5 := hb4.trans (hst.1.below hbs4 fun j hj => (HA4.out.lt j hj).1)
            have HA5 := Lib.hid hA5
            have HR5 := Lib.hid hR5
            clear hA5 hR5 HA4 HR4 hst hc4
            go_wp2_with fail
            go_roundw
            case rel => exact ⟨j + 1, F5, by omega, by go_num, HA5.out, HR5.out, hb5⟩
            case measure => simp [intOf]; omega
          · have ej : j = q := by omega
            subst ej
            have HA := Lib.hid hA
            have HR := Lib.hid hR
            clear hA hR
            go_wp2_with fail
            obtain ⟨m0, HM0⟩ : ∃ m0 : Nat, Hid (m0 = k) := ⟨k, Lib.hid rfl⟩
            have hm0 : j ≤ m0 ∧ m0 ≤ 100 := by rw [HM0.out]; omega
            have hqe := HQ.out
            subst hqe
            simp only [Nat.lt_irrefl, decide_false]
            go_loopw [54] (fun i wr => ∃ (i' : Nat) (F : Nat → Prop), i' ≤ j ∧ i = .int .i64 i' ∧ AI w.heap.size wr B b s (Ar.tab m0 (Ar.fil j i')) (List.range (j - i')) F ∧ Row 3 w.heap.size wr (.slice A m0 cp) (Ar.tab m0 fun j => Ar.hdl b s j) F ∧ Below w.heap.size w wr) (fun i _ => j - (intOf i).toNat)
            case atStart => exact ⟨0, _, Nat.zero_le _, rfl, by rw [Ar.fil_zero, HM0.out]; exact HA.out, by rw [HM0.out]; exact HR.out, hbel⟩
            case round =>
              clear HA HR hbel hbs
              obtain ⟨i, F, hi, rfl, hA, hR, hbel⟩ := hrel
              have hbs := hbel.size
              by_cases hli : i < j
              · obtain ⟨r, hr⟩ : ∃ r : Nat, j - 1 - i = r := ⟨_, rfl⟩
                have hrj : r < j := by omega
                have hrm : r < m0 := by omega
                obtain ⟨g, hAg, hc⟩ := hR.cell (i := r) (Ar.tab_get (f := fun j => Ar.hdl b s j) hrm)
                have hE := Ar.add_fil (m := m0) (k := j) (j := i) hli
                rw [hr] at hE
                have HE := Lib.hid hE
                clear hE
                subst hAg
                have HA := Lib.hid hA
                have HR := Lib.hid hR
                have hidx : (j : Int) - 1 - (i : Int) = (r : Int) := by omega
                have hrm2 := hrm
                rw [HM0.out] at hrm2
                have q0 : (0 : Int) ≤ (r : Int) := by omega
                have q1 := Int.ofNat_lt.2 hrm2
                have hw2 : IntKind.i64.wrap (IntKind.i64.wrap ((j : Int) - 1) - (i : Int)) = (r : Int) := by rw [w64i (x := (j : Int) - 1) (by omega) (by omega), hidx]; exact w64i (by omega) (by omega)
                clear hA hR hr hidx
                go_wp2_with fail
                go_region_held3 (fun W => W.cell? ⟨g, r, none⟩ = some (.int .i64 (Ar.hdl b s r))) (first | exact hc | assumption) (first | (go_at_call 15; refine (aadd_any w.heap.size B b s (-1) _ _ F wr.drew HA.out hbs (Ar.fil_ok (by omega)) (by rw [Ar.tab_len]; omega)).mono ?_; rintro e w4 ⟨F4, rfl, hA4, hst⟩; rw [HE.out] at hA4 ⊢; have hR4 := Row.step (w := wr.drew) HR.out hst; have hc4 := hR4.cell' (Ar.tab_get (f := fun j => Ar.hdl b s j) hrm)))
                have hb4 : Below w.heap.size w w4 := hbel.trans (Below.trans (b := wr.drew) ⟨rfl, rfl, rfl, Nat.le_refl _, fun _ _ => rfl⟩ (hst.1.below hbs fun j hj => (HA.out.lt j hj).1))
                have HA4 := Lib.hid hA4
                have HR4 := Lib.hid hR4
                clear hA4 hR4 HA HR hst hc hc4 hw2
                go_wp2_with fail
                go_roundw
                case rel => exact ⟨i + 1, F4, by omega, by go_num, HA4.out, HR4.out, hb4⟩
                case measure => simp [intOf]; omega
              · have ei : i = j := by omega
                subst ei
                have hle := Ar.fil_live m0 i
                rw [Nat.sub_self, List.range_zero] at hA
                obtain ⟨vs, vf, hW, _, hvs, hvf, _⟩ := hA
                obtain ⟨A1, c1, rfl⟩ := own_slice (own_zero hvs)
                obtain ⟨A2, c2, rfl⟩ := own_slice (own_zero hvf)
                rw [hle, Ar.tab_len, HM0.out, List.length_nil] at hW
                have k2 := hW.cell 2
                have k3 := hW.cell 3
                simp only [List.getElem?_toArray, List.getElem?_cons_succ, List.getElem?_cons_zero] at k2 k3
                have HV := Lib.hid hvs
                have HU := Lib.hid hvf
                have HW := Lib.hid hW
                clear hvs hvf hW hR
                go_wp2_with fail
                refine (alen_any w.heap.size B b s _ [] _ _ ⟨_, _, by rw [hle, Ar.tab_len, HM0.out]; exact HW.out, hs2, HV.out, HU.out, rfl⟩).mono ?_
                rintro e w4 ⟨rfl, hb4⟩
                rw [hle, HM0.out]
                have k4 := acell k3 hb4
                go_wp2_with fail
                go_ret
                exact ⟨rfl, hbel.trans (hb4.mono hbs)⟩
end Go.Proofs.Ythocodmniofioaa
