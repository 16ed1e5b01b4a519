/- The law's function 'same': an arena as the model says. -/
import Derived.Test.YtccdhfpifohhjaaACodeG
import Derived.Test.YtccdhfpifohhjaaALen
import Derived.Test.YtccdhfpifohhjaaAHandW
namespace Go.Proofs.Ytccdhfpifohhjaa
open Go.RowKit

theorem S_same {W0 W : World} {B M : Nat} {b s : Int} {v2 v3 v4 u2 u3 : Value} {T T' : TypeId} (h : Whole W0 B #[.int .i64 b, .int .i64 s, v2, v3, v4] T) (h' : Whole W0 M #[.int .i64 b, .int .i64 s, u2, u3] T') (hb : Below W0.heap.size W0 W) :
    W.cell? ⟨B, 0, none⟩ = some (.int .i64 b) ∧ W.cell? ⟨B, 1, none⟩ = some (.int .i64 s) ∧ W.cell? ⟨B, 2, none⟩ = some v2 ∧ W.cell? ⟨B, 3, none⟩ = some v3 ∧ W.cell? ⟨B, 4, none⟩ = some v4 ∧ W.cell? ⟨M, 0, none⟩ = some (.int .i64 b) ∧ W.cell? ⟨M, 1, none⟩ = some (.int .i64 s) ∧ W.cell? ⟨M, 2, none⟩ = some u2 ∧ W.cell? ⟨M, 3, none⟩ = some u3 ∧ Below W0.heap.size W0 W :=
  ⟨(h.below hb h.lt).cell 0, (h.below hb h.lt).cell 1, (h.below hb h.lt).cell 2, (h.below hb h.lt).cell 3, (h.below hb h.lt).cell 4, (h'.below hb h'.lt).cell 0, (h'.below hb h'.lt).cell 1, (h'.below hb h'.lt).cell 2, (h'.below hb h'.lt).cell 3, hb⟩

set_option maxRecDepth 100000 in
set_option maxHeartbeats 1000000 in
theorem same_any (base B : Nat) (b s : Int) (cs : List (Option Int)) (fr : List Nat) (F : Nat → Prop) (vc vf : Value) (w : World) (hA : AI base w B b s cs fr F) (hM : MR w vc vf cs fr) (hl : cs.length ≤ 1000) (hf : fr.length ≤ 1000) :
    Calls Try.prog 22 #[.pointer (some ⟨B, 0, none⟩), modelV b s vc vf] w fun e w' => e = .returned (.bool true) ∧ Below w.heap.size w w' := by
  obtain ⟨Af, cf, rfl⟩ := own_slice hM.2
  obtain ⟨A, c, rfl⟩ := own_slice hM.1
  have hb1 := (Below.refl _ w).alloc (Nat.le_refl _) (.cells #[.int .i64 b, .int .i64 s, .slice A cs.length c, .slice Af fr.length cf] 33)
  have m1 : Whole (w.alloc (.cells #[.int .i64 b, .int .i64 s, .slice A cs.length c, .slice Af fr.length cf] 33)) w.heap.size #[.int .i64 b, .int .i64 s, .slice A cs.length c, .slice Af fr.length cf] 33 := Whole.new w _ _
  obtain ⟨W1, hW1⟩ : ∃ W1, w.alloc (.cells #[.int .i64 b, .int .i64 s, .slice A cs.length c, .slice Af fr.length cf] 33) = W1 := ⟨_, rfl⟩
  rw [hW1] at hb1 m1
  have hA1 := hA.below hb1
  have hM1 := hM.below hb1
  obtain ⟨vs, vg, hW, _, hvs, hvg, _⟩ := hA1
  obtain ⟨A1, c1, rfl⟩ := own_slice (own_zero hvs)
  obtain ⟨A2, c2, rfl⟩ := own_slice (own_zero hvg)
  have k0 : W1.cell? ⟨B, 0, none⟩ = some (.int .i64 b) := hW.cell 0
  have k1 : W1.cell? ⟨B, 1, none⟩ = some (.int .i64 s) := hW.cell 1
  have k2 : W1.cell? ⟨B, 2, none⟩ = some (.slice A1 cs.length c1) := hW.cell 2
  have k3 : W1.cell? ⟨B, 3, none⟩ = some (.slice A2 fr.length c2) := hW.cell 3
  have k4 : W1.cell? ⟨B, 4, none⟩ = some (.int .i64 (Ar.live cs : Nat)) := hW.cell 4
  have n0 : W1.cell? ⟨w.heap.size, 0, none⟩ = some (.int .i64 b) := m1.cell 0
  have n1 : W1.cell? ⟨w.heap.size, 1, none⟩ = some (.int .i64 s) := m1.cell 1
  have n2 : W1.cell? ⟨w.heap.size, 2, none⟩ = some (.slice A cs.length c) := m1.cell 2
  have n3 : W1.cell? ⟨w.heap.size, 3, none⟩ = some (.slice Af fr.length cf) := m1.cell 3
  have HA := Lib.hid (hA.below hb1)
  have HM := Lib.hid hM1
  have HV := Lib.hid hvs
  have HU := Lib.hid hvg
  have HB := Lib.hid hb1
  clear hA hM hM1 hvs hvg hb1
  have hd : Below W1.heap.size W1 W1.drew := ⟨rfl, rfl, rfl, Nat.le_refl _, fun _ _ => rfl⟩
  go_enter Try.func22, Try.ntmps22
  go_wp2_with fail
  clear k0 k1 k2 k3 k4 n0 n1 n2 n3
  go_region_held3 (fun W => W.cell? ⟨B, 0, none⟩ = some (.int .i64 b) ∧ W.cell? ⟨B, 1, none⟩ = some (.int .i64 s) ∧ W.cell? ⟨B, 2, none⟩ = some (.slice A1 cs.length c1) ∧ W.cell? ⟨B, 3, none⟩ = some (.slice A2 fr.length c2) ∧ W.cell? ⟨B, 4, none⟩ = some (.int .i64 (Ar.live cs : Nat)) ∧ W.cell? ⟨w.heap.size, 0, none⟩ = some (.int .i64 b) ∧ W.cell? ⟨w.heap.size, 1, none⟩ = some (.int .i64 s) ∧ W.cell? ⟨w.heap.size, 2, none⟩ = some (.slice A cs.length c) ∧ W.cell? ⟨w.heap.size, 3, none⟩ = some (.slice Af fr.length cf) ∧ Below W1.heap.size W1 W)
    (first | exact S_same hW m1 hd | exact S_same hW m1 (by assumption))
    (first
      | (go_at_call 46; refine (rlen_any b s _ _ cs fr _ (HM.out.below (by assumption)) (by omega)).mono ?_; rintro e w9 ⟨rfl, hb9⟩; have hB9 : Below W1.heap.size W1 w9 := abelow_trans (by assumption) hb9)
      | (go_at_call 29; refine (alen_any base B b s cs fr F _ (HA.out.below (by assumption))).mono ?_; rintro e w9 ⟨rfl, hb9⟩; have hB9 : Below W1.heap.size W1 w9 := abelow_trans (by assumption) hb9))
  clear hd
  rename_i hSx
  obtain ⟨x0, x1, x2, x3, x4, y0, y1, y2, y3, hbx⟩ := hSx
  have hfin : Below w.heap.size w w9 := abelow_trans HB.out hbx
  have h1 := own_below (own_zero HV.out) hbx
  have h2 := own_below (own_zero HU.out) hbx
  have h3 := own_below HM.out.1 hbx
  have h4 := own_below HM.out.2 hbx
  have H1 := Lib.hid h1
  have H2 := Lib.hid h2
  have H3 := Lib.hid h3
  have H4 := Lib.hid h4
  have HF := Lib.hid hfin
  clear h1 h2 h3 h4 hfin hbx hW m1 hW1 HA HM HV HU HB
  go_wp2_with fail
  go_loopw [55] (fun i wr => ∃ k : Nat, k ≤ fr.length ∧ i = .int .i64 k ∧ Below w9.heap.size w9 wr) (fun i _ => fr.length - (intOf i).toNat)
  case atStart => exact ⟨0, Nat.zero_le _, rfl, Below.refl _ _⟩
  case round =>
    obtain ⟨k, hk, rfl, hbw⟩ := hrel
    by_cases hlt : k < fr.length
    · obtain ⟨f, hfk⟩ : ∃ f, fr[k]? = some f := ⟨_, List.getElem?_eq_getElem hlt⟩
      obtain ⟨g2, hg2, _, hc2⟩ := own_cells (own_below H2.out hbw) (by omega)
      obtain ⟨g4, hg4, _, hc4⟩ := own_cells (own_below H4.out hbw) (by omega)
      have d2 := hc2 k (.int .i64 (f : Int)) (by simp [Ar.nums, hfk])
      have d4 := hc4 k (.int .i64 (f : Int)) (by simp [Ar.nums, hfk])
      have a3 := acell x3 hbw
      have b3 := acell y3 hbw
      have HBW := Lib.hid hbw
      subst hg2 hg4
      have q0 : (0 : Int) ≤ (k : Int) := by omega
      have q1 : (k : Int) < (fr.length : Int) := by omega
      clear hc2 hc4 hfk hbw x0 x1 x2 x3 x4 y0 y1 y2 y3
      go_wp2_with fail
      go_quiet (fail)
      go_wp2_with fail
      go_roundw
      case rel => exact ⟨k + 1, by omega, by go_num, Below.trans HBW.out ⟨rfl, rfl, rfl, Nat.le_refl _, fun _ _ => rfl⟩⟩
      case measure => simp [intOf]; omega
    · have ek : k = fr.length := by omega
      subst ek
      have HBW := Lib.hid hbw
      have b2 := acell y2 hbw
      clear hbw
      go_wp2_with fail
      go_loopw [75] (fun i wr' => ∃ k : Nat, k ≤ cs.length ∧ i = .int .i64 k ∧ Below w9.heap.size w9 wr') (fun i _ => cs.length - (intOf i).toNat)
      case atStart => exact ⟨0, Nat.zero_le _, rfl, HBW.out⟩
      case round =>
        clear b2
        obtain ⟨k, hk, rfl, hbw⟩ := hrel
        by_cases hlt : k < cs.length
        · obtain ⟨f, hfk⟩ : ∃ f, cs[k]? = some f := ⟨_, List.getElem?_eq_getElem hlt⟩
          obtain ⟨g2, hg2, _, hc2⟩ := own_cells (own_below H1.out hbw) (by omega)
          obtain ⟨g4, hg4, _, hc4⟩ := own_cells (own_below H3.out hbw) (by omega)
          obtain ⟨p1, p2⟩ := Ar.slots_get cs k f hfk
          have d2 := hc2 _ _ p1
          have d2' := hc2 _ _ p2
          have d4 := hc4 _ _ p1
          have d4' := hc4 _ _ p2
          have a3 := acell x2 hbw
          have b3 := acell y2 hbw
          have HBW := Lib.hid hbw
          subst hg2 hg4
          obtain ⟨u, hu⟩ : ∃ u, f.isSome = u := ⟨_, rfl⟩
          obtain ⟨z, hz⟩ : ∃ z, f.getD 0 = z := ⟨_, rfl⟩
          rw [hu] at d2 d4
          rw [hz] at d2' d4'
          have q0 : (0 : Int) ≤ (k : Int) := by omega
          have q1 : (k : Int) < (cs.length : Int) := by omega
          clear hc2 hc4 hfk hbw x0 x1 x2 x3 x4 y0 y1 y2 y3 p1 p2 hu hz
          go_wp2_with fail
          go_quiet (fail)
          go_wp2_with fail
          go_roundw
          case rel => exact ⟨k + 1, by omega, by go_num, Below.trans HBW.out ⟨rfl, rfl, rfl, Nat.le_refl _, fun _ _ => rfl⟩⟩
          case measure => simp [intOf]; omega
        · have ek : k = cs.length := by omega
          subst ek
          go_wp2_with fail
          go_ret
          exact ⟨rfl, abelow_trans HF.out hbw⟩
end Go.Proofs.Ytccdhfpifohhjaa
