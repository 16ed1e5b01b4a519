/- The reference's First. -/
import Derived.Test.YtomffkdfgfenpaaQRefC
namespace Go.Proofs.Ytomffkdfgfenpaa
open Go.RowKit

/-- Goes no later. -/
def Le3 (a b : T3) : Prop := a.2.1 < b.2.1 ∨ a.2.1 = b.2.1 ∧ a.2.2 ≤ b.2.2
theorem min_eq {l r : List T3} {x y : T3} (hp : l.Perm (x :: r)) (hx : Lx (x :: r)) (hy : y ∈ l) (hm : ∀ z ∈ l, Le3 y z) : y = x := by
  have hyy := hp.mem_iff.1 hy
  rcases List.mem_cons.1 hyy with e | hr
  · exact e
  · have h1 := (List.pairwise_cons.1 hx).1 y hr
    have h2 := hm x (hp.mem_iff.2 (List.mem_cons_self ..))
    unfold Le3 at h2
    omega
set_option maxRecDepth 100000 in
set_option maxHeartbeats 1000000 in
theorem rfirst_any (A : Option Addr) (c : Nat) (l r : List T3) (x : T3) (nx : Int) (w : World) (h : RV w (.slice A l.length c) l) (hl : l.length ≤ 1000) (hp : l.Perm (x :: r)) (hx : Lx (x :: r)) :
    Calls Try.prog 31 #[rval (.slice A l.length c) nx] w fun e w' => e = .returned (.tuple #[.agg #[.int .i64 x.1, .int .i64 x.2.1, .int .i64 x.2.2], .bool true]) ∧ Below w.heap.size w w' := by
  obtain ⟨n, hn⟩ : ∃ n, l.length = n := ⟨_, rfl⟩
  have hn0 : 0 < n := by rw [← hn, hp.length_eq]; simp
  rw [hn] at h hl
  have hb1 := (Below.refl _ w).alloc (Nat.le_refl _) (.cells #[.slice A n c, .int .i64 nx] 58)
  have hX1 := Whole.new w #[.slice A n c, .int .i64 nx] 58
  have hz1 : (w.alloc (.cells #[.slice A n c, .int .i64 nx] 58)).heap.size = w.heap.size + 1 := by simp
  obtain ⟨w1, hw1⟩ : ∃ w1, w.alloc (.cells #[.slice A n c, .int .i64 nx] 58) = w1 := ⟨_, rfl⟩
  rw [hw1] at hb1 hX1 hz1
  have hb2 := hb1.alloc hb1.size (.cells #[.int .i64 0, .int .i64 0, .int .i64 0] 69)
  have hX2 := hX1.alloc (.cells #[.int .i64 0, .int .i64 0, .int .i64 0] 69)
  have hR2 := Whole.new w1 #[.int .i64 0, .int .i64 0, .int .i64 0] 69
  have hz2 : (w1.alloc (.cells #[.int .i64 0, .int .i64 0, .int .i64 0] 69)).heap.size = w.heap.size + 1 + 1 := by simp [hz1]
  obtain ⟨w2, hw2⟩ : ∃ w2, w1.alloc (.cells #[.int .i64 0, .int .i64 0, .int .i64 0] 69) = w2 := ⟨_, rfl⟩
  rw [hw2] at hb2 hX2 hR2 hz2
  have k0 : w2.cell? ⟨w.heap.size, 0, none⟩ = some (.slice A n c) := hX2.cell 0
  have k1 : w2.cell? ⟨w.heap.size, 1, none⟩ = some (.int .i64 nx) := hX2.cell 1
  have h2 := h.below hb2
  have hTT := h.below (Below.refl _ w)
  rw [hn] at h2 hTT
  rcases h2.addr with ⟨_, h0, _⟩ | ⟨g, off, rfl⟩
  · omega
  obtain ⟨y0, hy0⟩ : ∃ y0, l[0]? = some y0 := ⟨l[0]'(by omega), by simp⟩
  obtain ⟨e1, e2, e3⟩ := h2.timerAt hn hy0
  rw [Nat.zero_mul, Nat.add_zero] at e1 e2 e3
  have hb3 := hb2.alloc hb2.size (.cells #[.int .i64 y0.1, .int .i64 y0.2.1, .int .i64 y0.2.2] 69)
  have hX3 := hX2.alloc (.cells #[.int .i64 y0.1, .int .i64 y0.2.1, .int .i64 y0.2.2] 69)
  have hR3 := hR2.alloc (.cells #[.int .i64 y0.1, .int .i64 y0.2.1, .int .i64 y0.2.2] 69)
  have hO3 := Whole.new w2 #[.int .i64 y0.1, .int .i64 y0.2.1, .int .i64 y0.2.2] 69
  have k03 : (w2.alloc (.cells #[.int .i64 y0.1, .int .i64 y0.2.1, .int .i64 y0.2.2] 69)).cell? ⟨w.heap.size, 0, none⟩ = some (.slice (some ⟨g, off, none⟩) n c) := hX3.cell 0
  obtain ⟨w3, hw3⟩ : ∃ w3, w2.alloc (.cells #[.int .i64 y0.1, .int .i64 y0.2.1, .int .i64 y0.2.2] 69) = w3 := ⟨_, rfl⟩
  rw [hw3] at hb3 hX3 hR3 hO3 k03
  rw [hn]
  have HN := Lib.hid hn
  have HT := Lib.hid hTT
  have HB3 := Lib.hid hb3
  have HX3 := Lib.hid hX3
  have HR3 := Lib.hid hR3
  have HO3 := Lib.hid hO3
  have HY := Lib.hid hy0
  have HP := Lib.hid hp
  have HLX := Lib.hid hx
  have HZ1 := Lib.hid hz1
  have HZ2 := Lib.hid hz2
  have hnz : ((n : Int) == 0) = false := by rw [beq_eq_false_iff_ne]; omega
  have hn1 : (0 : Int) < (n : Int) := by omega
  clear hX1 hX2 hR2 h hTT h2 hb1 hb2 hX3 hR3 hO3 hb3 hy0 hp hx hz1 hz2 hn
  go_enter Try.func31, Try.ntmps31
  go_wp2_with fail
  clear k0 k1 e1 e2 e3 hw1 hw2 hw3 k03
  go_loopw [18] (fun i wr => ∃ (k : Nat) (y : T3), k ≤ n ∧ i = .int .i64 k ∧ Hid (y ∈ l) ∧ Hid (∀ (j : Nat) (z : T3), j < k → l[j]? = some z → Le3 y z) ∧ Whole wr w.heap.size #[.slice (some ⟨g, off, none⟩) n c, .int .i64 nx] 58 ∧ Whole wr w1.heap.size #[.int .i64 0, .int .i64 0, .int .i64 0] 69 ∧ Whole wr w2.heap.size #[.int .i64 y.1, .int .i64 y.2.1, .int .i64 y.2.2] 69 ∧ Below w.heap.size w wr) (fun i _ => n - (intOf i).toNat)
  case atStart => exact ⟨0, y0, Nat.zero_le _, rfl, Lib.hid (List.mem_of_getElem? HY.out), Lib.hid (fun j z hj => absurd hj (Nat.not_lt_zero _)), HX3.out, HR3.out, HO3.out, HB3.out⟩
  case round =>
    clear HX3 HR3 HO3 HB3
    obtain ⟨k, y, hk, rfl, HM, HK, hX, hR, hO, hB⟩ := hrel
    have k0 : wr.cell? ⟨w.heap.size, 0, none⟩ = some (.slice (some ⟨g, off, none⟩) n c) := hX.cell 0
    have o0 : wr.cell? ⟨w2.heap.size, 0, none⟩ = some (.int .i64 y.1) := hO.cell 0
    have o1 : wr.cell? ⟨w2.heap.size, 1, none⟩ = some (.int .i64 y.2.1) := hO.cell 1
    have o2 : wr.cell? ⟨w2.heap.size, 2, none⟩ = some (.int .i64 y.2.2) := hO.cell 2
    have f0 := hO.free 0
    have f1 := hO.free 1
    have f2 := hO.free 2
    have hr := HT.out.below hB
    have HX := Lib.hid hX
    have HR := Lib.hid hR
    have HO := Lib.hid hO
    by_cases hlt : k < n
    · obtain ⟨z, hz⟩ : ∃ z, l[k]? = some z := ⟨l[k]'(by rw [HN.out]; exact hlt), by simp⟩
      obtain ⟨e1, e2, e3⟩ := hr.timerAt HN.out hz
      have HZ := Lib.hid hz
      have hk1 : (0 : Int) ≤ (k : Int) := by omega
      have hk2 : (k : Int) < (n : Int) := by omega
      have hstep : ∀ u : T3, Le3 u y → Le3 u z → ∀ (j : Nat) (v : T3), j < k + 1 → l[j]? = some v → Le3 u v := fun u h1 h2 j v hj hv => by
        by_cases e : j = k
        · subst e
          rw [HZ.out] at hv
          injection hv with hv
          rw [← hv]
          exact h2
        · have := HK.out j v (by omega) hv
          unfold Le3 at this h1 ⊢
          omega
      have HS := Lib.hid hstep
      have HYZ := Lib.hid (List.mem_of_getElem? hz)
      have hdr : ∀ nq, Below wr.heap.size wr (wr.drewN nq) := fun nq => ⟨rfl, rfl, rfl, Nat.le_refl _, fun _ _ => rfl⟩
      have hKQ : ∀ nq, ∃ X, (((wr.drewN nq).setCell ⟨w2.heap.size, 0, none⟩ (.int .i64 z.1)).setCell ⟨w2.heap.size, 1, none⟩ (.int .i64 z.2.1)).setCell ⟨w2.heap.size, 2, none⟩ (.int .i64 z.2.2) = X ∧ Whole X w.heap.size #[.slice (some ⟨g, off, none⟩) n c, .int .i64 nx] 58 ∧ Whole X w1.heap.size #[.int .i64 0, .int .i64 0, .int .i64 0] 69 ∧ Whole X w2.heap.size #[.int .i64 z.1, .int .i64 z.2.1, .int .i64 z.2.2] 69 ∧ Below w.heap.size w X := fun nq => by
        obtain ⟨X, hXX, hOX, gX⟩ := box3 (hO.below (hdr nq) hO.lt) (.int .i64 z.1) (.int .i64 z.2.1) (.int .i64 z.2.2)
        have hBd := hB.trans ((hdr nq).mono hB.size)
        exact ⟨X, hXX, (hX.below (hdr nq) hX.lt).grown gX (fun e => by simp at e; have := HZ1.out; have := HZ2.out; omega), (hR.below (hdr nq) hR.lt).grown gX (fun e => by simp at e; have := HZ1.out; have := HZ2.out; omega), hOX, hBd.grown gX hBd.size (fun j hj => by simp at hj; have := HZ1.out; have := HZ2.out; omega)⟩
      have HKQ := Lib.hid hKQ
      have HBD := Lib.hid (fun nq => hB.trans ((hdr nq).mono hB.size))
      clear hz hX hR hO hr hstep hdr hKQ
      by_cases hd1 : z.2.1 < y.2.1
      · have b1 : decide (z.2.1 < y.2.1) = true := decide_eq_true hd1
        have HNEW := Lib.hid (HS.out z (by unfold Le3; omega) (by unfold Le3; omega))
        clear hd1
        go_wp2_with fail
        go_quiet (fail)
        obtain ⟨X, hXX, q1, q2, q3, q4⟩ := HKQ.out nq
        have HQ := Lib.hid (And.intro q1 (And.intro q2 (And.intro q3 q4)))
        clear q1 q2 q3 q4
        go_wp2_with fail
        go_roundw
        case rel => exact ⟨k + 1, z, by omega, by go_num, HYZ, HNEW, HQ.out.1, HQ.out.2.1, HQ.out.2.2.1, HQ.out.2.2.2⟩
        case measure => simp [intOf]; omega
      · by_cases hd2 : z.2.1 = y.2.1
        · by_cases hd3 : z.2.2 < y.2.2
          · have b1 : decide (z.2.1 < y.2.1) = false := decide_eq_false hd1
            have b2 : (z.2.1 == y.2.1) = true := by simp [hd2]
            have b3 : decide (z.2.2 < y.2.2) = true := decide_eq_true hd3
            have HNEW := Lib.hid (HS.out z (by unfold Le3; omega) (by unfold Le3; omega))
            clear hd1 hd2 hd3
            go_wp2_with fail
            go_quiet (fail)
            obtain ⟨X, hXX, q1, q2, q3, q4⟩ := HKQ.out nq
            have HQ := Lib.hid (And.intro q1 (And.intro q2 (And.intro q3 q4)))
            clear q1 q2 q3 q4
            go_wp2_with fail
            go_roundw
            case rel => exact ⟨k + 1, z, by omega, by go_num, HYZ, HNEW, HQ.out.1, HQ.out.2.1, HQ.out.2.2.1, HQ.out.2.2.2⟩
            case measure => simp [intOf]; omega
          · have b1 : decide (z.2.1 < y.2.1) = false := decide_eq_false hd1
            have b2 : (z.2.1 == y.2.1) = true := by simp [hd2]
            have b3 : decide (z.2.2 < y.2.2) = false := decide_eq_false hd3
            have HNEW := Lib.hid (HS.out y (by unfold Le3; omega) (by unfold Le3; omega))
            clear hd1 hd2 hd3
            go_wp2_with fail
            go_quiet (fail)
            go_wp2_with fail
            go_roundw
            case rel => exact ⟨k + 1, y, by omega, by go_num, HM, HNEW, HX.out, HR.out, HO.out, HBD.out _⟩
            case measure => simp [intOf]; omega
        · have b1 : decide (z.2.1 < y.2.1) = false := decide_eq_false hd1
          have b2 : (z.2.1 == y.2.1) = false := by simp [hd2]
          have HNEW := Lib.hid (HS.out y (by unfold Le3; omega) (by unfold Le3; omega))
          clear hd1 hd2
          go_wp2_with fail
          go_quiet (fail)
          go_wp2_with fail
          go_roundw
          case rel => exact ⟨k + 1, y, by omega, by go_num, HM, HNEW, HX.out, HR.out, HO.out, HBD.out _⟩
          case measure => simp [intOf]; omega
    · have ek : n = k := by omega
      subst ek
      have hyx : y = x := min_eq HP.out HLX.out HM.out (fun z hz => by
        obtain ⟨i, hi, rfl⟩ := List.mem_iff_getElem.1 hz
        exact HK.out i _ (by have := HN.out; omega) (List.getElem?_eq_getElem hi))
      subst hyx
      obtain ⟨X, hXX, hRX, gX⟩ := box3 hR (.int .i64 y.1) (.int .i64 y.2.1) (.int .i64 y.2.2)
      have hBX := hB.grown gX hB.size (fun j hj => by simp at hj; have := HZ1.out; have := HZ2.out; omega)
      have r0 := hR.cell 0
      have r1 := hR.cell 1
      have r2 := hR.cell 2
      have g0 := hR.free 0
      have g1 := hR.free 1
      have g2 := hR.free 2
      have p0 : X.cell? ⟨w1.heap.size, 0, none⟩ = some (.int .i64 y.1) := hRX.cell 0
      have p1 : X.cell? ⟨w1.heap.size, 1, none⟩ = some (.int .i64 y.2.1) := hRX.cell 1
      have p2 : X.cell? ⟨w1.heap.size, 2, none⟩ = some (.int .i64 y.2.2) := hRX.cell 2
      clear hX hR hO hr hRX gX hlt
      go_wp2_with fail
      refine bodyPost_ret (v := .tuple #[.agg #[.int .i64 y.1, .int .i64 y.2.1, .int .i64 y.2.2], .bool true]) ?_ rfl ⟨rfl, hBX⟩
      simp [results, Try.f31, go_sem, p0, p1, p2]
end Go.Proofs.Ytomffkdfgfenpaa
