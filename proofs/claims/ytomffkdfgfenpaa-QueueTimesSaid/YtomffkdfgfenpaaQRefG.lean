/- The law's sameTimers, where all is the same. -/
import Derived.Test.YtomffkdfgfenpaaQRefF
import Derived.BigQuiet
namespace Go.Proofs.Ytomffkdfgfenpaa
open Go.RowKit

theorem tlen_same (base Q : Nat) (v : Value) (l : List T3) (nx : Int) (w : World) (h : TM base w Q v l nx) :
    Calls Try.prog 34 #[.pointer (some ⟨Q, 0, none⟩)] w fun e w' => e = .returned (.int .i64 (l.length : Nat)) ∧ w' = w := by
  obtain ⟨k1, k2, _, _⟩ := h.cells
  obtain ⟨A0, c0, rfl⟩ := h.row.form
  go_enter Try.func34, Try.ntmps34
  clear h
  go_wp2_with fail
  go_ret
  exact ⟨rfl, rfl⟩
set_option maxRecDepth 100000 in
set_option maxHeartbeats 1000000 in
theorem same_any (base Q : Nat) (v rv : Value) (l L : List T3) (nx : Int) (w : World) (h : TM base w Q v L nx) (hr : RV w rv l) (hl : l.length ≤ 1000) (hp : l.Perm L) (hx : Lx L) (hid : Idn L) :
    Calls Try.prog 33 #[.pointer (some ⟨Q, 0, none⟩), rval rv nx] w fun e w' => e = .returned (.bool true) ∧ Below w.heap.size w w' := by
  obtain ⟨Ar, cr, rfl⟩ := hr.form
  obtain ⟨A, c, rfl⟩ := h.row.form
  obtain ⟨n, hn⟩ : ∃ n, L.length = n := ⟨_, rfl⟩
  have hln : n ≤ 1000 := by rw [← hn, ← hp.length_eq]; exact hl
  have hb1 := (Below.refl _ w).alloc (Nat.le_refl _) (.cells #[.slice Ar l.length cr, .int .i64 nx] 58)
  have hX1 := Whole.new w #[.slice Ar l.length cr, .int .i64 nx] 58
  have hr1 := hr.below hb1
  obtain ⟨w1, hw1⟩ : ∃ w1, w.alloc (.cells #[.slice Ar l.length cr, .int .i64 nx] 58) = w1 := ⟨_, rfl⟩
  rw [hw1] at hb1 hX1 hr1
  have k0 : w1.cell? ⟨w.heap.size, 0, none⟩ = some (.slice Ar l.length cr) := hX1.cell 0
  have k1 : w1.cell? ⟨w.heap.size, 1, none⟩ = some (.int .i64 nx) := hX1.cell 1
  have HS := Lib.hid (rsorted_any Ar cr l L nx w1 hr1 hl hp hx hid)
  have HX1 := Lib.hid hX1
  have HB1 := Lib.hid hb1
  have HT1 := Lib.hid (h.below hb1)
  have HN := Lib.hid hn
  rw [hn] at HS
  clear hX1 hb1 hr1 h hr hl hp hx hid
  go_enter Try.func33, Try.ntmps33
  go_wp2_with fail
  refine HS.out.mono ?_
  rintro e w2 ⟨v2, rfl, hv2, hb2⟩
  obtain ⟨A2, c2, rfl⟩ := hv2.form
  have hT2 := HT1.out.below hb2
  have hX2 := HX1.out.below hb2 HX1.out.lt
  have hB2 := HB1.out.trans (hb2.mono HB1.out.size)
  obtain ⟨m0, m1, _, _⟩ := hT2.cells
  have q0 : w2.cell? ⟨w.heap.size, 0, none⟩ = some (.slice Ar l.length cr) := hX2.cell 0
  have q1 : w2.cell? ⟨w.heap.size, 1, none⟩ = some (.int .i64 nx) := hX2.cell 1
  rw [hn] at m0
  have HLEN := Lib.hid (fun nq => by
    have H := tlen_same base Q _ L nx (w2.drewN nq) (hT2.below (w' := w2.drewN nq) ⟨rfl, rfl, rfl, Nat.le_refl _, fun _ _ => rfl⟩)
    rw [HN.out] at H
    exact H)
  have b1 : ((n : Int) != (n : Int)) = false := by simp
  have b2 : (nx != nx) = false := by simp
  have HT2 := Lib.hid hT2
  have HV2 := Lib.hid hv2
  have HB2 := Lib.hid hB2
  clear hT2 hX2 hB2 hv2 hn HS HX1 HB1 HT1 k0 k1 hb2 hw1
  go_wp2_with fail
  go_quiet ((go_at_call 34; exact Calls.quiet_of_same (HLEN.out _)))
  go_wp2_with fail
  clear q0 q1 m0 m1
  go_loopw [35] (fun i wr => ∃ k : Nat, k ≤ n ∧ i = .int .i64 k ∧ Below w2.heap.size w2 wr) (fun i _ => n - (intOf i).toNat)
  case atStart => exact ⟨0, Nat.zero_le _, rfl, ⟨rfl, rfl, rfl, Nat.le_refl _, fun _ _ => rfl⟩⟩
  case round =>
    obtain ⟨k, hk, rfl, hB⟩ := hrel
    by_cases hlt : k < n
    · obtain ⟨z, hz⟩ : ∃ z, L[k]? = some z := ⟨L[k]'(by rw [HN.out]; exact hlt), by simp⟩
      have hT := HT2.out.below hB
      have hV := HV2.out.below hB
      obtain ⟨m0, m1, _, _⟩ := hT.cells
      have hrow := hT.row
      rw [HN.out] at m0 hrow
      rcases hrow.addr with ⟨_, h0, _⟩ | ⟨g, off, rfl⟩
      · omega
      rcases hV.addr with ⟨_, h0, _⟩ | ⟨g2, off2, rfl⟩
      · omega
      have hle1 := hrow.le
      have hle2 := hV.le
      obtain ⟨e1, e2, e3⟩ := hrow.timerAt HN.out hz
      obtain ⟨d1, d2, d3⟩ := hV.timerAt HN.out hz
      have hk1 : (0 : Int) ≤ (k : Int) := by omega
      have hk2 : (k : Int) < (n : Int) := by omega
      have c1 : (z.1 != z.1) = false := by simp
      have c2' : (z.2.1 != z.2.1) = false := by simp
      have c3 : (z.2.2 != z.2.2) = false := by simp
      have HBD := Lib.hid (fun nq => hB.trans (Below.mono (w := wr) (w' := wr.drewN nq) ⟨rfl, rfl, rfl, Nat.le_refl _, fun _ _ => rfl⟩ hB.size))
      clear hz hT hV hrow
      go_wp2_with fail
      go_quiet (fail)
      go_wp2_with fail
      go_roundw
      case rel => exact ⟨k + 1, by omega, by go_num, HBD.out _⟩
      case measure => simp [intOf]; omega
    · have ek : n = k := by omega
      subst ek
      have HBF := Lib.hid (HB2.out.trans (hB.mono HB2.out.size))
      clear hB
      go_wp2_with fail
      go_ret
      exact ⟨rfl, HBF.out⟩
end Go.Proofs.Ytomffkdfgfenpaa
