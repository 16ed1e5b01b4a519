/- The statement QueueTimerClones returns true: its walk. -/
import Derived.Test.YtomffkdfgfenpaaQFil
namespace Go.Proofs.Ytomffkdfgfenpaa
open Go.RowKit

set_option maxRecDepth 100000 in
set_option maxHeartbeats 2000000 in
theorem qtclones_walk (A : Option Addr) (cp : Nat) (l : List Int) (id : Int) (w : World) (hl : Nums .i16 w A l) (hbd : ∀ x ∈ l, -32768 ≤ x ∧ x ≤ 32767) (hid : 0 ≤ id ∧ id ≤ 255) :
    Calls Try.prog 10 #[.slice A l.length cp, .int .u8 id] w fun e w' => e = .returned (.bool true) ∧ Below w.heap.size w w' := by
  obtain ⟨N, hN⟩ : ∃ N, l.length = N := ⟨_, rfl⟩
  rw [hN]
  have HN := Lib.hid hN
  have HL := Lib.hid hl
  have HD := Lib.hid hbd
  clear hN hl hbd
  go_enter Try.func10, Try.ntmps10
  go_wp2_with fail
  refine (qawake_any _).mono ?_
  rintro e w1 ⟨rfl, hb1⟩
  by_cases hbig : 60 < N
  · have hbig' : (60 : Int) < (N : Int) := by omega
    go_wp2_with fail
    refine (qawake_any _).mono ?_
    rintro e w2 ⟨rfl, hb2⟩
    go_wp2_with fail
    go_ret
    exact ⟨rfl, hb1.trans (hb2.mono hb1.size)⟩
  · have hbig' : ¬ (60 : Int) < (N : Int) := by omega
    have hs1 := hb1.size
    have hT := TM.new w1 w.heap.size hs1
    have hB2 := hb1.alloc hs1 (.cells #[.slice none 0 0, .int .i64 0] 55)
    obtain ⟨Q, hQQ⟩ : ∃ Q, w1.heap.size = Q := ⟨_, rfl⟩
    obtain ⟨w2, hw2⟩ : ∃ w2, w1.alloc (.cells #[.slice none 0 0, .int .i64 0] 55) = w2 := ⟨_, rfl⟩
    rw [hw2, hQQ] at hT
    rw [hw2] at hB2
    go_wp2_with fail
    clear hQQ hw2 hb1 hs1
    go_loopw [20] (fun i wr => ∃ (k : Nat) (q : Value), k ≤ N ∧ i = .int .i64 k ∧ TM w.heap.size wr Q q (filT l k) k ∧ Below w.heap.size w wr) (fun i _ => N - (intOf i).toNat)
    case atStart => exact ⟨0, _, Nat.zero_le _, rfl, hT, hB2⟩
    case round =>
      clear hT hB2
      obtain ⟨k, q, hk, rfl, hT, hB⟩ := hrel
      have hbs := hB.size
      by_cases hlt : k < N
      · obtain ⟨x, hx⟩ : ∃ x, l[k]? = some x := ⟨l[k]'(by rw [HN.out]; exact hlt), by simp [HN.out, hlt]⟩
        have hxb := HD.out x (List.mem_of_getElem? hx)
        obtain ⟨b, o, rfl, hc0⟩ := HL.out k x hx
        have hc := (hB.cell (World.block_lt_of_cell? w _ hc0)).trans hc0
        have hgd : l.getD k 0 = x := by simp [List.getD, hx]
        have HG := Lib.hid hgd
        have HT := Lib.hid hT
        have hlen : (filT l k).length ≤ 900 := by rw [filT_len]; omega
        have hk64 : IntKind.i64.wrap ((k : Int) + 1) = (k : Int) + 1 := by rw [IntKind.wrap_i64]; omega
        clear hx hT hgd
        go_wp2_with fail
        refine (tadd_any w.heap.size Q q (filT l k) k x wr HT.out hbs (filT_lx l k).srt hlen ⟨by omega, by omega⟩).mono ?_
        rintro e w3 ⟨rfl, q3, hT3, hst3⟩
        have hB3 := hB.trans (hst3.1.below hbs fun k hk => (HT.out.lt k hk).1)
        have hT3' : TM w.heap.size w3 Q q3 (filT l (k + 1)) ((k + 1 : Nat) : Int) := by
          have e : filT l (k + 1) = ins ((k : Int) + 1, x, (k : Int) + 1) (filT l k) := by rw [filT, HG.out]
          rw [e]
          exact hT3
        have HT3 := Lib.hid hT3'
        have hc3 := (hB3.cell (World.block_lt_of_cell? w _ hc0)).trans hc0
        clear hT3 hT3' hst3 hc hc0 hlen HT
        clear hc3
        go_wp2_with fail
        go_roundw
        case rel => exact ⟨k + 1, q3, by omega, by go_num, HT3.out, hB3⟩
        case measure => simp [intOf]; omega
      · have ek : N = k := by omega
        subst ek
        have hlen2 : (filT l N).length = N := filT_len l N
        have hlen : (filT l N).length ≤ 900 := by omega
        have hlen' : (filT l N).length ≤ 1000 := by omega
        have HT := Lib.hid hT
        have HL2 := Lib.hid hlen2
        clear hT hlen2
        go_wp2_with fail
        refine (tclone_any w.heap.size Q q _ _ wr HT.out hlen').mono ?_
        rintro e w3 ⟨v3, rfl, o3, hb3⟩
        have hT3 := HT.out.below hb3
        have HQL := Lib.hid fun k hk => (HT.out.lt k hk).2
        obtain ⟨A3, c3, rfl⟩ := o3.form
        have O3 := Lib.hid o3
        have HT3 := Lib.hid hT3
        clear HT o3 hT3
        go_wp2_with fail
        refine (tclone_any w.heap.size Q q _ _ w3 HT3.out hlen').mono ?_
        rintro e w4 ⟨v4, rfl, o4, hb4⟩
        obtain ⟨A4, c4, rfl⟩ := o4.form
        rw [HL2.out] at o4 ⊢
        have hs3 := hb3.size
        have hs4 := hb4.size
        have hb5 := ((Below.refl _ w4).alloc (Nat.le_refl _) (.cells #[.slice A3 N c3, .int .i64 N] 55)).alloc (by simp) (.cells #[.slice A4 N c4, .int .i64 N] 55)
        have hC5 := (Whole.new w4 #[.slice A3 N c3, .int .i64 N] 55).alloc (.cells #[.slice A4 N c4, .int .i64 N] 55)
        have hD5 : Whole ((w4.alloc (.cells #[.slice A3 N c3, .int .i64 N] 55)).alloc (.cells #[.slice A4 N c4, .int .i64 N] 55)) (w4.heap.size + 1) #[.slice A4 N c4, .int .i64 N] 55 := by
          have h := Whole.new (w4.alloc (.cells #[.slice A3 N c3, .int .i64 N] 55)) #[.slice A4 N c4, .int .i64 N] 55
          rw [World.size_alloc] at h
          exact h
        have hsq := hbs
        have hTC5 : TM w.heap.size ((w4.alloc (.cells #[.slice A3 N c3, .int .i64 N] 55)).alloc (.cells #[.slice A4 N c4, .int .i64 N] 55)) w4.heap.size (.slice A3 N c3) (filT l N) N := by
          have o := ((O3.out.below hb4).below hb5).lower hbs
          refine ⟨hC5, ?_, by omega⟩
          rw [HL2.out] at o ⊢
          exact o
        have hTD5 : TM w.heap.size ((w4.alloc (.cells #[.slice A3 N c3, .int .i64 N] 55)).alloc (.cells #[.slice A4 N c4, .int .i64 N] 55)) (w4.heap.size + 1) (.slice A4 N c4) (filT l N) N := by
          have o := (o4.below hb5).lower (show w.heap.size ≤ w3.heap.size by omega)
          refine ⟨hD5, ?_, by omega⟩
          rw [HL2.out]
          exact o
        have hTQ5 := (HT3.out.below hb4).below hb5
        have hB5 := ((hB.trans (hb3.mono hbs)).trans (hb4.mono (by omega))).trans (hb5.mono (by omega))
        have hCl : ∀ k, Foot w4.heap.size (.slice A3 N c3) k → k = w4.heap.size ∨ (wr.heap.size ≤ k ∧ k < w3.heap.size) := by
          rintro k (e | e)
          · exact .inl e
          · have o := O3.out
            rw [HL2.out] at o
            exact .inr (o.lt k e)
        have hDl : ∀ k, Foot (w4.heap.size + 1) (.slice A4 N c4) k → k = w4.heap.size + 1 ∨ (w3.heap.size ≤ k ∧ k < w4.heap.size) := by
          rintro k (e | e)
          · exact .inl e
          · exact .inr (o4.lt k e)
        have hQC : TT w.heap.size _ Q q (filT l N) N w4.heap.size (.slice A3 N c3) (filT l N) N := ⟨hTQ5, hTC5, fun k hk hc => by
          have := HQL.out k hk
          rcases hCl k hc with e | e <;> omega⟩
        have hQD : TT w.heap.size _ Q q (filT l N) N (w4.heap.size + 1) (.slice A4 N c4) (filT l N) N := ⟨hTQ5, hTD5, fun k hk hc => by
          have := HQL.out k hk
          rcases hDl k hc with e | e <;> omega⟩
        have hCD : TT w.heap.size _ w4.heap.size (.slice A3 N c3) (filT l N) N (w4.heap.size + 1) (.slice A4 N c4) (filT l N) N := ⟨hTC5, hTD5, fun k hk hc => by
          rcases hCl k hk with e | e <;> rcases hDl k hc with e' | e' <;> omega⟩
        obtain ⟨w5, hw5⟩ : ∃ w5, (w4.alloc (.cells #[.slice A3 N c3, .int .i64 N] 55)).alloc (.cells #[.slice A4 N c4, .int .i64 N] 55) = w5 := ⟨_, rfl⟩
        rw [hw5] at hQC hQD hCD hB5
        obtain ⟨C, hCC⟩ : ∃ C, w4.heap.size = C := ⟨_, rfl⟩
        rw [hCC] at hQC hQD hCD
        have HQC := Lib.hid hQC
        have HQD := Lib.hid hQD
        have HCD := Lib.hid hCD
        clear hTC5 hTD5 hTQ5 hC5 hD5 hCl hDl hQC hQD hCD hb5 hb3 hb4 O3 o4 HT3 hs3 hs4 hsq HQL hB hbs hk hlt
        go_wp2_with fail
        clear hw5 hCC
        have hbs5 := hB5.size
        refine (tremove_any w.heap.size Q q _ _ id w5 HQC.out.a hlen').mono ?_
        rintro e w6 ⟨rfl, q6, hT6, hst6⟩
        have HQC6 := Lib.hid (HQC.out.step hT6 hst6)
        have HQD6 := Lib.hid (HQD.out.step hT6 hst6)
        have HCD6 := Lib.hid (HCD.out.third hst6 (fun k hk hf => HQC.out.ap k hf hk) (fun k hk hf => HQD.out.ap k hf hk))
        have hB6 := hB5.trans (hst6.1.below hbs5 fun k hk => (HQC.out.a.lt k hk).1)
        have hbs6 := hB6.size
        have hdl : (del id (filT l N)).length ≤ 900 := Nat.le_trans del_sub.length_le hlen
        clear HQC HQD HCD hT6 hst6 hB5 hbs5
        go_wp2_with fail
        refine (tadd_any w.heap.size Q q6 _ _ (-9) w6 HQC6.out.a hbs6 (del_srt (filT_lx l N).srt) hdl ⟨by omega, by omega⟩).mono ?_
        rintro e w7 ⟨rfl, q7, hT7, hst7⟩
        have HQC7 := Lib.hid (HQC6.out.step hT7 hst7)
        have HQD7 := Lib.hid (HQD6.out.step hT7 hst7)
        have HCD7 := Lib.hid (HCD6.out.third hst7 (fun k hk hf => HQC6.out.ap k hf hk) (fun k hk hf => HQD6.out.ap k hf hk))
        have hB7 := hB6.trans (hst7.1.below hbs6 fun k hk => (HQC6.out.a.lt k hk).1)
        clear HQC6 HQD6 HCD6 hT7 hst7 hB6 hbs6 hdl
        go_wp2_with fail
        refine (tpop_some w.heap.size C _ _ _ 40000 w7 HQC7.out.b hlen').mono ?_
        rintro e w8 ⟨⟨u8, rfl⟩, c8, l8, hT8, hsub8, hst8⟩
        have HQC8 := Lib.hid (HQC7.out.stepB hT8 hst8)
        have HCD8 := Lib.hid (HCD7.out.step hT8 hst8)
        have HQD8 := Lib.hid (HQD7.out.third hst8 (fun k hk hf => HQC7.out.ap k hk hf) (fun k hk hf => HCD7.out.ap k hf hk))
        have hB8 := hB7.trans (hst8.1.below hB7.size fun k hk => (HQC7.out.b.lt k hk).1)
        have hbs8 := hB8.size
        have hl8 : l8.length ≤ 900 := Nat.le_trans hsub8.length_le hlen
        have hs8 : Srt l8 := (filT_lx l N).srt.sublist hsub8
        have HS8 := Lib.hid hs8
        clear HQC7 HQD7 HCD7 hT8 hst8 hB7 hsub8 hs8
        go_wp2_with fail
        refine (tadd_any w.heap.size C c8 l8 _ 3 w8 HQC8.out.b hbs8 HS8.out hl8 ⟨by omega, by omega⟩).mono ?_
        rintro e w9 ⟨rfl, c9, hT9, hst9⟩
        have HQC9 := Lib.hid (HQC8.out.stepB hT9 hst9)
        have HCD9 := Lib.hid (HCD8.out.step hT9 hst9)
        have hB9 := hB8.trans (hst9.1.below hbs8 fun k hk => (HQC8.out.b.lt k hk).1)
        clear HQC8 HQD8 HCD8 hT9 hst9 hB8 hbs8 hl8 HS8
        go_wp2_with fail
        refine (tlen_any w.heap.size (C + 1) _ _ _ w9 HCD9.out.b).mono ?_
        rintro e w10 ⟨rfl, hb10⟩
        have HQC10 := Lib.hid (HQC9.out.below hb10)
        have HD10 := Lib.hid (HCD9.out.b.below hb10)
        have hB10 := hB9.trans (hb10.mono hB9.size)
        rw [HL2.out]
        obtain ⟨k0, k1, _, _⟩ := HD10.out.cells
        clear HQC9 HCD9 hB9 hb10
        go_wp2_with fail
        go_loopw [52] (fun i wr => ∃ j : Nat, j ≤ N ∧ i = .int .i64 j ∧ Below w10.heap.size w10 wr) (fun i _ => N - (intOf i).toNat)
        case atStart => exact ⟨0, Nat.zero_le _, rfl, Below.refl _ _⟩
        case round =>
          clear k0 k1
          obtain ⟨j, hj, rfl, hb⟩ := hrel
          have hT := HD10.out.below hb
          by_cases hjN : j < N
          · obtain ⟨x, hx⟩ : ∃ x, (filT l N)[j]? = some x := ⟨(filT l N)[j]'(by rw [HL2.out]; exact hjN), by simp⟩
            obtain ⟨m1, m2, _, m4⟩ := filT_mem l N x (List.mem_of_getElem? hx)
            obtain ⟨m, hm⟩ : ∃ m : Nat, x.1 = (m : Int) + 1 := ⟨(x.1 - 1).toNat, by omega⟩
            have hmN : m < N := by omega
            have hlm : l[m]? = some x.2.1 := by
              have e : (x.1 - 1).toNat = m := by omega
              rw [e] at m4
              rw [m4]
              simp [List.getD, show m < l.length by rw [HN.out]; exact hmN]
            have hyb := HD.out x.2.1 (List.mem_of_getElem? hlm)
            obtain ⟨b, o, rfl, hc0⟩ := HL.out m _ hlm
            have hc := ((hB10.trans (hb.mono hB10.size)).cell (World.block_lt_of_cell? w _ hc0)).trans hc0
            have hr := hT.row
            rw [HL2.out] at hr
            rcases hr.addr with ⟨_, h0, _⟩ | ⟨g, off, rfl⟩
            · omega
            obtain ⟨k0, _, _, _⟩ := hT.cells
            obtain ⟨e1, e2, _⟩ := hr.timerAt HL2.out hx
            rw [hm] at e1
            have hwm : IntKind.i64.wrap ((m : Int) + 1 - 1) = (m : Int) := by rw [IntKind.wrap_i64]; omega
            have hm0 : (0 : Int) ≤ (m : Int) := by omega
            have hm1 : (m : Int) < (N : Int) := by omega
            have hmt : ((m : Int)).toNat = m := by omega
            have hj1 : (0 : Int) ≤ (j : Int) := by omega
            have hj2 : (j : Int) < (N : Int) := by omega
            cases j with
            | zero =>
              rw [Nat.zero_mul, Nat.add_zero] at e1 e2
              clear hT hr hx hlm hc0 m4 hm m1 m2
              go_wp2_with fail
              go_quiet (fail)
              go_wp2_with fail
              go_roundw
              case rel => exact ⟨1, by omega, rfl, hb.trans ⟨rfl, rfl, rfl, Nat.le_refl _, fun _ _ => rfl⟩⟩
              case measure => simp [intOf]; omega
            | succ i =>
              obtain ⟨y, hy⟩ : ∃ y, (filT l N)[i]? = some y := ⟨(filT l N)[i]'(by rw [HL2.out]; omega), by simp⟩
              obtain ⟨_, e4, _⟩ := hr.timerAt HL2.out hy
              have hle : y.2.1 ≤ x.2.1 := (filT_lx l N).srt.le hy hx (by omega)
              have hd1 : decide (x.2.1 < y.2.1) = false := decide_eq_false (by omega)
              have hd0 : decide ((0 : Int) < (i : Int) + 1) = true := decide_eq_true (by omega)
              have hwi : IntKind.i64.wrap ((i : Int) + 1 - 1) = (i : Int) := by rw [IntKind.wrap_i64]; omega
              have hi0 : (0 : Int) ≤ (i : Int) := by omega
              have hi1 : (i : Int) < (N : Int) := by omega
              have hi2 : (0 : Int) ≤ (i : Int) + 1 := by omega
              have hi3 : (i : Int) + 1 < (N : Int) := by omega
              clear hT hr hx hlm hc0 m4 hm m1 m2 hy hle hj1 hj2
              go_wp2_with fail
              go_quiet (fail)
              go_wp2_with fail
              go_roundw
              case rel => exact ⟨i + 1 + 1, by omega, by go_num, hb.trans ⟨rfl, rfl, rfl, Nat.le_refl _, fun _ _ => rfl⟩⟩
              case measure => simp [intOf]; omega
          · have HQ11 := Lib.hid (HQC10.out.below hb)
            have hB11 := hB10.trans (hb.mono hB10.size)
            obtain ⟨_, q1, _, _⟩ := HQ11.out.a.cells
            obtain ⟨_, q2, _, _⟩ := HQ11.out.b.cells
            have hw1 : IntKind.i64.wrap ((N : Int) + 1) = (N : Int) + 1 := by rw [IntKind.wrap_i64]; omega
            clear hT HD10 HQC10 hB10 hb
            go_wp2_with fail
            go_ret
            exact ⟨rfl, hB11⟩
end Go.Proofs.Ytomffkdfgfenpaa
