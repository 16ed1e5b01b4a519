/- The statement QueueTimerOrder returns true: its walk. -/
import Derived.Test.YtomffkdfgfenpaaQFil
import Derived.Deep.LoopGhost
namespace Go.Proofs.Ytomffkdfgfenpaa
open Go.RowKit

theorem tpop_no (base Q : Nat) (v : Value) (l : List T3) (nx now : Int) (w : World) (h : TM base w Q v l nx) (hl : l.length ≤ 1000) (hno : ∀ x r, l = x :: r → now < x.2.1) :
    Calls Try.prog 30 #[.pointer (some ⟨Q, 0, none⟩), .int .i64 now] w fun e w' => e = .returned (.tuple #[.agg #[.int .i64 0, .int .i64 0, .int .i64 0], .bool false]) ∧ Below w.heap.size w w' := by
  cases l with
  | nil => exact tpop_none base Q v nx now w h
  | cons x r => exact tpop_late base Q v x r nx now w h (by simp at hl; omega) (hno x r rfl)
set_option maxRecDepth 100000 in
set_option maxHeartbeats 2000000 in
theorem qorder_walk (A : Option Addr) (cp : Nat) (l : List Int) (now : Int) (w : World) (hl : Nums .i16 w A l) (hbd : ∀ x ∈ l, -32768 ≤ x ∧ x ≤ 32767) (hnow : -32768 ≤ now ∧ now ≤ 32767) :
    Calls Try.prog 8 #[.slice A l.length cp, .int .i16 now] w fun e w' => e = .returned (.bool true) ∧ Below w.heap.size w w' := by
  obtain ⟨N, hN⟩ : ∃ N, l.length = N := ⟨_, rfl⟩
  rw [hN]
  have HN := Lib.hid hN
  have HL := Lib.hid hl
  have HD := Lib.hid hbd
  clear hN hl hbd
  go_enter Try.func8, Try.ntmps8
  go_wp2_with fail
  refine (qawake_any _).mono ?_
  rintro e w1 ⟨rfl, hb1⟩
  by_cases hbig : 100 < N
  · have hbig' : (100 : Int) < (N : Int) := by omega
    go_wp2_with fail
    refine (qawake_any _).mono ?_
    rintro e w2 ⟨rfl, hb2⟩
    go_wp2_with fail
    go_ret
    exact ⟨rfl, hb1.trans (hb2.mono hb1.size)⟩
  · have hbig' : ¬ (100 : Int) < (N : Int) := by omega
    have hs1 := hb1.size
    have hT := TM.new w1 w.heap.size hs1
    have hB2 := hb1.alloc hs1 (.cells #[.slice none 0 0, .int .i64 0] 55)
    obtain ⟨Q, hQQ⟩ : ∃ Q, w1.heap.size = Q := ⟨_, rfl⟩
    obtain ⟨w2, hw2⟩ : ∃ w2, w1.alloc (.cells #[.slice none 0 0, .int .i64 0] 55) = w2 := ⟨_, rfl⟩
    rw [hw2, hQQ] at hT
    rw [hw2] at hB2
    go_wp2_with fail
    clear hQQ hw2 hb1 hs1
    go_loopw [6, 22] (fun e i wr => ∃ (k : Nat) (q : Value), k ≤ N ∧ i = .int .i64 k ∧ e = .int .i64 ((l.take k).countP (fun x => decide (x ≤ now)) : Nat) ∧ TM w.heap.size wr Q q (filT l k) k ∧ Below w.heap.size w wr) (fun _ i _ => N - (intOf i).toNat)
    case atStart => exact ⟨0, _, Nat.zero_le _, rfl, rfl, hT, hB2⟩
    case round =>
      clear hT hB2
      obtain ⟨k, q, hk, rfl, rfl, hT, hB⟩ := hrel
      have hbs := hB.size
      by_cases hlt : k < N
      · obtain ⟨x, hx⟩ : ∃ x, l[k]? = some x := ⟨l[k]'(by rw [HN.out]; exact hlt), by simp [HN.out, hlt]⟩
        have hxb := HD.out x (List.mem_of_getElem? hx)
        obtain ⟨b, o, rfl, hc0⟩ := HL.out k x hx
        have hc := (hB.cell (World.block_lt_of_cell? w _ hc0)).trans hc0
        have hgd : l.getD k 0 = x := by simp [List.getD, hx]
        have HG := Lib.hid hgd
        have HX := Lib.hid hx
        have HT := Lib.hid hT
        have hlen : (filT l k).length ≤ 900 := by rw [filT_len]; omega
        have hk64 : IntKind.i64.wrap ((k : Int) + 1) = (k : Int) + 1 := by rw [IntKind.wrap_i64]; omega
        clear hx hT hgd
        go_wp2_with fail
        refine (tadd_any w.heap.size Q q (filT l k) k x wr HT.out hbs (filT_lx l k).srt hlen ⟨by omega, by omega⟩).mono ?_
        rintro e w3 ⟨rfl, q3, hT3, hst3⟩
        have hB3 := hB.trans (hst3.1.below hbs fun k hk => (HT.out.lt k hk).1)
        have hT3' : TM w.heap.size w3 Q q3 (filT l (k + 1)) ((k + 1 : Nat) : Int) := by
          have e : filT l (k + 1) = ins ((k : Int) + 1, x, (k : Int) + 1) (filT l k) := by rw [filT, HG.out]
          rw [e]
          exact hT3
        have HT3 := Lib.hid hT3'
        have hc3 := (hB3.cell (World.block_lt_of_cell? w _ hc0)).trans hc0
        clear hT3 hT3' hst3 hc hc0 hlen HT
        have hle : (l.take k).countP (fun x => decide (x ≤ now)) ≤ k := Nat.le_trans List.countP_le_length (by rw [List.length_take]; omega)
        have hcnt : (l.take (k + 1)).countP (fun x => decide (x ≤ now)) = (l.take k).countP (fun x => decide (x ≤ now)) + (if x ≤ now then 1 else 0) := by
          rw [List.take_add_one, HX.out]
          simp [List.countP_append, List.countP_cons]
        obtain ⟨ec, hec⟩ : ∃ ec, (l.take k).countP (fun x => decide (x ≤ now)) = ec := ⟨_, rfl⟩
        rw [hec] at hle hcnt ⊢
        have HC := Lib.hid hcnt
        have hw9 : IntKind.i64.wrap ((ec : Int) + 1) = ((ec + 1 : Nat) : Int) := by rw [IntKind.wrap_i64]; omega
        clear hcnt hec
        by_cases hxn : x ≤ now
        · go_wp2_with fail
          go_roundw
          case rel => exact ⟨k + 1, q3, by omega, by go_num, by rw [HC.out, if_pos hxn]; go_num, HT3.out, hB3⟩
          case measure => simp [intOf]; omega
        · go_wp2_with fail
          go_roundw
          case rel => exact ⟨k + 1, q3, by omega, by go_num, by rw [HC.out, if_neg (by omega), Nat.add_zero], HT3.out, hB3⟩
          case measure => simp [intOf]; omega
      · have ek : N = k := by omega
        subst ek
        have hlen2 : (filT l N).length = N := filT_len l N
        have hcnt := filT_count l now N (by rw [HN.out]; omega)
        rw [← hcnt]
        obtain ⟨E, hE⟩ : ∃ E, (filT l N).countP (fun x => decide (x.2.1 ≤ now)) = E := ⟨_, rfl⟩
        rw [hE]
        have hEN : E ≤ N := by rw [← hE]; exact Nat.le_trans List.countP_le_length (Nat.le_of_eq hlen2)
        have HE := Lib.hid hE
        have HT := Lib.hid hT
        have HL2 := Lib.hid hlen2
        clear hT hcnt hE hlen2
        go_wp2_with fail
        have hB5 := hB.alloc hbs (.cells #[.int .i64 0, .int .i64 (-40000), .int .i64 0] 72)
        have hT5 := HT.out.below ((Below.refl _ wr).alloc (Nat.le_refl _) (.cells #[.int .i64 0, .int .i64 (-40000), .int .i64 0] 72))
        have hL5 := Whole.new wr #[.int .i64 0, .int .i64 (-40000), .int .i64 0] 72
        have hap5 : ¬ Foot Q q wr.heap.size := fun h => by have := (HT.out.lt _ h).2; omega
        have hbb5 := hbs
        obtain ⟨B, hBB⟩ : ∃ B, wr.heap.size = B := ⟨_, rfl⟩
        obtain ⟨w5, hw5⟩ : ∃ w5, wr.alloc (.cells #[.int .i64 0, .int .i64 (-40000), .int .i64 0] 72) = w5 := ⟨_, rfl⟩
        rw [hw5, hBB] at hL5
        rw [hw5] at hT5 hB5 ⊢
        rw [hBB] at hap5 hbb5 ⊢
        have HT5 := Lib.hid hT5
        have HL5 := Lib.hid hL5
        have HAP := Lib.hid hap5
        have hmin : ∀ x, (filT l N)[0]? = some x → (-40000 : Int) ≤ x.2.1 ∧ (x.2.1 = -40000 → (0 : Int) < x.2.2) := fun x hx => by
          obtain ⟨m1, m2, _, m4⟩ := filT_mem l N x (List.mem_of_getElem? hx)
          have hlt : (x.1 - 1).toNat < l.length := by rw [HN.out]; omega
          have hm : x.2.1 ∈ l := by
            rw [m4]
            simp only [List.getD, List.getElem?_eq_getElem hlt, Option.getD_some]
            exact List.getElem_mem hlt
          have := HD.out _ hm
          exact ⟨by omega, fun h => by omega⟩
        have HMIN := Lib.hid hmin
        clear hT5 hL5 hap5 hw5 hBB HT hB hbs hk hlt hmin
        go_loopw [9] (fun s9 w9 => ∃ (j : Nat) (q : Value) (la : T3), j ≤ N ∧ s9 = .int .i64 j ∧ TM w.heap.size w9 Q q ((filT l N).drop j) N ∧ Whole w9 B #[.int .i64 la.1, .int .i64 la.2.1, .int .i64 la.2.2] 72 ∧ Hid (¬ Foot Q q B) ∧ Hid (∀ i x, i < j → (filT l N)[i]? = some x → x.2.1 ≤ now) ∧ Hid (∀ x, (filT l N)[j]? = some x → la.2.1 ≤ x.2.1 ∧ (x.2.1 = la.2.1 → la.2.2 < x.2.2)) ∧ Below w.heap.size w w9) (fun i _ => N + 1 - (intOf i).toNat)
        case atStart => exact ⟨0, q, (0, -40000, 0), Nat.zero_le _, rfl, HT5.out, HL5.out, HAP, Lib.hid (fun i x hi => absurd hi (Nat.not_lt_zero _)), HMIN, hB5⟩
        case round =>
          clear HT5 HL5 HAP hB5 HMIN
          obtain ⟨j, q, la, hj, rfl, hT, hLa, HAP, HPO, HLA, hB⟩ := hrel
          have hdl : ((filT l N).drop j).length = N - j := by rw [List.length_drop, HL2.out]
          have hbs := hB.size
          have hfin : (∀ x r, (filT l N).drop j = x :: r → now < x.2.1) → E = j := fun h => by
            rw [← HE.out]
            have hs : filT l N = (filT l N).take j ++ (filT l N).drop j := (List.take_append_drop _ _).symm
            rw [hs, List.countP_append, List.countP_eq_length.2, List.countP_eq_zero.2, List.length_take, HL2.out]
            · omega
            · intro x hx
              have hsd : Srt ((filT l N).drop j) := (filT_lx l N).srt.sublist (List.drop_sublist _ _)
              cases hd : (filT l N).drop j with
              | nil => rw [hd] at hx; cases hx
              | cons y r =>
                have hy := h y r hd
                rw [hd] at hx hsd
                rcases List.mem_cons.1 hx with rfl | hx
                · simpa using hy
                · have := (List.pairwise_cons.1 hsd).1 x hx
                  simp
                  omega
            · intro x hx
              obtain ⟨i, hi, rfl⟩ := List.mem_iff_getElem.1 hx
              rw [List.length_take] at hi
              rw [List.getElem_take]
              exact decide_eq_true (HPO.out i _ (by omega) (List.getElem?_eq_getElem (by omega)))
          by_cases hno : ∀ x r, (filT l N).drop j = x :: r → now < x.2.1
          · have hEj := hfin hno
            subst hEj
            have HT := Lib.hid hT
            have HNO := Lib.hid hno
            have HDL := Lib.hid hdl
            have hl1 : ((filT l N).drop E).length ≤ 1000 := by rw [hdl]; omega
            clear hT hfin hno hdl
            go_wp2_with fail
            refine (tpop_no w.heap.size Q q _ N now _ HT.out hl1 HNO.out).mono ?_
            rintro e w10 ⟨rfl, hb10⟩
            have hb11 := hb10.alloc hb10.size (.cells #[.int .i64 0, .int .i64 0, .int .i64 0] 72)
            have HT11 := Lib.hid (HT.out.below hb11)
            have hB11 := hB.trans (hb11.mono hbs)
            have hsub : IntKind.i64.wrap ((N : Int) - (E : Int)) = ((N - E : Nat) : Int) := by rw [IntKind.wrap_i64]; omega
            clear HT hb10 hb11 HNO
            go_wp2_with fail
            refine (tlen_any w.heap.size Q q _ _ _ HT11.out).mono ?_
            rintro e w12 ⟨rfl, hb12⟩
            rw [HDL.out]
            have hB12 := hB11.trans (hb12.mono hB11.size)
            clear HT11 hb12 hB11
            go_wp2_with fail
            go_ret
            exact ⟨rfl, hB12⟩
          · have hex : ∃ x r, (filT l N).drop j = x :: r ∧ x.2.1 ≤ now := Classical.byContradiction fun h => hno fun x r hd => by
              by_cases hx : x.2.1 ≤ now
              · exact absurd ⟨x, r, hd, hx⟩ h
              · omega
            obtain ⟨x, r, hd, hdue⟩ := hex
            have hxj : (filT l N)[j]? = some x := by
              have := List.getElem?_drop (xs := filT l N) (i := j) (j := 0)
              rw [hd] at this
              simpa using this.symm
            have hrd : r = (filT l N).drop (j + 1) := by
              have := List.drop_drop (i := 1) (j := j) (l := filT l N)
              rw [hd] at this
              rw [Nat.add_comm] at this
              simpa [Nat.add_comm] using this
            have hjN : j < N := by have := (List.getElem?_eq_some_iff.1 hxj).1; rw [HL2.out] at this; exact this
            obtain ⟨m1, m2, m3, m4⟩ := filT_mem l N x (List.mem_of_getElem? hxj)
            obtain ⟨m, hm⟩ : ∃ m : Nat, x.1 = (m : Int) + 1 := ⟨(x.1 - 1).toNat, by omega⟩
            have hmN : m < N := by omega
            have hlm : l[m]? = some x.2.1 := by
              have e : (x.1 - 1).toNat = m := by omega
              rw [e] at m4
              rw [m4]
              simp [List.getD, show m < l.length by rw [HN.out]; exact hmN]
            have hyb := HD.out x.2.1 (List.mem_of_getElem? hlm)
            obtain ⟨b, o, rfl, hc0⟩ := HL.out m _ hlm
            obtain ⟨la1, la2⟩ := HLA.out x hxj
            have hr1 : r.length ≤ 1000 := by rw [hrd, List.length_drop, HL2.out]; omega
            have hPO' : Hid (∀ i y, i < j + 1 → (filT l N)[i]? = some y → y.2.1 ≤ now) := Lib.hid fun i y hi hy => by
              by_cases e : i = j
              · subst e
                rw [hxj] at hy
                injection hy with hy
                rw [← hy]
                exact hdue
              · exact HPO.out i y (by omega) hy
            have hLA' : Hid (∀ y, (filT l N)[j + 1]? = some y → x.2.1 ≤ y.2.1 ∧ (y.2.1 = x.2.1 → x.2.2 < y.2.2)) := Lib.hid fun y hy => by
              obtain ⟨h1, e1⟩ := List.getElem?_eq_some_iff.1 hxj
              obtain ⟨h2, e2⟩ := List.getElem?_eq_some_iff.1 hy
              have := List.pairwise_iff_getElem.1 (filT_lx l N) j (j + 1) h1 h2 (by omega)
              rw [e1, e2] at this
              omega
            rw [hd] at hT
            have HT := Lib.hid hT
            have HRD := Lib.hid hrd
            have HM := Lib.hid hm
            clear hm m3 hT hfin hno hdl hd hrd hxj HPO HLA hlm
            go_wp2_with fail
            refine (tpop_due w.heap.size Q q x r N now _ HT.out hr1 hdue).mono ?_
            rintro e w10 ⟨rfl, hT10, hst10⟩
            have hB10 := hB.trans (hst10.1.below hbs fun k hk => (HT.out.lt k hk).1)
            have hLa10 := hLa.turns hst10.1 HAP.out
            have hap10 : ¬ Foot Q (tailV q 1 3) B := fun h => HAP.out (by
              rcases h with e | e
              · exact .inl e
              · rw [tailV_own] at e; exact .inr e)
            have hb11 := (Below.refl _ w10).alloc (Nat.le_refl _) (.cells #[.int .i64 x.1, .int .i64 x.2.1, .int .i64 x.2.2] 72)
            have HT11 := Lib.hid (hT10.below hb11)
            have hLa11 := hLa10.alloc (.cells #[.int .i64 x.1, .int .i64 x.2.1, .int .i64 x.2.2] 72)
            have hB11 := hB10.trans (hb11.mono hB10.size)
            have hc := (hB11.cell (World.block_lt_of_cell? w _ hc0)).trans hc0
            have hX11 := Whole.new w10 #[.int .i64 x.1, .int .i64 x.2.1, .int .i64 x.2.2] 72
            obtain ⟨w11, hw11⟩ : ∃ w11, w10.alloc (.cells #[.int .i64 x.1, .int .i64 x.2.1, .int .i64 x.2.2] 72) = w11 := ⟨_, rfl⟩
            obtain ⟨X, hXX⟩ : ∃ X, w10.heap.size = X := ⟨_, rfl⟩
            rw [hw11] at HT11 hLa11 hB11 hc hX11
            rw [hXX] at hX11
            have HAP' := Lib.hid hap10
            have HB11 := Lib.hid hB11
            have HLa := Lib.hid hLa11
            have HX11 := Lib.hid hX11
            have hbs11 := hB11.size
            clear hT10 hst10 hB10 hLa10 hb11 hap10 HT HAP hB hbs hLa hc0 m4 hB11 m1 m2
            go_wp2_with fail
            clear hw11 hXX
            have x1 : w11.cell? ⟨X, 0, none⟩ = some (.int .i64 x.1) := HX11.out.cell 0
            have x2 : w11.cell? ⟨X, 1, none⟩ = some (.int .i64 x.2.1) := HX11.out.cell 1
            have x3 : w11.cell? ⟨X, 2, none⟩ = some (.int .i64 x.2.2) := HX11.out.cell 2
            have y1 : w11.cell? ⟨B, 0, none⟩ = some (.int .i64 la.1) := HLa.out.cell 0
            have y2 : w11.cell? ⟨B, 1, none⟩ = some (.int .i64 la.2.1) := HLa.out.cell 1
            have y3 : w11.cell? ⟨B, 2, none⟩ = some (.int .i64 la.2.2) := HLa.out.cell 2
            rw [HM.out] at x1
            have d1 : decide (now < x.2.1) = false := decide_eq_false (by omega)
            have d2 : decide (x.2.1 < la.2.1) = false := decide_eq_false (by omega)
            have d3 : decide ((m : Int) + 1 < 1) = false := decide_eq_false (by omega)
            have d4 : decide ((N : Int) < (m : Int) + 1) = false := decide_eq_false (by omega)
            have hwm : IntKind.i64.wrap ((m : Int) + 1 - 1) = (m : Int) := by rw [IntKind.wrap_i64]; omega
            have hm0 : (0 : Int) ≤ (m : Int) := by omega
            have hm1 : (m : Int) < (N : Int) := by omega
            have hkeep : ∀ nq : Nat, ∃ Y, (((w11.drewN nq).setCell ⟨B, 0, none⟩ (.int .i64 ((m : Int) + 1))).setCell ⟨B, 1, none⟩ (.int .i64 x.2.1)).setCell ⟨B, 2, none⟩ (.int .i64 x.2.2) = Y ∧ Whole Y B #[.int .i64 ((m : Int) + 1), .int .i64 x.2.1, .int .i64 x.2.2] 72 ∧ TM w.heap.size Y Q (tailV q 1 3) r N ∧ Below w.heap.size w Y := fun nq => by
              obtain ⟨Y, hY, hRY, gY⟩ := box3 (HLa.out.drewN nq) (.int .i64 ((m : Int) + 1)) (.int .i64 x.2.1) (.int .i64 x.2.2)
              have hdr : Below w11.heap.size w11 (w11.drewN nq) := ⟨rfl, rfl, rfl, Nat.le_refl _, fun _ _ => rfl⟩
              have hTd := HT11.out.below hdr
              refine ⟨Y, hY, hRY, hTd.turns (.of_grown gY (S := fun k => k = B) (fun k hk => by simpa using hk.symm)) (fun k hk e => HAP'.out (e ▸ hk)), ((HB11.out.trans (hdr.mono HB11.out.size)).grown gY (HB11.out.trans (hdr.mono HB11.out.size)).size (fun k hk => by have e : k = B := (by simpa using hk.symm); rw [e]; exact hbb5))⟩
            have HK := Lib.hid hkeep
            have z1 := HLa.out.free 0
            have z2 := HLa.out.free 1
            have z3 := HLa.out.free 2
            clear hkeep
            by_cases hdu : x.2.1 = la.2.1
            · have d5 : (x.2.1 == la.2.1) = true := by simp [hdu]
              have d6 : decide (x.2.2 ≤ la.2.2) = false := decide_eq_false (by have := la2 hdu; omega)
              clear la1 la2 hdue hdu
              go_quiet (fail)
              obtain ⟨Y, hY, hRY, hTY, hBY⟩ := HK.out nq
              rw [HRD.out] at hTY
              have HRY := Lib.hid hRY
              have HTY := Lib.hid hTY
              clear hRY hTY HT11 HLa HX11 hLa11 hX11 HB11
              go_wp2_with fail
              go_roundw
              case rel => exact ⟨j + 1, _, ((m : Int) + 1, x.2.1, x.2.2), by omega, by go_num, HTY.out, HRY.out, HAP', hPO', hLA', hBY⟩
              case measure => simp [intOf]; omega
            · have d5 : (x.2.1 == la.2.1) = false := by simp [hdu]
              clear la1 la2 hdue hdu
              go_quiet (fail)
              obtain ⟨Y, hY, hRY, hTY, hBY⟩ := HK.out nq
              rw [HRD.out] at hTY
              have HRY := Lib.hid hRY
              have HTY := Lib.hid hTY
              clear hRY hTY HT11 HLa HX11 hLa11 hX11 HB11
              go_wp2_with fail
              go_roundw
              case rel => exact ⟨j + 1, _, ((m : Int) + 1, x.2.1, x.2.2), by omega, by go_num, HTY.out, HRY.out, HAP', hPO', hLA', hBY⟩
              case measure => simp [intOf]; omega
end Go.Proofs.Ytomffkdfgfenpaa
