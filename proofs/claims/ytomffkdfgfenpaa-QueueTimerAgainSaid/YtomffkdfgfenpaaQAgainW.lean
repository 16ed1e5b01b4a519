/- The statement QueueTimerAgain returns true: its walk. -/
import Derived.Test.YtomffkdfgfenpaaQFil
namespace Go.Proofs.Ytomffkdfgfenpaa
open Go.RowKit

theorem fnd_first {id : Int} : ∀ {l : List T3} {i j : Nat} {y : T3}, fnd id l = some i → l[j]? = some y → y.1 = id → i ≤ j
  | [], i, j, y, h, _, _ => by simp [fnd] at h
  | x :: l, i, 0, y, h, hy, hyi => by
    simp at hy
    subst hy
    simp [fnd, hyi] at h
    omega
  | x :: l, i, j + 1, y, h, hy, hyi => by
    unfold fnd at h
    split at h
    · injection h with h
      omega
    · cases hf : fnd id l with
      | none => rw [hf] at h; simp at h
      | some k =>
        rw [hf] at h
        simp at h
        have := fnd_first hf (by simpa using hy) hyi
        omega
set_option maxRecDepth 100000 in
set_option maxHeartbeats 2000000 in
theorem qagain_walk (A : Option Addr) (cp : Nat) (l : List Int) (id due : Int) (w : World) (hl : Nums .i16 w A l) (hbd : ∀ x ∈ l, -32768 ≤ x ∧ x ≤ 32767) (hid : -9223372036854775808 ≤ id ∧ id ≤ 9223372036854775807) (hdue : -32768 ≤ due ∧ due ≤ 32767) :
    Calls Try.prog 9 #[.slice A l.length cp, .int .i64 id, .int .i16 due] w fun e w' => e = .returned (.bool true) ∧ Below w.heap.size w w' := by
  obtain ⟨N, hN⟩ : ∃ N, l.length = N := ⟨_, rfl⟩
  rw [hN]
  have HN := Lib.hid hN
  have HL := Lib.hid hl
  have HD := Lib.hid hbd
  clear hN hl hbd
  go_enter Try.func9, Try.ntmps9
  go_wp2_with fail
  refine (qawake_any _).mono ?_
  rintro e w1 ⟨rfl, hb1⟩
  by_cases hbig : 60 < N
  · have hbig' : (60 : Int) < (N : Int) := by omega
    go_wp2_with fail
    refine (qawake_any _).mono ?_
    rintro e w2 ⟨rfl, hb2⟩
    go_wp2_with fail
    go_ret
    exact ⟨rfl, hb1.trans (hb2.mono hb1.size)⟩
  · have hbig' : ¬ (60 : Int) < (N : Int) := by omega
    have hs1 := hb1.size
    have hT := TM.new w1 w.heap.size hs1
    have hB2 := hb1.alloc hs1 (.cells #[.slice none 0 0, .int .i64 0] 55)
    obtain ⟨Q, hQQ⟩ : ∃ Q, w1.heap.size = Q := ⟨_, rfl⟩
    obtain ⟨w2, hw2⟩ : ∃ w2, w1.alloc (.cells #[.slice none 0 0, .int .i64 0] 55) = w2 := ⟨_, rfl⟩
    rw [hw2, hQQ] at hT
    rw [hw2] at hB2
    go_wp2_with fail
    clear hQQ hw2 hb1 hs1
    go_loopw [22] (fun i wr => ∃ (k : Nat) (q : Value), k ≤ N ∧ i = .int .i64 k ∧ TM w.heap.size wr Q q (filT l k) k ∧ Below w.heap.size w wr) (fun i _ => N - (intOf i).toNat)
    case atStart => exact ⟨0, _, Nat.zero_le _, rfl, hT, hB2⟩
    case round =>
      clear hT hB2
      obtain ⟨k, q, hk, rfl, hT, hB⟩ := hrel
      have hbs := hB.size
      by_cases hlt : k < N
      · obtain ⟨x, hx⟩ : ∃ x, l[k]? = some x := ⟨l[k]'(by rw [HN.out]; exact hlt), by simp [HN.out, hlt]⟩
        have hxb := HD.out x (List.mem_of_getElem? hx)
        obtain ⟨b, o, rfl, hc0⟩ := HL.out k x hx
        have hc := (hB.cell (World.block_lt_of_cell? w _ hc0)).trans hc0
        have hgd : l.getD k 0 = x := by simp [List.getD, hx]
        have HG := Lib.hid hgd
        have HT := Lib.hid hT
        have hlen : (filT l k).length ≤ 900 := by rw [filT_len]; omega
        have hk64 : IntKind.i64.wrap ((k : Int) + 1) = (k : Int) + 1 := by rw [IntKind.wrap_i64]; omega
        clear hx hT hgd
        go_wp2_with fail
        refine (tadd_any w.heap.size Q q (filT l k) k x wr HT.out hbs (filT_lx l k).srt hlen ⟨by omega, by omega⟩).mono ?_
        rintro e w3 ⟨rfl, q3, hT3, hst3⟩
        have hB3 := hB.trans (hst3.1.below hbs fun k hk => (HT.out.lt k hk).1)
        have hT3' : TM w.heap.size w3 Q q3 (filT l (k + 1)) ((k + 1 : Nat) : Int) := by
          have e : filT l (k + 1) = ins ((k : Int) + 1, x, (k : Int) + 1) (filT l k) := by rw [filT, HG.out]
          rw [e]
          exact hT3
        have HT3 := Lib.hid hT3'
        have hc3 := (hB3.cell (World.block_lt_of_cell? w _ hc0)).trans hc0
        clear hT3 hT3' hst3 hc hc0 hlen HT
        clear hc3
        go_wp2_with fail
        go_roundw
        case rel => exact ⟨k + 1, q3, by omega, by go_num, HT3.out, hB3⟩
        case measure => simp [intOf]; omega
      · have ek : N = k := by omega
        subst ek
        have hlen : (filT l N).length ≤ 900 := by rw [filT_len]; omega
        have hlen2 : (filT l N).length = N := filT_len l N
        by_cases hg : 1 ≤ id ∧ id ≤ (N : Int)
        · obtain ⟨x, hx, hxid⟩ := filT_has l N id hg.1 hg.2
          obtain ⟨i, hf⟩ := fnd_of_mem hx hxid
          have hdl := del_len hf
          rw [hlen2] at hdl
          have hg1 := hg.1
          have hg2 := hg.2
          have HT := Lib.hid hT
          have hno : ¬ (1 ≤ id ∧ id ≤ (N : Int) ∧ fnd id (filT l N) = none) := fun h => by rw [hf] at h; cases h.2.2
          have HNO := Lib.hid hno
          have HF := Lib.hid hf
          have HDL := Lib.hid hdl
          have HL2 := Lib.hid hlen2
          have hN1 : 1 ≤ N := by omega
          clear hT hno hf hdl hlen2 hg hx hxid
          go_wp2_with fail
          refine (tagain_no w.heap.size Q q _ _ id due wr HT.out hlen HNO.out).mono ?_
          rintro e w3 ⟨rfl, hb3⟩
          have HT3 := Lib.hid (HT.out.below hb3)
          have hB3 := hB.trans (hb3.mono hbs)
          have hlen' : (filT l N).length ≤ 1000 := by omega
          clear HT HNO hb3
          go_wp2_with fail
          refine (tremove_any w.heap.size Q q _ _ id w3 HT3.out hlen').mono ?_
          rintro e w4 ⟨rfl, q4, hT4, hst4⟩
          have HT4 := Lib.hid hT4
          have hB4 := hB3.trans (hst4.1.below hB3.size fun k hk => (HT3.out.lt k hk).1)
          have hbs4 := hB4.size
          have hso : (fnd id (filT l N)).isSome = true := by rw [HF.out]; rfl
          rw [hso]
          have hfree := del_free (id := id) (filT_idn l N)
          have hlen4 : (del id (filT l N)).length ≤ 900 := by rw [HDL.out]; omega
          have hy := tagain_yes w.heap.size Q q4 (del id (filT l N)) N id due w4 HT4.out hbs4 (del_srt (filT_lx l N).srt) hlen4 ⟨by omega, by omega⟩ hg1 hg2 hfree
          have HY := Lib.hid hy
          clear HT3 hB3 hT4 hst4 hso hy hfree
          go_wp2_with fail
          refine HY.out.mono ?_
          rintro e w5 ⟨rfl, q5, hT5, hst5⟩
          have HT5 := Lib.hid hT5
          have hB5 := hB4.trans (hst5.1.below hbs4 fun k hk => (HT4.out.lt k hk).1)
          obtain ⟨L, hL⟩ : ∃ L, ins (id, due, (N : Int) + 1) (del id (filT l N)) = L := ⟨_, rfl⟩
          have hLl : L.length = N := by rw [← hL, ins_len, HDL.out]; omega
          have hLm : ∀ y ∈ L, y.1 = id → y.2.1 = due ∧ y.2.2 = (N : Int) + 1 := fun y hy hyid => by
            rw [← hL] at hy
            rcases (mem_ins _ _ y).1 hy with rfl | hy
            · exact ⟨rfl, rfl⟩
            · exact absurd hyid (fnd_mem (del_free (filT_idn l N)) y hy)
          have hLs : Srt L := by rw [← hL]; exact ins_srt _ (del_srt (filT_lx l N).srt)
          have hLx : ∃ i, fnd id L = some i := fnd_of_mem (x := (id, due, (N : Int) + 1)) (by rw [← hL]; exact (mem_ins _ _ _).2 (.inl rfl)) rfl
          obtain ⟨p, hp⟩ := hLx
          rw [hL] at HT5
          have HLl := Lib.hid hLl
          have HLm := Lib.hid hLm
          have HLs := Lib.hid hLs
          have HP := Lib.hid hp
          have hlen5 : L.length ≤ 900 := by omega
          have hno5 : ¬ (1 ≤ id ∧ id ≤ (N : Int) + 1 ∧ fnd id L = none) := fun h => by rw [hp] at h; cases h.2.2
          have HNO := Lib.hid hno5
          clear HY HT4 hB4 hT5 hst5 hbs4 hL hLl hLm hLs hp hno5 hlen4
          go_wp2_with fail
          refine (tagain_no w.heap.size Q q5 L _ id due w5 HT5.out hlen5 HNO.out).mono ?_
          rintro e w6 ⟨rfl, hb6⟩
          have HT6 := Lib.hid (HT5.out.below hb6)
          have hB6 := hB5.trans (hb6.mono hB5.size)
          obtain ⟨A5, c5, rfl⟩ := HT5.out.row.form
          obtain ⟨k6, _, _, _⟩ := HT6.out.cells
          rw [HLl.out] at k6
          clear HT5 HNO hb6 hB5
          go_wp2_with fail
          rcases HT6.out.row.addr with ⟨_, h0, _⟩ | ⟨g, off, rfl⟩
          · have := HLl.out; omega
          have hpN : p < N := by have := fnd_lt HP.out; have := HLl.out; omega
          go_loopw [10, 73] (fun s10 i wr => ∃ j : Nat, j ≤ N ∧ i = .int .i64 j ∧ s10 = .bool (decide (p < j)) ∧ Below w6.heap.size w6 wr) (fun _ i _ => N - (intOf i).toNat)
          case atStart => exact ⟨0, Nat.zero_le _, rfl, rfl, Below.refl _ _⟩
          case round =>
            obtain ⟨j, hj, rfl, rfl, hb⟩ := hrel
            have hT7 := HT6.out.below hb
            by_cases hjN : j < N
            · obtain ⟨y, hy⟩ : ∃ y, L[j]? = some y := ⟨L[j]'(by rw [HLl.out]; exact hjN), by simp⟩
              obtain ⟨k7, _, _, _⟩ := hT7.cells
              obtain ⟨e1, e2, e3⟩ := hT7.row.timerAt rfl hy
              rw [HLl.out] at k7
              have hj1 : (0 : Int) ≤ (j : Int) := by omega
              have hj2 : (j : Int) < (N : Int) := by omega
              have hw1 : IntKind.i64.wrap ((N : Int) + 1) = (N : Int) + 1 := by rw [IntKind.wrap_i64]; omega
              by_cases hyi : y.1 = id
              · obtain ⟨y1, y2⟩ := HLm.out y (List.mem_of_getElem? hy) hyi
                have hpj : p ≤ j := fnd_first HP.out hy hyi
                rw [hyi] at e1
                rw [y1] at e2
                rw [y2] at e3
                clear hT7 hy hyi y1 y2 k6
                go_wp2_with fail
                go_roundw
                case rel => exact ⟨j + 1, by omega, by go_num, by rw [decide_eq_true (by omega)], hb⟩
                case measure => simp [intOf]; omega
              · have hpj : p ≠ j := fun e => by
                  subst e
                  obtain ⟨z, hz, hzi⟩ := fnd_some HP.out
                  rw [hz] at hy
                  injection hy with hy
                  rw [hy] at hzi
                  exact hyi hzi
                have HPJ := Lib.hid hpj
                clear hT7 hy k6 hpj e2 e3
                go_wp2_with fail
                go_roundw
                case rel => exact ⟨j + 1, by omega, by go_num, by
                  have := HPJ.out
                  by_cases h : p < j
                  · rw [decide_eq_true h, decide_eq_true (by omega)]
                  · rw [decide_eq_false h, decide_eq_false (by omega)], hb⟩
                case measure => simp [intOf]; omega
            · have ej : N = j := by omega
              subst ej
              have hB7 := hB6.trans (hb.mono hB6.size)
              have hdt : decide (p < N) = true := decide_eq_true hpN
              have HT7 := Lib.hid hT7
              clear hT7 HT6 hB6 hb k6 hpN
              rw [hdt]
              clear hdt
              go_wp2_with fail
              refine (tlen_any w.heap.size Q _ _ _ wr HT7.out).mono ?_
              rintro e w8 ⟨rfl, hb8⟩
              have HT8 := Lib.hid (HT7.out.below hb8)
              have hB8 := hB7.trans (hb8.mono hB7.size)
              rw [HLl.out]
              have hbs8 := hB8.size
              clear HT7 hB7 hb8
              go_wp2_with fail
              refine (tadd_any w.heap.size Q _ L _ 0 w8 HT8.out hbs8 HLs.out hlen5 ⟨by omega, by omega⟩).mono ?_
              rintro e w9 ⟨rfl, q9, hT9, hst9⟩
              have hB9 := hB8.trans (hst9.1.below hbs8 fun k hk => (HT8.out.lt k hk).1)
              have hw2 : IntKind.i64.wrap ((N : Int) + 2) = (N : Int) + 2 := by rw [IntKind.wrap_i64]; omega
              have hw3 : (N : Int) + 1 + 1 = (N : Int) + 2 := by omega
              rw [hw3]
              clear hT9 hst9 HT8 hB8
              go_wp2_with fail
              go_ret
              exact ⟨rfl, hB9⟩
        · have hnof : fnd id (filT l N) = none := fnd_none id _ fun j y hy hyid => by
            have := filT_mem l N y (List.mem_of_getElem? hy)
            omega
          have HT := Lib.hid hT
          have HF := Lib.hid hnof
          have HNO := Lib.hid (show ¬ (1 ≤ id ∧ id ≤ (N : Int) ∧ fnd id (filT l N) = none) from fun h => hg ⟨h.1, h.2.1⟩)
          have hgd : decide (1 ≤ id) = true → decide (id ≤ (N : Int)) = false := fun h => by
            have := of_decide_eq_true h
            exact decide_eq_false (by omega)
          have HL2 := Lib.hid hlen2
          have hlen' : (filT l N).length ≤ 1000 := by omega
          have hcs : id < 1 ∨ (1 ≤ id ∧ (N : Int) < id) := by omega
          clear hT hnof hg hgd hlen2
          rcases hcs with h1 | ⟨h1, h2⟩
          case' inr => have h3 : decide (id ≤ (N : Int)) = false := decide_eq_false (by omega)
          all_goals
            go_wp2_with fail
            refine (tagain_no w.heap.size Q q _ _ id due wr HT.out hlen HNO.out).mono ?_
            rintro e w3 ⟨rfl, hb3⟩
            have HT3 := Lib.hid (HT.out.below hb3)
            have hB3 := hB.trans (hb3.mono hbs)
            clear HT hb3
            go_wp2_with fail
            refine (tremove_any w.heap.size Q q _ _ id w3 HT3.out hlen').mono ?_
            rintro e w4 ⟨rfl, q4, hT4, hst4⟩
            rw [del_none HF.out] at hT4
            have HT4 := Lib.hid hT4
            have hB4 := hB3.trans (hst4.1.below hB3.size fun k hk => (HT3.out.lt k hk).1)
            have hso : (fnd id (filT l N)).isSome = false := by rw [HF.out]; rfl
            rw [hso]
            clear HT3 hB3 hT4 hst4 hso
            go_wp2_with fail
            refine (tagain_no w.heap.size Q q4 _ _ id due w4 HT4.out hlen HNO.out).mono ?_
            rintro e w5 ⟨rfl, hb5⟩
            have HT5 := Lib.hid (HT4.out.below hb5)
            have hB5 := hB4.trans (hb5.mono hB4.size)
            clear HT4 hB4 hb5
            go_wp2_with fail
            refine (tagain_no w.heap.size Q q4 _ _ id due w5 HT5.out hlen HNO.out).mono ?_
            rintro e w6 ⟨rfl, hb6⟩
            have HT6 := Lib.hid (HT5.out.below hb6)
            have hB6 := hB5.trans (hb6.mono hB5.size)
            clear HT5 hB5 hb6
            go_wp2_with fail
            refine (tlen_any w.heap.size Q q4 _ _ w6 HT6.out).mono ?_
            rintro e w7 ⟨rfl, hb7⟩
            rw [HL2.out]
            have hB7 := hB6.trans (hb7.mono hB6.size)
            clear HT6 hB6 hb7
            go_wp2_with fail
            go_ret
            exact ⟨rfl, hB7⟩
end Go.Proofs.Ytomffkdfgfenpaa
