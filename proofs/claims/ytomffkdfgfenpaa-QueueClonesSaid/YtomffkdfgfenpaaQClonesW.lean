/- The statement QueueClones returns true: its walk. -/
import Derived.Test.YtomffkdfgfenpaaQTwo
import Derived.Deep.LoopGhost
import Derived.Deep.DeepCutAuto
namespace Go.Proofs.Ytomffkdfgfenpaa
open Go.RowKit

set_option maxRecDepth 100000 in
set_option maxHeartbeats 2000000 in
theorem qclones_walk (A : Option Addr) (cp : Nat) (l : List Int) (n : Int) (w : World) (hl : Nums .i8 w A l) (hbd : ∀ x ∈ l, -128 ≤ x ∧ x ≤ 127) (hn : 0 ≤ n ∧ n ≤ 255) :
    Calls Try.prog 6 #[.slice A l.length cp, .int .u8 n] w fun e w' => e = .returned (.bool true) ∧ Below w.heap.size w w' := by
  obtain ⟨N, hN⟩ : ∃ N, l.length = N := ⟨_, rfl⟩
  rw [hN]
  have HN := Lib.hid hN
  have HL := Lib.hid hl
  have HD := Lib.hid hbd
  clear hN hl hbd
  go_enter Try.func6, Try.ntmps6
  go_wp2_with fail
  refine (qawake_any _).mono ?_
  rintro e w1 ⟨rfl, hb1⟩
  by_cases hbig : 100 < N
  · have hbig' : (100 : Int) < (N : Int) := by omega
    go_wp2_with fail
    refine (qawake_any _).mono ?_
    rintro e w2 ⟨rfl, hb2⟩
    go_wp2_with fail
    go_ret
    exact ⟨rfl, hb1.trans (hb2.mono hb1.size)⟩
  · have hbig' : ¬ (100 : Int) < (N : Int) := by omega
    have hs1 := hb1.size
    have hQ := QM.new w1 26 3 1 w.heap.size hs1
    have hB2 := hb1.alloc hs1 (.cells #[.slice none 0 0] 26)
    obtain ⟨Q, hQQ⟩ : ∃ Q, w1.heap.size = Q := ⟨_, rfl⟩
    obtain ⟨w2, hw2⟩ : ∃ w2, w1.alloc (.cells #[.slice none 0 0] 26) = w2 := ⟨_, rfl⟩
    rw [hw2, hQQ] at hQ
    rw [hw2] at hB2
    go_wp2_with fail
    clear hQQ hw2 hb1 hs1
    go_loopw [20] (fun i wr => ∃ (k : Nat) (q : Value), k ≤ N ∧ i = .int .i64 k ∧ QI w.heap.size wr Q q (l.take k) ∧ Below w.heap.size w wr) (fun i _ => N - (intOf i).toNat)
    case atStart => exact ⟨0, _, Nat.zero_le _, rfl, hQ, hB2⟩
    case round =>
      clear hQ hB2
      obtain ⟨k, q, hk, rfl, hQ, hB⟩ := hrel
      have hbs := hB.size
      by_cases hlt : k < N
      · obtain ⟨x, hx⟩ : ∃ x, l[k]? = some x := ⟨l[k]'(by rw [HN.out]; exact hlt), by simp [HN.out, hlt]⟩
        have hxb := HD.out x (List.mem_of_getElem? hx)
        obtain ⟨b, o, rfl, hc0⟩ := HL.out k x hx
        have hc := (hB.cell (World.block_lt_of_cell? w _ hc0)).trans hc0
        have htk : l.take (k + 1) = l.take k ++ [x] := by rw [List.take_add_one, hx]; rfl
        have HT := Lib.hid htk
        have HQ := Lib.hid hQ
        have hln : (l.take k).length ≤ 100000 := by rw [List.length_take]; omega
        clear hx hc0 hQ htk
        go_wp2_with fail
        refine (qpushI w.heap.size Q q _ _ x wr HQ.out hbs hln).mono ?_
        rintro e w3 ⟨rfl, q3, hq3, hst3⟩
        have hB3 := hB.trans (hst3.1.below hbs fun k hk => (HQ.out.lt k hk).1)
        have hq3' : QI w.heap.size w3 Q q3 (l.take (k + 1)) := by rw [HT.out]; unfold QI; rw [List.length_append, ints_append]; exact hq3
        have HQ3 := Lib.hid hq3'
        clear hq3 hq3' hst3 hc hln
        go_wp2_with fail
        go_roundw
        case rel => exact ⟨k + 1, q3, by omega, by go_num, HQ3.out, hB3⟩
        case measure => simp [intOf]; omega
      · have ek : N = k := by omega
        subst ek
        have hQ' : QI w.heap.size wr Q q l := by rw [List.take_of_length_le (by rw [HN.out]; omega)] at hQ; exact hQ
        have hll : l.length ≤ 100000 := by rw [HN.out]; omega
        have HQ := Lib.hid hQ'
        clear hQ hQ'
        go_wp2_with fail
        refine (qcloneI w.heap.size Q q l.length (ints l) wr HQ.out (ints_one l) hll).mono ?_
        rintro e w3 ⟨v3, rfl, o3, hb3⟩
        have hT4 := Two.clone HQ.out hbs o3 hb3
        obtain ⟨A3, c3, rfl⟩ := o3.form
        have hB4 := (hB.trans (hb3.mono hbs)).alloc (hB.trans (hb3.mono hbs)).size (.cells #[.slice A3 l.length c3] 26)
        obtain ⟨C, hCC⟩ : ∃ C, w3.heap.size = C := ⟨_, rfl⟩
        obtain ⟨w4, hw4⟩ : ∃ w4, w3.alloc (.cells #[.slice A3 l.length c3] 26) = w4 := ⟨_, rfl⟩
        rw [hw4, hCC] at hT4
        rw [hw4] at hB4
        have HT4 := Lib.hid hT4
        have hbs4 := hB4.size
        obtain ⟨d, hd⟩ : ∃ d : Nat, n % 9 = (d : Int) := ⟨(n % 9).toNat, by omega⟩
        have hd9 : d ≤ 8 := by omega
        have hmod : n.tmod 9 = (d : Int) := by rw [Int.tmod_eq_emod_of_nonneg (by omega)]; exact hd
        clear HQ o3 hb3 hT4 hB hbs hlt hk hd
        go_wp2_with fail
        clear hw4 hCC
        go_loopw [34] (fun i wr => ∃ (j : Nat) (c : Value) (m : List Int), j ≤ d ∧ i = .int .i64 j ∧ Two w.heap.size wr Q q l C c m ∧ m.length ≤ N + j ∧ Hid (l = [] ∨ m.length = l.length) ∧ Below w.heap.size w wr) (fun i _ => d - (intOf i).toNat)
        case atStart => exact ⟨0, _, l, Nat.zero_le _, rfl, HT4.out, by rw [HN.out]; omega, Lib.hid (.inr rfl), hB4⟩
        case round =>
          clear HT4 hB4 hbs4
          obtain ⟨j, c, m, hj, rfl, hT, hml, HE, hB⟩ := hrel
          have hbs := hB.size
          by_cases hjd : j < d
          · have HT := Lib.hid hT
            clear hT
            cases m with
            | nil =>
              have hl0 : l = [] := by
                rcases HE.out with h | h
                · exact h
                · exact List.eq_nil_of_length_eq_zero h.symm
              have HL0 := Lib.hid hl0
              clear hl0 hml
              go_wp2_with fail
              refine (qpop0I w.heap.size C c _ wr HT.out.b).mono ?_
              rintro e w5 ⟨rfl, hb5⟩
              have HT5 := Lib.hid (HT.out.below hb5)
              have hB5 := hB.trans (hb5.mono hbs)
              have hbs5 := hB5.size
              clear HT hb5 hB hbs
              go_wp2_with fail
              refine (qpushI w.heap.size C c 0 [] 500 w5 HT5.out.b hbs5 (by omega)).mono ?_
              rintro e w6 ⟨rfl, c6, hc6, hst6⟩
              have HT6 := Lib.hid (HT5.out.stepB (m' := [500]) hc6 hst6)
              have hB6 := hB5.trans (hst6.1.below hbs5 fun k hk => (HT5.out.b.lt k hk).1)
              clear HT5 hc6 hst6 hB5 hbs5
              go_wp2_with fail
              go_roundw
              case rel => exact ⟨j + 1, c6, [500], by omega, by go_num, HT6.out, by simp; omega, Lib.hid (.inl HL0.out), hB6⟩
              case measure => simp [intOf]; omega
            | cons y r =>
              have hrl : (y :: r).length = r.length + 1 := rfl
              rw [hrl] at hml HE
              have hr1 : r.length ≤ 100000 := by omega
              clear hrl
              go_wp2_with fail
              refine (qpopI w.heap.size C c r.length y (ints r) wr HT.out.b hr1).mono ?_
              rintro e w5 ⟨rfl, hc5, hst5⟩
              have HT5 := Lib.hid (HT.out.stepB hc5 hst5)
              have hB5 := hB.trans (hst5.1.below hbs fun k hk => (HT.out.b.lt k hk).1)
              have hbs5 := hB5.size
              clear HT hc5 hst5 hB hbs
              go_wp2_with fail
              refine (qpushI w.heap.size C _ r.length (ints r) 500 w5 HT5.out.b hbs5 hr1).mono ?_
              rintro e w6 ⟨rfl, c6, hc6, hst6⟩
              have hc6' : QI w.heap.size w6 C c6 (r ++ [500]) := by unfold QI; rw [List.length_append, ints_append]; exact hc6
              have HT6 := Lib.hid (HT5.out.stepB hc6' hst6)
              have hB6 := hB5.trans (hst6.1.below hbs5 fun k hk => (HT5.out.b.lt k hk).1)
              have hrl : (r ++ [500]).length = r.length + 1 := by simp
              clear HT5 hc6 hc6' hst6 hB5 hbs5
              go_wp2_with fail
              go_roundw
              case rel => exact ⟨j + 1, c6, r ++ [500], by omega, by go_num, HT6.out, by rw [hrl]; omega, Lib.hid (by rw [hrl]; exact HE.out), hB6⟩
              case measure => simp [intOf]; omega
          · have ej : d = j := by omega
            subst ej
            have HT := Lib.hid hT
            clear hT
            go_wp2_with fail
            refine (qpushI w.heap.size Q q _ _ 7 wr HT.out.a hbs hll).mono ?_
            rintro e w5 ⟨rfl, q5, hq5, hst5⟩
            have hq5' : QI w.heap.size w5 Q q5 (l ++ [7]) := by unfold QI; rw [List.length_append, ints_append]; exact hq5
            have HT5 := Lib.hid (HT.out.step hq5' hst5)
            have hB5 := hB.trans (hst5.1.below hbs fun k hk => (HT.out.a.lt k hk).1)
            have hbs5 := hB5.size
            have hl7 : (l ++ [7]).length ≤ 100000 := by rw [List.length_append, HN.out]; simp; omega
            clear HT hq5 hq5' hst5 hB hbs
            go_wp2_with fail
            refine (qpushI w.heap.size Q q5 _ _ 8 w5 HT5.out.a hbs5 hl7).mono ?_
            rintro e w6 ⟨rfl, q6, hq6, hst6⟩
            have hq6' : QI w.heap.size w6 Q q6 (l ++ [7] ++ [8]) := by unfold QI; rw [List.length_append, ints_append]; exact hq6
            have HT6 := Lib.hid (HT5.out.step hq6' hst6)
            have hB6 := hB5.trans (hst6.1.below hbs5 fun k hk => (HT5.out.a.lt k hk).1)
            have hbs6 := hB6.size
            have hl8 : (l ++ [7] ++ [8]).length = N + 2 := by rw [List.length_append, List.length_append, HN.out]; rfl
            have hg7 : (l ++ [7] ++ [8])[N]? = some 7 := by rw [List.append_assoc, List.getElem?_append_right (by rw [HN.out]; omega), HN.out, Nat.sub_self]; rfl
            have hgl : ∀ i x, l[i]? = some x → (l ++ [7] ++ [8])[i]? = some x := fun i x hx => by
              have := (List.getElem?_eq_some_iff.1 hx).1
              rw [List.append_assoc, List.getElem?_append_left this, hx]
            obtain ⟨ld, hld⟩ : ∃ ld, l ++ [7] ++ [8] = ld := ⟨_, rfl⟩
            rw [hld] at HT6 hl8 hg7 hgl
            have HG7 := Lib.hid hg7
            have HGL := Lib.hid hgl
            have hldb : ld.length ≤ 100000 := by omega
            have HL8 := Lib.hid hl8
            clear HT5 hq6 hq6' hst6 hB5 hbs5 hl7 hld hg7 hgl hl8
            go_wp2_with fail
            refine (qcloneI w.heap.size Q q6 ld.length (ints ld) w6 HT6.out.a (ints_one ld) hldb).mono ?_
            rintro e w7 ⟨v7, rfl, o7, hb7⟩
            have hD8 := Two.clone HT6.out.a hbs6 o7 hb7
            obtain ⟨A7, c7, rfl⟩ := o7.form
            have hB8 := (hB6.trans (hb7.mono hbs6)).alloc (hB6.trans (hb7.mono hbs6)).size (.cells #[.slice A7 ld.length c7] 26)
            have hT8 := (HT6.out.below hb7).below ((Below.refl _ w7).alloc (Nat.le_refl _) (.cells #[.slice A7 ld.length c7] 26))
            obtain ⟨D, hDD⟩ : ∃ D, w7.heap.size = D := ⟨_, rfl⟩
            obtain ⟨w8, hw8⟩ : ∃ w8, w7.alloc (.cells #[.slice A7 ld.length c7] 26) = w8 := ⟨_, rfl⟩
            rw [hw8, hDD] at hD8
            rw [hw8] at hB8 hT8
            have HT8 := Lib.hid hT8
            have HD8 := Lib.hid hD8
            clear HT6 o7 hb7 hT8 hD8 hB6 hbs6
            go_wp2_with fail
            clear hw8 hDD
            go_loopw [45] (fun i wr => ∃ (j : Nat) (q : Value) (m' : List Int), j ≤ d ∧ i = .int .i64 j ∧ Two w.heap.size wr Q q m' C c m ∧ Two w.heap.size wr Q q m' D (.slice A7 ld.length c7) ld ∧ m'.length ≤ N + 2 ∧ Below w.heap.size w wr) (fun i _ => d - (intOf i).toNat)
            case atStart => exact ⟨0, _, _, Nat.zero_le _, rfl, HT8.out, HD8.out, Nat.le_of_eq HL8.out, hB8⟩
            case round =>
              clear HT8 HD8 hB8
              obtain ⟨j, q, m', hj, rfl, hT, hD, hml', hB⟩ := hrel
              have hbs := hB.size
              have HT := Lib.hid hT
              have HD' := Lib.hid hD
              clear hT hD
              by_cases hjd : j < d
              · cases m' with
                | nil =>
                  go_wp2_with fail
                  refine (qpop0I w.heap.size Q q _ wr HT.out.a).mono ?_
                  rintro e w9 ⟨rfl, hb9⟩
                  have HT9 := Lib.hid (HT.out.below hb9)
                  have HD9 := Lib.hid (HD'.out.below hb9)
                  have hB9 := hB.trans (hb9.mono hbs)
                  clear HT HD' hB hb9 hbs
                  go_wp2_with fail
                  go_roundw
                  case rel => exact ⟨j + 1, q, [], by omega, by go_num, HT9.out, HD9.out, by simp, hB9⟩
                  case measure => simp [intOf]; omega
                | cons y r =>
                  have hrl : (y :: r).length = r.length + 1 := rfl
                  rw [hrl] at hml'
                  have hr1 : r.length ≤ 100000 := by omega
                  clear hrl
                  go_wp2_with fail
                  refine (qpopI w.heap.size Q q r.length y (ints r) wr HT.out.a hr1).mono ?_
                  rintro e w9 ⟨rfl, hq9, hst9⟩
                  have HT9 := Lib.hid (HT.out.step hq9 hst9)
                  have HD9 := Lib.hid (HD'.out.step hq9 hst9)
                  have hB9 := hB.trans (hst9.1.below hbs fun k hk => (HT.out.a.lt k hk).1)
                  clear HT HD' hB hq9 hst9 hbs
                  go_wp2_with fail
                  go_roundw
                  case rel => exact ⟨j + 1, _, r, by omega, by go_num, HT9.out, HD9.out, by omega, hB9⟩
                  case measure => simp [intOf]; omega
              · have ej : d = j := by omega
                subst ej
                have hm1 : m'.length ≤ 100000 := by omega
                go_wp2_with fail
                refine (qpushI w.heap.size Q q _ _ 9 wr HT.out.a hbs hm1).mono ?_
                rintro e w9 ⟨rfl, q9, hq9, hst9⟩
                have hq9' : QI w.heap.size w9 Q q9 (m' ++ [9]) := by unfold QI; rw [List.length_append, ints_append]; exact hq9
                have HC9 := Lib.hid (HT.out.step hq9' hst9).b
                have HD9 := Lib.hid (HD'.out.step hq9' hst9).b
                have hB9 := hB.trans (hst9.1.below hbs fun k hk => (HT.out.a.lt k hk).1)
                clear HT HD' hB hq9 hq9' hst9 hbs
                go_wp2_with fail
                refine (qlenI w.heap.size D _ _ _ w9 HD9.out).mono ?_
                rintro e w10 ⟨rfl, hb10⟩
                have HD10 := Lib.hid (HD9.out.below hb10)
                have HC10 := Lib.hid (HC9.out.below hb10)
                have hB10 := hB9.trans (hb10.mono hB9.size)
                rcases HD10.out.row.addr with ⟨_, h0, _⟩ | ⟨g, off, rfl⟩
                · have := HL8.out; omega
                have k10 := HD10.out.cell.1
                have e10 := HD10.out.row.cellAt N _ (by rw [HL8.out]; omega) (ints_get HG7.out)
                rw [HL8.out] at k10 ⊢
                have hN1 : (0 : Int) ≤ (N : Int) := by omega
                have hN2 : (N : Int) < ((N + 2 : Nat) : Int) := by omega
                have hw1 : IntKind.i64.wrap ((N : Int) + 2) = ((N + 2 : Nat) : Int) := by rw [IntKind.wrap_i64]; omega
                clear HC9 HD9 hB9 hb10
                go_wp2_with fail
                go_loopw [66] (fun i wr => ∃ j : Nat, j ≤ N ∧ i = .int .i64 j ∧ Below w10.heap.size w10 wr) (fun i _ => N - (intOf i).toNat)
                case atStart => exact ⟨0, Nat.zero_le _, rfl, Below.refl _ _⟩
                case round =>
                  obtain ⟨j, hj, rfl, hb⟩ := hrel
                  clear k10 e10 hN1 hN2 hw1
                  by_cases hjN : j < N
                  · obtain ⟨y, hy⟩ : ∃ y, l[j]? = some y := ⟨l[j]'(by rw [HN.out]; omega), by simp⟩
                    have hyb := HD.out y (List.mem_of_getElem? hy)
                    obtain ⟨b, o, rfl, hc0⟩ := HL.out j y hy
                    have hc := ((hB10.trans (hb.mono hB10.size)).cell (World.block_lt_of_cell? w _ hc0)).trans hc0
                    have hD := HD10.out.below hb
                    have k11 := hD.cell.1
                    have e11 := hD.row.cellAt j _ (by rw [HL8.out]; omega) (ints_get (HGL.out j y hy))
                    rw [HL8.out] at k11
                    have hj1 : (0 : Int) ≤ (j : Int) := by omega
                    have hj2 : (j : Int) < (N : Int) := by omega
                    have hj3 : (j : Int) < ((N + 2 : Nat) : Int) := by omega
                    clear hy hc0 hD
                    go_wp2_with fail
                    go_quiet (fail)
                    go_wp2_with fail
                    go_roundw
                    case rel => exact ⟨j + 1, by omega, by go_num, hb.trans ⟨rfl, rfl, rfl, Nat.le_refl _, fun _ _ => rfl⟩⟩
                    case measure => simp [intOf]; omega
                  · have HC11 := Lib.hid (HC10.out.below hb)
                    have hB11 := hB10.trans (hb.mono hB10.size)
                    clear HC10 HD10 hB10 hb
                    go_wp2_with fail
                    refine (qlenI w.heap.size C c _ _ wr HC11.out).mono ?_
                    rintro e w12 ⟨rfl, hb12⟩
                    have hB12 := hB11.trans (hb12.mono hB11.size)
                    by_cases hmN : m.length = N
                    · rw [hmN]
                      clear hmN
                      go_wp2_with fail
                      go_ret
                      exact ⟨rfl, hB12⟩
                    · have hN0 : N = 0 := by
                        rcases HE.out with h | h
                        · have := HN.out; rw [h] at this; exact this.symm
                        · exact absurd (h.trans HN.out) hmN
                      have hne : ¬ ((m.length : Int) = (N : Int)) := by omega
                      have hN0' : (N : Int) = 0 := by omega
                      clear hmN
                      go_wp2_with fail
                      all_goals
                        go_ret
                        exact ⟨rfl, hB12⟩
end Go.Proofs.Ytomffkdfgfenpaa
