/- The statement QueueTakes returns true: its walk. -/
import Derived.Test.YtomffkdfgfenpaaQTwo
import Derived.Deep.LoopGhost
import Derived.Deep.DeepCutAuto
namespace Go.Proofs.Ytomffkdfgfenpaa
open Go.RowKit

set_option maxRecDepth 100000 in
set_option maxHeartbeats 2000000 in
theorem qtakes_walk (A : Option Addr) (cp : Nat) (l : List Int) (n : Int) (w : World) (hl : Nums .i8 w A l) (hbd : ∀ x ∈ l, -128 ≤ x ∧ x ≤ 127) (hn : -9223372036854775808 ≤ n ∧ n ≤ 9223372036854775807) :
    Calls Try.prog 5 #[.slice A l.length cp, .int .i64 n] w fun e w' => e = .returned (.bool true) ∧ Below w.heap.size w w' := by
  obtain ⟨N, hN⟩ : ∃ N, l.length = N := ⟨_, rfl⟩
  rw [hN]
  have HN := Lib.hid hN
  have HL := Lib.hid hl
  have HD := Lib.hid hbd
  clear hN hl hbd
  go_enter Try.func5, Try.ntmps5
  go_wp2_with fail
  refine (qawake_any _).mono ?_
  rintro e w1 ⟨rfl, hb1⟩
  by_cases hbig : 100 < N
  · have hbig' : (100 : Int) < (N : Int) := by omega
    go_wp2_with fail
    refine (qawake_any _).mono ?_
    rintro e w2 ⟨rfl, hb2⟩
    go_wp2_with fail
    go_ret
    exact ⟨rfl, hb1.trans (hb2.mono hb1.size)⟩
  · have hbig' : ¬ (100 : Int) < (N : Int) := by omega
    have hs1 := hb1.size
    have hQ := QM.new w1 26 3 1 w.heap.size hs1
    have hB2 := hb1.alloc hs1 (.cells #[.slice none 0 0] 26)
    obtain ⟨Q, hQQ⟩ : ∃ Q, w1.heap.size = Q := ⟨_, rfl⟩
    obtain ⟨w2, hw2⟩ : ∃ w2, w1.alloc (.cells #[.slice none 0 0] 26) = w2 := ⟨_, rfl⟩
    rw [hw2, hQQ] at hQ
    rw [hw2] at hB2
    go_wp2_with fail
    clear hQQ hw2 hb1 hs1
    go_loopw [27] (fun i wr => ∃ (k : Nat) (q : Value), k ≤ N ∧ i = .int .i64 k ∧ QI w.heap.size wr Q q (l.take k) ∧ Below w.heap.size w wr) (fun i _ => N - (intOf i).toNat)
    case atStart => exact ⟨0, _, Nat.zero_le _, rfl, hQ, hB2⟩
    case round =>
      clear hQ hB2
      obtain ⟨k, q, hk, rfl, hQ, hB⟩ := hrel
      have hbs := hB.size
      by_cases hlt : k < N
      · obtain ⟨x, hx⟩ : ∃ x, l[k]? = some x := ⟨l[k]'(by rw [HN.out]; exact hlt), by simp [HN.out, hlt]⟩
        have hxb := HD.out x (List.mem_of_getElem? hx)
        obtain ⟨b, o, rfl, hc0⟩ := HL.out k x hx
        have hc := (hB.cell (World.block_lt_of_cell? w _ hc0)).trans hc0
        have htk : l.take (k + 1) = l.take k ++ [x] := by rw [List.take_add_one, hx]; rfl
        have HT := Lib.hid htk
        have HQ := Lib.hid hQ
        have hln : (l.take k).length ≤ 100000 := by rw [List.length_take]; omega
        clear hx hc0 hQ htk
        go_wp2_with fail
        refine (qpushI w.heap.size Q q _ _ x wr HQ.out hbs hln).mono ?_
        rintro e w3 ⟨rfl, q3, hq3, hst3⟩
        have hB3 := hB.trans (hst3.1.below hbs fun k hk => (HQ.out.lt k hk).1)
        have hq3' : QI w.heap.size w3 Q q3 (l.take (k + 1)) := by rw [HT.out]; unfold QI; rw [List.length_append, ints_append]; exact hq3
        have HQ3 := Lib.hid hq3'
        clear hq3 hq3' hst3 hc hln
        go_wp2_with fail
        go_roundw
        case rel => exact ⟨k + 1, q3, by omega, by go_num, HQ3.out, hB3⟩
        case measure => simp [intOf]; omega
      · have ek : N = k := by omega
        subst ek
        have hQ' : QI w.heap.size wr Q q l := by rw [List.take_of_length_le (by rw [HN.out]; omega)] at hQ; exact hQ
        have hll : l.length ≤ 100000 := by rw [HN.out]; omega
        have HQ := Lib.hid hQ'
        clear hQ hQ'
        go_wp2_with fail
        refine (qcloneI w.heap.size Q q l.length (ints l) wr HQ.out (ints_one l) hll).mono ?_
        rintro e w3 ⟨v3, rfl, o3, hb3⟩
        have hT4 := Two.clone HQ.out hbs o3 hb3
        obtain ⟨A3, c3, rfl⟩ := o3.form
        have hB4 := (hB.trans (hb3.mono hbs)).alloc (hB.trans (hb3.mono hbs)).size (.cells #[.slice A3 l.length c3] 26)
        obtain ⟨C, hCC⟩ : ∃ C, w3.heap.size = C := ⟨_, rfl⟩
        obtain ⟨w4, hw4⟩ : ∃ w4, w3.alloc (.cells #[.slice A3 l.length c3] 26) = w4 := ⟨_, rfl⟩
        rw [hw4, hCC] at hT4
        rw [hw4] at hB4
        have HT4 := Lib.hid hT4
        have hbs4 := hB4.size
        have hcases : (n < 0 ∧ clamp n l.length = 0) ∨ (0 ≤ n ∧ (N : Int) < n ∧ clamp n l.length = N) ∨ (0 ≤ n ∧ n ≤ (N : Int) ∧ n = ((clamp n l.length : Nat) : Int)) := by
          have := HN.out
          unfold clamp
          by_cases h1 : n < 0
          · exact .inl ⟨h1, if_pos h1⟩
          · by_cases h2 : (l.length : Int) < n
            · exact .inr (.inl ⟨by omega, by omega, by rw [if_neg h1, if_pos h2]; omega⟩)
            · exact .inr (.inr ⟨by omega, by omega, by rw [if_neg h1, if_neg h2]; omega⟩)
        have hkl := clamp_le n l.length
        have htake := qtakeI w.heap.size Q q l.length (ints l) n w4 HT4.out.a (ints_one l) hll hn
        obtain ⟨kk, hkk⟩ : ∃ kk, clamp n l.length = kk := ⟨_, rfl⟩
        rw [hkk] at hcases hkl htake
        have HTK := Lib.hid htake
        have HCS := Lib.hid hcases
        have hkN : kk ≤ N := by rw [← HN.out]; exact hkl
        clear HQ o3 hb3 hT4 hkk htake hB hbs hcases hkl hlt hk
        go_wp2_with fail
        clear hw4 hCC
        refine HTK.out.mono ?_
        rintro e w5 ⟨v5, rfl, o5, hq5, hst5⟩
        have hlk : (l.take kk).length = kk := by rw [List.length_take, HN.out]; omega
        have hld : (l.drop kk).length = l.length - kk := by rw [List.length_drop]
        have hq5' : QI w.heap.size w5 Q (tailV q kk 1) (l.drop kk) := by unfold QI; rw [hld, ← ints_drop]; exact hq5
        have hT5 := HT4.out.step hq5' hst5
        rw [ints_take] at o5
        have hB5 := hB4.trans (hst5.1.below hbs4 fun k hk => (HT4.out.a.lt k hk).1)
        have hap : ∀ j, v5.ownBlock = some j → ¬ Foot Q (tailV q kk 1) j ∧ ¬ Foot C (.slice A3 l.length c3) j := fun j hj => by
          have h1 := (o5.lt j hj).1
          refine ⟨fun hf => ?_, fun hf => ?_⟩
          · have hf' : Foot Q q j := by
              rcases hf with e | e
              · exact .inl e
              · rw [tailV_own] at e; exact .inr e
            have := (HT4.out.a.lt j hf').2
            omega
          · have := (HT4.out.b.lt j hf).2
            omega
        have o5' := o5.lower hbs4
        obtain ⟨Ak, ck, rfl⟩ := o5.form
        have hld2 : (l.drop kk).length = N - kk := by rw [hld, HN.out]
        obtain ⟨q5, hqq⟩ : ∃ q5, tailV q kk 1 = q5 := ⟨_, rfl⟩
        rw [hqq] at hT5 hap
        obtain ⟨Aq, cq, rfl⟩ := hT5.a.row.form
        have HT5 := Lib.hid hT5
        have HO5 := Lib.hid o5'
        have HAP := Lib.hid hap
        have HLD := Lib.hid hld2
        clear HT4 HTK hlk hld hq5 hq5' hst5 hT5 o5 o5' hap hld2 hqq hB4 hbs4
        go_upto_region 11 with fail
        go_cut [9] (fun s9 wx => s9 = .int .i64 kk ∧ wx = w5)
        case first =>
          rcases HCS.out with ⟨g1, gk⟩ | ⟨g0, g1, gk⟩ | ⟨g0, g1, gk⟩
          all_goals
            subst gk
            go_wp2_with fail
            go_meet
            exact ⟨rfl, rfl⟩
        case rest =>
          obtain ⟨rfl, rfl⟩ := hcut
          have hsub : IntKind.i64.wrap ((N : Int) - (kk : Int)) = ((N - kk : Nat) : Int) := by rw [IntKind.wrap_i64]; omega
          clear HCS
          go_wp2_with fail
          refine (qlenI w.heap.size Q _ _ _ wc HT5.out.a).mono ?_
          rintro e w6 ⟨rfl, hb6⟩
          rw [HLD.out]
          have HT6 := Lib.hid (HT5.out.below hb6)
          have HO6 := Lib.hid (HO5.out.below hb6)
          have hB6 := hB5.trans (hb6.mono hB5.size)
          clear HT5 HO5 hB5 hb6
          go_wp2_with fail
          go_loopw [59] (fun i wr => ∃ (i' : Nat) (c : Value) (lk : List Int), i' ≤ kk ∧ i = .int .i64 i' ∧ Two w.heap.size wr Q (.slice Aq (l.drop kk).length cq) (l.drop kk) C c (l.drop i') ∧ TR wr w.heap.size 3 1 (.slice Ak kk ck) kk (ints lk) ∧ Hid (∀ j, i' ≤ j → j < kk → lk[j]? = l[j]?) ∧ Hid (∀ j, (Value.slice Ak kk ck).ownBlock = some j → ¬ Foot Q (.slice Aq (l.drop kk).length cq) j ∧ ¬ Foot C c j) ∧ Below w.heap.size w wr) (fun i _ => kk - (intOf i).toNat)
          case atStart => exact ⟨0, _, l.take kk, Nat.zero_le _, rfl, HT6.out, HO6.out, Lib.hid (fun j _ hj => by rw [List.getElem?_take, if_pos hj]), HAP, hB6⟩
          case round =>
            clear HT6 HO6 HAP hB6
            obtain ⟨i, c, lk, hi, rfl, hT, hO, HK, HAP, hB⟩ := hrel
            by_cases hik : i < kk
            · obtain ⟨y, hy⟩ : ∃ y, l[i]? = some y := ⟨l[i]'(by rw [HN.out]; omega), by simp⟩
              have hd : l.drop i = y :: l.drop (i + 1) := by
                have := List.drop_eq_getElem_cons (l := l) (i := i) (by rw [HN.out]; omega)
                rw [this]
                congr 1
                have := List.getElem?_eq_some_iff.1 hy
                exact this.2
              have hyk : lk[i]? = some y := by rw [HK.out i (Nat.le_refl _) hik, hy]
              rcases hO.addr with ⟨_, h2, _⟩ | ⟨g, off, rfl⟩
              · omega
              rw [hd] at hT
              have HT := Lib.hid hT
              have HO := Lib.hid hO
              have HY := Lib.hid hyk
              have hdl : (l.drop (i + 1)).length ≤ 100000 := by rw [List.length_drop]; omega
              clear hT hO hd hy hyk
              go_wp2_with fail
              refine (qpopI w.heap.size C c (l.drop (i + 1)).length y (ints (l.drop (i + 1))) wr HT.out.b hdl).mono ?_
              rintro e w7 ⟨rfl, hc7, hst7⟩
              have hT7 := HT.out.stepB hc7 hst7
              have hO7 := HO.out.turns hst7.1 (fun k hk hf => (HAP.out k hk).2 hf)
              have hB7 := hB.trans (hst7.1.below hB.size fun k hk => (HT.out.b.lt k hk).1)
              have e7 := hO7.cellAt i _ (by omega) (ints_get HY.out)
              obtain ⟨_, _, hgo, _, _, _, hfr⟩ := hO7.cells (by omega)
              have hf7 : w7.frozen? ⟨g, off + i, none⟩ = false := by
                injection hgo with hgo
                injection hgo with hgo
                rw [hgo]
                exact hfr _
              obtain ⟨o8, g8⟩ := hO7.set i (.int .i64 999) (by omega)
              have hap8 : ∀ j, (Value.slice (some ⟨g, off, none⟩) kk ck).ownBlock = some j → ¬ Foot Q (.slice Aq (l.drop kk).length cq) j ∧ ¬ Foot C (tailV c 1 1) j := fun j hj => ⟨(HAP.out j hj).1, fun hf => (HAP.out j hj).2 (by
                rcases hf with e | e
                · exact .inl e
                · rw [tailV_own] at e; exact .inr e)⟩
              have ht8 : Turns (fun k => k = g) w7 (w7.setCell ⟨g, off + i, none⟩ (.int .i64 999)) := .of_grown g8 (fun k hk => by simpa using hk.symm)
              have hng := hap8 g (by simp [Value.ownBlock])
              have hT8 : Two w.heap.size (w7.setCell ⟨g, off + i, none⟩ (.int .i64 999)) Q (.slice Aq (l.drop kk).length cq) (l.drop kk) C (tailV c 1 1) (l.drop (i + 1)) :=
                ⟨hT7.a.turns ht8 (fun k hk e => hng.1 (e ▸ hk)), hT7.b.turns ht8 (fun k hk e => hng.2 (e ▸ hk)), hT7.ap⟩
              have hB8 := hB7.grown g8 hB7.size (fun j hj => by
                have e : j = g := by simpa using hj.symm
                rw [e]
                exact (hO7.lt g (by simp [Value.ownBlock])).1)
              have hO8 : TR (w7.setCell ⟨g, off + i, none⟩ (.int .i64 999)) w.heap.size 3 1 (.slice (some ⟨g, off, none⟩) kk ck) kk (ints (lk.set i 999)) := by
                have e : ints (lk.set i 999) = (ints lk).set i (.int .i64 999) := by simp [ints, List.map_set]
                rw [e]
                exact o8
              have hK8 : ∀ j, i + 1 ≤ j → j < kk → (lk.set i 999)[j]? = l[j]? := fun j h1 h2 => by rw [List.getElem?_set_ne (by omega)]; exact HK.out j (by omega) h2
              have HT8 := Lib.hid hT8
              have HO8 := Lib.hid hO8
              have HK8 := Lib.hid hK8
              have HAP8 := Lib.hid hap8
              have hi1 : (0 : Int) ≤ (i : Int) := by omega
              have hi2 : (i : Int) < (kk : Int) := by omega
              clear hT7 hO7 o8 g8 hap8 ht8 hng hT8 hO8 hK8 hfr hgo hst7 hc7 HT HO HK HAP hB hdl
              go_wp2_with fail
              go_roundw
              case rel => exact ⟨i + 1, _, _, by omega, by go_num, HT8.out, HO8.out, HK8, HAP8, hB8⟩
              case measure => simp [intOf]; omega
            · have ei : kk = i := by omega
              subst ei
              have HT := Lib.hid hT
              have hbs := hB.size
              clear hT hO HK HAP
              go_wp2_with fail
              have hdl : (l.drop kk).length ≤ 100000 := by rw [List.length_drop]; omega
              refine (qpushI w.heap.size Q _ _ _ 5 wr HT.out.a hbs hdl).mono ?_
              rintro e w7 ⟨rfl, q7, hq7, hst7⟩
              have hq7' : QI w.heap.size w7 Q q7 (l.drop kk ++ [5]) := by unfold QI; rw [List.length_append, ints_append]; exact hq7
              have HT7 := Lib.hid (HT.out.step hq7' hst7)
              have hB7 := hB.trans (hst7.1.below hbs fun k hk => (HT.out.a.lt k hk).1)
              clear HT hq7 hq7' hst7 hB hbs
              go_wp2_with fail
              go_loopg [] N (fun kx wr => ∃ (q c : Value) (m : List Int), m.length ≤ kx ∧ m.length ≤ N ∧ Two w.heap.size wr Q q (m ++ [5]) C c m ∧ Below w.heap.size w wr)
              case atStart => exact ⟨_, _, _, by rw [List.length_drop, HN.out]; omega, by rw [List.length_drop, HN.out]; omega, HT7.out, hB7⟩
              case round =>
                clear HT7 hB7
                obtain ⟨q, c, m, hm, hmN, hT, hB⟩ := hrel
                have HT := Lib.hid hT
                clear hT
                cases m with
                | nil =>
                  go_wp2_with fail
                  refine (qlenI w.heap.size C c _ _ wr HT.out.b).mono ?_
                  rintro e w8 ⟨rfl, hb8⟩
                  have HT8 := Lib.hid (HT.out.below hb8)
                  have hB8 := hB.trans (hb8.mono hB.size)
                  clear HT hB hb8
                  go_wp2_with fail
                  refine (qlenI w.heap.size Q q _ _ w8 HT8.out.a).mono ?_
                  rintro e w9 ⟨rfl, hb9⟩
                  go_wp2_with fail
                  go_ret
                  exact ⟨rfl, hB8.trans (hb9.mono hB8.size)⟩
                | cons y r =>
                  go_wp2_with fail
                  refine (qlenI w.heap.size C c _ _ wr HT.out.b).mono ?_
                  rintro e w8 ⟨rfl, hb8⟩
                  have HT8 := Lib.hid (HT.out.below hb8)
                  have hB8 := hB.trans (hb8.mono hB.size)
                  have hrl : (y :: r).length = r.length + 1 := rfl
                  rw [hrl] at hm hmN ⊢
                  have hr1 : r.length ≤ 100000 := by omega
                  have hr2 : (r ++ [5]).length ≤ 100000 := by simp; omega
                  clear HT hB hb8 hrl
                  go_wp2_with fail
                  refine (qpopI w.heap.size C c r.length y (ints r) w8 HT8.out.b hr1).mono ?_
                  rintro e w9 ⟨rfl, hc9, hst9⟩
                  have HT9 := Lib.hid (HT8.out.stepB hc9 hst9)
                  have hB9 := hB8.trans (hst9.1.below hB8.size fun k hk => (HT8.out.b.lt k hk).1)
                  clear HT8 hB8 hc9 hst9
                  go_wp2_with fail
                  refine (qpopI w.heap.size Q q (r ++ [5]).length y (ints (r ++ [5])) w9 HT9.out.a hr2).mono ?_
                  rintro e w10 ⟨rfl, hq10, hst10⟩
                  have HT10 := Lib.hid (HT9.out.step hq10 hst10)
                  have hB10 := hB9.trans (hst10.1.below hB9.size fun k hk => (HT9.out.a.lt k hk).1)
                  clear HT9 hB9 hq10 hst10
                  go_wp2_with fail
                  go_roundg (r.length)
                  case measure => omega
                  case rel => exact ⟨_, _, r, Nat.le_refl _, by omega, HT10.out, hB10⟩
end Go.Proofs.Ytomffkdfgfenpaa
