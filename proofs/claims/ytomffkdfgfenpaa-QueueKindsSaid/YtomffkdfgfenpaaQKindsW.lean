/- The statement QueueKinds returns true: its walk. -/
import Derived.Test.YtomffkdfgfenpaaQTin
import Derived.Test.YtomffkdfgfenpaaQGenS
import Derived.Test.YtomffkdfgfenpaaQGenL
import Derived.Test.YtomffkdfgfenpaaQOpn
namespace Go.Proofs.Ytomffkdfgfenpaa
open Go.RowKit

def strs (l : List ByteArray) : List Value := l.map .string
def cuts (A : Option Addr) (cp : Nat) (l : List Nat) : List Value := l.map fun i => .slice A i cp
/-- A queue of strings and one of slices, apart. -/
structure Duo (base : Nat) (w : World) (Q : Nat) (q : Value) (l : List ByteArray) (C : Nat) (c : Value) (A : Option Addr) (cp : Nat) (m : List Nat) : Prop where
  a : QM 35 9 1 base w Q q l.length (strs l)
  b : QM 38 33 1 base w C c m.length (cuts A cp m)
  ap : ∀ k, Foot Q q k → ¬ Foot C c k
section
variable {base : Nat} {w w' : World} {Q C : Nat} {q c q' c' : Value} {l l' : List ByteArray} {A : Option Addr} {cp : Nat} {m m' : List Nat}
theorem Duo.below (h : Duo base w Q q l C c A cp m) (hb : Below w.heap.size w w') : Duo base w' Q q l C c A cp m := ⟨h.a.below hb, h.b.below hb, h.ap⟩
theorem Duo.stepA (h : Duo base w Q q l C c A cp m) (hq : QM 35 9 1 base w' Q q' l'.length (strs l')) (hs : AStep w w' (Foot Q q) (Foot Q q')) : Duo base w' Q q' l' C c A cp m :=
  ⟨hq, h.b.turns hs.1 (fun k hk hf => h.ap k hf hk), fun k hk hc => h.ap k (hs.2 k (h.b.lt k hc).2 hk) hc⟩
theorem Duo.stepB (h : Duo base w Q q l C c A cp m) (hc : QM 38 33 1 base w' C c' m'.length (cuts A cp m')) (hs : AStep w w' (Foot C c) (Foot C c')) : Duo base w' Q q l C c' A cp m' :=
  ⟨h.a.turns hs.1 (fun k hk hf => h.ap k hk hf), hc, fun k hk hf => h.ap k hk (hs.2 k (h.a.lt k hk).2 hf)⟩
end

set_option maxRecDepth 100000 in
set_option maxHeartbeats 2000000 in
theorem qkinds_walk (A : Option Addr) (cp : Nat) (l : List ByteArray) (w : World) (hl : StrsIn w A l) (hcp : l.length ≤ cp) :
    Calls Try.prog 4 #[.slice A l.length cp] w fun e w' => e = .returned (.bool true) ∧ Below w.heap.size w w' := by
  obtain ⟨N, hN⟩ : ∃ N, l.length = N := ⟨_, rfl⟩
  rw [hN] at hcp ⊢
  have HN := Lib.hid hN
  have HL := Lib.hid hl
  clear hN hl
  go_enter Try.func4, Try.ntmps4
  go_wp2_with fail
  refine (qawake_any _).mono ?_
  rintro e w1 ⟨rfl, hb1⟩
  by_cases hbig : 60 < N
  · have hbig' : (60 : Int) < (N : Int) := by omega
    go_wp2_with fail
    refine (qawake_any _).mono ?_
    rintro e w2 ⟨rfl, hb2⟩
    go_wp2_with fail
    go_ret
    exact ⟨rfl, hb1.trans (hb2.mono hb1.size)⟩
  · have hbig' : ¬ (60 : Int) < (N : Int) := by omega
    have hs1 := hb1.size
    have hQ := QM.new w1 35 9 1 w.heap.size hs1
    have hB2 := hb1.alloc hs1 (.cells #[.slice none 0 0] 35)
    obtain ⟨Q, hQQ⟩ : ∃ Q, w1.heap.size = Q := ⟨_, rfl⟩
    obtain ⟨w2, hw2⟩ : ∃ w2, w1.alloc (.cells #[.slice none 0 0] 35) = w2 := ⟨_, rfl⟩
    have hz2 : w2.heap.size = Q + 1 := by rw [← hw2]; simp [hQQ]
    rw [hw2, hQQ] at hQ
    rw [hw2] at hB2
    have hP := QM.new w2 38 33 1 w.heap.size hB2.size
    have hQ3 := hQ.below ((Below.refl _ w2).alloc (Nat.le_refl _) (.cells #[.slice none 0 0] 38))
    have hB3 := hB2.alloc hB2.size (.cells #[.slice none 0 0] 38)
    obtain ⟨w3, hw3⟩ : ∃ w3, w2.alloc (.cells #[.slice none 0 0] 38) = w3 := ⟨_, rfl⟩
    rw [hw3] at hP hQ3 hB3
    rw [hz2] at hP
    have hD : Duo w.heap.size w3 Q (.slice none 0 0) [] (Q + 1) (.slice none 0 0) A cp [] := ⟨hQ3, hP, by
      rintro k (rfl | e) (e' | e')
      · omega
      · simp [Value.ownBlock] at e'
      · simp [Value.ownBlock] at e
      · simp [Value.ownBlock] at e⟩
    have hBl := hB3
    have HD := Lib.hid hD
    clear hQ hP hQ3 hD hB2 hB3 hb1 hs1
    go_wp2_with fail
    clear hQQ hw2 hw3 hz2
    go_loopw [25] (fun i wr => ∃ (k : Nat) (q c : Value), k ≤ N ∧ i = .int .i64 k ∧ Duo w.heap.size wr Q q (l.take k) (Q + 1) c A cp (List.range k) ∧ Below w.heap.size w wr) (fun i _ => N - (intOf i).toNat)
    case atStart => exact ⟨0, _, _, Nat.zero_le _, rfl, HD.out, hBl⟩
    case round =>
      clear HD hBl
      obtain ⟨k, q, c, hk, rfl, hD, hB⟩ := hrel
      have hbs := hB.size
      by_cases hlt : k < N
      · obtain ⟨x, hx⟩ : ∃ x, l[k]? = some x := ⟨l[k]'(by rw [HN.out]; exact hlt), by simp⟩
        obtain ⟨b, o, rfl, hc0⟩ := HL.out k x hx
        have hc := (hB.cell (World.block_lt_of_cell? w _ hc0)).trans hc0
        have htk : l.take (k + 1) = l.take k ++ [x] := by rw [List.take_add_one, hx]; rfl
        have HT := Lib.hid htk
        have HD := Lib.hid hD
        have hln : (l.take k).length ≤ 100000 := by rw [List.length_take]; omega
        have hk0 : (0 : Int) ≤ (k : Int) := by omega
        have hkc : (k : Int) ≤ (cp : Int) := by omega
        clear hx hc0 hD htk
        go_wp2_with fail
        refine (qpushS w.heap.size Q q _ _ x wr HD.out.a hbs hln).mono ?_
        rintro e w5 ⟨rfl, q5, hq5, hst5⟩
        have hq5' : QM 35 9 1 w.heap.size w5 Q q5 (l.take (k + 1)).length (strs (l.take (k + 1))) := by
          rw [HT.out, List.length_append]
          have e : strs (l.take k ++ [x]) = strs (l.take k) ++ [.string x] := by simp [strs]
          rw [e]
          exact hq5
        have HD5 := Lib.hid (HD.out.stepA hq5' hst5)
        have hB5 := hB.trans (hst5.1.below hbs fun k hk => (HD.out.a.lt k hk).1)
        have hbs5 := hB5.size
        have hln2 : (List.range k).length ≤ 100000 := by rw [List.length_range]; omega
        clear hq5 hq5' hst5 HD hB hbs hln hc
        go_wp2_with fail
        refine (qpushL w.heap.size (Q + 1) c _ _ (some ⟨b, o, none⟩) k cp w5 HD5.out.b hbs5 hln2).mono ?_
        rintro e w6 ⟨rfl, c6, hc6, hst6⟩
        have hc6' : QM 38 33 1 w.heap.size w6 (Q + 1) c6 (List.range (k + 1)).length (cuts (some ⟨b, o, none⟩) cp (List.range (k + 1))) := by
          rw [List.range_succ, List.length_append]
          have e : cuts (some ⟨b, o, none⟩) cp (List.range k ++ [k]) = cuts (some ⟨b, o, none⟩) cp (List.range k) ++ [.slice (some ⟨b, o, none⟩) k cp] := by simp [cuts]
          rw [e]
          exact hc6
        have HD6 := Lib.hid (HD5.out.stepB hc6' hst6)
        have hB6 := hB5.trans (hst6.1.below hbs5 fun k hk => (HD5.out.b.lt k hk).1)
        clear hc6 hc6' hst6 HD5 hB5 hbs5 hln2
        go_wp2_with fail
        go_roundw
        case rel => exact ⟨k + 1, q5, c6, by omega, by go_num, HD6.out, hB6⟩
        case measure => simp [intOf]; omega
      · have ek : N = k := by omega
        subst ek
        have hD' : Duo w.heap.size wr Q q l (Q + 1) c A cp (List.range N) := by rw [List.take_of_length_le (by rw [HN.out]; omega)] at hD; exact hD
        have HD := Lib.hid hD'
        clear hD hD' hk hlt
        go_wp2_with fail
        go_loopw [40] (fun i wr => ∃ (j : Nat) (q c : Value), j ≤ N ∧ i = .int .i64 j ∧ Duo w.heap.size wr Q q (l.drop j) (Q + 1) c A cp ((List.range N).drop j) ∧ Below w.heap.size w wr) (fun i _ => N - (intOf i).toNat)
        case atStart => exact ⟨0, _, _, Nat.zero_le _, rfl, HD.out, hB⟩
        case round =>
          clear HD hB hbs
          obtain ⟨j, q, c, hj, rfl, hD, hB⟩ := hrel
          have hbs := hB.size
          by_cases hlt : j < N
          · obtain ⟨x, hx⟩ : ∃ x, l[j]? = some x := ⟨l[j]'(by rw [HN.out]; exact hlt), by simp⟩
            obtain ⟨b, o, rfl, hc0⟩ := HL.out j x hx
            have hd1 : l.drop j = x :: l.drop (j + 1) := by
              have h := List.drop_eq_getElem_cons (l := l) (i := j) (by rw [HN.out]; omega)
              rw [h]
              congr 1
              exact (List.getElem?_eq_some_iff.1 hx).2
            have hd2 : (List.range N).drop j = j :: (List.range N).drop (j + 1) := by
              have h := List.drop_eq_getElem_cons (l := List.range N) (i := j) (by rw [List.length_range]; exact hlt)
              rw [h]
              congr 1
              simp
            rw [hd1, hd2] at hD
            have HD := Lib.hid hD
            have hl1 : (l.drop (j + 1)).length ≤ 100000 := by rw [List.length_drop, HN.out]; omega
            have hl2 : ((List.range N).drop (j + 1)).length ≤ 100000 := by rw [List.length_drop, List.length_range]; omega
            clear hx hD hd1 hd2
            go_wp2_with fail
            refine (qpopS w.heap.size Q q (l.drop (j + 1)).length x (strs (l.drop (j + 1))) wr HD.out.a hl1).mono ?_
            rintro e w5 ⟨rfl, hq5, hst5⟩
            have HD5 := Lib.hid (HD.out.stepA hq5 hst5)
            have hB5 := hB.trans (hst5.1.below hbs fun k hk => (HD.out.a.lt k hk).1)
            clear hq5 hst5 HD hB hbs
            go_wp2_with fail
            refine (qpopL w.heap.size (Q + 1) c ((List.range N).drop (j + 1)).length (some ⟨b, o, none⟩) j cp (cuts (some ⟨b, o, none⟩) cp ((List.range N).drop (j + 1))) w5 HD5.out.b hl2).mono ?_
            rintro e w6 ⟨rfl, hc6, hst6⟩
            have HD6 := Lib.hid (HD5.out.stepB hc6 hst6)
            have hB6 := hB5.trans (hst6.1.below hB5.size fun k hk => (HD5.out.b.lt k hk).1)
            have hc := (hB6.cell (World.block_lt_of_cell? w _ hc0)).trans hc0
            have hj1 : (0 : Int) ≤ (j : Int) := by omega
            have hj2 : (j : Int) < (N : Int) := by omega
            clear hc6 hst6 HD5 hB5 hc0 hl1 hl2
            go_wp2_with fail
            go_roundw
            case rel => exact ⟨j + 1, _, _, by omega, by go_num, HD6.out, hB6⟩
            case measure => simp [intOf]; omega
          · have ej : N = j := by omega
            subst ej
            rw [List.drop_of_length_le (by rw [HN.out]; omega), List.drop_of_length_le (by rw [List.length_range]; omega)] at hD
            have HD := Lib.hid hD
            clear hD
            go_wp2_with fail
            refine (qpop0S w.heap.size Q q _ wr HD.out.a).mono ?_
            rintro e w5 ⟨rfl, hb5⟩
            have HD5 := Lib.hid (HD.out.below hb5)
            have hB5 := hB.trans (hb5.mono hbs)
            clear HD hB hb5
            go_wp2_with fail
            refine (qpeek0L w.heap.size (Q + 1) c _ w5 HD5.out.b).mono ?_
            rintro e w6 ⟨rfl, hb6⟩
            have hB6 := hB5.trans (hb6.mono hB5.size)
            clear HD5 hB5 hb6
            go_wp2_with fail
            go_ret
            exact ⟨rfl, hB6⟩
end Go.Proofs.Ytomffkdfgfenpaa
