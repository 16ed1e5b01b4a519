/- The reference reads a number. -/
import Derived.Test.YtoiednecchbmnaaDoorK04
import Derived.Deep.CutBlock
import Derived.Deep.CutRange
namespace Go.Proofs.YtoiednecchbmnaaDoor
open Go Go.RowKit
set_option linter.unusedVariables false
/-- Digits' worth, each a tenth of the one before. -/
def us : Nat → List UInt8 → Nat
  | _, [] => 0
  | u, c :: t => u * (c.toNat - 48) + us (u / 10) t
theorem us_take : ∀ (D : List UInt8) (u j : Nat) (h : j < D.length), us u (D.take (j + 1)) = us u (D.take j) + u / 10 ^ j * (D[j].toNat - 48)
  | [], u, j, h => by cases h
  | c :: t, u, 0, h => by simp [us]
  | c :: t, u, j + 1, h => by
    have ih := us_take t (u / 10) j (by simpa using h)
    rw [List.take_succ_cons, List.take_succ_cons]
    have hj : j < t.length := by simpa using h
    show u * (c.toNat - 48) + us (u / 10) (t.take (j + 1)) = u * (c.toNat - 48) + us (u / 10) (t.take j) + u / 10 ^ (j + 1) * (t[j].toNat - 48)
    rw [ih, Nat.pow_succ, Nat.mul_comm (10 ^ j), ← Nat.div_div_eq_div_mul, Nat.add_assoc]
theorem us_le : ∀ (D : List UInt8) (u : Nat), (∀ c ∈ D, St.dg c = true) → us u D ≤ 10 * u
  | [], u, _ => Nat.zero_le _
  | c :: t, u, h => by
    have ih := us_le t (u / 10) (fun x hx => h x (by simp [hx]))
    have hc := h c (by simp)
    unfold St.dg at hc
    simp at hc
    have h1 : u * (c.toNat - 48) ≤ u * 9 := Nat.mul_le_mul_left _ (by omega)
    show u * (c.toNat - 48) + us (u / 10) t ≤ 10 * u
    omega
theorem us_zero : ∀ D : List UInt8, us 0 D = 0
  | [] => rfl
  | c :: t => by show 0 * _ + us (0 / 10) t = 0; rw [Nat.zero_mul, Nat.zero_div, us_zero t]
theorem us_frac (D : List UInt8) : us 100 D = St.dec ((D ++ [48, 48, 48]).take 3) := by
  match D with
  | [] => rfl
  | [a] => simp [us, St.dec]; omega
  | [a, b] => simp [us, St.dec]; omega
  | a :: b :: c :: t =>
    show 100 * (a.toNat - 48) + (10 * (b.toNat - 48) + (1 * (c.toNat - 48) + us 0 t)) = _
    rw [us_zero]
    simp [St.dec]
    omega
theorem pow10_div (j : Nat) : (100 / 10 ^ j) / 10 = 100 / 10 ^ (j + 1) := by rw [Nat.div_div_eq_div_mul, Nat.pow_succ]
theorem dec_appF (W F : List UInt8) (h : F.length = 3) : St.dec (W ++ F) = 1000 * St.dec W + St.dec F := by
  match F, h with
  | [a, b, c], _ => exact St.dec_app3 W a b c
theorem tk_len {p : UInt8 → Bool} {l : List UInt8} : (l.takeWhile p).length ≤ l.length := (List.takeWhile_sublist _).length_le
theorem fin3 {a b : Int} {k k' : Bool} {r : List UInt8} {w : World} (h : a = b) (hk : k = k') : ∃ (n : Int) (s : List UInt8), Ending.returned (.tuple #[.int .i64 a, .string (tstr r), .bool k]) = Ending.returned (.tuple #[.int .i64 n, .string (tstr s), .bool k']) ∧ (k' = true → n = b ∧ s = r) ∧ w = w := ⟨a, r, by rw [hk], fun _ => ⟨h, rfl⟩, rfl⟩
set_option maxHeartbeats 16000000 in
set_option maxRecDepth 100000 in
theorem rnumber_any (l : List UInt8) (w : World) (hl : l.length ≤ 10000) :
    Calls Tryd.prog 32 #[.string (tstr l)] w fun e w' => ∃ (n : Int) (r : List UInt8), e = .returned (.tuple #[.int .i64 n, .string (tstr r), .bool (St.thou l).2.1]) ∧ ((St.thou l).2.1 = true → n = (St.thou l).1 ∧ r = (St.thou l).2.2) ∧ w = w' := by
  obtain ⟨neg, m, hs, hcase⟩ : ∃ (neg : Bool) (m : List UInt8), St.sgn l = (neg, m) ∧ ((neg = true ∧ l = 45 :: m) ∨ (neg = false ∧ l = 43 :: m) ∨ (neg = false ∧ l = m ∧ ∀ c t, l = c :: t → ¬ c.toNat = 45 ∧ ¬ c.toNat = 43)) := by
    rcases l with _ | ⟨c, m⟩
    · exact ⟨false, [], rfl, .inr (.inr ⟨rfl, rfl, fun c t e => by cases e⟩)⟩
    · by_cases h45 : c.toNat = 45
      · obtain rfl : c = 45 := UInt8.toNat_inj.1 h45
        exact ⟨true, m, rfl, .inl ⟨rfl, rfl⟩⟩
      · by_cases h43 : c.toNat = 43
        · obtain rfl : c = 43 := UInt8.toNat_inj.1 h43
          exact ⟨false, m, rfl, .inr (.inl ⟨rfl, rfl⟩)⟩
        · refine ⟨false, c :: m, ?_, .inr (.inr ⟨rfl, rfl, fun d t e => by injection e with e _; subst e; exact ⟨h45, h43⟩⟩)⟩
          unfold St.sgn
          rw [if_neg (by rw [St.pre1 (fun e => h45 (by rw [e]; rfl))]; decide)]
          unfold St.cutP
          rw [if_neg (by rw [St.pre1 (fun e => h43 (by rw [e]; rfl))]; decide)]
  have HS := Lib.hid hs
  have hml : m.length ≤ 10000 := by
    rcases hcase with ⟨_, h⟩ | ⟨_, h⟩ | ⟨_, h, _⟩
    · rw [h, List.length_cons] at hl; omega
    · rw [h, List.length_cons] at hl; omega
    · rw [← h]; exact hl
  clear hs hl
  rcases hcase with ⟨rfl, hlm⟩ | ⟨rfl, hlm⟩ | ⟨rfl, hlm, hne⟩
  · have HLM := Lib.hid hlm
    rw [show tstr l = tstr (45 :: m) by rw [hlm]]
    have hz0 : (tstr (45 :: m)).toList.isEmpty = false := by rw [ttl]; rfl
    have hp1 : (0 : Int) < ((tstr (45 :: m)).size : Int) := by rw [tsize, List.length_cons]; omega
    have hp2 : 0 < (tstr (45 :: m)).size := by rw [tsize, List.length_cons]; omega
    have hp3 : (1 : Int) ≤ ((tstr (45 :: m)).size : Int) := by omega
    have hc0 : (tstr (45 :: m))[0] = 45 := rfl
    have hxt : (tstr (45 :: m)).extract 1 (tstr (45 :: m)).size = tstr m := textr_end (45 :: m) 1
    clear hlm
    go_enter Tryd.func32, Tryd.ntmps32
    obtain ⟨q, hq⟩ : ∃ q, (m.takeWhile St.dg).length = q := ⟨_, rfl⟩
    have HQ := Lib.hid hq
    have hml' : (tstr m).size ≤ 10000 := by rw [tsize]; exact hml
    clear hq
    go_upto_block 0 with fail
    go_cut [6, 7] from 26 (fun u6 u7 wx => ∃ k : Nat, u7 = .int .i64 (k : Int) ∧ u6 = .int .i64 (St.dec (m.take k) : Nat) ∧ k ≤ 8 ∧ k ≤ m.length ∧ (k = q ∨ (k = 8 ∧ 8 ≤ q)) ∧ wx = w)
    case first =>
      go_wp2_with fail
      go_loopg [6, 7] 9 (fun gg u6 u7 wr => ∃ k : Nat, u7 = .int .i64 (k : Int) ∧ u6 = .int .i64 (St.dec (m.take k) : Nat) ∧ k ≤ 8 ∧ k ≤ q ∧ 9 - k ≤ gg ∧ wr = w)
      case atStart => exact ⟨0, rfl, rfl, by omega, Nat.zero_le _, by omega, rfl⟩
      case round =>
        obtain ⟨k, rfl, rfl, hk8, hkq, hgg, rfl⟩ := hrel
        have hkm : k ≤ m.length := by have := HQ.out; have := tk_len (p := St.dg) (l := m); omega
        by_cases hlt : k < m.length
        · have hlt1 : k < (tstr m).size := by rw [tsize]; exact hlt
          have hlt' : (k : Int) < ((tstr m).size : Int) := by omega
          have hd := tget m k hlt1
          have hc256 := (tstr m)[k].toNat_lt
          cases hdg : St.dg (tstr m)[k] with
          | true =>
            have hmore := run1_more (p := St.dg) (l := m) (k := k) (by have := HQ.out; omega) hd hdg
            have hb := hdg
            unfold St.dg at hb
            simp at hb
            have hb1 : 48 ≤ (tstr m)[k].toNat := hb.1
            have hb2 : (tstr m)[k].toNat ≤ 57 := hb.2
            have hb3 : (48 : Int) ≤ ((tstr m)[k].toNat : Int) := by omega
            have hb4 : ((tstr m)[k].toNat : Int) ≤ 57 := by omega
            have hq1 : k + 1 ≤ q := by have := HQ.out; omega
            by_cases h8 : k < 8
            · have h8' : (k : Int) < 8 := by omega
              have HN := Lib.hid (show St.dec (m.take (k + 1)) = 10 * St.dec (m.take k) + ((tstr m)[k].toNat - 48) from dec_take hlt)
              have hdk : ∀ c ∈ m.take k, St.dg c = true := fun c hc => by
                have : m.take k = (m.takeWhile St.dg).take k := by rw [← take_tw St.dg m |>.1, List.take_take]; congr 1; have := HQ.out; omega
                rw [this] at hc
                exact tw_dg m c (List.mem_of_mem_take hc)
              have hbd : St.dec (m.take k) + 1 ≤ 10 ^ 8 := Nat.le_trans (dec_lt _ hdk) (Nat.pow_le_pow_right (by decide) (by rw [List.length_take]; omega))
              obtain ⟨x, hx⟩ : ∃ x, St.dec (m.take k) = x := ⟨_, rfl⟩
              rw [hx] at hbd ⊢
              have hx1 : x ≤ 100000000 := by omega
              have hx2 : (x : Int) ≤ 100000000 := by omega
              have HG := Lib.hid (show m[k].toNat = (tstr m)[k].toNat from rfl)
              clear hbd hdk hd hdg hb hmore
              go_wp2_with fail
              go_roundg (9 - (k + 1))
              case rel => exact ⟨k + 1, by go_num, by rw [HN.out, hx]; go_num, by omega, hq1, by omega, rfl⟩
              case measure => omega
            · have h8' : ¬ (k : Int) < 8 := by omega
              clear hd hdg hb hmore
              go_wp2_with fail
              go_meet
              exact ⟨k, rfl, rfl, hk8, hkm, .inr ⟨by omega, by omega⟩, rfl⟩
          | false =>
            have hend := run1_here (p := St.dg) (l := m) (k := k) (by have := HQ.out; omega) (fun c r e => by rw [hd] at e; obtain ⟨rfl, _⟩ := List.cons.inj e; exact hdg)
            have HKQ := Lib.hid (show k = q by have := HQ.out; omega)
            have hb : (tstr m)[k].toNat < 48 ∨ 57 < (tstr m)[k].toNat := by
              unfold St.dg at hdg
              simp at hdg
              omega
            clear hd hdg hend
            rcases hb with hb | hb
            · have hb1 : ¬ 48 ≤ (tstr m)[k].toNat := by omega
              have hb3 : ¬ (48 : Int) ≤ ((tstr m)[k].toNat : Int) := by omega
              have hb5 : decide ((48 : Int) ≤ ((tstr m)[k].toNat : Int)) = false := decide_eq_false hb3
              have hb6 : decide (48 ≤ (tstr m)[k].toNat) = false := decide_eq_false hb1
              go_wp2_with fail
              go_meet
              exact ⟨k, rfl, rfl, hk8, hkm, .inl HKQ.out, rfl⟩
            · have hb1 : 48 ≤ (tstr m)[k].toNat := by omega
              have hb2 : ¬ (tstr m)[k].toNat ≤ 57 := by omega
              have hb3 : (48 : Int) ≤ ((tstr m)[k].toNat : Int) := by omega
              have hb4 : ¬ ((tstr m)[k].toNat : Int) ≤ 57 := by omega
              have hb5 : decide (((tstr m)[k].toNat : Int) ≤ 57) = false := decide_eq_false hb4
              have hb6 : decide ((tstr m)[k].toNat ≤ 57) = false := decide_eq_false hb2
              go_wp2_with fail
              go_meet
              exact ⟨k, rfl, rfl, hk8, hkm, .inl HKQ.out, rfl⟩
        · have hlt' : ¬ (k : Int) < ((tstr m).size : Int) := by rw [tsize]; omega
          have hend := run1_here (p := St.dg) (l := m) (k := k) (by have := HQ.out; omega) (fun c r e => by rw [List.drop_of_length_le (by omega)] at e; cases e)
          have HKQ := Lib.hid (show k = q by have := HQ.out; omega)
          clear hend
          go_wp2_with fail
          go_meet
          exact ⟨k, rfl, rfl, hk8, hkm, .inl HKQ.out, rfl⟩
    case rest =>
      obtain ⟨k, rfl, rfl, hk8, hkm, hkq, rfl⟩ := hcut
      have HTH := fun (F rr : List UInt8) (kk : Bool) (h4 : St.frac (m.dropWhile St.dg) = (F, kk, rr)) => thou_of HS.out rfl rfl h4
      by_cases hbad : k = 0 ∨ 7 < k
      · have HE := Lib.hid (show (St.thou l).2.1 = false by
          obtain ⟨F, kk, rr, hF⟩ : ∃ F kk rr, St.frac (m.dropWhile St.dg) = (F, kk, rr) := ⟨_, _, _, rfl⟩
          have h := HTH F rr kk hF
          rw [h, if_neg]
          rcases hbad with h0 | h7
          · have hq0 : q = 0 := by omega
            have : m.takeWhile St.dg = [] := List.length_eq_zero_iff.1 (by rw [HQ.out]; exact hq0)
            rw [this]; simp
          · have : ¬ (m.takeWhile St.dg).length ≤ 7 := by rw [HQ.out]; omega
            simp [this])
        clear HTH
        rcases hbad with rfl | h7
        · go_wp2_with fail
          go_ret3
          rw [HE.out]
          exact ⟨0, m, rfl, fun h => (by cases h), rfl⟩
        · have h71 : (7 : Int) < (k : Int) := by omega
          have h70 : ¬ k = 0 := by omega
          have h72 : ((k : Int) == 0) = false := beq_eq_false_iff_ne.2 (by omega)
          go_wp2_with fail
          go_ret3
          rw [HE.out]
          exact ⟨0, m, rfl, fun h => (by cases h), rfl⟩
      · have hk0 : ¬ k = 0 := by omega
        have hkb : ((k : Int) == 0) = false := beq_eq_false_iff_ne.2 (by omega)
        have hk7 : ¬ (7 : Int) < (k : Int) := by omega
        have hk7b : (k : Int) ≤ 7 := by omega
        obtain rfl : k = q := by omega
        have hW : m.takeWhile St.dg = m.take k := by rw [← HQ.out]; exact (take_tw St.dg m).1.symm
        have hr : m.dropWhile St.dg = m.drop k := by rw [← HQ.out]; exact (take_tw St.dg m).2.symm
        have hNd : St.dec (m.take k) + 1 ≤ 10 ^ 7 := by
          have h1 := dec_lt (m.take k) (by rw [← hW]; exact tw_dg m)
          exact Nat.le_trans h1 (Nat.pow_le_pow_right (by decide) (by rw [List.length_take]; omega))
        have hex : (tstr m).extract k (tstr m).size = tstr (m.drop k) := textr_end m k
        have hkm1 : (k : Int) ≤ ((tstr m).size : Int) := by rw [tsize]; omega
        have hkm2 : k ≤ (tstr m).size := by rw [tsize]; exact hkm
        rw [hW, hr] at HTH
        have hlenk : (m.take k).length = k := by rw [List.length_take]; omega
        have hWe : (m.take k).isEmpty = false := by cases e : m.take k with | nil => (rw [e] at hlenk; simp at hlenk; omega) | cons a b => rfl
        have HT2 := Lib.hid (show ∀ (F rr : List UInt8) (kk : Bool), St.frac (m.drop k) = (F, kk, rr) → St.thou l = if kk = true then (-(St.dec (m.take k ++ F) : Int), decide (St.dec (m.take k ++ F) ≤ 1048576000), rr) else (0, false, rr) from fun F rr kk h => by
          have := HTH F rr kk h
          rw [this, hWe, hlenk, decide_eq_true (show k ≤ 7 by omega)]
          cases kk <;> simp)
        clear HTH hW hr hWe
        obtain ⟨x, hx⟩ : ∃ x, St.dec (m.take k) = x := ⟨_, rfl⟩
        have HX := Lib.hid hx
        rw [hx] at hNd ⊢
        obtain ⟨r, hr⟩ : ∃ r, m.drop k = r := ⟨_, rfl⟩
        rw [hr] at hex HT2
        have hrl : r.length ≤ 10000 := by rw [← hr, List.length_drop]; omega
        have hx1 : x ≤ 10000000 := by omega
        have hx2 : (x : Int) ≤ 10000000 := by omega
        clear hNd hx hr hlenk
        have NOFR : ∀ (hn : St.skip [46] r = false), St.thou l = (-((1000 * x : Nat) : Int), decide (1000 * x ≤ 1048576000), r) := fun hn => by
          have := HT2.out _ _ _ (frac_not hn)
          rw [if_pos rfl, dec_appF _ _ rfl, HX.out, show St.dec [48, 48, 48] = 0 by decide, Nat.add_zero] at this
          exact this
        cases r with
        | nil =>
          have hz : (tstr []).toList.isEmpty = true := by rw [ttl]; rfl
          have HE := Lib.hid (NOFR rfl)
          clear NOFR HT2
          go_wp2_with fail
          go_ret3
          rw [HE.out]
          exact fin3 (by push_cast; omega) (by rw [Bool.eq_iff_iff]; simp; omega)
        | cons c t =>
          have hz : (tstr (c :: t)).toList.isEmpty = false := by rw [ttl]; rfl
          have hp1 : (0 : Int) < ((tstr (c :: t)).size : Int) := by rw [tsize, List.length_cons]; omega
          have hp2 : 0 < (tstr (c :: t)).size := by rw [tsize, List.length_cons]; omega
          have hc0 : (tstr (c :: t))[0] = c := rfl
          by_cases h46 : c.toNat = 46
          · obtain rfl : c = 46 := UInt8.toNat_inj.1 h46
            clear h46 NOFR
            have HFR := Lib.hid (frac_yes (r := 46 :: t) rfl)
            obtain ⟨p, hp⟩ : ∃ p, (t.takeWhile St.dg).length = p := ⟨_, rfl⟩
            have HPP := Lib.hid hp
            have htl : t.length ≤ 9999 := by rw [List.length_cons] at hrl; omega
            have hrs : (tstr (46 :: t)).size = t.length + 1 := by rw [tsize]; rfl
            have hpt : p ≤ t.length := by rw [← hp]; exact tk_len
            clear hp
            go_upto_block 2 with fail
            go_cut [6, 7, 8] from 75 (fun u6 u7 u8 wx => u7 = .int .i64 ((1 + p : Nat) : Int) ∧ u6 = .int .i64 ((1000 * x + us 100 (t.takeWhile St.dg) : Nat) : Int) ∧ wx = wc)
            case first =>
              go_wp2_with fail
              go_loopg [6, 7, 8] (t.length + 1) (fun gg u6 u7 u8 wr => ∃ j : Nat, u7 = .int .i64 ((1 + j : Nat) : Int) ∧ u6 = .int .i64 ((1000 * x + us 100 (t.take j) : Nat) : Int) ∧ u8 = .int .i64 ((100 / 10 ^ j : Nat) : Int) ∧ j ≤ p ∧ t.length + 1 - j ≤ gg ∧ wr = wc)
              case atStart => exact ⟨0, rfl, by first | rfl | (show Value.int .i64 _ = _; congr 1; simp [us]; omega), rfl, Nat.zero_le _, by omega, rfl⟩
              case round =>
                obtain ⟨j, rfl, rfl, rfl, hjp, hgg, rfl⟩ := hrel
                have hdj : ∀ c ∈ t.take j, St.dg c = true := fun c hc => by
                  have : t.take j = (t.takeWhile St.dg).take j := by rw [← (take_tw St.dg t).1, List.take_take]; congr 1; have := HPP.out; omega
                  rw [this] at hc
                  exact tw_dg t c (List.mem_of_mem_take hc)
                have hus := us_le (t.take j) 100 hdj
                obtain ⟨y, hy⟩ : ∃ y, us 100 (t.take j) = y := ⟨_, rfl⟩
                obtain ⟨v, hv⟩ : ∃ v, 100 / 10 ^ j = v := ⟨_, rfl⟩
                have hv1 : v ≤ 100 := by rw [← hv]; exact Nat.div_le_self _ _
                have HY := Lib.hid hy
                have HV := Lib.hid hv
                rw [hy] at hus ⊢
                rw [hv]
                have hy1 : y ≤ 1000 := by omega
                clear hdj hus hy hv
                obtain ⟨z, hz⟩ : ∃ z, 1000 * x + y = z := ⟨_, rfl⟩
                have HZZ := Lib.hid hz
                rw [hz]
                have hz1 : z ≤ 10000001000 := by omega
                have hz2 : (z : Int) ≤ 10000001000 := by omega
                have hv2 : (v : Int) ≤ 100 := by omega
                clear hz
                obtain ⟨i, hi⟩ : ∃ i, 1 + j = i := ⟨_, rfl⟩
                have HI := Lib.hid hi
                rw [hi]
                by_cases hlt : j < t.length
                · have hit : i < (tstr (46 :: t)).size := by omega
                  have hit' : (i : Int) < ((tstr (46 :: t)).size : Int) := by omega
                  have hd0 := tget (46 :: t) i hit
                  have hd : t.drop j = (tstr (46 :: t))[i] :: t.drop (j + 1) := by
                    have e1 : (46 :: t).drop i = t.drop j := by rw [← hi, Nat.add_comm]; rfl
                    have e2 : (46 :: t).drop (i + 1) = t.drop (j + 1) := by rw [← hi, show 1 + j + 1 = (j + 1) + 1 by omega]; rfl
                    rw [e1, e2] at hd0
                    exact hd0
                  clear hd0
                  have hc256 := (tstr (46 :: t))[i].toNat_lt
                  have hget : t[j].toNat = (tstr (46 :: t))[i].toNat := by
                    have := List.drop_eq_getElem_cons hlt
                    rw [hd] at this
                    injection this with h1 _
                    rw [h1]
                  cases hdg : St.dg (tstr (46 :: t))[i] with
                  | true =>
                    have hmore := run1_more (p := St.dg) (l := t) (k := j) (by have := HPP.out; omega) hd hdg
                    have hb := hdg
                    unfold St.dg at hb
                    simp at hb
                    have hb1 : 48 ≤ (tstr (46 :: t))[i].toNat := hb.1
                    have hb2 : (tstr (46 :: t))[i].toNat ≤ 57 := hb.2
                    have hb3 : (48 : Int) ≤ ((tstr (46 :: t))[i].toNat : Int) := by omega
                    have hb4 : ((tstr (46 :: t))[i].toNat : Int) ≤ 57 := by omega
                    have hq1 : j + 1 ≤ p := by have := HPP.out; omega
                    have HN := Lib.hid (us_take t 100 j hlt)
                    have HGT := Lib.hid hget
                    obtain ⟨e9, he9⟩ : ∃ e9 : Nat, (tstr (46 :: t))[i].toNat = e9 + 48 := ⟨(tstr (46 :: t))[i].toNat - 48, by omega⟩
                    have he10 : e9 ≤ 9 := by omega
                    have hve : (v : Int) * (e9 : Int) ≤ 900 := by
                      have : v * e9 ≤ 100 * 9 := Nat.mul_le_mul hv1 he10
                      exact_mod_cast this
                    have hve0 : (0 : Int) ≤ (v : Int) * (e9 : Int) := by exact_mod_cast Nat.zero_le (v * e9)
                    have hei : ((tstr (46 :: t))[i].toNat : Int) - 48 = (e9 : Int) := by omega
                    have HVD := Lib.hid (show v / 10 = 100 / 10 ^ (j + 1) by rw [← HV.out]; exact pow10_div j)
                    have hvt : (v : Int).tdiv 10 = ((v / 10 : Nat) : Int) := by rw [Int.tdiv_eq_ediv_of_nonneg (by omega)]; omega
                    have HE9 := Lib.hid he9
                    clear hd hdg hb hmore hget he9
                    go_wp2_with fail
                    go_roundg (t.length + 1 - (j + 1))
                    case rel => exact ⟨j + 1, by rw [← HI.out]; go_num, by
                      rw [HN.out, HGT.out, HE9.out, HY.out, HV.out, Nat.add_sub_cancel, ← HZZ.out]
                      show Value.int .i64 _ = Value.int .i64 _
                      congr 1
                      push_cast
                      omega, by rw [← HVD.out]; push_cast; rfl, hq1, by omega, rfl⟩
                    case measure => omega
                  | false =>
                    have hend := run1_here (p := St.dg) (l := t) (k := j) (by have := HPP.out; omega) (fun c r e => by rw [hd] at e; obtain ⟨rfl, _⟩ := List.cons.inj e; exact hdg)
                    have HKQ := Lib.hid (show j = p by have := HPP.out; omega)
                    have HTK := Lib.hid (show t.take j = t.takeWhile St.dg by rw [← hend]; exact (take_tw St.dg t).1)
                    have hb : (tstr (46 :: t))[i].toNat < 48 ∨ 57 < (tstr (46 :: t))[i].toNat := by
                      unfold St.dg at hdg
                      simp at hdg
                      omega
                    clear hd hdg hend hget
                    rcases hb with hb | hb
                    · have hb1 : ¬ 48 ≤ (tstr (46 :: t))[i].toNat := by omega
                      have hb3 : ¬ (48 : Int) ≤ ((tstr (46 :: t))[i].toNat : Int) := by omega
                      have hb5 : decide ((48 : Int) ≤ ((tstr (46 :: t))[i].toNat : Int)) = false := decide_eq_false hb3
                      go_wp2_with fail
                      go_meet
                      exact ⟨by rw [← HI.out, HKQ.out], by rw [← HZZ.out, ← HY.out, HTK.out], rfl⟩
                    · have hb1 : 48 ≤ (tstr (46 :: t))[i].toNat := by omega
                      have hb3 : (48 : Int) ≤ ((tstr (46 :: t))[i].toNat : Int) := by omega
                      have hb4 : ¬ ((tstr (46 :: t))[i].toNat : Int) ≤ 57 := by omega
                      have hb5 : decide (((tstr (46 :: t))[i].toNat : Int) ≤ 57) = false := decide_eq_false hb4
                      go_wp2_with fail
                      go_meet
                      exact ⟨by rw [← HI.out, HKQ.out], by rw [← HZZ.out, ← HY.out, HTK.out], rfl⟩
                · have hit' : ¬ (i : Int) < ((tstr (46 :: t)).size : Int) := by omega
                  have hend := run1_here (p := St.dg) (l := t) (k := j) (by have := HPP.out; omega) (fun c r e => by rw [List.drop_of_length_le (by omega)] at e; cases e)
                  have HKQ := Lib.hid (show j = p by have := HPP.out; omega)
                  have HTK := Lib.hid (show t.take j = t.takeWhile St.dg by rw [← hend]; exact (take_tw St.dg t).1)
                  clear hend
                  go_wp2_with fail
                  go_meet
                  exact ⟨by rw [← HI.out, HKQ.out], by rw [← HZZ.out, ← HY.out, HTK.out], rfl⟩
            case rest =>
              obtain ⟨rfl, rfl, rfl⟩ := hcut
              have HT3 := HT2.out _ _ _ HFR.out
              have htw := (take_tw St.dg t)
              rw [HPP.out] at htw
              have hus := us_le (t.takeWhile St.dg) 100 (tw_dg t)
              have HUF := Lib.hid (us_frac (t.takeWhile St.dg))
              have hxd : (tstr (46 :: t)).extract (1 + p) (tstr (46 :: t)).size = tstr (t.dropWhile St.dg) := by
                rw [textr_end, Nat.add_comm 1 p, List.drop_succ_cons, htw.2]
              by_cases hp0 : p = 0
              · have hD : t.takeWhile St.dg = [] := List.length_eq_zero_iff.1 (by rw [HPP.out]; exact hp0)
                have HE := Lib.hid (show (St.thou l).2.1 = false by
                  rw [HT3, if_neg (by show ¬ (!(t.takeWhile St.dg).isEmpty) = true; rw [hD]; decide)])
                clear HT3 HT2 htw HFR hus hxd hD
                subst hp0
                go_wp2_with fail
                go_ret3
                rw [HE.out]
                exact ⟨0, 46 :: t, rfl, fun h => (by cases h), rfl⟩
              · have hDe : (t.takeWhile St.dg).isEmpty = false := by
                  cases e : t.takeWhile St.dg with
                  | nil => exfalso; have := HPP.out; rw [e] at this; exact hp0 this.symm
                  | cons a b => rfl
                have HE := Lib.hid (show St.thou l = (-((1000 * x + us 100 (t.takeWhile St.dg) : Nat) : Int), decide (1000 * x + us 100 (t.takeWhile St.dg) ≤ 1048576000), t.dropWhile St.dg) by
                  rw [HT3, if_pos (by show (!(t.takeWhile St.dg).isEmpty) = true; rw [hDe]; rfl), show St.cutP [46] (46 :: t) = t from rfl, dec_appF _ _ (by rw [List.length_take, List.length_append]; simp), HX.out, ← HUF.out])
                obtain ⟨y, hy⟩ : ∃ y, us 100 (t.takeWhile St.dg) = y := ⟨_, rfl⟩
                rw [hy] at HE hus ⊢
                have hpb : (((1 + p : Nat) : Int) == 1) = false := beq_eq_false_iff_ne.2 (by omega)
                have hpi : ¬ ((1 + p : Nat) : Int) = 1 := by omega
                have hpn : ¬ 1 + p = 1 := by omega
                have hps : ((1 + p : Nat) : Int) ≤ ((tstr (46 :: t)).size : Int) := by omega
                have hpn2 : 1 + p ≤ (tstr (46 :: t)).size := by omega
                clear HT3 HT2 htw HFR hDe hy
                obtain ⟨z, hz⟩ : ∃ z, 1000 * x + y = z := ⟨_, rfl⟩
                rw [hz] at HE ⊢
                have hz1 : z ≤ 10000001000 := by omega
                have hz2 : (z : Int) ≤ 10000001000 := by omega
                clear hz
                obtain ⟨i, hi⟩ : ∃ i, 1 + p = i := ⟨_, rfl⟩
                rw [hi] at hxd hpb hpi hpn hps hpn2 ⊢
                have hxd2 : (tstr (46 :: t)).extract i (t.length + 1) = tstr (t.dropWhile St.dg) := by rw [← hrs]; exact hxd
                clear hi
                go_wp2_with fail
                go_ret3
                rw [HE.out]
                exact fin3 (by first | rfl | (push_cast; omega)) (by rw [Bool.eq_iff_iff]; simp only [decide_eq_true_eq]; omega)
          · have h46i : ¬ (c.toNat : Int) = 46 := by omega
            have hsk : St.skip [46] (c :: t) = false := by unfold St.skip; exact St.pre1 (fun e => h46 (by rw [e]; rfl))
            have HE := Lib.hid (NOFR hsk)
            clear NOFR HT2
            go_wp2_with fail
            go_ret3
            rw [HE.out]
            exact fin3 (by push_cast; omega) (by rw [Bool.eq_iff_iff]; simp; omega)
  · have HLM := Lib.hid hlm
    rw [show tstr l = tstr (43 :: m) by rw [hlm]]
    have hz0 : (tstr (43 :: m)).toList.isEmpty = false := by rw [ttl]; rfl
    have hp1 : (0 : Int) < ((tstr (43 :: m)).size : Int) := by rw [tsize, List.length_cons]; omega
    have hp2 : 0 < (tstr (43 :: m)).size := by rw [tsize, List.length_cons]; omega
    have hp3 : (1 : Int) ≤ ((tstr (43 :: m)).size : Int) := by omega
    have hc0 : (tstr (43 :: m))[0] = 43 := rfl
    have hxt : (tstr (43 :: m)).extract 1 (tstr (43 :: m)).size = tstr m := textr_end (43 :: m) 1
    clear hlm
    go_enter Tryd.func32, Tryd.ntmps32
    obtain ⟨q, hq⟩ : ∃ q, (m.takeWhile St.dg).length = q := ⟨_, rfl⟩
    have HQ := Lib.hid hq
    have hml' : (tstr m).size ≤ 10000 := by rw [tsize]; exact hml
    clear hq
    go_upto_block 0 with fail
    go_cut [6, 7] from 26 (fun u6 u7 wx => ∃ k : Nat, u7 = .int .i64 (k : Int) ∧ u6 = .int .i64 (St.dec (m.take k) : Nat) ∧ k ≤ 8 ∧ k ≤ m.length ∧ (k = q ∨ (k = 8 ∧ 8 ≤ q)) ∧ wx = w)
    case first =>
      go_wp2_with fail
      go_loopg [6, 7] 9 (fun gg u6 u7 wr => ∃ k : Nat, u7 = .int .i64 (k : Int) ∧ u6 = .int .i64 (St.dec (m.take k) : Nat) ∧ k ≤ 8 ∧ k ≤ q ∧ 9 - k ≤ gg ∧ wr = w)
      case atStart => exact ⟨0, rfl, rfl, by omega, Nat.zero_le _, by omega, rfl⟩
      case round =>
        obtain ⟨k, rfl, rfl, hk8, hkq, hgg, rfl⟩ := hrel
        have hkm : k ≤ m.length := by have := HQ.out; have := tk_len (p := St.dg) (l := m); omega
        by_cases hlt : k < m.length
        · have hlt1 : k < (tstr m).size := by rw [tsize]; exact hlt
          have hlt' : (k : Int) < ((tstr m).size : Int) := by omega
          have hd := tget m k hlt1
          have hc256 := (tstr m)[k].toNat_lt
          cases hdg : St.dg (tstr m)[k] with
          | true =>
            have hmore := run1_more (p := St.dg) (l := m) (k := k) (by have := HQ.out; omega) hd hdg
            have hb := hdg
            unfold St.dg at hb
            simp at hb
            have hb1 : 48 ≤ (tstr m)[k].toNat := hb.1
            have hb2 : (tstr m)[k].toNat ≤ 57 := hb.2
            have hb3 : (48 : Int) ≤ ((tstr m)[k].toNat : Int) := by omega
            have hb4 : ((tstr m)[k].toNat : Int) ≤ 57 := by omega
            have hq1 : k + 1 ≤ q := by have := HQ.out; omega
            by_cases h8 : k < 8
            · have h8' : (k : Int) < 8 := by omega
              have HN := Lib.hid (show St.dec (m.take (k + 1)) = 10 * St.dec (m.take k) + ((tstr m)[k].toNat - 48) from dec_take hlt)
              have hdk : ∀ c ∈ m.take k, St.dg c = true := fun c hc => by
                have : m.take k = (m.takeWhile St.dg).take k := by rw [← take_tw St.dg m |>.1, List.take_take]; congr 1; have := HQ.out; omega
                rw [this] at hc
                exact tw_dg m c (List.mem_of_mem_take hc)
              have hbd : St.dec (m.take k) + 1 ≤ 10 ^ 8 := Nat.le_trans (dec_lt _ hdk) (Nat.pow_le_pow_right (by decide) (by rw [List.length_take]; omega))
              obtain ⟨x, hx⟩ : ∃ x, St.dec (m.take k) = x := ⟨_, rfl⟩
              rw [hx] at hbd ⊢
              have hx1 : x ≤ 100000000 := by omega
              have hx2 : (x : Int) ≤ 100000000 := by omega
              have HG := Lib.hid (show m[k].toNat = (tstr m)[k].toNat from rfl)
              clear hbd hdk hd hdg hb hmore
              go_wp2_with fail
              go_roundg (9 - (k + 1))
              case rel => exact ⟨k + 1, by go_num, by rw [HN.out, hx]; go_num, by omega, hq1, by omega, rfl⟩
              case measure => omega
            · have h8' : ¬ (k : Int) < 8 := by omega
              clear hd hdg hb hmore
              go_wp2_with fail
              go_meet
              exact ⟨k, rfl, rfl, hk8, hkm, .inr ⟨by omega, by omega⟩, rfl⟩
          | false =>
            have hend := run1_here (p := St.dg) (l := m) (k := k) (by have := HQ.out; omega) (fun c r e => by rw [hd] at e; obtain ⟨rfl, _⟩ := List.cons.inj e; exact hdg)
            have HKQ := Lib.hid (show k = q by have := HQ.out; omega)
            have hb : (tstr m)[k].toNat < 48 ∨ 57 < (tstr m)[k].toNat := by
              unfold St.dg at hdg
              simp at hdg
              omega
            clear hd hdg hend
            rcases hb with hb | hb
            · have hb1 : ¬ 48 ≤ (tstr m)[k].toNat := by omega
              have hb3 : ¬ (48 : Int) ≤ ((tstr m)[k].toNat : Int) := by omega
              have hb5 : decide ((48 : Int) ≤ ((tstr m)[k].toNat : Int)) = false := decide_eq_false hb3
              have hb6 : decide (48 ≤ (tstr m)[k].toNat) = false := decide_eq_false hb1
              go_wp2_with fail
              go_meet
              exact ⟨k, rfl, rfl, hk8, hkm, .inl HKQ.out, rfl⟩
            · have hb1 : 48 ≤ (tstr m)[k].toNat := by omega
              have hb2 : ¬ (tstr m)[k].toNat ≤ 57 := by omega
              have hb3 : (48 : Int) ≤ ((tstr m)[k].toNat : Int) := by omega
              have hb4 : ¬ ((tstr m)[k].toNat : Int) ≤ 57 := by omega
              have hb5 : decide (((tstr m)[k].toNat : Int) ≤ 57) = false := decide_eq_false hb4
              have hb6 : decide ((tstr m)[k].toNat ≤ 57) = false := decide_eq_false hb2
              go_wp2_with fail
              go_meet
              exact ⟨k, rfl, rfl, hk8, hkm, .inl HKQ.out, rfl⟩
        · have hlt' : ¬ (k : Int) < ((tstr m).size : Int) := by rw [tsize]; omega
          have hend := run1_here (p := St.dg) (l := m) (k := k) (by have := HQ.out; omega) (fun c r e => by rw [List.drop_of_length_le (by omega)] at e; cases e)
          have HKQ := Lib.hid (show k = q by have := HQ.out; omega)
          clear hend
          go_wp2_with fail
          go_meet
          exact ⟨k, rfl, rfl, hk8, hkm, .inl HKQ.out, rfl⟩
    case rest =>
      obtain ⟨k, rfl, rfl, hk8, hkm, hkq, rfl⟩ := hcut
      have HTH := fun (F rr : List UInt8) (kk : Bool) (h4 : St.frac (m.dropWhile St.dg) = (F, kk, rr)) => thou_of HS.out rfl rfl h4
      by_cases hbad : k = 0 ∨ 7 < k
      · have HE := Lib.hid (show (St.thou l).2.1 = false by
          obtain ⟨F, kk, rr, hF⟩ : ∃ F kk rr, St.frac (m.dropWhile St.dg) = (F, kk, rr) := ⟨_, _, _, rfl⟩
          have h := HTH F rr kk hF
          rw [h, if_neg]
          rcases hbad with h0 | h7
          · have hq0 : q = 0 := by omega
            have : m.takeWhile St.dg = [] := List.length_eq_zero_iff.1 (by rw [HQ.out]; exact hq0)
            rw [this]; simp
          · have : ¬ (m.takeWhile St.dg).length ≤ 7 := by rw [HQ.out]; omega
            simp [this])
        clear HTH
        rcases hbad with rfl | h7
        · go_wp2_with fail
          go_ret3
          rw [HE.out]
          exact ⟨0, m, rfl, fun h => (by cases h), rfl⟩
        · have h71 : (7 : Int) < (k : Int) := by omega
          have h70 : ¬ k = 0 := by omega
          have h72 : ((k : Int) == 0) = false := beq_eq_false_iff_ne.2 (by omega)
          go_wp2_with fail
          go_ret3
          rw [HE.out]
          exact ⟨0, m, rfl, fun h => (by cases h), rfl⟩
      · have hk0 : ¬ k = 0 := by omega
        have hkb : ((k : Int) == 0) = false := beq_eq_false_iff_ne.2 (by omega)
        have hk7 : ¬ (7 : Int) < (k : Int) := by omega
        have hk7b : (k : Int) ≤ 7 := by omega
        obtain rfl : k = q := by omega
        have hW : m.takeWhile St.dg = m.take k := by rw [← HQ.out]; exact (take_tw St.dg m).1.symm
        have hr : m.dropWhile St.dg = m.drop k := by rw [← HQ.out]; exact (take_tw St.dg m).2.symm
        have hNd : St.dec (m.take k) + 1 ≤ 10 ^ 7 := by
          have h1 := dec_lt (m.take k) (by rw [← hW]; exact tw_dg m)
          exact Nat.le_trans h1 (Nat.pow_le_pow_right (by decide) (by rw [List.length_take]; omega))
        have hex : (tstr m).extract k (tstr m).size = tstr (m.drop k) := textr_end m k
        have hkm1 : (k : Int) ≤ ((tstr m).size : Int) := by rw [tsize]; omega
        have hkm2 : k ≤ (tstr m).size := by rw [tsize]; exact hkm
        rw [hW, hr] at HTH
        have hlenk : (m.take k).length = k := by rw [List.length_take]; omega
        have hWe : (m.take k).isEmpty = false := by cases e : m.take k with | nil => (rw [e] at hlenk; simp at hlenk; omega) | cons a b => rfl
        have HT2 := Lib.hid (show ∀ (F rr : List UInt8) (kk : Bool), St.frac (m.drop k) = (F, kk, rr) → St.thou l = if kk = true then ((St.dec (m.take k ++ F) : Int), decide (St.dec (m.take k ++ F) ≤ 1048576000), rr) else (0, false, rr) from fun F rr kk h => by
          have := HTH F rr kk h
          rw [this, hWe, hlenk, decide_eq_true (show k ≤ 7 by omega)]
          cases kk <;> simp)
        clear HTH hW hr hWe
        obtain ⟨x, hx⟩ : ∃ x, St.dec (m.take k) = x := ⟨_, rfl⟩
        have HX := Lib.hid hx
        rw [hx] at hNd ⊢
        obtain ⟨r, hr⟩ : ∃ r, m.drop k = r := ⟨_, rfl⟩
        rw [hr] at hex HT2
        have hrl : r.length ≤ 10000 := by rw [← hr, List.length_drop]; omega
        have hx1 : x ≤ 10000000 := by omega
        have hx2 : (x : Int) ≤ 10000000 := by omega
        clear hNd hx hr hlenk
        have NOFR : ∀ (hn : St.skip [46] r = false), St.thou l = (((1000 * x : Nat) : Int), decide (1000 * x ≤ 1048576000), r) := fun hn => by
          have := HT2.out _ _ _ (frac_not hn)
          rw [if_pos rfl, dec_appF _ _ rfl, HX.out, show St.dec [48, 48, 48] = 0 by decide, Nat.add_zero] at this
          exact this
        cases r with
        | nil =>
          have hz : (tstr []).toList.isEmpty = true := by rw [ttl]; rfl
          have HE := Lib.hid (NOFR rfl)
          clear NOFR HT2
          go_wp2_with fail
          go_ret3
          rw [HE.out]
          exact fin3 (by push_cast; omega) (by rw [Bool.eq_iff_iff]; simp; omega)
        | cons c t =>
          have hz : (tstr (c :: t)).toList.isEmpty = false := by rw [ttl]; rfl
          have hp1 : (0 : Int) < ((tstr (c :: t)).size : Int) := by rw [tsize, List.length_cons]; omega
          have hp2 : 0 < (tstr (c :: t)).size := by rw [tsize, List.length_cons]; omega
          have hc0 : (tstr (c :: t))[0] = c := rfl
          by_cases h46 : c.toNat = 46
          · obtain rfl : c = 46 := UInt8.toNat_inj.1 h46
            clear h46 NOFR
            have HFR := Lib.hid (frac_yes (r := 46 :: t) rfl)
            obtain ⟨p, hp⟩ : ∃ p, (t.takeWhile St.dg).length = p := ⟨_, rfl⟩
            have HPP := Lib.hid hp
            have htl : t.length ≤ 9999 := by rw [List.length_cons] at hrl; omega
            have hrs : (tstr (46 :: t)).size = t.length + 1 := by rw [tsize]; rfl
            have hpt : p ≤ t.length := by rw [← hp]; exact tk_len
            clear hp
            go_upto_block 2 with fail
            go_cut [6, 7, 8] from 75 (fun u6 u7 u8 wx => u7 = .int .i64 ((1 + p : Nat) : Int) ∧ u6 = .int .i64 ((1000 * x + us 100 (t.takeWhile St.dg) : Nat) : Int) ∧ wx = wc)
            case first =>
              go_wp2_with fail
              go_loopg [6, 7, 8] (t.length + 1) (fun gg u6 u7 u8 wr => ∃ j : Nat, u7 = .int .i64 ((1 + j : Nat) : Int) ∧ u6 = .int .i64 ((1000 * x + us 100 (t.take j) : Nat) : Int) ∧ u8 = .int .i64 ((100 / 10 ^ j : Nat) : Int) ∧ j ≤ p ∧ t.length + 1 - j ≤ gg ∧ wr = wc)
              case atStart => exact ⟨0, rfl, by first | rfl | (show Value.int .i64 _ = _; congr 1; simp [us]; omega), rfl, Nat.zero_le _, by omega, rfl⟩
              case round =>
                obtain ⟨j, rfl, rfl, rfl, hjp, hgg, rfl⟩ := hrel
                have hdj : ∀ c ∈ t.take j, St.dg c = true := fun c hc => by
                  have : t.take j = (t.takeWhile St.dg).take j := by rw [← (take_tw St.dg t).1, List.take_take]; congr 1; have := HPP.out; omega
                  rw [this] at hc
                  exact tw_dg t c (List.mem_of_mem_take hc)
                have hus := us_le (t.take j) 100 hdj
                obtain ⟨y, hy⟩ : ∃ y, us 100 (t.take j) = y := ⟨_, rfl⟩
                obtain ⟨v, hv⟩ : ∃ v, 100 / 10 ^ j = v := ⟨_, rfl⟩
                have hv1 : v ≤ 100 := by rw [← hv]; exact Nat.div_le_self _ _
                have HY := Lib.hid hy
                have HV := Lib.hid hv
                rw [hy] at hus ⊢
                rw [hv]
                have hy1 : y ≤ 1000 := by omega
                clear hdj hus hy hv
                obtain ⟨z, hz⟩ : ∃ z, 1000 * x + y = z := ⟨_, rfl⟩
                have HZZ := Lib.hid hz
                rw [hz]
                have hz1 : z ≤ 10000001000 := by omega
                have hz2 : (z : Int) ≤ 10000001000 := by omega
                have hv2 : (v : Int) ≤ 100 := by omega
                clear hz
                obtain ⟨i, hi⟩ : ∃ i, 1 + j = i := ⟨_, rfl⟩
                have HI := Lib.hid hi
                rw [hi]
                by_cases hlt : j < t.length
                · have hit : i < (tstr (46 :: t)).size := by omega
                  have hit' : (i : Int) < ((tstr (46 :: t)).size : Int) := by omega
                  have hd0 := tget (46 :: t) i hit
                  have hd : t.drop j = (tstr (46 :: t))[i] :: t.drop (j + 1) := by
                    have e1 : (46 :: t).drop i = t.drop j := by rw [← hi, Nat.add_comm]; rfl
                    have e2 : (46 :: t).drop (i + 1) = t.drop (j + 1) := by rw [← hi, show 1 + j + 1 = (j + 1) + 1 by omega]; rfl
                    rw [e1, e2] at hd0
                    exact hd0
                  clear hd0
                  have hc256 := (tstr (46 :: t))[i].toNat_lt
                  have hget : t[j].toNat = (tstr (46 :: t))[i].toNat := by
                    have := List.drop_eq_getElem_cons hlt
                    rw [hd] at this
                    injection this with h1 _
                    rw [h1]
                  cases hdg : St.dg (tstr (46 :: t))[i] with
                  | true =>
                    have hmore := run1_more (p := St.dg) (l := t) (k := j) (by have := HPP.out; omega) hd hdg
                    have hb := hdg
                    unfold St.dg at hb
                    simp at hb
                    have hb1 : 48 ≤ (tstr (46 :: t))[i].toNat := hb.1
                    have hb2 : (tstr (46 :: t))[i].toNat ≤ 57 := hb.2
                    have hb3 : (48 : Int) ≤ ((tstr (46 :: t))[i].toNat : Int) := by omega
                    have hb4 : ((tstr (46 :: t))[i].toNat : Int) ≤ 57 := by omega
                    have hq1 : j + 1 ≤ p := by have := HPP.out; omega
                    have HN := Lib.hid (us_take t 100 j hlt)
                    have HGT := Lib.hid hget
                    obtain ⟨e9, he9⟩ : ∃ e9 : Nat, (tstr (46 :: t))[i].toNat = e9 + 48 := ⟨(tstr (46 :: t))[i].toNat - 48, by omega⟩
                    have he10 : e9 ≤ 9 := by omega
                    have hve : (v : Int) * (e9 : Int) ≤ 900 := by
                      have : v * e9 ≤ 100 * 9 := Nat.mul_le_mul hv1 he10
                      exact_mod_cast this
                    have hve0 : (0 : Int) ≤ (v : Int) * (e9 : Int) := by exact_mod_cast Nat.zero_le (v * e9)
                    have hei : ((tstr (46 :: t))[i].toNat : Int) - 48 = (e9 : Int) := by omega
                    have HVD := Lib.hid (show v / 10 = 100 / 10 ^ (j + 1) by rw [← HV.out]; exact pow10_div j)
                    have hvt : (v : Int).tdiv 10 = ((v / 10 : Nat) : Int) := by rw [Int.tdiv_eq_ediv_of_nonneg (by omega)]; omega
                    have HE9 := Lib.hid he9
                    clear hd hdg hb hmore hget he9
                    go_wp2_with fail
                    go_roundg (t.length + 1 - (j + 1))
                    case rel => exact ⟨j + 1, by rw [← HI.out]; go_num, by
                      rw [HN.out, HGT.out, HE9.out, HY.out, HV.out, Nat.add_sub_cancel, ← HZZ.out]
                      show Value.int .i64 _ = Value.int .i64 _
                      congr 1
                      push_cast
                      omega, by rw [← HVD.out]; push_cast; rfl, hq1, by omega, rfl⟩
                    case measure => omega
                  | false =>
                    have hend := run1_here (p := St.dg) (l := t) (k := j) (by have := HPP.out; omega) (fun c r e => by rw [hd] at e; obtain ⟨rfl, _⟩ := List.cons.inj e; exact hdg)
                    have HKQ := Lib.hid (show j = p by have := HPP.out; omega)
                    have HTK := Lib.hid (show t.take j = t.takeWhile St.dg by rw [← hend]; exact (take_tw St.dg t).1)
                    have hb : (tstr (46 :: t))[i].toNat < 48 ∨ 57 < (tstr (46 :: t))[i].toNat := by
                      unfold St.dg at hdg
                      simp at hdg
                      omega
                    clear hd hdg hend hget
                    rcases hb with hb | hb
                    · have hb1 : ¬ 48 ≤ (tstr (46 :: t))[i].toNat := by omega
                      have hb3 : ¬ (48 : Int) ≤ ((tstr (46 :: t))[i].toNat : Int) := by omega
                      have hb5 : decide ((48 : Int) ≤ ((tstr (46 :: t))[i].toNat : Int)) = false := decide_eq_false hb3
                      go_wp2_with fail
                      go_meet
                      exact ⟨by rw [← HI.out, HKQ.out], by rw [← HZZ.out, ← HY.out, HTK.out], rfl⟩
                    · have hb1 : 48 ≤ (tstr (46 :: t))[i].toNat := by omega
                      have hb3 : (48 : Int) ≤ ((tstr (46 :: t))[i].toNat : Int) := by omega
                      have hb4 : ¬ ((tstr (46 :: t))[i].toNat : Int) ≤ 57 := by omega
                      have hb5 : decide (((tstr (46 :: t))[i].toNat : Int) ≤ 57) = false := decide_eq_false hb4
                      go_wp2_with fail
                      go_meet
                      exact ⟨by rw [← HI.out, HKQ.out], by rw [← HZZ.out, ← HY.out, HTK.out], rfl⟩
                · have hit' : ¬ (i : Int) < ((tstr (46 :: t)).size : Int) := by omega
                  have hend := run1_here (p := St.dg) (l := t) (k := j) (by have := HPP.out; omega) (fun c r e => by rw [List.drop_of_length_le (by omega)] at e; cases e)
                  have HKQ := Lib.hid (show j = p by have := HPP.out; omega)
                  have HTK := Lib.hid (show t.take j = t.takeWhile St.dg by rw [← hend]; exact (take_tw St.dg t).1)
                  clear hend
                  go_wp2_with fail
                  go_meet
                  exact ⟨by rw [← HI.out, HKQ.out], by rw [← HZZ.out, ← HY.out, HTK.out], rfl⟩
            case rest =>
              obtain ⟨rfl, rfl, rfl⟩ := hcut
              have HT3 := HT2.out _ _ _ HFR.out
              have htw := (take_tw St.dg t)
              rw [HPP.out] at htw
              have hus := us_le (t.takeWhile St.dg) 100 (tw_dg t)
              have HUF := Lib.hid (us_frac (t.takeWhile St.dg))
              have hxd : (tstr (46 :: t)).extract (1 + p) (tstr (46 :: t)).size = tstr (t.dropWhile St.dg) := by
                rw [textr_end, Nat.add_comm 1 p, List.drop_succ_cons, htw.2]
              by_cases hp0 : p = 0
              · have hD : t.takeWhile St.dg = [] := List.length_eq_zero_iff.1 (by rw [HPP.out]; exact hp0)
                have HE := Lib.hid (show (St.thou l).2.1 = false by
                  rw [HT3, if_neg (by show ¬ (!(t.takeWhile St.dg).isEmpty) = true; rw [hD]; decide)])
                clear HT3 HT2 htw HFR hus hxd hD
                subst hp0
                go_wp2_with fail
                go_ret3
                rw [HE.out]
                exact ⟨0, 46 :: t, rfl, fun h => (by cases h), rfl⟩
              · have hDe : (t.takeWhile St.dg).isEmpty = false := by
                  cases e : t.takeWhile St.dg with
                  | nil => exfalso; have := HPP.out; rw [e] at this; exact hp0 this.symm
                  | cons a b => rfl
                have HE := Lib.hid (show St.thou l = (((1000 * x + us 100 (t.takeWhile St.dg) : Nat) : Int), decide (1000 * x + us 100 (t.takeWhile St.dg) ≤ 1048576000), t.dropWhile St.dg) by
                  rw [HT3, if_pos (by show (!(t.takeWhile St.dg).isEmpty) = true; rw [hDe]; rfl), show St.cutP [46] (46 :: t) = t from rfl, dec_appF _ _ (by rw [List.length_take, List.length_append]; simp), HX.out, ← HUF.out])
                obtain ⟨y, hy⟩ : ∃ y, us 100 (t.takeWhile St.dg) = y := ⟨_, rfl⟩
                rw [hy] at HE hus ⊢
                have hpb : (((1 + p : Nat) : Int) == 1) = false := beq_eq_false_iff_ne.2 (by omega)
                have hpi : ¬ ((1 + p : Nat) : Int) = 1 := by omega
                have hpn : ¬ 1 + p = 1 := by omega
                have hps : ((1 + p : Nat) : Int) ≤ ((tstr (46 :: t)).size : Int) := by omega
                have hpn2 : 1 + p ≤ (tstr (46 :: t)).size := by omega
                clear HT3 HT2 htw HFR hDe hy
                obtain ⟨z, hz⟩ : ∃ z, 1000 * x + y = z := ⟨_, rfl⟩
                rw [hz] at HE ⊢
                have hz1 : z ≤ 10000001000 := by omega
                have hz2 : (z : Int) ≤ 10000001000 := by omega
                clear hz
                obtain ⟨i, hi⟩ : ∃ i, 1 + p = i := ⟨_, rfl⟩
                rw [hi] at hxd hpb hpi hpn hps hpn2 ⊢
                have hxd2 : (tstr (46 :: t)).extract i (t.length + 1) = tstr (t.dropWhile St.dg) := by rw [← hrs]; exact hxd
                clear hi
                go_wp2_with fail
                go_ret3
                rw [HE.out]
                exact fin3 (by first | rfl | (push_cast; omega)) (by rw [Bool.eq_iff_iff]; simp only [decide_eq_true_eq]; omega)
          · have h46i : ¬ (c.toNat : Int) = 46 := by omega
            have hsk : St.skip [46] (c :: t) = false := by unfold St.skip; exact St.pre1 (fun e => h46 (by rw [e]; rfl))
            have HE := Lib.hid (NOFR hsk)
            clear NOFR HT2
            go_wp2_with fail
            go_ret3
            rw [HE.out]
            exact fin3 (by push_cast; omega) (by rw [Bool.eq_iff_iff]; simp; omega)
  · have HLM := Lib.hid hlm
    rw [show tstr l = tstr m by rw [hlm]]
    rw [hlm] at hne
    clear hlm
    rcases hmm : m with _ | ⟨c0, t0⟩
    · have hz0 : (tstr m).toList.isEmpty = true := by rw [ttl, hmm]; rfl
      rw [← hmm]
      clear hne hmm
      go_enter Tryd.func32, Tryd.ntmps32
      obtain ⟨q, hq⟩ : ∃ q, (m.takeWhile St.dg).length = q := ⟨_, rfl⟩
      have HQ := Lib.hid hq
      have hml' : (tstr m).size ≤ 10000 := by rw [tsize]; exact hml
      clear hq
      go_upto_block 0 with fail
      go_cut [6, 7] from 26 (fun u6 u7 wx => ∃ k : Nat, u7 = .int .i64 (k : Int) ∧ u6 = .int .i64 (St.dec (m.take k) : Nat) ∧ k ≤ 8 ∧ k ≤ m.length ∧ (k = q ∨ (k = 8 ∧ 8 ≤ q)) ∧ wx = w)
      case first =>
        go_wp2_with fail
        go_loopg [6, 7] 9 (fun gg u6 u7 wr => ∃ k : Nat, u7 = .int .i64 (k : Int) ∧ u6 = .int .i64 (St.dec (m.take k) : Nat) ∧ k ≤ 8 ∧ k ≤ q ∧ 9 - k ≤ gg ∧ wr = w)
        case atStart => exact ⟨0, rfl, rfl, by omega, Nat.zero_le _, by omega, rfl⟩
        case round =>
          obtain ⟨k, rfl, rfl, hk8, hkq, hgg, rfl⟩ := hrel
          have hkm : k ≤ m.length := by have := HQ.out; have := tk_len (p := St.dg) (l := m); omega
          by_cases hlt : k < m.length
          · have hlt1 : k < (tstr m).size := by rw [tsize]; exact hlt
            have hlt' : (k : Int) < ((tstr m).size : Int) := by omega
            have hd := tget m k hlt1
            have hc256 := (tstr m)[k].toNat_lt
            cases hdg : St.dg (tstr m)[k] with
            | true =>
              have hmore := run1_more (p := St.dg) (l := m) (k := k) (by have := HQ.out; omega) hd hdg
              have hb := hdg
              unfold St.dg at hb
              simp at hb
              have hb1 : 48 ≤ (tstr m)[k].toNat := hb.1
              have hb2 : (tstr m)[k].toNat ≤ 57 := hb.2
              have hb3 : (48 : Int) ≤ ((tstr m)[k].toNat : Int) := by omega
              have hb4 : ((tstr m)[k].toNat : Int) ≤ 57 := by omega
              have hq1 : k + 1 ≤ q := by have := HQ.out; omega
              by_cases h8 : k < 8
              · have h8' : (k : Int) < 8 := by omega
                have HN := Lib.hid (show St.dec (m.take (k + 1)) = 10 * St.dec (m.take k) + ((tstr m)[k].toNat - 48) from dec_take hlt)
                have hdk : ∀ c ∈ m.take k, St.dg c = true := fun c hc => by
                  have : m.take k = (m.takeWhile St.dg).take k := by rw [← take_tw St.dg m |>.1, List.take_take]; congr 1; have := HQ.out; omega
                  rw [this] at hc
                  exact tw_dg m c (List.mem_of_mem_take hc)
                have hbd : St.dec (m.take k) + 1 ≤ 10 ^ 8 := Nat.le_trans (dec_lt _ hdk) (Nat.pow_le_pow_right (by decide) (by rw [List.length_take]; omega))
                obtain ⟨x, hx⟩ : ∃ x, St.dec (m.take k) = x := ⟨_, rfl⟩
                rw [hx] at hbd ⊢
                have hx1 : x ≤ 100000000 := by omega
                have hx2 : (x : Int) ≤ 100000000 := by omega
                have HG := Lib.hid (show m[k].toNat = (tstr m)[k].toNat from rfl)
                clear hbd hdk hd hdg hb hmore
                go_wp2_with fail
                go_roundg (9 - (k + 1))
                case rel => exact ⟨k + 1, by go_num, by rw [HN.out, hx]; go_num, by omega, hq1, by omega, rfl⟩
                case measure => omega
              · have h8' : ¬ (k : Int) < 8 := by omega
                clear hd hdg hb hmore
                go_wp2_with fail
                go_meet
                exact ⟨k, rfl, rfl, hk8, hkm, .inr ⟨by omega, by omega⟩, rfl⟩
            | false =>
              have hend := run1_here (p := St.dg) (l := m) (k := k) (by have := HQ.out; omega) (fun c r e => by rw [hd] at e; obtain ⟨rfl, _⟩ := List.cons.inj e; exact hdg)
              have HKQ := Lib.hid (show k = q by have := HQ.out; omega)
              have hb : (tstr m)[k].toNat < 48 ∨ 57 < (tstr m)[k].toNat := by
                unfold St.dg at hdg
                simp at hdg
                omega
              clear hd hdg hend
              rcases hb with hb | hb
              · have hb1 : ¬ 48 ≤ (tstr m)[k].toNat := by omega
                have hb3 : ¬ (48 : Int) ≤ ((tstr m)[k].toNat : Int) := by omega
                have hb5 : decide ((48 : Int) ≤ ((tstr m)[k].toNat : Int)) = false := decide_eq_false hb3
                have hb6 : decide (48 ≤ (tstr m)[k].toNat) = false := decide_eq_false hb1
                go_wp2_with fail
                go_meet
                exact ⟨k, rfl, rfl, hk8, hkm, .inl HKQ.out, rfl⟩
              · have hb1 : 48 ≤ (tstr m)[k].toNat := by omega
                have hb2 : ¬ (tstr m)[k].toNat ≤ 57 := by omega
                have hb3 : (48 : Int) ≤ ((tstr m)[k].toNat : Int) := by omega
                have hb4 : ¬ ((tstr m)[k].toNat : Int) ≤ 57 := by omega
                have hb5 : decide (((tstr m)[k].toNat : Int) ≤ 57) = false := decide_eq_false hb4
                have hb6 : decide ((tstr m)[k].toNat ≤ 57) = false := decide_eq_false hb2
                go_wp2_with fail
                go_meet
                exact ⟨k, rfl, rfl, hk8, hkm, .inl HKQ.out, rfl⟩
          · have hlt' : ¬ (k : Int) < ((tstr m).size : Int) := by rw [tsize]; omega
            have hend := run1_here (p := St.dg) (l := m) (k := k) (by have := HQ.out; omega) (fun c r e => by rw [List.drop_of_length_le (by omega)] at e; cases e)
            have HKQ := Lib.hid (show k = q by have := HQ.out; omega)
            clear hend
            go_wp2_with fail
            go_meet
            exact ⟨k, rfl, rfl, hk8, hkm, .inl HKQ.out, rfl⟩
      case rest =>
        obtain ⟨k, rfl, rfl, hk8, hkm, hkq, rfl⟩ := hcut
        have HTH := fun (F rr : List UInt8) (kk : Bool) (h4 : St.frac (m.dropWhile St.dg) = (F, kk, rr)) => thou_of HS.out rfl rfl h4
        by_cases hbad : k = 0 ∨ 7 < k
        · have HE := Lib.hid (show (St.thou l).2.1 = false by
            obtain ⟨F, kk, rr, hF⟩ : ∃ F kk rr, St.frac (m.dropWhile St.dg) = (F, kk, rr) := ⟨_, _, _, rfl⟩
            have h := HTH F rr kk hF
            rw [h, if_neg]
            rcases hbad with h0 | h7
            · have hq0 : q = 0 := by omega
              have : m.takeWhile St.dg = [] := List.length_eq_zero_iff.1 (by rw [HQ.out]; exact hq0)
              rw [this]; simp
            · have : ¬ (m.takeWhile St.dg).length ≤ 7 := by rw [HQ.out]; omega
              simp [this])
          clear HTH
          rcases hbad with rfl | h7
          · go_wp2_with fail
            go_ret3
            rw [HE.out]
            exact ⟨0, m, rfl, fun h => (by cases h), rfl⟩
          · have h71 : (7 : Int) < (k : Int) := by omega
            have h70 : ¬ k = 0 := by omega
            have h72 : ((k : Int) == 0) = false := beq_eq_false_iff_ne.2 (by omega)
            go_wp2_with fail
            go_ret3
            rw [HE.out]
            exact ⟨0, m, rfl, fun h => (by cases h), rfl⟩
        · have hk0 : ¬ k = 0 := by omega
          have hkb : ((k : Int) == 0) = false := beq_eq_false_iff_ne.2 (by omega)
          have hk7 : ¬ (7 : Int) < (k : Int) := by omega
          have hk7b : (k : Int) ≤ 7 := by omega
          obtain rfl : k = q := by omega
          have hW : m.takeWhile St.dg = m.take k := by rw [← HQ.out]; exact (take_tw St.dg m).1.symm
          have hr : m.dropWhile St.dg = m.drop k := by rw [← HQ.out]; exact (take_tw St.dg m).2.symm
          have hNd : St.dec (m.take k) + 1 ≤ 10 ^ 7 := by
            have h1 := dec_lt (m.take k) (by rw [← hW]; exact tw_dg m)
            exact Nat.le_trans h1 (Nat.pow_le_pow_right (by decide) (by rw [List.length_take]; omega))
          have hex : (tstr m).extract k (tstr m).size = tstr (m.drop k) := textr_end m k
          have hkm1 : (k : Int) ≤ ((tstr m).size : Int) := by rw [tsize]; omega
          have hkm2 : k ≤ (tstr m).size := by rw [tsize]; exact hkm
          rw [hW, hr] at HTH
          have hlenk : (m.take k).length = k := by rw [List.length_take]; omega
          have hWe : (m.take k).isEmpty = false := by cases e : m.take k with | nil => (rw [e] at hlenk; simp at hlenk; omega) | cons a b => rfl
          have HT2 := Lib.hid (show ∀ (F rr : List UInt8) (kk : Bool), St.frac (m.drop k) = (F, kk, rr) → St.thou l = if kk = true then ((St.dec (m.take k ++ F) : Int), decide (St.dec (m.take k ++ F) ≤ 1048576000), rr) else (0, false, rr) from fun F rr kk h => by
            have := HTH F rr kk h
            rw [this, hWe, hlenk, decide_eq_true (show k ≤ 7 by omega)]
            cases kk <;> simp)
          clear HTH hW hr hWe
          obtain ⟨x, hx⟩ : ∃ x, St.dec (m.take k) = x := ⟨_, rfl⟩
          have HX := Lib.hid hx
          rw [hx] at hNd ⊢
          obtain ⟨r, hr⟩ : ∃ r, m.drop k = r := ⟨_, rfl⟩
          rw [hr] at hex HT2
          have hrl : r.length ≤ 10000 := by rw [← hr, List.length_drop]; omega
          have hx1 : x ≤ 10000000 := by omega
          have hx2 : (x : Int) ≤ 10000000 := by omega
          clear hNd hx hr hlenk
          have NOFR : ∀ (hn : St.skip [46] r = false), St.thou l = (((1000 * x : Nat) : Int), decide (1000 * x ≤ 1048576000), r) := fun hn => by
            have := HT2.out _ _ _ (frac_not hn)
            rw [if_pos rfl, dec_appF _ _ rfl, HX.out, show St.dec [48, 48, 48] = 0 by decide, Nat.add_zero] at this
            exact this
          cases r with
          | nil =>
            have hz : (tstr []).toList.isEmpty = true := by rw [ttl]; rfl
            have HE := Lib.hid (NOFR rfl)
            clear NOFR HT2
            go_wp2_with fail
            go_ret3
            rw [HE.out]
            exact fin3 (by push_cast; omega) (by rw [Bool.eq_iff_iff]; simp; omega)
          | cons c t =>
            have hz : (tstr (c :: t)).toList.isEmpty = false := by rw [ttl]; rfl
            have hp1 : (0 : Int) < ((tstr (c :: t)).size : Int) := by rw [tsize, List.length_cons]; omega
            have hp2 : 0 < (tstr (c :: t)).size := by rw [tsize, List.length_cons]; omega
            have hc0 : (tstr (c :: t))[0] = c := rfl
            by_cases h46 : c.toNat = 46
            · obtain rfl : c = 46 := UInt8.toNat_inj.1 h46
              clear h46 NOFR
              have HFR := Lib.hid (frac_yes (r := 46 :: t) rfl)
              obtain ⟨p, hp⟩ : ∃ p, (t.takeWhile St.dg).length = p := ⟨_, rfl⟩
              have HPP := Lib.hid hp
              have htl : t.length ≤ 9999 := by rw [List.length_cons] at hrl; omega
              have hrs : (tstr (46 :: t)).size = t.length + 1 := by rw [tsize]; rfl
              have hpt : p ≤ t.length := by rw [← hp]; exact tk_len
              clear hp
              go_upto_block 2 with fail
              go_cut [6, 7, 8] from 75 (fun u6 u7 u8 wx => u7 = .int .i64 ((1 + p : Nat) : Int) ∧ u6 = .int .i64 ((1000 * x + us 100 (t.takeWhile St.dg) : Nat) : Int) ∧ wx = wc)
              case first =>
                go_wp2_with fail
                go_loopg [6, 7, 8] (t.length + 1) (fun gg u6 u7 u8 wr => ∃ j : Nat, u7 = .int .i64 ((1 + j : Nat) : Int) ∧ u6 = .int .i64 ((1000 * x + us 100 (t.take j) : Nat) : Int) ∧ u8 = .int .i64 ((100 / 10 ^ j : Nat) : Int) ∧ j ≤ p ∧ t.length + 1 - j ≤ gg ∧ wr = wc)
                case atStart => exact ⟨0, rfl, by first | rfl | (show Value.int .i64 _ = _; congr 1; simp [us]; omega), rfl, Nat.zero_le _, by omega, rfl⟩
                case round =>
                  obtain ⟨j, rfl, rfl, rfl, hjp, hgg, rfl⟩ := hrel
                  have hdj : ∀ c ∈ t.take j, St.dg c = true := fun c hc => by
                    have : t.take j = (t.takeWhile St.dg).take j := by rw [← (take_tw St.dg t).1, List.take_take]; congr 1; have := HPP.out; omega
                    rw [this] at hc
                    exact tw_dg t c (List.mem_of_mem_take hc)
                  have hus := us_le (t.take j) 100 hdj
                  obtain ⟨y, hy⟩ : ∃ y, us 100 (t.take j) = y := ⟨_, rfl⟩
                  obtain ⟨v, hv⟩ : ∃ v, 100 / 10 ^ j = v := ⟨_, rfl⟩
                  have hv1 : v ≤ 100 := by rw [← hv]; exact Nat.div_le_self _ _
                  have HY := Lib.hid hy
                  have HV := Lib.hid hv
                  rw [hy] at hus ⊢
                  rw [hv]
                  have hy1 : y ≤ 1000 := by omega
                  clear hdj hus hy hv
                  obtain ⟨z, hz⟩ : ∃ z, 1000 * x + y = z := ⟨_, rfl⟩
                  have HZZ := Lib.hid hz
                  rw [hz]
                  have hz1 : z ≤ 10000001000 := by omega
                  have hz2 : (z : Int) ≤ 10000001000 := by omega
                  have hv2 : (v : Int) ≤ 100 := by omega
                  clear hz
                  obtain ⟨i, hi⟩ : ∃ i, 1 + j = i := ⟨_, rfl⟩
                  have HI := Lib.hid hi
                  rw [hi]
                  by_cases hlt : j < t.length
                  · have hit : i < (tstr (46 :: t)).size := by omega
                    have hit' : (i : Int) < ((tstr (46 :: t)).size : Int) := by omega
                    have hd0 := tget (46 :: t) i hit
                    have hd : t.drop j = (tstr (46 :: t))[i] :: t.drop (j + 1) := by
                      have e1 : (46 :: t).drop i = t.drop j := by rw [← hi, Nat.add_comm]; rfl
                      have e2 : (46 :: t).drop (i + 1) = t.drop (j + 1) := by rw [← hi, show 1 + j + 1 = (j + 1) + 1 by omega]; rfl
                      rw [e1, e2] at hd0
                      exact hd0
                    clear hd0
                    have hc256 := (tstr (46 :: t))[i].toNat_lt
                    have hget : t[j].toNat = (tstr (46 :: t))[i].toNat := by
                      have := List.drop_eq_getElem_cons hlt
                      rw [hd] at this
                      injection this with h1 _
                      rw [h1]
                    cases hdg : St.dg (tstr (46 :: t))[i] with
                    | true =>
                      have hmore := run1_more (p := St.dg) (l := t) (k := j) (by have := HPP.out; omega) hd hdg
                      have hb := hdg
                      unfold St.dg at hb
                      simp at hb
                      have hb1 : 48 ≤ (tstr (46 :: t))[i].toNat := hb.1
                      have hb2 : (tstr (46 :: t))[i].toNat ≤ 57 := hb.2
                      have hb3 : (48 : Int) ≤ ((tstr (46 :: t))[i].toNat : Int) := by omega
                      have hb4 : ((tstr (46 :: t))[i].toNat : Int) ≤ 57 := by omega
                      have hq1 : j + 1 ≤ p := by have := HPP.out; omega
                      have HN := Lib.hid (us_take t 100 j hlt)
                      have HGT := Lib.hid hget
                      obtain ⟨e9, he9⟩ : ∃ e9 : Nat, (tstr (46 :: t))[i].toNat = e9 + 48 := ⟨(tstr (46 :: t))[i].toNat - 48, by omega⟩
                      have he10 : e9 ≤ 9 := by omega
                      have hve : (v : Int) * (e9 : Int) ≤ 900 := by
                        have : v * e9 ≤ 100 * 9 := Nat.mul_le_mul hv1 he10
                        exact_mod_cast this
                      have hve0 : (0 : Int) ≤ (v : Int) * (e9 : Int) := by exact_mod_cast Nat.zero_le (v * e9)
                      have hei : ((tstr (46 :: t))[i].toNat : Int) - 48 = (e9 : Int) := by omega
                      have HVD := Lib.hid (show v / 10 = 100 / 10 ^ (j + 1) by rw [← HV.out]; exact pow10_div j)
                      have hvt : (v : Int).tdiv 10 = ((v / 10 : Nat) : Int) := by rw [Int.tdiv_eq_ediv_of_nonneg (by omega)]; omega
                      have HE9 := Lib.hid he9
                      clear hd hdg hb hmore hget he9
                      go_wp2_with fail
                      go_roundg (t.length + 1 - (j + 1))
                      case rel => exact ⟨j + 1, by rw [← HI.out]; go_num, by
                        rw [HN.out, HGT.out, HE9.out, HY.out, HV.out, Nat.add_sub_cancel, ← HZZ.out]
                        show Value.int .i64 _ = Value.int .i64 _
                        congr 1
                        push_cast
                        omega, by rw [← HVD.out]; push_cast; rfl, hq1, by omega, rfl⟩
                      case measure => omega
                    | false =>
                      have hend := run1_here (p := St.dg) (l := t) (k := j) (by have := HPP.out; omega) (fun c r e => by rw [hd] at e; obtain ⟨rfl, _⟩ := List.cons.inj e; exact hdg)
                      have HKQ := Lib.hid (show j = p by have := HPP.out; omega)
                      have HTK := Lib.hid (show t.take j = t.takeWhile St.dg by rw [← hend]; exact (take_tw St.dg t).1)
                      have hb : (tstr (46 :: t))[i].toNat < 48 ∨ 57 < (tstr (46 :: t))[i].toNat := by
                        unfold St.dg at hdg
                        simp at hdg
                        omega
                      clear hd hdg hend hget
                      rcases hb with hb | hb
                      · have hb1 : ¬ 48 ≤ (tstr (46 :: t))[i].toNat := by omega
                        have hb3 : ¬ (48 : Int) ≤ ((tstr (46 :: t))[i].toNat : Int) := by omega
                        have hb5 : decide ((48 : Int) ≤ ((tstr (46 :: t))[i].toNat : Int)) = false := decide_eq_false hb3
                        go_wp2_with fail
                        go_meet
                        exact ⟨by rw [← HI.out, HKQ.out], by rw [← HZZ.out, ← HY.out, HTK.out], rfl⟩
                      · have hb1 : 48 ≤ (tstr (46 :: t))[i].toNat := by omega
                        have hb3 : (48 : Int) ≤ ((tstr (46 :: t))[i].toNat : Int) := by omega
                        have hb4 : ¬ ((tstr (46 :: t))[i].toNat : Int) ≤ 57 := by omega
                        have hb5 : decide (((tstr (46 :: t))[i].toNat : Int) ≤ 57) = false := decide_eq_false hb4
                        go_wp2_with fail
                        go_meet
                        exact ⟨by rw [← HI.out, HKQ.out], by rw [← HZZ.out, ← HY.out, HTK.out], rfl⟩
                  · have hit' : ¬ (i : Int) < ((tstr (46 :: t)).size : Int) := by omega
                    have hend := run1_here (p := St.dg) (l := t) (k := j) (by have := HPP.out; omega) (fun c r e => by rw [List.drop_of_length_le (by omega)] at e; cases e)
                    have HKQ := Lib.hid (show j = p by have := HPP.out; omega)
                    have HTK := Lib.hid (show t.take j = t.takeWhile St.dg by rw [← hend]; exact (take_tw St.dg t).1)
                    clear hend
                    go_wp2_with fail
                    go_meet
                    exact ⟨by rw [← HI.out, HKQ.out], by rw [← HZZ.out, ← HY.out, HTK.out], rfl⟩
              case rest =>
                obtain ⟨rfl, rfl, rfl⟩ := hcut
                have HT3 := HT2.out _ _ _ HFR.out
                have htw := (take_tw St.dg t)
                rw [HPP.out] at htw
                have hus := us_le (t.takeWhile St.dg) 100 (tw_dg t)
                have HUF := Lib.hid (us_frac (t.takeWhile St.dg))
                have hxd : (tstr (46 :: t)).extract (1 + p) (tstr (46 :: t)).size = tstr (t.dropWhile St.dg) := by
                  rw [textr_end, Nat.add_comm 1 p, List.drop_succ_cons, htw.2]
                by_cases hp0 : p = 0
                · have hD : t.takeWhile St.dg = [] := List.length_eq_zero_iff.1 (by rw [HPP.out]; exact hp0)
                  have HE := Lib.hid (show (St.thou l).2.1 = false by
                    rw [HT3, if_neg (by show ¬ (!(t.takeWhile St.dg).isEmpty) = true; rw [hD]; decide)])
                  clear HT3 HT2 htw HFR hus hxd hD
                  subst hp0
                  go_wp2_with fail
                  go_ret3
                  rw [HE.out]
                  exact ⟨0, 46 :: t, rfl, fun h => (by cases h), rfl⟩
                · have hDe : (t.takeWhile St.dg).isEmpty = false := by
                    cases e : t.takeWhile St.dg with
                    | nil => exfalso; have := HPP.out; rw [e] at this; exact hp0 this.symm
                    | cons a b => rfl
                  have HE := Lib.hid (show St.thou l = (((1000 * x + us 100 (t.takeWhile St.dg) : Nat) : Int), decide (1000 * x + us 100 (t.takeWhile St.dg) ≤ 1048576000), t.dropWhile St.dg) by
                    rw [HT3, if_pos (by show (!(t.takeWhile St.dg).isEmpty) = true; rw [hDe]; rfl), show St.cutP [46] (46 :: t) = t from rfl, dec_appF _ _ (by rw [List.length_take, List.length_append]; simp), HX.out, ← HUF.out])
                  obtain ⟨y, hy⟩ : ∃ y, us 100 (t.takeWhile St.dg) = y := ⟨_, rfl⟩
                  rw [hy] at HE hus ⊢
                  have hpb : (((1 + p : Nat) : Int) == 1) = false := beq_eq_false_iff_ne.2 (by omega)
                  have hpi : ¬ ((1 + p : Nat) : Int) = 1 := by omega
                  have hpn : ¬ 1 + p = 1 := by omega
                  have hps : ((1 + p : Nat) : Int) ≤ ((tstr (46 :: t)).size : Int) := by omega
                  have hpn2 : 1 + p ≤ (tstr (46 :: t)).size := by omega
                  clear HT3 HT2 htw HFR hDe hy
                  obtain ⟨z, hz⟩ : ∃ z, 1000 * x + y = z := ⟨_, rfl⟩
                  rw [hz] at HE ⊢
                  have hz1 : z ≤ 10000001000 := by omega
                  have hz2 : (z : Int) ≤ 10000001000 := by omega
                  clear hz
                  obtain ⟨i, hi⟩ : ∃ i, 1 + p = i := ⟨_, rfl⟩
                  rw [hi] at hxd hpb hpi hpn hps hpn2 ⊢
                  have hxd2 : (tstr (46 :: t)).extract i (t.length + 1) = tstr (t.dropWhile St.dg) := by rw [← hrs]; exact hxd
                  clear hi
                  go_wp2_with fail
                  go_ret3
                  rw [HE.out]
                  exact fin3 (by first | rfl | (push_cast; omega)) (by rw [Bool.eq_iff_iff]; simp only [decide_eq_true_eq]; omega)
            · have h46i : ¬ (c.toNat : Int) = 46 := by omega
              have hsk : St.skip [46] (c :: t) = false := by unfold St.skip; exact St.pre1 (fun e => h46 (by rw [e]; rfl))
              have HE := Lib.hid (NOFR hsk)
              clear NOFR HT2
              go_wp2_with fail
              go_ret3
              rw [HE.out]
              exact fin3 (by push_cast; omega) (by rw [Bool.eq_iff_iff]; simp; omega)
    · have hz0 : (tstr m).toList.isEmpty = false := by rw [ttl, hmm]; rfl
      obtain ⟨n45, n43⟩ := hne c0 t0 hmm
      have hp1 : (0 : Int) < ((tstr m).size : Int) := by rw [tsize, hmm, List.length_cons]; omega
      have hp2 : 0 < (tstr m).size := by rw [tsize, hmm, List.length_cons]; omega
      have hg0 : (tstr m)[0] = c0 := by subst hmm; rfl
      have n45i : ¬ (c0.toNat : Int) = 45 := by omega
      have n43i : ¬ (c0.toNat : Int) = 43 := by omega
      have b45 : ((c0.toNat : Int) == 45) = false := beq_eq_false_iff_ne.2 n45i
      have b43 : ((c0.toNat : Int) == 43) = false := beq_eq_false_iff_ne.2 n43i
      rw [← hmm]
      clear hne hmm
      go_enter Tryd.func32, Tryd.ntmps32
      obtain ⟨q, hq⟩ : ∃ q, (m.takeWhile St.dg).length = q := ⟨_, rfl⟩
      have HQ := Lib.hid hq
      have hml' : (tstr m).size ≤ 10000 := by rw [tsize]; exact hml
      clear hq
      go_upto_block 0 with fail
      go_cut [6, 7] from 26 (fun u6 u7 wx => ∃ k : Nat, u7 = .int .i64 (k : Int) ∧ u6 = .int .i64 (St.dec (m.take k) : Nat) ∧ k ≤ 8 ∧ k ≤ m.length ∧ (k = q ∨ (k = 8 ∧ 8 ≤ q)) ∧ wx = w)
      case first =>
        go_wp2_with fail
        go_loopg [6, 7] 9 (fun gg u6 u7 wr => ∃ k : Nat, u7 = .int .i64 (k : Int) ∧ u6 = .int .i64 (St.dec (m.take k) : Nat) ∧ k ≤ 8 ∧ k ≤ q ∧ 9 - k ≤ gg ∧ wr = w)
        case atStart => exact ⟨0, rfl, rfl, by omega, Nat.zero_le _, by omega, rfl⟩
        case round =>
          obtain ⟨k, rfl, rfl, hk8, hkq, hgg, rfl⟩ := hrel
          have hkm : k ≤ m.length := by have := HQ.out; have := tk_len (p := St.dg) (l := m); omega
          by_cases hlt : k < m.length
          · have hlt1 : k < (tstr m).size := by rw [tsize]; exact hlt
            have hlt' : (k : Int) < ((tstr m).size : Int) := by omega
            have hd := tget m k hlt1
            have hc256 := (tstr m)[k].toNat_lt
            cases hdg : St.dg (tstr m)[k] with
            | true =>
              have hmore := run1_more (p := St.dg) (l := m) (k := k) (by have := HQ.out; omega) hd hdg
              have hb := hdg
              unfold St.dg at hb
              simp at hb
              have hb1 : 48 ≤ (tstr m)[k].toNat := hb.1
              have hb2 : (tstr m)[k].toNat ≤ 57 := hb.2
              have hb3 : (48 : Int) ≤ ((tstr m)[k].toNat : Int) := by omega
              have hb4 : ((tstr m)[k].toNat : Int) ≤ 57 := by omega
              have hq1 : k + 1 ≤ q := by have := HQ.out; omega
              by_cases h8 : k < 8
              · have h8' : (k : Int) < 8 := by omega
                have HN := Lib.hid (show St.dec (m.take (k + 1)) = 10 * St.dec (m.take k) + ((tstr m)[k].toNat - 48) from dec_take hlt)
                have hdk : ∀ c ∈ m.take k, St.dg c = true := fun c hc => by
                  have : m.take k = (m.takeWhile St.dg).take k := by rw [← take_tw St.dg m |>.1, List.take_take]; congr 1; have := HQ.out; omega
                  rw [this] at hc
                  exact tw_dg m c (List.mem_of_mem_take hc)
                have hbd : St.dec (m.take k) + 1 ≤ 10 ^ 8 := Nat.le_trans (dec_lt _ hdk) (Nat.pow_le_pow_right (by decide) (by rw [List.length_take]; omega))
                obtain ⟨x, hx⟩ : ∃ x, St.dec (m.take k) = x := ⟨_, rfl⟩
                rw [hx] at hbd ⊢
                have hx1 : x ≤ 100000000 := by omega
                have hx2 : (x : Int) ≤ 100000000 := by omega
                have HG := Lib.hid (show m[k].toNat = (tstr m)[k].toNat from rfl)
                clear hbd hdk hd hdg hb hmore
                go_wp2_with fail
                go_roundg (9 - (k + 1))
                case rel => exact ⟨k + 1, by go_num, by rw [HN.out, hx]; go_num, by omega, hq1, by omega, rfl⟩
                case measure => omega
              · have h8' : ¬ (k : Int) < 8 := by omega
                clear hd hdg hb hmore
                go_wp2_with fail
                go_meet
                exact ⟨k, rfl, rfl, hk8, hkm, .inr ⟨by omega, by omega⟩, rfl⟩
            | false =>
              have hend := run1_here (p := St.dg) (l := m) (k := k) (by have := HQ.out; omega) (fun c r e => by rw [hd] at e; obtain ⟨rfl, _⟩ := List.cons.inj e; exact hdg)
              have HKQ := Lib.hid (show k = q by have := HQ.out; omega)
              have hb : (tstr m)[k].toNat < 48 ∨ 57 < (tstr m)[k].toNat := by
                unfold St.dg at hdg
                simp at hdg
                omega
              clear hd hdg hend
              rcases hb with hb | hb
              · have hb1 : ¬ 48 ≤ (tstr m)[k].toNat := by omega
                have hb3 : ¬ (48 : Int) ≤ ((tstr m)[k].toNat : Int) := by omega
                have hb5 : decide ((48 : Int) ≤ ((tstr m)[k].toNat : Int)) = false := decide_eq_false hb3
                have hb6 : decide (48 ≤ (tstr m)[k].toNat) = false := decide_eq_false hb1
                go_wp2_with fail
                go_meet
                exact ⟨k, rfl, rfl, hk8, hkm, .inl HKQ.out, rfl⟩
              · have hb1 : 48 ≤ (tstr m)[k].toNat := by omega
                have hb2 : ¬ (tstr m)[k].toNat ≤ 57 := by omega
                have hb3 : (48 : Int) ≤ ((tstr m)[k].toNat : Int) := by omega
                have hb4 : ¬ ((tstr m)[k].toNat : Int) ≤ 57 := by omega
                have hb5 : decide (((tstr m)[k].toNat : Int) ≤ 57) = false := decide_eq_false hb4
                have hb6 : decide ((tstr m)[k].toNat ≤ 57) = false := decide_eq_false hb2
                go_wp2_with fail
                go_meet
                exact ⟨k, rfl, rfl, hk8, hkm, .inl HKQ.out, rfl⟩
          · have hlt' : ¬ (k : Int) < ((tstr m).size : Int) := by rw [tsize]; omega
            have hend := run1_here (p := St.dg) (l := m) (k := k) (by have := HQ.out; omega) (fun c r e => by rw [List.drop_of_length_le (by omega)] at e; cases e)
            have HKQ := Lib.hid (show k = q by have := HQ.out; omega)
            clear hend
            go_wp2_with fail
            go_meet
            exact ⟨k, rfl, rfl, hk8, hkm, .inl HKQ.out, rfl⟩
      case rest =>
        obtain ⟨k, rfl, rfl, hk8, hkm, hkq, rfl⟩ := hcut
        have HTH := fun (F rr : List UInt8) (kk : Bool) (h4 : St.frac (m.dropWhile St.dg) = (F, kk, rr)) => thou_of HS.out rfl rfl h4
        by_cases hbad : k = 0 ∨ 7 < k
        · have HE := Lib.hid (show (St.thou l).2.1 = false by
            obtain ⟨F, kk, rr, hF⟩ : ∃ F kk rr, St.frac (m.dropWhile St.dg) = (F, kk, rr) := ⟨_, _, _, rfl⟩
            have h := HTH F rr kk hF
            rw [h, if_neg]
            rcases hbad with h0 | h7
            · have hq0 : q = 0 := by omega
              have : m.takeWhile St.dg = [] := List.length_eq_zero_iff.1 (by rw [HQ.out]; exact hq0)
              rw [this]; simp
            · have : ¬ (m.takeWhile St.dg).length ≤ 7 := by rw [HQ.out]; omega
              simp [this])
          clear HTH
          rcases hbad with rfl | h7
          · go_wp2_with fail
            go_ret3
            rw [HE.out]
            exact ⟨0, m, rfl, fun h => (by cases h), rfl⟩
          · have h71 : (7 : Int) < (k : Int) := by omega
            have h70 : ¬ k = 0 := by omega
            have h72 : ((k : Int) == 0) = false := beq_eq_false_iff_ne.2 (by omega)
            go_wp2_with fail
            go_ret3
            rw [HE.out]
            exact ⟨0, m, rfl, fun h => (by cases h), rfl⟩
        · have hk0 : ¬ k = 0 := by omega
          have hkb : ((k : Int) == 0) = false := beq_eq_false_iff_ne.2 (by omega)
          have hk7 : ¬ (7 : Int) < (k : Int) := by omega
          have hk7b : (k : Int) ≤ 7 := by omega
          obtain rfl : k = q := by omega
          have hW : m.takeWhile St.dg = m.take k := by rw [← HQ.out]; exact (take_tw St.dg m).1.symm
          have hr : m.dropWhile St.dg = m.drop k := by rw [← HQ.out]; exact (take_tw St.dg m).2.symm
          have hNd : St.dec (m.take k) + 1 ≤ 10 ^ 7 := by
            have h1 := dec_lt (m.take k) (by rw [← hW]; exact tw_dg m)
            exact Nat.le_trans h1 (Nat.pow_le_pow_right (by decide) (by rw [List.length_take]; omega))
          have hex : (tstr m).extract k (tstr m).size = tstr (m.drop k) := textr_end m k
          have hkm1 : (k : Int) ≤ ((tstr m).size : Int) := by rw [tsize]; omega
          have hkm2 : k ≤ (tstr m).size := by rw [tsize]; exact hkm
          rw [hW, hr] at HTH
          have hlenk : (m.take k).length = k := by rw [List.length_take]; omega
          have hWe : (m.take k).isEmpty = false := by cases e : m.take k with | nil => (rw [e] at hlenk; simp at hlenk; omega) | cons a b => rfl
          have HT2 := Lib.hid (show ∀ (F rr : List UInt8) (kk : Bool), St.frac (m.drop k) = (F, kk, rr) → St.thou l = if kk = true then ((St.dec (m.take k ++ F) : Int), decide (St.dec (m.take k ++ F) ≤ 1048576000), rr) else (0, false, rr) from fun F rr kk h => by
            have := HTH F rr kk h
            rw [this, hWe, hlenk, decide_eq_true (show k ≤ 7 by omega)]
            cases kk <;> simp)
          clear HTH hW hr hWe
          obtain ⟨x, hx⟩ : ∃ x, St.dec (m.take k) = x := ⟨_, rfl⟩
          have HX := Lib.hid hx
          rw [hx] at hNd ⊢
          obtain ⟨r, hr⟩ : ∃ r, m.drop k = r := ⟨_, rfl⟩
          rw [hr] at hex HT2
          have hrl : r.length ≤ 10000 := by rw [← hr, List.length_drop]; omega
          have hx1 : x ≤ 10000000 := by omega
          have hx2 : (x : Int) ≤ 10000000 := by omega
          clear hNd hx hr hlenk
          have NOFR : ∀ (hn : St.skip [46] r = false), St.thou l = (((1000 * x : Nat) : Int), decide (1000 * x ≤ 1048576000), r) := fun hn => by
            have := HT2.out _ _ _ (frac_not hn)
            rw [if_pos rfl, dec_appF _ _ rfl, HX.out, show St.dec [48, 48, 48] = 0 by decide, Nat.add_zero] at this
            exact this
          cases r with
          | nil =>
            have hz : (tstr []).toList.isEmpty = true := by rw [ttl]; rfl
            have HE := Lib.hid (NOFR rfl)
            clear NOFR HT2
            go_wp2_with fail
            go_ret3
            rw [HE.out]
            exact fin3 (by push_cast; omega) (by rw [Bool.eq_iff_iff]; simp; omega)
          | cons c t =>
            have hz : (tstr (c :: t)).toList.isEmpty = false := by rw [ttl]; rfl
            have hp1 : (0 : Int) < ((tstr (c :: t)).size : Int) := by rw [tsize, List.length_cons]; omega
            have hp2 : 0 < (tstr (c :: t)).size := by rw [tsize, List.length_cons]; omega
            have hc0 : (tstr (c :: t))[0] = c := rfl
            by_cases h46 : c.toNat = 46
            · obtain rfl : c = 46 := UInt8.toNat_inj.1 h46
              clear h46 NOFR
              have HFR := Lib.hid (frac_yes (r := 46 :: t) rfl)
              obtain ⟨p, hp⟩ : ∃ p, (t.takeWhile St.dg).length = p := ⟨_, rfl⟩
              have HPP := Lib.hid hp
              have htl : t.length ≤ 9999 := by rw [List.length_cons] at hrl; omega
              have hrs : (tstr (46 :: t)).size = t.length + 1 := by rw [tsize]; rfl
              have hpt : p ≤ t.length := by rw [← hp]; exact tk_len
              clear hp
              go_upto_block 2 with fail
              go_cut [6, 7, 8] from 75 (fun u6 u7 u8 wx => u7 = .int .i64 ((1 + p : Nat) : Int) ∧ u6 = .int .i64 ((1000 * x + us 100 (t.takeWhile St.dg) : Nat) : Int) ∧ wx = wc)
              case first =>
                go_wp2_with fail
                go_loopg [6, 7, 8] (t.length + 1) (fun gg u6 u7 u8 wr => ∃ j : Nat, u7 = .int .i64 ((1 + j : Nat) : Int) ∧ u6 = .int .i64 ((1000 * x + us 100 (t.take j) : Nat) : Int) ∧ u8 = .int .i64 ((100 / 10 ^ j : Nat) : Int) ∧ j ≤ p ∧ t.length + 1 - j ≤ gg ∧ wr = wc)
                case atStart => exact ⟨0, rfl, by first | rfl | (show Value.int .i64 _ = _; congr 1; simp [us]; omega), rfl, Nat.zero_le _, by omega, rfl⟩
                case round =>
                  obtain ⟨j, rfl, rfl, rfl, hjp, hgg, rfl⟩ := hrel
                  have hdj : ∀ c ∈ t.take j, St.dg c = true := fun c hc => by
                    have : t.take j = (t.takeWhile St.dg).take j := by rw [← (take_tw St.dg t).1, List.take_take]; congr 1; have := HPP.out; omega
                    rw [this] at hc
                    exact tw_dg t c (List.mem_of_mem_take hc)
                  have hus := us_le (t.take j) 100 hdj
                  obtain ⟨y, hy⟩ : ∃ y, us 100 (t.take j) = y := ⟨_, rfl⟩
                  obtain ⟨v, hv⟩ : ∃ v, 100 / 10 ^ j = v := ⟨_, rfl⟩
                  have hv1 : v ≤ 100 := by rw [← hv]; exact Nat.div_le_self _ _
                  have HY := Lib.hid hy
                  have HV := Lib.hid hv
                  rw [hy] at hus ⊢
                  rw [hv]
                  have hy1 : y ≤ 1000 := by omega
                  clear hdj hus hy hv
                  obtain ⟨z, hz⟩ : ∃ z, 1000 * x + y = z := ⟨_, rfl⟩
                  have HZZ := Lib.hid hz
                  rw [hz]
                  have hz1 : z ≤ 10000001000 := by omega
                  have hz2 : (z : Int) ≤ 10000001000 := by omega
                  have hv2 : (v : Int) ≤ 100 := by omega
                  clear hz
                  obtain ⟨i, hi⟩ : ∃ i, 1 + j = i := ⟨_, rfl⟩
                  have HI := Lib.hid hi
                  rw [hi]
                  by_cases hlt : j < t.length
                  · have hit : i < (tstr (46 :: t)).size := by omega
                    have hit' : (i : Int) < ((tstr (46 :: t)).size : Int) := by omega
                    have hd0 := tget (46 :: t) i hit
                    have hd : t.drop j = (tstr (46 :: t))[i] :: t.drop (j + 1) := by
                      have e1 : (46 :: t).drop i = t.drop j := by rw [← hi, Nat.add_comm]; rfl
                      have e2 : (46 :: t).drop (i + 1) = t.drop (j + 1) := by rw [← hi, show 1 + j + 1 = (j + 1) + 1 by omega]; rfl
                      rw [e1, e2] at hd0
                      exact hd0
                    clear hd0
                    have hc256 := (tstr (46 :: t))[i].toNat_lt
                    have hget : t[j].toNat = (tstr (46 :: t))[i].toNat := by
                      have := List.drop_eq_getElem_cons hlt
                      rw [hd] at this
                      injection this with h1 _
                      rw [h1]
                    cases hdg : St.dg (tstr (46 :: t))[i] with
                    | true =>
                      have hmore := run1_more (p := St.dg) (l := t) (k := j) (by have := HPP.out; omega) hd hdg
                      have hb := hdg
                      unfold St.dg at hb
                      simp at hb
                      have hb1 : 48 ≤ (tstr (46 :: t))[i].toNat := hb.1
                      have hb2 : (tstr (46 :: t))[i].toNat ≤ 57 := hb.2
                      have hb3 : (48 : Int) ≤ ((tstr (46 :: t))[i].toNat : Int) := by omega
                      have hb4 : ((tstr (46 :: t))[i].toNat : Int) ≤ 57 := by omega
                      have hq1 : j + 1 ≤ p := by have := HPP.out; omega
                      have HN := Lib.hid (us_take t 100 j hlt)
                      have HGT := Lib.hid hget
                      obtain ⟨e9, he9⟩ : ∃ e9 : Nat, (tstr (46 :: t))[i].toNat = e9 + 48 := ⟨(tstr (46 :: t))[i].toNat - 48, by omega⟩
                      have he10 : e9 ≤ 9 := by omega
                      have hve : (v : Int) * (e9 : Int) ≤ 900 := by
                        have : v * e9 ≤ 100 * 9 := Nat.mul_le_mul hv1 he10
                        exact_mod_cast this
                      have hve0 : (0 : Int) ≤ (v : Int) * (e9 : Int) := by exact_mod_cast Nat.zero_le (v * e9)
                      have hei : ((tstr (46 :: t))[i].toNat : Int) - 48 = (e9 : Int) := by omega
                      have HVD := Lib.hid (show v / 10 = 100 / 10 ^ (j + 1) by rw [← HV.out]; exact pow10_div j)
                      have hvt : (v : Int).tdiv 10 = ((v / 10 : Nat) : Int) := by rw [Int.tdiv_eq_ediv_of_nonneg (by omega)]; omega
                      have HE9 := Lib.hid he9
                      clear hd hdg hb hmore hget he9
                      go_wp2_with fail
                      go_roundg (t.length + 1 - (j + 1))
                      case rel => exact ⟨j + 1, by rw [← HI.out]; go_num, by
                        rw [HN.out, HGT.out, HE9.out, HY.out, HV.out, Nat.add_sub_cancel, ← HZZ.out]
                        show Value.int .i64 _ = Value.int .i64 _
                        congr 1
                        push_cast
                        omega, by rw [← HVD.out]; push_cast; rfl, hq1, by omega, rfl⟩
                      case measure => omega
                    | false =>
                      have hend := run1_here (p := St.dg) (l := t) (k := j) (by have := HPP.out; omega) (fun c r e => by rw [hd] at e; obtain ⟨rfl, _⟩ := List.cons.inj e; exact hdg)
                      have HKQ := Lib.hid (show j = p by have := HPP.out; omega)
                      have HTK := Lib.hid (show t.take j = t.takeWhile St.dg by rw [← hend]; exact (take_tw St.dg t).1)
                      have hb : (tstr (46 :: t))[i].toNat < 48 ∨ 57 < (tstr (46 :: t))[i].toNat := by
                        unfold St.dg at hdg
                        simp at hdg
                        omega
                      clear hd hdg hend hget
                      rcases hb with hb | hb
                      · have hb1 : ¬ 48 ≤ (tstr (46 :: t))[i].toNat := by omega
                        have hb3 : ¬ (48 : Int) ≤ ((tstr (46 :: t))[i].toNat : Int) := by omega
                        have hb5 : decide ((48 : Int) ≤ ((tstr (46 :: t))[i].toNat : Int)) = false := decide_eq_false hb3
                        go_wp2_with fail
                        go_meet
                        exact ⟨by rw [← HI.out, HKQ.out], by rw [← HZZ.out, ← HY.out, HTK.out], rfl⟩
                      · have hb1 : 48 ≤ (tstr (46 :: t))[i].toNat := by omega
                        have hb3 : (48 : Int) ≤ ((tstr (46 :: t))[i].toNat : Int) := by omega
                        have hb4 : ¬ ((tstr (46 :: t))[i].toNat : Int) ≤ 57 := by omega
                        have hb5 : decide (((tstr (46 :: t))[i].toNat : Int) ≤ 57) = false := decide_eq_false hb4
                        go_wp2_with fail
                        go_meet
                        exact ⟨by rw [← HI.out, HKQ.out], by rw [← HZZ.out, ← HY.out, HTK.out], rfl⟩
                  · have hit' : ¬ (i : Int) < ((tstr (46 :: t)).size : Int) := by omega
                    have hend := run1_here (p := St.dg) (l := t) (k := j) (by have := HPP.out; omega) (fun c r e => by rw [List.drop_of_length_le (by omega)] at e; cases e)
                    have HKQ := Lib.hid (show j = p by have := HPP.out; omega)
                    have HTK := Lib.hid (show t.take j = t.takeWhile St.dg by rw [← hend]; exact (take_tw St.dg t).1)
                    clear hend
                    go_wp2_with fail
                    go_meet
                    exact ⟨by rw [← HI.out, HKQ.out], by rw [← HZZ.out, ← HY.out, HTK.out], rfl⟩
              case rest =>
                obtain ⟨rfl, rfl, rfl⟩ := hcut
                have HT3 := HT2.out _ _ _ HFR.out
                have htw := (take_tw St.dg t)
                rw [HPP.out] at htw
                have hus := us_le (t.takeWhile St.dg) 100 (tw_dg t)
                have HUF := Lib.hid (us_frac (t.takeWhile St.dg))
                have hxd : (tstr (46 :: t)).extract (1 + p) (tstr (46 :: t)).size = tstr (t.dropWhile St.dg) := by
                  rw [textr_end, Nat.add_comm 1 p, List.drop_succ_cons, htw.2]
                by_cases hp0 : p = 0
                · have hD : t.takeWhile St.dg = [] := List.length_eq_zero_iff.1 (by rw [HPP.out]; exact hp0)
                  have HE := Lib.hid (show (St.thou l).2.1 = false by
                    rw [HT3, if_neg (by show ¬ (!(t.takeWhile St.dg).isEmpty) = true; rw [hD]; decide)])
                  clear HT3 HT2 htw HFR hus hxd hD
                  subst hp0
                  go_wp2_with fail
                  go_ret3
                  rw [HE.out]
                  exact ⟨0, 46 :: t, rfl, fun h => (by cases h), rfl⟩
                · have hDe : (t.takeWhile St.dg).isEmpty = false := by
                    cases e : t.takeWhile St.dg with
                    | nil => exfalso; have := HPP.out; rw [e] at this; exact hp0 this.symm
                    | cons a b => rfl
                  have HE := Lib.hid (show St.thou l = (((1000 * x + us 100 (t.takeWhile St.dg) : Nat) : Int), decide (1000 * x + us 100 (t.takeWhile St.dg) ≤ 1048576000), t.dropWhile St.dg) by
                    rw [HT3, if_pos (by show (!(t.takeWhile St.dg).isEmpty) = true; rw [hDe]; rfl), show St.cutP [46] (46 :: t) = t from rfl, dec_appF _ _ (by rw [List.length_take, List.length_append]; simp), HX.out, ← HUF.out])
                  obtain ⟨y, hy⟩ : ∃ y, us 100 (t.takeWhile St.dg) = y := ⟨_, rfl⟩
                  rw [hy] at HE hus ⊢
                  have hpb : (((1 + p : Nat) : Int) == 1) = false := beq_eq_false_iff_ne.2 (by omega)
                  have hpi : ¬ ((1 + p : Nat) : Int) = 1 := by omega
                  have hpn : ¬ 1 + p = 1 := by omega
                  have hps : ((1 + p : Nat) : Int) ≤ ((tstr (46 :: t)).size : Int) := by omega
                  have hpn2 : 1 + p ≤ (tstr (46 :: t)).size := by omega
                  clear HT3 HT2 htw HFR hDe hy
                  obtain ⟨z, hz⟩ : ∃ z, 1000 * x + y = z := ⟨_, rfl⟩
                  rw [hz] at HE ⊢
                  have hz1 : z ≤ 10000001000 := by omega
                  have hz2 : (z : Int) ≤ 10000001000 := by omega
                  clear hz
                  obtain ⟨i, hi⟩ : ∃ i, 1 + p = i := ⟨_, rfl⟩
                  rw [hi] at hxd hpb hpi hpn hps hpn2 ⊢
                  have hxd2 : (tstr (46 :: t)).extract i (t.length + 1) = tstr (t.dropWhile St.dg) := by rw [← hrs]; exact hxd
                  clear hi
                  go_wp2_with fail
                  go_ret3
                  rw [HE.out]
                  exact fin3 (by first | rfl | (push_cast; omega)) (by rw [Bool.eq_iff_iff]; simp only [decide_eq_true_eq]; omega)
            · have h46i : ¬ (c.toNat : Int) = 46 := by omega
              have hsk : St.skip [46] (c :: t) = false := by unfold St.skip; exact St.pre1 (fun e => h46 (by rw [e]; rfl))
              have HE := Lib.hid (NOFR hsk)
              clear NOFR HT2
              go_wp2_with fail
              go_ret3
              rw [HE.out]
              exact fin3 (by push_cast; omega) (by rw [Bool.eq_iff_iff]; simp; omega)
end Go.Proofs.YtoiednecchbmnaaDoor
