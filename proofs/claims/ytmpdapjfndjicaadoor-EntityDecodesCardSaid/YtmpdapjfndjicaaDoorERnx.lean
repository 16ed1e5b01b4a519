/- The reference's Next returns what the plain text says. -/
import Derived.Test.YtmpdapjfndjicaaDoorERlk
import Derived.Test.YtmpdapjfndjicaaDoorERnm
import Derived.Deep.QuietTactic
import Derived.BigQuiet
namespace Go.Proofs.YtmpdapjfndjicaaDoor
open Go Go.RowKit

/-- What the reference's begins says. -/
def BG (s p : ByteArray) (b : Bool) : Prop := ∀ w : World, Calls Tryd.prog 27 #[.string s, .string p] w fun e w' => e = .returned (.bool b) ∧ w = w'
theorem bg_any (s : ByteArray) (p : List UInt8) : BG s ⟨p.toArray⟩ (p.isPrefixOf s.data.toList) := fun w => rbegins_any s ⟨p.toArray⟩ w
theorem bgp_len {p l : List UInt8} (h : p.isPrefixOf l = true) : p.length ≤ l.length := (List.isPrefixOf_iff_prefix.1 h).length_le
theorem find_first {α : Type} {l : List α} {p : α → Bool} {k : Nat} (hk : k < l.length) (h : ∀ i (hi : i < k), p (l[i]'(by omega)) = false) (ht : p l[k] = true) : l.find? p = some l[k] := by
  induction l generalizing k with
  | nil => simp at hk
  | cons x l ih =>
    cases k with
    | zero => rw [List.find?_cons]; simp only [List.getElem_cons_zero] at ht ⊢; rw [ht]
    | succ k =>
      have h0 := h 0 (by omega)
      simp only [List.getElem_cons_zero] at h0
      rw [List.find?_cons, h0]
      simp only [List.getElem_cons_succ] at ht ⊢
      exact ih (by simpa using hk) (fun i hi => by have := h (i + 1) (by omega); simpa using this) ht
theorem find_gone {α : Type} {l : List α} {p : α → Bool} (h : ∀ i (hi : i < l.length), p l[i] = false) : l.find? p = none := by
  rw [List.find?_eq_none]
  intro x hx e
  obtain ⟨i, hi, rfl⟩ := List.getElem_of_mem hx
  rw [h i hi] at e; cases e

/-- No name and ; up to the k-th. -/
def NoSemi (l : List UInt8) (k : Nat) : Prop := ∀ i < k, (38 :: (rnm i ++ [59])).isPrefixOf l = false
/-- No bare name up to the k-th. -/
def NoBare (l : List UInt8) (k : Nat) : Prop := ∀ i < k, ((38 :: rnm i).isPrefixOf l && Ent.endOk (l.drop ((rnm i).length + 1))) = false
theorem NoSemi.step {l : List UInt8} {k : Nat} (h : NoSemi l k) (hk : (38 :: (rnm k ++ [59])).isPrefixOf l = false) : NoSemi l (k + 1) := fun i hi => by
  by_cases e : i = k
  · subst e; exact hk
  · exact h i (by omega)
theorem NoBare.step {l : List UInt8} {k : Nat} (h : NoBare l k) (hk : ((38 :: rnm k).isPrefixOf l && Ent.endOk (l.drop ((rnm k).length + 1))) = false) : NoBare l (k + 1) := fun i hi => by
  by_cases e : i = k
  · subst e; exact hk
  · exact h i (by omega)
def NoNum (l : List UInt8) : Prop := ([38, 35, 120].isPrefixOf l || [38, 35, 88].isPrefixOf l) = false ∧ [38, 35].isPrefixOf l = false
theorem rnext_semi {l : List UInt8} {k : Nat} (h0 : NoNum l) (h : NoSemi l k) (hk : k < 30) (ht : (38 :: (rnm k ++ [59])).isPrefixOf l = true) : Ent.rnext l = (rch k, (rnm k).length + 2) := by
  unfold Ent.rnext
  rw [if_neg (by rw [h0.1]; simp), if_neg (by rw [h0.2]; simp)]
  have hkl : k < Ent.tabR.length := hk
  rw [find_first (k := k) hkl (fun i hi => by rw [rget]; exact h i hi) (by rw [rget]; exact ht), rget]
theorem take_four (i : Nat) (h : i < (Ent.tabR.take 4).length) : (Ent.tabR.take 4)[i] = (rnm i, rch i) := by
  rw [List.getElem_take]; exact rget i _
theorem rnext_bare {l : List UInt8} {k : Nat} (h0 : NoNum l) (hs : NoSemi l 30) (h : NoBare l k) (hk : k < 4) (ht : ((38 :: rnm k).isPrefixOf l && Ent.endOk (l.drop ((rnm k).length + 1))) = true) : Ent.rnext l = (rch k, (rnm k).length + 1) := by
  unfold Ent.rnext
  rw [if_neg (by rw [h0.1]; simp), if_neg (by rw [h0.2]; simp)]
  have hk4 : k < (Ent.tabR.take 4).length := hk
  rw [find_gone (fun i hi => by rw [rget]; exact hs i hi)]
  simp only
  rw [find_first (k := k) hk4 (fun i hi => by rw [take_four]; exact h i hi) (by rw [take_four]; exact ht), take_four]
theorem rnext_no {l : List UInt8} (h0 : NoNum l) (hs : NoSemi l 30) (h : NoBare l 4) : Ent.rnext l = ([], 0) := by
  unfold Ent.rnext
  rw [if_neg (by rw [h0.1]; simp), if_neg (by rw [h0.2]; simp)]
  rw [find_gone (fun i hi => by rw [rget]; exact hs i hi)]
  simp only
  rw [find_gone (fun i hi => by rw [take_four]; exact h i hi)]
theorem rnm_len : ∀ k < 30, (rnm k).length ≤ 6 := by decide

set_option maxRecDepth 100000 in
set_option maxHeartbeats 1000000 in
theorem rnext_num (s : ByteArray) (w : World) (hs : s.size ≤ 20000) (hn : ¬ NoNum s.data.toList) :
    Calls Tryd.prog 17 #[.string s] w fun e w' => e = .returned (.tuple #[.string (tstr (Ent.rnext s.data.toList).1), .int .i64 (Ent.rnext s.data.toList).2]) ∧ Below w.heap.size w w' := by
  have q1 := bg_any s [38, 35, 120]
  have q2 := bg_any s [38, 35, 88]
  have q3 := bg_any s [38, 35]
  have l1 : [38, 35, 120].isPrefixOf s.data.toList = true → 3 ≤ s.size := fun h => bgp_len h
  have l2 : [38, 35, 88].isPrefixOf s.data.toList = true → 3 ≤ s.size := fun h => bgp_len h
  have l3 : [38, 35].isPrefixOf s.data.toList = true → 2 ≤ s.size := fun h => bgp_len h
  have hu : ∀ P1 P2 P3 : Bool, [38, 35, 120].isPrefixOf s.data.toList = P1 → [38, 35, 88].isPrefixOf s.data.toList = P2 → [38, 35].isPrefixOf s.data.toList = P3 → (P1 || P2) = true → Ent.rnext s.data.toList = Ent.byNum 16 3 s.data.toList := by
    intro P1 P2 P3 e1 e2 _ e
    unfold Ent.rnext
    rw [e1, e2, if_pos e]
  have hv : [38, 35, 120].isPrefixOf s.data.toList = false → [38, 35, 88].isPrefixOf s.data.toList = false → [38, 35].isPrefixOf s.data.toList = true → Ent.rnext s.data.toList = Ent.byNum 10 2 s.data.toList := by
    intro e1 e2 e3
    unfold Ent.rnext
    rw [e1, e2, if_neg (by simp), if_pos e3]
  cases h1 : [38, 35, 120].isPrefixOf s.data.toList with
  | true =>
    rw [h1] at q1
    have hq := rnumber_at_16 s 3 w (l1 h1) hs
    have HN := Lib.hid (hu _ _ _ h1 rfl rfl rfl)
    clear hu hv l1 l2 l3 q2 q3 h1 hn
    go_enter Tryd.func17, Tryd.ntmps17
    go_wp2_with fail
    refine (q1 w).mono ?_
    rintro e w' ⟨rfl, rfl⟩
    go_wp2_with fail
    refine hq.mono ?_
    rintro e w' ⟨rfl, hb⟩
    go_wp2_with fail
    go_ret2
    exact ⟨retSI (by rw [HN.out]) (by rw [HN.out]), hb⟩
  | false =>
    rw [h1] at q1
    cases h2 : [38, 35, 88].isPrefixOf s.data.toList with
    | true =>
      rw [h2] at q2
      have hq := rnumber_at_16 s 3 w (l2 h2) hs
      have HN := Lib.hid (hu _ _ _ h1 h2 rfl rfl)
      clear hu hv l1 l2 l3 q3 h1 h2 hn
      go_enter Tryd.func17, Tryd.ntmps17
      go_wp2_with fail
      refine (q1 w).mono ?_
      rintro e w' ⟨rfl, rfl⟩
      go_wp2_with fail
      refine (q2 w).mono ?_
      rintro e w' ⟨rfl, rfl⟩
      go_wp2_with fail
      refine hq.mono ?_
      rintro e w' ⟨rfl, hb⟩
      go_wp2_with fail
      go_ret2
      exact ⟨retSI (by rw [HN.out]) (by rw [HN.out]), hb⟩
    | false =>
      rw [h2] at q2
      cases h3 : [38, 35].isPrefixOf s.data.toList with
      | true =>
        rw [h3] at q3
        have hq := rnumber_at_10 s 2 w (l3 h3) hs
        have HN := Lib.hid (hv h1 h2 h3)
        clear hu hv l1 l2 l3 h1 h2 h3 hn
        go_enter Tryd.func17, Tryd.ntmps17
        go_wp2_with fail
        refine (q1 w).mono ?_
        rintro e w' ⟨rfl, rfl⟩
        go_wp2_with fail
        refine (q2 w).mono ?_
        rintro e w' ⟨rfl, rfl⟩
        go_wp2_with fail
        refine (q3 w).mono ?_
        rintro e w' ⟨rfl, rfl⟩
        go_wp2_with fail
        refine hq.mono ?_
        rintro e w' ⟨rfl, hb⟩
        go_wp2_with fail
        go_ret2
        exact ⟨retSI (by rw [HN.out]) (by rw [HN.out]), hb⟩
      | false => exact absurd ⟨by rw [h1, h2]; rfl, h3⟩ hn

set_option maxRecDepth 100000 in
set_option maxHeartbeats 2000000 in
theorem rnext_name (s : ByteArray) (w : World) (hs : s.size ≤ 20000) (hn : NoNum s.data.toList) :
    Calls Tryd.prog 17 #[.string s] w fun e w' => e = .returned (.tuple #[.string (tstr (Ent.rnext s.data.toList).1), .int .i64 (Ent.rnext s.data.toList).2]) ∧ Below w.heap.size w w' := by
  have q1 := bg_any s [38, 35, 120]
  have q2 := bg_any s [38, 35, 88]
  have q3 := bg_any s [38, 35]
  have hn1 : [38, 35, 120].isPrefixOf s.data.toList = false := by have := hn.1; simp only [Bool.or_eq_false_iff] at this; exact this.1
  have hn2 : [38, 35, 88].isPrefixOf s.data.toList = false := by have := hn.1; simp only [Bool.or_eq_false_iff] at this; exact this.2
  rw [hn1] at q1
  rw [hn2] at q2
  rw [hn.2] at q3
  clear hn1 hn2
  go_enter Tryd.func17, Tryd.ntmps17
  go_wp2_with fail
  refine (q1 w).mono ?_
  rintro e w' ⟨rfl, rfl⟩
  go_wp2_with fail
  refine (q2 w).mono ?_
  rintro e w' ⟨rfl, rfl⟩
  go_wp2_with fail
  refine (q3 w).mono ?_
  rintro e w' ⟨rfl, rfl⟩
  go_wp2_with fail
  refine (rtable_any w).mono ?_
  rintro e w1 ⟨b, rfl, _, hR, hB⟩
  clear q1 q2 q3
  go_wp2_with fail
  go_loop [5] (fun a => ∃ k : Nat, k ≤ 30 ∧ a = .int .i64 k ∧ NoSemi s.data.toList k) (fun a => 30 - (intOf a).toNat)
  case atStart => exact ⟨0, by omega, rfl, fun i h => absurd h (by omega)⟩
  case round =>
    obtain ⟨k, hk, rfl, hno⟩ := hrel
    by_cases hlt : k < 30
    · obtain ⟨hc, hp⟩ := hR k hlt
      have hnl := rnm_len k hlt
      have hN1 : tstr (rnm k) = tstr (rnm k) := rfl
      have hNz : (tstr (rnm k)).size ≤ 6 := by rw [tstr_size]; exact hnl
      have hA : (⟨#[38]⟩ : ByteArray) ++ tstr (rnm k) = tstr (38 :: rnm k) := tstr_append [38] (rnm k)
      have hAB : tstr (38 :: rnm k) ++ (⟨#[59]⟩ : ByteArray) = tstr (38 :: (rnm k ++ [59])) := tstr_append (38 :: rnm k) [59]
      have hAz : (tstr (38 :: rnm k)).size ≤ 7 := by rw [tstr_size, List.length_cons]; omega
      have hbg := bg_any s (38 :: (rnm k ++ [59]))
      have hbg' : BG s (tstr (38 :: (rnm k ++ [59]))) ((38 :: (rnm k ++ [59])).isPrefixOf s.data.toList) := hbg
      have hNl : (tstr (rnm k)).size = (rnm k).length := tstr_size _
      obtain ⟨N, hN⟩ : ∃ N, tstr (rnm k) = N := ⟨_, rfl⟩
      obtain ⟨A, hAe⟩ : ∃ A, tstr (38 :: rnm k) = A := ⟨_, rfl⟩
      obtain ⟨B, hBe⟩ : ∃ B, tstr (38 :: (rnm k ++ [59])) = B := ⟨_, rfl⟩
      obtain ⟨C, hC⟩ : ∃ C, tstr (rch k) = C := ⟨_, rfl⟩
      rw [hN] at hc hA hNz hNl
      rw [hAe] at hA hAB hAz
      rw [hBe] at hAB hbg'
      rw [hC] at hp
      have had1 : ∀ W : World, (Op.stringOp .add ⟨#[38]⟩ N).run Tryd.prog W = .ok (.string A) W := fun W => by
        rw [← hA]; exact run_string_add_sum W _ _ (by have : (ByteArray.mk #[38]).size = 1 := rfl; omega)
      have had2 : ∀ W : World, (Op.stringOp .add A ⟨#[59]⟩).run Tryd.prog W = .ok (.string B) W := fun W => by
        rw [← hAB]; exact run_string_add_sum W _ _ (by have : (ByteArray.mk #[59]).size = 1 := rfl; omega)
      cases hpre : (38 :: (rnm k ++ [59])).isPrefixOf s.data.toList with
      | true =>
        rw [hpre] at hbg'
        have hres := rnext_semi hn hno hlt hpre
        rw [← hNl] at hres
        have HR := Lib.hid hres
        have HC := Lib.hid hC
        clear hpre hno hN hAe hBe hC hA hAB hAz hbg hN1 hnl hNl hn hres
        go_wp2_with fail
        refine (hbg' w1).mono ?_
        rintro e w' ⟨rfl, rfl⟩
        go_wp2_with fail
        go_quiet (fail)
        go_wp2_with fail
        go_ret2
        exact ⟨retSI (by rw [HR.out, ← HC.out]) (by rw [HR.out]; go_num), hB.trans ⟨rfl, rfl, rfl, Nat.le_refl _, fun _ _ => rfl⟩⟩
      | false =>
        rw [hpre] at hbg'
        have HN := Lib.hid (hno.step hpre)
        clear hpre hno hN hAe hBe hC hA hAB hAz hbg hN1 hnl hNl hp
        go_wp2_with fail
        refine (hbg' w1).mono ?_
        rintro e w' ⟨rfl, rfl⟩
        go_wp2_with fail
        go_round
        case rel => exact ⟨k + 1, by omega, by go_num, HN.out⟩
        case measure => simp [intOf]; omega
    · obtain rfl : k = 30 := by omega
      go_wp2_with fail
      go_loop [6] (fun a => ∃ k : Nat, k ≤ 4 ∧ a = .int .i64 k ∧ NoBare s.data.toList k) (fun a => 4 - (intOf a).toNat)
      case atStart => exact ⟨0, by omega, rfl, fun i h => absurd h (by omega)⟩
      case round =>
        obtain ⟨k, hk4, rfl, hnb⟩ := hrel
        clear hlt hk
        by_cases hlt : k < 4
        · obtain ⟨hc, hp⟩ := hR k (by omega)
          have hnl := rnm_len k (by omega)
          have hNz : (tstr (rnm k)).size ≤ 6 := by rw [tstr_size]; exact hnl
          have hA : (⟨#[38]⟩ : ByteArray) ++ tstr (rnm k) = tstr (38 :: rnm k) := tstr_append [38] (rnm k)
          have hbg : BG s (tstr (38 :: rnm k)) ((38 :: rnm k).isPrefixOf s.data.toList) := bg_any s (38 :: rnm k)
          have hNl : (tstr (rnm k)).size = (rnm k).length := tstr_size _
          obtain ⟨N, hN⟩ : ∃ N, tstr (rnm k) = N := ⟨_, rfl⟩
          obtain ⟨A, hAe⟩ : ∃ A, tstr (38 :: rnm k) = A := ⟨_, rfl⟩
          obtain ⟨C, hC⟩ : ∃ C, tstr (rch k) = C := ⟨_, rfl⟩
          rw [hN] at hc hA hNz hNl
          rw [hAe] at hA hbg
          rw [hC] at hp
          have had1 : ∀ W : World, (Op.stringOp .add ⟨#[38]⟩ N).run Tryd.prog W = .ok (.string A) W := fun W => by
            rw [← hA]; exact run_string_add_sum W _ _ (by have : (ByteArray.mk #[38]).size = 1 := rfl; omega)
          cases hpre : (38 :: rnm k).isPrefixOf s.data.toList with
          | false =>
            rw [hpre] at hbg
            have HN := Lib.hid (hnb.step (by rw [hpre]; rfl))
            clear hpre hno hN hAe hC hA hnl hNl hp hnb
            go_wp2_with fail
            refine (hbg w1).mono ?_
            rintro e w' ⟨rfl, rfl⟩
            go_wp2_with fail
            go_round
            case rel => exact ⟨k + 1, by omega, by go_num, HN.out⟩
            case measure => simp [intOf]; omega
          | true =>
            have hle : N.size + 1 ≤ s.size := by
              have h := bgp_len hpre
              have h' : (rnm k).length + 1 ≤ s.size := h
              omega
            rw [hpre] at hbg
            by_cases hend : s.size = N.size + 1
            · have hok : Ent.endOk (s.data.toList.drop ((rnm k).length + 1)) = true := by
                rw [List.drop_of_length_le (by show s.size ≤ _; omega)]; rfl
              have hres := rnext_bare hn hno hnb hlt (by rw [hpre, hok]; rfl)
              rw [← hNl] at hres
              have HR := Lib.hid hres
              have HC := Lib.hid hC
              have heq : ((s.size : Int) == (N.size : Int) + 1) = true := by rw [beq_iff_eq]; omega
              clear hpre hno hN hAe hC hA hnl hNl hnb hend hok hres hn
              go_wp2_with fail
              refine (hbg w1).mono ?_
              rintro e w' ⟨rfl, rfl⟩
              go_wp2_with fail
              go_ret2
              exact ⟨retSI (by rw [HR.out, ← HC.out]) (by rw [HR.out]; go_num), hB⟩
            · have hgt : N.size + 1 < s.size := by omega
              have hd : s.data.toList.drop ((rnm k).length + 1) = s[N.size + 1] :: s.data.toList.drop (N.size + 1 + 1) := by
                rw [← hNl]; exact drop_get s (N.size + 1) hgt
              obtain ⟨m, hm⟩ : ∃ m, m = N.size + 1 := ⟨_, rfl⟩
              have hmi : (N.size : Int) + 1 = (m : Int) := by omega
              have hml : m < s.size := by omega
              have heq : ((s.size : Int) == (m : Int)) = false := by rw [beq_eq_false_iff_ne]; omega
              have hd2 : s.data.toList.drop ((rnm k).length + 1) = s[m] :: s.data.toList.drop (m + 1) := by
                rw [← hNl, ← hm]; exact drop_get s m hml
              have hok : Ent.endOk (s.data.toList.drop ((rnm k).length + 1)) = !(Ent.word s[m]) := by rw [hd2]; rfl
              have hw := rword_any s[m]
              cases hwd : Ent.word s[m] with
              | true =>
                rw [hwd] at hw hok
                have HN := Lib.hid (hnb.step (by rw [hpre, hok]; rfl))
                clear hpre hno hN hAe hC hA hnl hNl hnb hend hok hd hd2 hm hp hwd
                go_wp2_with fail
                refine (hbg w1).mono ?_
                rintro e w' ⟨rfl, rfl⟩
                go_wp2_with fail
                refine (hw w1).mono ?_
                rintro e w' ⟨rfl, rfl⟩
                go_wp2_with fail
                go_round
                case rel => exact ⟨k + 1, by omega, by go_num, HN.out⟩
                case measure => simp [intOf]; omega
              | false =>
                rw [hwd] at hw hok
                have hres := rnext_bare hn hno hnb hlt (by rw [hpre, hok]; rfl)
                rw [← hNl, ← hm] at hres
                have HR := Lib.hid hres
                have HC := Lib.hid hC
                clear hpre hno hN hAe hC hA hnl hNl hnb hend hok hd hd2 hm hres hn hwd
                go_wp2_with fail
                refine (hbg w1).mono ?_
                rintro e w' ⟨rfl, rfl⟩
                go_wp2_with fail
                refine (hw w1).mono ?_
                rintro e w' ⟨rfl, rfl⟩
                go_wp2_with fail
                go_ret2
                exact ⟨retSI (by rw [HR.out, ← HC.out]) (by rw [HR.out]), hB⟩
        · obtain rfl : k = 4 := by omega
          have HR := Lib.hid (rnext_no hn hno hnb)
          clear hno hnb hn
          go_wp2_with fail
          go_ret2
          exact ⟨retSI (by rw [HR.out]; rfl) (by rw [HR.out]; rfl), hB⟩

theorem rnext_any (s : ByteArray) (w : World) (hs : s.size ≤ 20000) :
    Calls Tryd.prog 17 #[.string s] w fun e w' => e = .returned (.tuple #[.string (tstr (Ent.next s.data.toList).1), .int .i64 (Ent.next s.data.toList).2]) ∧ Below w.heap.size w w' := by
  rw [← Ent.rnext_next]
  by_cases hn : NoNum s.data.toList
  · exact rnext_name s w hs hn
  · exact rnext_num s w hs hn

end Go.Proofs.YtmpdapjfndjicaaDoor
