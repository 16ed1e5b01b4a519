/- A reference by a name: the program's byName. -/
import Derived.Test.YtmpdapjfndjicaaDoorETab
import Derived.Test.YtmpdapjfndjicaaDoorENum
namespace Go.Proofs.YtmpdapjfndjicaaDoor
open Go Go.RowKit

/-- The letters up to index k have been seen. -/
def LSt (l : List UInt8) (k : Nat) : Prop := (l.drop 1).takeWhile Ent.isL = (l.drop 1).take (k - 1) ++ (l.drop k).takeWhile Ent.isL ∧ (l.drop 1).dropWhile Ent.isL = (l.drop k).dropWhile Ent.isL
theorem LSt.start (l : List UInt8) : LSt l 1 := ⟨by simp, rfl⟩
theorem LSt.step {s : ByteArray} {k : Nat} (h : LSt s.data.toList k) (h1 : 1 ≤ k) (hk : k < s.size) (hl : Ent.isL s[k] = true) : LSt s.data.toList (k + 1) := by
  obtain ⟨h2, h3⟩ := h
  have hd := drop_get s k hk
  refine ⟨?_, ?_⟩
  · rw [h2, hd, List.takeWhile_cons, if_pos hl]
    have e : (s.data.toList.drop 1).take (k + 1 - 1) = (s.data.toList.drop 1).take (k - 1) ++ [s[k]] := by
      have hlen : k - 1 < (s.data.toList.drop 1).length := by rw [List.length_drop]; show k - 1 < s.size - 1; omega
      rw [show k + 1 - 1 = (k - 1) + 1 from by omega, List.take_succ_eq_append_getElem hlen, List.getElem_drop]
      congr 2
      have : 1 + (k - 1) = k := by omega
      simp only [this]; rfl
    rw [e, List.append_assoc]; rfl
  · rw [h3, hd, List.dropWhile_cons, if_pos hl]
theorem LSt.stop {s : ByteArray} {k : Nat} (h : LSt s.data.toList k) (h1 : 1 ≤ k) (hk : ∀ h : k < s.size, Ent.isL s[k] = false) : Ent.byName s.data.toList = Ent.byN (s.extract 1 k).data.toList (s.data.toList.drop k) := by
  have e1 : (s.extract 1 k).data.toList = (s.data.toList.drop 1).take (k - 1) := by
    have := textract s 1 (k - 1)
    rwa [show 1 + (k - 1) = k from by omega] at this
  have e2 : (s.data.toList.drop k).takeWhile Ent.isL = [] ∧ (s.data.toList.drop k).dropWhile Ent.isL = s.data.toList.drop k := by
    by_cases hl : k < s.size
    · rw [drop_get s k hl, List.takeWhile_cons, List.dropWhile_cons, if_neg (by rw [hk hl]; simp), if_neg (by rw [hk hl]; simp)]
      exact ⟨rfl, rfl⟩
    · rw [List.drop_of_length_le (by show s.size ≤ k; omega)]; exact ⟨rfl, rfl⟩
  unfold Ent.byName
  rw [← List.drop_one, h.1, h.2, e2.1, e2.2, List.append_nil, e1]
theorem byN_none {nm r : List UInt8} (h : Ent.look nm = none) : Ent.byN nm r = ([], 0) := by unfold Ent.byN; rw [h]
theorem byN_semi {nm r c : List UInt8} (h : Ent.look nm = some c) (h2 : r.head? = some 59) : Ent.byN nm r = (c, nm.length + 2) := by unfold Ent.byN; rw [h]; simp only; rw [if_pos h2]
theorem byN_bare {nm r c : List UInt8} (h : Ent.look nm = some c) (h2 : r.head? ≠ some 59) (h3 : Ent.bare nm = true) (h4 : Ent.endOk r = true) : Ent.byN nm r = (c, nm.length + 1) := by unfold Ent.byN; rw [h]; simp only; rw [if_neg h2, h3, h4]; rfl
theorem byN_no {nm r c : List UInt8} (h : Ent.look nm = some c) (h2 : r.head? ≠ some 59) (h3 : (Ent.bare nm && Ent.endOk r) = false) : Ent.byN nm r = ([], 0) := by unfold Ent.byN; rw [h]; simp only; rw [if_neg h2, h3]; rfl
theorem ext_len (s : ByteArray) (k : Nat) (h1 : 1 ≤ k) (hk : k ≤ s.size) : (s.extract 1 k).data.toList.length = k - 1 := by
  have := textract s 1 (k - 1)
  rw [show 1 + (k - 1) = k from by omega] at this
  rw [this, List.length_take, List.length_drop]
  show min (k - 1) (s.size - 1) = k - 1
  omega

set_option maxRecDepth 100000 in
set_option maxHeartbeats 2000000 in
theorem tbyName_any (s : ByteArray) (w : World) (hT : Tab w) (h1 : 1 ≤ s.size) (hs : s.size ≤ 20000) :
    Calls Tryd.prog 26 #[.string s] w fun e w' => e = .returned (.tuple #[.string (tstr (Ent.byName s.data.toList).1), .int .i64 (Ent.byName s.data.toList).2]) ∧ w = w' := by
  go_enter Tryd.func26, Tryd.ntmps26
  go_wp2_with fail
  go_loop [4] (fun a => ∃ k : Nat, 1 ≤ k ∧ k ≤ s.size ∧ a = .int .i64 k ∧ LSt s.data.toList k) (fun a => s.size - (intOf a).toNat)
  case atStart => exact ⟨1, by omega, h1, rfl, LSt.start _⟩
  case round =>
    obtain ⟨k, hk1, hk2, rfl, hL⟩ := hrel
    by_cases hl : ∃ h : k < s.size, Ent.isL s[k] = true
    · obtain ⟨hlt, hl⟩ := hl
      have HS := Lib.hid (hL.step hk1 hlt hl)
      have hc : ∀ w : World, Calls Tryd.prog 37 #[.int .u8 s[k].toNat] w fun e w' => e = .returned (.bool true) ∧ w = w' := fun w => by rw [← hl]; exact tisLetter_any s[k] w
      clear hL hl
      go_wp2_with (go_at_call 37; refine (hc _).mono ?_; rintro e w' ⟨rfl, rfl⟩)
      go_round
      case rel => exact ⟨k + 1, by omega, by omega, by go_num, HS.out⟩
      case measure => simp [intOf]; omega
    · have hno : ∀ h : k < s.size, Ent.isL s[k] = false := fun h => by
        cases e : Ent.isL s[k] with
        | false => rfl
        | true => exact absurd ⟨h, e⟩ hl
      have hst := hL.stop hk1 hno
      have hlen := ext_len s k hk1 hk2
      have hlk : ∀ w : World, Tab w → _ := fun w h => tlookup_any (s.extract 1 k) w h
      have hbr := tisBare_any (s.extract 1 k)
      clear hl hL
      have hsl : ∀ W : World, (Instr.slice 9 (.string s) (some (.int .i64 1)) (some (.int .i64 k)) none).run Tryd.prog W = .ok (.string (s.extract 1 k)) W := fun W => by
        rw [run_slice_string W _ s _ _ _ _ Tryd.underlying9 (by omega) (by omega) (by omega)]; rfl
      obtain ⟨E, hE⟩ : ∃ E, s.extract 1 k = E := ⟨_, rfl⟩
      rw [hE] at hsl hst hlen hlk hbr
      clear hE
      obtain ⟨nm, hnm⟩ : ∃ nm, E.data.toList = nm := ⟨_, rfl⟩
      rw [hnm] at hst hlen hlk hbr
      clear hnm
      cases hlook : Ent.look nm with
      | none =>
        rw [hlook] at hlk
        have HR := Lib.hid (hst.trans (byN_none hlook))
        have hq := hlk w hT
        clear hst hlen hlook hlk hbr
        by_cases hlt : k < s.size
        · have hc : ∀ w : World, Calls Tryd.prog 37 #[.int .u8 s[k].toNat] w fun e w' => e = .returned (.bool false) ∧ w = w' := fun w => by rw [← hno hlt]; exact tisLetter_any s[k] w
          clear hno
          go_wp2_with (first | (go_at_call 37; refine (hc _).mono ?_; rintro e w' ⟨rfl, rfl⟩) | (go_at_call 12; refine hq.mono ?_; rintro e w' ⟨rfl, rfl⟩))
          go_ret2
          exact ⟨retSI (by rw [HR.out]; rfl) (by rw [HR.out]; rfl), rfl⟩
        · clear hno
          go_wp2_with (go_at_call 12; refine hq.mono ?_; rintro e w' ⟨rfl, rfl⟩)
          go_ret2
          exact ⟨retSI (by rw [HR.out]; rfl) (by rw [HR.out]; rfl), rfl⟩
      | some c =>
        rw [hlook] at hlk
        have hq := hlk w hT
        clear hlk
        obtain ⟨C, hC⟩ : ∃ C, tstr c = C := ⟨_, rfl⟩
        simp only [Option.getD_some, Option.isSome_some] at hq
        rw [hC] at hq
        by_cases hlt : k < s.size
        · have hc : ∀ w : World, Calls Tryd.prog 37 #[.int .u8 s[k].toNat] w fun e w' => e = .returned (.bool false) ∧ w = w' := fun w => by rw [← hno hlt]; exact tisLetter_any s[k] w
          have hd := drop_get s k hlt
          have hhead : (s.data.toList.drop k).head? = some s[k] := by rw [hd]; rfl
          by_cases h59 : s[k].toNat = 59
          · have hres := hst.trans (byN_semi hlook (by rw [hhead, (u8_is s[k] 59 (by decide)).2 h59]; rfl))
            rw [hlen] at hres
            have HR := Lib.hid hres
            have HC := Lib.hid hC
            have f59 : ((s[k].toNat : Int) == 59) = true := by rw [h59]; rfl
            clear hst hlen hlook hbr hno hd hhead h59 hres hC
            go_wp2_with (first | (go_at_call 37; refine (hc _).mono ?_; rintro e w' ⟨rfl, rfl⟩) | (go_at_call 12; refine hq.mono ?_; rintro e w' ⟨rfl, rfl⟩))
            go_ret2
            exact ⟨retSI (by rw [HR.out, ← HC.out]) (by rw [HR.out]; simp only; omega), rfl⟩
          · have hne : (s.data.toList.drop k).head? ≠ some 59 := by
              rw [hhead]; intro e; exact h59 (by rw [Option.some.inj e]; rfl)
            have f59 : ((s[k].toNat : Int) == 59) = false := by rw [beq_eq_false_iff_ne]; omega
            have hks : ((k : Int) == (s.size : Int)) = false := by rw [beq_eq_false_iff_ne]; omega
            have hend : Ent.endOk (s.data.toList.drop k) = (!(s[k].toNat == 61) && decide (9 < Ent.dig s[k])) := by
              rw [hd]; exact Ent.word_dig (hno hlt)
            cases hb : Ent.bare nm with
            | false =>
              rw [hb] at hbr
              have HR := Lib.hid (hst.trans (byN_no hlook hne (by rw [hb]; rfl)))
              clear hst hlen hlook hno hd hhead h59 hC hne hend hb
              go_wp2_with (first | (go_at_call 37; refine (hc _).mono ?_; rintro e w' ⟨rfl, rfl⟩) | (go_at_call 12; refine hq.mono ?_; rintro e w' ⟨rfl, rfl⟩) | (go_at_call 38; refine (hbr _).mono ?_; rintro e w' ⟨rfl, rfl⟩))
              go_ret2
              exact ⟨retSI (by rw [HR.out]; rfl) (by rw [HR.out]; rfl), rfl⟩
            | true =>
              rw [hb] at hbr
              by_cases h61 : s[k].toNat = 61
              · have f61 : ((s[k].toNat : Int) != 61) = false := by rw [h61]; rfl
                have HR := Lib.hid (hst.trans (byN_no hlook hne (by rw [hb, hend, h61]; rfl)))
                clear hst hlen hlook hno hd hhead h59 hC hne hend hb h61
                go_wp2_with (first | (go_at_call 37; refine (hc _).mono ?_; rintro e w' ⟨rfl, rfl⟩) | (go_at_call 12; refine hq.mono ?_; rintro e w' ⟨rfl, rfl⟩) | (go_at_call 38; refine (hbr _).mono ?_; rintro e w' ⟨rfl, rfl⟩))
                go_ret2
                exact ⟨retSI (by rw [HR.out]; rfl) (by rw [HR.out]; rfl), rfl⟩
              · have f61 : ((s[k].toNat : Int) != 61) = true := by rw [bne_iff_ne]; omega
                have g61 : (s[k].toNat == 61) = false := by rw [beq_eq_false_iff_ne]; exact h61
                have hdg : ∀ w : World, Calls Tryd.prog 36 #[.int .u8 s[k].toNat] w fun e w' => e = .returned (.int .i64 (Ent.dig s[k] : Nat)) ∧ w = w' := tdigit_any s[k]
                obtain ⟨d, hdd⟩ : ∃ d, Ent.dig s[k] = d := ⟨_, rfl⟩
                rw [hdd] at hdg hend
                by_cases h9 : 9 < d
                · have hres := hst.trans (byN_bare hlook hne hb (by rw [hend, g61, decide_eq_true h9]; rfl))
                  rw [hlen] at hres
                  have HR := Lib.hid hres
                  have HC := Lib.hid hC
                  clear hst hlen hlook hno hd hhead h59 hC hne hend hb h61 g61 hdd hres
                  go_wp2_with (first | (go_at_call 37; refine (hc _).mono ?_; rintro e w' ⟨rfl, rfl⟩) | (go_at_call 12; refine hq.mono ?_; rintro e w' ⟨rfl, rfl⟩) | (go_at_call 38; refine (hbr _).mono ?_; rintro e w' ⟨rfl, rfl⟩) | (go_at_call 36; refine (hdg _).mono ?_; rintro e w' ⟨rfl, rfl⟩))
                  go_ret2
                  exact ⟨retSI (by rw [HR.out, ← HC.out]) (by rw [HR.out]; simp only; omega), rfl⟩
                · have HR := Lib.hid (hst.trans (byN_no hlook hne (by rw [hb, hend, g61, decide_eq_false h9]; rfl)))
                  have i9 : (d : Int) ≤ 9 := by omega
                  clear hst hlen hlook hno hd hhead h59 hC hne hend hb h61 g61 hdd h9
                  go_wp2_with (first | (go_at_call 37; refine (hc _).mono ?_; rintro e w' ⟨rfl, rfl⟩) | (go_at_call 12; refine hq.mono ?_; rintro e w' ⟨rfl, rfl⟩) | (go_at_call 38; refine (hbr _).mono ?_; rintro e w' ⟨rfl, rfl⟩) | (go_at_call 36; refine (hdg _).mono ?_; rintro e w' ⟨rfl, rfl⟩))
                  go_ret2
                  exact ⟨retSI (by rw [HR.out]; rfl) (by rw [HR.out]; rfl), rfl⟩
        · have hnil : s.data.toList.drop k = [] := List.drop_of_length_le (by show s.size ≤ k; omega)
          rw [hnil] at hst
          cases hb : Ent.bare nm with
          | false =>
            rw [hb] at hbr
            have HR := Lib.hid (hst.trans (byN_no hlook (by simp) (by rw [hb]; rfl)))
            clear hst hlen hlook hno hC hb hnil
            go_wp2_with (first | (go_at_call 12; refine hq.mono ?_; rintro e w' ⟨rfl, rfl⟩) | (go_at_call 38; refine (hbr _).mono ?_; rintro e w' ⟨rfl, rfl⟩))
            go_ret2
            exact ⟨retSI (by rw [HR.out]; rfl) (by rw [HR.out]; rfl), rfl⟩
          | true =>
            rw [hb] at hbr
            have hres := hst.trans (byN_bare hlook (by simp) hb rfl)
            rw [hlen] at hres
            have HR := Lib.hid hres
            have HC := Lib.hid hC
            have hks : ((k : Int) == (s.size : Int)) = true := by rw [beq_iff_eq]; omega
            clear hst hlen hlook hno hC hb hnil hres
            go_wp2_with (first | (go_at_call 12; refine hq.mono ?_; rintro e w' ⟨rfl, rfl⟩) | (go_at_call 38; refine (hbr _).mono ?_; rintro e w' ⟨rfl, rfl⟩))
            go_ret2
            exact ⟨retSI (by rw [HR.out, ← HC.out]) (by rw [HR.out]; simp only; omega), rfl⟩

end Go.Proofs.YtmpdapjfndjicaaDoor
