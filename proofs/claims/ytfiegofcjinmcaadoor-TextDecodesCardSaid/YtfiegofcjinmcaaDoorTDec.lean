/- The statement TextDecodes returns true: its walk. -/
import Derived.Test.YtfiegofcjinmcaaDoorTAwake
import Derived.Test.YtfiegofcjinmcaaDoorTFeed
import Derived.Test.YtfiegofcjinmcaaDoorTCFeed
namespace Go.Proofs.YtfiegofcjinmcaaDoor
open Go.RowKit

/-- What the walk is told of a slice of strings that came in. -/
def RowB (w : World) (A : Option Addr) (ss : List ByteArray) : Prop :=
  ∀ i, i < ss.length → ∃ b o, A = some ⟨b, o, none⟩ ∧ b < w.heap.size ∧ w.cell? ⟨b, o + i, none⟩ = some (.string (ss.getD i ByteArray.empty))
theorem RowB.below {w w' : World} {A : Option Addr} {ss : List ByteArray} (h : RowB w A ss) (hb : Below w.heap.size w w') : RowB w' A ss := by
  intro i hi
  obtain ⟨b, o, h1, h2, h3⟩ := h i hi
  exact ⟨b, o, h1, by have := hb.size; omega, (hb.cell (p := ⟨b, o + i, none⟩) h2).trans h3⟩

theorem cut_ab {l1 l2 : List UInt8} (h : [97, 98] = l1 ++ l2) (hc : Txt.Cut l1 l2) : l1 = [97, 98] ∧ l2 = [] := by
  rcases hc.1 with rfl | hb
  · exact ⟨by rw [h, List.append_nil], rfl⟩
  · exfalso
    match l1, h with
    | [], h => rw [List.nil_append] at h; subst h; exact absurd (Txt.beg_first hb) (by decide)
    | [a], h =>
      injection h with h1 h2
      have h2' : l2 = [98] := h2.symm
      subst h2'
      exact absurd (Txt.beg_first hb) (by decide)
    | [a, b], h =>
      injection h with h1 h2
      injection h2 with h2 h3
      have h3' : l2 = [] := h3.symm
      subst h3'
      cases hb
    | a :: b :: c :: r, h => injection h with h1 h2; injection h2 with h2 h3; cases h3
theorem rep_ab : Txt.rep [97, 98] = [97, 98] := by
  rw [Txt.rep_good (by decide), show Txt.size [97, 98] = 1 from by decide]
  show [97] ++ Txt.rep [98] = _
  rw [Txt.rep_good (by decide), show Txt.size [98] = 1 from by decide]
  show [97] ++ ([98] ++ Txt.rep []) = _
  rw [Txt.rep_nil]; rfl

set_option maxRecDepth 100000 in
set_option maxHeartbeats 400000 in
theorem decodes_walk (A : Option Addr) (cap : Nat) (ss : List ByteArray) (w : World) (hT : Lit w) (hA : RowB w A ss) (hz : ∀ s ∈ ss, s.size ≤ 140737488351232) :
    Calls Tryd.prog 6 #[.slice A ss.length cap] w fun e w' => e = .returned (.bool true) ∧ Below w.heap.size w w' := by
  by_cases hs : ss.length ≤ 60
  · have hs' : (ss.length : Int) ≤ 60 := by omega
    go_enter Tryd.func6, Tryd.ntmps6
    go_wp2_with fail
    refine (awake_any w).mono ?_
    rintro e w1 ⟨rfl, hb1⟩
    have hA1 := hA.below hb1
    have hT1 := hT.below hb1
    go_wp2_with fail
    have HB1 := Lib.hid hb1
    clear hb1 hA
    go_loopw [4, 5, 6] (fun va vg vi wr => ∃ (k : Nat) (P G r : List UInt8), k ≤ ss.length ∧ vi = .int .i64 k ∧ va = .string (tstr P) ∧ vg = .string (tstr G) ∧ Dec wr w1.heap.size r ∧ P.length ≤ 2000 ∧ r.length ≤ 3 ∧ (∀ x, Txt.rep (P ++ x) = G ++ Txt.rep (r ++ x)) ∧ Below w1.heap.size w1 wr) (fun _ _ vi _ => ss.length - (intOf vi).toNat)
    case atStart => exact ⟨0, [], [], [], Nat.zero_le _, rfl, rfl, rfl, Whole.new _ _ _, Nat.zero_le _, Nat.zero_le _, fun x => rfl, (Below.refl _ _).alloc (Nat.le_refl _) _⟩
    case round =>
      obtain ⟨k, P, G, r, hk, rfl, rfl, rfl, hdec, hP, hr, hinv, hbel⟩ := hrel
      have hPs : (tstr P).size = P.length := tstr_size P
      have hGl : G.length ≤ 6000 := by
        have h1 := congrArg List.length (hinv [])
        have h2 := Txt.rep_len (P ++ [])
        rw [List.append_nil] at h1 h2
        rw [List.length_append] at h1; omega
      have HI := Lib.hid hinv
      clear hinv
      by_cases hlt : k < ss.length
      · obtain ⟨xb, xo, rfl, hxb, hxc⟩ := hA1.below hbel k hlt
        have hp0 : (k : Int) < (ss.length : Int) := by omega
        have hsz := hz (ss.getD k ByteArray.empty) (by simp [List.getD, hlt])
        obtain ⟨s, hs2⟩ : ∃ s, ss.getD k ByteArray.empty = s := ⟨_, rfl⟩
        rw [hs2] at hxc hsz
        clear hs2
        by_cases hbig : P.length + s.size ≤ 2000
        · have hbig' : ((tstr P).size : Int) + (s.size : Int) ≤ 2000 := by omega
          have had1 : ∀ W : World, (Op.stringOp .add (tstr P) s).run Tryd.prog W = .ok (.string (tstr P ++ s)) W := fun W => run_string_add_sum W _ _ (by omega)
          go_wp2_with fail
          refine (tfeed_any w1.heap.size r s wr (by omega) (by omega) hdec (hT1.below hbel)).mono ?_
          rintro e w3 ⟨l1, l2, hcat, hcut, rfl, hdec3, hg3⟩
          have hb3 : Below w1.heap.size w1 w3 := hbel.grown hg3 hbel.size (fun j hj => by injection hj; omega)
          have hl2 : l2.length ≤ 3 := by
            rcases hcut.1 with h | h
            · rw [h]; exact Nat.zero_le _
            · exact (Txt.beg_len h).2
          have hsd : tstr s.data.toList = s := tstr_of s
          obtain ⟨P', hP'⟩ : ∃ P', P ++ s.data.toList = P' := ⟨_, rfl⟩
          have hPa : tstr P ++ s = tstr P' := by rw [← hP', ← tstr_append, hsd]
          have hP'l : P'.length ≤ 2000 := by
            rw [← hP', List.length_append]
            have : s.data.toList.length = s.size := rfl
            omega
          obtain ⟨G', hG'⟩ : ∃ G', G ++ Txt.rep l1 = G' := ⟨_, rfl⟩
          have hGa : tstr G ++ tstr (Txt.rep l1) = tstr G' := by rw [tstr_append, hG']
          have hinv : ∀ x, Txt.rep (P' ++ x) = G' ++ Txt.rep (l2 ++ x) := by
            intro x
            rw [← hP', List.append_assoc, HI.out, ← List.append_assoc r, hcat, List.append_assoc l1, Txt.rep_cut hcut, ← hG', List.append_assoc]
          have hfull := hinv []
          rw [List.append_nil, List.append_nil] at hfull
          have hPl3 := Txt.rep_len P'
          have hsum := congrArg List.length hfull
          rw [List.length_append] at hsum
          have hG'l : G'.length ≤ 6000 := by omega
          have hl1l : (Txt.rep l1).length ≤ 6000 := by
            have := congrArg List.length hG'
            rw [List.length_append] at this; omega
          have hR2l : (Txt.rep l2).length ≤ 6000 := by omega
          have sz1 : (tstr G).size ≤ 6000 := by rw [tstr_size]; exact hGl
          have sz2 : (tstr (Txt.rep l1)).size ≤ 6000 := by rw [tstr_size]; exact hl1l
          have sz3 : (tstr G').size ≤ 6000 := by rw [tstr_size]; exact hG'l
          have sz4 : (tstr (Txt.rep l2)).size ≤ 6000 := by rw [tstr_size]; exact hR2l
          have sz5 : (tstr l2).size ≤ 3 := by rw [tstr_size]; exact hl2
          have had2 : ∀ W : World, (Op.stringOp .add (tstr G) (tstr (Txt.rep l1))).run Tryd.prog W = .ok (.string (tstr G')) W := fun W => by rw [run_string_add_sum W _ _ (by omega), hGa]
          have had3 : ∀ W : World, (Op.stringOp .add (tstr G') (tstr (Txt.rep l2))).run Tryd.prog W = .ok (.string (tstr (Txt.rep P'))) W := fun W => by rw [run_string_add_sum W _ _ (by omega), tstr_append, hfull]
          have hc3 : w3.cell? ⟨w1.heap.size, 0, none⟩ = some (.string (tstr l2)) := hdec3.cell 0
          have hq : ((tstr (Txt.rep P')).toList != (tstr (Txt.rep P')).toList) = false := by simp
          have h53 : ((tstr l2).size : Int) ≤ 3 := by omega
          have hP's : (tstr P').size ≤ 10000 := by rw [tstr_size]; omega
          have HV := Lib.hid hinv
          rw [hPa]
          clear hinv hfull hsum hG' hP' hcat hGa hPa hsd had1 hcut
          go_wp2_with fail
          refine (rrepair_any (tstr l2) w3 (by omega)).mono ?_
          rintro e w4 ⟨rfl, hb4⟩
          rw [tstr_data]
          go_wp2_with fail
          refine (rrepair_any (tstr P') w4 (by omega)).mono ?_
          rintro e w5 ⟨rfl, hb5⟩
          rw [tstr_data]
          have hb35 := below_trans' hb4 hb5
          have hdec5 := Whole.below hdec3 hb35 (Whole.lt hdec3)
          have HD5 := Lib.hid hdec5
          have HB5 := Lib.hid (hb3.trans (hb35.mono hb3.size))
          clear hdec5 hb35 hdec3
          go_wp2_with fail
          go_roundw
          case rel => exact ⟨k + 1, P', G', l2, by omega, by go_num, rfl, rfl, HD5.out, hP'l, hl2, HV.out, HB5.out⟩
          case measure => simp [intOf]; omega
        · have hbig' : ¬ ((tstr P).size : Int) + (s.size : Int) ≤ 2000 := by omega
          go_wp2_with fail
          go_ret
          exact ⟨rfl, HB1.out.trans (hbel.mono HB1.out.size)⟩
      · have ek : k = ss.length := by omega
        subst ek
        go_wp2_with fail
        refine (tend_any w1.heap.size r wr (by omega) hdec (hT1.below hbel)).mono ?_
        rintro e w3 ⟨rfl, hdec3, hg3⟩
        have hb3 : Below w1.heap.size w1 w3 := hbel.grown hg3 hbel.size (fun j hj => by injection hj; omega)
        have hfull := HI.out []
        rw [List.append_nil, List.append_nil] at hfull
        have hPl3 := Txt.rep_len P
        have hsum := congrArg List.length hfull
        rw [List.length_append] at hsum
        have sz1 : (tstr G).size ≤ 6000 := by rw [tstr_size]; exact hGl
        have sz2 : (tstr (Txt.rep r)).size ≤ 6000 := by rw [tstr_size]; omega
        have had2 : ∀ W : World, (Op.stringOp .add (tstr G) (tstr (Txt.rep r))).run Tryd.prog W = .ok (.string (tstr (Txt.rep P))) W := fun W => by rw [run_string_add_sum W _ _ (by omega), tstr_append, hfull]
        have hPs' : (tstr P).size ≤ 10000 := by omega
        have hq : ((tstr (Txt.rep P)).toList == (tstr (Txt.rep P)).toList) = true := by simp
        have hq0 : (tstr []).toList.isEmpty = true := by rw [Lib.toList_data]; rfl
        have hqa : ((tstr [97, 98]).toList == [97, 98]) = true := by rw [Lib.toList_data, tstr_data]; rfl
        clear hfull hsum
        go_wp2_with fail
        refine (rrepair_any (tstr P) w3 hPs').mono ?_
        rintro e w4 ⟨rfl, hb4⟩
        rw [tstr_data]
        have hdec4 := Whole.below hdec3 hb4 (Whole.lt hdec3)
        have hc4 : w4.cell? ⟨w1.heap.size, 0, none⟩ = some (.string (tstr [])) := hdec4.cell 0
        go_wp2_with fail
        refine (tfeed_any w1.heap.size [] (tstr [97, 98]) w4 (by decide) (by decide) hdec4 ((hT1.below hb3).below hb4)).mono ?_
        rintro e w5 ⟨l1, l2, hcat, hcut, rfl, hdec5, hg5⟩
        obtain ⟨rfl, rfl⟩ := cut_ab hcat hcut
        rw [rep_ab]
        have hb45 : Below w1.heap.size w1 w5 := (hb3.trans (hb4.mono hb3.size)).grown hg5 (hb3.trans (hb4.mono hb3.size)).size (fun j hj => by injection hj; omega)
        go_wp2_with fail
        go_ret
        exact ⟨rfl, HB1.out.trans (hb45.mono HB1.out.size)⟩
  · have hs' : ¬ (ss.length : Int) ≤ 60 := by omega
    go_enter Tryd.func6, Tryd.ntmps6
    go_wp2_with fail
    refine (awake_any w).mono ?_
    rintro e w1 ⟨rfl, hb1⟩
    go_wp2_with fail
    refine (awake_any w1).mono ?_
    rintro e w2 ⟨rfl, hb2⟩
    go_wp2_with fail
    go_ret
    exact ⟨rfl, below_trans' hb1 hb2⟩

end Go.Proofs.YtfiegofcjinmcaaDoor
