/- The statement MarkupTokens returns true: its walk. -/
import Derived.Test.YtckmlbcpldpkpaaGreatDoorWMRTk
import Derived.Test.YtckmlbcpldpkpaaGreatDoorWMSam
namespace Go.Proofs.YtckmlbcpldpkpaaGreatDoor
open Go Go.RowKit
set_option linter.unusedVariables false

set_option maxRecDepth 100000 in
set_option maxHeartbeats 4000000 in
theorem tokens_walk (a : ByteArray) (w : World) (hE : Env w) (hz : a.size ≤ 140737488351232) :
    Calls Tryz.prog 3 #[.string a] w fun e w' => e = .returned (.bool true) ∧ Below w.heap.size w w' := by
  have HE := Lib.hid hE
  have haw := mawake_any w hE
  clear hE
  by_cases hbig : a.size ≤ 1500
  · have hbig' : (a.size : Int) ≤ 1500 := by omega
    have hll : a.data.toList.length = a.size := rfl
    have hrl := Txt.rep_len a.data.toList
    have hdl : (docText a.data.toList).length ≤ 4500 := by
      have := Txt.newl_len false (Txt.rep a.data.toList)
      unfold docText
      omega
    have htk := fun W (hW : Env W) => ktokens_any a W hW (by omega) (by omega)
    have hrt := fun W => rtokens_any a W hbig
    have hgood := Mk.tokens_good 4500 _ (docText a.data.toList) (Nat.le_refl _) hdl
    have htl := Nat.le_trans (Mk.tokens_len (docText a.data.toList)) hdl
    generalize Mk.tokens (docText a.data.toList) = TS at htk hrt hgood htl
    have HGD := Lib.hid hgood
    clear hll hrl hdl hgood
    go_enter Tryz.func3, Tryz.ntmps3
    go_wp2_with fail
    refine haw.mono ?_
    clear haw
    rintro e w1 ⟨rfl, hb1⟩
    have htk := htk w1 (HE.out.below hb1)
    go_wp2_with fail
    refine htk.mono ?_
    clear htk
    rintro e w2 ⟨v1, l1, rfl, hl1, hr1, hb2⟩
    have hB2 := below_trans' hb1 hb2
    obtain ⟨A1, c1, rfl⟩ := hr1.form
    have HR1 := Lib.hid hr1
    have HL1 := Lib.hid hl1
    clear hr1 hl1 hb1 hb2
    go_wp2_with fail
    refine (hrt _).mono ?_
    clear hrt
    rintro e w3 ⟨v2, l2, rfl, hl2, hr2, hb3⟩
    have HB3 := Lib.hid (below_trans' hB2 hb3)
    have HR13 := Lib.hid (HR1.out.below hb3)
    obtain ⟨A2, c2, rfl⟩ := hr2.form
    have HR2 := Lib.hid hr2
    have hn1 : l1.length = TS.length := by rw [← HL1.out, List.length_map]
    have hn2 : l2.length = TS.length := by rw [← hl2, List.length_map]
    have HL2 := Lib.hid hl2
    obtain ⟨n, hn⟩ : ∃ n, TS.length = n := ⟨_, rfl⟩
    rw [hn] at hn1 hn2 htl
    have HN1 := Lib.hid hn1
    have HN2 := Lib.hid hn2
    rw [hn1, hn2]
    have qn : ((n : Int) != (n : Int)) = false := by simp
    clear hr2 hl2 hb3 hB2 hn1 hn2 hn HR1
    go_wp2_with fail
    go_loopw [5] (fun i wr => ∃ k : Nat, k ≤ n ∧ i = .int .i64 k ∧ Below w3.heap.size w3 wr) (fun i _ => n - (intOf i).toNat)
    case atStart => exact ⟨0, Nat.zero_le _, rfl, Below.refl _ _⟩
    case round =>
      obtain ⟨k, hk, rfl, hB⟩ := hrel
      by_cases hlt : k < n
      · have hlt' : (k : Int) < (n : Int) := by omega
        have k1 : k < l1.length := by rw [HN1.out]; exact hlt
        have k2 : k < l2.length := by rw [HN2.out]; exact hlt
        have he : l2[k].1 = l1[k].1 := by
          have h1 := List.getElem_of_eq (HL2.out.trans HL1.out.symm) (i := k) (by rw [List.length_map]; exact k2)
          simpa using h1
        obtain ⟨g1, e1, hA1, _, hg1, a0, a1, a2, a3, a4⟩ := HR13.out.at k k1
        obtain ⟨g2, e2, hA2, _, hg2, b0, b1, b2, b3, b4⟩ := HR2.out.at k k2
        injection hA1 with hA1 _ hc1
        subst hA1 hc1
        injection hA2 with hA2 _ hc2
        subst hA2 hc2
        have hBd : Below w3.heap.size w3 wr.drew := ⟨hB.os, hB.tape, hB.output, hB.size, hB.block⟩
        have r1 := (HR13.out.2 _ (List.getElem_mem k1)).below hBd
        have r2 := (HR2.out.2 _ (List.getElem_mem k2)).below hBd
        have hm9 := (HGD.out l1[k].1 (by rw [← HL1.out]; exact List.mem_map.2 ⟨_, List.getElem_mem k1, rfl⟩)).attrs.len
        rw [he] at b0 b1 b3 b4 r2
        clear he
        generalize l1[k].1 = T at *
        generalize l1[k].2 = V1 at *
        generalize l2[k].2 = V2 at *
        obtain ⟨B1, f1, rfl⟩ := r1.form
        obtain ⟨B2, f2, rfl⟩ := r2.form
        replace a0 := (hB.cell hg1).trans a0
        replace a1 := (hB.cell hg1).trans a1
        replace a2 := (hB.cell hg1).trans a2
        replace a3 := (hB.cell hg1).trans a3
        replace a4 := (hB.cell hg1).trans a4
        replace b0 := (hB.cell hg2).trans b0
        replace b1 := (hB.cell hg2).trans b1
        replace b2 := (hB.cell hg2).trans b2
        replace b3 := (hB.cell hg2).trans b3
        replace b4 := (hB.cell hg2).trans b4
        have hsm := lsame_any T _ _ _ _ wr.drew r1 r2 hm9
        unfold tokT at hsm
        generalize (T.kind : Int) = K at *
        generalize tstr T.name = NM at *
        generalize tstr T.text = TX at *
        generalize T.closed = CL at *
        generalize T.attrs.length = m at *
        have hsm := Lib.hid hsm
        have HBK := Lib.hid hBd
        clear r1 r2 hB hBd hm9
        go_wp2_with fail
        go_region_with (go_at_call 11; refine hsm.out.mono ?_; rintro e w9 ⟨rfl, hb9⟩)
        all_goals
          go_wp2_with fail
          go_roundw
          case rel => exact ⟨k + 1, by omega, by go_num, HBK.out.trans (hb9.mono HBK.out.size)⟩
          case measure => simp [intOf]; omega
      · have hlt' : ¬ (k : Int) < (n : Int) := by omega
        go_wp2_with fail
        go_ret
        exact ⟨rfl, HB3.out.trans (hB.mono HB3.out.size)⟩
  · have hbig' : ¬ (a.size : Int) ≤ 1500 := by omega
    go_enter Tryz.func3, Tryz.ntmps3
    go_wp2_with fail
    refine haw.mono ?_
    clear haw
    rintro e w1 ⟨rfl, hb1⟩
    have haw2 := mawake_any w1 (HE.out.below hb1)
    go_wp2_with fail
    refine haw2.mono ?_
    rintro e w4 ⟨rfl, hb4⟩
    go_wp2_with fail
    go_ret
    exact ⟨rfl, below_trans' hb1 hb4⟩

end Go.Proofs.YtckmlbcpldpkpaaGreatDoor
