/- The statement TextPoints returns true: its walk. -/
import Derived.Test.YtfiegofcjinmcaaTAwake
import Derived.Test.YtfiegofcjinmcaaTJoin
import Derived.Test.YtfiegofcjinmcaaTCPts
import Derived.RangeFuncNested
import Derived.RangeFuncBound
import Derived.RangeFuncCalls
import Derived.RangeFuncLeaves
import Derived.Shelf.Abstract
import Derived.Shelf.RegionOpen
import Derived.OwnWalkIn
import Derived.TacticsInMore
import Derived.LoopNIn
import Derived.LoopIn
import Derived.Deep.RegionHeld3
import Derived.Deep.RegionWith
import Derived.Deep.DrawnRows
namespace Go.Proofs.Ytfiegofcjinmcaa
open Go.RowKit Go.Shelf
attribute [local go_sem] Oper.semAt_some

theorem fz_below {W W' : World} {a : Addr} (h : W.frozen? a = false) (hlt : a.block < W.heap.size) (hb : Below W.heap.size W W') : W'.frozen? a = false := by
  have := hb.block a.block hlt
  unfold World.frozen? at h ⊢
  rw [this]; exact h
theorem tck {w w' : World} {a : Addr} {v : Value} (h : w.cell? a = some v) (hb : Below w.heap.size w w') : w'.cell? a = some v := (hb.cell (World.block_lt_of_cell? w a h)).trans h
theorem hp_below {R L D : Nat} {A : Option Addr} {cp n : Nat} {w4 W W' : World}
    (h : W.cell? ⟨L, 0, none⟩ = some (.slice A n cp) ∧ W.cell? ⟨L + 1, 0, none⟩ = some (.int .i64 (n : Nat)) ∧ W.cell? ⟨R, 0, none⟩ = some (.bool false) ∧ W.frozen? ⟨R, 0, none⟩ = false ∧ W.heap[D]? = some (.deferred (some [])) ∧ Below R w4 W) (hb : Below W.heap.size W W') :
    W'.cell? ⟨L, 0, none⟩ = some (.slice A n cp) ∧ W'.cell? ⟨L + 1, 0, none⟩ = some (.int .i64 (n : Nat)) ∧ W'.cell? ⟨R, 0, none⟩ = some (.bool false) ∧ W'.frozen? ⟨R, 0, none⟩ = false ∧ W'.heap[D]? = some (.deferred (some [])) ∧ Below R w4 W' := by
  obtain ⟨h1, h2, h3, h4, h5, h6⟩ := h
  have k3 : R < W.heap.size := World.block_lt_of_cell? W _ h3
  have k5 : D < W.heap.size := (Array.getElem?_eq_some_iff.1 h5).1
  exact ⟨tck h1 hb, tck h2 hb, tck h3 hb, fz_below h4 k3 hb, (hb.block D k5).trans h5, h6.trans (hb.mono (by omega))⟩

set_option maxRecDepth 100000 in
set_option maxHeartbeats 1000000 in
theorem points_walk (s : ByteArray) (w : World) (hs : s.size ≤ 2000) :
    Calls Try.prog 3 #[.string s] w fun e w' => e = .returned (.bool true) ∧ Below w.heap.size w w' := by
  have hll : s.data.toList.length = s.size := rfl
  have hrl := Txt.rep_len s.data.toList
  obtain ⟨cs, hcs⟩ : ∃ cs, Txt.chunks s.data.toList = cs := ⟨_, rfl⟩
  have hgood := Txt.chunks_all_good s.data.toList
  have hflat : Txt.rep s.data.toList = cs.flatten := by rw [← hcs]; rfl
  have hcl := Txt.chunks_len s.data.toList
  rw [hcs] at hgood hcl
  rw [hflat] at hrl
  have HG := Lib.hid hgood
  have HF := Lib.hid hflat
  have HCS := Lib.hid hcs
  clear hgood hflat hcs
  refine (callsIn_wide (n := 5)).1 ?_
  refine callsIn_of_wp_marks Try.func3 rfl trivial ?_ rfl
  simp only [Try.ntmps3, List.size_toArray, List.length_cons, List.length_nil, Nat.reduceAdd, Nat.reduceSub, Array.replicate_succ, Array.replicate_zero, List.push_toArray, List.append_toArray, List.nil_append, List.cons_append]
  gi_wp2_with fail
  refine ⟨trivial, (callsIn_wide.2 (awake_any _)).mono ?_⟩
  rintro e w1 ⟨rfl, hb1⟩
  gi_wp2_with fail
  refine ⟨trivial, (callsIn_wide.2 (rrepair_any s w1 (by omega))).mono ?_⟩
  rintro e w2 ⟨rfl, hb2⟩
  gi_wp2_with fail
  refine ⟨trivial, (callsIn_wide.2 (rpoints_any (tstr (Txt.rep s.data.toList)) cs w2 (by rw [tstr_size, HF.out]; omega) HG.out (by rw [tstr_data, HF.out]))).mono ?_⟩
  rintro e w3 ⟨v, rfl, hown, hb3⟩
  obtain ⟨A, cp, rfl, hrow⟩ := rowS_own hown
  clear hown
  gi_wp2_with fail
  refine ⟨trivial, (callsIn_wide.2 (tpoints_any s ((w3.alloc (.cells #[.slice A cs.length cp] 23)).alloc (.cells #[.int .i64 0] 3)) (by omega))).mono ?_⟩
  rintro e w4 ⟨lb, rfl, hw4, hst⟩
  have hb4 : Below ((w3.alloc (.cells #[.slice A cs.length cp] 23)).alloc (.cells #[.int .i64 0] 3)).heap.size ((w3.alloc (.cells #[.slice A cs.length cp] 23)).alloc (.cells #[.int .i64 0] 3)) w4 := by rw [hw4]; exact (Below.refl _ _).alloc (Nat.le_refl _) _
  clear hw4
  rw [HCS.out] at hst
  gi_wp2_with fail
  have hsz1 := hb1.size
  have hsz2 := hb2.size
  have hsz3 := hb3.size
  have hsz4 := hb4.size
  simp only [World.size_alloc] at hsz1 hsz4
  have hrow4 : RowS w4 A cs := (hrow.below (((Below.refl _ _).alloc (Nat.le_refl _) _).alloc (by simp) _)).below hb4
  have hL4 : Whole w4 w3.heap.size #[.slice A cs.length cp] 23 := ((Whole.new w3 #[.slice A cs.length cp] 23).alloc _).below hb4 (by simp; omega)
  have hN4 : Whole w4 (w3.heap.size + 1) #[.int .i64 0] 3 := by
    have := (Whole.new (w3.alloc (.cells #[.slice A cs.length cp] 23)) #[.int .i64 0] 3)
    rw [World.size_alloc] at this
    exact this.below hb4 (by simp)
  have hR1 : Whole w1 w.heap.size #[.bool false] 4 := (Whole.new w #[.bool false] 4).below hb1 (by simp)
  have hR3 := (hR1.below hb2 hR1.lt).below hb3 (by have := hR1.lt; omega)
  have hR4 : Whole w4 w.heap.size #[.bool false] 4 := ((hR3.alloc _).alloc _).below hb4 (by have := hR3.lt; simp; omega)
  have hB4 : Below w.heap.size w w4 := by
    have c1 : Below w.heap.size w w1 := ((Below.refl _ _).alloc (Nat.le_refl _) _).trans (hb1.mono (by simp))
    have c2 := below_trans' (below_trans' c1 hb2) hb3
    exact ((c2.alloc c2.size _).alloc (by have := c2.size; simp; omega) _).trans (hb4.mono (by have := c2.size; simp; omega))
  have HB4 := Lib.hid hB4
  have hstm := hst (w3.heap.size + 1) (by simp)
  clear hst hb1 hb2 hb3 hb4 hR1 hR3 hB4
  refine wpIn_rangeFunc_ownF (w := w4) rfl (by decide) (gf := 29) (lb := lb) rfl trivial (enters_of Try.func29 (by kernel_rfl) rfl) hstm Keep.trans Keep.put (Below.refl _ _) (fun _ => rfl)
    (fun pre W => W.cell? ⟨w.heap.size, 0, none⟩ = some (.bool false) ∧ W.frozen? ⟨w.heap.size, 0, none⟩ = false ∧ W.cell? ⟨w3.heap.size, 0, none⟩ = some (.slice A cs.length cp) ∧ W.cell? ⟨w3.heap.size + 1, 0, none⟩ = some (.int .i64 (pre.length : Nat)) ∧ W.frozen? ⟨w3.heap.size + 1, 0, none⟩ = false ∧ RowS W A cs ∧ Below w.heap.size w4 W)
    (fun c pre W => ¬ pre <+: enum cs)
    ?hI ?hIx ?h0
    (fun x => { tmps := #[.string s, undef, .pointer (some ⟨w.heap.size, 0, none⟩), .pointer (some ⟨w3.heap.size, 0, none⟩), .pointer (some ⟨w3.heap.size + 1, 0, none⟩), .int .i64 (x.1 : Nat), .int .i32 (code x.2 : Nat), .bool true, .bool false, .bool false, .string s, .int .i64 s.size, .bool (decide ((2000 : Int) < (s.size : Int))), .bool (decide ((2000 : Int) < (s.size : Int))), undef, .string s, .string (tstr (Txt.rep s.data.toList)), .slice A cs.length cp, .string s, .func (.func 29) #[] lb, .int .i64 (x.1 : Nat), .int .i32 (code x.2 : Nat), undef, undef, undef, undef, undef, undef, undef, undef, undef, undef, undef, undef, undef, undef, undef, undef, undef, undef, undef, undef, undef, undef, undef, undef, undef, undef, undef, undef, undef, undef, undef, undef], defers := [] }) ?assign ?body ?done ?stop
  case hI =>
    rintro pre W W' row ⟨h1, h2, h3, h4, h5, h6, h7⟩ hg hr
    have hr' : ∀ r, row = some r → ∃ o : Obj, W.heap[r]? = some o ∧ o.isCells = false := fun r e => (hr r e).2
    refine ⟨cell_kept h1 hg hr', (frozen_kept h1 hg hr').trans h2, cell_kept h3 hg hr', cell_kept h4 hg hr', (frozen_kept h4 hg hr').trans h5, ?_, ?_⟩
    · intro i hi
      obtain ⟨b, o, e1, e2, e3⟩ := h6 i hi
      exact ⟨b, o, e1, by have := hg.size; omega, cell_kept e3 hg hr'⟩
    · exact h7.grown hg (by have := h7.size; omega) (fun k hk => by have := (hr k hk).1; omega)
  case hIx => intro c pre W W' row h _ _; exact h
  case h0 => exact ⟨hR4.cell 0, hR4.free 0, hL4.cell 0, hN4.cell 0, hN4.free 0, hrow4, Below.refl _ _⟩
  case assign =>
    intro l x W K hK
    gi_wp2
    exact hK
  case body =>
    rintro l pre x W ⟨h1, h2, h3, h4, h5, h6, h7⟩ hlen
    have hwrong : x ≠ (pre.length, cs.getD pre.length []) → ¬ pre ++ [x] <+: enum cs := fun hne h => hne (enum_next h)
    have hcx := code_lt x.2
    by_cases hi : x.1 = pre.length
    · obtain ⟨b, o, rfl, hb, _⟩ := hrow pre.length hlen
      obtain ⟨b', o', e1, _, hc⟩ := h6 pre.length hlen
      injection e1 with e1
      injection e1 with e1 e2 _
      subst e1 e2
      have hib : ((x.1 : Int) != (pre.length : Int)) = false := by simp; omega
      have hnl : ¬ (cs.length : Int) ≤ (pre.length : Int) := by omega
      have hnl2 : (pre.length : Int) < (cs.length : Int) := by omega
      have hgd := HG.out (cs.getD pre.length []) (by simp [List.getD, hlen])
      obtain ⟨d, hd⟩ : ∃ d, cs.getD pre.length [] = d := ⟨_, rfl⟩
      rw [hd] at hc hgd hwrong
      have hds := hgd.four_at_most
      rw [← tstr_size] at hds
      gi_wp2_with fail
      refine ⟨trivial, (CallsIn.inRound l (callsIn_wide.2 (rcode_any (tstr d) W (by omega) (by omega)))).mono ?_⟩
      rintro e w5 ⟨rfl, n5, rfl⟩
      rw [tstr_data]
      by_cases hcd : code x.2 = code d
      · have hcb : ((code x.2 : Int) != (code d : Int)) = false := by simp; omega
        gi_wp2_with fail
        refine ⟨(show KeepsOthers W (W.drewN n5) from ⟨Nat.le_refl _, fun _ _ h _ => h⟩).trans (KeepsOthers.setCell _ _ _), (show Keep _ W _ from Keep.setCell (w3.heap.size + 1) (W.drewN n5) _), ?_, by rw [World.frozen?_setCell]; exact h2, ?_, ?_, by rw [World.frozen?_setCell]; exact h5, ?_, ?_⟩
        · rw [World.cell?_setCell_other _ _ _ _ (by intro e; injection e with e; omega)]; exact h1
        · rw [World.cell?_setCell_other _ _ _ _ (by intro e; injection e with e; omega)]; exact h3
        · rw [List.length_append]
          exact World.cell?_setCell_same _ _ _ (show (W.drewN n5).cell? _ = _ from h4)
        · intro i hi2
          obtain ⟨b', o', e1, e2, e3⟩ := h6 i hi2
          have e1' := e1
          injection e1 with e1
          injection e1 with e1 _ _
          refine ⟨b', o', e1', by simp [World.setCell]; exact e2, ?_⟩
          rw [World.cell?_setCell_other _ _ _ _ (by intro e; injection e with e; omega)]; exact e3
        · exact (h7.trans (show Below w.heap.size W (W.drewN n5) from ⟨rfl, rfl, rfl, Nat.le_refl _, fun _ _ => rfl⟩)).setCell (p := ⟨w3.heap.size + 1, 0, none⟩) (by simp; omega) _
      · have hcb : ((code x.2 : Int) != (code d : Int)) = true := by simp; omega
        gi_wp2_with fail
        exact ⟨(show KeepsOthers W (W.drewN n5) from ⟨Nat.le_refl _, fun _ _ h _ => h⟩).trans (KeepsOthers.setCell _ _ _), hwrong (fun e => hcd (by rw [e]))⟩
    · have hib : ((x.1 : Int) != (pre.length : Int)) = true := by simp; omega
      gi_wp2_with fail
      refine ⟨trivial, ?_⟩
      gi_wp2_with fail
      exact ⟨KeepsOthers.setCell _ _ _, hwrong (fun e => hi (by rw [e]))⟩
  case done =>
    rintro D xs W hD rfl ⟨h1, h2, h3, h4, h5, h6, h7⟩ hK
    gi_wp2_with fail
    rw [enum_length] at h4
    have hH : W.cell? ⟨w3.heap.size, 0, none⟩ = some (.slice A cs.length cp) ∧ W.cell? ⟨w3.heap.size + 1, 0, none⟩ = some (.int .i64 (cs.length : Nat)) ∧ W.cell? ⟨w.heap.size, 0, none⟩ = some (.bool false) ∧ W.frozen? ⟨w.heap.size, 0, none⟩ = false ∧ W.heap[D]? = some (.deferred (some [])) ∧ Below w.heap.size w4 W := ⟨h3, h4, h1, h2, hK, h7⟩
    have hlen : (Txt.chunks s.data.toList).length = cs.length := by rw [HCS.out]
    have hd1 : Below W.heap.size W W.drew := Below.drew (Below.refl _ _)
    rename_i K hret
    refine wpIn_mono (Q := Exit.then K (fun _ _ _ => False)) ?_ (fun e a9 w9 h => by cases e <;> first | exact h | exact h.elim)
    refine wpIn_wide.2 ?_
    go_region_with (go_at_call 12; refine (tlen_any s _ (by omega)).mono ?_; rintro e w9 ⟨rfl, hb9⟩; rw [hlen]; obtain ⟨c1, c2, c3, c4, c5, c6⟩ := (by first | exact hp_below (hp_below hH hd1) hb9 | exact hp_below hH hb9 : _ ∧ _))
    all_goals refine hret _ _ ?_
    all_goals gi_wp2_with fail
    all_goals
      have hc9 := World.cell?_setCell_same w9 ⟨w.heap.size, 0, none⟩ (.bool true) c3
      have hK9 := (KeepsOthers.setCell w9 ⟨w.heap.size, 0, none⟩ (.bool true)).same D _ c5 rfl
      have hDlt : D < w9.heap.size := (Array.getElem?_eq_some_iff.1 c5).1
      have hb10 : Below w.heap.size w (w9.setCell ⟨w.heap.size, 0, none⟩ (.bool true)) := (HB4.out.trans c6).setCell (p := ⟨w.heap.size, 0, none⟩) (Nat.le_refl _) _
      refine ⟨by simp, .inl ⟨_, _, rfl, run_takeDeferred hK9, ?_⟩⟩
      have hc10 := cell_kept hc9 (grownBy_putObj' _ D (.deferred none)) (fun r e => by cases e; exact ⟨_, hK9, rfl⟩)
      refine ⟨.bool true, ?_, rfl, ?_⟩
      · simp [results, Try.f3, go_sem, hc10]
      · exact hb10.trans (belowK_b (w := w) (Nat.le_refl _) _ D _ _ (by omega) hK9 rfl rfl)
  case stop =>
    rintro D c pre W hD hsp hix hK
    exact absurd hsp hix

end Go.Proofs.Ytfiegofcjinmcaa
