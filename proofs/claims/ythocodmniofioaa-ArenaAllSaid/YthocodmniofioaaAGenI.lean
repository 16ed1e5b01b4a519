/- The methods of an arena of records (int): each returns, and leaves in memory, what the lists say. -/
import Derived.Test.YthocodmniofioaaACode
import Derived.Test.YthocodmniofioaaAStep
import Derived.Test.YthocodmniofioaaAWith

namespace Go.Proofs.Ythocodmniofioaa
open Go.RowKit

theorem slotInfoI : (Try.prog.info? 57).map (fun i => (i.zero, i.size, i.bytes)) = some (some (.agg #[.bool false, .int .i64 0]), 2, 16) := by kernel_rfl
theorem slotLenI : ∀ c, (Ar.slot c).length = 2 := fun c => by cases c <;> rfl
theorem slotZeroI : Ar.slot none = [.bool false, .int .i64 0] := rfl
theorem zeroOneI : ∀ u ∈ ([.bool false, .int .i64 0] : List Value), u.oneCell' = true := fun u hu => by
  simp at hu; rcases hu with rfl | rfl <;> rfl

set_option maxRecDepth 100000 in
set_option maxHeartbeats 1000000 in
theorem avac_anyI (base B : Nat) (b s : Int) (live : Nat) (cs : List (Option Int)) (fr : List Nat) (F : Nat → Prop) (w : World) (h : AM 29 57 3 2 base w B b s cs.length (Ar.rows Ar.slot cs) fr live F) (hb : base ≤ w.heap.size) (hl : cs.length ≤ 1000) (hf : fr.length ≤ 1000) :
    Calls Try.prog 44 #[.pointer (some ⟨B, 0, none⟩)] w fun e w' => ∃ F', e = .returned (.int .i64 ((Ar.vac cs fr).2.2 : Nat)) ∧ AM 29 57 3 2 base w' B b s (Ar.vac cs fr).1.length (Ar.rows Ar.slot (Ar.vac cs fr).1) (Ar.vac cs fr).2.1 live F' ∧ AStep w w' F F' := by
  obtain ⟨A, c, A', c', hM, rfl⟩ := h.opened (by decide) (by decide) (by decide)
  obtain ⟨_, _, k2, k3, _⟩ := hM.cells
  obtain ⟨i0, hi0, hz0, hz1, hz2⟩ := info_parts slotInfoI
  go_enter Try.func44, Try.ntmps44
  by_cases hz : fr = []
  · subst hz
    rw [Ar.vac_nil]
    simp only [List.length_nil] at hM k3 ⊢
    clear h
    have hs1 : (w.alloc (.cells #[.bool false, .int .i64 0] 57)).ownsRow 0 57 2 (.slice (some ⟨w.heap.size, 0, none⟩) 1 1) 1 [.bool false, .int .i64 0] := World.ownsRow_lit w #[.bool false, .int .i64 0] 1 (Nat.zero_le _) (by unfold maxLen; omega) rfl
    have hB1 := (Below.refl _ w).alloc (Nat.le_refl _) (.cells #[.bool false, .int .i64 0] 57)
    have hM1 := hM.below hB1
    have hcb : base ≤ (w.alloc (.cells #[.bool false, .int .i64 0] 57)).heap.size := Nat.le_trans hb hB1.size
    go_wp2_with (at_builtin; refine wpList_append_src rfl _ _ 26 rfl base 0 57 i0 (.agg #[.bool false, .int .i64 0]) 2 16 Try.underlying26 hi0 hz0 hz1 hz2 rfl (by decide) _ _ _ rfl hM1.2.2.1 _ 1 [.bool false, .int .i64 0] rfl hs1 zeroOneI ?c3 ?c4 hcb ?_)
    case c3 => unfold maxLen; omega
    case c4 => omega
    intro v5 w5 o5 g5 f5
    obtain ⟨A5, c5, rfl⟩ := own_slice (own_zero o5)
    obtain ⟨hW5, hM6, hst⟩ := hM.grow_slots hB1 g5 o5 f5
    obtain ⟨w6, hw6⟩ : ∃ w6, w5.setCell ⟨B, 2, none⟩ (.slice A5 (cs.length + 1) c5) = w6 := ⟨_, rfl⟩
    have y2 : w5.cell? ⟨B, 2, none⟩ = some (.slice A cs.length c) := hW5.cell 2
    have z2 := hW5.free 2
    rw [hw6] at hM6 hst
    obtain ⟨_, _, q2, _, _⟩ := hM6.cells
    have HM := Lib.hid hM6
    clear hM hM1 hM6 k2 k3 hs1 o5 g5 f5 hW5
    go_wp2_with fail
    go_ret
    refine ⟨_, by go_num, ?_, hst⟩
    have h9 := HM.out.am
    show AM 29 57 3 2 base w6 B b s (cs ++ [none]).length (Ar.rows Ar.slot (cs ++ [none])) [] live _
    rw [Ar.rows_append, Ar.rows_one, slotZeroI, List.length_append]
    exact h9
  · obtain ⟨L, i, rfl⟩ : ∃ L i, fr = L ++ [i] := ⟨fr.dropLast, fr.getLast hz, (List.dropLast_concat_getLast hz).symm⟩
    rw [Ar.vac_last]
    clear h hz
    have hfl : (L ++ [i]).length = L.length + 1 := by simp
    have hvf := hM.2.2.2.1
    rw [hfl] at k3 hvf hf
    obtain ⟨m, hm⟩ : ∃ m, L.length = m := ⟨_, rfl⟩
    rw [hm] at k3 hvf hf
    obtain ⟨g, hg, _, hc⟩ := own_cells (own_zero hvf) (by omega)
    subst hg
    have hc' := hc m (.int .i64 (i : Int)) (by rw [Ar.nums_append, ← hm]; simp [Ar.nums])
    have hcap := own_cap hvf
    have hpop : w.ownsRow base 3 1 (.slice (some ⟨g, 0, none⟩) m c') L.length (Ar.nums L) := by
      have h := own_prefix hvf m (by omega)
      have e : (Ar.nums (L ++ [i])).take (m * 1) = Ar.nums L := by rw [Ar.nums_append, Nat.mul_one]; exact List.take_left' (by simp [Ar.nums, hm])
      rw [e] at h
      rw [hm]
      exact h
    obtain ⟨hW5, hM6, hst⟩ := hM.grow_free (Below.refl _ w) (w5 := w) (by rw [hfl, hm]; exact gb_of_below (Below.refl w.heap.size w) _) hpop (.inl (by simp [Value.ownBlock]))
    rw [hfl, hm] at hW5 hst
    rw [hfl, hm]
    have y3 : w.cell? ⟨B, 3, none⟩ = some (.slice (some ⟨g, 0, none⟩) (m + 1) c') := hW5.cell 3
    have z3 := hW5.free 3
    obtain ⟨w6, hw6⟩ : ∃ w6, w.setCell ⟨B, 3, none⟩ (.slice (some ⟨g, 0, none⟩) m c') = w6 := ⟨_, rfl⟩
    rw [hw6] at hM6 hst
    have HM := Lib.hid hM6
    have HF := Lib.hid hfl
    have HM2 := Lib.hid hm
    clear hM hM6 hvf hc hpop hW5 hfl hm k3
    go_wp2_with fail
    go_ret
    first | exact ⟨_, rfl, HM.out.am, hst⟩ | exact ⟨rfl, _, HM.out.am, hst⟩

set_option maxRecDepth 100000 in
set_option maxHeartbeats 1000000 in
theorem aused_anyI (base B : Nat) (b s h : Int) (live : Nat) (cs : List (Option Int)) (fr : List Nat) (vs vf : Value) (w : World) (hm : AMv 29 57 3 2 base w B b s vs cs.length (Ar.rows Ar.slot cs) vf fr live) (hh : I64 h) (hl : cs.length ≤ 1000) :
    Calls Try.prog 45 #[.pointer (some ⟨B, 0, none⟩), .int .i64 h] w fun e w' => e = .returned (.int .i64 (Ar.hasI b s cs h)) ∧ Below w.heap.size w w' := by
  obtain ⟨A, c, rfl⟩ := own_slice (own_zero hm.2.2.1)
  obtain ⟨k0, k1, _, _, _⟩ := hm.cells
  have hcase : (∃ i : Nat, Ar.has b s cs h = some i) ∨ Ar.has b s cs h = none := by cases Ar.has b s cs h with | none => exact .inr rfl | some i => exact .inl ⟨i, rfl⟩
  have hir := Ar.idx_range b s h
  go_enter Try.func45, Try.ntmps45
  go_wp2_with fail
  refine (aindex_any b s h _ hh).mono ?_
  rintro e w2 ⟨rfl, hb2⟩
  have hm2 := hm.below hb2
  obtain ⟨_, _, c2, _, _⟩ := hm2.cells
  clear k0 k1
  rcases hcase with ⟨i, hi⟩ | hi
  · obtain ⟨h1, h2, v, h3⟩ := Ar.has_some hi
    obtain ⟨g, rfl, _, hcell⟩ := hm2.slot (by omega)
    have hc3 : w2.cell? ⟨g, i * 2, none⟩ = some (.bool true) := by rw [(hcell (i * 2) (by omega)).1]; exact (Ar.rows_get (slotLenI ) h3 (by omega : 0 < 2)).trans rfl
    have hr : Ar.hasI b s cs h = (i : Int) := by unfold Ar.hasI; rw [hi]
    have q1 : (i : Int) < (cs.length : Int) := by omega
    have q2 : ¬ (cs.length : Int) ≤ (i : Int) := by omega
    rw [h1]
    have HR := Lib.hid hr
    clear hr h1 hi h3 hm hm2 hcell hir
    go_wp2_with fail
    go_ret
    exact ⟨aretI HR.out.symm, hb2⟩
  · have hr : Ar.hasI b s cs h = -1 := by unfold Ar.hasI; rw [hi]
    have HR := Lib.hid hr
    rcases Ar.has_none hi with h1 | ⟨h1, h2⟩ | ⟨i, h1, h2, h3⟩
    · clear hr hi hm hm2 hir
      go_wp2_with fail
      go_ret
      exact ⟨aretI HR.out.symm, hb2⟩
    · have q1 : ¬ Ar.idx b s h < 0 := by omega
      clear hr hi hm hm2 hir
      go_wp2_with fail
      go_ret
      exact ⟨aretI HR.out.symm, hb2⟩
    · obtain ⟨g, rfl, _, hcell⟩ := hm2.slot (by omega)
      have hc3 : w2.cell? ⟨g, i * 2, none⟩ = some (.bool false) := by rw [(hcell (i * 2) (by omega)).1]; exact (Ar.rows_get (slotLenI ) h3 (by omega : 0 < 2)).trans rfl
      have q1 : (i : Int) < (cs.length : Int) := by omega
      have q2 : ¬ (cs.length : Int) ≤ (i : Int) := by omega
      rw [h1]
      clear hr h1 hi h3 hm hm2 hcell hir
      go_wp2_with fail
      go_ret
      exact ⟨aretI HR.out.symm, hb2⟩

set_option maxRecDepth 100000 in
set_option maxHeartbeats 1000000 in
theorem aat_anyI (base B : Nat) (b s h : Int) (live : Nat) (cs : List (Option Int)) (fr : List Nat) (vs vf : Value) (w : World) (hm : AMv 29 57 3 2 base w B b s vs cs.length (Ar.rows Ar.slot cs) vf fr live) (hh : I64 h) (hl : cs.length ≤ 1000) :
    Calls Try.prog 33 #[.pointer (some ⟨B, 0, none⟩), .int .i64 h] w fun e w' => e = .returned (.pointer (slotPtr 2 vs (Ar.has b s cs h))) ∧ Below w.heap.size w w' := by
  go_enter Try.func33, Try.ntmps33
  go_wp2_with fail
  refine (aused_anyI base B b s h live cs fr vs vf w hm hh hl).mono ?_
  rintro e w2 ⟨rfl, hb2⟩
  have hm2 := hm.below hb2
  obtain ⟨A, c, rfl⟩ := own_slice (own_zero hm.2.2.1)
  obtain ⟨_, _, c2, _, _⟩ := hm2.cells
  rcases hasI_cases b s cs h with ⟨i, e1, e2, e3⟩ | ⟨e1, e2⟩
  · rw [e2]
    obtain ⟨g, rfl, _, _⟩ := hm2.slot (by omega)
    have q : ¬ (i : Int) < 0 := by omega
    have q1 : (i : Int) < (cs.length : Int) := by omega
    have HE := Lib.hid e1
    clear e1 e2 hm hm2
    go_wp2_with fail
    go_ret
    rw [HE.out]
    exact ⟨rfl, hb2⟩
  · rw [e2]
    have HE := Lib.hid e1
    clear e1 e2 hm hm2
    go_wp2_with fail
    go_ret
    rw [HE.out]
    exact ⟨rfl, hb2⟩

set_option maxRecDepth 100000 in
set_option maxHeartbeats 2000000 in
theorem aadd_anyI (base B : Nat) (b s v : Int) (cs : List (Option Int)) (fr : List Nat) (F : Nat → Prop) (w : World) (h : AM 29 57 3 2 base w B b s cs.length (Ar.rows Ar.slot cs) fr (Ar.live cs) F) (hb : base ≤ w.heap.size) (hok : Ar.Ok cs fr) (hl : cs.length ≤ 1000) :
    Calls Try.prog 15 #[.pointer (some ⟨B, 0, none⟩), .int .i64 v] w fun e w' => ∃ F', e = .returned (.int .i64 (Ar.hdl b s (Ar.add cs fr v).2.2)) ∧ AM 29 57 3 2 base w' B b s (Ar.add cs fr v).1.length (Ar.rows Ar.slot (Ar.add cs fr v).1) (Ar.add cs fr v).2.1 (Ar.live (Ar.add cs fr v).1) F' ∧ AStep w w' F F' := by
  rw [Ar.vac_add]
  have hfl := hok.len
  have hvl := Ar.vac_len cs fr
  have hvg := Ar.vac_get hok
  have hvv := Ar.vac_live cs fr
  have hll := Ar.live_le cs
  obtain ⟨p, hp⟩ : ∃ p, Ar.vac cs fr = p := ⟨_, rfl⟩
  rw [hp] at hvl hvg hvv ⊢
  obtain ⟨cs', fr', i⟩ := p
  simp only at hvl hvg hvv ⊢
  have hlu := Ar.live_add (v := v) hvg
  have hi := (List.getElem?_eq_some_iff.1 hvg).1
  rw [hvv] at hlu
  obtain ⟨L, hL⟩ : ∃ L, Ar.live cs = L := ⟨_, rfl⟩
  rw [hL] at h hll hlu
  rw [hlu]
  clear hL hvv hlu
  go_enter Try.func15, Try.ntmps15
  go_wp2_with fail
  refine (avac_anyI base B b s L cs fr F w h hb hl (by omega)).mono ?_
  rintro e w2 ⟨F2, rfl, hA2, hst2⟩
  rw [hp] at hA2 ⊢
  simp only at hA2 ⊢
  obtain ⟨A, c, A', c', hM2, hF2⟩ := hA2.opened (by decide) (by decide) (by decide)
  subst hF2
  obtain ⟨g, rfl, hgB, hcell⟩ := hM2.slot (by omega)
  obtain ⟨_, _, c2, _, _⟩ := hM2.cells
  have t0 : w2.cell? ⟨g, i * 2, none⟩ = some (.bool false) := by rw [(hcell (i * 2) (by omega)).1]; exact (Ar.rows_get (slotLenI ) hvg (by omega : 0 < 2)).trans rfl
  have f0 := (hcell (i * 2) (by omega)).2
  have t1 : w2.cell? ⟨g, i * 2 + 1, none⟩ = some (.int .i64 0) := by rw [(hcell (i * 2 + 1) (by omega)).1]; exact (Ar.rows_get (slotLenI ) hvg (by omega : 1 < 2)).trans rfl
  have f1 := (hcell (i * 2 + 1) (by omega)).2
  obtain ⟨hP0, sP0⟩ := hM2.put (i * 2) (.bool true)
  obtain ⟨hP1, sP1⟩ := hP0.put (i * 2 + 1) (.int .i64 v)
  obtain ⟨w3, hw3⟩ : ∃ w3, ((w2.setCell ⟨g, i * 2, none⟩ (.bool true)).setCell ⟨g, i * 2 + 1, none⟩ (.int .i64 v)) = w3 := ⟨_, rfl⟩
  have sP := (sP0.trans sP1)
  rw [hw3] at hP1 sP
  rw [Ar.rows_set2 (slotLenI ) hi (x := some v) (a := .bool true) (b := .int .i64 v) rfl] at hP1
  have hM3 := hP1
  have y4 := hM3.cells.2.2.2.2
  have z4 := hM3.1.free 4
  obtain ⟨hM4, s4⟩ := hM3.count (L + 1) ((L : Int) + 1) (by omega)
  obtain ⟨w4, hw4⟩ : ∃ w4, w3.setCell ⟨B, 4, none⟩ (.int .i64 ((L : Int) + 1)) = w4 := ⟨_, rfl⟩
  rw [hw4] at hM4 s4
  obtain ⟨q0, q1, _, _, _⟩ := hM4.cells
  have hii : (i : Int) < (cs'.length : Int) := by omega
  have hiI : I64 (i : Int) := by constructor <;> omega
  have HM := Lib.hid hM4
  have HS := Lib.hid ((hst2.trans sP).trans s4)
  clear hM4 hM3 hM2 hP0 hP1 hA2 h hp hcell hvg hst2 sP s4 sP0 sP1
  go_wp2_with fail
  refine (ahandle_any b s i _ hiI).mono ?_
  rintro e w5 ⟨rfl, hb5⟩
  go_wp2_with fail
  go_ret
  have hAm : AM 29 57 3 2 base w5 B b s (cs'.set i (some v)).length (Ar.rows Ar.slot (cs'.set i (some v))) fr' (L + 1) (Foot B (.slice (some ⟨g, 0, none⟩) cs'.length c) (.slice A' fr'.length c')) := by
    rw [List.length_set]
    exact (HM.out.below hb5).am
  first | exact ⟨_, rfl, hAm, HS.out.trans (.of_below hb5)⟩ | exact ⟨rfl, _, hAm, HS.out.trans (.of_below hb5)⟩

set_option maxRecDepth 100000 in
set_option maxHeartbeats 2000000 in
theorem adrop_anyI (base B : Nat) (b s h : Int) (cs : List (Option Int)) (fr : List Nat) (F : Nat → Prop) (w : World) (hm : AM 29 57 3 2 base w B b s cs.length (Ar.rows Ar.slot cs) fr (Ar.live cs) F) (hb : base ≤ w.heap.size) (hok : Ar.Ok cs fr) (hh : I64 h) (hl : cs.length ≤ 1000) :
    Calls Try.prog 19 #[.pointer (some ⟨B, 0, none⟩), .int .i64 h] w fun e w' => ∃ F', e = .returned (.bool (Ar.has b s cs h).isSome) ∧ AM 29 57 3 2 base w' B b s (Ar.drop b s cs fr h).1.length (Ar.rows Ar.slot (Ar.drop b s cs fr h).1) (Ar.drop b s cs fr h).2 (Ar.live (Ar.drop b s cs fr h).1) F' ∧ AStep w w' F F' := by
  obtain ⟨j0, hj0, hy0, hy1, hy2⟩ := info_parts intInfo
  have hfl := hok.len
  have hll := Ar.live_le cs
  obtain ⟨A, c, A', c', hM, hF⟩ := hm.opened (by decide) (by decide) (by decide)
  subst hF
  rcases hasI_cases b s cs h with ⟨i, e1, e2, e3⟩ | ⟨e1, e2⟩
  · have hd : Ar.drop b s cs fr h = (cs.set i none, fr ++ [i]) := by unfold Ar.drop; rw [e1]
    obtain ⟨_, _, v, h3⟩ := Ar.has_some e1
    have hsub := Ar.live_sub h3
    obtain ⟨L, hL⟩ : ∃ L, Ar.live (cs.set i none) = L := ⟨_, rfl⟩
    rw [hL] at hsub
    rw [hd, e1]
    simp only [hL]
    rw [← hsub] at hM hll
    clear hd hL hsub hm
    go_enter Try.func19, Try.ntmps19
    go_wp2_with fail
    refine (aused_anyI base B b s h _ cs fr _ _ w hM hh hl).mono ?_
    rintro e w2 ⟨rfl, hb2⟩
    rw [e2]
    have hM2 := hM.below hb2
    obtain ⟨g, rfl, hgB, hcell⟩ := hM2.slot (by omega)
    obtain ⟨_, _, c2, _, _⟩ := hM2.cells
    have t0 : w2.cell? ⟨g, i * 2, none⟩ = some (.bool (some v).isSome) := by rw [(hcell (i * 2) (by omega)).1]; exact (Ar.rows_get (slotLenI ) h3 (by omega : 0 < 2)).trans rfl
    have f0 := (hcell (i * 2) (by omega)).2
    have t1 : w2.cell? ⟨g, i * 2 + 1, none⟩ = some (.int .i64 ((some v).getD 0)) := by rw [(hcell (i * 2 + 1) (by omega)).1]; exact (Ar.rows_get (slotLenI ) h3 (by omega : 1 < 2)).trans rfl
    have f1 := (hcell (i * 2 + 1) (by omega)).2
    obtain ⟨hP0, sP0⟩ := hM2.put (i * 2) (.bool false)
    obtain ⟨hP1, sP1⟩ := hP0.put (i * 2 + 1) (.int .i64 0)
    obtain ⟨w3, hw3⟩ : ∃ w3, ((w2.setCell ⟨g, i * 2, none⟩ (.bool false)).setCell ⟨g, i * 2 + 1, none⟩ (.int .i64 0)) = w3 := ⟨_, rfl⟩
    have sP := (sP0.trans sP1)
    rw [hw3] at hP1 sP
    rw [Ar.rows_set2 (slotLenI ) e3 (x := none) (a := .bool false) (b := .int .i64 0) rfl] at hP1
    have hM3 := hP1
    obtain ⟨_, _, _, y3, _⟩ := hM3.cells
    have hb3 := hM3.2.2.2.1
    have hs1 := row_one w3 3 (i : Int)
    have hB1 := (Below.refl _ w3).alloc (Nat.le_refl _) (.cells #[.int .i64 (i : Int)] 3)
    have hM31 := hM3.below hB1
    have hbw : base ≤ (w3.alloc (.cells #[.int .i64 (i : Int)] 3)).heap.size := Nat.le_trans (Nat.le_trans (Nat.le_trans hb hb2.size) sP.1.size) hB1.size
    have hii : (i : Int) < (cs.length : Int) := by omega
    have q : ¬ (i : Int) < 0 := by omega
    have HM3 := Lib.hid hM3
    have HSP := Lib.hid sP
    have HM31 := Lib.hid hM31.2.2.2.1
    clear hM3 hM31 sP hP0 sP0 hP1 sP1 hM2 hM hcell h3 e1 e2 hb3
    go_wp2_with (at_builtin; refine wpList_append_src rfl _ _ 27 rfl base 0 3 j0 (.int .i64 0) 1 8 Try.underlying27 hj0 hy0 hy1 hy2 rfl (by decide) _ _ _ rfl HM31.out _ 1 (ints [(i : Int)]) rfl hs1 (ints_one _) ?c3 ?c4 hbw ?_)
    case c3 => unfold maxLen; omega
    case c4 => omega
    intro v5 w5 o5 g5 f5
    obtain ⟨A5, c5, rfl⟩ := own_slice (own_zero o5)
    have o5' : w5.ownsRow base 3 1 (.slice A5 (fr.length + 1) c5) (fr ++ [i]).length (Ar.nums (fr ++ [i])) := by
      rw [List.length_append, Ar.nums_append]; exact o5
    obtain ⟨hW5, hM6, hst⟩ := HM3.out.grow_free hB1 g5 o5' f5
    have z3 := hW5.free 3
    have y35 : w5.cell? ⟨B, 3, none⟩ = some (.slice A' fr.length c') := hW5.cell 3
    obtain ⟨w6, hw6⟩ : ∃ w6, w5.setCell ⟨B, 3, none⟩ (.slice A5 (fr.length + 1) c5) = w6 := ⟨_, rfl⟩
    rw [hw6] at hM6 hst
    have y6 : w6.cell? ⟨B, 4, none⟩ = some (.int .i64 ((L : Int) + 1)) := hM6.cells.2.2.2.2
    have z6 := hM6.1.free 4
    obtain ⟨hM7, s7⟩ := hM6.count L (L : Int) rfl
    obtain ⟨w7, hw7⟩ : ∃ w7, w6.setCell ⟨B, 4, none⟩ (.int .i64 (L : Int)) = w7 := ⟨_, rfl⟩
    rw [hw7] at hM7 s7
    have HM := Lib.hid hM7
    have HS := Lib.hid (((AStep.of_below hb2).trans HSP.out).trans (hst.trans s7))
    clear hM7 hM6 hst s7 o5 o5' g5 f5 hW5 HM3 HM31 HSP hs1 hB1
    go_wp2_with fail
    go_ret
    have hAm : AM 29 57 3 2 base w7 B b s (cs.set i none).length (Ar.rows Ar.slot (cs.set i none)) (fr ++ [i]) L (Foot B (.slice (some ⟨g, 0, none⟩) cs.length c) (.slice A5 (fr.length + 1) c5)) := by
      rw [List.length_set]
      exact HM.out.am
    first | exact ⟨_, rfl, hAm, HS.out⟩ | exact ⟨rfl, _, hAm, HS.out⟩
  · have hd : Ar.drop b s cs fr h = (cs, fr) := by unfold Ar.drop; rw [e1]
    rw [hd, e1]
    clear hd hm
    go_enter Try.func19, Try.ntmps19
    go_wp2_with fail
    refine (aused_anyI base B b s h _ cs fr _ _ w hM hh hl).mono ?_
    rintro e w2 ⟨rfl, hb2⟩
    rw [e2]
    have HM := Lib.hid (hM.below hb2)
    clear hM e1 e2
    go_wp2_with fail
    go_ret
    first | exact ⟨_, rfl, HM.out.am, .of_below hb2⟩ | exact ⟨rfl, _, HM.out.am, .of_below hb2⟩
end Go.Proofs.Ythocodmniofioaa
