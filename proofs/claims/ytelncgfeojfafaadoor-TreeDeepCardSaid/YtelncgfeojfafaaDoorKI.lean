/- wellPlaced: a node has a kind, a parent and a depth that it may have. -/
import Derived.Sort.QuietIn
import Derived.Sort.CutIn
import Derived.Deep.RegionHeld3
import Derived.Test.YtelncgfeojfafaaDoorKE
import Derived.Test.YtelncgfeojfafaaDoorKG
import Derived.Test.YtelncgfeojfafaaDoorKH
namespace Go.Proofs.YtelncgfeojfafaaDoor
open Go.RowKit Go.Shelf
set_option linter.unusedVariables false
set_option linter.unusedSimpArgs false
attribute [local go_sem] Oper.semAt_some

set_option maxRecDepth 100000 in
set_option maxHeartbeats 1000000 in
theorem wplaced_any (base B : Nat) (b s root h : Int) (live n : Nat) (g : Tr.G) (av : Int → Tr.Sl) (fr : List Nat) (vs vf : Value) (m : Tr.GN) (w : World) (hm : TV base w B b s vs n (Tr.raw g av) vf fr live root) (hS : Sound b s n (Tr.raw g av) fr live) (hw : Tr.WF 0 g) (hh : I64 h) (em : g h = some m)
    (hk1 : 1 ≤ m.kind) (hk2 : m.kind ≤ 4) (hkr : (m.kind == 1) = (h == root)) (hacc : m.pa ≠ 0 → Tr.acceptsG g m.pa h = true) :
    Calls Tryd.prog 27 #[.pointer (some ⟨B, 0, none⟩), .int .i64 h] w fun e w' => e = .returned (.bool true) ∧ Below w.heap.size w w' := by
  have hul := (hw.up_is h).2
  have hlt := hm.lt
  refine (callsIn_wide (n := 8)).1 ?_
  refine callsIn_of_wp_marks Tryd.func27 rfl trivial ?_ rfl
  simp only [Tryd.ntmps27, List.size_toArray, List.length_cons, List.length_nil, Nat.reduceAdd, Nat.reduceSub, Array.replicate_succ, Array.replicate_zero, List.push_toArray, List.append_toArray, List.nil_append, List.cons_append]
  obtain ⟨w1, hw1⟩ : ∃ w1, w.alloc (.cells #[.bool false] 4) = w1 := ⟨_, rfl⟩
  have hz1 : w1.heap.size = w.heap.size + 1 := by rw [← hw1]; simp
  have hb1 : Below w.heap.size w w1 := by rw [← hw1]; exact (Below.refl _ w).alloc (Nat.le_refl _) _
  have hX1 : Whole w1 w.heap.size #[.bool false] 4 := by rw [← hw1]; exact Whole.new w _ _
  have hm1 := hm.below hb1
  gi_wp2_with fail
  try rw [hw1]
  refine ⟨trivial, (callsIn_wide.2 (at_any base B b s root h live n (Tr.raw g av) fr vs vf w1 hm1 hS hh)).mono ?_⟩
  rintro e w2 ⟨g4, o4, rfl, hnp, hb2⟩
  rw [Tr.raw_some em] at hnp
  have hm2 := hm1.below hb2
  obtain ⟨k0, _, _, _, k4, _, _, _, _⟩ := hnp.cells
  have k0' : w2.cell? ⟨g4, o4, none⟩ = some (.int .i64 m.kind) := k0
  have k4' : w2.cell? ⟨g4, o4 + 4, none⟩ = some (.int .i64 m.pa) := k4
  obtain ⟨_, _, _, _, _, r5⟩ := hm2.cells
  have hX2 := hX1.below hb2 hX1.lt
  have hB2 := hb1.trans (hb2.mono hb1.size)
  have d1 : decide (m.kind < 1) = false := by simp; omega
  have d2 : decide (4 < m.kind) = false := by simp; omega
  obtain ⟨bk, hbk⟩ : ∃ bk, (m.kind == 1) = bk := ⟨_, rfl⟩
  have hbr : (h == root) = bk := by rw [← hkr, hbk]
  have hbb : (bk != bk) = false := by simp
  have c1 : ¬ m.kind < 1 := by omega
  have c2 : ¬ 4 < m.kind := by omega
  have hnplt : g4 < w2.heap.size := World.block_lt_of_cell? w2 _ k0'
  clear hm hX1 hw1 hb2 hb1 hm1 hnp k0 k4
  gi_wp2_with fail
  gi_quiet (fail)
  obtain ⟨w3, hw3⟩ : ∃ w3, w2.drewN nq = w3 := ⟨_, rfl⟩
  try rw [hw3]
  have hb3 : Below w2.heap.size w2 w3 := by rw [← hw3]; exact ⟨rfl, rfl, rfl, Nat.le_refl _, fun _ _ => rfl⟩
  have hX3 := hX2.below hb3 hX2.lt
  have hB3 := hB2.trans (hb3.mono hB2.size)
  have hm3 := hm2.below hb3
  have k3 : w3.cell? ⟨g4, o4 + 4, none⟩ = some (.int .i64 m.pa) := (hb3.cell (p := ⟨g4, o4 + 4, none⟩) hnplt).trans k4'
  have hg3 : g4 < w3.heap.size := Nat.lt_of_lt_of_le hnplt hb3.size
  have hXl := hX3.lt
  clear hX2 hB2 hm2 k0' k4' hw3 hb3 r5 hnplt
  gi_wp2_with fail
  obtain ⟨w4, hw4⟩ : ∃ w4, w3.alloc (.cells #[.int .i64 0] 3) = w4 := ⟨_, rfl⟩
  try rw [hw4]
  have hz4 : w4.heap.size = w3.heap.size + 1 := by rw [← hw4]; simp
  have hb4 : Below w3.heap.size w3 w4 := by rw [← hw4]; exact (Below.refl _ w3).alloc (Nat.le_refl _) _
  have hC4 : Whole w4 w3.heap.size #[.int .i64 0] 3 := by rw [← hw4]; exact Whole.new w3 _ _
  have hX4 := hX3.below hb4 hXl
  have hB4 := hB3.trans (hb4.mono hB3.size)
  have hL := LS.made (h := h) (hm3.below hb4)
  have hsz5 : ((w4.alloc (.cells #[.pointer (some ⟨B, 0, none⟩)] 23)).alloc (.cells #[.int .i64 h] 3)).heap.size = w4.heap.size + 2 := by simp
  have hb5 : Below w4.heap.size w4 ((w4.alloc (.cells #[.pointer (some ⟨B, 0, none⟩)] 23)).alloc (.cells #[.int .i64 h] 3)) := ((Below.refl _ w4).alloc (Nat.le_refl _) _).alloc (by simp) _
  have hseq := up_seq hS hw hh 7 (by omega) _ hL
  have hlt3 : ∀ k, Foot B vs vf k → k < w3.heap.size := fun k hk => (hm3.lt k hk).2
  refine ⟨trivial, (callsIn_wide.2 (up_make B h w4)).mono ?_⟩
  rintro e w' ⟨rfl, hw'⟩
  rw [← hw'] at hL hsz5 hb5 hseq
  have hC5 := hC4.below hb5 hC4.lt
  have hX5 := hX4.below hb5 hX4.lt
  have hB5 := hB4.trans (hb5.mono hB4.size)
  have hb35 := hb4.trans (hb5.mono hb4.size)
  have HK4 := Lib.hid (And.intro hS k3)
  clear hm3 hX4 hX3 hC4 hB4 hB3 hw4 hw' hb4 hb5 hS k3
  gi_wp2_with fail
  rw [hz4] at hseq hL hsz5
  have hm1 : ¬ Foot B vs vf w3.heap.size := fun hk => by have := hlt3 _ hk; omega
  have hxw : w.heap.size ≠ w3.heap.size := by omega
  refine wpIn_rangeFunc_ownF (w := w') rfl (by decide) (gf := 55) (lb := #[.pointer (some ⟨w3.heap.size + 1 + 1, 0, none⟩), .pointer (some ⟨w3.heap.size + 1, 0, none⟩)]) rfl trivial (enters_of Tryd.func55 (by kernel_rfl) rfl) hseq LS.keepT (LS.keepB _) (Below.refl _ _) (fun _ => rfl)
    (fun pre W => Whole W w.heap.size #[.bool false] 4 ∧ Whole W w3.heap.size #[.int .i64 (pre.length : Nat)] 3 ∧ LS base B (w3.heap.size + 1) (w3.heap.size + 1 + 1) b s h vs n (Tr.raw g av) vf fr live root W ∧ Below w.heap.size w W ∧ Below w3.heap.size w3 W) (fun _ _ _ => False)
    ?hI ?hIx ⟨hX5, hC5, hL, hB5, hb35⟩ (fun x => { tmps := #[.pointer (some ⟨B, 0, none⟩), .int .i64 h, undef, undef, .pointer (some ⟨w.heap.size, 0, none⟩), .pointer (some ⟨g4, o4, none⟩), .pointer (some ⟨w3.heap.size, 0, none⟩), .pointer (some ⟨B, 0, none⟩), .int .i64 h, .pointer (some ⟨g4, o4, none⟩), .pointer (some ⟨g4, o4, none⟩), .pointer (some ⟨g4, o4, none⟩), .pointer (some ⟨g4, o4, none⟩), .int .i64 m.kind, .bool false, .bool false, .pointer (some ⟨g4, o4, none⟩), .pointer (some ⟨g4, o4, none⟩), .pointer (some ⟨g4, o4, none⟩), .int .i64 m.kind, .bool false, .bool false, .bool false, .pointer (some ⟨g4, o4, none⟩), .pointer (some ⟨g4, o4, none⟩), .pointer (some ⟨g4, o4, none⟩), .int .i64 m.kind, .bool bk, .int .i64 h, .pointer (some ⟨B, 0, none⟩), .pointer (some ⟨B, 0, none⟩), .pointer (some ⟨B, 5, none⟩), .int .i64 root, .bool bk, .bool false, .bool false, .pointer (some ⟨B, 0, none⟩), .int .i64 h, .func (.func 55) #[] #[.pointer (some ⟨w3.heap.size + 1 + 1, 0, none⟩), .pointer (some ⟨w3.heap.size + 1, 0, none⟩)], .int .i64 x.1, undef, undef, undef, undef, undef, undef, undef, undef, undef, undef, undef, undef, undef, undef, undef, undef, undef, undef], defers := [] }) ?assign ?body ?done ?stop
  case hI =>
    rintro pre W W' row ⟨h0, h1, h2, h3, h4⟩ hg hr
    exact ⟨whole_others h0 hg (fun r e => (hr r e).2), whole_others h1 hg (fun r e => (hr r e).2), h2.others hg (fun r e => (hr r e).2), h3.grown hg h3.size (fun r e => by have := (hr r e).1; have := hb35.size; have := hB5.size; omega), h4.grown hg h4.size (fun r e => by have := (hr r e).1; have := hb35.size; omega)⟩
  case hIx => intro c pre W W' row h _ _; exact h
  case assign =>
    intro l x W K hK
    gi_wp2
    first | exact hK | simpa using hK
  case body =>
    rintro l pre x W ⟨hX, hC, hLW, hBW, hBV⟩ hlen
    have c0 : W.cell? ⟨w3.heap.size, 0, none⟩ = some (.int .i64 (pre.length : Nat)) := hC.cell 0
    have f0 := hC.free 0
    have hpl : pre.length + 1 ≤ 128 := by omega
    have hp2 : ¬ (128 : Int) < (pre.length : Int) + 1 := by omega
    have hX' := hX.other (a := ⟨w3.heap.size, 0, none⟩) (by show w.heap.size ≠ w3.heap.size; omega) (.int .i64 ((pre.length : Int) + 1))
    have hC' := hC.put 0 (.int .i64 ((pre.length : Int) + 1))
    have hL' := hLW.set hm1 (by omega) (by omega) 0 (.int .i64 ((pre.length : Int) + 1))
    have HF := Lib.hid (And.intro hX' (And.intro hC' (And.intro hL' (And.intro (hBW.setCell (p := ⟨w3.heap.size, 0, none⟩) (by show _ ≤ w3.heap.size; omega) (.int .i64 ((pre.length : Int) + 1))) (hBV.setCell (p := ⟨w3.heap.size, 0, none⟩) (Nat.le_refl _) (.int .i64 ((pre.length : Int) + 1)))))))
    clear hX hC hLW hBW hBV hX' hC' hL'
    gi_wp2_with fail
    refine ⟨KeepsOthers.setCell _ _ _, fun _ => HF.out.2.2.1, ?_⟩
    show _ ∧ _
    rw [List.length_append]
    exact HF.out
  case done =>
    rintro D xs W hD rfl ⟨hX, hC, hLW, hBW, hBV⟩ hK
    obtain ⟨hS, k3⟩ := HK4.out
    have k4 : W.cell? ⟨g4, o4 + 4, none⟩ = some (.int .i64 m.pa) := (hBV.cell (p := ⟨g4, o4 + 4, none⟩) hg3).trans k3
    have c0 : W.cell? ⟨w.heap.size, 0, none⟩ = some (.bool false) := hX.cell 0
    have f0 := hX.free 0
    have hT := hLW.tree
    by_cases hpa : m.pa = 0
    · have hq : (m.pa == 0) = true := by simpa using hpa
      have hX' := hX.put 0 (.bool true)
      have hKs := (KeepsOthers.setCell W ⟨w.heap.size, 0, none⟩ (.bool true)).same D _ hK rfl
      have hBs := hBW.setCell (p := ⟨w.heap.size, 0, none⟩) (Nat.le_refl _) (.bool true)
      obtain ⟨V, hV⟩ : ∃ V, W.setCell ⟨w.heap.size, 0, none⟩ (.bool true) = V := ⟨_, rfl⟩
      rw [hV] at hX' hKs hBs
      have c9 : V.cell? ⟨w.heap.size, 0, none⟩ = some (.bool true) := hX'.cell 0
      have hca := cell_kept c9 (grownBy_putObj' V D (.deferred none)) (fun r e => by cases e; exact ⟨_, hKs, rfl⟩)
      have HB := Lib.hid (hBs.trans (belowK_b (w := w) (Nat.le_refl _) V D _ (.deferred none) (by have := hB5.size; omega) hKs rfl rfl))
      clear hX hC hLW hBW hBV hX' hBs hT k3 hacc
      gi_wp2_with fail
      refine And.intro (by first | exact trivial | (intros; exact trivial)) ?_
      gi_wp2_with fail
      refine ⟨by simp, .inl ⟨_, _, rfl, run_takeDeferred hKs, ?_⟩⟩
      refine ⟨.bool true, ?_, rfl, HB.out⟩
      simp [results, Tryd.f27, go_sem, hca]
    · have hq : (m.pa == 0) = false := by simpa using hpa
      obtain ⟨pm, epm, _⟩ := hw.up h m em hpa
      have HA := Lib.hid (accepts_any base B b s root m.pa h live n g av fr vs vf pm m W hT hS hw epm em)
      rw [hacc hpa] at HA
      have HST := Lib.hid (And.intro hX (And.intro hBW hK))
      clear hX hC hLW hBW hBV hT k3 hacc c0 f0 hS
      gi_wp2_with fail
      refine ⟨trivial, (callsIn_wide.2 HA.out).mono ?_⟩
      rintro e w6 ⟨rfl, hb6⟩
      obtain ⟨hX, hBW, hK⟩ := HST.out
      have hX6 := hX.below hb6 hX.lt
      have c6 : w6.cell? ⟨w.heap.size, 0, none⟩ = some (.bool false) := hX6.cell 0
      have f6 := hX6.free 0
      have hX' := hX6.put 0 (.bool true)
      have hKs := ((ko_below hb6).trans (KeepsOthers.setCell w6 ⟨w.heap.size, 0, none⟩ (.bool true))).same D _ hK rfl
      have hBs := (hBW.trans (hb6.mono hBW.size)).setCell (p := ⟨w.heap.size, 0, none⟩) (Nat.le_refl _) (.bool true)
      obtain ⟨V, hV⟩ : ∃ V, w6.setCell ⟨w.heap.size, 0, none⟩ (.bool true) = V := ⟨_, rfl⟩
      rw [hV] at hX' hKs hBs
      have c9 : V.cell? ⟨w.heap.size, 0, none⟩ = some (.bool true) := hX'.cell 0
      have hca := cell_kept c9 (grownBy_putObj' V D (.deferred none)) (fun r e => by cases e; exact ⟨_, hKs, rfl⟩)
      have HB := Lib.hid (hBs.trans (belowK_b (w := w) (Nat.le_refl _) V D _ (.deferred none) (by have := hB5.size; omega) hKs rfl rfl))
      clear hX hBW hX6 hX' hBs hb6
      gi_wp2_with fail
      refine ⟨by simp, .inl ⟨_, _, rfl, run_takeDeferred hKs, ?_⟩⟩
      refine ⟨.bool true, ?_, rfl, HB.out⟩
      simp [results, Tryd.f27, go_sem, hca]
  case stop =>
    rintro D c pre W _ _ h _
    exact h.elim
end Go.Proofs.YtelncgfeojfafaaDoor

/- Valid: a consistent tree is valid. -/
namespace Go.Proofs.YtelncgfeojfafaaDoor
open Go.RowKit Go.Shelf
set_option linter.unusedVariables false
set_option linter.unusedSimpArgs false
attribute [local go_sem] Oper.semAt_some

theorem memo1 {G X : Prop} (use : X → G) (k : X) : G := use k
/-- What each node of a valid tree is. -/
structure NodeOK (root : Int) (g : Tr.G) (av : Int → Tr.Sl) (w0 : World) (h : Int) (m : Tr.GN) : Prop where
  kind1 : 1 ≤ m.kind
  kind4 : m.kind ≤ 4
  rooted : (m.kind == 1) = (h == root)
  acc : m.pa ≠ 0 → Tr.acceptsG g m.pa h = true
  names : ∀ W, Below w0.heap.size w0 W → Calls Tryd.prog 13 #[ndV (Tr.raw1 g av h m)] W fun e w' => e = .returned (.bool true) ∧ Below W.heap.size W w'
  limits : ∀ W, Below w0.heap.size w0 W → Calls Tryd.prog 15 #[ndV (Tr.raw1 g av h m)] W fun e w' => e = .returned (.bool true) ∧ Below W.heap.size W w'

set_option maxRecDepth 100000 in
set_option maxHeartbeats 1000000 in
theorem valid_any (base B : Nat) (b s root : Int) (live n : Nat) (g : Tr.G) (av : Int → Tr.Sl) (fr : List Nat) (vs vf : Value) (mr : Tr.GN) (w : World) (hm : TV base w B b s vs n (Tr.raw g av) vf fr live root) (hS : Sound b s n (Tr.raw g av) fr live) (hw : Tr.WF 0 g) (hlen : ∀ h, (Tr.kidsOf g h).length ≤ 1000000)
    (hl : live ≤ 20000) (er : g root = some mr) (hrk : mr.kind = 1) (hok : ∀ h m, g h = some m → NodeOK root g av w h m) :
    Calls Tryd.prog 8 #[.pointer (some ⟨B, 0, none⟩)] w fun e w' => e = .returned (.bool true) ∧ Below w.heap.size w w' := by
  have hlt := hm.lt
  refine (callsIn_wide (n := 5)).1 ?_
  refine callsIn_of_wp_marks Tryd.func8 rfl trivial ?_ rfl
  simp only [Tryd.ntmps8, List.size_toArray, List.length_cons, List.length_nil, Nat.reduceAdd, Nat.reduceSub, Array.replicate_succ, Array.replicate_zero, List.push_toArray, List.append_toArray, List.nil_append, List.cons_append]
  have hri := (tmem_i64 hS (h := root) (by rw [raw_isSome, er]; rfl)).1
  obtain ⟨w1, hw1⟩ : ∃ w1, (w.alloc (.cells #[.pointer (some ⟨B, 0, none⟩)] 23)).alloc (.cells #[.bool false] 4) = w1 := ⟨_, rfl⟩
  have hz1 : w1.heap.size = w.heap.size + 2 := by rw [← hw1]; simp
  have hb1 : Below w.heap.size w w1 := by rw [← hw1]; exact ((Below.refl _ w).alloc (Nat.le_refl _) _).alloc (by simp) _
  have hT1 : Whole w1 w.heap.size #[.pointer (some ⟨B, 0, none⟩)] 23 := by rw [← hw1]; exact (Whole.new w _ _).alloc _
  have hX1 : Whole w1 (w.heap.size + 1) #[.bool false] 4 := by
    have := Whole.new (w.alloc (.cells #[.pointer (some ⟨B, 0, none⟩)] 23)) #[.bool false] 4
    rw [World.size_alloc] at this
    rw [← hw1]; exact this
  have hm1 := hm.below hb1
  have t0 : w1.cell? ⟨w.heap.size, 0, none⟩ = some (.pointer (some ⟨B, 0, none⟩)) := hT1.cell 0
  have hlv : ¬ (20000 : Int) < (live : Int) := by omega
  have hdl : decide ((20000 : Int) < (live : Int)) = false := decide_eq_false hlv
  have hbd : Below w1.heap.size w1 w1.drew := Below.drew (Below.refl _ w1)
  have hmd := hm1.below hbd
  have t0d : w1.drew.cell? ⟨w.heap.size, 0, none⟩ = some (.pointer (some ⟨B, 0, none⟩)) := t0
  obtain ⟨_, _, _, _, _, r5⟩ := hmd.cells
  have HT := Lib.hid (fun W (hW : Below w1.drew.heap.size w1.drew W) => show W.cell? ⟨w.heap.size, 0, none⟩ = some (.pointer (some ⟨B, 0, none⟩)) from ((hT1.below hbd hT1.lt).below hW (hT1.below hbd hT1.lt).lt).cell 0)
  have hat : Calls Tryd.prog 19 #[.pointer (some ⟨B, 0, none⟩), .int .i64 root] w1.drew fun e w' => ∃ g4 o4, e = .returned (.pointer (some ⟨g4, o4, none⟩)) ∧ w'.cell? ⟨g4, o4, none⟩ = some (.int .i64 1) ∧ Below w1.drew.heap.size w1.drew w' := by
    refine (at_any base B b s root root live n (Tr.raw g av) fr vs vf _ hmd hS hri).mono ?_
    rintro e w4 ⟨g4, o4, rfl, hnp, hb4⟩
    rw [Tr.raw_some er] at hnp
    obtain ⟨k0, _⟩ := hnp.cells
    exact ⟨g4, o4, rfl, k0.trans (congrArg (fun z => some (Value.int .i64 z)) hrk), hb4⟩
  have HAT := Lib.hid hat
  have HLK := Lib.hid (fun W (hW : Below w1.drew.heap.size w1.drew W) => linked_any base B b s root live n g av fr vs vf W (hmd.below hW) hS hw hlen)
  have HC1 := Lib.hid (And.intro hT1 (And.intro hX1 (And.intro hm1 hb1)))
  clear hat hT1 hX1 hm1 hb1
  gi_wp2_with fail
  try rw [hw1]
  gi_cut [26] from 5 (fun u wc => u = .bool false ∧ Below w1.heap.size w1 wc)
  case first =>
    rename_i J0 K0 hJ0 hK0
    refine wpIn_mono (Q := NoPanic _) ?_ NoPanic.imp
    refine wpIn_region_any (by kernel_rfl) ?_
    try (change wpAnyIn _ _ _ _ _ _ _ _ _ (World.drew _))
    refine wpAnyIn_ready (rs := [0]) (by kernel_rfl) (by simp) ?_
    refine AllReadyIn.cons rfl (fun K hK => ?_) AllReadyIn.nil
    go_simp
    refine hK _ _ ?_
    clear hK K
    try simp only [Act.put, List.setIfInBounds_toArray, List.set_cons_zero, List.set_cons_succ]
    refine wpAnyIn_take (i := 1) (v := ?_) rfl rfl (by kernel_rfl) (by kernel_rfl) (by kernel_rfl) (fun _ _ _ h => h) ⟨Or.inl ⟨by rfl, ?_⟩, fun _ => rfl⟩ ?_
    rotate_left 1
    · (intro w'; go_simp <;> with_reducible rfl)
    try simp only [Act.put, List.setIfInBounds_toArray, List.set_cons_zero, List.set_cons_succ]
    refine wpAnyIn_take (i := 2) (v := ?_) rfl rfl (by kernel_rfl) (by kernel_rfl) (by kernel_rfl) (fun _ _ _ h => h) ⟨Or.inl ⟨by rfl, ?_⟩, fun _ => rfl⟩ ?_
    rotate_left 1
    · (intro w'; go_simp <;> with_reducible rfl)
    try simp only [Act.put, List.setIfInBounds_toArray, List.set_cons_zero, List.set_cons_succ]
    refine wpAnyIn_ready (rs := [3]) (by kernel_rfl) (by simp) ?_
    refine AllReadyIn.cons rfl (fun K hK => ?_) AllReadyIn.nil
    go_simp
    refine ⟨trivial, ?_⟩
    refine (callsIn_wide.2 (nlen_any base B b s root live n (Tr.raw g av) fr vs vf _ hmd)).mono ?_
    rintro e w3 ⟨rfl, rfl⟩
    refine hK _ _ ?_
    clear hK K
    try simp only [Act.put, List.setIfInBounds_toArray, List.set_cons_zero, List.set_cons_succ]
    refine wpAnyIn_take (i := 4) (v := ?_) rfl rfl (by kernel_rfl) (by kernel_rfl) (by kernel_rfl) (fun _ _ _ h => h) ⟨Or.inl ⟨by rfl, ?_⟩, fun _ => rfl⟩ ?_
    rotate_left 1
    · (intro w'; go_simp <;> with_reducible rfl)
    try simp only [Act.put, List.setIfInBounds_toArray, List.set_cons_zero, List.set_cons_succ]
    refine wpAnyIn_take (i := 5) (v := ?_) rfl rfl (by kernel_rfl) (by kernel_rfl) (by kernel_rfl) (fun _ _ _ h => h) ⟨Or.inl ⟨by rfl, ?_⟩, fun _ => rfl⟩ ?_
    rotate_left 1
    · (intro w'; go_simp <;> with_reducible rfl)
    try simp only [Act.put, List.setIfInBounds_toArray, List.set_cons_zero, List.set_cons_succ]
    apply memo1
    case use =>
      intro KEY
      refine wpAnyIn_ready (rs := [6, 7]) (by kernel_rfl) (by simp) ?_
      refine AllReadyIn.cons rfl (fun K hK => ?_) (AllReadyIn.cons rfl (fun K hK => ?_) AllReadyIn.nil)
      · go_simp
        refine hK _ _ ?_
        clear hK K
        try simp only [Act.put, List.setIfInBounds_toArray, List.set_cons_zero, List.set_cons_succ]
        refine wpAnyIn_ready (rs := [7]) (by kernel_rfl) (by simp) ?_
        refine AllReadyIn.cons rfl (fun K hK => ?_) AllReadyIn.nil
        go_simp
        refine hK _ _ ?_
        clear hK K
        try simp only [Act.put, List.setIfInBounds_toArray, List.set_cons_zero, List.set_cons_succ]
        refine wpAnyIn_take (i := 8) (v := ?_) rfl rfl (by kernel_rfl) (by kernel_rfl) (by kernel_rfl) (fun _ _ _ h => h) ⟨Or.inl ⟨by rfl, ?_⟩, fun _ => rfl⟩ ?_
        rotate_left 1
        · (intro w'; go_simp <;> with_reducible rfl)
        try simp only [Act.put, List.setIfInBounds_toArray, List.set_cons_zero, List.set_cons_succ]
        refine wpAnyIn_take (i := 9) (v := ?_) rfl rfl (by kernel_rfl) (by kernel_rfl) (by kernel_rfl) (fun _ _ _ h => h) ⟨Or.inl ⟨by rfl, ?_⟩, fun _ => rfl⟩ ?_
        rotate_left 1
        · (intro w'; go_simp <;> with_reducible rfl)
        try simp only [Act.put, List.setIfInBounds_toArray, List.set_cons_zero, List.set_cons_succ]
        refine wpAnyIn_ready (rs := [10]) (by kernel_rfl) (by simp) ?_
        refine AllReadyIn.cons rfl (fun K hK => ?_) AllReadyIn.nil
        go_simp
        refine hK _ _ ?_
        clear hK K
        try simp only [Act.put, List.setIfInBounds_toArray, List.set_cons_zero, List.set_cons_succ]
        exact KEY
      · go_simp
        refine hK _ _ ?_
        clear hK K
        try simp only [Act.put, List.setIfInBounds_toArray, List.set_cons_zero, List.set_cons_succ]
        refine wpAnyIn_take (i := 8) (v := ?_) rfl rfl (by kernel_rfl) (by kernel_rfl) (by kernel_rfl) (fun _ _ _ h => h) ⟨Or.inl ⟨by rfl, ?_⟩, fun _ => rfl⟩ ?_
        rotate_left 1
        · (intro w'; go_simp <;> with_reducible rfl)
        try simp only [Act.put, List.setIfInBounds_toArray, List.set_cons_zero, List.set_cons_succ]
        refine wpAnyIn_take (i := 9) (v := ?_) rfl rfl (by kernel_rfl) (by kernel_rfl) (by kernel_rfl) (fun _ _ _ h => h) ⟨Or.inl ⟨by rfl, ?_⟩, fun _ => rfl⟩ ?_
        rotate_left 1
        · (intro w'; go_simp <;> with_reducible rfl)
        try simp only [Act.put, List.setIfInBounds_toArray, List.set_cons_zero, List.set_cons_succ]
        refine wpAnyIn_ready (rs := [6, 10]) (by kernel_rfl) (by simp) ?_
        refine AllReadyIn.cons rfl (fun K hK => ?_) (AllReadyIn.cons rfl (fun K hK => ?_) AllReadyIn.nil)
        · go_simp
          refine hK _ _ ?_
          clear hK K
          try simp only [Act.put, List.setIfInBounds_toArray, List.set_cons_zero, List.set_cons_succ]
          refine wpAnyIn_ready (rs := [10]) (by kernel_rfl) (by simp) ?_
          refine AllReadyIn.cons rfl (fun K hK => ?_) AllReadyIn.nil
          go_simp
          refine hK _ _ ?_
          clear hK K
          try simp only [Act.put, List.setIfInBounds_toArray, List.set_cons_zero, List.set_cons_succ]
          exact KEY
        · go_simp
          refine hK _ _ ?_
          clear hK K
          try simp only [Act.put, List.setIfInBounds_toArray, List.set_cons_zero, List.set_cons_succ]
          refine wpAnyIn_ready (rs := [6]) (by kernel_rfl) (by simp) ?_
          refine AllReadyIn.cons rfl (fun K hK => ?_) AllReadyIn.nil
          go_simp
          refine hK _ _ ?_
          clear hK K
          try simp only [Act.put, List.setIfInBounds_toArray, List.set_cons_zero, List.set_cons_succ]
          exact KEY
    case k =>
      show wpAnyIn _ _ _ _ _ _ _ _ _ _
      refine wpAnyIn_ready (rs := [11]) (by kernel_rfl) (by simp) ?_
      refine AllReadyIn.cons rfl (fun K hK => ?_) AllReadyIn.nil
      go_simp
      refine ⟨trivial, ?_⟩
      refine (callsIn_wide.2 HAT.out).mono ?_
      rintro e w4 ⟨g4, o4, rfl, k0, hb4⟩
      have t4 := HT.out w4 hb4
      have HLK := Lib.hid (HLK.out w4 hb4)
      refine hK _ _ ?_
      clear hK K
      try simp only [Act.put, List.setIfInBounds_toArray, List.set_cons_zero, List.set_cons_succ]
      refine wpAnyIn_take (i := 12) (v := ?_) rfl rfl (by kernel_rfl) (by kernel_rfl) (by kernel_rfl) (fun _ _ _ h => h) ⟨Or.inl ⟨by rfl, ?_⟩, fun _ => rfl⟩ ?_
      rotate_left 1
      · (intro w'; go_simp <;> with_reducible rfl)
      try simp only [Act.put, List.setIfInBounds_toArray, List.set_cons_zero, List.set_cons_succ]
      refine wpAnyIn_take (i := 13) (v := ?_) rfl rfl (by kernel_rfl) (by kernel_rfl) (by kernel_rfl) (fun _ _ _ h => h) ⟨Or.inl ⟨by rfl, ?_⟩, fun _ => rfl⟩ ?_
      rotate_left 1
      · (intro w'; go_simp <;> with_reducible rfl)
      try simp only [Act.put, List.setIfInBounds_toArray, List.set_cons_zero, List.set_cons_succ]
      refine wpAnyIn_ready (rs := [14]) (by kernel_rfl) (by simp) ?_
      refine AllReadyIn.cons rfl (fun K hK => ?_) AllReadyIn.nil
      go_simp
      refine hK _ _ ?_
      clear hK K
      try simp only [Act.put, List.setIfInBounds_toArray, List.set_cons_zero, List.set_cons_succ]
      refine wpAnyIn_take (i := 15) (v := ?_) rfl rfl (by kernel_rfl) (by kernel_rfl) (by kernel_rfl) (fun _ _ _ h => h) ⟨Or.inl ⟨by rfl, ?_⟩, fun _ => rfl⟩ ?_
      rotate_left 1
      · (intro w'; go_simp <;> with_reducible rfl)
      try simp only [Act.put, List.setIfInBounds_toArray, List.set_cons_zero, List.set_cons_succ]
      refine wpAnyIn_take (i := 16) (v := ?_) rfl rfl (by kernel_rfl) (by kernel_rfl) (by kernel_rfl) (fun _ _ _ h => h) ⟨Or.inl ⟨by rfl, ?_⟩, fun _ => rfl⟩ ?_
      rotate_left 1
      · (intro w'; go_simp <;> with_reducible rfl)
      try simp only [Act.put, List.setIfInBounds_toArray, List.set_cons_zero, List.set_cons_succ]
      refine wpAnyIn_take (i := 17) (v := ?_) rfl rfl (by kernel_rfl) (by kernel_rfl) (by kernel_rfl) (fun _ _ _ h => h) ⟨Or.inl ⟨by rfl, ?_⟩, fun _ => rfl⟩ ?_
      rotate_left 1
      · (intro w'; go_simp <;> with_reducible rfl)
      try simp only [Act.put, List.setIfInBounds_toArray, List.set_cons_zero, List.set_cons_succ]
      refine wpAnyIn_ready (rs := [18]) (by kernel_rfl) (by simp) ?_
      refine AllReadyIn.cons rfl (fun K hK => ?_) AllReadyIn.nil
      go_simp
      refine hK _ _ ?_
      clear hK K
      try simp only [Act.put, List.setIfInBounds_toArray, List.set_cons_zero, List.set_cons_succ]
      refine wpAnyIn_ready (rs := [19]) (by kernel_rfl) (by simp) ?_
      refine AllReadyIn.cons rfl (fun K hK => ?_) AllReadyIn.nil
      go_simp
      refine ⟨trivial, ?_⟩
      refine (callsIn_wide.2 HLK.out).mono ?_
      rintro e w5 ⟨rfl, hb5⟩
      refine hK _ _ ?_
      clear hK K
      try simp only [Act.put, List.setIfInBounds_toArray, List.set_cons_zero, List.set_cons_succ]
      refine wpAnyIn_take (i := 20) (v := ?_) rfl rfl (by kernel_rfl) (by kernel_rfl) (by kernel_rfl) (fun _ _ _ h => h) ⟨Or.inl ⟨by rfl, ?_⟩, fun _ => rfl⟩ ?_
      rotate_left 1
      · (intro w'; go_simp <;> with_reducible rfl)
      try simp only [Act.put, List.setIfInBounds_toArray, List.set_cons_zero, List.set_cons_succ]
      refine wpAnyIn_take (i := 21) (v := ?_) rfl rfl (by kernel_rfl) (by kernel_rfl) (by kernel_rfl) (fun _ _ _ h => h) ⟨Or.inl ⟨by rfl, ?_⟩, fun _ => rfl⟩ ?_
      rotate_left 1
      · (intro w'; go_simp <;> with_reducible rfl)
      try simp only [Act.put, List.setIfInBounds_toArray, List.set_cons_zero, List.set_cons_succ]
      refine wpAnyIn_done (by kernel_rfl) ?_ _
      exact hK0 _ _ (Met.intro (hJ0 _ _ ⟨_, _, _, _, _, _, _, _, _, _, _, _, _, _, _, _, _, _, _, _, _, _, _, _, _, _, _, _, _, _, _, _, _, _, _, _, _, _, _, _, _, _, ⟨rfl, hbd.trans ((hb4.trans (hb5.mono hb4.size)).mono hbd.size)⟩, rfl⟩))
  case rest =>
    obtain ⟨rfl, hbc⟩ := hcut
    obtain ⟨hT1, hX1, hm1, hb1⟩ := HC1.out
    have hTc := hT1.below hbc hT1.lt
    have hXc := hX1.below hbc hX1.lt
    have hmc := hm1.below hbc
    have hBc := hb1.trans (hbc.mono hb1.size)
    have hszc : w.heap.size + 2 ≤ wc.heap.size := by have := hbc.size; omega
    have tc : wc.cell? ⟨w.heap.size, 0, none⟩ = some (.pointer (some ⟨B, 0, none⟩)) := hTc.cell 0
    have hL := AS.made hmc
    have hsz2 : (wc.alloc (.cells #[.pointer (some ⟨B, 0, none⟩)] 62)).heap.size = wc.heap.size + 1 := by simp
    have hb2 : Below wc.heap.size wc (wc.alloc (.cells #[.pointer (some ⟨B, 0, none⟩)] 62)) := (Below.refl _ wc).alloc (Nat.le_refl _) _
    have hseq := all_seq hS.le _ hL
    clear hT1 hX1 hm1 hb1 hbc HAT HLK HT
    gi_wp2_with fail
    refine ⟨trivial, (callsIn_wide.2 (nall_make B wc)).mono ?_⟩
    rintro e w' ⟨rfl, hw'⟩
    rw [← hw'] at hL hsz2 hb2 hseq
    have hT2 := hTc.below hb2 hTc.lt
    have hX2 := hXc.below hb2 hXc.lt
    have hB2 := hBc.trans (hb2.mono hBc.size)
    have HSS := Lib.hid (And.intro hS (And.intro hm hw))
    clear hS hm hw hw' hb2 hTc hXc hBc tc hmc
    gi_wp2_with fail
    refine wpIn_rangeFunc_ownH (w := w') rfl (by decide) (gf := 46) (lb := #[.pointer (some ⟨wc.heap.size, 0, none⟩)]) rfl trivial (enters_of Tryd.func46 (by kernel_rfl) rfl) hseq LS.keepT (AS.keepB _) (Below.refl _ _) (fun _ => rfl)
      (fun pre W => Whole W w.heap.size #[.pointer (some ⟨B, 0, none⟩)] 23 ∧ Whole W (w.heap.size + 1) #[.bool false] 4 ∧ AS base B wc.heap.size b s vs n (Tr.raw g av) vf fr live root W ∧ Below w.heap.size w W)
      (fun _ _ _ => False)
      ?hI ?hIx ⟨hT2, hX2, hL, hB2⟩ (fun x a' W => ∃ bx, a' = { tmps := #[.pointer (some ⟨B, 0, none⟩), .pointer (some ⟨w.heap.size, 0, none⟩), .pointer (some ⟨w.heap.size + 1, 0, none⟩), .int .i64 x.1.1, .pointer (some ⟨bx, 0, none⟩), u5, u6, u7, u8, u9, u10, u11, u12, u13, u14, u15, u16, u17, u18, u19, u20, u21, u22, u23, u24, u25, .bool false, .pointer (some ⟨B, 0, none⟩), .pointer (some ⟨B, 0, none⟩), .pointer (some ⟨B, 0, none⟩), .func (.func 46) #[] #[.pointer (some ⟨wc.heap.size, 0, none⟩)], .int .i64 x.1.1, ndV x.1.2, u33, u34, u35, u36, u37, u38, u39, u40, u41, u42, u43, u44, u45, u46], defers := [] } ∧ Whole W bx (ndC x.1.2) 45) ?hAx ?assign ?body ?done ?stop
    case hI =>
      rintro pre W W' row ⟨hT, hX, h2, h3⟩ hg hr
      exact ⟨whole_others hT hg (fun r e => (hr r e).2), whole_others hX hg (fun r e => (hr r e).2), h2.others hg (fun r e => (hr r e).2), h3.grown hg h3.size (fun r e => by have := (hr r e).1; omega)⟩
    case hIx => intro c pre W W' row h _ _; exact h
    case hAx =>
      rintro x a' u W W' row ⟨bx, e, hx⟩ hg hr
      exact ⟨bx, e, whole_others hx hg (fun r e => (hr r e).2)⟩
    case assign =>
      rintro l pre x W K ⟨hT, hX, hLW, hBW⟩ hK
      have hbA : Below W.heap.size W (W.alloc (.cells (ndC x.1.2) 45)) := (Below.refl _ W).alloc (Nat.le_refl _) _
      have HK := Lib.hid (hK _ _ ((ko_below hbA).from _) (fun h => h.below hbA) ⟨hT.below hbA hT.lt, hX.below hbA hX.lt, hLW.below hbA, hBW.trans (hbA.mono hBW.size)⟩ ⟨W.heap.size, rfl, Whole.new W _ _⟩)
      clear hK hT hX hLW hBW hbA
      gi_wp2
      first | exact HK.out | simpa using HK.out
    case body =>
      rintro l pre x a' W hl' hrec ⟨hT, hX, hLW, hBW⟩ ⟨bx, rfl, hbx⟩ hlen2
      obtain ⟨⟨h, d⟩, hmem⟩ := x
      obtain ⟨i, hi, hih, er2⟩ := allN_mem.1 hmem
      dsimp only at er2 hih
      clear hih hi
      obtain ⟨hS, hm, hw⟩ := HSS.out
      have hxi := (tmem_i64 hS (h := h) (by rw [er2]; rfl)).1
      have hin : (g h).isSome := by rw [← raw_isSome (av := av), er2]; rfl
      obtain ⟨m, em⟩ := Option.isSome_iff_exists.1 hin
      rw [Tr.raw_some em] at er2
      obtain rfl := Option.some.inj er2
      have hO := hok h m em
      have HWP := Lib.hid (wplaced_any base B b s root h live n g av fr vs vf m W hLW.tree hS hw hxi em hO.kind1 hO.kind4 hO.rooted hO.acc)
      change Whole W bx (ndC (Tr.raw1 g av h m)) _ at hbx
      have HNM := Lib.hid hO.names
      have HLM := Lib.hid hO.limits
      have t0 : W.cell? ⟨w.heap.size, 0, none⟩ = some (.pointer (some ⟨B, 0, none⟩)) := hT.cell 0
      have HST := Lib.hid (And.intro hT (And.intro hX (And.intro hLW (And.intro hBW hbx))))
      clear hT hX hLW hBW hbx hS hm hw hO
      gi_wp2_with fail
      refine ⟨trivial, (CallsIn.inRound l (callsIn_wide.2 HWP.out)).mono ?_⟩
      rintro e w4 ⟨rfl, hb4⟩
      have hB4 : Below w.heap.size w w4 := HST.out.2.2.2.1.trans (hb4.mono HST.out.2.2.2.1.size)
      have hx4 := HST.out.2.2.2.2.below hb4 HST.out.2.2.2.2.lt
      have k0 : w4.cell? ⟨bx, 0, none⟩ = some (.int .i64 (Tr.raw1 g av h m).kind) := hx4.cell 0
      have k1 : w4.cell? ⟨bx, 1, none⟩ = some (.string (Tr.raw1 g av h m).name) := hx4.cell 1
      have k2 : w4.cell? ⟨bx, 2, none⟩ = some (.slice (Tr.raw1 g av h m).av.a (Tr.raw1 g av h m).av.n (Tr.raw1 g av h m).av.c) := hx4.cell 2
      have k3 : w4.cell? ⟨bx, 3, none⟩ = some (.string (Tr.raw1 g av h m).data) := hx4.cell 3
      have k4 : w4.cell? ⟨bx, 4, none⟩ = some (.int .i64 (Tr.raw1 g av h m).pa) := hx4.cell 4
      have k5 : w4.cell? ⟨bx, 5, none⟩ = some (.int .i64 (Tr.raw1 g av h m).fi) := hx4.cell 5
      have k6 : w4.cell? ⟨bx, 6, none⟩ = some (.int .i64 (Tr.raw1 g av h m).la) := hx4.cell 6
      have k7 : w4.cell? ⟨bx, 7, none⟩ = some (.int .i64 (Tr.raw1 g av h m).pr) := hx4.cell 7
      have k8 : w4.cell? ⟨bx, 8, none⟩ = some (.int .i64 (Tr.raw1 g av h m).ne) := hx4.cell 8
      obtain ⟨d, hd⟩ : ∃ d, Tr.raw1 g av h m = d := ⟨_, rfl⟩
      rw [hd] at k0 k1 k2 k3 k4 k5 k6 k7 k8 hx4 HNM HLM
      have HN4 := Lib.hid (HNM.out w4 hB4)
      gi_wp2_with fail
      refine ⟨trivial, (CallsIn.inRound l (callsIn_wide.2 HN4.out)).mono ?_⟩
      rintro e w5 ⟨rfl, hb5⟩
      have hB5 := hB4.trans (hb5.mono hB4.size)
      have hx5 := hx4.below hb5 hx4.lt
      replace k0 : w5.cell? ⟨bx, 0, none⟩ = some (.int .i64 d.kind) := hx5.cell 0
      replace k1 : w5.cell? ⟨bx, 1, none⟩ = some (.string d.name) := hx5.cell 1
      replace k2 : w5.cell? ⟨bx, 2, none⟩ = some (.slice d.av.a d.av.n d.av.c) := hx5.cell 2
      replace k3 : w5.cell? ⟨bx, 3, none⟩ = some (.string d.data) := hx5.cell 3
      replace k4 : w5.cell? ⟨bx, 4, none⟩ = some (.int .i64 d.pa) := hx5.cell 4
      replace k5 : w5.cell? ⟨bx, 5, none⟩ = some (.int .i64 d.fi) := hx5.cell 5
      replace k6 : w5.cell? ⟨bx, 6, none⟩ = some (.int .i64 d.la) := hx5.cell 6
      replace k7 : w5.cell? ⟨bx, 7, none⟩ = some (.int .i64 d.pr) := hx5.cell 7
      replace k8 : w5.cell? ⟨bx, 8, none⟩ = some (.int .i64 d.ne) := hx5.cell 8
      have HL5 := Lib.hid (HLM.out w5 hB5)
      gi_wp2_with fail
      refine ⟨trivial, (CallsIn.inRound l (callsIn_wide.2 HL5.out)).mono ?_⟩
      rintro e w6 ⟨rfl, hb6⟩
      have hb46 := hb4.trans ((hb5.trans (hb6.mono hb5.size)).mono hb4.size)
      obtain ⟨hT, hX, hLW, hBW, _⟩ := HST.out
      have HF := Lib.hid (And.intro (ko_below hb46) (And.intro (hLW.below hb46) (And.intro (hT.below hb46 hT.lt) (And.intro (hX.below hb46 hX.lt) (hBW.trans (hb46.mono hBW.size))))))
      clear hT hX hLW hBW hb46 hb4 hb5 hb6 hB4 hB5 hx4 hx5 HL5 HN4
      gi_wp2_with fail
      obtain ⟨f1, f2, f3, f4, f5⟩ := HF.out
      exact ⟨f1.from _, fun _ => f2, f3, f4, f2, f5⟩
    case done =>
      rintro D xs W hD rfl ⟨hT, hX, hLW, hBW⟩ hK
      have c0 : W.cell? ⟨w.heap.size + 1, 0, none⟩ = some (.bool false) := hX.cell 0
      have f0 := hX.free 0
      have hX' := hX.put 0 (.bool true)
      have hKs := (KeepsOthers.setCell W ⟨w.heap.size + 1, 0, none⟩ (.bool true)).same D _ hK rfl
      have hBs := hBW.setCell (p := ⟨w.heap.size + 1, 0, none⟩) (by show _ ≤ w.heap.size + 1; omega) (.bool true)
      obtain ⟨V, hV⟩ : ∃ V, W.setCell ⟨w.heap.size + 1, 0, none⟩ (.bool true) = V := ⟨_, rfl⟩
      rw [hV] at hX' hKs hBs
      have c9 : V.cell? ⟨w.heap.size + 1, 0, none⟩ = some (.bool true) := hX'.cell 0
      have hca := cell_kept c9 (grownBy_putObj' V D (.deferred none)) (fun r e => by cases e; exact ⟨_, hKs, rfl⟩)
      have HB := Lib.hid (hBs.trans (belowK_b (w := w) (Nat.le_refl _) V D _ (.deferred none) (by omega) hKs rfl rfl))
      clear hT hX hLW hBW hX' hBs
      gi_wp2_with fail
      refine ⟨by simp, .inl ⟨_, _, rfl, run_takeDeferred hKs, ?_⟩⟩
      refine ⟨.bool true, ?_, rfl, HB.out⟩
      simp [results, Tryd.f8, go_sem, hca]
    case stop =>
      rintro D c pre W _ _ h _
      exact h.elim
end Go.Proofs.YtelncgfeojfafaaDoor
