/- The methods of a tree's arena: each returns, and leaves in memory, what the nodes by handles say. -/
import Derived.Test.YtelncgfeojfafaaDoorKC
namespace Go.Proofs.YtelncgfeojfafaaDoor
open Go.RowKit
set_option linter.unusedVariables false
set_option linter.unusedSimpArgs false

theorem slotInfoN : (Tryd.prog.info? 64).map (fun i => (i.zero, i.size, i.bytes)) = some (some (.agg #[.bool false, .int .i64 0, .string ⟨#[]⟩, .slice none 0 0, .string ⟨#[]⟩, .int .i64 0, .int .i64 0, .int .i64 0, .int .i64 0, .int .i64 0]), 10, 112) := by kernel_rfl
theorem intInfo : (Tryd.prog.info? 3).map (fun i => (i.zero, i.size, i.bytes)) = some (some (.int .i64 0), 1, 8) := by kernel_rfl
/-- The slot that is taken next: without a free one, a new one. -/
def vacN (n : Nat) (fr : List Nat) : Nat × List Nat × Nat := match fr.getLast? with | none => (n + 1, [], n) | some i => (n, fr.dropLast, i)
theorem vacN_nil (n : Nat) : vacN n [] = (n + 1, [], n) := rfl
theorem vacN_last (n : Nat) (L : List Nat) (i : Nat) : vacN n (L ++ [i]) = (n, L, i) := by unfold vacN; simp

set_option maxRecDepth 100000 in
set_option maxHeartbeats 1000000 in
theorem nvac_any (base B : Nat) (b s root : Int) (live n : Nat) (R : Int → Option Tr.Nd) (fr : List Nat) (vs vf : Value) (w : World) (hM : TV base w B b s vs n R vf fr live root) (hS : Sound b s n R fr live) (hb : base ≤ w.heap.size) (hl : n < 100000) :
    Calls Tryd.prog 28 #[.pointer (some ⟨B, 0, none⟩)] w fun e w' => ∃ vs' vf', e = .returned (.int .i64 ((vacN n fr).2.2 : Nat)) ∧ TV base w' B b s vs' (vacN n fr).1 R vf' (vacN n fr).2.1 live root ∧ AStep w w' (Foot B vs vf) (Foot B vs' vf') := by
  obtain ⟨A, c, A', c', rfl, rfl⟩ := hM.slices
  obtain ⟨_, _, k2, k3, _⟩ := hM.cells
  obtain ⟨i0, hi0, hz0, hz1, hz2⟩ := info_parts slotInfoN
  go_enter Tryd.func28, Tryd.ntmps28
  by_cases hz : fr = []
  · subst hz
    rw [vacN_nil]
    simp only [List.length_nil] at hM k3 ⊢
    have hout := hS.out (i := n) (Nat.le_refl _) (by omega)
    have hs1 : (w.alloc (.cells #[.bool false, .int .i64 0, .string ⟨#[]⟩, .slice none 0 0, .string ⟨#[]⟩, .int .i64 0, .int .i64 0, .int .i64 0, .int .i64 0, .int .i64 0] 64)).ownsRow 0 64 10 (.slice (some ⟨w.heap.size, 0, none⟩) 1 1) 1 (slN (false, Tr.zNd)) := World.ownsRow_lit w #[.bool false, .int .i64 0, .string ⟨#[]⟩, .slice none 0 0, .string ⟨#[]⟩, .int .i64 0, .int .i64 0, .int .i64 0, .int .i64 0, .int .i64 0] 1 (Nat.zero_le _) (by unfold maxLen; omega) rfl
    have hone : ∀ u ∈ slN (false, Tr.zNd), u.oneCell' = true := fun u hu => by
      simp only [slN, List.mem_cons, List.not_mem_nil, or_false] at hu
      rcases hu with rfl | rfl | rfl | rfl | rfl | rfl | rfl | rfl | rfl | rfl <;> rfl
    have hB1 := (Below.refl _ w).alloc (Nat.le_refl _) (.cells #[.bool false, .int .i64 0, .string ⟨#[]⟩, .slice none 0 0, .string ⟨#[]⟩, .int .i64 0, .int .i64 0, .int .i64 0, .int .i64 0, .int .i64 0] 64)
    have hM1 := hM.below hB1
    have hcb : base ≤ (w.alloc (.cells #[.bool false, .int .i64 0, .string ⟨#[]⟩, .slice none 0 0, .string ⟨#[]⟩, .int .i64 0, .int .i64 0, .int .i64 0, .int .i64 0, .int .i64 0] 64)).heap.size := Nat.le_trans hb hB1.size
    clear hS
    go_wp2_with (at_builtin; refine wpList_append_src rfl _ _ 27 rfl base 0 64 i0 (.agg #[.bool false, .int .i64 0, .string ⟨#[]⟩, .slice none 0 0, .string ⟨#[]⟩, .int .i64 0, .int .i64 0, .int .i64 0, .int .i64 0, .int .i64 0]) 10 112 Tryd.underlying27 hi0 hz0 hz1 hz2 rfl (by decide) _ _ _ rfl hM1.row _ 1 (slN (false, Tr.zNd)) rfl hs1 hone ?c3 ?c4 hcb ?_)
    case c3 => unfold maxLen; omega
    case c4 => omega
    intro v5 w5 o5 g5 f5
    have e5 : tcells b s n R ++ slN (false, Tr.zNd) = tcells b s (n + 1) R := by
      unfold tcells
      rw [cellsT_succ, hout]; rfl
    rw [e5] at o5
    obtain ⟨A5, c5, rfl⟩ := own_slice (own_zero o5)
    obtain ⟨hW5, hM6, hst⟩ := hM.grow_slots hB1 g5 o5 f5
    obtain ⟨w6, hw6⟩ : ∃ w6, w5.setCell ⟨B, 2, none⟩ (.slice A5 (n + 1) c5) = w6 := ⟨_, rfl⟩
    have y2 : w5.cell? ⟨B, 2, none⟩ = some (.slice A n c) := hW5.cell 2
    have z2 := hW5.free 2
    rw [hw6] at hM6 hst
    obtain ⟨_, _, q2, _, _⟩ := hM6.cells
    have HM := Lib.hid hM6
    clear hM hM1 hM6 k2 k3 hs1 o5 g5 f5 hW5 e5 hout
    go_wp2_with fail
    go_ret
    exact ⟨_, _, by go_num, HM.out, hst⟩
  · obtain ⟨L, i, rfl⟩ : ∃ L i, fr = L ++ [i] := ⟨fr.dropLast, fr.getLast hz, (List.dropLast_concat_getLast hz).symm⟩
    rw [vacN_last]
    have hfl : (L ++ [i]).length = L.length + 1 := by simp
    have hcn := hS.count
    clear hz hS
    have hvf := hM.free
    rw [hfl] at k3 hvf hcn
    obtain ⟨m, hm⟩ : ∃ m, L.length = m := ⟨_, rfl⟩
    rw [hm] at k3 hvf hcn
    obtain ⟨g, hg, _, hc⟩ := own_cells (own_zero hvf) (by omega)
    subst hg
    have hc' := hc m (.int .i64 (i : Int)) (by rw [nums_append, ← hm]; simp [nums])
    have hcap := own_cap hvf
    have hpop : w.ownsRow base 3 1 (.slice (some ⟨g, 0, none⟩) m c') L.length (nums L) := by
      have h := own_prefix hvf m (by omega)
      have e : (nums (L ++ [i])).take (m * 1) = nums L := by rw [nums_append, Nat.mul_one]; exact List.take_left' (by simp [nums, hm])
      rw [e] at h
      rw [hm]
      exact h
    obtain ⟨hW5, hM6, hst⟩ := hM.grow_free (Below.refl _ w) (w5 := w) (by rw [hfl, hm]; exact gb_of_below (Below.refl w.heap.size w) _) hpop (.inl (by simp [Value.ownBlock]))
    rw [hfl, hm] at hW5 hst
    rw [hfl, hm]
    have y3 : w.cell? ⟨B, 3, none⟩ = some (.slice (some ⟨g, 0, none⟩) (m + 1) c') := hW5.cell 3
    have z3 := hW5.free 3
    obtain ⟨w6, hw6⟩ : ∃ w6, w.setCell ⟨B, 3, none⟩ (.slice (some ⟨g, 0, none⟩) m c') = w6 := ⟨_, rfl⟩
    rw [hw6] at hM6 hst
    have HM := Lib.hid hM6
    have HF := Lib.hid hfl
    have HM2 := Lib.hid hm
    have hmb : m ≤ 100000 := by omega
    clear hM hM6 hvf hc hpop hW5 hfl hm k3 hcn hl
    go_wp2_with fail
    go_ret
    first | exact ⟨_, _, rfl, HM.out, hst⟩ | exact ⟨rfl, _, _, HM.out, hst⟩

/-- What a function that looks a handle up returns. -/
def hasN (b s : Int) (R : Int → Option Tr.Nd) (h : Int) : Int := match R h with | some _ => Ar.idx b s h | none => -1

set_option maxRecDepth 100000 in
set_option maxHeartbeats 1000000 in
theorem nused_any (base B : Nat) (b s root h : Int) (live n : Nat) (R : Int → Option Tr.Nd) (fr : List Nat) (vs vf : Value) (w : World) (hm : TV base w B b s vs n R vf fr live root) (hS : Sound b s n R fr live) (hh : I64 h) :
    Calls Tryd.prog 54 #[.pointer (some ⟨B, 0, none⟩), .int .i64 h] w fun e w' => e = .returned (.int .i64 (hasN b s R h)) ∧ Below w.heap.size w w' := by
  obtain ⟨A, c, A', c', rfl, rfl⟩ := hm.slices
  obtain ⟨k0, k1, _, _, _⟩ := hm.cells
  have hcase := hS.idx h
  have hle := hS.le
  have hir := Ar.idx_range b s h
  clear hS
  go_enter Tryd.func54, Tryd.ntmps54
  go_wp2_with fail
  refine (aindex_any b s h _ hh).mono ?_
  rintro e w2 ⟨rfl, hb2⟩
  have hm2 := hm.below hb2
  obtain ⟨_, _, c2, _, _⟩ := hm2.cells
  clear k0 k1
  rcases hcase with ⟨i, h1, h2, h3⟩ | ⟨hi, h1 | ⟨h1, h2⟩⟩
  · obtain ⟨g, rfl, _, _, hcell⟩ := hm2.slot (by omega)
    have hc3 := (hcell i 0 h2 (by omega)).1
    rw [h3] at hc3
    have q1 : (i : Int) < (n : Int) := by omega
    have q2 : ¬ (n : Int) ≤ (i : Int) := by omega
    have q3 : ¬ (i : Int) < 0 := by omega
    cases e : R h with
    | some d =>
      have hr : hasN b s R h = (i : Int) := by unfold hasN; rw [e, h1]
      rw [e] at hc3
      have hc4 : w2.cell? ⟨g, i * 10, none⟩ = some (.bool true) := hc3
      rw [h1]
      have HR := Lib.hid hr
      clear hr h1 h3 e hc3 hm hm2 hcell hir
      go_wp2_with fail
      go_ret
      exact ⟨aretI HR.out.symm, hb2⟩
    | none =>
      have hr : hasN b s R h = -1 := by unfold hasN; rw [e]
      rw [e] at hc3
      have hc4 : w2.cell? ⟨g, i * 10, none⟩ = some (.bool false) := hc3
      rw [h1]
      have HR := Lib.hid hr
      clear hr h1 h3 e hc3 hm hm2 hcell hir
      go_wp2_with fail
      go_ret
      exact ⟨aretI HR.out.symm, hb2⟩
  · have hr : hasN b s R h = -1 := by unfold hasN; rw [hi]
    have HR := Lib.hid hr
    clear hr hi hm hm2 hir
    go_wp2_with fail
    go_ret
    exact ⟨aretI HR.out.symm, hb2⟩
  · have hr : hasN b s R h = -1 := by unfold hasN; rw [hi]
    have HR := Lib.hid hr
    have q1 : ¬ Ar.idx b s h < 0 := by omega
    clear hr hi hm hm2 hir
    go_wp2_with fail
    go_ret
    exact ⟨aretI HR.out.symm, hb2⟩

theorem hasN_cases {b s h : Int} {n live : Nat} {R : Int → Option Tr.Nd} {fr : List Nat} (hS : Sound b s n R fr live) : (∃ (i : Nat) (d : Tr.Nd), R h = some d ∧ hasN b s R h = (i : Int) ∧ i < n ∧ Ar.hdl b s (i : Int) = h) ∨ (R h = none ∧ hasN b s R h = -1) := by
  cases e : R h with
  | none => exact .inr ⟨rfl, by unfold hasN; rw [e]⟩
  | some d =>
    rcases hS.idx h with ⟨i, h1, h2, h3⟩ | ⟨h1, _⟩
    · exact .inl ⟨i, d, rfl, by unfold hasN; rw [e]; exact h1, h2, h3⟩
    · rw [e] at h1; cases h1

/-- The address of a node. -/
def nodeAt (b s : Int) (vs : Value) (R : Int → Option Tr.Nd) (h : Int) : Option Addr :=
  match R h, vs with
  | some _, .slice (some a) _ _ => some ⟨a.block, (Ar.idx b s h).toNat * 10 + 1, none⟩
  | _, _ => none

set_option maxRecDepth 100000 in
set_option maxHeartbeats 1000000 in
theorem nat_any (base B : Nat) (b s root h : Int) (live n : Nat) (R : Int → Option Tr.Nd) (fr : List Nat) (vs vf : Value) (w : World) (hm : TV base w B b s vs n R vf fr live root) (hS : Sound b s n R fr live) (hh : I64 h) :
    Calls Tryd.prog 38 #[.pointer (some ⟨B, 0, none⟩), .int .i64 h] w fun e w' => e = .returned (.pointer (nodeAt b s vs R h)) ∧ Below w.heap.size w w' := by
  go_enter Tryd.func38, Tryd.ntmps38
  go_wp2_with fail
  refine (nused_any base B b s root h live n R fr vs vf w hm hS hh).mono ?_
  rintro e w2 ⟨rfl, hb2⟩
  have hm2 := hm.below hb2
  obtain ⟨A, c, A', c', rfl, rfl⟩ := hm.slices
  obtain ⟨_, _, c2, _, _⟩ := hm2.cells
  rcases hasN_cases (h := h) hS with ⟨i, d, e1, e2, e3, e4⟩ | ⟨e1, e2⟩
  · rw [e2]
    obtain ⟨g, rfl, _, _⟩ := hm2.slot (by omega)
    have q : ¬ (i : Int) < 0 := by omega
    have q1 : (i : Int) < (n : Int) := by omega
    have q2 : nodeAt b s (.slice (some ⟨g, 0, none⟩) n c) R h = some ⟨g, i * 10 + 1, none⟩ := by
      have : Ar.idx b s h = i := by unfold hasN at e2; rw [e1] at e2; exact e2
      unfold nodeAt
      rw [e1, this]; rfl
    have HE := Lib.hid q2
    clear e1 e2 hm hm2 q2 e4 hS
    go_wp2_with fail
    go_ret
    rw [HE.out]
    exact ⟨rfl, hb2⟩
  · rw [e2]
    have q2 : nodeAt b s (.slice A n c) R h = none := by unfold nodeAt; rw [e1]
    have HE := Lib.hid q2
    clear e1 e2 hm hm2 q2 hS
    go_wp2_with fail
    go_ret
    rw [HE.out]
    exact ⟨rfl, hb2⟩

set_option maxHeartbeats 400000 in
theorem nlen_any (base B : Nat) (b s root : Int) (live n : Nat) (R : Int → Option Tr.Nd) (fr : List Nat) (vs vf : Value) (w : World) (hm : TV base w B b s vs n R vf fr live root) :
    Calls Tryd.prog 14 #[.pointer (some ⟨B, 0, none⟩)] w fun e w' => e = .returned (.int .i64 (live : Nat)) ∧ w' = w := by
  obtain ⟨_, _, _, _, k4, _⟩ := hm.cells
  clear hm
  go_enter Tryd.func14, Tryd.ntmps14
  go_wp2_with fail
  go_ret
  exact ⟨rfl, rfl⟩
end Go.Proofs.YtelncgfeojfafaaDoor

/- A tree's arena: Add, Drop, Get, New. -/
namespace Go.Proofs.YtelncgfeojfafaaDoor
open Go.RowKit
set_option linter.unusedVariables false
set_option linter.unusedSimpArgs false

theorem vacN_facts {b s : Int} {n live : Nat} {R : Int → Option Tr.Nd} {fr : List Nat} (hS : Sound b s n R fr live) (hl : n < 100000) :
    (vacN n fr).2.2 < (vacN n fr).1 ∧ (vacN n fr).1 ≤ n + 1 ∧ n ≤ (vacN n fr).1 ∧ R (Ar.hdl b s ((vacN n fr).2.2 : Nat)) = none ∧ ∀ d, Sound b s (vacN n fr).1 (Tr.setO R (Ar.hdl b s ((vacN n fr).2.2 : Nat)) (some d)) (vacN n fr).2.1 (live + 1) := by
  by_cases hz : fr = []
  · subst hz
    rw [vacN_nil]
    refine ⟨by show n < n + 1; omega, Nat.le_refl _, Nat.le_succ _, hS.out (i := n) (Nat.le_refl _) (by omega), fun d => ⟨fun h hh => ?_, List.nodup_nil, fun i hi => by simp at hi, ?_, by show n + 1 ≤ 100000; omega⟩⟩
    · unfold Tr.setO at hh
      split at hh
      · rename_i e; exact ⟨n, Nat.lt_succ_self n, e.symm⟩
      · obtain ⟨i, h1, h2⟩ := hS.dom h hh
        exact ⟨i, Nat.lt_succ_of_lt h1, h2⟩
    · have := hS.count; simp at this ⊢; omega
  · obtain ⟨L, i, rfl⟩ : ∃ L i, fr = L ++ [i] := ⟨fr.dropLast, fr.getLast hz, (List.dropLast_concat_getLast hz).symm⟩
    rw [vacN_last]
    obtain ⟨h1, h2⟩ := hS.free i (by simp)
    refine ⟨h1, Nat.le_succ _, Nat.le_refl _, h2, fun d => ⟨fun h hh => ?_, (List.nodup_append.1 hS.nodup).1, fun j hj => ?_, ?_, hS.le⟩⟩
    · unfold Tr.setO at hh
      split at hh
      · rename_i e; exact ⟨i, h1, e.symm⟩
      · exact hS.dom h hh
    · obtain ⟨h3, h4⟩ := hS.free j (by simp [show j ∈ L from hj])
      refine ⟨h3, ?_⟩
      rw [Tr.setO_ne]
      · exact h4
      · intro e
        have := hdl_inj (i := j) (j := i) (by have := hS.le; omega) (by have := hS.le; omega) e
        subst this
        exact (List.nodup_append.1 hS.nodup).2.2 j hj j (by simp) rfl
    · have := hS.count; simp at this ⊢; omega
theorem hdl_i64 {b s : Int} {i : Nat} (hi : i ≤ 100000) : I64 (Ar.hdl b s (i : Int)) := by
  have := hdl_pos (b := b) (s := s) hi
  constructor <;> omega
theorem tmem_i64 {b s : Int} {n live : Nat} {R : Int → Option Tr.Nd} {fr : List Nat} (hS : Sound b s n R fr live) {h : Int} (hh : (R h).isSome) : I64 h ∧ 0 < h := by
  obtain ⟨i, h1, h2⟩ := hS.dom h hh
  have h3 := hS.le
  have := hdl_pos (b := b) (s := s) (i := i) (by omega)
  rw [h2] at this
  exact ⟨by constructor <;> omega, by omega⟩

set_option maxRecDepth 100000 in
set_option maxHeartbeats 2000000 in
theorem nadd_any (base B : Nat) (b s root : Int) (live n : Nat) (R : Int → Option Tr.Nd) (fr : List Nat) (vs vf : Value) (d : Tr.Nd) (w : World) (h : TV base w B b s vs n R vf fr live root) (hS : Sound b s n R fr live) (hb : base ≤ w.heap.size) (hl : n < 100000) :
    Calls Tryd.prog 10 #[.pointer (some ⟨B, 0, none⟩), ndV d] w fun e w' => ∃ vs' vf', e = .returned (.int .i64 (Ar.hdl b s ((vacN n fr).2.2 : Nat))) ∧
      TV base w' B b s vs' (vacN n fr).1 (Tr.setO R (Ar.hdl b s ((vacN n fr).2.2 : Nat)) (some d)) vf' (vacN n fr).2.1 (live + 1) root ∧ AStep w w' (Foot B vs vf) (Foot B vs' vf') := by
  obtain ⟨f1, f2, f3, f4, f5⟩ := vacN_facts hS hl
  have hlv : live ≤ 100000 := by have := hS.count; omega
  have hBx := (Below.refl _ w).alloc (Nat.le_refl _) (.cells (ndC d) 45)
  have hlt := h.lt
  replace h := h.below hBx
  have hX := Whole.new w (ndC d) 45
  go_enter Tryd.func10, Tryd.ntmps10
  go_wp2_with fail
  refine (nvac_any base B b s root live n R fr vs vf (w.alloc (.cells (ndC d) 45)) h hS (Nat.le_trans hb (by simp)) hl).mono ?_
  rintro e w2 ⟨vs2, vf2, rfl, hM2, hst2⟩
  obtain ⟨p, hp⟩ : ∃ p, vacN n fr = p := ⟨_, rfl⟩
  rw [hp] at hM2 f1 f2 f3 f4 ⊢
  obtain ⟨n', fr', i⟩ := p
  simp only at hM2 f1 f2 f3 f4 ⊢
  have HP := Lib.hid hp
  have hX2 := hX.turns hst2.1 (fun x => by have := (hlt _ x).2; omega)
  have x0 : w2.cell? ⟨w.heap.size, 0, none⟩ = some (.int .i64 d.kind) := hX2.cell 0
  have x1 : w2.cell? ⟨w.heap.size, 1, none⟩ = some (.string d.name) := hX2.cell 1
  have x2 : w2.cell? ⟨w.heap.size, 2, none⟩ = some (.slice d.av.a d.av.n d.av.c) := hX2.cell 2
  have x3 : w2.cell? ⟨w.heap.size, 3, none⟩ = some (.string d.data) := hX2.cell 3
  have x4 : w2.cell? ⟨w.heap.size, 4, none⟩ = some (.int .i64 d.pa) := hX2.cell 4
  have x5 : w2.cell? ⟨w.heap.size, 5, none⟩ = some (.int .i64 d.fi) := hX2.cell 5
  have x6 : w2.cell? ⟨w.heap.size, 6, none⟩ = some (.int .i64 d.la) := hX2.cell 6
  have x7 : w2.cell? ⟨w.heap.size, 7, none⟩ = some (.int .i64 d.pr) := hX2.cell 7
  have x8 : w2.cell? ⟨w.heap.size, 8, none⟩ = some (.int .i64 d.ne) := hX2.cell 8
  replace hst2 := (AStep.of_below hBx).trans hst2
  clear hX hX2 hBx hlt h hp f5 hS
  obtain ⟨A, c, A', c', rfl, rfl⟩ := hM2.slices
  obtain ⟨g, rfl, hgB, hgl, hcell⟩ := hM2.slot (by omega)
  obtain ⟨_, _, c2, _, _⟩ := hM2.cells
  have hc : ∀ j, j < 10 → w2.cell? ⟨g, i * 10 + j, none⟩ = (slN (false, Tr.zNd))[j]? ∧ w2.frozen? ⟨g, i * 10 + j, none⟩ = false := fun j hj => by
    have := hcell i j f1 hj
    rw [f4] at this; exact this
  have t0 : w2.cell? ⟨g, i * 10, none⟩ = some (.bool false) := (hc 0 (by omega)).1
  have t1 : w2.cell? ⟨g, i * 10 + 1, none⟩ = some (.int .i64 0) := (hc 1 (by omega)).1
  have t2 : w2.cell? ⟨g, i * 10 + 2, none⟩ = some (.string ⟨#[]⟩) := (hc 2 (by omega)).1
  have t3 : w2.cell? ⟨g, i * 10 + 3, none⟩ = some (.slice none 0 0) := (hc 3 (by omega)).1
  have t4 : w2.cell? ⟨g, i * 10 + 4, none⟩ = some (.string ⟨#[]⟩) := (hc 4 (by omega)).1
  have t5 : w2.cell? ⟨g, i * 10 + 5, none⟩ = some (.int .i64 0) := (hc 5 (by omega)).1
  have t6 : w2.cell? ⟨g, i * 10 + 6, none⟩ = some (.int .i64 0) := (hc 6 (by omega)).1
  have t7 : w2.cell? ⟨g, i * 10 + 7, none⟩ = some (.int .i64 0) := (hc 7 (by omega)).1
  have t8 : w2.cell? ⟨g, i * 10 + 8, none⟩ = some (.int .i64 0) := (hc 8 (by omega)).1
  have t9 : w2.cell? ⟨g, i * 10 + 9, none⟩ = some (.int .i64 0) := (hc 9 (by omega)).1
  have r0 : w2.frozen? ⟨g, i * 10, none⟩ = false := (hc 0 (by omega)).2
  have r1 := (hc 1 (by omega)).2
  have r2 := (hc 2 (by omega)).2
  have r3 := (hc 3 (by omega)).2
  have r4 := (hc 4 (by omega)).2
  have r5 := (hc 5 (by omega)).2
  have r6 := (hc 6 (by omega)).2
  have r7 := (hc 7 (by omega)).2
  have r8 := (hc 8 (by omega)).2
  have r9 := (hc 9 (by omega)).2
  obtain ⟨w3, hw3⟩ : ∃ w3, ((((((((((w2.setCell ⟨g, i * 10, none⟩ (.bool true)).setCell ⟨g, i * 10 + 1, none⟩ (.int .i64 d.kind)).setCell ⟨g, i * 10 + 2, none⟩ (.string d.name)).setCell ⟨g, i * 10 + 3, none⟩ (.slice d.av.a d.av.n d.av.c)).setCell ⟨g, i * 10 + 4, none⟩ (.string d.data)).setCell ⟨g, i * 10 + 5, none⟩ (.int .i64 d.pa)).setCell ⟨g, i * 10 + 6, none⟩ (.int .i64 d.fi)).setCell ⟨g, i * 10 + 7, none⟩ (.int .i64 d.la)).setCell ⟨g, i * 10 + 8, none⟩ (.int .i64 d.pr)).setCell ⟨g, i * 10 + 9, none⟩ (.int .i64 d.ne)) = w3 := ⟨_, rfl⟩
  obtain ⟨hM3, sP⟩ := hM2.put_slot (o := some d) f1 (by omega) (w' := w3) hw3
  have hd3 : Below w3.heap.size w3 w3.drew := ⟨rfl, rfl, rfl, Nat.le_refl _, fun _ _ => rfl⟩
  replace sP := sP.trans (.of_below hd3)
  replace hM3 := hM3.below hd3
  obtain ⟨wd, hwd⟩ : ∃ wd, w3.drew = wd := ⟨_, rfl⟩
  rw [hwd] at hM3 sP
  clear hd3
  have y4 := hM3.cells.2.2.2.2.1
  have z4 := hM3.var.free 4
  obtain ⟨hM4, s4⟩ := hM3.counted (live + 1) ((live : Int) + 1) (by omega)
  obtain ⟨w4, hw4⟩ : ∃ w4, wd.setCell ⟨B, 4, none⟩ (.int .i64 ((live : Int) + 1)) = w4 := ⟨_, rfl⟩
  rw [hw4] at hM4 s4
  obtain ⟨q0, q1, _, _, _⟩ := hM4.cells
  have hii : (i : Int) < (n' : Int) := by omega
  have hiI : I64 (i : Int) := by constructor <;> omega
  have HM := Lib.hid hM4
  have HS := Lib.hid ((hst2.trans sP).trans s4)
  clear hM4 hM3 hM2 hcell hc f4 hst2 sP s4
  go_wp2_with fail
  go_region_with (fail)
  all_goals
   try rw [hwd]
   clear hwd hw3
   go_wp2_with fail
   refine (ahandle_any b s i _ hiI).mono ?_
   rintro e w5 ⟨rfl, hb5⟩
   go_wp2_with fail
   go_ret
   rw [HP.out]
   exact ⟨_, _, rfl, HM.out.below hb5, HS.out.trans (.of_below hb5)⟩
end Go.Proofs.YtelncgfeojfafaaDoor

/- A tree's arena: Drop, Get, New. -/
namespace Go.Proofs.YtelncgfeojfafaaDoor
open Go.RowKit
set_option linter.unusedVariables false
set_option linter.unusedSimpArgs false

theorem nodup_le : ∀ (n : Nat) (l : List Nat), l.Nodup → (∀ x ∈ l, x < n) → l.length ≤ n
  | 0, l, _, h => by
    cases l with
    | nil => exact Nat.le_refl _
    | cons x r => exact absurd (h x (by simp)) (by omega)
  | n + 1, l, hd, h => by
    have h1 : (l.erase n).length ≤ n := nodup_le n (l.erase n) (hd.erase n) fun x hx => by
      rw [hd.mem_erase_iff] at hx
      have := h x hx.2
      omega
    have h2 : l.length ≤ (l.erase n).length + 1 := by rw [List.length_erase]; split <;> omega
    omega
theorem Sound.drop {b s h : Int} {n live : Nat} {R : Int → Option Tr.Nd} {fr : List Nat} {i : Nat} (hS : Sound b s n R fr live) (hR : (R h).isSome) (hi : i < n) (he : Ar.hdl b s (i : Int) = h) : ∃ L, live = L + 1 ∧ Sound b s n (Tr.setO R h none) (fr ++ [i]) L := by
  have hn : i ∉ fr := fun hm => by have := (hS.free i hm).2; rw [he] at this; rw [this] at hR; cases hR
  have h1 := nodup_le n (i :: fr) (List.nodup_cons.2 ⟨hn, hS.nodup⟩) (fun x hx => (List.mem_cons.1 hx).elim (fun e => e ▸ hi) (fun hx => (hS.free x hx).1))
  have h2 := hS.count
  simp only [List.length_cons] at h1
  refine ⟨live - 1, by omega, fun x hx => ?_, ?_, fun j hj => ?_, by simp; omega, hS.le⟩
  · unfold Tr.setO at hx
    split at hx
    · cases hx
    · exact hS.dom x hx
  · rw [List.nodup_append]
    exact ⟨hS.nodup, by simp, fun a ha c hc => by simp at hc; subst hc; rintro rfl; exact hn ha⟩
  · rcases List.mem_append.1 hj with hj | hj
    · obtain ⟨h3, h4⟩ := hS.free j hj
      refine ⟨h3, ?_⟩
      unfold Tr.setO
      split
      · rfl
      · exact h4
    · simp at hj
      subst hj
      exact ⟨hi, by rw [he, Tr.setO_same]⟩

/-- A variable that is given a node. -/
theorem box9 {W : World} {B : Nat} {x0 x1 x2 x3 x4 x5 x6 x7 x8 : Value} {T : TypeId} (r : Whole W B #[x0, x1, x2, x3, x4, x5, x6, x7, x8] T) (y0 y1 y2 y3 y4 y5 y6 y7 y8 : Value) :
    ∃ W', ((((((((W.setCell ⟨B, 0, none⟩ y0).setCell ⟨B, 1, none⟩ y1).setCell ⟨B, 2, none⟩ y2).setCell ⟨B, 3, none⟩ y3).setCell ⟨B, 4, none⟩ y4).setCell ⟨B, 5, none⟩ y5).setCell ⟨B, 6, none⟩ y6).setCell ⟨B, 7, none⟩ y7).setCell ⟨B, 8, none⟩ y8 = W' ∧ Whole W' B #[y0, y1, y2, y3, y4, y5, y6, y7, y8] T ∧ W.grownBy W' (some B) :=
  by
  have r0 : Whole _ B #[y0, x1, x2, x3, x4, x5, x6, x7, x8] T := r.put 0 y0
  have r1 : Whole _ B #[y0, y1, x2, x3, x4, x5, x6, x7, x8] T := r0.put 1 y1
  have r2 : Whole _ B #[y0, y1, y2, x3, x4, x5, x6, x7, x8] T := r1.put 2 y2
  have r3 : Whole _ B #[y0, y1, y2, y3, x4, x5, x6, x7, x8] T := r2.put 3 y3
  have r4 : Whole _ B #[y0, y1, y2, y3, y4, x5, x6, x7, x8] T := r3.put 4 y4
  have r5 : Whole _ B #[y0, y1, y2, y3, y4, y5, x6, x7, x8] T := r4.put 5 y5
  have r6 : Whole _ B #[y0, y1, y2, y3, y4, y5, y6, x7, x8] T := r5.put 6 y6
  have r7 : Whole _ B #[y0, y1, y2, y3, y4, y5, y6, y7, x8] T := r6.put 7 y7
  have r8 : Whole _ B #[y0, y1, y2, y3, y4, y5, y6, y7, y8] T := r7.put 8 y8
  exact ⟨_, rfl, r8, gb_put (gb_put (gb_put (gb_put (gb_put (gb_put (gb_put (gb_put (gb_put (gb_of_below (Below.refl W.heap.size W) (some B)) 0 y0) 1 y1) 2 y2) 3 y3) 4 y4) 5 y5) 6 y6) 7 y7) 8 y8⟩

set_option maxHeartbeats 1000000 in
theorem nnew_any (b s : Int) (w : World) :
    Calls Tryd.prog 9 #[saltV b s] w fun e w' => e = .returned (.agg #[.int .i64 b, .int .i64 s, .slice none 0 0, .slice none 0 0, .int .i64 0]) ∧ Below w.heap.size w w' := by
  have hb0 := (Below.refl _ w).alloc (Nat.le_refl _) (.cells #[.int .i64 b, .int .i64 s] 26)
  go_enter Tryd.func9, Tryd.ntmps9
  go_wp2_with fail
  refine bodyPost_ret (v := .agg #[.int .i64 b, .int .i64 s, .slice none 0 0, .slice none 0 0, .int .i64 0]) ?_ rfl ⟨rfl, hb0.alloc (by simp) _⟩
  simp [results, Tryd.f9, go_sem]
end Go.Proofs.YtelncgfeojfafaaDoor

/- Pointers to nodes of a tree, and to their links: at, has, forth, back. -/
namespace Go.Proofs.YtelncgfeojfafaaDoor
open Go.RowKit
set_option linter.unusedVariables false
set_option linter.unusedSimpArgs false

/-- A node lies there. -/
def NP (w : World) (g o : Nat) (d : Tr.Nd) : Prop := ∀ j, j < 9 → w.cell? ⟨g, o + j, none⟩ = (ndC d)[j]? ∧ w.frozen? ⟨g, o + j, none⟩ = false
section
variable {w w' : World} {g o : Nat} {d : Tr.Nd}
theorem NP.cells (h : NP w g o d) : w.cell? ⟨g, o, none⟩ = some (.int .i64 d.kind) ∧ w.cell? ⟨g, o + 1, none⟩ = some (.string d.name) ∧ w.cell? ⟨g, o + 2, none⟩ = some (.slice d.av.a d.av.n d.av.c) ∧ w.cell? ⟨g, o + 3, none⟩ = some (.string d.data) ∧ w.cell? ⟨g, o + 4, none⟩ = some (.int .i64 d.pa) ∧
    w.cell? ⟨g, o + 5, none⟩ = some (.int .i64 d.fi) ∧ w.cell? ⟨g, o + 6, none⟩ = some (.int .i64 d.la) ∧ w.cell? ⟨g, o + 7, none⟩ = some (.int .i64 d.pr) ∧ w.cell? ⟨g, o + 8, none⟩ = some (.int .i64 d.ne) :=
  ⟨(h 0 (by omega)).1, (h 1 (by omega)).1, (h 2 (by omega)).1, (h 3 (by omega)).1, (h 4 (by omega)).1, (h 5 (by omega)).1, (h 6 (by omega)).1, (h 7 (by omega)).1, (h 8 (by omega)).1⟩
theorem NP.below (h : NP w g o d) (hb : Below w.heap.size w w') : NP w' g o d := fun j hj => by
  obtain ⟨h1, h2⟩ := h j hj
  have hlt : g < w.heap.size := World.block_lt_of_cell? w _ h.cells.1
  exact ⟨(hb.cell (p := ⟨g, o + j, none⟩) hlt).trans h1, (hb.frozen (p := ⟨g, o + j, none⟩) hlt).trans h2⟩
theorem NP.of_whole {T : TypeId} (h : Whole w g (ndC d) T) : NP w g 0 d := fun j _ => by
  rw [Nat.zero_add]; exact ⟨h.cell j, h.free j⟩
end
/-- The place of a node's first cell. -/
def PtrTo (b s : Int) (vs : Value) (n g o : Nat) (h : Int) : Prop := ∃ i c : Nat, i < n ∧ n ≤ 100000 ∧ Ar.hdl b s (i : Int) = h ∧ o = i * 10 + 1 ∧ vs = .slice (some ⟨g, 0, none⟩) n c
section
variable {base B n live g o : Nat} {w : World} {b s root h : Int} {vs vf : Value} {R : Int → Option Tr.Nd} {fr : List Nat} {d d' : Tr.Nd}
theorem TV.np (hM : TV base w B b s vs n R vf fr live root) (hp : PtrTo b s vs n g o h) (hd : R h = some d) : NP w g o d := by
  obtain ⟨i, c, h1, h2, h3, rfl, rfl⟩ := hp
  obtain ⟨g', e, _, _, hc⟩ := hM.slot (by omega)
  obtain rfl : g = g' := by injection e with e; injection e
  intro j hj
  have := hc i (j + 1) h1 (by omega)
  rw [h3, hd, so_some, show slN (true, d) = .bool true :: (ndC d).toList from rfl, List.getElem?_cons_succ, Array.getElem?_toList] at this
  rw [Nat.add_assoc, Nat.add_comm 1 j]
  exact this
theorem TV.put_nd {j : Nat} {v : Value} (hM : TV base w B b s vs n R vf fr live root) (hp : PtrTo b s vs n g o h) (hd : R h = some d) (f : Tr.Nd → Tr.Nd) (hf : f d = d') (hj : j < 9) (hv : slN (true, d') = (slN (true, d)).set (j + 1) v) :
    TV base (w.setCell ⟨g, o + j, none⟩ v) B b s vs n (Tr.upd R h f) vf fr live root ∧ AStep w (w.setCell ⟨g, o + j, none⟩ v) (Foot B vs vf) (Foot B vs vf) := by
  obtain ⟨i, c, h1, h2, h3, rfl, rfl⟩ := hp
  rw [← h3] at hd
  have := hM.put_field h1 h2 (by omega : j + 1 < 10) hd f hf hv
  rw [h3] at this
  rw [Nat.add_assoc, Nat.add_comm 1 j]
  exact this
theorem Sound.upd {f : Tr.Nd → Tr.Nd} (hS : Sound b s n R fr live) : Sound b s n (Tr.upd R h f) fr live := by
  have key : ∀ x, (Tr.upd R h f x).isSome = (R x).isSome := fun x => by
    unfold Tr.upd
    split
    · rename_i e; rw [e]; cases R h <;> rfl
    · rfl
  refine ⟨fun x hx => hS.dom x (by rw [← key]; exact hx), hS.nodup, fun i hi => ⟨(hS.free i hi).1, ?_⟩, hS.count, hS.le⟩
  have := key (Ar.hdl b s (i : Int))
  rw [(hS.free i hi).2] at this
  exact Option.not_isSome_iff_eq_none.1 (by rw [this]; simp)
end

set_option maxRecDepth 100000 in
set_option maxHeartbeats 1000000 in
/-- A node that is there. -/
theorem at_tv (base B : Nat) (b s root h : Int) (live n : Nat) (R : Int → Option Tr.Nd) (fr : List Nat) (vs vf : Value) (d : Tr.Nd) (w : World) (hm : TV base w B b s vs n R vf fr live root) (hS : Sound b s n R fr live) (hd : R h = some d) :
    Calls Tryd.prog 19 #[.pointer (some ⟨B, 0, none⟩), .int .i64 h] w fun e w' => ∃ g o, e = .returned (.pointer (some ⟨g, o, none⟩)) ∧ PtrTo b s vs n g o h ∧ Below w.heap.size w w' := by
  have hh := (tmem_i64 hS (h := h) (by rw [hd]; rfl)).1
  obtain ⟨A, c, A', c', rfl, rfl⟩ := hm.slices
  rcases hasN_cases (h := h) hS with ⟨i, d', e1, e2, e3, e4⟩ | ⟨e1, _⟩
  rotate_left
  · rw [hd] at e1; cases e1
  obtain ⟨g, rfl, hgB, hgl, _⟩ := hm.slot (by omega)
  have hpt : nodeAt b s (.slice (some ⟨g, 0, none⟩) n c) R h = some ⟨g, i * 10 + 1, none⟩ := by
    have : Ar.idx b s h = i := by unfold hasN at e2; rw [e1] at e2; exact e2
    unfold nodeAt
    rw [e1, this]; rfl
  have hle := hS.le
  go_enter Tryd.func19, Tryd.ntmps19
  go_wp2_with fail
  refine (nat_any base B b s root h live n R fr _ _ w hm hS hh).mono ?_
  rintro e w2 ⟨rfl, hb2⟩
  rw [hpt]
  have HE := Lib.hid e4
  clear e1 e2 e4 hpt hS hm hd
  go_wp2_with fail
  go_ret
  exact ⟨g, _, rfl, ⟨i, c, e3, hle, HE.out, rfl, rfl⟩, hb2⟩

set_option maxRecDepth 100000 in
set_option maxHeartbeats 1000000 in
/-- Any handle: a node, or an empty one. -/
theorem at_any (base B : Nat) (b s root h : Int) (live n : Nat) (R : Int → Option Tr.Nd) (fr : List Nat) (vs vf : Value) (w : World) (hm : TV base w B b s vs n R vf fr live root) (hS : Sound b s n R fr live) (hh : I64 h) :
    Calls Tryd.prog 19 #[.pointer (some ⟨B, 0, none⟩), .int .i64 h] w fun e w' => ∃ g o, e = .returned (.pointer (some ⟨g, o, none⟩)) ∧ NP w' g o ((R h).getD Tr.zNd) ∧ Below w.heap.size w w' := by
  cases hd : R h with
  | some d =>
    refine (at_tv base B b s root h live n R fr vs vf d w hm hS hd).mono ?_
    rintro e w' ⟨g, o, rfl, hp, hb⟩
    exact ⟨g, o, rfl, (hm.below hb).np hp hd, hb⟩
  | none =>
    obtain ⟨A, c, A', c', rfl, rfl⟩ := hm.slices
    have hpt : nodeAt b s (.slice A n c) R h = none := by unfold nodeAt; rw [hd]
    go_enter Tryd.func19, Tryd.ntmps19
    go_wp2_with fail
    refine (nat_any base B b s root h live n R fr _ _ w hm hS hh).mono ?_
    rintro e w2 ⟨rfl, hb2⟩
    rw [hpt]
    clear hpt hS hm hd
    have hb3 := hb2.alloc hb2.size (.cells (ndC Tr.zNd) 45)
    have hY := Whole.new w2 (ndC Tr.zNd) 45
    go_wp2_with fail
    go_ret
    exact ⟨_, 0, rfl, NP.of_whole hY, hb3⟩

set_option maxRecDepth 100000 in
set_option maxHeartbeats 1000000 in
theorem has_any (base B : Nat) (b s root h : Int) (live n : Nat) (R : Int → Option Tr.Nd) (fr : List Nat) (vs vf : Value) (w : World) (hm : TV base w B b s vs n R vf fr live root) (hS : Sound b s n R fr live) (hh : I64 h) :
    Calls Tryd.prog 16 #[.pointer (some ⟨B, 0, none⟩), .int .i64 h] w fun e w' => e = .returned (.bool (R h).isSome) ∧ Below w.heap.size w w' := by
  obtain ⟨A, c, A', c', rfl, rfl⟩ := hm.slices
  rcases hasN_cases (h := h) hS with ⟨i, d', e1, e2, e3, e4⟩ | ⟨e1, _⟩
  · obtain ⟨g, rfl, hgB, hgl, _⟩ := hm.slot (by omega)
    have hpt : nodeAt b s (.slice (some ⟨g, 0, none⟩) n c) R h = some ⟨g, i * 10 + 1, none⟩ := by
      have : Ar.idx b s h = i := by unfold hasN at e2; rw [e1] at e2; exact e2
      unfold nodeAt
      rw [e1, this]; rfl
    rw [e1]
    go_enter Tryd.func16, Tryd.ntmps16
    go_wp2_with fail
    refine (nat_any base B b s root h live n R fr _ _ w hm hS hh).mono ?_
    rintro e w2 ⟨rfl, hb2⟩
    rw [hpt]
    clear hpt hS hm e1 e2 e4
    go_wp2_with fail
    go_ret
    exact ⟨rfl, hb2⟩
  · have hpt : nodeAt b s (.slice A n c) R h = none := by unfold nodeAt; rw [e1]
    rw [e1]
    go_enter Tryd.func16, Tryd.ntmps16
    go_wp2_with fail
    refine (nat_any base B b s root h live n R fr _ _ w hm hS hh).mono ?_
    rintro e w2 ⟨rfl, hb2⟩
    rw [hpt]
    clear hpt hS hm e1
    go_wp2_with fail
    go_ret
    exact ⟨rfl, hb2⟩

/-- The link that leads on: First of the parent, or Next of the child. -/
def ForthP (b s : Int) (vs : Value) (n g y : Nat) (p c : Int) : Prop := ∃ o, (c = 0 ∧ PtrTo b s vs n g o p ∧ y = o + 5) ∨ (c ≠ 0 ∧ PtrTo b s vs n g o c ∧ y = o + 8)
def BackP (b s : Int) (vs : Value) (n g y : Nat) (p c : Int) : Prop := ∃ o, (c = 0 ∧ PtrTo b s vs n g o p ∧ y = o + 6) ∨ (c ≠ 0 ∧ PtrTo b s vs n g o c ∧ y = o + 7)
def forthR (R : Int → Option Tr.Nd) (p c v : Int) : Int → Option Tr.Nd := if c = 0 then Tr.upd R p fun n => { n with fi := v } else Tr.upd R c fun n => { n with ne := v }
def backR (R : Int → Option Tr.Nd) (p c v : Int) : Int → Option Tr.Nd := if c = 0 then Tr.upd R p fun n => { n with la := v } else Tr.upd R c fun n => { n with pr := v }
section
variable {base B n live g y : Nat} {w : World} {b s root p c : Int} {vs vf : Value} {R : Int → Option Tr.Nd} {fr : List Nat} {dp dc : Tr.Nd}
theorem ForthP.cell (h : ForthP b s vs n g y p c) (hM : TV base w B b s vs n R vf fr live root) (hp : R p = some dp) (hc : c ≠ 0 → R c = some dc) :
    w.cell? ⟨g, y, none⟩ = some (.int .i64 (if c = 0 then dp.fi else dc.ne)) ∧ w.frozen? ⟨g, y, none⟩ = false := by
  obtain ⟨o, ⟨h1, h2, rfl⟩ | ⟨h1, h2, rfl⟩⟩ := h
  · rw [if_pos h1]; exact hM.np h2 hp 5 (by omega)
  · rw [if_neg h1]; exact hM.np h2 (hc h1) 8 (by omega)
theorem BackP.cell (h : BackP b s vs n g y p c) (hM : TV base w B b s vs n R vf fr live root) (hp : R p = some dp) (hc : c ≠ 0 → R c = some dc) :
    w.cell? ⟨g, y, none⟩ = some (.int .i64 (if c = 0 then dp.la else dc.pr)) ∧ w.frozen? ⟨g, y, none⟩ = false := by
  obtain ⟨o, ⟨h1, h2, rfl⟩ | ⟨h1, h2, rfl⟩⟩ := h
  · rw [if_pos h1]; exact hM.np h2 hp 6 (by omega)
  · rw [if_neg h1]; exact hM.np h2 (hc h1) 7 (by omega)
theorem ForthP.put (h : ForthP b s vs n g y p c) (hM : TV base w B b s vs n R vf fr live root) (hp : R p = some dp) (hc : c ≠ 0 → R c = some dc) (v : Int) :
    TV base (w.setCell ⟨g, y, none⟩ (.int .i64 v)) B b s vs n (forthR R p c v) vf fr live root ∧ AStep w (w.setCell ⟨g, y, none⟩ (.int .i64 v)) (Foot B vs vf) (Foot B vs vf) := by
  obtain ⟨o, ⟨h1, h2, rfl⟩ | ⟨h1, h2, rfl⟩⟩ := h
  · unfold forthR; rw [if_pos h1]; exact hM.put_nd h2 hp _ rfl (by omega) rfl
  · unfold forthR; rw [if_neg h1]; exact hM.put_nd h2 (hc h1) _ rfl (by omega) rfl
theorem BackP.put (h : BackP b s vs n g y p c) (hM : TV base w B b s vs n R vf fr live root) (hp : R p = some dp) (hc : c ≠ 0 → R c = some dc) (v : Int) :
    TV base (w.setCell ⟨g, y, none⟩ (.int .i64 v)) B b s vs n (backR R p c v) vf fr live root ∧ AStep w (w.setCell ⟨g, y, none⟩ (.int .i64 v)) (Foot B vs vf) (Foot B vs vf) := by
  obtain ⟨o, ⟨h1, h2, rfl⟩ | ⟨h1, h2, rfl⟩⟩ := h
  · unfold backR; rw [if_pos h1]; exact hM.put_nd h2 hp _ rfl (by omega) rfl
  · unfold backR; rw [if_neg h1]; exact hM.put_nd h2 (hc h1) _ rfl (by omega) rfl
end

set_option maxRecDepth 100000 in
set_option maxHeartbeats 1000000 in
theorem forth_any (base B : Nat) (b s root p c : Int) (live n : Nat) (R : Int → Option Tr.Nd) (fr : List Nat) (vs vf : Value) (dp dc : Tr.Nd) (w : World) (hm : TV base w B b s vs n R vf fr live root) (hS : Sound b s n R fr live) (hp : R p = some dp) (hc : c ≠ 0 → R c = some dc) :
    Calls Tryd.prog 42 #[.pointer (some ⟨B, 0, none⟩), .int .i64 p, .int .i64 c] w fun e w' => ∃ g y, e = .returned (.pointer (some ⟨g, y, none⟩)) ∧ ForthP b s vs n g y p c ∧ Below w.heap.size w w' := by
  by_cases h0 : c = 0
  · go_enter Tryd.func42, Tryd.ntmps42
    go_wp2_with fail
    refine (at_tv base B b s root p live n R fr vs vf dp w hm hS hp).mono ?_
    rintro e w2 ⟨g, o, rfl, hpt, hb2⟩
    have HP := Lib.hid hpt
    clear hpt hm hS hp hc
    go_wp2_with fail
    go_ret
    exact ⟨g, o + 5, rfl, ⟨o, .inl ⟨h0, HP.out, rfl⟩⟩, hb2⟩
  · go_enter Tryd.func42, Tryd.ntmps42
    go_wp2_with fail
    refine (at_tv base B b s root c live n R fr vs vf dc w hm hS (hc h0)).mono ?_
    rintro e w2 ⟨g, o, rfl, hpt, hb2⟩
    have HP := Lib.hid hpt
    clear hpt hm hS hp hc
    go_wp2_with fail
    go_ret
    exact ⟨g, o + 8, rfl, ⟨o, .inr ⟨h0, HP.out, rfl⟩⟩, hb2⟩
set_option maxRecDepth 100000 in
set_option maxHeartbeats 1000000 in
theorem back_any (base B : Nat) (b s root p c : Int) (live n : Nat) (R : Int → Option Tr.Nd) (fr : List Nat) (vs vf : Value) (dp dc : Tr.Nd) (w : World) (hm : TV base w B b s vs n R vf fr live root) (hS : Sound b s n R fr live) (hp : R p = some dp) (hc : c ≠ 0 → R c = some dc) :
    Calls Tryd.prog 43 #[.pointer (some ⟨B, 0, none⟩), .int .i64 p, .int .i64 c] w fun e w' => ∃ g y, e = .returned (.pointer (some ⟨g, y, none⟩)) ∧ BackP b s vs n g y p c ∧ Below w.heap.size w w' := by
  by_cases h0 : c = 0
  · go_enter Tryd.func43, Tryd.ntmps43
    go_wp2_with fail
    refine (at_tv base B b s root p live n R fr vs vf dp w hm hS hp).mono ?_
    rintro e w2 ⟨g, o, rfl, hpt, hb2⟩
    have HP := Lib.hid hpt
    clear hpt hm hS hp hc
    go_wp2_with fail
    go_ret
    exact ⟨g, o + 6, rfl, ⟨o, .inl ⟨h0, HP.out, rfl⟩⟩, hb2⟩
  · go_enter Tryd.func43, Tryd.ntmps43
    go_wp2_with fail
    refine (at_tv base B b s root c live n R fr vs vf dc w hm hS (hc h0)).mono ?_
    rintro e w2 ⟨g, o, rfl, hpt, hb2⟩
    have HP := Lib.hid hpt
    clear hpt hm hS hp hc
    go_wp2_with fail
    go_ret
    exact ⟨g, o + 7, rfl, ⟨o, .inr ⟨h0, HP.out, rfl⟩⟩, hb2⟩
end Go.Proofs.YtelncgfeojfafaaDoor

/- A node is linked: what the program writes. -/
namespace Go.Proofs.YtelncgfeojfafaaDoor
open Go.RowKit
set_option linter.unusedVariables false
set_option linter.unusedSimpArgs false

theorem upd_isSome {R : Int → Option Tr.Nd} {h x : Int} {f : Tr.Nd → Tr.Nd} (hx : (R x).isSome) : ∃ d, Tr.upd R h f x = some d := by
  unfold Tr.upd
  split
  · rename_i e
    rw [e] at hx
    obtain ⟨d, hd⟩ := Option.isSome_iff_exists.1 hx
    exact ⟨f d, by rw [hd]; rfl⟩
  · exact Option.isSome_iff_exists.1 hx
theorem upd_upd {R : Int → Option Tr.Nd} {h : Int} {f k : Tr.Nd → Tr.Nd} : Tr.upd (Tr.upd R h f) h k = Tr.upd R h (fun n => k (f n)) := by
  funext x
  by_cases e : x = h
  · subst e
    rw [Tr.upd_same, Tr.upd_same, Tr.upd_same]
    cases R x <;> rfl
  · rw [Tr.upd_ne e, Tr.upd_ne e, Tr.upd_ne e]
theorem forthR_isSome {R : Int → Option Tr.Nd} {p c v x : Int} (hx : (R x).isSome) : ∃ d, forthR R p c v x = some d := by
  unfold forthR; split
  · exact upd_isSome hx
  · exact upd_isSome hx
theorem Sound.forth {b s : Int} {n live : Nat} {R : Int → Option Tr.Nd} {fr : List Nat} {p c v : Int} (hS : Sound b s n R fr live) : Sound b s n (forthR R p c v) fr live := by
  unfold forthR; split
  · exact hS.upd
  · exact hS.upd
theorem Sound.back {b s : Int} {n live : Nat} {R : Int → Option Tr.Nd} {fr : List Nat} {p c v : Int} (hS : Sound b s n R fr live) : Sound b s n (backR R p c v) fr live := by
  unfold backR; split
  · exact hS.upd
  · exact hS.upd
theorem linkR_is (R : Int → Option Tr.Nd) (p h c pv : Int) : Tr.linkR R p h c pv = backR (forthR (Tr.upd R h fun n => { n with pa := p, pr := pv, ne := c }) p pv h) p c h := by
  unfold Tr.linkR backR forthR; rfl
theorem Sound.linked {b s : Int} {n live : Nat} {R : Int → Option Tr.Nd} {fr : List Nat} {p h c pv : Int} (hS : Sound b s n R fr live) : Sound b s n (Tr.linkR R p h c pv) fr live := by
  rw [linkR_is]; exact hS.upd.forth.back

set_option maxRecDepth 100000 in
set_option maxHeartbeats 1000000 in
theorem link_any (base B : Nat) (b s root p h c : Int) (live n : Nat) (R : Int → Option Tr.Nd) (fr : List Nat) (vs vf : Value) (dp dh dc dv : Tr.Nd) (pv : Int) (w : World) (hm : TV base w B b s vs n R vf fr live root) (hS : Sound b s n R fr live)
    (hp : R p = some dp) (hh : R h = some dh) (hc : c ≠ 0 → R c = some dc) (hpv : pv = if c = 0 then dp.la else dc.pr) (hv : pv ≠ 0 → R pv = some dv) (h1 : h ≠ p) (h2 : c ≠ 0 → h ≠ c) (h3 : pv ≠ 0 → h ≠ pv) :
    Calls Tryd.prog 23 #[.pointer (some ⟨B, 0, none⟩), .int .i64 p, .int .i64 h, .int .i64 c] w fun e w' => (∃ u, e = .returned u) ∧ TV base w' B b s vs n (Tr.linkR R p h c pv) vf fr live root ∧ AStep w w' (Foot B vs vf) (Foot B vs vf) := by
  rw [linkR_is]
  obtain ⟨R1, hR1⟩ : ∃ R1, (Tr.upd R h fun n => { n with pa := p, pr := pv, ne := c }) = R1 := ⟨_, rfl⟩
  have e1h : R1 h = some { dh with pa := p, pr := pv, ne := c } := by rw [← hR1]; exact Tr.upd_at hh
  have e1p : R1 p = some dp := by rw [← hR1, Tr.upd_ne h1.symm]; exact hp
  have e1c : c ≠ 0 → R1 c = some dc := fun e => by rw [← hR1, Tr.upd_ne (h2 e).symm]; exact hc e
  have e1v : pv ≠ 0 → R1 pv = some dv := fun e => by rw [← hR1, Tr.upd_ne (h3 e).symm]; exact hv e
  have hS1 : Sound b s n R1 fr live := by rw [← hR1]; exact hS.upd
  obtain ⟨R2, hR2⟩ : ∃ R2, forthR R1 p pv h = R2 := ⟨_, rfl⟩
  have hS2 : Sound b s n R2 fr live := by rw [← hR2]; exact hS1.forth
  have e2h : R2 h = some { dh with pa := p, pr := pv, ne := c } := by
    rw [← hR2]; unfold forthR; split
    · rw [Tr.upd_ne h1]; exact e1h
    · rename_i e; rw [Tr.upd_ne (h3 e)]; exact e1h
  obtain ⟨d2p, e2p⟩ : ∃ d, R2 p = some d := by rw [← hR2]; exact forthR_isSome (by rw [e1p]; rfl)
  have e2c : c ≠ 0 → ∃ d, R2 c = some d := fun e => by rw [← hR2]; exact forthR_isSome (by rw [e1c e]; rfl)
  obtain ⟨d2c, e2c'⟩ : ∃ d, c ≠ 0 → R2 c = some d := by
    by_cases e : c = 0
    · exact ⟨Tr.zNd, fun x => absurd e x⟩
    · obtain ⟨d, hd⟩ := e2c e; exact ⟨d, fun _ => hd⟩
  rw [hR1, hR2]
  go_enter Tryd.func23, Tryd.ntmps23
  go_wp2_with fail
  refine (at_tv base B b s root h live n R fr vs vf dh w hm hS hh).mono ?_
  rintro e w1 ⟨g, o, rfl, hpt, hb1⟩
  have hm1 := hm.below hb1
  go_wp2_with fail
  refine (back_any base B b s root p c live n R fr vs vf dp dc w1 hm1 hS hp hc).mono ?_
  rintro e w2 ⟨g2, y, rfl, hbp, hb2⟩
  have hm2 := hm1.below hb2
  have hb02 := hb1.trans (hb2.mono hb1.size)
  obtain ⟨k1, _⟩ := hbp.cell hm2 hp hc
  rw [← hpv] at k1
  have hnp := hm2.np hpt hh
  obtain ⟨_, _, _, _, t4, _, _, t7, t8⟩ := hnp.cells
  have f4 := (hnp 4 (by omega)).2
  have f7 := (hnp 7 (by omega)).2
  have f8 := (hnp 8 (by omega)).2
  obtain ⟨w3, hw3⟩ : ∃ w3, (((w2.setCell ⟨g, o + 4, none⟩ (.int .i64 p)).setCell ⟨g, o + 7, none⟩ (.int .i64 pv)).setCell ⟨g, o + 8, none⟩ (.int .i64 c)) = w3 := ⟨_, rfl⟩
  have hm3 : TV base w3 B b s vs n R1 vf fr live root ∧ AStep w2 w3 (Foot B vs vf) (Foot B vs vf) := by
    obtain ⟨a1, s1⟩ := hm2.put_nd (j := 4) (v := .int .i64 p) hpt hh (fun n => { n with pa := p }) rfl (by omega) rfl
    obtain ⟨a2, s2⟩ := a1.put_nd (j := 7) (v := .int .i64 pv) hpt (Tr.upd_at hh) (fun n => { n with pr := pv }) rfl (by omega) rfl
    obtain ⟨a3, s3⟩ := a2.put_nd (j := 8) (v := .int .i64 c) hpt (Tr.upd_at (Tr.upd_at hh)) (fun n => { n with ne := c }) rfl (by omega) rfl
    rw [upd_upd, upd_upd] at a3
    rw [← hw3, ← hR1]
    exact ⟨a3, (s1.trans s2).trans s3⟩
  obtain ⟨hm3, st3⟩ := hm3
  have hn3 := hm3.np hpt e1h
  obtain ⟨_, _, _, _, _, _, _, q7, q8⟩ := hn3.cells
  clear hm hm1 hm2 hnp hn3 hR1 hpv
  go_wp2_with fail
  try rw [hw3]
  go_wp2_with fail
  refine (forth_any base B b s root p pv live n R1 fr vs vf dp dv w3 hm3 hS1 e1p e1v).mono ?_
  rintro e w4 ⟨g4, y4, rfl, hfp, hb4⟩
  have hm4 := hm3.below hb4
  obtain ⟨k4, z4⟩ := hfp.cell hm4 e1p e1v
  obtain ⟨hm5, st5⟩ := hfp.put hm4 e1p e1v h
  rw [hR2] at hm5
  obtain ⟨w5, hw5⟩ : ∃ w5, w4.setCell ⟨g4, y4, none⟩ (.int .i64 h) = w5 := ⟨_, rfl⟩
  rw [hw5] at hm5 st5
  obtain ⟨_, _, _, _, _, _, _, _, v8⟩ := (hm5.np hpt e2h).cells
  clear q7 q8 hm3 hm4
  go_wp2_with fail
  try rw [hw5]
  go_wp2_with fail
  refine (back_any base B b s root p c live n R2 fr vs vf d2p d2c w5 hm5 hS2 e2p e2c').mono ?_
  rintro e w6 ⟨g6, y6, rfl, hbp6, hb6⟩
  have hm6 := hm5.below hb6
  obtain ⟨k6, z6⟩ := hbp6.cell hm6 e2p e2c'
  obtain ⟨hm7, st7⟩ := hbp6.put hm6 e2p e2c' h
  have HM := Lib.hid hm7
  have HS := Lib.hid ((AStep.of_below hb02).trans (st3.trans ((AStep.of_below hb4).trans (st5.trans ((AStep.of_below hb6).trans st7)))))
  clear hm5 hm6 hm7 st3 st5 st7 hw3 hw5 v8
  go_wp2_with fail
  go_end0
  exact ⟨⟨_, rfl⟩, HM.out, HS.out⟩
end Go.Proofs.YtelncgfeojfafaaDoor

/- Index, place, cut. -/
namespace Go.Proofs.YtelncgfeojfafaaDoor
open Go.RowKit
set_option linter.unusedVariables false
set_option linter.unusedSimpArgs false

namespace Tr
/-- The index among the siblings. -/
def indexG (g : G) (h : Int) : Int := match g h with | none => -1 | some n => if n.pa = 0 then -1 else ((kidsOf g n.pa).idxOf h : Nat)
/-- A record. -/
structure Rec where
  kind : Int
  target : Int
  node : Int
  prev : Int
  next : Int
  index : Int
  name : ByteArray
  old : ByteArray
  had : Bool
  count : Int
  size : Int
def placeG (g : G) (kind h : Int) : Rec := ⟨kind, paOf g h, h, prv (kidsOf g (paOf g h)) h, nxt (kidsOf g (paOf g h)) h, indexG g h, ⟨#[]⟩, ⟨#[]⟩, false, 0, 0⟩
theorem idxOf_split {l1 l2 : List Int} {x : Int} (h : x ∉ l1) : (l1 ++ x :: l2).idxOf x = l1.length := by
  rw [List.idxOf_append, if_neg h]; simp
end Tr
abbrev rcV (r : Tr.Rec) : Value := .agg #[.int .i64 r.kind, .int .i64 r.target, .int .i64 r.node, .int .i64 r.prev, .int .i64 r.next, .int .i64 r.index, .string r.name, .string r.old, .bool r.had, .int .i64 r.count, .int .i64 r.size]
def rcC (r : Tr.Rec) : List Value := [.int .i64 r.kind, .int .i64 r.target, .int .i64 r.node, .int .i64 r.prev, .int .i64 r.next, .int .i64 r.index, .string r.name, .string r.old, .bool r.had, .int .i64 r.count, .int .i64 r.size]
def rcells (l : List Tr.Rec) : List Value := l.flatMap rcC
/-- A row of records. -/
def RecRow (base : Nat) (w : World) (v : Value) (l : List Tr.Rec) : Prop := w.ownsRow base 41 11 v l.length (rcells l)
theorem RecRow.nil (base : Nat) (w : World) : RecRow base w (.slice none 0 0) [] := World.ownsRow_nil _ _ _ _
theorem raw_isSome {g : Tr.G} {av : Int → Tr.Sl} {h : Int} : (Tr.raw g av h).isSome = (g h).isSome := by
  unfold Tr.raw; cases g h <;> rfl

set_option maxRecDepth 100000 in
set_option maxHeartbeats 1000000 in
theorem index_any (base B : Nat) (b s root h : Int) (live n : Nat) (g : Tr.G) (av : Int → Tr.Sl) (fr : List Nat) (vs vf : Value) (w : World) (hm : TV base w B b s vs n (Tr.raw g av) vf fr live root) (hS : Sound b s n (Tr.raw g av) fr live) (hw : Tr.WF 0 g) (hh : I64 h) :
    Calls Tryd.prog 44 #[.pointer (some ⟨B, 0, none⟩), .int .i64 h] w fun e w' => e = .returned (.int .i64 (Tr.indexG g h)) ∧ Below w.heap.size w w' := by
  cases eg : g h with
  | none =>
    have hr : Tr.indexG g h = -1 := by unfold Tr.indexG; rw [eg]
    go_enter Tryd.func44, Tryd.ntmps44
    go_wp2_with fail
    refine (at_any base B b s root h live n _ fr vs vf w hm hS hh).mono ?_
    rintro e w2 ⟨gb, o, rfl, hnp, hb2⟩
    rw [Tr.raw_none eg] at hnp
    obtain ⟨_, _, _, _, t4, _⟩ := hnp.cells
    have HR := Lib.hid hr
    clear hm hS hnp hr eg
    go_wp2_with fail
    go_ret
    exact ⟨aretI HR.out.symm, hb2⟩
  | some nd =>
    by_cases hp : nd.pa = 0
    · have hr : Tr.indexG g h = -1 := by unfold Tr.indexG; rw [eg]; simp [hp]
      go_enter Tryd.func44, Tryd.ntmps44
      go_wp2_with fail
      refine (at_any base B b s root h live n _ fr vs vf w hm hS hh).mono ?_
      rintro e w2 ⟨gb, o, rfl, hnp, hb2⟩
      rw [Tr.raw_some eg] at hnp
      obtain ⟨_, _, _, _, t4, _⟩ := hnp.cells
      have t4' : w2.cell? ⟨gb, o + 4, none⟩ = some (.int .i64 0) := by rw [t4]; show some (Value.int .i64 nd.pa) = _; rw [hp]
      have HR := Lib.hid hr
      clear hm hS hnp hr eg t4 hp
      go_wp2_with fail
      go_ret
      exact ⟨aretI HR.out.symm, hb2⟩
    · have hk := hw.in_parent eg hp
      obtain ⟨l1, l2, e1⟩ := List.append_of_mem hk
      have hnd := hw.kidsOf_nodup nd.pa
      have h0 := hw.kidsOf_zero nd.pa
      have hlen : (Tr.kidsOf g nd.pa).length ≤ 100000 := by
        have h1 : ((Tr.kidsOf g nd.pa).map fun x => (Ar.idx b s x).toNat).length ≤ n := nodup_le n _ (by
          rw [List.nodup_iff_pairwise_ne] at hnd ⊢
          rw [List.pairwise_map]
          refine List.Pairwise.imp_of_mem (fun {x y} hx hy hne e => hne ?_) hnd
          obtain ⟨mx, ex, _⟩ := hw.kidsOf_mem hx
          obtain ⟨my, ey, _⟩ := hw.kidsOf_mem hy
          obtain ⟨i, hi, ei⟩ := hS.dom x (by rw [raw_isSome, ex]; rfl)
          obtain ⟨j, hj, ej⟩ := hS.dom y (by rw [raw_isSome, ey]; rfl)
          have hle := hS.le
          have a1 := Ar.hdl_slot b s i (by omega) (by omega)
          have a2 := Ar.hdl_slot b s j (by omega) (by omega)
          rw [ei] at a1; rw [ej] at a2
          rw [← ei, ← ej]
          have : (i : Int) = j := by omega
          rw [this]) (fun k hk => by
          obtain ⟨x, hx, rfl⟩ := List.mem_map.1 hk
          obtain ⟨mx, ex, _⟩ := hw.kidsOf_mem hx
          obtain ⟨i, hi, ei⟩ := hS.dom x (by rw [raw_isSome, ex]; rfl)
          have a1 := Ar.hdl_slot b s i (by omega) (by have := hS.le; omega)
          rw [ei] at a1
          omega)
        rw [List.length_map] at h1
        have := hS.le
        omega
      have hn1 : h ∉ l1 := fun hx => by rw [e1] at hnd; exact (List.nodup_append.1 hnd).2.2 h hx h (by simp) rfl
      have hr : Tr.indexG g h = (l1.length : Int) := by
        unfold Tr.indexG
        rw [eg]
        simp only
        rw [if_neg hp, e1, Tr.idxOf_split hn1]
      have hl1 : l1.length ≤ 100000 := by rw [e1, List.length_append] at hlen; omega
      have HR := Lib.hid hr
      have HK := Lib.hid e1
      have HS := Lib.hid hS
      clear hr hlen hk
      have hc0 : (nd.pa == 0) = false := by simpa using hp
      go_enter Tryd.func44, Tryd.ntmps44
      go_wp2_with fail
      refine (at_any base B b s root h live n _ fr vs vf w hm hS hh).mono ?_
      rintro e w2 ⟨gb, o, rfl, hnp, hb2⟩
      rw [Tr.raw_some eg] at hnp
      obtain ⟨_, _, _, _, t4, _⟩ := hnp.cells
      have t4' : w2.cell? ⟨gb, o + 4, none⟩ = some (.int .i64 nd.pa) := t4
      have HN := Lib.hid hnp
      have HE := Lib.hid eg
      clear t4 hnp hS e1 hnd h0
      go_wp2_with fail
      go_loopw [5, 6] (fun p i wr => ∃ (g' o' : Nat) (l3 l4 : List Int) (x : Int) (k : Nat) (m : Tr.GN), p = .pointer (some ⟨g', o', none⟩) ∧ Tr.kidsOf g nd.pa = l3 ++ x :: l4 ∧ g x = some m ∧ m.pa = nd.pa ∧ NP wr g' o' (Tr.raw1 g av x m) ∧ i = .int .i64 k ∧ k + l3.length = l1.length ∧ Below w.heap.size w wr) (fun _ i _ => l1.length - (intOf i).toNat)
      case atStart => exact ⟨gb, o, l1, l2, h, 0, nd, rfl, HK.out, HE.out, rfl, HN.out, rfl, by omega, hb2⟩
      case round =>
        obtain ⟨g', o', l3, l4, x, k, m, rfl, hk, hx, hmp, hnp, rfl, hkl, hbr⟩ := hrel
        have hmr := hm.below hbr
        obtain ⟨_, _, _, _, _, _, _, t7, _⟩ := hnp.cells
        have hnd := hw.kidsOf_nodup nd.pa
        have h0 := hw.kidsOf_zero nd.pa
        rw [hk] at hnd h0
        have hx4 : x ∉ l4 := (List.nodup_cons.1 (List.nodup_append.1 hnd).2.1).1
        have hpr : Tr.prv (Tr.kidsOf g m.pa) x = Tr.lst l3 := by rw [hmp, hk]; exact Tr.prv_split hx4
        have t7' : wr.cell? ⟨g', o' + 7, none⟩ = some (.int .i64 (Tr.lst l3)) := by rw [t7, ← hpr]; rfl
        clear t7
        by_cases hz : Tr.lst l3 = 0
        · have hl3 : l3 = [] := Tr.lst_zero (fun hx => h0 (by simp [hx])) hz
          subst hl3
          rw [Tr.lst_nil] at t7'
          have hkk : k = l1.length := by simpa using hkl
          have HB := Lib.hid hbr
          have HKK := Lib.hid hkk
          clear hnp hmr hk hx hmp hnd h0 hpr hz hkl hbr hkk
          go_wp2_with fail
          go_ret
          exact ⟨aretI (by rw [HKK.out, HR.out]), HB.out⟩
        · obtain ⟨l5, y, rfl⟩ : ∃ l5 y, l3 = l5 ++ [y] := by
            cases hl : l3 with
            | nil => rw [hl] at hz; exact absurd rfl hz
            | cons a r => exact ⟨(a :: r).dropLast, (a :: r).getLast (by simp), (List.dropLast_concat_getLast _).symm⟩
          rw [Tr.lst_snoc] at hz t7'
          have hy : y ∈ Tr.kidsOf g nd.pa := by rw [hk]; simp
          obtain ⟨my, ey, hyp⟩ := hw.kidsOf_mem hy
          have hc1 : (y != 0) = true := by simpa using hz
          have hyi := (tmem_i64 HS.out (h := y) (by rw [raw_isSome, ey]; rfl)).1
          have hlx : k + 1 ≤ l1.length := by simp at hkl; omega
          have HK2 := Lib.hid hk
          have HL2 := Lib.hid hkl
          clear hnp hk hx hmp hnd h0 hpr hkl
          go_wp2_with fail
          refine (at_any base B b s root y live n _ fr vs vf wr hmr HS.out hyi).mono ?_
          rintro e w4 ⟨g4, o4, rfl, hnp4, hb4⟩
          rw [Tr.raw_some ey] at hnp4
          have hb5 := hbr.trans (hb4.mono hbr.size)
          have HN4 := Lib.hid hnp4
          have HB := Lib.hid hb5
          clear hnp4 hb5 hmr
          go_wp2_with fail
          go_roundw
          case rel => exact ⟨g4, o4, l5, x :: l4, y, k + 1, my, rfl, by rw [HK2.out]; simp, ey, hyp, HN4.out, by go_num, by have := HL2.out; simp at this; omega, HB.out⟩
          case measure => simp [intOf]; omega
end Go.Proofs.YtelncgfeojfafaaDoor
