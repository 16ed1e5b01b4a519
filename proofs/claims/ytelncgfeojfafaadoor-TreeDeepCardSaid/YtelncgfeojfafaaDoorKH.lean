/- All at a tree's nodes: the nodes in the order of their slots. -/
import Derived.Sort.CutIn
import Derived.Sort.QuietIn
import Derived.Deep.RegionHeld3
import Derived.Test.YtelncgfeojfafaaDoorKC
import Derived.Test.YtelncgfeojfafaaDoorKF
namespace Go.Proofs.YtelncgfeojfafaaDoor
open Go.RowKit Go.Shelf
set_option linter.unusedVariables false
set_option linter.unusedSimpArgs false
attribute [local go_sem] Oper.semAt_some

/-- The nodes of the first k slots. -/
def allN (b s : Int) (R : Int → Option Tr.Nd) (k : Nat) : List (Int × Tr.Nd) := (List.range k).filterMap fun i : Nat => (R (Ar.hdl b s (i : Int))).map fun d => (Ar.hdl b s (i : Int), d)
theorem allN_none {b s : Int} {R : Int → Option Tr.Nd} {k : Nat} (h : R (Ar.hdl b s (k : Int)) = none) : allN b s R (k + 1) = allN b s R k := by
  unfold allN
  rw [List.range_succ, List.filterMap_append]
  simp [h]
theorem allN_some {b s : Int} {R : Int → Option Tr.Nd} {k : Nat} {d : Tr.Nd} (h : R (Ar.hdl b s (k : Int)) = some d) : allN b s R (k + 1) = allN b s R k ++ [(Ar.hdl b s (k : Int), d)] := by
  unfold allN
  rw [List.range_succ, List.filterMap_append]
  simp [h]
theorem allN_prefix (b s : Int) (R : Int → Option Tr.Nd) {k n : Nat} (h : k ≤ n) : allN b s R k <+: allN b s R n := by
  obtain ⟨m, rfl⟩ := Nat.exists_eq_add_of_le h
  induction m with
  | zero => exact List.prefix_refl _
  | succ m ih =>
    refine (ih (by omega)).trans ?_
    show allN b s R (k + m) <+: allN b s R (k + m + 1)
    cases e : R (Ar.hdl b s ((k + m : Nat) : Int)) with
    | none => rw [allN_none e]; exact List.prefix_refl _
    | some d => rw [allN_some e]; exact ⟨_, rfl⟩
theorem allN_mem {b s : Int} {R : Int → Option Tr.Nd} {k : Nat} {x : Int × Tr.Nd} : x ∈ allN b s R k ↔ ∃ i : Nat, i < k ∧ x.1 = Ar.hdl b s (i : Int) ∧ R x.1 = some x.2 := by
  unfold allN
  rw [List.mem_filterMap]
  constructor
  · rintro ⟨i, hi, e⟩
    cases e1 : R (Ar.hdl b s (i : Int)) with
    | none => rw [e1] at e; cases e
    | some d =>
      rw [e1] at e
      obtain rfl := (Option.some.inj e).symm
      exact ⟨i, List.mem_range.1 hi, rfl, e1⟩
  · rintro ⟨i, hi, e1, e2⟩
    exact ⟨i, List.mem_range.2 hi, by rw [← e1, e2]; rfl⟩
theorem attach_step {α : Type} {L A : List α} {x : α} {pre rest : List {x : α // x ∈ L}} (hat : L.attach = pre ++ rest) (hA : pre.map (·.1) = A) (hp : A ++ [x] <+: L) : ∃ y rest', rest = y :: rest' ∧ y.1 = x := by
  have h := congrArg (List.map (·.1)) hat
  rw [List.map_append, List.attach_map_subtype_val, hA] at h
  obtain ⟨t, ht⟩ := hp
  rw [h, List.append_assoc] at ht
  have h2 := List.append_cancel_left ht
  cases rest with
  | nil => cases h2
  | cons y r => injection h2 with h3 _; exact ⟨y, r, rfl, h3.symm⟩
theorem attach_end {α : Type} {L : List α} {pre rest : List {x : α // x ∈ L}} (hat : L.attach = pre ++ rest) (hA : pre.map (·.1) = L) : pre = L.attach := by
  have h := congrArg List.length hat
  have h2 := congrArg List.length hA
  rw [List.length_attach, List.length_append] at h
  rw [List.length_map] at h2
  have : rest = [] := List.eq_nil_of_length_eq_zero (by omega)
  rw [hat, this, List.append_nil]

set_option maxHeartbeats 400000 in
theorem nall_make (B : Nat) (w : World) :
    Calls Tryd.prog 26 #[.pointer (some ⟨B, 0, none⟩)] w fun e w' =>
      e = .returned (.func (.func 46) #[] #[.pointer (some ⟨w.heap.size, 0, none⟩)]) ∧ w' = w.alloc (.cells #[.pointer (some ⟨B, 0, none⟩)] 62) := by
  go_enter Tryd.func26, Tryd.ntmps26
  go_wp2_with fail
  go_ret
  exact ⟨rfl, rfl⟩

/-- What is kept between two rounds. -/
structure AIds (KI : World → Prop) (B Bs : Nat) (b s : Int) (vs : Value) (n : Nat) (R : Int → Option Tr.Nd) : Prop where
  read : ∀ W, KI W → ∃ (base live : Nat) (vf : Value) (fr : List Nat) (root : Int), TV base W B b s vs n R vf fr live root
  below : ∀ W W', Below W.heap.size W W' → KI W → KI W'
  box : ∀ W, KI W → W.cell? ⟨Bs, 0, none⟩ = some (.pointer (some ⟨B, 0, none⟩))
/-- A handle and its node, as the loop's two values. -/
abbrev encN (x : Int × Tr.Nd) : Array Value := #[.int .i64 x.1, ndV x.2]

set_option maxRecDepth 100000 in
set_option maxHeartbeats 4000000 in
theorem nall1_in (KI : World → Prop) (B Bs lp : Nat) (b s : Int) (vs : Value) (n : Nat) (R : Int → Option Tr.Nd) (J Jx : List {x : Int × Tr.Nd // x ∈ allN b s R n} → World → Prop) (W : World) (hK : AIds KI B Bs b s vs n R) (hn : n ≤ 100000)
    (hJ : AbidesFrom W.heap.size J)
    (hY : ∀ pre x W1, J pre W1 → pre.length < (allN b s R n).length → YieldAt Fence.wide (4 - 1) Tryd.prog lp (encN x.1) W1 fun e W' => (e = .returned (.bool true) ∧ J (pre ++ [x]) W' ∧ (KI W1 → KI W')) ∨ (e = .returned (.bool false) ∧ Jx (pre ++ [x]) W'))
    (hKW : KI W) (h0 : J [] W) :
    CallsIn Fence.wide 4 Tryd.prog 46 #[.func (.yield lp) #[] #[], .pointer (some ⟨Bs, 0, none⟩)] W fun e W' => (∃ v, e = .returned v) ∧
      ((∃ xs, xs = (allN b s R n).attach ∧ J xs W') ∨ (∃ pre, pre <+: (allN b s R n).attach ∧ Jx pre W')) := by
  obtain ⟨base0, live0, vf0, fr0, root0, hT0⟩ := hK.read W hKW
  obtain ⟨A, c, A0, c0', rfl, rfl⟩ := hT0.slices
  have hcell := hK.box W hKW
  obtain ⟨_, _, k2, _, _⟩ := hT0.cells
  refine callsIn_of_wp Tryd.func46 rfl trivial ?_ rfl
  simp only [Tryd.ntmps46, List.size_toArray, List.length_cons, List.length_nil, Nat.reduceAdd, Nat.reduceSub, Array.replicate_succ, Array.replicate_zero, List.push_toArray, List.append_toArray, List.nil_append, List.cons_append]
  clear hT0
  gi_wp2
  gi_loopw [10] (fun i wr => ∃ (k : Nat) (pre rest : List {x : Int × Tr.Nd // x ∈ allN b s R n}), i = .int .i64 k ∧ k ≤ n ∧ (allN b s R n).attach = pre ++ rest ∧ pre.map (·.1) = allN b s R k ∧ KI wr ∧ J pre wr) (fun i _ => n - (intOf i).toNat)
  case atStart => exact ⟨0, [], _, rfl, Nat.zero_le _, rfl, rfl, hKW, h0⟩
  case round =>
    obtain ⟨k, pre, rest, rfl, hk, hat, hpm, hKr, hJs⟩ := hrel
    have jb : ∀ p (w1 w2 : World), J p w1 → Below w1.heap.size w1 w2 → J p w2 := fun p w1 w2 h hb => hJ p w1 w2 none h (gb_of_below hb none) (fun r e => by cases e)
    obtain ⟨base, live, vf, fr, root, hT⟩ := hK.read wr hKr
    have c0 := hK.box wr hKr
    obtain ⟨c1, c2, _, _, _⟩ := hT.cells
    by_cases hlt : k < n
    · obtain ⟨g, rfl, hgB, hgl, hslot⟩ := hT.slot (by omega)
      have hki : I64 (k : Int) := by unfold I64; omega
      have t0 := (hslot k 0 hlt (by omega)).1
      have t1 := (hslot k 1 hlt (by omega)).1
      have t2 := (hslot k 2 hlt (by omega)).1
      have t3 := (hslot k 3 hlt (by omega)).1
      have t4 := (hslot k 4 hlt (by omega)).1
      have t5 := (hslot k 5 hlt (by omega)).1
      have t6 := (hslot k 6 hlt (by omega)).1
      have t7 := (hslot k 7 hlt (by omega)).1
      have t8 := (hslot k 8 hlt (by omega)).1
      have t9 := (hslot k 9 hlt (by omega)).1
      have hB2 : B < wr.heap.size := World.block_lt_of_cell? wr _ c1
      have hBs2 : Bs < wr.heap.size := World.block_lt_of_cell? wr _ c0
      obtain ⟨o, ho⟩ : ∃ o, R (Ar.hdl b s (k : Int)) = o := ⟨_, rfl⟩
      rw [ho] at t0 t1 t2 t3 t4 t5 t6 t7 t8 t9
      have HO := Lib.hid ho
      clear ho hslot k2 hcell hT
      cases o with
      | none =>
        clear hY
        replace t0 : wr.cell? ⟨g, k * 10, none⟩ = some (.bool false) := t0
        replace t1 : wr.cell? ⟨g, k * 10 + 1, none⟩ = some (.int .i64 0) := t1
        replace t2 : wr.cell? ⟨g, k * 10 + 2, none⟩ = some (.string ⟨#[]⟩) := t2
        replace t3 : wr.cell? ⟨g, k * 10 + 3, none⟩ = some (.slice none 0 0) := t3
        replace t4 : wr.cell? ⟨g, k * 10 + 4, none⟩ = some (.string ⟨#[]⟩) := t4
        replace t5 : wr.cell? ⟨g, k * 10 + 5, none⟩ = some (.int .i64 0) := t5
        replace t6 : wr.cell? ⟨g, k * 10 + 6, none⟩ = some (.int .i64 0) := t6
        replace t7 : wr.cell? ⟨g, k * 10 + 7, none⟩ = some (.int .i64 0) := t7
        replace t8 : wr.cell? ⟨g, k * 10 + 8, none⟩ = some (.int .i64 0) := t8
        replace t9 : wr.cell? ⟨g, k * 10 + 9, none⟩ = some (.int .i64 0) := t9
        gi_wp2_with fail
        refine wpIn_region_any (by kernel_rfl) ?_
        try (change wpAnyIn _ _ _ _ _ _ _ _ _ (World.drew _))
        refine wpAnyIn_take (i := 0) (v := ?_) rfl rfl (by kernel_rfl) (by kernel_rfl) (by kernel_rfl) (fun _ _ _ h => h) ⟨Or.inl ⟨by rfl, ?_⟩, fun _ => rfl⟩ ?_
        rotate_left 1
        · (intro w'; go_simp <;> with_reducible rfl)
        try simp only [Act.put, List.setIfInBounds_toArray, List.set_cons_zero, List.set_cons_succ]
        refine wpAnyIn_ready (rs := [1]) (by kernel_rfl) (by simp) ?_
        refine AllReadyIn.cons rfl (fun K hK => ?_) AllReadyIn.nil
        go_simp
        refine hK _ _ ?_
        clear hK K
        try simp only [Act.put, List.setIfInBounds_toArray, List.set_cons_zero, List.set_cons_succ]
        refine wpAnyIn_take (i := 2) (v := ?_) rfl rfl (by kernel_rfl) (by kernel_rfl) (by kernel_rfl) (fun _ _ _ h => h) ⟨Or.inl ⟨by rfl, ?_⟩, fun _ => rfl⟩ ?_
        rotate_left 1
        · (intro w'; go_simp <;> with_reducible rfl)
        try simp only [Act.put, List.setIfInBounds_toArray, List.set_cons_zero, List.set_cons_succ]
        refine wpAnyIn_take (i := 3) (v := undef) rfl rfl (by kernel_rfl) (by kernel_rfl) (by kernel_rfl) (fun _ _ _ h => h) ⟨Or.inr ⟨by kernel_rfl, rfl⟩, fun _ => rfl⟩ ?_
        try simp only [Act.put, List.setIfInBounds_toArray, List.set_cons_zero, List.set_cons_succ]
        refine wpAnyIn_take (i := 4) (v := undef) rfl rfl (by kernel_rfl) (by kernel_rfl) (by kernel_rfl) (fun _ _ _ h => h) ⟨Or.inr ⟨by kernel_rfl, rfl⟩, fun _ => rfl⟩ ?_
        try simp only [Act.put, List.setIfInBounds_toArray, List.set_cons_zero, List.set_cons_succ]
        refine wpAnyIn_take (i := 5) (v := undef) rfl rfl (by kernel_rfl) (by kernel_rfl) (by kernel_rfl) (fun _ _ _ h => h) ⟨Or.inr ⟨by kernel_rfl, rfl⟩, fun _ => rfl⟩ ?_
        try simp only [Act.put, List.setIfInBounds_toArray, List.set_cons_zero, List.set_cons_succ]
        refine wpAnyIn_take (i := 6) (v := undef) rfl rfl (by kernel_rfl) (by kernel_rfl) (by kernel_rfl) (fun _ _ _ h => h) ⟨Or.inr ⟨by kernel_rfl, rfl⟩, fun _ => rfl⟩ ?_
        try simp only [Act.put, List.setIfInBounds_toArray, List.set_cons_zero, List.set_cons_succ]
        refine wpAnyIn_take (i := 7) (v := undef) rfl rfl (by kernel_rfl) (by kernel_rfl) (by kernel_rfl) (fun _ _ _ h => h) ⟨Or.inr ⟨by kernel_rfl, rfl⟩, fun _ => rfl⟩ ?_
        try simp only [Act.put, List.setIfInBounds_toArray, List.set_cons_zero, List.set_cons_succ]
        refine wpAnyIn_take (i := 8) (v := undef) rfl rfl (by kernel_rfl) (by kernel_rfl) (by kernel_rfl) (fun _ _ _ h => h) ⟨Or.inr ⟨by kernel_rfl, rfl⟩, fun _ => rfl⟩ ?_
        try simp only [Act.put, List.setIfInBounds_toArray, List.set_cons_zero, List.set_cons_succ]
        refine wpAnyIn_take (i := 10) (v := undef) rfl rfl (by kernel_rfl) (by kernel_rfl) (by kernel_rfl) (fun _ _ _ h => h) ⟨Or.inr ⟨by kernel_rfl, rfl⟩, fun _ => rfl⟩ ?_
        try simp only [Act.put, List.setIfInBounds_toArray, List.set_cons_zero, List.set_cons_succ]
        refine wpAnyIn_take (i := 11) (v := undef) rfl rfl (by kernel_rfl) (by kernel_rfl) (by kernel_rfl) (fun _ _ _ h => h) ⟨Or.inr ⟨by kernel_rfl, rfl⟩, fun _ => rfl⟩ ?_
        try simp only [Act.put, List.setIfInBounds_toArray, List.set_cons_zero, List.set_cons_succ]
        refine wpAnyIn_ready (rs := [9]) (by kernel_rfl) (by simp) ?_
        refine AllReadyIn.cons rfl (fun K hK => ?_) AllReadyIn.nil
        go_simp
        refine And.intro (by first | exact trivial | (intros; exact trivial)) ?_
        refine hK _ _ ?_
        clear hK K
        try simp only [Act.put, List.setIfInBounds_toArray, List.set_cons_zero, List.set_cons_succ]
        refine wpAnyIn_ready (rs := [12]) (by kernel_rfl) (by simp) ?_
        refine AllReadyIn.cons rfl (fun K hK => ?_) AllReadyIn.nil
        go_simp
        refine And.intro (by first | exact trivial | (intros; exact trivial)) ?_
        refine hK _ _ ?_
        clear hK K
        try simp only [Act.put, List.setIfInBounds_toArray, List.set_cons_zero, List.set_cons_succ]
        refine wpAnyIn_take (i := 13) (v := undef) rfl rfl (by kernel_rfl) (by kernel_rfl) (by kernel_rfl) (fun _ _ _ h => h) ⟨Or.inr ⟨by kernel_rfl, rfl⟩, fun _ => rfl⟩ ?_
        try simp only [Act.put, List.setIfInBounds_toArray, List.set_cons_zero, List.set_cons_succ]
        refine wpAnyIn_take (i := 14) (v := ?_) rfl rfl (by kernel_rfl) (by kernel_rfl) (by kernel_rfl) (fun _ _ _ h => h) ⟨Or.inl ⟨by rfl, ?_⟩, fun _ => rfl⟩ ?_
        rotate_left 1
        · (intro w'; go_simp <;> with_reducible rfl)
        try simp only [Act.put, List.setIfInBounds_toArray, List.set_cons_zero, List.set_cons_succ]
        refine wpAnyIn_done (by kernel_rfl) ?_ _
        have hb4 : Below wr.heap.size wr (wr.alloc (.cells #[.bool false, .int .i64 0, .string ⟨#[]⟩, .slice none 0 0, .string ⟨#[]⟩, .int .i64 0, .int .i64 0, .int .i64 0, .int .i64 0, .int .i64 0] 64)).drew := Below.drew ((Below.refl _ _).alloc (Nat.le_refl _) _)
        gi_wp2_with fail
        go_roundw
        case rel => exact ⟨k + 1, pre, rest, by go_num, by omega, hat, by rw [allN_none HO.out]; exact hpm, hK.below _ _ hb4 hKr, jb _ _ _ hJs hb4⟩
        case measure => simp [intOf]; omega
      | some d =>
        have hsucc := allN_some HO.out
        obtain ⟨y, rest', rfl, hyx⟩ := attach_step hat hpm (by rw [← hsucc]; exact allN_prefix b s R (show k + 1 ≤ n from hlt))
        have hlen : pre.length < (allN b s R n).length := by
          have := congrArg List.length hat
          rw [List.length_attach, List.length_append, List.length_cons] at this
          omega
        replace t0 : wr.cell? ⟨g, k * 10, none⟩ = some (.bool true) := t0
        replace t1 : wr.cell? ⟨g, k * 10 + 1, none⟩ = some (.int .i64 d.kind) := t1
        replace t2 : wr.cell? ⟨g, k * 10 + 2, none⟩ = some (.string d.name) := t2
        replace t3 : wr.cell? ⟨g, k * 10 + 3, none⟩ = some (.slice d.av.a d.av.n d.av.c) := t3
        replace t4 : wr.cell? ⟨g, k * 10 + 4, none⟩ = some (.string d.data) := t4
        replace t5 : wr.cell? ⟨g, k * 10 + 5, none⟩ = some (.int .i64 d.pa) := t5
        replace t6 : wr.cell? ⟨g, k * 10 + 6, none⟩ = some (.int .i64 d.fi) := t6
        replace t7 : wr.cell? ⟨g, k * 10 + 7, none⟩ = some (.int .i64 d.la) := t7
        replace t8 : wr.cell? ⟨g, k * 10 + 8, none⟩ = some (.int .i64 d.pr) := t8
        replace t9 : wr.cell? ⟨g, k * 10 + 9, none⟩ = some (.int .i64 d.ne) := t9
        have hb4 : Below wr.heap.size wr (wr.alloc (.cells #[.bool true, .int .i64 d.kind, .string d.name, .slice d.av.a d.av.n d.av.c, .string d.data, .int .i64 d.pa, .int .i64 d.fi, .int .i64 d.la, .int .i64 d.pr, .int .i64 d.ne] 64)).drew := Below.drew ((Below.refl _ _).alloc (Nat.le_refl _) _)
        have hwh := Whole.new wr #[.bool true, .int .i64 d.kind, .string d.name, .slice d.av.a d.av.n d.av.c, .string d.data, .int .i64 d.pa, .int .i64 d.fi, .int .i64 d.la, .int .i64 d.pr, .int .i64 d.ne] 64
        have tq : ∀ w5 : World, Below (wr.alloc (.cells #[.bool true, .int .i64 d.kind, .string d.name, .slice d.av.a d.av.n d.av.c, .string d.data, .int .i64 d.pa, .int .i64 d.fi, .int .i64 d.la, .int .i64 d.pr, .int .i64 d.ne] 64)).drew.heap.size (wr.alloc (.cells #[.bool true, .int .i64 d.kind, .string d.name, .slice d.av.a d.av.n d.av.c, .string d.data, .int .i64 d.pa, .int .i64 d.fi, .int .i64 d.la, .int .i64 d.pr, .int .i64 d.ne] 64)).drew w5 →
            w5.cell? ⟨wr.heap.size, 1, none⟩ = some (.int .i64 d.kind) ∧ w5.cell? ⟨wr.heap.size, 2, none⟩ = some (.string d.name) ∧ w5.cell? ⟨wr.heap.size, 3, none⟩ = some (.slice d.av.a d.av.n d.av.c) ∧ w5.cell? ⟨wr.heap.size, 4, none⟩ = some (.string d.data) ∧ w5.cell? ⟨wr.heap.size, 5, none⟩ = some (.int .i64 d.pa) ∧ w5.cell? ⟨wr.heap.size, 6, none⟩ = some (.int .i64 d.fi) ∧ w5.cell? ⟨wr.heap.size, 7, none⟩ = some (.int .i64 d.la) ∧ w5.cell? ⟨wr.heap.size, 8, none⟩ = some (.int .i64 d.pr) ∧ w5.cell? ⟨wr.heap.size, 9, none⟩ = some (.int .i64 d.ne) := fun w5 h => by
          have hc : ∀ i, w5.cell? ⟨wr.heap.size, i, none⟩ = (wr.alloc (.cells #[.bool true, .int .i64 d.kind, .string d.name, .slice d.av.a d.av.n d.av.c, .string d.data, .int .i64 d.pa, .int .i64 d.fi, .int .i64 d.la, .int .i64 d.pr, .int .i64 d.ne] 64)).cell? ⟨wr.heap.size, i, none⟩ := fun i => h.cell (p := ⟨wr.heap.size, i, none⟩) (by simp)
          exact ⟨(hc 1).trans (hwh.cell 1), (hc 2).trans (hwh.cell 2), (hc 3).trans (hwh.cell 3), (hc 4).trans (hwh.cell 4), (hc 5).trans (hwh.cell 5), (hc 6).trans (hwh.cell 6), (hc 7).trans (hwh.cell 7), (hc 8).trans (hwh.cell 8), (hc 9).trans (hwh.cell 9)⟩
        have hyat : ∀ w5 : World, Below (wr.alloc (.cells #[.bool true, .int .i64 d.kind, .string d.name, .slice d.av.a d.av.n d.av.c, .string d.data, .int .i64 d.pa, .int .i64 d.fi, .int .i64 d.la, .int .i64 d.pr, .int .i64 d.ne] 64)).drew.heap.size (wr.alloc (.cells #[.bool true, .int .i64 d.kind, .string d.name, .slice d.av.a d.av.n d.av.c, .string d.data, .int .i64 d.pa, .int .i64 d.fi, .int .i64 d.la, .int .i64 d.pr, .int .i64 d.ne] 64)).drew w5 → YieldAt Fence.wide (4 - 1) Tryd.prog lp #[.int .i64 (Ar.hdl b s (k : Int)), ndV d] w5 fun e W' => (e = .returned (.bool true) ∧ J (pre ++ [y]) W' ∧ (KI w5 → KI W')) ∨ (e = .returned (.bool false) ∧ Jx (pre ++ [y]) W') := fun w5 h => by
          have := hY pre y w5 (jb _ _ _ hJs (hb4.trans (h.mono hb4.size))) hlen
          rw [hyx] at this
          exact this
        have hk5 : ∀ w5 : World, Below (wr.alloc (.cells #[.bool true, .int .i64 d.kind, .string d.name, .slice d.av.a d.av.n d.av.c, .string d.data, .int .i64 d.pa, .int .i64 d.fi, .int .i64 d.la, .int .i64 d.pr, .int .i64 d.ne] 64)).drew.heap.size (wr.alloc (.cells #[.bool true, .int .i64 d.kind, .string d.name, .slice d.av.a d.av.n d.av.c, .string d.data, .int .i64 d.pa, .int .i64 d.fi, .int .i64 d.la, .int .i64 d.pr, .int .i64 d.ne] 64)).drew w5 → KI w5 := fun w5 h => hK.below _ _ (hb4.trans (h.mono hb4.size)) hKr
        have HREL := Lib.hid (show (allN b s R n).attach = (pre ++ [y]) ++ rest' ∧ (pre ++ [y]).map (·.1) = allN b s R (k + 1) from ⟨by rw [hat]; simp, by rw [List.map_append, hpm, hsucc, ← hyx]; rfl⟩)
        have HPRE := Lib.hid (show pre ++ [y] <+: (allN b s R n).attach from ⟨rest', by rw [hat]; simp⟩)
        dsimp only [ndV] at hyat
        clear hat hpm hsucc hyx hlen hY hwh
        gi_wp2_with fail
        refine wpIn_region_any (by kernel_rfl) ?_
        try (change wpAnyIn _ _ _ _ _ _ _ _ _ (World.drew _))
        refine wpAnyIn_take (i := 0) (v := ?_) rfl rfl (by kernel_rfl) (by kernel_rfl) (by kernel_rfl) (fun _ _ _ h => h) ⟨Or.inl ⟨by rfl, ?_⟩, fun _ => rfl⟩ ?_
        rotate_left 1
        · (intro w'; go_simp <;> with_reducible rfl)
        try simp only [Act.put, List.setIfInBounds_toArray, List.set_cons_zero, List.set_cons_succ]
        refine wpAnyIn_ready (rs := [1]) (by kernel_rfl) (by simp) ?_
        refine AllReadyIn.cons rfl (fun K hK => ?_) AllReadyIn.nil
        go_simp
        refine hK _ _ ?_
        clear hK K
        try simp only [Act.put, List.setIfInBounds_toArray, List.set_cons_zero, List.set_cons_succ]
        refine wpAnyIn_take (i := 2) (v := ?_) rfl rfl (by kernel_rfl) (by kernel_rfl) (by kernel_rfl) (fun _ _ _ h => h) ⟨Or.inl ⟨by rfl, ?_⟩, fun _ => rfl⟩ ?_
        rotate_left 1
        · (intro w'; go_simp <;> with_reducible rfl)
        try simp only [Act.put, List.setIfInBounds_toArray, List.set_cons_zero, List.set_cons_succ]
        refine wpAnyIn_take (i := 3) (v := ?_) rfl rfl (by kernel_rfl) (by kernel_rfl) (by kernel_rfl) (fun _ _ _ h => h) ⟨Or.inl ⟨by rfl, ?_⟩, fun _ => rfl⟩ ?_
        rotate_left 1
        · (intro w'; go_simp <;> with_reducible rfl)
        try simp only [Act.put, List.setIfInBounds_toArray, List.set_cons_zero, List.set_cons_succ]
        refine wpAnyIn_take (i := 8) (v := ?_) rfl rfl (by kernel_rfl) (by kernel_rfl) (by kernel_rfl) (fun _ _ _ h => h) ⟨Or.inl ⟨by rfl, ?_⟩, fun _ => rfl⟩ ?_
        rotate_left 1
        · (intro w'; go_simp <;> with_reducible rfl)
        try simp only [Act.put, List.setIfInBounds_toArray, List.set_cons_zero, List.set_cons_succ]
        refine wpAnyIn_take (i := 10) (v := ?_) rfl rfl (by kernel_rfl) (by kernel_rfl) (by kernel_rfl) (fun _ _ _ h => h) ⟨Or.inl ⟨by rfl, ?_⟩, fun _ => rfl⟩ ?_
        rotate_left 1
        · (intro w'; go_simp <;> with_reducible rfl)
        try simp only [Act.put, List.setIfInBounds_toArray, List.set_cons_zero, List.set_cons_succ]
        refine wpAnyIn_ready (rs := [4, 11]) (by kernel_rfl) (by simp) ?_
        refine AllReadyIn.cons rfl (fun K hK => ?_) (AllReadyIn.cons rfl (fun K hK => ?_) AllReadyIn.nil)
        · go_simp
          refine hK _ _ ?_
          clear hK K
          try simp only [Act.put, List.setIfInBounds_toArray, List.set_cons_zero, List.set_cons_succ]
          refine wpAnyIn_take (i := 5) (v := ?_) rfl rfl (by kernel_rfl) (by kernel_rfl) (by kernel_rfl) (fun _ _ _ h => h) ⟨Or.inl ⟨by rfl, ?_⟩, fun _ => rfl⟩ ?_
          rotate_left 1
          · (intro w'; go_simp <;> with_reducible rfl)
          try simp only [Act.put, List.setIfInBounds_toArray, List.set_cons_zero, List.set_cons_succ]
          refine wpAnyIn_take (i := 6) (v := ?_) rfl rfl (by kernel_rfl) (by kernel_rfl) (by kernel_rfl) (fun _ _ _ h => h) ⟨Or.inl ⟨by rfl, ?_⟩, fun _ => rfl⟩ ?_
          rotate_left 1
          · (intro w'; go_simp <;> with_reducible rfl)
          try simp only [Act.put, List.setIfInBounds_toArray, List.set_cons_zero, List.set_cons_succ]
          refine wpAnyIn_ready (rs := [7, 11]) (by kernel_rfl) (by simp) ?_
          refine AllReadyIn.cons rfl (fun K hK => ?_) (AllReadyIn.cons rfl (fun K hK => ?_) AllReadyIn.nil)
          · go_simp
            refine hK _ _ ?_
            clear hK K
            try simp only [Act.put, List.setIfInBounds_toArray, List.set_cons_zero, List.set_cons_succ]
            refine wpAnyIn_ready (rs := [9, 11]) (by kernel_rfl) (by simp) ?_
            refine AllReadyIn.cons rfl (fun K hK => ?_) (AllReadyIn.cons rfl (fun K hK => ?_) AllReadyIn.nil)
            · go_simp
              refine ⟨trivial, (callsIn_wide.2 (ahandle_any b s (k : Int) _ hki)).mono ?_⟩
              rintro e w5 ⟨rfl, hb5⟩
              obtain ⟨e1, e2, e3, e4, e5, e6, e7, e8, e9⟩ := tq w5 hb5
              refine hK _ _ ?_
              clear hK K
              try simp only [Act.put, List.setIfInBounds_toArray, List.set_cons_zero, List.set_cons_succ]
              refine wpAnyIn_ready (rs := [11]) (by kernel_rfl) (by simp) ?_
              refine AllReadyIn.cons rfl (fun K hK => ?_) AllReadyIn.nil
              go_simp
              refine hK _ _ ?_
              clear hK K
              try simp only [Act.put, List.setIfInBounds_toArray, List.set_cons_zero, List.set_cons_succ]
              obtain ⟨fn, tmps, assign, body, hy, hR⟩ := hyat w5 hb5
              refine wpAnyIn_ready (rs := [12]) (by kernel_rfl) (by simp) ?_
              refine AllReadyIn.cons rfl (fun K hK => ?_) AllReadyIn.nil
              go_simp
              refine hR.mono ?_
              rintro e W6 (⟨rfl, hJ6, hk6⟩ | ⟨rfl, hJ6⟩)
              · refine hK _ _ ?_
                clear hK K
                try simp only [Act.put, List.setIfInBounds_toArray, List.set_cons_zero, List.set_cons_succ]
                refine wpAnyIn_take (i := 13) (v := ?_) rfl rfl (by kernel_rfl) (by kernel_rfl) (by kernel_rfl) (fun _ _ _ h => h) ⟨Or.inl ⟨by rfl, ?_⟩, fun _ => rfl⟩ ?_
                rotate_left 1
                · (intro w'; go_simp <;> with_reducible rfl)
                try simp only [Act.put, List.setIfInBounds_toArray, List.set_cons_zero, List.set_cons_succ]
                refine wpAnyIn_take (i := 14) (v := ?_) rfl rfl (by kernel_rfl) (by kernel_rfl) (by kernel_rfl) (fun _ _ _ h => h) ⟨Or.inl ⟨by rfl, ?_⟩, fun _ => rfl⟩ ?_
                rotate_left 1
                · (intro w'; go_simp <;> with_reducible rfl)
                try simp only [Act.put, List.setIfInBounds_toArray, List.set_cons_zero, List.set_cons_succ]
                refine wpAnyIn_done (by kernel_rfl) ?_ _
                gi_wp2_with fail
                go_roundw
                case rel => exact ⟨k + 1, pre ++ [y], rest', by go_num, by omega, HREL.out.1, HREL.out.2, hk6 (hk5 w5 hb5), hJ6⟩
                case measure => simp [intOf]; omega
              · refine hK _ _ ?_
                clear hK K
                try simp only [Act.put, List.setIfInBounds_toArray, List.set_cons_zero, List.set_cons_succ]
                refine wpAnyIn_take (i := 13) (v := ?_) rfl rfl (by kernel_rfl) (by kernel_rfl) (by kernel_rfl) (fun _ _ _ h => h) ⟨Or.inl ⟨by rfl, ?_⟩, fun _ => rfl⟩ ?_
                rotate_left 1
                · (intro w'; go_simp <;> with_reducible rfl)
                try simp only [Act.put, List.setIfInBounds_toArray, List.set_cons_zero, List.set_cons_succ]
                refine wpAnyIn_take (i := 14) (v := ?_) rfl rfl (by kernel_rfl) (by kernel_rfl) (by kernel_rfl) (fun _ _ _ h => h) ⟨Or.inl ⟨by rfl, ?_⟩, fun _ => rfl⟩ ?_
                rotate_left 1
                · (intro w'; go_simp <;> with_reducible rfl)
                try simp only [Act.put, List.setIfInBounds_toArray, List.set_cons_zero, List.set_cons_succ]
                refine wpAnyIn_done (by kernel_rfl) ?_ _
                gi_wp2_with fail
                refine bodyPost_ret (results_none rfl _ _ _) rfl ?_
                exact ⟨⟨_, rfl⟩, .inr ⟨_, HPRE.out, hJ6⟩⟩
            · go_simp
              refine hK _ _ ?_
              clear hK K
              try simp only [Act.put, List.setIfInBounds_toArray, List.set_cons_zero, List.set_cons_succ]
              refine wpAnyIn_ready (rs := [9]) (by kernel_rfl) (by simp) ?_
              refine AllReadyIn.cons rfl (fun K hK => ?_) AllReadyIn.nil
              go_simp
              refine ⟨trivial, (callsIn_wide.2 (ahandle_any b s (k : Int) _ hki)).mono ?_⟩
              rintro e w5 ⟨rfl, hb5⟩
              obtain ⟨e1, e2, e3, e4, e5, e6, e7, e8, e9⟩ := tq w5 hb5
              refine hK _ _ ?_
              clear hK K
              try simp only [Act.put, List.setIfInBounds_toArray, List.set_cons_zero, List.set_cons_succ]
              obtain ⟨fn, tmps, assign, body, hy, hR⟩ := hyat w5 hb5
              refine wpAnyIn_ready (rs := [12]) (by kernel_rfl) (by simp) ?_
              refine AllReadyIn.cons rfl (fun K hK => ?_) AllReadyIn.nil
              go_simp
              refine hR.mono ?_
              rintro e W6 (⟨rfl, hJ6, hk6⟩ | ⟨rfl, hJ6⟩)
              · refine hK _ _ ?_
                clear hK K
                try simp only [Act.put, List.setIfInBounds_toArray, List.set_cons_zero, List.set_cons_succ]
                refine wpAnyIn_take (i := 13) (v := ?_) rfl rfl (by kernel_rfl) (by kernel_rfl) (by kernel_rfl) (fun _ _ _ h => h) ⟨Or.inl ⟨by rfl, ?_⟩, fun _ => rfl⟩ ?_
                rotate_left 1
                · (intro w'; go_simp <;> with_reducible rfl)
                try simp only [Act.put, List.setIfInBounds_toArray, List.set_cons_zero, List.set_cons_succ]
                refine wpAnyIn_take (i := 14) (v := ?_) rfl rfl (by kernel_rfl) (by kernel_rfl) (by kernel_rfl) (fun _ _ _ h => h) ⟨Or.inl ⟨by rfl, ?_⟩, fun _ => rfl⟩ ?_
                rotate_left 1
                · (intro w'; go_simp <;> with_reducible rfl)
                try simp only [Act.put, List.setIfInBounds_toArray, List.set_cons_zero, List.set_cons_succ]
                refine wpAnyIn_done (by kernel_rfl) ?_ _
                gi_wp2_with fail
                go_roundw
                case rel => exact ⟨k + 1, pre ++ [y], rest', by go_num, by omega, HREL.out.1, HREL.out.2, hk6 (hk5 w5 hb5), hJ6⟩
                case measure => simp [intOf]; omega
              · refine hK _ _ ?_
                clear hK K
                try simp only [Act.put, List.setIfInBounds_toArray, List.set_cons_zero, List.set_cons_succ]
                refine wpAnyIn_take (i := 13) (v := ?_) rfl rfl (by kernel_rfl) (by kernel_rfl) (by kernel_rfl) (fun _ _ _ h => h) ⟨Or.inl ⟨by rfl, ?_⟩, fun _ => rfl⟩ ?_
                rotate_left 1
                · (intro w'; go_simp <;> with_reducible rfl)
                try simp only [Act.put, List.setIfInBounds_toArray, List.set_cons_zero, List.set_cons_succ]
                refine wpAnyIn_take (i := 14) (v := ?_) rfl rfl (by kernel_rfl) (by kernel_rfl) (by kernel_rfl) (fun _ _ _ h => h) ⟨Or.inl ⟨by rfl, ?_⟩, fun _ => rfl⟩ ?_
                rotate_left 1
                · (intro w'; go_simp <;> with_reducible rfl)
                try simp only [Act.put, List.setIfInBounds_toArray, List.set_cons_zero, List.set_cons_succ]
                refine wpAnyIn_done (by kernel_rfl) ?_ _
                gi_wp2_with fail
                refine bodyPost_ret (results_none rfl _ _ _) rfl ?_
                exact ⟨⟨_, rfl⟩, .inr ⟨_, HPRE.out, hJ6⟩⟩
          · go_simp
            refine hK _ _ ?_
            clear hK K
            try simp only [Act.put, List.setIfInBounds_toArray, List.set_cons_zero, List.set_cons_succ]
            refine wpAnyIn_ready (rs := [7]) (by kernel_rfl) (by simp) ?_
            refine AllReadyIn.cons rfl (fun K hK => ?_) AllReadyIn.nil
            go_simp
            refine hK _ _ ?_
            clear hK K
            try simp only [Act.put, List.setIfInBounds_toArray, List.set_cons_zero, List.set_cons_succ]
            refine wpAnyIn_ready (rs := [9]) (by kernel_rfl) (by simp) ?_
            refine AllReadyIn.cons rfl (fun K hK => ?_) AllReadyIn.nil
            go_simp
            refine ⟨trivial, (callsIn_wide.2 (ahandle_any b s (k : Int) _ hki)).mono ?_⟩
            rintro e w5 ⟨rfl, hb5⟩
            obtain ⟨e1, e2, e3, e4, e5, e6, e7, e8, e9⟩ := tq w5 hb5
            refine hK _ _ ?_
            clear hK K
            try simp only [Act.put, List.setIfInBounds_toArray, List.set_cons_zero, List.set_cons_succ]
            obtain ⟨fn, tmps, assign, body, hy, hR⟩ := hyat w5 hb5
            refine wpAnyIn_ready (rs := [12]) (by kernel_rfl) (by simp) ?_
            refine AllReadyIn.cons rfl (fun K hK => ?_) AllReadyIn.nil
            go_simp
            refine hR.mono ?_
            rintro e W6 (⟨rfl, hJ6, hk6⟩ | ⟨rfl, hJ6⟩)
            · refine hK _ _ ?_
              clear hK K
              try simp only [Act.put, List.setIfInBounds_toArray, List.set_cons_zero, List.set_cons_succ]
              refine wpAnyIn_take (i := 13) (v := ?_) rfl rfl (by kernel_rfl) (by kernel_rfl) (by kernel_rfl) (fun _ _ _ h => h) ⟨Or.inl ⟨by rfl, ?_⟩, fun _ => rfl⟩ ?_
              rotate_left 1
              · (intro w'; go_simp <;> with_reducible rfl)
              try simp only [Act.put, List.setIfInBounds_toArray, List.set_cons_zero, List.set_cons_succ]
              refine wpAnyIn_take (i := 14) (v := ?_) rfl rfl (by kernel_rfl) (by kernel_rfl) (by kernel_rfl) (fun _ _ _ h => h) ⟨Or.inl ⟨by rfl, ?_⟩, fun _ => rfl⟩ ?_
              rotate_left 1
              · (intro w'; go_simp <;> with_reducible rfl)
              try simp only [Act.put, List.setIfInBounds_toArray, List.set_cons_zero, List.set_cons_succ]
              refine wpAnyIn_done (by kernel_rfl) ?_ _
              gi_wp2_with fail
              go_roundw
              case rel => exact ⟨k + 1, pre ++ [y], rest', by go_num, by omega, HREL.out.1, HREL.out.2, hk6 (hk5 w5 hb5), hJ6⟩
              case measure => simp [intOf]; omega
            · refine hK _ _ ?_
              clear hK K
              try simp only [Act.put, List.setIfInBounds_toArray, List.set_cons_zero, List.set_cons_succ]
              refine wpAnyIn_take (i := 13) (v := ?_) rfl rfl (by kernel_rfl) (by kernel_rfl) (by kernel_rfl) (fun _ _ _ h => h) ⟨Or.inl ⟨by rfl, ?_⟩, fun _ => rfl⟩ ?_
              rotate_left 1
              · (intro w'; go_simp <;> with_reducible rfl)
              try simp only [Act.put, List.setIfInBounds_toArray, List.set_cons_zero, List.set_cons_succ]
              refine wpAnyIn_take (i := 14) (v := ?_) rfl rfl (by kernel_rfl) (by kernel_rfl) (by kernel_rfl) (fun _ _ _ h => h) ⟨Or.inl ⟨by rfl, ?_⟩, fun _ => rfl⟩ ?_
              rotate_left 1
              · (intro w'; go_simp <;> with_reducible rfl)
              try simp only [Act.put, List.setIfInBounds_toArray, List.set_cons_zero, List.set_cons_succ]
              refine wpAnyIn_done (by kernel_rfl) ?_ _
              gi_wp2_with fail
              refine bodyPost_ret (results_none rfl _ _ _) rfl ?_
              exact ⟨⟨_, rfl⟩, .inr ⟨_, HPRE.out, hJ6⟩⟩
        · go_simp
          refine hK _ _ ?_
          clear hK K
          try simp only [Act.put, List.setIfInBounds_toArray, List.set_cons_zero, List.set_cons_succ]
          refine wpAnyIn_ready (rs := [4]) (by kernel_rfl) (by simp) ?_
          refine AllReadyIn.cons rfl (fun K hK => ?_) AllReadyIn.nil
          go_simp
          refine hK _ _ ?_
          clear hK K
          try simp only [Act.put, List.setIfInBounds_toArray, List.set_cons_zero, List.set_cons_succ]
          refine wpAnyIn_take (i := 5) (v := ?_) rfl rfl (by kernel_rfl) (by kernel_rfl) (by kernel_rfl) (fun _ _ _ h => h) ⟨Or.inl ⟨by rfl, ?_⟩, fun _ => rfl⟩ ?_
          rotate_left 1
          · (intro w'; go_simp <;> with_reducible rfl)
          try simp only [Act.put, List.setIfInBounds_toArray, List.set_cons_zero, List.set_cons_succ]
          refine wpAnyIn_take (i := 6) (v := ?_) rfl rfl (by kernel_rfl) (by kernel_rfl) (by kernel_rfl) (fun _ _ _ h => h) ⟨Or.inl ⟨by rfl, ?_⟩, fun _ => rfl⟩ ?_
          rotate_left 1
          · (intro w'; go_simp <;> with_reducible rfl)
          try simp only [Act.put, List.setIfInBounds_toArray, List.set_cons_zero, List.set_cons_succ]
          refine wpAnyIn_ready (rs := [7]) (by kernel_rfl) (by simp) ?_
          refine AllReadyIn.cons rfl (fun K hK => ?_) AllReadyIn.nil
          go_simp
          refine hK _ _ ?_
          clear hK K
          try simp only [Act.put, List.setIfInBounds_toArray, List.set_cons_zero, List.set_cons_succ]
          refine wpAnyIn_ready (rs := [9]) (by kernel_rfl) (by simp) ?_
          refine AllReadyIn.cons rfl (fun K hK => ?_) AllReadyIn.nil
          go_simp
          refine ⟨trivial, (callsIn_wide.2 (ahandle_any b s (k : Int) _ hki)).mono ?_⟩
          rintro e w5 ⟨rfl, hb5⟩
          obtain ⟨e1, e2, e3, e4, e5, e6, e7, e8, e9⟩ := tq w5 hb5
          refine hK _ _ ?_
          clear hK K
          try simp only [Act.put, List.setIfInBounds_toArray, List.set_cons_zero, List.set_cons_succ]
          obtain ⟨fn, tmps, assign, body, hy, hR⟩ := hyat w5 hb5
          refine wpAnyIn_ready (rs := [12]) (by kernel_rfl) (by simp) ?_
          refine AllReadyIn.cons rfl (fun K hK => ?_) AllReadyIn.nil
          go_simp
          refine hR.mono ?_
          rintro e W6 (⟨rfl, hJ6, hk6⟩ | ⟨rfl, hJ6⟩)
          · refine hK _ _ ?_
            clear hK K
            try simp only [Act.put, List.setIfInBounds_toArray, List.set_cons_zero, List.set_cons_succ]
            refine wpAnyIn_take (i := 13) (v := ?_) rfl rfl (by kernel_rfl) (by kernel_rfl) (by kernel_rfl) (fun _ _ _ h => h) ⟨Or.inl ⟨by rfl, ?_⟩, fun _ => rfl⟩ ?_
            rotate_left 1
            · (intro w'; go_simp <;> with_reducible rfl)
            try simp only [Act.put, List.setIfInBounds_toArray, List.set_cons_zero, List.set_cons_succ]
            refine wpAnyIn_take (i := 14) (v := ?_) rfl rfl (by kernel_rfl) (by kernel_rfl) (by kernel_rfl) (fun _ _ _ h => h) ⟨Or.inl ⟨by rfl, ?_⟩, fun _ => rfl⟩ ?_
            rotate_left 1
            · (intro w'; go_simp <;> with_reducible rfl)
            try simp only [Act.put, List.setIfInBounds_toArray, List.set_cons_zero, List.set_cons_succ]
            refine wpAnyIn_done (by kernel_rfl) ?_ _
            gi_wp2_with fail
            go_roundw
            case rel => exact ⟨k + 1, pre ++ [y], rest', by go_num, by omega, HREL.out.1, HREL.out.2, hk6 (hk5 w5 hb5), hJ6⟩
            case measure => simp [intOf]; omega
          · refine hK _ _ ?_
            clear hK K
            try simp only [Act.put, List.setIfInBounds_toArray, List.set_cons_zero, List.set_cons_succ]
            refine wpAnyIn_take (i := 13) (v := ?_) rfl rfl (by kernel_rfl) (by kernel_rfl) (by kernel_rfl) (fun _ _ _ h => h) ⟨Or.inl ⟨by rfl, ?_⟩, fun _ => rfl⟩ ?_
            rotate_left 1
            · (intro w'; go_simp <;> with_reducible rfl)
            try simp only [Act.put, List.setIfInBounds_toArray, List.set_cons_zero, List.set_cons_succ]
            refine wpAnyIn_take (i := 14) (v := ?_) rfl rfl (by kernel_rfl) (by kernel_rfl) (by kernel_rfl) (fun _ _ _ h => h) ⟨Or.inl ⟨by rfl, ?_⟩, fun _ => rfl⟩ ?_
            rotate_left 1
            · (intro w'; go_simp <;> with_reducible rfl)
            try simp only [Act.put, List.setIfInBounds_toArray, List.set_cons_zero, List.set_cons_succ]
            refine wpAnyIn_done (by kernel_rfl) ?_ _
            gi_wp2_with fail
            refine bodyPost_ret (results_none rfl _ _ _) rfl ?_
            exact ⟨⟨_, rfl⟩, .inr ⟨_, HPRE.out, hJ6⟩⟩
    · obtain rfl : k = n := by omega
      have hxs := attach_end hat hpm
      gi_wp2_with fail
      go_end0
      exact ⟨⟨_, rfl⟩, .inl ⟨_, hxs, hJs⟩⟩

end Go.Proofs.YtelncgfeojfafaaDoor

/- linkedKids: the children of a node are found, one behind the other. -/
namespace Go.Proofs.YtelncgfeojfafaaDoor
open Go.RowKit Go.Shelf
set_option linter.unusedVariables false
set_option linter.unusedSimpArgs false
attribute [local go_sem] Oper.semAt_some

theorem prefix_split {l : List Int} {pre : List {x : Int // x ∈ l}} {x : {x : Int // x ∈ l}} (h : pre ++ [x] <+: l.attach) : ∃ C : List Int, l = pre.map (·.1) ++ x.1 :: C := by
  obtain ⟨t, ht⟩ := h
  have := congrArg (List.map (·.1)) ht
  rw [List.attach_map_subtype_val, List.map_append, List.map_append, List.append_assoc] at this
  exact ⟨t.map Subtype.val, this.symm⟩
theorem prefix_prv {l : List Int} (hn : l.Nodup) {pre : List {x : Int // x ∈ l}} {x : {x : Int // x ∈ l}} (h : pre ++ [x] <+: l.attach) : Tr.prv l x.1 = Tr.lst (pre.map (·.1)) := by
  obtain ⟨C, hC⟩ := prefix_split h
  obtain ⟨y, hy⟩ : ∃ y, x.1 = y := ⟨_, rfl⟩
  obtain ⟨q, hq⟩ : ∃ q, pre.map (·.1) = q := ⟨_, rfl⟩
  rw [hy, hq] at hC
  rw [hy, hq, hC]
  refine Tr.prv_split ?_
  rw [hC] at hn
  exact (List.nodup_cons.1 (List.nodup_append.1 hn).2.1).1

/-- Four goals that come up again and again, each shown once. -/
theorem memo4 {G : Prop} {X00 X01 X10 X11 : World → Nat → Nat → Prop} {facts : World → Nat → Nat → Prop} (use : (∀ w g o, facts w g o → X00 w g o) → (∀ w g o, facts w g o → X01 w g o) → (∀ w g o, facts w g o → X10 w g o) → (∀ w g o, facts w g o → X11 w g o) → G)
    (k00 : ∀ w g o, facts w g o → X00 w g o) (k01 : ∀ w g o, facts w g o → X01 w g o) (k10 : ∀ w g o, facts w g o → X10 w g o) (k11 : ∀ w g o, facts w g o → X11 w g o) : G := use k00 k01 k10 k11
theorem cell_same {W W' : World} {k : Nat} (h : W'.heap[k]? = W.heap[k]?) (o : Nat) : W'.cell? ⟨k, o, none⟩ = W.cell? ⟨k, o, none⟩ := by
  unfold World.cell?
  simp only [h]
theorem NP.ne {w : World} {g o k : Nat} {d : Tr.Nd} {v : Value} {t : TypeId} (h : NP w g o d) (hx : Whole w k #[v] t) : g ≠ k := fun e => by
  have h1 := (h 1 (by omega)).1
  rw [e, hx.cell (o + 1)] at h1
  cases h1
theorem lkd_boxes (B : Nat) (h : Int) (w : World) :
    let W := (((((w.alloc (.cells #[.pointer (some ⟨B, 0, none⟩)] 23)).alloc (.cells #[.int .i64 h] 3)).alloc (.cells #[.int .i64 0] 3)).alloc (.cells #[.bool false] 4)).alloc (.cells #[.int .i64 0] 3)).alloc (.cells #[.int .i64 0] 3)
    Whole W w.heap.size #[.pointer (some ⟨B, 0, none⟩)] 23 ∧ Whole W (w.heap.size + 1) #[.int .i64 h] 3 ∧ Whole W (w.heap.size + 1 + 1) #[.int .i64 0] 3 ∧ Whole W (w.heap.size + 1 + 1 + 1) #[.bool false] 4 ∧ Whole W (w.heap.size + 1 + 1 + 1 + 1) #[.int .i64 0] 3 ∧ Whole W (w.heap.size + 1 + 1 + 1 + 1 + 1) #[.int .i64 0] 3 := by
  intro W
  have a0 := Whole.new w #[.pointer (some ⟨B, 0, none⟩)] 23
  have a1 := Whole.new (w.alloc (.cells #[.pointer (some ⟨B, 0, none⟩)] 23)) #[.int .i64 h] 3
  have a2 := Whole.new ((w.alloc (.cells #[.pointer (some ⟨B, 0, none⟩)] 23)).alloc (.cells #[.int .i64 h] 3)) #[.int .i64 0] 3
  have a3 := Whole.new (((w.alloc (.cells #[.pointer (some ⟨B, 0, none⟩)] 23)).alloc (.cells #[.int .i64 h] 3)).alloc (.cells #[.int .i64 0] 3)) #[.bool false] 4
  have a4 := Whole.new ((((w.alloc (.cells #[.pointer (some ⟨B, 0, none⟩)] 23)).alloc (.cells #[.int .i64 h] 3)).alloc (.cells #[.int .i64 0] 3)).alloc (.cells #[.bool false] 4)) #[.int .i64 0] 3
  have a5 := Whole.new (((((w.alloc (.cells #[.pointer (some ⟨B, 0, none⟩)] 23)).alloc (.cells #[.int .i64 h] 3)).alloc (.cells #[.int .i64 0] 3)).alloc (.cells #[.bool false] 4)).alloc (.cells #[.int .i64 0] 3)) #[.int .i64 0] 3
  simp only [World.size_alloc] at a1 a2 a3 a4 a5
  exact ⟨((((a0.alloc _).alloc _).alloc _).alloc _).alloc _, (((a1.alloc _).alloc _).alloc _).alloc _, ((a2.alloc _).alloc _).alloc _, (a3.alloc _).alloc _, a4.alloc _, a5⟩

set_option maxRecDepth 100000 in
set_option maxHeartbeats 4000000 in
theorem lkids_any (base B : Nat) (b s root h : Int) (live n : Nat) (g : Tr.G) (av : Int → Tr.Sl) (fr : List Nat) (vs vf : Value) (w : World) (hm : TV base w B b s vs n (Tr.raw g av) vf fr live root) (hS : Sound b s n (Tr.raw g av) fr live) (hw : Tr.WF 0 g) (hp : I64 h) (hlen : (Tr.kidsOf g h).length ≤ 1000000) (hin : (g h).isSome) :
    Calls Tryd.prog 45 #[.pointer (some ⟨B, 0, none⟩), .int .i64 h] w fun e w' => e = .returned (.tuple #[.int .i64 ((Tr.kidsOf g h).length : Nat), .bool true]) ∧ Below w.heap.size w w' := by
  have hlt := hm.lt
  refine (callsIn_wide (n := 8)).1 ?_
  refine callsIn_of_wp_marks Tryd.func45 rfl trivial ?_ rfl
  simp only [Tryd.ntmps45, List.size_toArray, List.length_cons, List.length_nil, Nat.reduceAdd, Nat.reduceSub, Array.replicate_succ, Array.replicate_zero, List.push_toArray, List.append_toArray, List.nil_append, List.cons_append]
  obtain ⟨w1, hw1⟩ : ∃ w1, (((((w.alloc (.cells #[.pointer (some ⟨B, 0, none⟩)] 23)).alloc (.cells #[.int .i64 h] 3)).alloc (.cells #[.int .i64 0] 3)).alloc (.cells #[.bool false] 4)).alloc (.cells #[.int .i64 0] 3)).alloc (.cells #[.int .i64 0] 3) = w1 := ⟨_, rfl⟩
  have hz1 : w1.heap.size = w.heap.size + 6 := by rw [← hw1]; simp
  have hb1 : Below w.heap.size w w1 := by
    rw [← hw1]
    exact ((((((Below.refl _ w).alloc (Nat.le_refl _) _).alloc (by simp) _).alloc (by simp; omega) _).alloc (by simp; omega) _).alloc (by simp; omega) _).alloc (by simp; omega) _
  have hwh := lkd_boxes B h w
  rw [hw1] at hwh
  obtain ⟨hT1, hH1, hX1, hY1, hC1, hP1⟩ := hwh
  have z4 := hC1.free 0
  have c4 : w1.cell? ⟨w.heap.size + 1 + 1 + 1 + 1, 0, none⟩ = some (.int .i64 0) := hC1.cell 0
  have z5 := hP1.free 0
  have c5 : w1.cell? ⟨w.heap.size + 1 + 1 + 1 + 1 + 1, 0, none⟩ = some (.int .i64 0) := hP1.cell 0
  have t0 : w1.cell? ⟨w.heap.size, 0, none⟩ = some (.pointer (some ⟨B, 0, none⟩)) := hT1.cell 0
  have t1 : w1.cell? ⟨w.heap.size + 1, 0, none⟩ = some (.int .i64 h) := hH1.cell 0
  gi_wp2_with fail
  obtain ⟨wa, hwa⟩ : ∃ wa, (w1.setCell ⟨w.heap.size + 1 + 1 + 1 + 1, 0, none⟩ (.int .i64 0)).setCell ⟨w.heap.size + 1 + 1 + 1 + 1 + 1, 0, none⟩ (.int .i64 0) = wa := ⟨_, rfl⟩
  try rw [hwa]
  have hTa : Whole wa w.heap.size #[.pointer (some ⟨B, 0, none⟩)] 23 := by rw [← hwa]; exact (hT1.other (a := ⟨w.heap.size + 1 + 1 + 1 + 1, 0, none⟩) (by show w.heap.size ≠ w.heap.size + 1 + 1 + 1 + 1; omega) _).other (a := ⟨w.heap.size + 1 + 1 + 1 + 1 + 1, 0, none⟩) (by show w.heap.size ≠ w.heap.size + 1 + 1 + 1 + 1 + 1; omega) _
  have hHa : Whole wa (w.heap.size + 1) #[.int .i64 h] 3 := by rw [← hwa]; exact (hH1.other (a := ⟨w.heap.size + 1 + 1 + 1 + 1, 0, none⟩) (by show w.heap.size + 1 ≠ w.heap.size + 1 + 1 + 1 + 1; omega) _).other (a := ⟨w.heap.size + 1 + 1 + 1 + 1 + 1, 0, none⟩) (by show w.heap.size + 1 ≠ w.heap.size + 1 + 1 + 1 + 1 + 1; omega) _
  have hXa : Whole wa (w.heap.size + 1 + 1) #[.int .i64 0] 3 := by rw [← hwa]; exact (hX1.other (a := ⟨w.heap.size + 1 + 1 + 1 + 1, 0, none⟩) (by show w.heap.size + 1 + 1 ≠ w.heap.size + 1 + 1 + 1 + 1; omega) _).other (a := ⟨w.heap.size + 1 + 1 + 1 + 1 + 1, 0, none⟩) (by show w.heap.size + 1 + 1 ≠ w.heap.size + 1 + 1 + 1 + 1 + 1; omega) _
  have hYa : Whole wa (w.heap.size + 1 + 1 + 1) #[.bool false] 4 := by rw [← hwa]; exact (hY1.other (a := ⟨w.heap.size + 1 + 1 + 1 + 1, 0, none⟩) (by show w.heap.size + 1 + 1 + 1 ≠ w.heap.size + 1 + 1 + 1 + 1; omega) _).other (a := ⟨w.heap.size + 1 + 1 + 1 + 1 + 1, 0, none⟩) (by show w.heap.size + 1 + 1 + 1 ≠ w.heap.size + 1 + 1 + 1 + 1 + 1; omega) _
  have hCa : Whole wa (w.heap.size + 1 + 1 + 1 + 1) #[.int .i64 0] 3 := by rw [← hwa]; exact (hC1.put 0 (.int .i64 0)).other (a := ⟨w.heap.size + 1 + 1 + 1 + 1 + 1, 0, none⟩) (by show w.heap.size + 1 + 1 + 1 + 1 ≠ w.heap.size + 1 + 1 + 1 + 1 + 1; omega) _
  have hPa : Whole wa (w.heap.size + 1 + 1 + 1 + 1 + 1) #[.int .i64 0] 3 := by rw [← hwa]; exact (hP1.other (a := ⟨w.heap.size + 1 + 1 + 1 + 1, 0, none⟩) (by show w.heap.size + 1 + 1 + 1 + 1 + 1 ≠ w.heap.size + 1 + 1 + 1 + 1; omega) _).put 0 (.int .i64 0)
  have hba : Below w.heap.size w wa := by rw [← hwa]; exact (hb1.setCell (p := ⟨w.heap.size + 1 + 1 + 1 + 1, 0, none⟩) (by show _ ≤ w.heap.size + 1 + 1 + 1 + 1; omega) _).setCell (p := ⟨w.heap.size + 1 + 1 + 1 + 1 + 1, 0, none⟩) (by show _ ≤ w.heap.size + 1 + 1 + 1 + 1 + 1; omega) _
  have hza : wa.heap.size = w.heap.size + 6 := by rw [← hwa]; simp; omega
  clear hwa hw1 hz1 hb1 hT1 hH1 hX1 hY1 hC1 hP1 z4 c4 z5 c5 t0 t1
  have hL := LS.made (h := h) (hm.below hba)
  have hsz2 : ((wa.alloc (.cells #[.pointer (some ⟨B, 0, none⟩)] 23)).alloc (.cells #[.int .i64 h] 3)).heap.size = wa.heap.size + 2 := by simp
  have hb2 : Below wa.heap.size wa ((wa.alloc (.cells #[.pointer (some ⟨B, 0, none⟩)] 23)).alloc (.cells #[.int .i64 h] 3)) := ((Below.refl _ wa).alloc (Nat.le_refl _) _).alloc (by simp) _
  have hseq := kids_seq hS hw hp 7 (by omega) _ hL
  refine ⟨trivial, (callsIn_wide.2 (kids_make B h wa)).mono ?_⟩
  rintro e w' ⟨rfl, hw'⟩
  rw [← hw'] at hL hsz2 hb2 hseq
  have hT2 := hTa.below hb2 hTa.lt
  have hH2 := hHa.below hb2 hHa.lt
  have hX2 := hXa.below hb2 hXa.lt
  have hY2 := hYa.below hb2 hYa.lt
  have hC2 := hCa.below hb2 hCa.lt
  have hP2 := hPa.below hb2 hPa.lt
  have hB2 := hba.trans (hb2.mono hba.size)
  have HSS := Lib.hid hS
  have HM := Lib.hid (hm.below hba)
  clear hm hS hw' hb2 hTa hHa hXa hYa hCa hPa
  gi_wp2_with fail
  rw [hza] at hseq hL hsz2
  have hm4 : ¬ Foot B vs vf (w.heap.size + 1 + 1 + 1 + 1) := fun hk => by have := (hlt _ hk).2; omega
  have hm5 : ¬ Foot B vs vf (w.heap.size + 1 + 1 + 1 + 1 + 1) := fun hk => by have := (hlt _ hk).2; omega
  refine wpIn_rangeFunc_ownF (w := w') rfl (by decide) (gf := 56) (lb := #[.pointer (some ⟨w.heap.size + 1 + 1 + 1 + 1 + 1 + 1, 0, none⟩), .pointer (some ⟨w.heap.size + 1 + 1 + 1 + 1 + 1 + 1 + 1, 0, none⟩)]) rfl trivial (enters_of Tryd.func56 (by kernel_rfl) rfl) hseq LS.keepT (LS.keepB _) (Below.refl _ _) (fun _ => rfl)
    (fun pre W => Whole W w.heap.size #[.pointer (some ⟨B, 0, none⟩)] 23 ∧ Whole W (w.heap.size + 1) #[.int .i64 h] 3 ∧ Whole W (w.heap.size + 1 + 1) #[.int .i64 0] 3 ∧ Whole W (w.heap.size + 1 + 1 + 1) #[.bool false] 4 ∧ Whole W (w.heap.size + 1 + 1 + 1 + 1) #[.int .i64 (pre.length : Nat)] 3 ∧ Whole W (w.heap.size + 1 + 1 + 1 + 1 + 1) #[.int .i64 (Tr.lst (pre.map (·.1)))] 3 ∧ LS base B (w.heap.size + 1 + 1 + 1 + 1 + 1 + 1) (w.heap.size + 1 + 1 + 1 + 1 + 1 + 1 + 1) b s h vs n (Tr.raw g av) vf fr live root W ∧ Below w.heap.size w W)
    (fun c pre W => c = .ret ∧ ¬ pre <+: (Tr.kidsOf g h).attach)
    ?hI ?hIx ⟨hT2, hH2, hX2, hY2, hC2, hP2, hL, hB2⟩ (fun x => { tmps := #[.pointer (some ⟨B, 0, none⟩), .int .i64 h, .pointer (some ⟨w.heap.size, 0, none⟩), .pointer (some ⟨w.heap.size + 1, 0, none⟩), .pointer (some ⟨w.heap.size + 1 + 1, 0, none⟩), .pointer (some ⟨w.heap.size + 1 + 1 + 1, 0, none⟩), .pointer (some ⟨w.heap.size + 1 + 1 + 1 + 1, 0, none⟩), .pointer (some ⟨w.heap.size + 1 + 1 + 1 + 1 + 1, 0, none⟩), .int .i64 x.1, undef, .pointer (some ⟨B, 0, none⟩), .int .i64 h, .func (.func 56) #[] #[.pointer (some ⟨w.heap.size + 1 + 1 + 1 + 1 + 1 + 1, 0, none⟩), .pointer (some ⟨w.heap.size + 1 + 1 + 1 + 1 + 1 + 1 + 1, 0, none⟩)], .int .i64 x.1, undef, undef, undef, undef, undef, undef, undef, undef, undef, undef, undef, undef, undef, undef, undef, undef, undef, undef, undef, undef, undef, undef, undef, undef, undef, undef, undef, undef, undef], defers := [] }) ?assign ?body ?done ?stop
  case hI =>
    rintro pre W W' row ⟨hT, hH, hX, hY, hC, hP, h2, h3⟩ hg hr
    exact ⟨whole_others hT hg (fun r e => (hr r e).2), whole_others hH hg (fun r e => (hr r e).2), whole_others hX hg (fun r e => (hr r e).2), whole_others hY hg (fun r e => (hr r e).2), whole_others hC hg (fun r e => (hr r e).2), whole_others hP hg (fun r e => (hr r e).2), h2.others hg (fun r e => (hr r e).2), h3.grown hg h3.size (fun r e => by have := (hr r e).1; omega)⟩
  case hIx =>
    rintro c pre W W' row h hg hr
    exact h
  case assign =>
    intro l x W K hK
    gi_wp2
    first | exact hK | simpa using hK
  case body =>
    rintro l pre x W ⟨hT, hH, hX, hY, hC, hP, hLW, hBW⟩ hlen2
    have t0 : W.cell? ⟨w.heap.size, 0, none⟩ = some (.pointer (some ⟨B, 0, none⟩)) := hT.cell 0
    obtain ⟨mx, ex, hmpa⟩ := hw.kidsOf_mem x.2
    have hxi := (tmem_i64 HSS.out (h := x.1) (by rw [raw_isSome, ex]; rfl)).1
    have hpl : pre.length ≤ 1000000 := by omega
    have HAT := Lib.hid (at_any base B b s root x.1 live n (Tr.raw g av) fr vs vf W hLW.tree HSS.out hxi)
    have HST := Lib.hid (And.intro hT (And.intro hH (And.intro hX (And.intro hY (And.intro hC (And.intro hP (And.intro hLW hBW)))))))
    have HPRE := Lib.hid (fun q : pre ++ [x] <+: (Tr.kidsOf g h).attach => prefix_prv (hw.kidsOf_nodup h) q)
    clear hT hH hX hY hC hP hLW hBW
    gi_wp2_with fail
    refine ⟨trivial, (CallsIn.inRound l (callsIn_wide.2 HAT.out)).mono ?_⟩
    rintro e w4 ⟨g4, o4, rfl, hnp, hb4⟩
    rw [Tr.raw_some ex] at hnp
    obtain ⟨_, _, _, _, k4, _, _, k7, _⟩ := hnp.cells
    have k4' : w4.cell? ⟨g4, o4 + 4, none⟩ = some (.int .i64 h) := k4.trans (congrArg (fun z => some (Value.int .i64 z)) hmpa)
    have k7' : w4.cell? ⟨g4, o4 + 7, none⟩ = some (.int .i64 (Tr.prv (Tr.kidsOf g h) x.1)) := k7.trans (congrArg (fun z => some (Value.int .i64 (Tr.prv (Tr.kidsOf g z) x.1))) hmpa)
    obtain ⟨hT, hH, hX, hY, hC, hP, hLW, hBW⟩ := HST.out
    have hTq := hT.below hb4 hT.lt
    have hHq := hH.below hb4 hH.lt
    have hXq := hX.below hb4 hX.lt
    have hYq := hY.below hb4 hY.lt
    have hCq := hC.below hb4 hC.lt
    have hPq := hP.below hb4 hP.lt
    have q1 : w4.cell? ⟨w.heap.size + 1, 0, none⟩ = some (.int .i64 h) := hHq.cell 0
    have q2 : w4.cell? ⟨w.heap.size + 1 + 1, 0, none⟩ = some (.int .i64 0) := hXq.cell 0
    have q3 : w4.cell? ⟨w.heap.size + 1 + 1 + 1, 0, none⟩ = some (.bool false) := hYq.cell 0
    have q4 : w4.cell? ⟨w.heap.size + 1 + 1 + 1 + 1, 0, none⟩ = some (.int .i64 (pre.length : Nat)) := hCq.cell 0
    have q5 : w4.cell? ⟨w.heap.size + 1 + 1 + 1 + 1 + 1, 0, none⟩ = some (.int .i64 (Tr.lst (pre.map (·.1)))) := hPq.cell 0
    have f2 := hXq.free 0
    have f3 := hYq.free 0
    have f4 := hCq.free 0
    have f5 := hPq.free 0
    have hb4d := Below.drew hb4
    have hT4 := hT.below hb4d hT.lt
    have hH4 := hH.below hb4d hH.lt
    have hX4 := hX.below hb4d hX.lt
    have hY4 := hY.below hb4d hY.lt
    have hC4 := hC.below hb4d hC.lt
    have hP4 := hP.below hb4d hP.lt
    have hL4 := hLW.below hb4d
    have hB4 := hBW.trans (hb4d.mono hBW.size)
    have hko := ko_below hb4d
    clear hTq hHq hXq hYq hCq hPq hb4 hb4d
    have hhh : (h != h) = false := by simp
    obtain ⟨PV, hPV⟩ : ∃ PV, Tr.prv (Tr.kidsOf g h) x.1 = PV := ⟨_, rfl⟩
    obtain ⟨LP, hLP⟩ : ∃ LP, Tr.lst (pre.map (·.1)) = LP := ⟨_, rfl⟩
    have hPR := HPRE.out
    rw [hPV] at k7' hPR
    rw [hLP] at q5 hPR
    by_cases hpp : PV = LP
    · have hq : (PV != LP) = false := by simpa using hpp
      have hC' := hC4.put 0 (.int .i64 ((pre.length : Int) + 1))
      have hP' := hP4.put 0 (.int .i64 x.1)
      have hL' := (hL4.set hm4 (by omega) (by omega) 0 (.int .i64 ((pre.length : Int) + 1))).set hm5 (by omega) (by omega) 0 (.int .i64 x.1)
      have hB' := (hB4.setCell (p := ⟨w.heap.size + 1 + 1 + 1 + 1, 0, none⟩) (by show _ ≤ w.heap.size + 1 + 1 + 1 + 1; omega) (.int .i64 ((pre.length : Int) + 1))).setCell (p := ⟨w.heap.size + 1 + 1 + 1 + 1 + 1, 0, none⟩) (by show _ ≤ w.heap.size + 1 + 1 + 1 + 1 + 1; omega) (.int .i64 x.1)
      have HF := Lib.hid (And.intro ((hT4.other (a := ⟨w.heap.size + 1 + 1 + 1 + 1, 0, none⟩) (by show w.heap.size ≠ w.heap.size + 1 + 1 + 1 + 1; omega) (.int .i64 ((pre.length : Int) + 1))).other (a := ⟨w.heap.size + 1 + 1 + 1 + 1 + 1, 0, none⟩) (by show w.heap.size ≠ w.heap.size + 1 + 1 + 1 + 1 + 1; omega) (.int .i64 x.1)) (And.intro ((hH4.other (a := ⟨w.heap.size + 1 + 1 + 1 + 1, 0, none⟩) (by show w.heap.size + 1 ≠ w.heap.size + 1 + 1 + 1 + 1; omega) (.int .i64 ((pre.length : Int) + 1))).other (a := ⟨w.heap.size + 1 + 1 + 1 + 1 + 1, 0, none⟩) (by show w.heap.size + 1 ≠ w.heap.size + 1 + 1 + 1 + 1 + 1; omega) (.int .i64 x.1)) (And.intro ((hX4.other (a := ⟨w.heap.size + 1 + 1 + 1 + 1, 0, none⟩) (by show w.heap.size + 1 + 1 ≠ w.heap.size + 1 + 1 + 1 + 1; omega) (.int .i64 ((pre.length : Int) + 1))).other (a := ⟨w.heap.size + 1 + 1 + 1 + 1 + 1, 0, none⟩) (by show w.heap.size + 1 + 1 ≠ w.heap.size + 1 + 1 + 1 + 1 + 1; omega) (.int .i64 x.1)) (And.intro ((hY4.other (a := ⟨w.heap.size + 1 + 1 + 1 + 1, 0, none⟩) (by show w.heap.size + 1 + 1 + 1 ≠ w.heap.size + 1 + 1 + 1 + 1; omega) (.int .i64 ((pre.length : Int) + 1))).other (a := ⟨w.heap.size + 1 + 1 + 1 + 1 + 1, 0, none⟩) (by show w.heap.size + 1 + 1 + 1 ≠ w.heap.size + 1 + 1 + 1 + 1 + 1; omega) (.int .i64 x.1)) (And.intro (hC'.other (a := ⟨w.heap.size + 1 + 1 + 1 + 1 + 1, 0, none⟩) (by show w.heap.size + 1 + 1 + 1 + 1 ≠ w.heap.size + 1 + 1 + 1 + 1 + 1; omega) (.int .i64 x.1)) (And.intro ((hP4.other (a := ⟨w.heap.size + 1 + 1 + 1 + 1, 0, none⟩) (by show w.heap.size + 1 + 1 + 1 + 1 + 1 ≠ w.heap.size + 1 + 1 + 1 + 1; omega) (.int .i64 ((pre.length : Int) + 1))).put 0 (.int .i64 x.1)) (And.intro hL' hB')))))))
      clear hT hH hX hY hC hP hLW hBW hT4 hH4 hX4 hY4 hC4 hP4 hL4 hB4 hC' hP' hL' hB' hnp k4 k7 hPR hpp
      gi_wp2_with fail
      gi_cut [30] from 17 (fun u wc => u = .bool false ∧ wc = w4.drew)
      case first =>
        rename_i J0 K0 hJ0 hK0
        gi_region
        all_goals exact hK0 _ _ (Met.intro (hJ0 _ _ ⟨_, _, _, _, _, _, _, _, _, _, _, _, _, _, _, _, _, _, _, _, _, _, _, _, _, _, ⟨rfl, rfl⟩, rfl⟩))
      case rest =>
        obtain ⟨rfl, rfl⟩ := hcut
        gi_wp2_with fail
        refine ⟨(hko.trans (KeepsOthers.setCell _ _ _)).trans (KeepsOthers.setCell _ _ _), fun _ => HF.out.2.2.2.2.2.2.1, ?_⟩
        show _ ∧ _
        rw [List.length_append, List.map_append, List.map_cons, List.map_nil, Tr.lst_snoc]
        exact HF.out
    · have hq : (PV != LP) = true := by simpa using hpp
      have hno : ¬ pre ++ [x] <+: (Tr.kidsOf g h).attach := fun q => hpp (hPR q)
      clear hT hH hX hY hC hP hLW hBW hT4 hH4 hX4 hY4 hC4 hP4 hL4 hB4 hnp k4 k7 hPR hpp
      gi_wp2_with fail
      gi_cut [30] from 17 (fun u wc => u = .bool true ∧ wc = w4.drew)
      case first =>
        rename_i J0 K0 hJ0 hK0
        gi_region
        all_goals exact hK0 _ _ (Met.intro (hJ0 _ _ ⟨_, _, _, _, _, _, _, _, _, _, _, _, _, _, _, _, _, _, _, _, _, _, _, _, _, _, ⟨rfl, rfl⟩, rfl⟩))
      case rest =>
        obtain ⟨rfl, rfl⟩ := hcut
        gi_wp2_with fail
        exact ⟨(hko.trans (KeepsOthers.setCell _ _ _)).trans (KeepsOthers.setCell _ _ _), rfl, hno⟩
  case done =>
    rintro D xs W hD rfl ⟨hT, hH, hX, hY, hC, hP, hLW, hBW⟩ hK
    rw [List.length_attach] at hC
    rw [List.attach_map_subtype_val] at hP
    obtain ⟨mh, eh⟩ := Option.isSome_iff_exists.1 hin
    have ekl : Tr.kidsOf g h = mh.kids := Tr.kidsOf_some eh
    have HAT : ∀ V, Below W.heap.size W V → Calls Tryd.prog 19 #[.pointer (some ⟨B, 0, none⟩), .int .i64 h] V fun e w' => ∃ g4 o4, e = .returned (.pointer (some ⟨g4, o4, none⟩)) ∧ w'.cell? ⟨g4, o4 + 6, none⟩ = some (.int .i64 (Tr.lst (Tr.kidsOf g h))) ∧ g4 ≠ w.heap.size + 1 + 1 ∧ Below V.heap.size V w' := fun V hV => by
      have hXV := hX.below hV hX.lt
      refine (at_any base B b s root h live n (Tr.raw g av) fr vs vf V (hLW.tree.below hV) HSS.out hp).mono ?_
      rintro e w4 ⟨g4, o4, rfl, hnp, hb4⟩
      rw [Tr.raw_some eh] at hnp
      obtain ⟨_, _, _, _, _, _, k6, _, _⟩ := hnp.cells
      exact ⟨g4, o4, rfl, k6.trans (congrArg (fun z => some (Value.int .i64 (Tr.lst z))) ekl.symm), hnp.ne (hXV.below hb4 hXV.lt), hb4⟩
    obtain ⟨KN, hKN⟩ : ∃ KN, (Tr.kidsOf g h).length = KN := ⟨_, rfl⟩
    obtain ⟨KL, hKL⟩ : ∃ KL, Tr.lst (Tr.kidsOf g h) = KL := ⟨_, rfl⟩
    rw [hKN] at hC hlen
    rw [hKL] at hP HAT
    have t0 : W.cell? ⟨w.heap.size, 0, none⟩ = some (.pointer (some ⟨B, 0, none⟩)) := hT.cell 0
    have q1 : W.cell? ⟨w.heap.size + 1, 0, none⟩ = some (.int .i64 h) := hH.cell 0
    have q4 : W.cell? ⟨w.heap.size + 1 + 1 + 1 + 1, 0, none⟩ = some (.int .i64 (KN : Nat)) := hC.cell 0
    have q5 : W.cell? ⟨w.heap.size + 1 + 1 + 1 + 1 + 1, 0, none⟩ = some (.int .i64 KL) := hP.cell 0
    have HST := Lib.hid (And.intro hX (And.intro hY (And.intro hC (And.intro hP hBW))))
    have hfx : ∀ V, Below W.drew.heap.size W.drew V → V.cell? ⟨w.heap.size + 1 + 1, 0, none⟩ = some (.int .i64 0) ∧ V.cell? ⟨w.heap.size + 1 + 1 + 1, 0, none⟩ = some (.bool false) ∧ V.cell? ⟨w.heap.size + 1 + 1 + 1 + 1, 0, none⟩ = some (.int .i64 (KN : Nat)) ∧ V.cell? ⟨w.heap.size + 1 + 1 + 1 + 1 + 1, 0, none⟩ = some (.int .i64 KL) ∧ V.frozen? ⟨w.heap.size + 1 + 1, 0, none⟩ = false ∧ V.frozen? ⟨w.heap.size + 1 + 1 + 1, 0, none⟩ = false := fun V hV => by
      have hV2 : Below W.heap.size W V := (Below.drew (Below.refl _ W)).trans hV
      obtain ⟨hX, hY, hC, hP, _⟩ := HST.out
      exact ⟨(hX.below hV2 hX.lt).cell 0, (hY.below hV2 hY.lt).cell 0, (hC.below hV2 hC.lt).cell 0, (hP.below hV2 hP.lt).cell 0, (hX.below hV2 hX.lt).free 0, (hY.below hV2 hY.lt).free 0⟩
    have HFX := Lib.hid hfx
    have HA := Lib.hid (HAT _ (Below.drew (Below.refl _ W)))
    clear hfx HAT hT hH hX hY hC hP hLW hBW ekl eh
    gi_wp2_with fail
    gi_cut [] from 34 (fun wc => ∃ w4, Below W.drew.heap.size W.drew w4 ∧ (w4.setCell ⟨w.heap.size + 1 + 1, 0, none⟩ (.int .i64 (KN : Nat))).setCell ⟨w.heap.size + 1 + 1 + 1, 0, none⟩ (.bool true) = wc)
    case first =>
      rename_i J0 K0 hJ0 hK0
      refine wpIn_mono (Q := NoPanic _) ?_ NoPanic.imp
      refine wpIn_region_any (by kernel_rfl) ?_
      try (change wpAnyIn _ _ _ _ _ _ _ _ _ (World.drew _))
      apply memo4 (facts := fun w4 g4 o4 => Below W.drew.heap.size W.drew w4 ∧ w4.cell? ⟨g4, o4 + 6, none⟩ = some (.int .i64 KL) ∧ g4 ≠ w.heap.size + 1 + 1)
      case use =>
        intro KEY00 KEY01 KEY10 KEY11
        refine wpAnyIn_ready (rs := [0, 1, 2, 7]) (by kernel_rfl) (by simp) ?_
        refine AllReadyIn.cons rfl (fun K hK => ?_) (AllReadyIn.cons rfl (fun K hK => ?_) (AllReadyIn.cons rfl (fun K hK => ?_) (AllReadyIn.cons rfl (fun K hK => ?_) AllReadyIn.nil)))
        · go_simp
          refine hK _ _ ?_
          clear hK K
          try simp only [Act.put, List.setIfInBounds_toArray, List.set_cons_zero, List.set_cons_succ]
          refine wpAnyIn_ready (rs := [1, 2, 7]) (by kernel_rfl) (by simp) ?_
          refine AllReadyIn.cons rfl (fun K hK => ?_) (AllReadyIn.cons rfl (fun K hK => ?_) (AllReadyIn.cons rfl (fun K hK => ?_) AllReadyIn.nil))
          · go_simp
            refine hK _ _ ?_
            clear hK K
            try simp only [Act.put, List.setIfInBounds_toArray, List.set_cons_zero, List.set_cons_succ]
            refine wpAnyIn_ready (rs := [2, 7]) (by kernel_rfl) (by simp) ?_
            refine AllReadyIn.cons rfl (fun K hK => ?_) (AllReadyIn.cons rfl (fun K hK => ?_) AllReadyIn.nil)
            · go_simp
              refine hK _ _ ?_
              clear hK K
              try simp only [Act.put, List.setIfInBounds_toArray, List.set_cons_zero, List.set_cons_succ]
              refine wpAnyIn_ready (rs := [3, 7]) (by kernel_rfl) (by simp) ?_
              refine AllReadyIn.cons rfl (fun K hK => ?_) (AllReadyIn.cons rfl (fun K hK => ?_) AllReadyIn.nil)
              · go_simp
                refine ⟨trivial, ?_⟩
                refine (callsIn_wide.2 HA.out).mono ?_
                rintro e w4 ⟨g4, o4, rfl, k6, hg4, hb4⟩
                refine hK _ _ ?_
                clear hK K
                try simp only [Act.put, List.setIfInBounds_toArray, List.set_cons_zero, List.set_cons_succ]
                exact KEY10 w4 g4 o4 ⟨hb4, k6, hg4⟩
              · go_simp
                refine hK _ _ ?_
                clear hK K
                try simp only [Act.put, List.setIfInBounds_toArray, List.set_cons_zero, List.set_cons_succ]
                refine wpAnyIn_ready (rs := [3]) (by kernel_rfl) (by simp) ?_
                refine AllReadyIn.cons rfl (fun K hK => ?_) AllReadyIn.nil
                go_simp
                refine ⟨trivial, ?_⟩
                refine (callsIn_wide.2 HA.out).mono ?_
                rintro e w4 ⟨g4, o4, rfl, k6, hg4, hb4⟩
                refine hK _ _ ?_
                clear hK K
                try simp only [Act.put, List.setIfInBounds_toArray, List.set_cons_zero, List.set_cons_succ]
                exact KEY11 w4 g4 o4 ⟨hb4, k6, hg4⟩
            · go_simp
              refine hK _ _ ?_
              clear hK K
              try simp only [Act.put, List.setIfInBounds_toArray, List.set_cons_zero, List.set_cons_succ]
              refine wpAnyIn_ready (rs := [2]) (by kernel_rfl) (by simp) ?_
              refine AllReadyIn.cons rfl (fun K hK => ?_) AllReadyIn.nil
              go_simp
              refine hK _ _ ?_
              clear hK K
              try simp only [Act.put, List.setIfInBounds_toArray, List.set_cons_zero, List.set_cons_succ]
              refine wpAnyIn_ready (rs := [3]) (by kernel_rfl) (by simp) ?_
              refine AllReadyIn.cons rfl (fun K hK => ?_) AllReadyIn.nil
              go_simp
              refine ⟨trivial, ?_⟩
              refine (callsIn_wide.2 HA.out).mono ?_
              rintro e w4 ⟨g4, o4, rfl, k6, hg4, hb4⟩
              refine hK _ _ ?_
              clear hK K
              try simp only [Act.put, List.setIfInBounds_toArray, List.set_cons_zero, List.set_cons_succ]
              exact KEY11 w4 g4 o4 ⟨hb4, k6, hg4⟩
          · go_simp
            refine hK _ _ ?_
            clear hK K
            try simp only [Act.put, List.setIfInBounds_toArray, List.set_cons_zero, List.set_cons_succ]
            refine wpAnyIn_ready (rs := [1, 7]) (by kernel_rfl) (by simp) ?_
            refine AllReadyIn.cons rfl (fun K hK => ?_) (AllReadyIn.cons rfl (fun K hK => ?_) AllReadyIn.nil)
            · go_simp
              refine hK _ _ ?_
              clear hK K
              try simp only [Act.put, List.setIfInBounds_toArray, List.set_cons_zero, List.set_cons_succ]
              refine wpAnyIn_ready (rs := [3, 7]) (by kernel_rfl) (by simp) ?_
              refine AllReadyIn.cons rfl (fun K hK => ?_) (AllReadyIn.cons rfl (fun K hK => ?_) AllReadyIn.nil)
              · go_simp
                refine ⟨trivial, ?_⟩
                refine (callsIn_wide.2 HA.out).mono ?_
                rintro e w4 ⟨g4, o4, rfl, k6, hg4, hb4⟩
                refine hK _ _ ?_
                clear hK K
                try simp only [Act.put, List.setIfInBounds_toArray, List.set_cons_zero, List.set_cons_succ]
                exact KEY10 w4 g4 o4 ⟨hb4, k6, hg4⟩
              · go_simp
                refine hK _ _ ?_
                clear hK K
                try simp only [Act.put, List.setIfInBounds_toArray, List.set_cons_zero, List.set_cons_succ]
                refine wpAnyIn_ready (rs := [3]) (by kernel_rfl) (by simp) ?_
                refine AllReadyIn.cons rfl (fun K hK => ?_) AllReadyIn.nil
                go_simp
                refine ⟨trivial, ?_⟩
                refine (callsIn_wide.2 HA.out).mono ?_
                rintro e w4 ⟨g4, o4, rfl, k6, hg4, hb4⟩
                refine hK _ _ ?_
                clear hK K
                try simp only [Act.put, List.setIfInBounds_toArray, List.set_cons_zero, List.set_cons_succ]
                exact KEY11 w4 g4 o4 ⟨hb4, k6, hg4⟩
            · go_simp
              refine hK _ _ ?_
              clear hK K
              try simp only [Act.put, List.setIfInBounds_toArray, List.set_cons_zero, List.set_cons_succ]
              refine wpAnyIn_ready (rs := [1]) (by kernel_rfl) (by simp) ?_
              refine AllReadyIn.cons rfl (fun K hK => ?_) AllReadyIn.nil
              go_simp
              refine hK _ _ ?_
              clear hK K
              try simp only [Act.put, List.setIfInBounds_toArray, List.set_cons_zero, List.set_cons_succ]
              refine wpAnyIn_ready (rs := [3]) (by kernel_rfl) (by simp) ?_
              refine AllReadyIn.cons rfl (fun K hK => ?_) AllReadyIn.nil
              go_simp
              refine ⟨trivial, ?_⟩
              refine (callsIn_wide.2 HA.out).mono ?_
              rintro e w4 ⟨g4, o4, rfl, k6, hg4, hb4⟩
              refine hK _ _ ?_
              clear hK K
              try simp only [Act.put, List.setIfInBounds_toArray, List.set_cons_zero, List.set_cons_succ]
              exact KEY11 w4 g4 o4 ⟨hb4, k6, hg4⟩
          · go_simp
            refine hK _ _ ?_
            clear hK K
            try simp only [Act.put, List.setIfInBounds_toArray, List.set_cons_zero, List.set_cons_succ]
            refine wpAnyIn_ready (rs := [1, 2]) (by kernel_rfl) (by simp) ?_
            refine AllReadyIn.cons rfl (fun K hK => ?_) (AllReadyIn.cons rfl (fun K hK => ?_) AllReadyIn.nil)
            · go_simp
              refine hK _ _ ?_
              clear hK K
              try simp only [Act.put, List.setIfInBounds_toArray, List.set_cons_zero, List.set_cons_succ]
              refine wpAnyIn_ready (rs := [2]) (by kernel_rfl) (by simp) ?_
              refine AllReadyIn.cons rfl (fun K hK => ?_) AllReadyIn.nil
              go_simp
              refine hK _ _ ?_
              clear hK K
              try simp only [Act.put, List.setIfInBounds_toArray, List.set_cons_zero, List.set_cons_succ]
              refine wpAnyIn_ready (rs := [3]) (by kernel_rfl) (by simp) ?_
              refine AllReadyIn.cons rfl (fun K hK => ?_) AllReadyIn.nil
              go_simp
              refine ⟨trivial, ?_⟩
              refine (callsIn_wide.2 HA.out).mono ?_
              rintro e w4 ⟨g4, o4, rfl, k6, hg4, hb4⟩
              refine hK _ _ ?_
              clear hK K
              try simp only [Act.put, List.setIfInBounds_toArray, List.set_cons_zero, List.set_cons_succ]
              exact KEY11 w4 g4 o4 ⟨hb4, k6, hg4⟩
            · go_simp
              refine hK _ _ ?_
              clear hK K
              try simp only [Act.put, List.setIfInBounds_toArray, List.set_cons_zero, List.set_cons_succ]
              refine wpAnyIn_ready (rs := [1]) (by kernel_rfl) (by simp) ?_
              refine AllReadyIn.cons rfl (fun K hK => ?_) AllReadyIn.nil
              go_simp
              refine hK _ _ ?_
              clear hK K
              try simp only [Act.put, List.setIfInBounds_toArray, List.set_cons_zero, List.set_cons_succ]
              refine wpAnyIn_ready (rs := [3]) (by kernel_rfl) (by simp) ?_
              refine AllReadyIn.cons rfl (fun K hK => ?_) AllReadyIn.nil
              go_simp
              refine ⟨trivial, ?_⟩
              refine (callsIn_wide.2 HA.out).mono ?_
              rintro e w4 ⟨g4, o4, rfl, k6, hg4, hb4⟩
              refine hK _ _ ?_
              clear hK K
              try simp only [Act.put, List.setIfInBounds_toArray, List.set_cons_zero, List.set_cons_succ]
              exact KEY11 w4 g4 o4 ⟨hb4, k6, hg4⟩
        · go_simp
          refine hK _ _ ?_
          clear hK K
          try simp only [Act.put, List.setIfInBounds_toArray, List.set_cons_zero, List.set_cons_succ]
          refine wpAnyIn_ready (rs := [0, 2, 7]) (by kernel_rfl) (by simp) ?_
          refine AllReadyIn.cons rfl (fun K hK => ?_) (AllReadyIn.cons rfl (fun K hK => ?_) (AllReadyIn.cons rfl (fun K hK => ?_) AllReadyIn.nil))
          · go_simp
            refine hK _ _ ?_
            clear hK K
            try simp only [Act.put, List.setIfInBounds_toArray, List.set_cons_zero, List.set_cons_succ]
            refine wpAnyIn_ready (rs := [2, 7]) (by kernel_rfl) (by simp) ?_
            refine AllReadyIn.cons rfl (fun K hK => ?_) (AllReadyIn.cons rfl (fun K hK => ?_) AllReadyIn.nil)
            · go_simp
              refine hK _ _ ?_
              clear hK K
              try simp only [Act.put, List.setIfInBounds_toArray, List.set_cons_zero, List.set_cons_succ]
              refine wpAnyIn_ready (rs := [3, 7]) (by kernel_rfl) (by simp) ?_
              refine AllReadyIn.cons rfl (fun K hK => ?_) (AllReadyIn.cons rfl (fun K hK => ?_) AllReadyIn.nil)
              · go_simp
                refine ⟨trivial, ?_⟩
                refine (callsIn_wide.2 HA.out).mono ?_
                rintro e w4 ⟨g4, o4, rfl, k6, hg4, hb4⟩
                refine hK _ _ ?_
                clear hK K
                try simp only [Act.put, List.setIfInBounds_toArray, List.set_cons_zero, List.set_cons_succ]
                exact KEY10 w4 g4 o4 ⟨hb4, k6, hg4⟩
              · go_simp
                refine hK _ _ ?_
                clear hK K
                try simp only [Act.put, List.setIfInBounds_toArray, List.set_cons_zero, List.set_cons_succ]
                refine wpAnyIn_ready (rs := [3]) (by kernel_rfl) (by simp) ?_
                refine AllReadyIn.cons rfl (fun K hK => ?_) AllReadyIn.nil
                go_simp
                refine ⟨trivial, ?_⟩
                refine (callsIn_wide.2 HA.out).mono ?_
                rintro e w4 ⟨g4, o4, rfl, k6, hg4, hb4⟩
                refine hK _ _ ?_
                clear hK K
                try simp only [Act.put, List.setIfInBounds_toArray, List.set_cons_zero, List.set_cons_succ]
                exact KEY11 w4 g4 o4 ⟨hb4, k6, hg4⟩
            · go_simp
              refine hK _ _ ?_
              clear hK K
              try simp only [Act.put, List.setIfInBounds_toArray, List.set_cons_zero, List.set_cons_succ]
              refine wpAnyIn_ready (rs := [2]) (by kernel_rfl) (by simp) ?_
              refine AllReadyIn.cons rfl (fun K hK => ?_) AllReadyIn.nil
              go_simp
              refine hK _ _ ?_
              clear hK K
              try simp only [Act.put, List.setIfInBounds_toArray, List.set_cons_zero, List.set_cons_succ]
              refine wpAnyIn_ready (rs := [3]) (by kernel_rfl) (by simp) ?_
              refine AllReadyIn.cons rfl (fun K hK => ?_) AllReadyIn.nil
              go_simp
              refine ⟨trivial, ?_⟩
              refine (callsIn_wide.2 HA.out).mono ?_
              rintro e w4 ⟨g4, o4, rfl, k6, hg4, hb4⟩
              refine hK _ _ ?_
              clear hK K
              try simp only [Act.put, List.setIfInBounds_toArray, List.set_cons_zero, List.set_cons_succ]
              exact KEY11 w4 g4 o4 ⟨hb4, k6, hg4⟩
          · go_simp
            refine hK _ _ ?_
            clear hK K
            try simp only [Act.put, List.setIfInBounds_toArray, List.set_cons_zero, List.set_cons_succ]
            refine wpAnyIn_ready (rs := [0, 3, 7]) (by kernel_rfl) (by simp) ?_
            refine AllReadyIn.cons rfl (fun K hK => ?_) (AllReadyIn.cons rfl (fun K hK => ?_) (AllReadyIn.cons rfl (fun K hK => ?_) AllReadyIn.nil))
            · go_simp
              refine hK _ _ ?_
              clear hK K
              try simp only [Act.put, List.setIfInBounds_toArray, List.set_cons_zero, List.set_cons_succ]
              refine wpAnyIn_ready (rs := [3, 7]) (by kernel_rfl) (by simp) ?_
              refine AllReadyIn.cons rfl (fun K hK => ?_) (AllReadyIn.cons rfl (fun K hK => ?_) AllReadyIn.nil)
              · go_simp
                refine ⟨trivial, ?_⟩
                refine (callsIn_wide.2 HA.out).mono ?_
                rintro e w4 ⟨g4, o4, rfl, k6, hg4, hb4⟩
                refine hK _ _ ?_
                clear hK K
                try simp only [Act.put, List.setIfInBounds_toArray, List.set_cons_zero, List.set_cons_succ]
                exact KEY10 w4 g4 o4 ⟨hb4, k6, hg4⟩
              · go_simp
                refine hK _ _ ?_
                clear hK K
                try simp only [Act.put, List.setIfInBounds_toArray, List.set_cons_zero, List.set_cons_succ]
                refine wpAnyIn_ready (rs := [3]) (by kernel_rfl) (by simp) ?_
                refine AllReadyIn.cons rfl (fun K hK => ?_) AllReadyIn.nil
                go_simp
                refine ⟨trivial, ?_⟩
                refine (callsIn_wide.2 HA.out).mono ?_
                rintro e w4 ⟨g4, o4, rfl, k6, hg4, hb4⟩
                refine hK _ _ ?_
                clear hK K
                try simp only [Act.put, List.setIfInBounds_toArray, List.set_cons_zero, List.set_cons_succ]
                exact KEY11 w4 g4 o4 ⟨hb4, k6, hg4⟩
            · go_simp
              refine ⟨trivial, ?_⟩
              refine (callsIn_wide.2 HA.out).mono ?_
              rintro e w4 ⟨g4, o4, rfl, k6, hg4, hb4⟩
              refine hK _ _ ?_
              clear hK K
              try simp only [Act.put, List.setIfInBounds_toArray, List.set_cons_zero, List.set_cons_succ]
              exact KEY00 w4 g4 o4 ⟨hb4, k6, hg4⟩
            · go_simp
              refine hK _ _ ?_
              clear hK K
              try simp only [Act.put, List.setIfInBounds_toArray, List.set_cons_zero, List.set_cons_succ]
              refine wpAnyIn_ready (rs := [0, 3]) (by kernel_rfl) (by simp) ?_
              refine AllReadyIn.cons rfl (fun K hK => ?_) (AllReadyIn.cons rfl (fun K hK => ?_) AllReadyIn.nil)
              · go_simp
                refine hK _ _ ?_
                clear hK K
                try simp only [Act.put, List.setIfInBounds_toArray, List.set_cons_zero, List.set_cons_succ]
                refine wpAnyIn_ready (rs := [3]) (by kernel_rfl) (by simp) ?_
                refine AllReadyIn.cons rfl (fun K hK => ?_) AllReadyIn.nil
                go_simp
                refine ⟨trivial, ?_⟩
                refine (callsIn_wide.2 HA.out).mono ?_
                rintro e w4 ⟨g4, o4, rfl, k6, hg4, hb4⟩
                refine hK _ _ ?_
                clear hK K
                try simp only [Act.put, List.setIfInBounds_toArray, List.set_cons_zero, List.set_cons_succ]
                exact KEY11 w4 g4 o4 ⟨hb4, k6, hg4⟩
              · go_simp
                refine ⟨trivial, ?_⟩
                refine (callsIn_wide.2 HA.out).mono ?_
                rintro e w4 ⟨g4, o4, rfl, k6, hg4, hb4⟩
                refine hK _ _ ?_
                clear hK K
                try simp only [Act.put, List.setIfInBounds_toArray, List.set_cons_zero, List.set_cons_succ]
                exact KEY01 w4 g4 o4 ⟨hb4, k6, hg4⟩
          · go_simp
            refine hK _ _ ?_
            clear hK K
            try simp only [Act.put, List.setIfInBounds_toArray, List.set_cons_zero, List.set_cons_succ]
            refine wpAnyIn_ready (rs := [0, 2]) (by kernel_rfl) (by simp) ?_
            refine AllReadyIn.cons rfl (fun K hK => ?_) (AllReadyIn.cons rfl (fun K hK => ?_) AllReadyIn.nil)
            · go_simp
              refine hK _ _ ?_
              clear hK K
              try simp only [Act.put, List.setIfInBounds_toArray, List.set_cons_zero, List.set_cons_succ]
              refine wpAnyIn_ready (rs := [2]) (by kernel_rfl) (by simp) ?_
              refine AllReadyIn.cons rfl (fun K hK => ?_) AllReadyIn.nil
              go_simp
              refine hK _ _ ?_
              clear hK K
              try simp only [Act.put, List.setIfInBounds_toArray, List.set_cons_zero, List.set_cons_succ]
              refine wpAnyIn_ready (rs := [3]) (by kernel_rfl) (by simp) ?_
              refine AllReadyIn.cons rfl (fun K hK => ?_) AllReadyIn.nil
              go_simp
              refine ⟨trivial, ?_⟩
              refine (callsIn_wide.2 HA.out).mono ?_
              rintro e w4 ⟨g4, o4, rfl, k6, hg4, hb4⟩
              refine hK _ _ ?_
              clear hK K
              try simp only [Act.put, List.setIfInBounds_toArray, List.set_cons_zero, List.set_cons_succ]
              exact KEY11 w4 g4 o4 ⟨hb4, k6, hg4⟩
            · go_simp
              refine hK _ _ ?_
              clear hK K
              try simp only [Act.put, List.setIfInBounds_toArray, List.set_cons_zero, List.set_cons_succ]
              refine wpAnyIn_ready (rs := [0, 3]) (by kernel_rfl) (by simp) ?_
              refine AllReadyIn.cons rfl (fun K hK => ?_) (AllReadyIn.cons rfl (fun K hK => ?_) AllReadyIn.nil)
              · go_simp
                refine hK _ _ ?_
                clear hK K
                try simp only [Act.put, List.setIfInBounds_toArray, List.set_cons_zero, List.set_cons_succ]
                refine wpAnyIn_ready (rs := [3]) (by kernel_rfl) (by simp) ?_
                refine AllReadyIn.cons rfl (fun K hK => ?_) AllReadyIn.nil
                go_simp
                refine ⟨trivial, ?_⟩
                refine (callsIn_wide.2 HA.out).mono ?_
                rintro e w4 ⟨g4, o4, rfl, k6, hg4, hb4⟩
                refine hK _ _ ?_
                clear hK K
                try simp only [Act.put, List.setIfInBounds_toArray, List.set_cons_zero, List.set_cons_succ]
                exact KEY11 w4 g4 o4 ⟨hb4, k6, hg4⟩
              · go_simp
                refine ⟨trivial, ?_⟩
                refine (callsIn_wide.2 HA.out).mono ?_
                rintro e w4 ⟨g4, o4, rfl, k6, hg4, hb4⟩
                refine hK _ _ ?_
                clear hK K
                try simp only [Act.put, List.setIfInBounds_toArray, List.set_cons_zero, List.set_cons_succ]
                exact KEY01 w4 g4 o4 ⟨hb4, k6, hg4⟩
        · go_simp
          refine hK _ _ ?_
          clear hK K
          try simp only [Act.put, List.setIfInBounds_toArray, List.set_cons_zero, List.set_cons_succ]
          refine wpAnyIn_ready (rs := [0, 1, 7]) (by kernel_rfl) (by simp) ?_
          refine AllReadyIn.cons rfl (fun K hK => ?_) (AllReadyIn.cons rfl (fun K hK => ?_) (AllReadyIn.cons rfl (fun K hK => ?_) AllReadyIn.nil))
          · go_simp
            refine hK _ _ ?_
            clear hK K
            try simp only [Act.put, List.setIfInBounds_toArray, List.set_cons_zero, List.set_cons_succ]
            refine wpAnyIn_ready (rs := [1, 7]) (by kernel_rfl) (by simp) ?_
            refine AllReadyIn.cons rfl (fun K hK => ?_) (AllReadyIn.cons rfl (fun K hK => ?_) AllReadyIn.nil)
            · go_simp
              refine hK _ _ ?_
              clear hK K
              try simp only [Act.put, List.setIfInBounds_toArray, List.set_cons_zero, List.set_cons_succ]
              refine wpAnyIn_ready (rs := [3, 7]) (by kernel_rfl) (by simp) ?_
              refine AllReadyIn.cons rfl (fun K hK => ?_) (AllReadyIn.cons rfl (fun K hK => ?_) AllReadyIn.nil)
              · go_simp
                refine ⟨trivial, ?_⟩
                refine (callsIn_wide.2 HA.out).mono ?_
                rintro e w4 ⟨g4, o4, rfl, k6, hg4, hb4⟩
                refine hK _ _ ?_
                clear hK K
                try simp only [Act.put, List.setIfInBounds_toArray, List.set_cons_zero, List.set_cons_succ]
                exact KEY10 w4 g4 o4 ⟨hb4, k6, hg4⟩
              · go_simp
                refine hK _ _ ?_
                clear hK K
                try simp only [Act.put, List.setIfInBounds_toArray, List.set_cons_zero, List.set_cons_succ]
                refine wpAnyIn_ready (rs := [3]) (by kernel_rfl) (by simp) ?_
                refine AllReadyIn.cons rfl (fun K hK => ?_) AllReadyIn.nil
                go_simp
                refine ⟨trivial, ?_⟩
                refine (callsIn_wide.2 HA.out).mono ?_
                rintro e w4 ⟨g4, o4, rfl, k6, hg4, hb4⟩
                refine hK _ _ ?_
                clear hK K
                try simp only [Act.put, List.setIfInBounds_toArray, List.set_cons_zero, List.set_cons_succ]
                exact KEY11 w4 g4 o4 ⟨hb4, k6, hg4⟩
            · go_simp
              refine hK _ _ ?_
              clear hK K
              try simp only [Act.put, List.setIfInBounds_toArray, List.set_cons_zero, List.set_cons_succ]
              refine wpAnyIn_ready (rs := [1]) (by kernel_rfl) (by simp) ?_
              refine AllReadyIn.cons rfl (fun K hK => ?_) AllReadyIn.nil
              go_simp
              refine hK _ _ ?_
              clear hK K
              try simp only [Act.put, List.setIfInBounds_toArray, List.set_cons_zero, List.set_cons_succ]
              refine wpAnyIn_ready (rs := [3]) (by kernel_rfl) (by simp) ?_
              refine AllReadyIn.cons rfl (fun K hK => ?_) AllReadyIn.nil
              go_simp
              refine ⟨trivial, ?_⟩
              refine (callsIn_wide.2 HA.out).mono ?_
              rintro e w4 ⟨g4, o4, rfl, k6, hg4, hb4⟩
              refine hK _ _ ?_
              clear hK K
              try simp only [Act.put, List.setIfInBounds_toArray, List.set_cons_zero, List.set_cons_succ]
              exact KEY11 w4 g4 o4 ⟨hb4, k6, hg4⟩
          · go_simp
            refine hK _ _ ?_
            clear hK K
            try simp only [Act.put, List.setIfInBounds_toArray, List.set_cons_zero, List.set_cons_succ]
            refine wpAnyIn_ready (rs := [0, 3, 7]) (by kernel_rfl) (by simp) ?_
            refine AllReadyIn.cons rfl (fun K hK => ?_) (AllReadyIn.cons rfl (fun K hK => ?_) (AllReadyIn.cons rfl (fun K hK => ?_) AllReadyIn.nil))
            · go_simp
              refine hK _ _ ?_
              clear hK K
              try simp only [Act.put, List.setIfInBounds_toArray, List.set_cons_zero, List.set_cons_succ]
              refine wpAnyIn_ready (rs := [3, 7]) (by kernel_rfl) (by simp) ?_
              refine AllReadyIn.cons rfl (fun K hK => ?_) (AllReadyIn.cons rfl (fun K hK => ?_) AllReadyIn.nil)
              · go_simp
                refine ⟨trivial, ?_⟩
                refine (callsIn_wide.2 HA.out).mono ?_
                rintro e w4 ⟨g4, o4, rfl, k6, hg4, hb4⟩
                refine hK _ _ ?_
                clear hK K
                try simp only [Act.put, List.setIfInBounds_toArray, List.set_cons_zero, List.set_cons_succ]
                exact KEY10 w4 g4 o4 ⟨hb4, k6, hg4⟩
              · go_simp
                refine hK _ _ ?_
                clear hK K
                try simp only [Act.put, List.setIfInBounds_toArray, List.set_cons_zero, List.set_cons_succ]
                refine wpAnyIn_ready (rs := [3]) (by kernel_rfl) (by simp) ?_
                refine AllReadyIn.cons rfl (fun K hK => ?_) AllReadyIn.nil
                go_simp
                refine ⟨trivial, ?_⟩
                refine (callsIn_wide.2 HA.out).mono ?_
                rintro e w4 ⟨g4, o4, rfl, k6, hg4, hb4⟩
                refine hK _ _ ?_
                clear hK K
                try simp only [Act.put, List.setIfInBounds_toArray, List.set_cons_zero, List.set_cons_succ]
                exact KEY11 w4 g4 o4 ⟨hb4, k6, hg4⟩
            · go_simp
              refine ⟨trivial, ?_⟩
              refine (callsIn_wide.2 HA.out).mono ?_
              rintro e w4 ⟨g4, o4, rfl, k6, hg4, hb4⟩
              refine hK _ _ ?_
              clear hK K
              try simp only [Act.put, List.setIfInBounds_toArray, List.set_cons_zero, List.set_cons_succ]
              exact KEY00 w4 g4 o4 ⟨hb4, k6, hg4⟩
            · go_simp
              refine hK _ _ ?_
              clear hK K
              try simp only [Act.put, List.setIfInBounds_toArray, List.set_cons_zero, List.set_cons_succ]
              refine wpAnyIn_ready (rs := [0, 3]) (by kernel_rfl) (by simp) ?_
              refine AllReadyIn.cons rfl (fun K hK => ?_) (AllReadyIn.cons rfl (fun K hK => ?_) AllReadyIn.nil)
              · go_simp
                refine hK _ _ ?_
                clear hK K
                try simp only [Act.put, List.setIfInBounds_toArray, List.set_cons_zero, List.set_cons_succ]
                refine wpAnyIn_ready (rs := [3]) (by kernel_rfl) (by simp) ?_
                refine AllReadyIn.cons rfl (fun K hK => ?_) AllReadyIn.nil
                go_simp
                refine ⟨trivial, ?_⟩
                refine (callsIn_wide.2 HA.out).mono ?_
                rintro e w4 ⟨g4, o4, rfl, k6, hg4, hb4⟩
                refine hK _ _ ?_
                clear hK K
                try simp only [Act.put, List.setIfInBounds_toArray, List.set_cons_zero, List.set_cons_succ]
                exact KEY11 w4 g4 o4 ⟨hb4, k6, hg4⟩
              · go_simp
                refine ⟨trivial, ?_⟩
                refine (callsIn_wide.2 HA.out).mono ?_
                rintro e w4 ⟨g4, o4, rfl, k6, hg4, hb4⟩
                refine hK _ _ ?_
                clear hK K
                try simp only [Act.put, List.setIfInBounds_toArray, List.set_cons_zero, List.set_cons_succ]
                exact KEY01 w4 g4 o4 ⟨hb4, k6, hg4⟩
          · go_simp
            refine hK _ _ ?_
            clear hK K
            try simp only [Act.put, List.setIfInBounds_toArray, List.set_cons_zero, List.set_cons_succ]
            refine wpAnyIn_ready (rs := [0, 1]) (by kernel_rfl) (by simp) ?_
            refine AllReadyIn.cons rfl (fun K hK => ?_) (AllReadyIn.cons rfl (fun K hK => ?_) AllReadyIn.nil)
            · go_simp
              refine hK _ _ ?_
              clear hK K
              try simp only [Act.put, List.setIfInBounds_toArray, List.set_cons_zero, List.set_cons_succ]
              refine wpAnyIn_ready (rs := [1]) (by kernel_rfl) (by simp) ?_
              refine AllReadyIn.cons rfl (fun K hK => ?_) AllReadyIn.nil
              go_simp
              refine hK _ _ ?_
              clear hK K
              try simp only [Act.put, List.setIfInBounds_toArray, List.set_cons_zero, List.set_cons_succ]
              refine wpAnyIn_ready (rs := [3]) (by kernel_rfl) (by simp) ?_
              refine AllReadyIn.cons rfl (fun K hK => ?_) AllReadyIn.nil
              go_simp
              refine ⟨trivial, ?_⟩
              refine (callsIn_wide.2 HA.out).mono ?_
              rintro e w4 ⟨g4, o4, rfl, k6, hg4, hb4⟩
              refine hK _ _ ?_
              clear hK K
              try simp only [Act.put, List.setIfInBounds_toArray, List.set_cons_zero, List.set_cons_succ]
              exact KEY11 w4 g4 o4 ⟨hb4, k6, hg4⟩
            · go_simp
              refine hK _ _ ?_
              clear hK K
              try simp only [Act.put, List.setIfInBounds_toArray, List.set_cons_zero, List.set_cons_succ]
              refine wpAnyIn_ready (rs := [0, 3]) (by kernel_rfl) (by simp) ?_
              refine AllReadyIn.cons rfl (fun K hK => ?_) (AllReadyIn.cons rfl (fun K hK => ?_) AllReadyIn.nil)
              · go_simp
                refine hK _ _ ?_
                clear hK K
                try simp only [Act.put, List.setIfInBounds_toArray, List.set_cons_zero, List.set_cons_succ]
                refine wpAnyIn_ready (rs := [3]) (by kernel_rfl) (by simp) ?_
                refine AllReadyIn.cons rfl (fun K hK => ?_) AllReadyIn.nil
                go_simp
                refine ⟨trivial, ?_⟩
                refine (callsIn_wide.2 HA.out).mono ?_
                rintro e w4 ⟨g4, o4, rfl, k6, hg4, hb4⟩
                refine hK _ _ ?_
                clear hK K
                try simp only [Act.put, List.setIfInBounds_toArray, List.set_cons_zero, List.set_cons_succ]
                exact KEY11 w4 g4 o4 ⟨hb4, k6, hg4⟩
              · go_simp
                refine ⟨trivial, ?_⟩
                refine (callsIn_wide.2 HA.out).mono ?_
                rintro e w4 ⟨g4, o4, rfl, k6, hg4, hb4⟩
                refine hK _ _ ?_
                clear hK K
                try simp only [Act.put, List.setIfInBounds_toArray, List.set_cons_zero, List.set_cons_succ]
                exact KEY01 w4 g4 o4 ⟨hb4, k6, hg4⟩
        · go_simp
          refine hK _ _ ?_
          clear hK K
          try simp only [Act.put, List.setIfInBounds_toArray, List.set_cons_zero, List.set_cons_succ]
          refine wpAnyIn_ready (rs := [0, 1, 2]) (by kernel_rfl) (by simp) ?_
          refine AllReadyIn.cons rfl (fun K hK => ?_) (AllReadyIn.cons rfl (fun K hK => ?_) (AllReadyIn.cons rfl (fun K hK => ?_) AllReadyIn.nil))
          · go_simp
            refine hK _ _ ?_
            clear hK K
            try simp only [Act.put, List.setIfInBounds_toArray, List.set_cons_zero, List.set_cons_succ]
            refine wpAnyIn_ready (rs := [1, 2]) (by kernel_rfl) (by simp) ?_
            refine AllReadyIn.cons rfl (fun K hK => ?_) (AllReadyIn.cons rfl (fun K hK => ?_) AllReadyIn.nil)
            · go_simp
              refine hK _ _ ?_
              clear hK K
              try simp only [Act.put, List.setIfInBounds_toArray, List.set_cons_zero, List.set_cons_succ]
              refine wpAnyIn_ready (rs := [2]) (by kernel_rfl) (by simp) ?_
              refine AllReadyIn.cons rfl (fun K hK => ?_) AllReadyIn.nil
              go_simp
              refine hK _ _ ?_
              clear hK K
              try simp only [Act.put, List.setIfInBounds_toArray, List.set_cons_zero, List.set_cons_succ]
              refine wpAnyIn_ready (rs := [3]) (by kernel_rfl) (by simp) ?_
              refine AllReadyIn.cons rfl (fun K hK => ?_) AllReadyIn.nil
              go_simp
              refine ⟨trivial, ?_⟩
              refine (callsIn_wide.2 HA.out).mono ?_
              rintro e w4 ⟨g4, o4, rfl, k6, hg4, hb4⟩
              refine hK _ _ ?_
              clear hK K
              try simp only [Act.put, List.setIfInBounds_toArray, List.set_cons_zero, List.set_cons_succ]
              exact KEY11 w4 g4 o4 ⟨hb4, k6, hg4⟩
            · go_simp
              refine hK _ _ ?_
              clear hK K
              try simp only [Act.put, List.setIfInBounds_toArray, List.set_cons_zero, List.set_cons_succ]
              refine wpAnyIn_ready (rs := [1]) (by kernel_rfl) (by simp) ?_
              refine AllReadyIn.cons rfl (fun K hK => ?_) AllReadyIn.nil
              go_simp
              refine hK _ _ ?_
              clear hK K
              try simp only [Act.put, List.setIfInBounds_toArray, List.set_cons_zero, List.set_cons_succ]
              refine wpAnyIn_ready (rs := [3]) (by kernel_rfl) (by simp) ?_
              refine AllReadyIn.cons rfl (fun K hK => ?_) AllReadyIn.nil
              go_simp
              refine ⟨trivial, ?_⟩
              refine (callsIn_wide.2 HA.out).mono ?_
              rintro e w4 ⟨g4, o4, rfl, k6, hg4, hb4⟩
              refine hK _ _ ?_
              clear hK K
              try simp only [Act.put, List.setIfInBounds_toArray, List.set_cons_zero, List.set_cons_succ]
              exact KEY11 w4 g4 o4 ⟨hb4, k6, hg4⟩
          · go_simp
            refine hK _ _ ?_
            clear hK K
            try simp only [Act.put, List.setIfInBounds_toArray, List.set_cons_zero, List.set_cons_succ]
            refine wpAnyIn_ready (rs := [0, 2]) (by kernel_rfl) (by simp) ?_
            refine AllReadyIn.cons rfl (fun K hK => ?_) (AllReadyIn.cons rfl (fun K hK => ?_) AllReadyIn.nil)
            · go_simp
              refine hK _ _ ?_
              clear hK K
              try simp only [Act.put, List.setIfInBounds_toArray, List.set_cons_zero, List.set_cons_succ]
              refine wpAnyIn_ready (rs := [2]) (by kernel_rfl) (by simp) ?_
              refine AllReadyIn.cons rfl (fun K hK => ?_) AllReadyIn.nil
              go_simp
              refine hK _ _ ?_
              clear hK K
              try simp only [Act.put, List.setIfInBounds_toArray, List.set_cons_zero, List.set_cons_succ]
              refine wpAnyIn_ready (rs := [3]) (by kernel_rfl) (by simp) ?_
              refine AllReadyIn.cons rfl (fun K hK => ?_) AllReadyIn.nil
              go_simp
              refine ⟨trivial, ?_⟩
              refine (callsIn_wide.2 HA.out).mono ?_
              rintro e w4 ⟨g4, o4, rfl, k6, hg4, hb4⟩
              refine hK _ _ ?_
              clear hK K
              try simp only [Act.put, List.setIfInBounds_toArray, List.set_cons_zero, List.set_cons_succ]
              exact KEY11 w4 g4 o4 ⟨hb4, k6, hg4⟩
            · go_simp
              refine hK _ _ ?_
              clear hK K
              try simp only [Act.put, List.setIfInBounds_toArray, List.set_cons_zero, List.set_cons_succ]
              refine wpAnyIn_ready (rs := [0, 3]) (by kernel_rfl) (by simp) ?_
              refine AllReadyIn.cons rfl (fun K hK => ?_) (AllReadyIn.cons rfl (fun K hK => ?_) AllReadyIn.nil)
              · go_simp
                refine hK _ _ ?_
                clear hK K
                try simp only [Act.put, List.setIfInBounds_toArray, List.set_cons_zero, List.set_cons_succ]
                refine wpAnyIn_ready (rs := [3]) (by kernel_rfl) (by simp) ?_
                refine AllReadyIn.cons rfl (fun K hK => ?_) AllReadyIn.nil
                go_simp
                refine ⟨trivial, ?_⟩
                refine (callsIn_wide.2 HA.out).mono ?_
                rintro e w4 ⟨g4, o4, rfl, k6, hg4, hb4⟩
                refine hK _ _ ?_
                clear hK K
                try simp only [Act.put, List.setIfInBounds_toArray, List.set_cons_zero, List.set_cons_succ]
                exact KEY11 w4 g4 o4 ⟨hb4, k6, hg4⟩
              · go_simp
                refine ⟨trivial, ?_⟩
                refine (callsIn_wide.2 HA.out).mono ?_
                rintro e w4 ⟨g4, o4, rfl, k6, hg4, hb4⟩
                refine hK _ _ ?_
                clear hK K
                try simp only [Act.put, List.setIfInBounds_toArray, List.set_cons_zero, List.set_cons_succ]
                exact KEY01 w4 g4 o4 ⟨hb4, k6, hg4⟩
          · go_simp
            refine hK _ _ ?_
            clear hK K
            try simp only [Act.put, List.setIfInBounds_toArray, List.set_cons_zero, List.set_cons_succ]
            refine wpAnyIn_ready (rs := [0, 1]) (by kernel_rfl) (by simp) ?_
            refine AllReadyIn.cons rfl (fun K hK => ?_) (AllReadyIn.cons rfl (fun K hK => ?_) AllReadyIn.nil)
            · go_simp
              refine hK _ _ ?_
              clear hK K
              try simp only [Act.put, List.setIfInBounds_toArray, List.set_cons_zero, List.set_cons_succ]
              refine wpAnyIn_ready (rs := [1]) (by kernel_rfl) (by simp) ?_
              refine AllReadyIn.cons rfl (fun K hK => ?_) AllReadyIn.nil
              go_simp
              refine hK _ _ ?_
              clear hK K
              try simp only [Act.put, List.setIfInBounds_toArray, List.set_cons_zero, List.set_cons_succ]
              refine wpAnyIn_ready (rs := [3]) (by kernel_rfl) (by simp) ?_
              refine AllReadyIn.cons rfl (fun K hK => ?_) AllReadyIn.nil
              go_simp
              refine ⟨trivial, ?_⟩
              refine (callsIn_wide.2 HA.out).mono ?_
              rintro e w4 ⟨g4, o4, rfl, k6, hg4, hb4⟩
              refine hK _ _ ?_
              clear hK K
              try simp only [Act.put, List.setIfInBounds_toArray, List.set_cons_zero, List.set_cons_succ]
              exact KEY11 w4 g4 o4 ⟨hb4, k6, hg4⟩
            · go_simp
              refine hK _ _ ?_
              clear hK K
              try simp only [Act.put, List.setIfInBounds_toArray, List.set_cons_zero, List.set_cons_succ]
              refine wpAnyIn_ready (rs := [0, 3]) (by kernel_rfl) (by simp) ?_
              refine AllReadyIn.cons rfl (fun K hK => ?_) (AllReadyIn.cons rfl (fun K hK => ?_) AllReadyIn.nil)
              · go_simp
                refine hK _ _ ?_
                clear hK K
                try simp only [Act.put, List.setIfInBounds_toArray, List.set_cons_zero, List.set_cons_succ]
                refine wpAnyIn_ready (rs := [3]) (by kernel_rfl) (by simp) ?_
                refine AllReadyIn.cons rfl (fun K hK => ?_) AllReadyIn.nil
                go_simp
                refine ⟨trivial, ?_⟩
                refine (callsIn_wide.2 HA.out).mono ?_
                rintro e w4 ⟨g4, o4, rfl, k6, hg4, hb4⟩
                refine hK _ _ ?_
                clear hK K
                try simp only [Act.put, List.setIfInBounds_toArray, List.set_cons_zero, List.set_cons_succ]
                exact KEY11 w4 g4 o4 ⟨hb4, k6, hg4⟩
              · go_simp
                refine ⟨trivial, ?_⟩
                refine (callsIn_wide.2 HA.out).mono ?_
                rintro e w4 ⟨g4, o4, rfl, k6, hg4, hb4⟩
                refine hK _ _ ?_
                clear hK K
                try simp only [Act.put, List.setIfInBounds_toArray, List.set_cons_zero, List.set_cons_succ]
                exact KEY01 w4 g4 o4 ⟨hb4, k6, hg4⟩
      case k00 =>
        rintro w4 g4 o4 ⟨hb4, k6, hg4⟩
        obtain ⟨q2', q3', q4', q5', f2', f3'⟩ := HFX.out w4 hb4
        have k6' : (w4.setCell ⟨w.heap.size + 1 + 1, 0, none⟩ (.int .i64 (KN : Nat))).cell? ⟨g4, o4 + 6, none⟩ = some (.int .i64 KL) := by rw [cell_same (heap_setCell_other w4 ⟨w.heap.size + 1 + 1, 0, none⟩ g4 _ hg4)]; exact k6
        show wpAnyIn _ _ _ _ _ _ _ _ _ _
        refine wpAnyIn_take (i := 4) (v := ?_) rfl rfl (by kernel_rfl) (by kernel_rfl) (by kernel_rfl) (fun _ _ _ h => h) ⟨Or.inl ⟨by rfl, ?_⟩, fun _ => rfl⟩ ?_
        rotate_left 1
        · (intro w'; go_simp <;> with_reducible rfl)
        try simp only [Act.put, List.setIfInBounds_toArray, List.set_cons_zero, List.set_cons_succ]
        refine wpAnyIn_take (i := 5) (v := ?_) rfl rfl (by kernel_rfl) (by kernel_rfl) (by kernel_rfl) (fun _ _ _ h => h) ⟨Or.inl ⟨by rfl, ?_⟩, fun _ => rfl⟩ ?_
        rotate_left 1
        · (intro w'; go_simp <;> with_reducible rfl)
        try simp only [Act.put, List.setIfInBounds_toArray, List.set_cons_zero, List.set_cons_succ]
        refine wpAnyIn_ready (rs := [0, 6, 7]) (by kernel_rfl) (by simp) ?_
        refine AllReadyIn.cons rfl (fun K hK => ?_) (AllReadyIn.cons rfl (fun K hK => ?_) (AllReadyIn.cons rfl (fun K hK => ?_) AllReadyIn.nil))
        · go_simp
          refine hK _ _ ?_
          clear hK K
          try simp only [Act.put, List.setIfInBounds_toArray, List.set_cons_zero, List.set_cons_succ]
          refine wpAnyIn_ready (rs := [6, 7, 9]) (by kernel_rfl) (by simp) ?_
          refine AllReadyIn.cons rfl (fun K hK => ?_) (AllReadyIn.cons rfl (fun K hK => ?_) (AllReadyIn.cons rfl (fun K hK => ?_) AllReadyIn.nil))
          · go_simp
            refine hK _ _ ?_
            clear hK K
            try simp only [Act.put, List.setIfInBounds_toArray, List.set_cons_zero, List.set_cons_succ]
            refine wpAnyIn_ready (rs := [7, 9]) (by kernel_rfl) (by simp) ?_
            refine AllReadyIn.cons rfl (fun K hK => ?_) (AllReadyIn.cons rfl (fun K hK => ?_) AllReadyIn.nil)
            · go_simp
              refine hK _ _ ?_
              clear hK K
              try simp only [Act.put, List.setIfInBounds_toArray, List.set_cons_zero, List.set_cons_succ]
              refine wpAnyIn_take (i := 8) (v := ?_) rfl rfl (by kernel_rfl) (by kernel_rfl) (by kernel_rfl) (fun _ _ _ h => h) ⟨Or.inl ⟨by rfl, ?_⟩, fun _ => rfl⟩ ?_
              rotate_left 1
              · (intro w'; go_simp <;> with_reducible rfl)
              try simp only [Act.put, List.setIfInBounds_toArray, List.set_cons_zero, List.set_cons_succ]
              refine wpAnyIn_ready (rs := [9]) (by kernel_rfl) (by simp) ?_
              refine AllReadyIn.cons rfl (fun K hK => ?_) AllReadyIn.nil
              go_simp
              refine hK _ _ ?_
              clear hK K
              try simp only [Act.put, List.setIfInBounds_toArray, List.set_cons_zero, List.set_cons_succ]
              refine wpAnyIn_ready (rs := [10]) (by kernel_rfl) (by simp) ?_
              refine AllReadyIn.cons rfl (fun K hK => ?_) AllReadyIn.nil
              go_simp
              refine hK _ _ ?_
              clear hK K
              try simp only [Act.put, List.setIfInBounds_toArray, List.set_cons_zero, List.set_cons_succ]
              refine wpAnyIn_done (by kernel_rfl) ?_ _
              exact hK0 _ _ (Met.intro (hJ0 _ _ ⟨_, _, _, _, _, _, _, _, _, ⟨w4, hb4, rfl⟩, rfl⟩))
            · go_simp
              refine hK _ _ ?_
              clear hK K
              try simp only [Act.put, List.setIfInBounds_toArray, List.set_cons_zero, List.set_cons_succ]
              refine wpAnyIn_ready (rs := [7]) (by kernel_rfl) (by simp) ?_
              refine AllReadyIn.cons rfl (fun K hK => ?_) AllReadyIn.nil
              go_simp
              refine hK _ _ ?_
              clear hK K
              try simp only [Act.put, List.setIfInBounds_toArray, List.set_cons_zero, List.set_cons_succ]
              refine wpAnyIn_take (i := 8) (v := ?_) rfl rfl (by kernel_rfl) (by kernel_rfl) (by kernel_rfl) (fun _ _ _ h => h) ⟨Or.inl ⟨by rfl, ?_⟩, fun _ => rfl⟩ ?_
              rotate_left 1
              · (intro w'; go_simp <;> with_reducible rfl)
              try simp only [Act.put, List.setIfInBounds_toArray, List.set_cons_zero, List.set_cons_succ]
              refine wpAnyIn_ready (rs := [10]) (by kernel_rfl) (by simp) ?_
              refine AllReadyIn.cons rfl (fun K hK => ?_) AllReadyIn.nil
              go_simp
              refine hK _ _ ?_
              clear hK K
              try simp only [Act.put, List.setIfInBounds_toArray, List.set_cons_zero, List.set_cons_succ]
              refine wpAnyIn_done (by kernel_rfl) ?_ _
              exact hK0 _ _ (Met.intro (hJ0 _ _ ⟨_, _, _, _, _, _, _, _, _, ⟨w4, hb4, rfl⟩, rfl⟩))
          · go_simp
            refine hK _ _ ?_
            clear hK K
            try simp only [Act.put, List.setIfInBounds_toArray, List.set_cons_zero, List.set_cons_succ]
            refine wpAnyIn_ready (rs := [6, 9]) (by kernel_rfl) (by simp) ?_
            refine AllReadyIn.cons rfl (fun K hK => ?_) (AllReadyIn.cons rfl (fun K hK => ?_) AllReadyIn.nil)
            · go_simp
              refine hK _ _ ?_
              clear hK K
              try simp only [Act.put, List.setIfInBounds_toArray, List.set_cons_zero, List.set_cons_succ]
              refine wpAnyIn_take (i := 8) (v := ?_) rfl rfl (by kernel_rfl) (by kernel_rfl) (by kernel_rfl) (fun _ _ _ h => h) ⟨Or.inl ⟨by rfl, ?_⟩, fun _ => rfl⟩ ?_
              rotate_left 1
              · (intro w'; go_simp <;> with_reducible rfl)
              try simp only [Act.put, List.setIfInBounds_toArray, List.set_cons_zero, List.set_cons_succ]
              refine wpAnyIn_ready (rs := [9]) (by kernel_rfl) (by simp) ?_
              refine AllReadyIn.cons rfl (fun K hK => ?_) AllReadyIn.nil
              go_simp
              refine hK _ _ ?_
              clear hK K
              try simp only [Act.put, List.setIfInBounds_toArray, List.set_cons_zero, List.set_cons_succ]
              refine wpAnyIn_ready (rs := [10]) (by kernel_rfl) (by simp) ?_
              refine AllReadyIn.cons rfl (fun K hK => ?_) AllReadyIn.nil
              go_simp
              refine hK _ _ ?_
              clear hK K
              try simp only [Act.put, List.setIfInBounds_toArray, List.set_cons_zero, List.set_cons_succ]
              refine wpAnyIn_done (by kernel_rfl) ?_ _
              exact hK0 _ _ (Met.intro (hJ0 _ _ ⟨_, _, _, _, _, _, _, _, _, ⟨w4, hb4, rfl⟩, rfl⟩))
            · go_simp
              refine hK _ _ ?_
              clear hK K
              try simp only [Act.put, List.setIfInBounds_toArray, List.set_cons_zero, List.set_cons_succ]
              refine wpAnyIn_ready (rs := [6]) (by kernel_rfl) (by simp) ?_
              refine AllReadyIn.cons rfl (fun K hK => ?_) AllReadyIn.nil
              go_simp
              refine hK _ _ ?_
              clear hK K
              try simp only [Act.put, List.setIfInBounds_toArray, List.set_cons_zero, List.set_cons_succ]
              refine wpAnyIn_take (i := 8) (v := ?_) rfl rfl (by kernel_rfl) (by kernel_rfl) (by kernel_rfl) (fun _ _ _ h => h) ⟨Or.inl ⟨by rfl, ?_⟩, fun _ => rfl⟩ ?_
              rotate_left 1
              · (intro w'; go_simp <;> with_reducible rfl)
              try simp only [Act.put, List.setIfInBounds_toArray, List.set_cons_zero, List.set_cons_succ]
              refine wpAnyIn_ready (rs := [10]) (by kernel_rfl) (by simp) ?_
              refine AllReadyIn.cons rfl (fun K hK => ?_) AllReadyIn.nil
              go_simp
              refine hK _ _ ?_
              clear hK K
              try simp only [Act.put, List.setIfInBounds_toArray, List.set_cons_zero, List.set_cons_succ]
              refine wpAnyIn_done (by kernel_rfl) ?_ _
              exact hK0 _ _ (Met.intro (hJ0 _ _ ⟨_, _, _, _, _, _, _, _, _, ⟨w4, hb4, rfl⟩, rfl⟩))
          · go_simp
            refine hK _ _ ?_
            clear hK K
            try simp only [Act.put, List.setIfInBounds_toArray, List.set_cons_zero, List.set_cons_succ]
            refine wpAnyIn_ready (rs := [6, 7]) (by kernel_rfl) (by simp) ?_
            refine AllReadyIn.cons rfl (fun K hK => ?_) (AllReadyIn.cons rfl (fun K hK => ?_) AllReadyIn.nil)
            · go_simp
              refine hK _ _ ?_
              clear hK K
              try simp only [Act.put, List.setIfInBounds_toArray, List.set_cons_zero, List.set_cons_succ]
              refine wpAnyIn_ready (rs := [7]) (by kernel_rfl) (by simp) ?_
              refine AllReadyIn.cons rfl (fun K hK => ?_) AllReadyIn.nil
              go_simp
              refine hK _ _ ?_
              clear hK K
              try simp only [Act.put, List.setIfInBounds_toArray, List.set_cons_zero, List.set_cons_succ]
              refine wpAnyIn_take (i := 8) (v := ?_) rfl rfl (by kernel_rfl) (by kernel_rfl) (by kernel_rfl) (fun _ _ _ h => h) ⟨Or.inl ⟨by rfl, ?_⟩, fun _ => rfl⟩ ?_
              rotate_left 1
              · (intro w'; go_simp <;> with_reducible rfl)
              try simp only [Act.put, List.setIfInBounds_toArray, List.set_cons_zero, List.set_cons_succ]
              refine wpAnyIn_ready (rs := [10]) (by kernel_rfl) (by simp) ?_
              refine AllReadyIn.cons rfl (fun K hK => ?_) AllReadyIn.nil
              go_simp
              refine hK _ _ ?_
              clear hK K
              try simp only [Act.put, List.setIfInBounds_toArray, List.set_cons_zero, List.set_cons_succ]
              refine wpAnyIn_done (by kernel_rfl) ?_ _
              exact hK0 _ _ (Met.intro (hJ0 _ _ ⟨_, _, _, _, _, _, _, _, _, ⟨w4, hb4, rfl⟩, rfl⟩))
            · go_simp
              refine hK _ _ ?_
              clear hK K
              try simp only [Act.put, List.setIfInBounds_toArray, List.set_cons_zero, List.set_cons_succ]
              refine wpAnyIn_ready (rs := [6]) (by kernel_rfl) (by simp) ?_
              refine AllReadyIn.cons rfl (fun K hK => ?_) AllReadyIn.nil
              go_simp
              refine hK _ _ ?_
              clear hK K
              try simp only [Act.put, List.setIfInBounds_toArray, List.set_cons_zero, List.set_cons_succ]
              refine wpAnyIn_take (i := 8) (v := ?_) rfl rfl (by kernel_rfl) (by kernel_rfl) (by kernel_rfl) (fun _ _ _ h => h) ⟨Or.inl ⟨by rfl, ?_⟩, fun _ => rfl⟩ ?_
              rotate_left 1
              · (intro w'; go_simp <;> with_reducible rfl)
              try simp only [Act.put, List.setIfInBounds_toArray, List.set_cons_zero, List.set_cons_succ]
              refine wpAnyIn_ready (rs := [10]) (by kernel_rfl) (by simp) ?_
              refine AllReadyIn.cons rfl (fun K hK => ?_) AllReadyIn.nil
              go_simp
              refine hK _ _ ?_
              clear hK K
              try simp only [Act.put, List.setIfInBounds_toArray, List.set_cons_zero, List.set_cons_succ]
              refine wpAnyIn_done (by kernel_rfl) ?_ _
              exact hK0 _ _ (Met.intro (hJ0 _ _ ⟨_, _, _, _, _, _, _, _, _, ⟨w4, hb4, rfl⟩, rfl⟩))
        · go_simp
          refine hK _ _ ?_
          clear hK K
          try simp only [Act.put, List.setIfInBounds_toArray, List.set_cons_zero, List.set_cons_succ]
          refine wpAnyIn_ready (rs := [0, 7]) (by kernel_rfl) (by simp) ?_
          refine AllReadyIn.cons rfl (fun K hK => ?_) (AllReadyIn.cons rfl (fun K hK => ?_) AllReadyIn.nil)
          · go_simp
            refine hK _ _ ?_
            clear hK K
            try simp only [Act.put, List.setIfInBounds_toArray, List.set_cons_zero, List.set_cons_succ]
            refine wpAnyIn_ready (rs := [7, 9]) (by kernel_rfl) (by simp) ?_
            refine AllReadyIn.cons rfl (fun K hK => ?_) (AllReadyIn.cons rfl (fun K hK => ?_) AllReadyIn.nil)
            · go_simp
              refine hK _ _ ?_
              clear hK K
              try simp only [Act.put, List.setIfInBounds_toArray, List.set_cons_zero, List.set_cons_succ]
              refine wpAnyIn_take (i := 8) (v := ?_) rfl rfl (by kernel_rfl) (by kernel_rfl) (by kernel_rfl) (fun _ _ _ h => h) ⟨Or.inl ⟨by rfl, ?_⟩, fun _ => rfl⟩ ?_
              rotate_left 1
              · (intro w'; go_simp <;> with_reducible rfl)
              try simp only [Act.put, List.setIfInBounds_toArray, List.set_cons_zero, List.set_cons_succ]
              refine wpAnyIn_ready (rs := [9]) (by kernel_rfl) (by simp) ?_
              refine AllReadyIn.cons rfl (fun K hK => ?_) AllReadyIn.nil
              go_simp
              refine hK _ _ ?_
              clear hK K
              try simp only [Act.put, List.setIfInBounds_toArray, List.set_cons_zero, List.set_cons_succ]
              refine wpAnyIn_ready (rs := [10]) (by kernel_rfl) (by simp) ?_
              refine AllReadyIn.cons rfl (fun K hK => ?_) AllReadyIn.nil
              go_simp
              refine hK _ _ ?_
              clear hK K
              try simp only [Act.put, List.setIfInBounds_toArray, List.set_cons_zero, List.set_cons_succ]
              refine wpAnyIn_done (by kernel_rfl) ?_ _
              exact hK0 _ _ (Met.intro (hJ0 _ _ ⟨_, _, _, _, _, _, _, _, _, ⟨w4, hb4, rfl⟩, rfl⟩))
            · go_simp
              refine hK _ _ ?_
              clear hK K
              try simp only [Act.put, List.setIfInBounds_toArray, List.set_cons_zero, List.set_cons_succ]
              refine wpAnyIn_ready (rs := [7]) (by kernel_rfl) (by simp) ?_
              refine AllReadyIn.cons rfl (fun K hK => ?_) AllReadyIn.nil
              go_simp
              refine hK _ _ ?_
              clear hK K
              try simp only [Act.put, List.setIfInBounds_toArray, List.set_cons_zero, List.set_cons_succ]
              refine wpAnyIn_take (i := 8) (v := ?_) rfl rfl (by kernel_rfl) (by kernel_rfl) (by kernel_rfl) (fun _ _ _ h => h) ⟨Or.inl ⟨by rfl, ?_⟩, fun _ => rfl⟩ ?_
              rotate_left 1
              · (intro w'; go_simp <;> with_reducible rfl)
              try simp only [Act.put, List.setIfInBounds_toArray, List.set_cons_zero, List.set_cons_succ]
              refine wpAnyIn_ready (rs := [10]) (by kernel_rfl) (by simp) ?_
              refine AllReadyIn.cons rfl (fun K hK => ?_) AllReadyIn.nil
              go_simp
              refine hK _ _ ?_
              clear hK K
              try simp only [Act.put, List.setIfInBounds_toArray, List.set_cons_zero, List.set_cons_succ]
              refine wpAnyIn_done (by kernel_rfl) ?_ _
              exact hK0 _ _ (Met.intro (hJ0 _ _ ⟨_, _, _, _, _, _, _, _, _, ⟨w4, hb4, rfl⟩, rfl⟩))
          · go_simp
            refine hK _ _ ?_
            clear hK K
            try simp only [Act.put, List.setIfInBounds_toArray, List.set_cons_zero, List.set_cons_succ]
            refine wpAnyIn_take (i := 8) (v := ?_) rfl rfl (by kernel_rfl) (by kernel_rfl) (by kernel_rfl) (fun _ _ _ h => h) ⟨Or.inl ⟨by rfl, ?_⟩, fun _ => rfl⟩ ?_
            rotate_left 1
            · (intro w'; go_simp <;> with_reducible rfl)
            try simp only [Act.put, List.setIfInBounds_toArray, List.set_cons_zero, List.set_cons_succ]
            refine wpAnyIn_ready (rs := [0]) (by kernel_rfl) (by simp) ?_
            refine AllReadyIn.cons rfl (fun K hK => ?_) AllReadyIn.nil
            go_simp
            refine hK _ _ ?_
            clear hK K
            try simp only [Act.put, List.setIfInBounds_toArray, List.set_cons_zero, List.set_cons_succ]
            refine wpAnyIn_ready (rs := [9]) (by kernel_rfl) (by simp) ?_
            refine AllReadyIn.cons rfl (fun K hK => ?_) AllReadyIn.nil
            go_simp
            refine hK _ _ ?_
            clear hK K
            try simp only [Act.put, List.setIfInBounds_toArray, List.set_cons_zero, List.set_cons_succ]
            refine wpAnyIn_ready (rs := [10]) (by kernel_rfl) (by simp) ?_
            refine AllReadyIn.cons rfl (fun K hK => ?_) AllReadyIn.nil
            go_simp
            refine hK _ _ ?_
            clear hK K
            try simp only [Act.put, List.setIfInBounds_toArray, List.set_cons_zero, List.set_cons_succ]
            refine wpAnyIn_done (by kernel_rfl) ?_ _
            exact hK0 _ _ (Met.intro (hJ0 _ _ ⟨_, _, _, _, _, _, _, _, _, ⟨w4, hb4, rfl⟩, rfl⟩))
        · go_simp
          refine hK _ _ ?_
          clear hK K
          try simp only [Act.put, List.setIfInBounds_toArray, List.set_cons_zero, List.set_cons_succ]
          refine wpAnyIn_ready (rs := [0, 6]) (by kernel_rfl) (by simp) ?_
          refine AllReadyIn.cons rfl (fun K hK => ?_) (AllReadyIn.cons rfl (fun K hK => ?_) AllReadyIn.nil)
          · go_simp
            refine hK _ _ ?_
            clear hK K
            try simp only [Act.put, List.setIfInBounds_toArray, List.set_cons_zero, List.set_cons_succ]
            refine wpAnyIn_ready (rs := [6, 9]) (by kernel_rfl) (by simp) ?_
            refine AllReadyIn.cons rfl (fun K hK => ?_) (AllReadyIn.cons rfl (fun K hK => ?_) AllReadyIn.nil)
            · go_simp
              refine hK _ _ ?_
              clear hK K
              try simp only [Act.put, List.setIfInBounds_toArray, List.set_cons_zero, List.set_cons_succ]
              refine wpAnyIn_take (i := 8) (v := ?_) rfl rfl (by kernel_rfl) (by kernel_rfl) (by kernel_rfl) (fun _ _ _ h => h) ⟨Or.inl ⟨by rfl, ?_⟩, fun _ => rfl⟩ ?_
              rotate_left 1
              · (intro w'; go_simp <;> with_reducible rfl)
              try simp only [Act.put, List.setIfInBounds_toArray, List.set_cons_zero, List.set_cons_succ]
              refine wpAnyIn_ready (rs := [9]) (by kernel_rfl) (by simp) ?_
              refine AllReadyIn.cons rfl (fun K hK => ?_) AllReadyIn.nil
              go_simp
              refine hK _ _ ?_
              clear hK K
              try simp only [Act.put, List.setIfInBounds_toArray, List.set_cons_zero, List.set_cons_succ]
              refine wpAnyIn_ready (rs := [10]) (by kernel_rfl) (by simp) ?_
              refine AllReadyIn.cons rfl (fun K hK => ?_) AllReadyIn.nil
              go_simp
              refine hK _ _ ?_
              clear hK K
              try simp only [Act.put, List.setIfInBounds_toArray, List.set_cons_zero, List.set_cons_succ]
              refine wpAnyIn_done (by kernel_rfl) ?_ _
              exact hK0 _ _ (Met.intro (hJ0 _ _ ⟨_, _, _, _, _, _, _, _, _, ⟨w4, hb4, rfl⟩, rfl⟩))
            · go_simp
              refine hK _ _ ?_
              clear hK K
              try simp only [Act.put, List.setIfInBounds_toArray, List.set_cons_zero, List.set_cons_succ]
              refine wpAnyIn_ready (rs := [6]) (by kernel_rfl) (by simp) ?_
              refine AllReadyIn.cons rfl (fun K hK => ?_) AllReadyIn.nil
              go_simp
              refine hK _ _ ?_
              clear hK K
              try simp only [Act.put, List.setIfInBounds_toArray, List.set_cons_zero, List.set_cons_succ]
              refine wpAnyIn_take (i := 8) (v := ?_) rfl rfl (by kernel_rfl) (by kernel_rfl) (by kernel_rfl) (fun _ _ _ h => h) ⟨Or.inl ⟨by rfl, ?_⟩, fun _ => rfl⟩ ?_
              rotate_left 1
              · (intro w'; go_simp <;> with_reducible rfl)
              try simp only [Act.put, List.setIfInBounds_toArray, List.set_cons_zero, List.set_cons_succ]
              refine wpAnyIn_ready (rs := [10]) (by kernel_rfl) (by simp) ?_
              refine AllReadyIn.cons rfl (fun K hK => ?_) AllReadyIn.nil
              go_simp
              refine hK _ _ ?_
              clear hK K
              try simp only [Act.put, List.setIfInBounds_toArray, List.set_cons_zero, List.set_cons_succ]
              refine wpAnyIn_done (by kernel_rfl) ?_ _
              exact hK0 _ _ (Met.intro (hJ0 _ _ ⟨_, _, _, _, _, _, _, _, _, ⟨w4, hb4, rfl⟩, rfl⟩))
          · go_simp
            refine hK _ _ ?_
            clear hK K
            try simp only [Act.put, List.setIfInBounds_toArray, List.set_cons_zero, List.set_cons_succ]
            refine wpAnyIn_take (i := 8) (v := ?_) rfl rfl (by kernel_rfl) (by kernel_rfl) (by kernel_rfl) (fun _ _ _ h => h) ⟨Or.inl ⟨by rfl, ?_⟩, fun _ => rfl⟩ ?_
            rotate_left 1
            · (intro w'; go_simp <;> with_reducible rfl)
            try simp only [Act.put, List.setIfInBounds_toArray, List.set_cons_zero, List.set_cons_succ]
            refine wpAnyIn_ready (rs := [0]) (by kernel_rfl) (by simp) ?_
            refine AllReadyIn.cons rfl (fun K hK => ?_) AllReadyIn.nil
            go_simp
            refine hK _ _ ?_
            clear hK K
            try simp only [Act.put, List.setIfInBounds_toArray, List.set_cons_zero, List.set_cons_succ]
            refine wpAnyIn_ready (rs := [9]) (by kernel_rfl) (by simp) ?_
            refine AllReadyIn.cons rfl (fun K hK => ?_) AllReadyIn.nil
            go_simp
            refine hK _ _ ?_
            clear hK K
            try simp only [Act.put, List.setIfInBounds_toArray, List.set_cons_zero, List.set_cons_succ]
            refine wpAnyIn_ready (rs := [10]) (by kernel_rfl) (by simp) ?_
            refine AllReadyIn.cons rfl (fun K hK => ?_) AllReadyIn.nil
            go_simp
            refine hK _ _ ?_
            clear hK K
            try simp only [Act.put, List.setIfInBounds_toArray, List.set_cons_zero, List.set_cons_succ]
            refine wpAnyIn_done (by kernel_rfl) ?_ _
            exact hK0 _ _ (Met.intro (hJ0 _ _ ⟨_, _, _, _, _, _, _, _, _, ⟨w4, hb4, rfl⟩, rfl⟩))
      case k01 =>
        rintro w4 g4 o4 ⟨hb4, k6, hg4⟩
        obtain ⟨q2', q3', q4', q5', f2', f3'⟩ := HFX.out w4 hb4
        have k6' : (w4.setCell ⟨w.heap.size + 1 + 1, 0, none⟩ (.int .i64 (KN : Nat))).cell? ⟨g4, o4 + 6, none⟩ = some (.int .i64 KL) := by rw [cell_same (heap_setCell_other w4 ⟨w.heap.size + 1 + 1, 0, none⟩ g4 _ hg4)]; exact k6
        show wpAnyIn _ _ _ _ _ _ _ _ _ _
        refine wpAnyIn_take (i := 4) (v := ?_) rfl rfl (by kernel_rfl) (by kernel_rfl) (by kernel_rfl) (fun _ _ _ h => h) ⟨Or.inl ⟨by rfl, ?_⟩, fun _ => rfl⟩ ?_
        rotate_left 1
        · (intro w'; go_simp <;> with_reducible rfl)
        try simp only [Act.put, List.setIfInBounds_toArray, List.set_cons_zero, List.set_cons_succ]
        refine wpAnyIn_take (i := 5) (v := ?_) rfl rfl (by kernel_rfl) (by kernel_rfl) (by kernel_rfl) (fun _ _ _ h => h) ⟨Or.inl ⟨by rfl, ?_⟩, fun _ => rfl⟩ ?_
        rotate_left 1
        · (intro w'; go_simp <;> with_reducible rfl)
        try simp only [Act.put, List.setIfInBounds_toArray, List.set_cons_zero, List.set_cons_succ]
        refine wpAnyIn_ready (rs := [0, 6]) (by kernel_rfl) (by simp) ?_
        refine AllReadyIn.cons rfl (fun K hK => ?_) (AllReadyIn.cons rfl (fun K hK => ?_) AllReadyIn.nil)
        · go_simp
          refine hK _ _ ?_
          clear hK K
          try simp only [Act.put, List.setIfInBounds_toArray, List.set_cons_zero, List.set_cons_succ]
          refine wpAnyIn_ready (rs := [6, 9]) (by kernel_rfl) (by simp) ?_
          refine AllReadyIn.cons rfl (fun K hK => ?_) (AllReadyIn.cons rfl (fun K hK => ?_) AllReadyIn.nil)
          · go_simp
            refine hK _ _ ?_
            clear hK K
            try simp only [Act.put, List.setIfInBounds_toArray, List.set_cons_zero, List.set_cons_succ]
            refine wpAnyIn_take (i := 8) (v := ?_) rfl rfl (by kernel_rfl) (by kernel_rfl) (by kernel_rfl) (fun _ _ _ h => h) ⟨Or.inl ⟨by rfl, ?_⟩, fun _ => rfl⟩ ?_
            rotate_left 1
            · (intro w'; go_simp <;> with_reducible rfl)
            try simp only [Act.put, List.setIfInBounds_toArray, List.set_cons_zero, List.set_cons_succ]
            refine wpAnyIn_ready (rs := [9]) (by kernel_rfl) (by simp) ?_
            refine AllReadyIn.cons rfl (fun K hK => ?_) AllReadyIn.nil
            go_simp
            refine hK _ _ ?_
            clear hK K
            try simp only [Act.put, List.setIfInBounds_toArray, List.set_cons_zero, List.set_cons_succ]
            refine wpAnyIn_ready (rs := [10]) (by kernel_rfl) (by simp) ?_
            refine AllReadyIn.cons rfl (fun K hK => ?_) AllReadyIn.nil
            go_simp
            refine hK _ _ ?_
            clear hK K
            try simp only [Act.put, List.setIfInBounds_toArray, List.set_cons_zero, List.set_cons_succ]
            refine wpAnyIn_done (by kernel_rfl) ?_ _
            exact hK0 _ _ (Met.intro (hJ0 _ _ ⟨_, _, _, _, _, _, _, _, _, ⟨w4, hb4, rfl⟩, rfl⟩))
          · go_simp
            refine hK _ _ ?_
            clear hK K
            try simp only [Act.put, List.setIfInBounds_toArray, List.set_cons_zero, List.set_cons_succ]
            refine wpAnyIn_ready (rs := [6]) (by kernel_rfl) (by simp) ?_
            refine AllReadyIn.cons rfl (fun K hK => ?_) AllReadyIn.nil
            go_simp
            refine hK _ _ ?_
            clear hK K
            try simp only [Act.put, List.setIfInBounds_toArray, List.set_cons_zero, List.set_cons_succ]
            refine wpAnyIn_take (i := 8) (v := ?_) rfl rfl (by kernel_rfl) (by kernel_rfl) (by kernel_rfl) (fun _ _ _ h => h) ⟨Or.inl ⟨by rfl, ?_⟩, fun _ => rfl⟩ ?_
            rotate_left 1
            · (intro w'; go_simp <;> with_reducible rfl)
            try simp only [Act.put, List.setIfInBounds_toArray, List.set_cons_zero, List.set_cons_succ]
            refine wpAnyIn_ready (rs := [10]) (by kernel_rfl) (by simp) ?_
            refine AllReadyIn.cons rfl (fun K hK => ?_) AllReadyIn.nil
            go_simp
            refine hK _ _ ?_
            clear hK K
            try simp only [Act.put, List.setIfInBounds_toArray, List.set_cons_zero, List.set_cons_succ]
            refine wpAnyIn_done (by kernel_rfl) ?_ _
            exact hK0 _ _ (Met.intro (hJ0 _ _ ⟨_, _, _, _, _, _, _, _, _, ⟨w4, hb4, rfl⟩, rfl⟩))
        · go_simp
          refine hK _ _ ?_
          clear hK K
          try simp only [Act.put, List.setIfInBounds_toArray, List.set_cons_zero, List.set_cons_succ]
          refine wpAnyIn_take (i := 8) (v := ?_) rfl rfl (by kernel_rfl) (by kernel_rfl) (by kernel_rfl) (fun _ _ _ h => h) ⟨Or.inl ⟨by rfl, ?_⟩, fun _ => rfl⟩ ?_
          rotate_left 1
          · (intro w'; go_simp <;> with_reducible rfl)
          try simp only [Act.put, List.setIfInBounds_toArray, List.set_cons_zero, List.set_cons_succ]
          refine wpAnyIn_ready (rs := [0]) (by kernel_rfl) (by simp) ?_
          refine AllReadyIn.cons rfl (fun K hK => ?_) AllReadyIn.nil
          go_simp
          refine hK _ _ ?_
          clear hK K
          try simp only [Act.put, List.setIfInBounds_toArray, List.set_cons_zero, List.set_cons_succ]
          refine wpAnyIn_ready (rs := [9]) (by kernel_rfl) (by simp) ?_
          refine AllReadyIn.cons rfl (fun K hK => ?_) AllReadyIn.nil
          go_simp
          refine hK _ _ ?_
          clear hK K
          try simp only [Act.put, List.setIfInBounds_toArray, List.set_cons_zero, List.set_cons_succ]
          refine wpAnyIn_ready (rs := [10]) (by kernel_rfl) (by simp) ?_
          refine AllReadyIn.cons rfl (fun K hK => ?_) AllReadyIn.nil
          go_simp
          refine hK _ _ ?_
          clear hK K
          try simp only [Act.put, List.setIfInBounds_toArray, List.set_cons_zero, List.set_cons_succ]
          refine wpAnyIn_done (by kernel_rfl) ?_ _
          exact hK0 _ _ (Met.intro (hJ0 _ _ ⟨_, _, _, _, _, _, _, _, _, ⟨w4, hb4, rfl⟩, rfl⟩))
      case k10 =>
        rintro w4 g4 o4 ⟨hb4, k6, hg4⟩
        obtain ⟨q2', q3', q4', q5', f2', f3'⟩ := HFX.out w4 hb4
        have k6' : (w4.setCell ⟨w.heap.size + 1 + 1, 0, none⟩ (.int .i64 (KN : Nat))).cell? ⟨g4, o4 + 6, none⟩ = some (.int .i64 KL) := by rw [cell_same (heap_setCell_other w4 ⟨w.heap.size + 1 + 1, 0, none⟩ g4 _ hg4)]; exact k6
        show wpAnyIn _ _ _ _ _ _ _ _ _ _
        refine wpAnyIn_take (i := 4) (v := ?_) rfl rfl (by kernel_rfl) (by kernel_rfl) (by kernel_rfl) (fun _ _ _ h => h) ⟨Or.inl ⟨by rfl, ?_⟩, fun _ => rfl⟩ ?_
        rotate_left 1
        · (intro w'; go_simp <;> with_reducible rfl)
        try simp only [Act.put, List.setIfInBounds_toArray, List.set_cons_zero, List.set_cons_succ]
        refine wpAnyIn_take (i := 5) (v := ?_) rfl rfl (by kernel_rfl) (by kernel_rfl) (by kernel_rfl) (fun _ _ _ h => h) ⟨Or.inl ⟨by rfl, ?_⟩, fun _ => rfl⟩ ?_
        rotate_left 1
        · (intro w'; go_simp <;> with_reducible rfl)
        try simp only [Act.put, List.setIfInBounds_toArray, List.set_cons_zero, List.set_cons_succ]
        refine wpAnyIn_ready (rs := [6, 7, 9]) (by kernel_rfl) (by simp) ?_
        refine AllReadyIn.cons rfl (fun K hK => ?_) (AllReadyIn.cons rfl (fun K hK => ?_) (AllReadyIn.cons rfl (fun K hK => ?_) AllReadyIn.nil))
        · go_simp
          refine hK _ _ ?_
          clear hK K
          try simp only [Act.put, List.setIfInBounds_toArray, List.set_cons_zero, List.set_cons_succ]
          refine wpAnyIn_ready (rs := [7, 9]) (by kernel_rfl) (by simp) ?_
          refine AllReadyIn.cons rfl (fun K hK => ?_) (AllReadyIn.cons rfl (fun K hK => ?_) AllReadyIn.nil)
          · go_simp
            refine hK _ _ ?_
            clear hK K
            try simp only [Act.put, List.setIfInBounds_toArray, List.set_cons_zero, List.set_cons_succ]
            refine wpAnyIn_take (i := 8) (v := ?_) rfl rfl (by kernel_rfl) (by kernel_rfl) (by kernel_rfl) (fun _ _ _ h => h) ⟨Or.inl ⟨by rfl, ?_⟩, fun _ => rfl⟩ ?_
            rotate_left 1
            · (intro w'; go_simp <;> with_reducible rfl)
            try simp only [Act.put, List.setIfInBounds_toArray, List.set_cons_zero, List.set_cons_succ]
            refine wpAnyIn_ready (rs := [9]) (by kernel_rfl) (by simp) ?_
            refine AllReadyIn.cons rfl (fun K hK => ?_) AllReadyIn.nil
            go_simp
            refine hK _ _ ?_
            clear hK K
            try simp only [Act.put, List.setIfInBounds_toArray, List.set_cons_zero, List.set_cons_succ]
            refine wpAnyIn_ready (rs := [10]) (by kernel_rfl) (by simp) ?_
            refine AllReadyIn.cons rfl (fun K hK => ?_) AllReadyIn.nil
            go_simp
            refine hK _ _ ?_
            clear hK K
            try simp only [Act.put, List.setIfInBounds_toArray, List.set_cons_zero, List.set_cons_succ]
            refine wpAnyIn_done (by kernel_rfl) ?_ _
            exact hK0 _ _ (Met.intro (hJ0 _ _ ⟨_, _, _, _, _, _, _, _, _, ⟨w4, hb4, rfl⟩, rfl⟩))
          · go_simp
            refine hK _ _ ?_
            clear hK K
            try simp only [Act.put, List.setIfInBounds_toArray, List.set_cons_zero, List.set_cons_succ]
            refine wpAnyIn_ready (rs := [7]) (by kernel_rfl) (by simp) ?_
            refine AllReadyIn.cons rfl (fun K hK => ?_) AllReadyIn.nil
            go_simp
            refine hK _ _ ?_
            clear hK K
            try simp only [Act.put, List.setIfInBounds_toArray, List.set_cons_zero, List.set_cons_succ]
            refine wpAnyIn_take (i := 8) (v := ?_) rfl rfl (by kernel_rfl) (by kernel_rfl) (by kernel_rfl) (fun _ _ _ h => h) ⟨Or.inl ⟨by rfl, ?_⟩, fun _ => rfl⟩ ?_
            rotate_left 1
            · (intro w'; go_simp <;> with_reducible rfl)
            try simp only [Act.put, List.setIfInBounds_toArray, List.set_cons_zero, List.set_cons_succ]
            refine wpAnyIn_ready (rs := [10]) (by kernel_rfl) (by simp) ?_
            refine AllReadyIn.cons rfl (fun K hK => ?_) AllReadyIn.nil
            go_simp
            refine hK _ _ ?_
            clear hK K
            try simp only [Act.put, List.setIfInBounds_toArray, List.set_cons_zero, List.set_cons_succ]
            refine wpAnyIn_done (by kernel_rfl) ?_ _
            exact hK0 _ _ (Met.intro (hJ0 _ _ ⟨_, _, _, _, _, _, _, _, _, ⟨w4, hb4, rfl⟩, rfl⟩))
        · go_simp
          refine hK _ _ ?_
          clear hK K
          try simp only [Act.put, List.setIfInBounds_toArray, List.set_cons_zero, List.set_cons_succ]
          refine wpAnyIn_ready (rs := [6, 9]) (by kernel_rfl) (by simp) ?_
          refine AllReadyIn.cons rfl (fun K hK => ?_) (AllReadyIn.cons rfl (fun K hK => ?_) AllReadyIn.nil)
          · go_simp
            refine hK _ _ ?_
            clear hK K
            try simp only [Act.put, List.setIfInBounds_toArray, List.set_cons_zero, List.set_cons_succ]
            refine wpAnyIn_take (i := 8) (v := ?_) rfl rfl (by kernel_rfl) (by kernel_rfl) (by kernel_rfl) (fun _ _ _ h => h) ⟨Or.inl ⟨by rfl, ?_⟩, fun _ => rfl⟩ ?_
            rotate_left 1
            · (intro w'; go_simp <;> with_reducible rfl)
            try simp only [Act.put, List.setIfInBounds_toArray, List.set_cons_zero, List.set_cons_succ]
            refine wpAnyIn_ready (rs := [9]) (by kernel_rfl) (by simp) ?_
            refine AllReadyIn.cons rfl (fun K hK => ?_) AllReadyIn.nil
            go_simp
            refine hK _ _ ?_
            clear hK K
            try simp only [Act.put, List.setIfInBounds_toArray, List.set_cons_zero, List.set_cons_succ]
            refine wpAnyIn_ready (rs := [10]) (by kernel_rfl) (by simp) ?_
            refine AllReadyIn.cons rfl (fun K hK => ?_) AllReadyIn.nil
            go_simp
            refine hK _ _ ?_
            clear hK K
            try simp only [Act.put, List.setIfInBounds_toArray, List.set_cons_zero, List.set_cons_succ]
            refine wpAnyIn_done (by kernel_rfl) ?_ _
            exact hK0 _ _ (Met.intro (hJ0 _ _ ⟨_, _, _, _, _, _, _, _, _, ⟨w4, hb4, rfl⟩, rfl⟩))
          · go_simp
            refine hK _ _ ?_
            clear hK K
            try simp only [Act.put, List.setIfInBounds_toArray, List.set_cons_zero, List.set_cons_succ]
            refine wpAnyIn_ready (rs := [6]) (by kernel_rfl) (by simp) ?_
            refine AllReadyIn.cons rfl (fun K hK => ?_) AllReadyIn.nil
            go_simp
            refine hK _ _ ?_
            clear hK K
            try simp only [Act.put, List.setIfInBounds_toArray, List.set_cons_zero, List.set_cons_succ]
            refine wpAnyIn_take (i := 8) (v := ?_) rfl rfl (by kernel_rfl) (by kernel_rfl) (by kernel_rfl) (fun _ _ _ h => h) ⟨Or.inl ⟨by rfl, ?_⟩, fun _ => rfl⟩ ?_
            rotate_left 1
            · (intro w'; go_simp <;> with_reducible rfl)
            try simp only [Act.put, List.setIfInBounds_toArray, List.set_cons_zero, List.set_cons_succ]
            refine wpAnyIn_ready (rs := [10]) (by kernel_rfl) (by simp) ?_
            refine AllReadyIn.cons rfl (fun K hK => ?_) AllReadyIn.nil
            go_simp
            refine hK _ _ ?_
            clear hK K
            try simp only [Act.put, List.setIfInBounds_toArray, List.set_cons_zero, List.set_cons_succ]
            refine wpAnyIn_done (by kernel_rfl) ?_ _
            exact hK0 _ _ (Met.intro (hJ0 _ _ ⟨_, _, _, _, _, _, _, _, _, ⟨w4, hb4, rfl⟩, rfl⟩))
        · go_simp
          refine hK _ _ ?_
          clear hK K
          try simp only [Act.put, List.setIfInBounds_toArray, List.set_cons_zero, List.set_cons_succ]
          refine wpAnyIn_ready (rs := [6, 7]) (by kernel_rfl) (by simp) ?_
          refine AllReadyIn.cons rfl (fun K hK => ?_) (AllReadyIn.cons rfl (fun K hK => ?_) AllReadyIn.nil)
          · go_simp
            refine hK _ _ ?_
            clear hK K
            try simp only [Act.put, List.setIfInBounds_toArray, List.set_cons_zero, List.set_cons_succ]
            refine wpAnyIn_ready (rs := [7]) (by kernel_rfl) (by simp) ?_
            refine AllReadyIn.cons rfl (fun K hK => ?_) AllReadyIn.nil
            go_simp
            refine hK _ _ ?_
            clear hK K
            try simp only [Act.put, List.setIfInBounds_toArray, List.set_cons_zero, List.set_cons_succ]
            refine wpAnyIn_take (i := 8) (v := ?_) rfl rfl (by kernel_rfl) (by kernel_rfl) (by kernel_rfl) (fun _ _ _ h => h) ⟨Or.inl ⟨by rfl, ?_⟩, fun _ => rfl⟩ ?_
            rotate_left 1
            · (intro w'; go_simp <;> with_reducible rfl)
            try simp only [Act.put, List.setIfInBounds_toArray, List.set_cons_zero, List.set_cons_succ]
            refine wpAnyIn_ready (rs := [10]) (by kernel_rfl) (by simp) ?_
            refine AllReadyIn.cons rfl (fun K hK => ?_) AllReadyIn.nil
            go_simp
            refine hK _ _ ?_
            clear hK K
            try simp only [Act.put, List.setIfInBounds_toArray, List.set_cons_zero, List.set_cons_succ]
            refine wpAnyIn_done (by kernel_rfl) ?_ _
            exact hK0 _ _ (Met.intro (hJ0 _ _ ⟨_, _, _, _, _, _, _, _, _, ⟨w4, hb4, rfl⟩, rfl⟩))
          · go_simp
            refine hK _ _ ?_
            clear hK K
            try simp only [Act.put, List.setIfInBounds_toArray, List.set_cons_zero, List.set_cons_succ]
            refine wpAnyIn_ready (rs := [6]) (by kernel_rfl) (by simp) ?_
            refine AllReadyIn.cons rfl (fun K hK => ?_) AllReadyIn.nil
            go_simp
            refine hK _ _ ?_
            clear hK K
            try simp only [Act.put, List.setIfInBounds_toArray, List.set_cons_zero, List.set_cons_succ]
            refine wpAnyIn_take (i := 8) (v := ?_) rfl rfl (by kernel_rfl) (by kernel_rfl) (by kernel_rfl) (fun _ _ _ h => h) ⟨Or.inl ⟨by rfl, ?_⟩, fun _ => rfl⟩ ?_
            rotate_left 1
            · (intro w'; go_simp <;> with_reducible rfl)
            try simp only [Act.put, List.setIfInBounds_toArray, List.set_cons_zero, List.set_cons_succ]
            refine wpAnyIn_ready (rs := [10]) (by kernel_rfl) (by simp) ?_
            refine AllReadyIn.cons rfl (fun K hK => ?_) AllReadyIn.nil
            go_simp
            refine hK _ _ ?_
            clear hK K
            try simp only [Act.put, List.setIfInBounds_toArray, List.set_cons_zero, List.set_cons_succ]
            refine wpAnyIn_done (by kernel_rfl) ?_ _
            exact hK0 _ _ (Met.intro (hJ0 _ _ ⟨_, _, _, _, _, _, _, _, _, ⟨w4, hb4, rfl⟩, rfl⟩))
      case k11 =>
        rintro w4 g4 o4 ⟨hb4, k6, hg4⟩
        obtain ⟨q2', q3', q4', q5', f2', f3'⟩ := HFX.out w4 hb4
        have k6' : (w4.setCell ⟨w.heap.size + 1 + 1, 0, none⟩ (.int .i64 (KN : Nat))).cell? ⟨g4, o4 + 6, none⟩ = some (.int .i64 KL) := by rw [cell_same (heap_setCell_other w4 ⟨w.heap.size + 1 + 1, 0, none⟩ g4 _ hg4)]; exact k6
        show wpAnyIn _ _ _ _ _ _ _ _ _ _
        refine wpAnyIn_take (i := 4) (v := ?_) rfl rfl (by kernel_rfl) (by kernel_rfl) (by kernel_rfl) (fun _ _ _ h => h) ⟨Or.inl ⟨by rfl, ?_⟩, fun _ => rfl⟩ ?_
        rotate_left 1
        · (intro w'; go_simp <;> with_reducible rfl)
        try simp only [Act.put, List.setIfInBounds_toArray, List.set_cons_zero, List.set_cons_succ]
        refine wpAnyIn_take (i := 5) (v := ?_) rfl rfl (by kernel_rfl) (by kernel_rfl) (by kernel_rfl) (fun _ _ _ h => h) ⟨Or.inl ⟨by rfl, ?_⟩, fun _ => rfl⟩ ?_
        rotate_left 1
        · (intro w'; go_simp <;> with_reducible rfl)
        try simp only [Act.put, List.setIfInBounds_toArray, List.set_cons_zero, List.set_cons_succ]
        refine wpAnyIn_ready (rs := [6, 9]) (by kernel_rfl) (by simp) ?_
        refine AllReadyIn.cons rfl (fun K hK => ?_) (AllReadyIn.cons rfl (fun K hK => ?_) AllReadyIn.nil)
        · go_simp
          refine hK _ _ ?_
          clear hK K
          try simp only [Act.put, List.setIfInBounds_toArray, List.set_cons_zero, List.set_cons_succ]
          refine wpAnyIn_take (i := 8) (v := ?_) rfl rfl (by kernel_rfl) (by kernel_rfl) (by kernel_rfl) (fun _ _ _ h => h) ⟨Or.inl ⟨by rfl, ?_⟩, fun _ => rfl⟩ ?_
          rotate_left 1
          · (intro w'; go_simp <;> with_reducible rfl)
          try simp only [Act.put, List.setIfInBounds_toArray, List.set_cons_zero, List.set_cons_succ]
          refine wpAnyIn_ready (rs := [9]) (by kernel_rfl) (by simp) ?_
          refine AllReadyIn.cons rfl (fun K hK => ?_) AllReadyIn.nil
          go_simp
          refine hK _ _ ?_
          clear hK K
          try simp only [Act.put, List.setIfInBounds_toArray, List.set_cons_zero, List.set_cons_succ]
          refine wpAnyIn_ready (rs := [10]) (by kernel_rfl) (by simp) ?_
          refine AllReadyIn.cons rfl (fun K hK => ?_) AllReadyIn.nil
          go_simp
          refine hK _ _ ?_
          clear hK K
          try simp only [Act.put, List.setIfInBounds_toArray, List.set_cons_zero, List.set_cons_succ]
          refine wpAnyIn_done (by kernel_rfl) ?_ _
          exact hK0 _ _ (Met.intro (hJ0 _ _ ⟨_, _, _, _, _, _, _, _, _, ⟨w4, hb4, rfl⟩, rfl⟩))
        · go_simp
          refine hK _ _ ?_
          clear hK K
          try simp only [Act.put, List.setIfInBounds_toArray, List.set_cons_zero, List.set_cons_succ]
          refine wpAnyIn_ready (rs := [6]) (by kernel_rfl) (by simp) ?_
          refine AllReadyIn.cons rfl (fun K hK => ?_) AllReadyIn.nil
          go_simp
          refine hK _ _ ?_
          clear hK K
          try simp only [Act.put, List.setIfInBounds_toArray, List.set_cons_zero, List.set_cons_succ]
          refine wpAnyIn_take (i := 8) (v := ?_) rfl rfl (by kernel_rfl) (by kernel_rfl) (by kernel_rfl) (fun _ _ _ h => h) ⟨Or.inl ⟨by rfl, ?_⟩, fun _ => rfl⟩ ?_
          rotate_left 1
          · (intro w'; go_simp <;> with_reducible rfl)
          try simp only [Act.put, List.setIfInBounds_toArray, List.set_cons_zero, List.set_cons_succ]
          refine wpAnyIn_ready (rs := [10]) (by kernel_rfl) (by simp) ?_
          refine AllReadyIn.cons rfl (fun K hK => ?_) AllReadyIn.nil
          go_simp
          refine hK _ _ ?_
          clear hK K
          try simp only [Act.put, List.setIfInBounds_toArray, List.set_cons_zero, List.set_cons_succ]
          refine wpAnyIn_done (by kernel_rfl) ?_ _
          exact hK0 _ _ (Met.intro (hJ0 _ _ ⟨_, _, _, _, _, _, _, _, _, ⟨w4, hb4, rfl⟩, rfl⟩))
    case rest =>
      obtain ⟨w4, hb4, hw⟩ := hcut
      obtain ⟨hX, hY, hC, hP, hBW⟩ := HST.out
      have hb5 : Below W.heap.size W w4 := (Below.drew (Below.refl _ W)).trans hb4
      have hX4 := ((hX.below hb5 hX.lt).put 0 (.int .i64 (KN : Nat))).other (a := ⟨w.heap.size + 1 + 1 + 1, 0, none⟩) (by show w.heap.size + 1 + 1 ≠ w.heap.size + 1 + 1 + 1; omega) (.bool true)
      have hY4 := ((hY.below hb5 hY.lt).other (a := ⟨w.heap.size + 1 + 1, 0, none⟩) (by show w.heap.size + 1 + 1 + 1 ≠ w.heap.size + 1 + 1; omega) (.int .i64 (KN : Nat))).put 0 (.bool true)
      have hKs := ((ko_below hb5).trans ((KeepsOthers.setCell w4 ⟨w.heap.size + 1 + 1, 0, none⟩ (.int .i64 (KN : Nat))).trans (KeepsOthers.setCell _ ⟨w.heap.size + 1 + 1 + 1, 0, none⟩ (.bool true)))).same D _ hK rfl
      have hBs := ((hBW.trans (hb5.mono hBW.size)).setCell (p := ⟨w.heap.size + 1 + 1, 0, none⟩) (by show _ ≤ w.heap.size + 1 + 1; omega) (.int .i64 (KN : Nat))).setCell (p := ⟨w.heap.size + 1 + 1 + 1, 0, none⟩) (by show _ ≤ w.heap.size + 1 + 1 + 1; omega) (.bool true)
      rw [hw] at hX4 hY4 hKs hBs
      have c8 : wc.cell? ⟨w.heap.size + 1 + 1, 0, none⟩ = some (.int .i64 (KN : Nat)) := hX4.cell 0
      have c9 : wc.cell? ⟨w.heap.size + 1 + 1 + 1, 0, none⟩ = some (.bool true) := hY4.cell 0
      have hca := cell_kept c8 (grownBy_putObj' wc D (.deferred none)) (fun r e => by cases e; exact ⟨_, hKs, rfl⟩)
      have hcb := cell_kept c9 (grownBy_putObj' wc D (.deferred none)) (fun r e => by cases e; exact ⟨_, hKs, rfl⟩)
      have HB := Lib.hid (hBs.trans (belowK_b (w := w) (Nat.le_refl _) wc D _ (.deferred none) (by omega) hKs rfl rfl))
      clear hX hY hC hP hBW hX4 hY4 hBs hb5 hw hb4
      gi_wp2_with fail
      refine ⟨by simp, .inl ⟨_, _, rfl, run_takeDeferred hKs, ?_⟩⟩
      refine ⟨.tuple #[.int .i64 (KN : Nat), .bool true], ?_, by rw [hKN], HB.out⟩
      simp [results, Tryd.f45, go_sem, hca, hcb]
  case stop =>
    rintro D c pre W hD hsp ⟨rfl, hno⟩ hK
    exact absurd hsp hno
end Go.Proofs.YtelncgfeojfafaaDoor

/- linked: all links lead from parents to their children, and back. -/
namespace Go.Proofs.YtelncgfeojfafaaDoor
open Go.RowKit Go.Shelf
set_option linter.unusedVariables false
set_option linter.unusedSimpArgs false
attribute [local go_sem] Oper.semAt_some

/-- The tree can be read, and the iterator's box lies. -/
structure AS (base B bb : Nat) (b s : Int) (vs : Value) (n : Nat) (R : Int → Option Tr.Nd) (vf : Value) (fr : List Nat) (live : Nat) (root : Int) (W : World) : Prop where
  tree : TV base W B b s vs n R vf fr live root
  bb : Whole W bb #[.pointer (some ⟨B, 0, none⟩)] 62
section
variable {base B bb n live : Nat} {b s root : Int} {vs vf : Value} {R : Int → Option Tr.Nd} {fr : List Nat} {W W' : World}
theorem AS.below (H : AS base B bb b s vs n R vf fr live root W) (hb : Below W.heap.size W W') : AS base B bb b s vs n R vf fr live root W' := ⟨H.tree.below hb, H.bb.below hb H.bb.lt⟩
theorem AS.others {row : Option Nat} (H : AS base B bb b s vs n R vf fr live root W) (hg : W.grownBy W' row) (hr : ∀ r, row = some r → ∃ o : Obj, W.heap[r]? = some o ∧ o.isCells = false) : AS base B bb b s vs n R vf fr live root W' := ⟨H.tree.others hg hr, whole_others H.bb hg hr⟩
theorem AS.set (H : AS base B bb b s vs n R vf fr live root W) {m : Nat} (hm : ¬ Foot B vs vf m) (h1 : m ≠ bb) (i : Nat) (v : Value) : AS base B bb b s vs n R vf fr live root (W.setCell ⟨m, i, none⟩ v) :=
  ⟨H.tree.turns (S := fun k => k = m) (.of_grown (gb_put (gb_of_below (Below.refl W.heap.size W) (some m)) i v) (fun j hj => by simpa using hj.symm)) (fun k hk e => hm (e ▸ hk)), H.bb.other (fun e => h1 e.symm) _⟩
theorem AS.keepB (w : World) : ∀ (W : World) (l : Nat) (o o' : Obj), w.heap.size ≤ l → W.heap[l]? = some o → o.isCells = false → o.isWalk = false → AS base B bb b s vs n R vf fr live root W → AS base B bb b s vs n R vf fr live root (W.putObj l o') :=
  fun W l o o' _ hl hc _ H => H.others (grownBy_putObj' W l o') (fun r e => by cases e; exact ⟨o, hl, hc⟩)
theorem AS.ids : AIds (AS base B bb b s vs n R vf fr live root) B bb b s vs n R where
  read W H := ⟨base, live, vf, fr, root, H.tree⟩
  below W W' hb H := H.below hb
  box W H := H.bb.cell 0
theorem all_seq (hn : n ≤ 100000) (w : World) (H : AS base B bb b s vs n R vf fr live root w) :
    SeqStopsK Fence.wide 4 Tryd.prog 46 #[.pointer (some ⟨bb, 0, none⟩)] (fun x : {x : Int × Tr.Nd // x ∈ allN b s R n} => encN x.1)
      (fun A B' => AS base B bb b s vs n R vf fr live root A → AS base B bb b s vs n R vf fr live root B') (fun xs => xs = (allN b s R n).attach) (fun pre => pre <+: (allN b s R n).attach) (allN b s R n).length w :=
  fun l J Jx W hW hJ _ hY h0 => nall1_in _ B bb l b s vs n R J Jx W AS.ids hn hJ hY (H.below hW) h0
theorem AS.made {w : World} (H : TV base w B b s vs n R vf fr live root) : AS base B w.heap.size b s vs n R vf fr live root (w.alloc (.cells #[.pointer (some ⟨B, 0, none⟩)] 62)) :=
  ⟨H.below ((Below.refl _ w).alloc (Nat.le_refl _) _), Whole.new w _ _⟩
end

theorem Tr.cntK_le {g : Tr.G} (hlen : ∀ h, (Tr.kidsOf g h).length ≤ 1000000) (l : List Int) : Tr.cntK g l ≤ l.length * 1000000 := by
  induction l with
  | nil => exact Nat.zero_le _
  | cons a r ih =>
    have := hlen a
    show (Tr.kidsOf g a).length + Tr.cntK g r ≤ (r.length + 1) * 1000000
    omega
theorem Tr.cntP_le (g : Tr.G) (l : List Int) : Tr.cntP g l ≤ l.length := List.length_filter_le _ _
theorem allN_len (b s : Int) (R : Int → Option Tr.Nd) (n : Nat) : (allN b s R n).length ≤ n := by
  unfold allN
  refine Nat.le_trans (List.length_filterMap_le _ _) ?_
  rw [List.length_range]; exact Nat.le_refl _
theorem allN_nodup (b s : Int) (R : Int → Option Tr.Nd) {n : Nat} (hn : n ≤ 100000) : ((allN b s R n).map (·.1)).Nodup := by
  have : ∀ k, k ≤ n → ((allN b s R k).map (·.1)).Nodup := by
    intro k
    induction k with
    | zero => intro _; exact List.nodup_nil
    | succ k ih =>
      intro hk
      cases e : R (Ar.hdl b s (k : Int)) with
      | none => rw [allN_none e]; exact ih (by omega)
      | some d =>
        rw [allN_some e, List.map_append]
        refine List.nodup_append.2 ⟨ih (by omega), by simp, ?_⟩
        intro x hx y hy exy
        obtain ⟨q, hq, rfl⟩ := List.mem_map.1 hx
        obtain ⟨i, hi, e1, _⟩ := allN_mem.1 hq
        simp at hy
        subst hy
        rw [e1] at exy
        have := hdl_inj (by omega) (by omega) exy
        omega
  exact this n (Nat.le_refl _)
theorem allN_all {b s : Int} {n live : Nat} {g : Tr.G} {av : Int → Tr.Sl} {fr : List Nat} (hS : Sound b s n (Tr.raw g av) fr live) (h : Int) : h ∈ (allN b s (Tr.raw g av) n).map (·.1) ↔ (g h).isSome := by
  rw [← raw_isSome (av := av), List.mem_map]
  constructor
  · rintro ⟨q, hq, rfl⟩
    obtain ⟨_, _, _, e⟩ := allN_mem.1 hq
    rw [e]; rfl
  · intro e
    obtain ⟨d, ed⟩ := Option.isSome_iff_exists.1 e
    obtain ⟨i, h1, h2⟩ := hS.dom h e
    exact ⟨(h, d), allN_mem.2 ⟨i, h1, h2.symm, ed⟩, rfl⟩
theorem lkl_boxes (B : Nat) (w : World) :
    let W := (((w.alloc (.cells #[.pointer (some ⟨B, 0, none⟩)] 23)).alloc (.cells #[.bool false] 4)).alloc (.cells #[.int .i64 0] 3)).alloc (.cells #[.int .i64 0] 3)
    Whole W w.heap.size #[.pointer (some ⟨B, 0, none⟩)] 23 ∧ Whole W (w.heap.size + 1) #[.bool false] 4 ∧ Whole W (w.heap.size + 1 + 1) #[.int .i64 0] 3 ∧ Whole W (w.heap.size + 1 + 1 + 1) #[.int .i64 0] 3 := by
  intro W
  have a0 := Whole.new w #[.pointer (some ⟨B, 0, none⟩)] 23
  have a1 := Whole.new (w.alloc (.cells #[.pointer (some ⟨B, 0, none⟩)] 23)) #[.bool false] 4
  have a2 := Whole.new ((w.alloc (.cells #[.pointer (some ⟨B, 0, none⟩)] 23)).alloc (.cells #[.bool false] 4)) #[.int .i64 0] 3
  have a3 := Whole.new (((w.alloc (.cells #[.pointer (some ⟨B, 0, none⟩)] 23)).alloc (.cells #[.bool false] 4)).alloc (.cells #[.int .i64 0] 3)) #[.int .i64 0] 3
  simp only [World.size_alloc] at a1 a2 a3
  exact ⟨((a0.alloc _).alloc _).alloc _, (a1.alloc _).alloc _, a2.alloc _, a3⟩

set_option maxRecDepth 100000 in
set_option maxHeartbeats 1000000 in
theorem linked_any (base B : Nat) (b s root : Int) (live n : Nat) (g : Tr.G) (av : Int → Tr.Sl) (fr : List Nat) (vs vf : Value) (w : World) (hm : TV base w B b s vs n (Tr.raw g av) vf fr live root) (hS : Sound b s n (Tr.raw g av) fr live) (hw : Tr.WF 0 g) (hlen : ∀ h, (Tr.kidsOf g h).length ≤ 1000000) :
    Calls Tryd.prog 25 #[.pointer (some ⟨B, 0, none⟩)] w fun e w' => e = .returned (.bool true) ∧ Below w.heap.size w w' := by
  have hlt := hm.lt
  refine (callsIn_wide (n := 5)).1 ?_
  refine callsIn_of_wp_marks Tryd.func25 rfl trivial ?_ rfl
  simp only [Tryd.ntmps25, List.size_toArray, List.length_cons, List.length_nil, Nat.reduceAdd, Nat.reduceSub, Array.replicate_succ, Array.replicate_zero, List.push_toArray, List.append_toArray, List.nil_append, List.cons_append]
  obtain ⟨w1, hw1⟩ : ∃ w1, (((w.alloc (.cells #[.pointer (some ⟨B, 0, none⟩)] 23)).alloc (.cells #[.bool false] 4)).alloc (.cells #[.int .i64 0] 3)).alloc (.cells #[.int .i64 0] 3) = w1 := ⟨_, rfl⟩
  have hz1 : w1.heap.size = w.heap.size + 4 := by rw [← hw1]; simp
  have hb1 : Below w.heap.size w w1 := by
    rw [← hw1]
    exact ((((Below.refl _ w).alloc (Nat.le_refl _) _).alloc (by simp) _).alloc (by simp; omega) _).alloc (by simp; omega) _
  have hwh := lkl_boxes B w
  rw [hw1] at hwh
  obtain ⟨hT1, hX1, hF1, hQ1⟩ := hwh
  have z2 := hF1.free 0
  have c2 : w1.cell? ⟨w.heap.size + 1 + 1, 0, none⟩ = some (.int .i64 0) := hF1.cell 0
  have z3 := hQ1.free 0
  have c3 : w1.cell? ⟨w.heap.size + 1 + 1 + 1, 0, none⟩ = some (.int .i64 0) := hQ1.cell 0
  have t0 : w1.cell? ⟨w.heap.size, 0, none⟩ = some (.pointer (some ⟨B, 0, none⟩)) := hT1.cell 0
  gi_wp2_with fail
  obtain ⟨wa, hwa⟩ : ∃ wa, (w1.setCell ⟨w.heap.size + 1 + 1, 0, none⟩ (.int .i64 0)).setCell ⟨w.heap.size + 1 + 1 + 1, 0, none⟩ (.int .i64 0) = wa := ⟨_, rfl⟩
  try rw [hwa]
  have hTa : Whole wa w.heap.size #[.pointer (some ⟨B, 0, none⟩)] 23 := by rw [← hwa]; exact (hT1.other (a := ⟨w.heap.size + 1 + 1, 0, none⟩) (by show w.heap.size ≠ w.heap.size + 1 + 1; omega) _).other (a := ⟨w.heap.size + 1 + 1 + 1, 0, none⟩) (by show w.heap.size ≠ w.heap.size + 1 + 1 + 1; omega) _
  have hXa : Whole wa (w.heap.size + 1) #[.bool false] 4 := by rw [← hwa]; exact (hX1.other (a := ⟨w.heap.size + 1 + 1, 0, none⟩) (by show w.heap.size + 1 ≠ w.heap.size + 1 + 1; omega) _).other (a := ⟨w.heap.size + 1 + 1 + 1, 0, none⟩) (by show w.heap.size + 1 ≠ w.heap.size + 1 + 1 + 1; omega) _
  have hFa : Whole wa (w.heap.size + 1 + 1) #[.int .i64 0] 3 := by rw [← hwa]; exact (hF1.put 0 (.int .i64 0)).other (a := ⟨w.heap.size + 1 + 1 + 1, 0, none⟩) (by show w.heap.size + 1 + 1 ≠ w.heap.size + 1 + 1 + 1; omega) _
  have hQa : Whole wa (w.heap.size + 1 + 1 + 1) #[.int .i64 0] 3 := by rw [← hwa]; exact (hQ1.other (a := ⟨w.heap.size + 1 + 1, 0, none⟩) (by show w.heap.size + 1 + 1 + 1 ≠ w.heap.size + 1 + 1; omega) _).put 0 (.int .i64 0)
  have hba : Below w.heap.size w wa := by rw [← hwa]; exact (hb1.setCell (p := ⟨w.heap.size + 1 + 1, 0, none⟩) (by show _ ≤ w.heap.size + 1 + 1; omega) _).setCell (p := ⟨w.heap.size + 1 + 1 + 1, 0, none⟩) (by show _ ≤ w.heap.size + 1 + 1 + 1; omega) _
  have hza : wa.heap.size = w.heap.size + 4 := by rw [← hwa]; simp; omega
  clear hwa hw1 hz1 hb1 hT1 hX1 hF1 hQ1 z2 c2 z3 c3 t0
  have hL := AS.made (hm.below hba)
  have hsz2 : (wa.alloc (.cells #[.pointer (some ⟨B, 0, none⟩)] 62)).heap.size = wa.heap.size + 1 := by simp
  have hb2 : Below wa.heap.size wa (wa.alloc (.cells #[.pointer (some ⟨B, 0, none⟩)] 62)) := (Below.refl _ wa).alloc (Nat.le_refl _) _
  have hseq := all_seq hS.le _ hL
  refine ⟨trivial, (callsIn_wide.2 (nall_make B wa)).mono ?_⟩
  rintro e w' ⟨rfl, hw'⟩
  rw [← hw'] at hL hsz2 hb2 hseq
  have hT2 := hTa.below hb2 hTa.lt
  have hX2 := hXa.below hb2 hXa.lt
  have hF2 := hFa.below hb2 hFa.lt
  have hQ2 := hQa.below hb2 hQa.lt
  have hB2 := hba.trans (hb2.mono hba.size)
  have HSS := Lib.hid hS
  clear hm hS hw' hb2 hTa hXa hFa hQa
  gi_wp2_with fail
  rw [hza] at hseq hL hsz2
  have hm2 : ¬ Foot B vs vf (w.heap.size + 1 + 1) := fun hk => by have := (hlt _ hk).2; omega
  have hm3 : ¬ Foot B vs vf (w.heap.size + 1 + 1 + 1) := fun hk => by have := (hlt _ hk).2; omega
  refine wpIn_rangeFunc_ownH (w := w') rfl (by decide) (gf := 46) (lb := #[.pointer (some ⟨w.heap.size + 1 + 1 + 1 + 1, 0, none⟩)]) rfl trivial (enters_of Tryd.func46 (by kernel_rfl) rfl) hseq LS.keepT (AS.keepB _) (Below.refl _ _) (fun _ => rfl)
    (fun pre W => Whole W w.heap.size #[.pointer (some ⟨B, 0, none⟩)] 23 ∧ Whole W (w.heap.size + 1) #[.bool false] 4 ∧ Whole W (w.heap.size + 1 + 1) #[.int .i64 (Tr.cntK g (pre.map (·.1.1)) : Nat)] 3 ∧ Whole W (w.heap.size + 1 + 1 + 1) #[.int .i64 (Tr.cntP g (pre.map (·.1.1)) : Nat)] 3 ∧ AS base B (w.heap.size + 1 + 1 + 1 + 1) b s vs n (Tr.raw g av) vf fr live root W ∧ Below w.heap.size w W)
    (fun _ _ _ => False)
    ?hI ?hIx ⟨hT2, hX2, hF2, hQ2, hL, hB2⟩ (fun x a' W => ∃ bx, a' = { tmps := #[.pointer (some ⟨B, 0, none⟩), .pointer (some ⟨w.heap.size, 0, none⟩), .pointer (some ⟨w.heap.size + 1, 0, none⟩), .pointer (some ⟨w.heap.size + 1 + 1, 0, none⟩), .pointer (some ⟨w.heap.size + 1 + 1 + 1, 0, none⟩), .int .i64 x.1.1, .pointer (some ⟨bx, 0, none⟩), undef, undef, .pointer (some ⟨B, 0, none⟩), .pointer (some ⟨B, 0, none⟩), .pointer (some ⟨B, 0, none⟩), .func (.func 46) #[] #[.pointer (some ⟨w.heap.size + 1 + 1 + 1 + 1, 0, none⟩)], .int .i64 x.1.1, ndV x.1.2, undef, undef, undef, undef, undef, undef, undef, undef, undef, undef, undef, undef, undef, undef, undef, undef, undef, undef, undef, undef, undef, undef, undef, undef, undef, undef, undef, undef, undef, undef, undef, undef, undef, undef], defers := [] } ∧ Whole W bx (ndC x.1.2) 45) ?hAx ?assign ?body ?done ?stop
  case hI =>
    rintro pre W W' row ⟨hT, hX, hF, hQ, h2, h3⟩ hg hr
    exact ⟨whole_others hT hg (fun r e => (hr r e).2), whole_others hX hg (fun r e => (hr r e).2), whole_others hF hg (fun r e => (hr r e).2), whole_others hQ hg (fun r e => (hr r e).2), h2.others hg (fun r e => (hr r e).2), h3.grown hg h3.size (fun r e => by have := (hr r e).1; omega)⟩
  case hIx => intro c pre W W' row h _ _; exact h
  case hAx =>
    rintro x a' u W W' row ⟨bx, e, hx⟩ hg hr
    exact ⟨bx, e, whole_others hx hg (fun r e => (hr r e).2)⟩
  case assign =>
    rintro l pre x W K ⟨hT, hX, hF, hQ, hLW, hBW⟩ hK
    have hbA : Below W.heap.size W (W.alloc (.cells (ndC x.1.2) 45)) := (Below.refl _ W).alloc (Nat.le_refl _) _
    have HK := Lib.hid (hK _ _ ((ko_below hbA).from _) (fun h => h.below hbA) ⟨hT.below hbA hT.lt, hX.below hbA hX.lt, hF.below hbA hF.lt, hQ.below hbA hQ.lt, hLW.below hbA, hBW.trans (hbA.mono hBW.size)⟩ ⟨W.heap.size, rfl, Whole.new W _ _⟩)
    clear hK hT hX hF hQ hLW hBW hbA
    gi_wp2
    first | exact HK.out | simpa using HK.out
  case body =>
    rintro l pre x a' W hl hrec ⟨hT, hX, hF, hQ, hLW, hBW⟩ ⟨bx, rfl, hbx⟩ hlen2
    obtain ⟨⟨h, d⟩, hmem⟩ := x
    obtain ⟨i, hi, hih, er⟩ := allN_mem.1 hmem
    dsimp only at er hih
    clear hih hi
    have hxi := (tmem_i64 HSS.out (h := h) (by rw [er]; rfl)).1
    have hin : (g h).isSome := by rw [← raw_isSome (av := av), er]; rfl
    obtain ⟨m, em⟩ := Option.isSome_iff_exists.1 hin
    rw [Tr.raw_some em] at er
    obtain rfl := Option.some.inj er
    have hbnd : Tr.cntK g (pre.map (·.1.1)) ≤ 100000000000 ∧ Tr.cntP g (pre.map (·.1.1)) ≤ 100000 := by
      have h1 := Tr.cntK_le hlen (pre.map (·.1.1))
      have h2 := Tr.cntP_le g (pre.map (·.1.1))
      have h3 := allN_len b s (Tr.raw g av) n
      have h4 := HSS.out.le
      rw [List.length_map] at h1 h2
      omega
    have hkl := hlen h
    have hlinks : m.pa = 0 → (Tr.raw1 g av h m).pr = 0 ∧ (Tr.raw1 g av h m).ne = 0 := fun e => by
      unfold Tr.raw1
      rw [e, Tr.kidsOf_none hw.zero]
      exact ⟨rfl, rfl⟩
    have hpaq : (Tr.raw1 g av h m).pa = m.pa := rfl
    have HLK := Lib.hid (lkids_any base B b s root h live n g av fr vs vf W hLW.tree HSS.out hw hxi (hlen h) hin)
    obtain ⟨d, hd⟩ : ∃ d, Tr.raw1 g av h m = d := ⟨_, rfl⟩
    change Whole W bx (ndC (Tr.raw1 g av h m)) _ at hbx
    rw [hd] at hbx hlinks hpaq
    have hK1' := Tr.cntK_snoc g (pre.map (·.1.1)) h
    have hP1' := Tr.cntP_snoc g (pre.map (·.1.1)) h
    rw [Tr.paOf_some em] at hP1'
    have t0 : W.cell? ⟨w.heap.size, 0, none⟩ = some (.pointer (some ⟨B, 0, none⟩)) := hT.cell 0
    have HST := Lib.hid (And.intro hT (And.intro hX (And.intro hF (And.intro hQ (And.intro hLW (And.intro hBW hbx))))))
    have hne2 : bx ≠ w.heap.size + 1 + 1 := hbx.unlike hF (by decide)
    have hne3 : bx ≠ w.heap.size + 1 + 1 + 1 := hbx.unlike hQ (by decide)
    have hmap : (pre ++ [(⟨(h, Tr.raw1 g av h m), hmem⟩ : {x : Int × Tr.Nd // x ∈ allN b s (Tr.raw g av) n})]).map (fun y : {x : Int × Tr.Nd // x ∈ allN b s (Tr.raw g av) n} => y.1.1) = pre.map (fun y => y.1.1) ++ [h] := by rw [List.map_append]; rfl
    obtain ⟨CK, hCK⟩ : ∃ CK, Tr.cntK g (pre.map (fun y => y.1.1)) = CK := ⟨_, rfl⟩
    obtain ⟨CP, hCP⟩ : ∃ CP, Tr.cntP g (pre.map (fun y => y.1.1)) = CP := ⟨_, rfl⟩
    obtain ⟨KN, hKN⟩ : ∃ KN, (Tr.kidsOf g h).length = KN := ⟨_, rfl⟩
    rw [hCK, hCP] at hbnd
    rw [hKN] at hkl HLK
    rw [hCK, hKN] at hK1'
    rw [hCP] at hP1'
    clear hT hX hF hQ hLW hBW hbx
    gi_wp2_with fail
    refine ⟨trivial, (CallsIn.inRound l (callsIn_wide.2 HLK.out)).mono ?_⟩
    rintro e w4 ⟨rfl, hb4⟩
    obtain ⟨hT, hX, hF, hQ, hLW, hBW, hbx⟩ := HST.out
    have hT4 := hT.below hb4 hT.lt
    have hX4 := hX.below hb4 hX.lt
    have hF4 := hF.below hb4 hF.lt
    have hQ4 := hQ.below hb4 hQ.lt
    have hL4 := hLW.below hb4
    have hB4 := hBW.trans (hb4.mono hBW.size)
    have hx4 := hbx.below hb4 hbx.lt
    have k4 : w4.cell? ⟨bx, 4, none⟩ = some (.int .i64 d.pa) := hx4.cell 4
    have k7 : w4.cell? ⟨bx, 7, none⟩ = some (.int .i64 d.pr) := hx4.cell 7
    have k8 : w4.cell? ⟨bx, 8, none⟩ = some (.int .i64 d.ne) := hx4.cell 8
    have q2 : w4.cell? ⟨w.heap.size + 1 + 1, 0, none⟩ = some (.int .i64 (CK : Nat)) := by rw [← hCK]; exact hF4.cell 0
    have q3 : w4.cell? ⟨w.heap.size + 1 + 1 + 1, 0, none⟩ = some (.int .i64 (CP : Nat)) := by rw [← hCP]; exact hQ4.cell 0
    have f2 := hF4.free 0
    have f3 := hQ4.free 0
    have hko := ko_below hb4
    rw [hpaq] at k4
    clear hT hX hF hQ hLW hBW hbx HST HLK
    by_cases hpa : m.pa = 0
    · obtain ⟨h7, h8⟩ := hlinks hpa
      rw [h7] at k7
      rw [h8] at k8
      rw [hpa] at k4
      rw [if_neg (by simp [hpa])] at hP1'
      have HF := Lib.hid (And.intro (hT4.other (a := ⟨w.heap.size + 1 + 1, 0, none⟩) (by show w.heap.size ≠ w.heap.size + 1 + 1; omega) (.int .i64 ((CK : Int) + (KN : Int)))) (And.intro (hX4.other (a := ⟨w.heap.size + 1 + 1, 0, none⟩) (by show w.heap.size + 1 ≠ w.heap.size + 1 + 1; omega) (.int .i64 ((CK : Int) + (KN : Int)))) (And.intro (hF4.put 0 (.int .i64 ((CK : Int) + (KN : Int)))) (And.intro (hQ4.other (a := ⟨w.heap.size + 1 + 1, 0, none⟩) (by show w.heap.size + 1 + 1 + 1 ≠ w.heap.size + 1 + 1; omega) (.int .i64 ((CK : Int) + (KN : Int)))) (And.intro (hL4.set hm2 (by omega) 0 (.int .i64 ((CK : Int) + (KN : Int)))) (hB4.setCell (p := ⟨w.heap.size + 1 + 1, 0, none⟩) (by show _ ≤ w.heap.size + 1 + 1; omega) (.int .i64 ((CK : Int) + (KN : Int)))))))))
      clear hT4 hX4 hF4 hQ4 hL4 hB4 hx4 hlinks hpaq h7 h8 hpa
      gi_wp2_with fail
      refine ⟨(hko.trans (KeepsOthers.setCell _ _ _)).from _, fun _ => HF.out.2.2.2.2.1, ?_⟩
      show _ ∧ _
      rw [hmap, hK1', hP1', Nat.add_zero]
      have HH := HF.out
      rw [← hCP] at hP1' ⊢
      exact HH
    · have hq1 : (m.pa == 0) = false := by simpa using hpa
      have hq2 : (m.pa != 0) = true := by simpa using hpa
      rw [if_pos hpa] at hP1'
      have HF := Lib.hid (And.intro ((hT4.other (a := ⟨w.heap.size + 1 + 1, 0, none⟩) (by show w.heap.size ≠ w.heap.size + 1 + 1; omega) (.int .i64 ((CK : Int) + (KN : Int)))).other (a := ⟨w.heap.size + 1 + 1 + 1, 0, none⟩) (by show w.heap.size ≠ w.heap.size + 1 + 1 + 1; omega) (.int .i64 ((CP : Int) + 1))) (And.intro ((hX4.other (a := ⟨w.heap.size + 1 + 1, 0, none⟩) (by show w.heap.size + 1 ≠ w.heap.size + 1 + 1; omega) (.int .i64 ((CK : Int) + (KN : Int)))).other (a := ⟨w.heap.size + 1 + 1 + 1, 0, none⟩) (by show w.heap.size + 1 ≠ w.heap.size + 1 + 1 + 1; omega) (.int .i64 ((CP : Int) + 1))) (And.intro ((hF4.put 0 (.int .i64 ((CK : Int) + (KN : Int)))).other (a := ⟨w.heap.size + 1 + 1 + 1, 0, none⟩) (by show w.heap.size + 1 + 1 ≠ w.heap.size + 1 + 1 + 1; omega) (.int .i64 ((CP : Int) + 1))) (And.intro ((hQ4.other (a := ⟨w.heap.size + 1 + 1, 0, none⟩) (by show w.heap.size + 1 + 1 + 1 ≠ w.heap.size + 1 + 1; omega) (.int .i64 ((CK : Int) + (KN : Int)))).put 0 (.int .i64 ((CP : Int) + 1))) (And.intro ((hL4.set hm2 (by omega) 0 (.int .i64 ((CK : Int) + (KN : Int)))).set hm3 (by omega) 0 (.int .i64 ((CP : Int) + 1))) ((hB4.setCell (p := ⟨w.heap.size + 1 + 1, 0, none⟩) (by show _ ≤ w.heap.size + 1 + 1; omega) (.int .i64 ((CK : Int) + (KN : Int)))).setCell (p := ⟨w.heap.size + 1 + 1 + 1, 0, none⟩) (by show _ ≤ w.heap.size + 1 + 1 + 1; omega) (.int .i64 ((CP : Int) + 1))))))))
      clear hT4 hX4 hF4 hQ4 hL4 hB4 hx4 hlinks hpaq hpa
      gi_wp2_with fail
      refine ⟨((hko.trans (KeepsOthers.setCell _ _ _)).trans (KeepsOthers.setCell _ _ _)).from _, fun _ => HF.out.2.2.2.2.1, ?_⟩
      show _ ∧ _
      rw [hmap, hK1', hP1']
      exact HF.out
  case done =>
    rintro D xs W hD rfl ⟨hT, hX, hF, hQ, hLW, hBW⟩ hK
    have hmapx : (allN b s (Tr.raw g av) n).attach.map (fun y : {x : Int × Tr.Nd // x ∈ allN b s (Tr.raw g av) n} => y.1.1) = (allN b s (Tr.raw g av) n).map (·.1) := by
      have := congrArg (List.map (fun y : Int × Tr.Nd => y.1)) (List.attach_map_subtype_val (allN b s (Tr.raw g av) n))
      rw [List.map_map] at this
      exact this
    rw [hmapx] at hF hQ
    rw [← Tr.cnt_eq hw (allN_nodup b s (Tr.raw g av) HSS.out.le) (allN_all HSS.out)] at hQ
    obtain ⟨CK, hCK⟩ : ∃ CK, Tr.cntK g ((allN b s (Tr.raw g av) n).map (·.1)) = CK := ⟨_, rfl⟩
    rw [hCK] at hF hQ
    have q2 : W.cell? ⟨w.heap.size + 1 + 1, 0, none⟩ = some (.int .i64 (CK : Nat)) := hF.cell 0
    have q3 : W.cell? ⟨w.heap.size + 1 + 1 + 1, 0, none⟩ = some (.int .i64 (CK : Nat)) := hQ.cell 0
    have c0 : W.cell? ⟨w.heap.size + 1, 0, none⟩ = some (.bool false) := hX.cell 0
    have f0 := hX.free 0
    have hX' := hX.put 0 (.bool true)
    have hKs := (KeepsOthers.setCell W ⟨w.heap.size + 1, 0, none⟩ (.bool true)).same D _ hK rfl
    have hBs := hBW.setCell (p := ⟨w.heap.size + 1, 0, none⟩) (by show _ ≤ w.heap.size + 1; omega) (.bool true)
    obtain ⟨V, hV⟩ : ∃ V, W.setCell ⟨w.heap.size + 1, 0, none⟩ (.bool true) = V := ⟨_, rfl⟩
    rw [hV] at hX' hKs hBs
    have c9 : V.cell? ⟨w.heap.size + 1, 0, none⟩ = some (.bool true) := hX'.cell 0
    have hca := cell_kept c9 (grownBy_putObj' V D (.deferred none)) (fun r e => by cases e; exact ⟨_, hKs, rfl⟩)
    have HB := Lib.hid (hBs.trans (belowK_b (w := w) (Nat.le_refl _) V D _ (.deferred none) (by omega) hKs rfl rfl))
    have hqq : ((CK : Int) == (CK : Int)) = true := by simp
    clear hT hX hF hQ hLW hBW hX' hBs
    gi_wp2_with fail
    refine ⟨by simp, .inl ⟨_, _, rfl, run_takeDeferred hKs, ?_⟩⟩
    refine ⟨.bool true, ?_, rfl, HB.out⟩
    simp [results, Tryd.f25, go_sem, hca]
  case stop =>
    rintro D c pre W _ _ h _
    exact h.elim
end Go.Proofs.YtelncgfeojfafaaDoor
