/- The function that an arena's All hands back: it yields the records in ascending order of their slots. -/
import Derived.Test.YthocodmniofioaaAAll
import Derived.Test.YthocodmniofioaaARec
import Derived.Lib.OthersKept
import Derived.RangeFuncNested
import Derived.RangeFuncBound
import Derived.RangeFuncCalls
import Derived.RangeFuncLeaves
import Derived.Shelf.Abstract
import Derived.Shelf.RegionOpen
import Derived.OwnWalkIn
import Derived.TacticsInMore
import Derived.LoopNIn
import Derived.LoopIn
import Derived.Stop.RegionWithIn
import Derived.Outline
namespace Go.Proofs.Ythocodmniofioaa
open Go.RowKit Go.Shelf
attribute [local go_sem] Oper.semAt_some

theorem KeepA.trans {m1 m2 : Nat} {A B C : World} (h : KeepA m1 m2 A B) (k : KeepA m1 m2 B C) : KeepA m1 m2 A C :=
  ⟨Nat.le_trans h.1 k.1, fun i o hi h1 h2 ho => k.2 i o (h.2 i o hi h1 h2 ho) h1 h2 ho⟩
theorem KeepA.put {m1 m2 : Nat} {w : World} (W : World) (l : Nat) (o o' : Obj) (_ : w.heap.size ≤ l) (hl : W.heap[l]? = some o) (hc : o.isCells = false) (_ : o.isWalk = false) : KeepA m1 m2 W (W.putObj l o') := by
  have h := grownBy_putObj' W l o'
  refine ⟨h.size, fun k x hk _ _ hx => ?_⟩
  by_cases e : k = l
  · subst e
    rw [hl] at hk
    obtain rfl := Option.some.inj hk
    rw [hc] at hx; cases hx
  · rw [World.putObj_heap_other e]; exact hk
theorem KeepA.below {m1 m2 : Nat} {W W' : World} (h : Below W.heap.size W W') : KeepA m1 m2 W W' :=
  ⟨h.size, fun k o hk _ _ _ => (h.block k (Array.getElem?_eq_some_iff.1 hk).1).trans hk⟩
/-- A record as the loop's two values. -/
abbrev encA (b s : Int) (x : Ar.Rc) : Array Value := #[.int .i64 (Ar.hdl b s (x.i : Int)), .int .i64 x.v]
/-- Three blocks lie as they lay. -/
def Same3 (b1 b2 b3 : Nat) (W W' : World) : Prop := W'.heap[b1]? = W.heap[b1]? ∧ W'.heap[b2]? = W.heap[b2]? ∧ W'.heap[b3]? = W.heap[b3]?
theorem offIn {c : Bool} {p q : Prop} (h : c = false) (hq : q) : if c = true then p else q := by rw [h]; exact hq
theorem cell_same {W W' : World} {k : Nat} (h : W'.heap[k]? = W.heap[k]?) (o : Nat) : W'.cell? ⟨k, o, none⟩ = W.cell? ⟨k, o, none⟩ := by
  unfold World.cell?
  simp only [h]

set_option maxRecDepth 100000 in
set_option maxHeartbeats 8000000 in
theorem all1_in (b s : Int) (live : Nat) (cs : List (Option Int)) (fr : List Nat) (A A' : Option Addr) (c c' : Nat) (base B l Bs m1 m2 : Nat) (J Jx : List Ar.Rc → World → Prop) (W : World)
    (hM : AMv 29 57 3 2 base W B b s (.slice A cs.length c) cs.length (Ar.rows Ar.slot cs) (.slice A' fr.length c') fr live)
    (hBs : W.heap[Bs]? = some (.cells #[.pointer (some ⟨B, 0, none⟩)] 51 (0, 0)))
    (hc : ∀ v, some v ∈ cs → -9223372036854775808 ≤ v ∧ v ≤ 9223372036854775807) (hl : cs.length ≤ 1000)
    (hm1 : m1 ≠ Bs ∧ ¬ Foot B (.slice A cs.length c) (.slice A' fr.length c') m1) (hm2 : m2 ≠ Bs ∧ ¬ Foot B (.slice A cs.length c) (.slice A' fr.length c') m2)
    (hJ : AbidesFrom W.heap.size J)
    (hY : ∀ pre x W1, J pre W1 → pre.length < (Ar.rcs cs cs.length).length → YieldAt Fence.wide (4 - 1) Try.prog l (encA b s x) W1 fun e W' =>
      (e = .returned (.bool true) ∧ J (pre ++ [x]) W' ∧ KeepA m1 m2 W1 W') ∨ (e = .returned (.bool false) ∧ Jx (pre ++ [x]) W'))
    (h0 : J [] W) :
    CallsIn Fence.wide 4 Try.prog 48 #[.func (.yield l) #[] #[], .pointer (some ⟨Bs, 0, none⟩)] W fun e W' => (∃ v, e = .returned v) ∧
      ((∃ xs, xs = Ar.rcs cs cs.length ∧ J xs W') ∨ (∃ pre, pre <+: Ar.rcs cs cs.length ∧ Jx pre W')) := by
  have hcell : W.cell? ⟨Bs, 0, none⟩ = some (.pointer (some ⟨B, 0, none⟩)) := cell_of_row W Bs 0 _ _ _ hBs
  have hBl : Bs < W.heap.size := (Array.getElem?_eq_some_iff.1 hBs).1
  obtain ⟨k0, k1, k2, _, _⟩ := hM.cells
  refine callsIn_of_wp Try.func48 rfl trivial ?_ rfl
  simp only [Try.ntmps48, List.size_toArray, List.length_cons, List.length_nil, Nat.reduceAdd, Nat.reduceSub, Array.replicate_succ, Array.replicate_zero, List.push_toArray, List.append_toArray, List.nil_append, List.cons_append]
  gi_wp2
  gi_loopw [10] (fun i wr => ∃ k : Nat, i = .int .i64 k ∧ k ≤ cs.length ∧ KeepA m1 m2 W wr ∧ J (Ar.rcs cs k) wr) (fun i _ => cs.length - (intOf i).toNat)
  case atStart => exact ⟨0, rfl, Nat.zero_le _, ⟨Nat.le_refl _, fun _ _ h _ _ _ => h⟩, h0⟩
  case round =>
    obtain ⟨k, rfl, hk, hkp, hJs⟩ := hrel
    have jb : ∀ p (w1 w2 : World), J p w1 → Below w1.heap.size w1 w2 → J p w2 := fun p w1 w2 h hb => hJ p w1 w2 none h (gb_of_below hb none) (fun r e => by cases e)
    by_cases hlt : k < cs.length
    · obtain ⟨g, rfl, hgB, hslot⟩ := hM.slot (by omega)
      have hgW : ∃ cur, W.heap[g]? = some (.cells cur 57 (0, 0)) := by
        rcases hM.2.2.1.2 with ⟨e, _⟩ | ⟨g', cap, cur, e, _, hg, _⟩
        · cases e
        · injection e with e _ _
          injection e with e
          injection e with e _ _
          subst e
          exact ⟨cur, hg⟩
      obtain ⟨cur, hgW⟩ := hgW
      have eBs : wr.heap[Bs]? = W.heap[Bs]? := (hkp.2 Bs _ hBs hm1.1.symm hm2.1.symm rfl).trans hBs.symm
      have eB : wr.heap[B]? = W.heap[B]? := (hkp.2 B _ hM.1 (fun e => hm1.2 (.inl e.symm)) (fun e => hm2.2 (.inl e.symm)) rfl).trans (show W.heap[B]? = _ from hM.1).symm
      have eg : wr.heap[g]? = W.heap[g]? := (hkp.2 g _ hgW (fun e => hm1.2 (.inr (.inl (by rw [← e]; rfl)))) (fun e => hm2.2 (.inr (.inl (by rw [← e]; rfl)))) rfl).trans hgW.symm
      have c0 : wr.cell? ⟨Bs, 0, none⟩ = some (.pointer (some ⟨B, 0, none⟩)) := (cell_same eBs 0).trans hcell
      have c1 : wr.cell? ⟨B, 0, none⟩ = some (.int .i64 b) := (cell_same eB 0).trans k0
      have c2 : wr.cell? ⟨B, 1, none⟩ = some (.int .i64 s) := (cell_same eB 1).trans k1
      have hki : I64 (k : Int) := by unfold I64; omega
      have hco : cs[k]? = some cs[k] := List.getElem?_eq_getElem hlt
      have t0 := (cell_same eg (k * 2)).trans ((hslot (k * 2) (by omega)).1.trans (Ar.rows_get slotLenI hco (by omega : 0 < 2)))
      have t1 := (cell_same eg (k * 2 + 1)).trans ((hslot (k * 2 + 1) (by omega)).1.trans (Ar.rows_get slotLenI hco (by omega : 1 < 2)))
      have hgl : g < wr.heap.size := by
        have := (Array.getElem?_eq_some_iff.1 hgW).1
        have := hkp.1
        omega
      have hkp2 := hkp.1
      obtain ⟨o, ho⟩ : ∃ o, cs[k] = o := ⟨_, rfl⟩
      rw [ho] at hco t0 t1
      clear ho hslot eBs eB eg k0 k1 k2 hcell hgW
      cases o with
      | none =>
        clear hY
        have t0' : wr.cell? ⟨g, k * 2, none⟩ = some (.bool false) := t0
        have t1' : wr.cell? ⟨g, k * 2 + 1, none⟩ = some (.int .i64 0) := t1
        clear t0 t1
        gi_wp2_with fail
        refine wpIn_region_any (by kernel_rfl) ?_
        try (change wpAnyIn _ _ _ _ _ _ _ _ _ (World.drew _))
        refine wpAnyIn_take (i := 0) (v := ?_) rfl rfl (by kernel_rfl) (by kernel_rfl) (by kernel_rfl) (fun _ _ _ h => h) ⟨Or.inl ⟨by rfl, ?_⟩, fun _ => rfl⟩ ?_
        rotate_left 1
        · (intro w'; go_simp <;> with_reducible rfl)
        try simp only [Act.put, List.setIfInBounds_toArray, List.set_cons_zero, List.set_cons_succ]
        refine wpAnyIn_ready (rs := [1]) (by kernel_rfl) (by simp) ?_
        refine AllReadyIn.cons rfl (fun K hK => ?_) AllReadyIn.nil
        go_simp
        refine hK _ _ ?_
        clear hK K
        try simp only [Act.put, List.setIfInBounds_toArray, List.set_cons_zero, List.set_cons_succ]
        refine wpAnyIn_take (i := 2) (v := ?_) rfl rfl (by kernel_rfl) (by kernel_rfl) (by kernel_rfl) (fun _ _ _ h => h) ⟨Or.inl ⟨by rfl, ?_⟩, fun _ => rfl⟩ ?_
        rotate_left 1
        · (intro w'; go_simp <;> with_reducible rfl)
        try simp only [Act.put, List.setIfInBounds_toArray, List.set_cons_zero, List.set_cons_succ]
        refine wpAnyIn_take (i := 3) (v := undef) rfl rfl (by kernel_rfl) (by kernel_rfl) (by kernel_rfl) (fun _ _ _ h => h) ⟨Or.inr ⟨by kernel_rfl, rfl⟩, fun _ => rfl⟩ ?_
        try simp only [Act.put, List.setIfInBounds_toArray, List.set_cons_zero, List.set_cons_succ]
        refine wpAnyIn_take (i := 4) (v := undef) rfl rfl (by kernel_rfl) (by kernel_rfl) (by kernel_rfl) (fun _ _ _ h => h) ⟨Or.inr ⟨by kernel_rfl, rfl⟩, fun _ => rfl⟩ ?_
        try simp only [Act.put, List.setIfInBounds_toArray, List.set_cons_zero, List.set_cons_succ]
        refine wpAnyIn_take (i := 5) (v := undef) rfl rfl (by kernel_rfl) (by kernel_rfl) (by kernel_rfl) (fun _ _ _ h => h) ⟨Or.inr ⟨by kernel_rfl, rfl⟩, fun _ => rfl⟩ ?_
        try simp only [Act.put, List.setIfInBounds_toArray, List.set_cons_zero, List.set_cons_succ]
        refine wpAnyIn_take (i := 6) (v := undef) rfl rfl (by kernel_rfl) (by kernel_rfl) (by kernel_rfl) (fun _ _ _ h => h) ⟨Or.inr ⟨by kernel_rfl, rfl⟩, fun _ => rfl⟩ ?_
        try simp only [Act.put, List.setIfInBounds_toArray, List.set_cons_zero, List.set_cons_succ]
        refine wpAnyIn_take (i := 7) (v := undef) rfl rfl (by kernel_rfl) (by kernel_rfl) (by kernel_rfl) (fun _ _ _ h => h) ⟨Or.inr ⟨by kernel_rfl, rfl⟩, fun _ => rfl⟩ ?_
        try simp only [Act.put, List.setIfInBounds_toArray, List.set_cons_zero, List.set_cons_succ]
        refine wpAnyIn_take (i := 8) (v := undef) rfl rfl (by kernel_rfl) (by kernel_rfl) (by kernel_rfl) (fun _ _ _ h => h) ⟨Or.inr ⟨by kernel_rfl, rfl⟩, fun _ => rfl⟩ ?_
        try simp only [Act.put, List.setIfInBounds_toArray, List.set_cons_zero, List.set_cons_succ]
        refine wpAnyIn_take (i := 10) (v := undef) rfl rfl (by kernel_rfl) (by kernel_rfl) (by kernel_rfl) (fun _ _ _ h => h) ⟨Or.inr ⟨by kernel_rfl, rfl⟩, fun _ => rfl⟩ ?_
        try simp only [Act.put, List.setIfInBounds_toArray, List.set_cons_zero, List.set_cons_succ]
        refine wpAnyIn_take (i := 11) (v := undef) rfl rfl (by kernel_rfl) (by kernel_rfl) (by kernel_rfl) (fun _ _ _ h => h) ⟨Or.inr ⟨by kernel_rfl, rfl⟩, fun _ => rfl⟩ ?_
        try simp only [Act.put, List.setIfInBounds_toArray, List.set_cons_zero, List.set_cons_succ]
        refine wpAnyIn_ready (rs := [9]) (by kernel_rfl) (by simp) ?_
        refine AllReadyIn.cons rfl (fun K hK => ?_) AllReadyIn.nil
        go_simp
        refine And.intro (by first | exact trivial | (intros; exact trivial)) ?_
        refine hK _ _ ?_
        clear hK K
        try simp only [Act.put, List.setIfInBounds_toArray, List.set_cons_zero, List.set_cons_succ]
        refine wpAnyIn_ready (rs := [12]) (by kernel_rfl) (by simp) ?_
        refine AllReadyIn.cons rfl (fun K hK => ?_) AllReadyIn.nil
        go_simp
        refine And.intro (by first | exact trivial | (intros; exact trivial)) ?_
        refine hK _ _ ?_
        clear hK K
        try simp only [Act.put, List.setIfInBounds_toArray, List.set_cons_zero, List.set_cons_succ]
        refine wpAnyIn_take (i := 13) (v := undef) rfl rfl (by kernel_rfl) (by kernel_rfl) (by kernel_rfl) (fun _ _ _ h => h) ⟨Or.inr ⟨by kernel_rfl, rfl⟩, fun _ => rfl⟩ ?_
        try simp only [Act.put, List.setIfInBounds_toArray, List.set_cons_zero, List.set_cons_succ]
        refine wpAnyIn_take (i := 14) (v := ?_) rfl rfl (by kernel_rfl) (by kernel_rfl) (by kernel_rfl) (fun _ _ _ h => h) ⟨Or.inl ⟨by rfl, ?_⟩, fun _ => rfl⟩ ?_
        rotate_left 1
        · (intro w'; go_simp <;> with_reducible rfl)
        try simp only [Act.put, List.setIfInBounds_toArray, List.set_cons_zero, List.set_cons_succ]
        refine wpAnyIn_done (by kernel_rfl) ?_ _
        have hb4 : Below wr.heap.size wr (wr.alloc (.cells #[.bool false, .int .i64 0] 57)).drew := Below.drew ((Below.refl _ _).alloc (Nat.le_refl _) _)
        gi_wp2_with fail
        go_roundw
        case rel => exact ⟨k + 1, by go_num, by omega, hkp.trans (KeepA.below hb4), by rw [Ar.rcs_none hco]; exact jb _ _ _ hJs hb4⟩
        case measure => simp [intOf]; omega
      | some v =>
        have hvr := hc v (List.mem_of_getElem? hco)
        have hk1000 : k < 1000 := by omega
        have hsucc := Ar.rcs_some hco hk1000 hvr
        have hpre0 := Ar.rcs_prefix cs (k + 1) cs.length (by omega)
        rw [hsucc] at hpre0
        have hlen := hpre0.length_le
        rw [List.length_append, List.length_singleton] at hlen
        have t0' : wr.cell? ⟨g, k * 2, none⟩ = some (.bool true) := t0
        have t1' : wr.cell? ⟨g, k * 2 + 1, none⟩ = some (.int .i64 v) := t1
        have hb4 : Below wr.heap.size wr (wr.alloc (.cells #[.bool true, .int .i64 v] 57)).drew := Below.drew ((Below.refl _ _).alloc (Nat.le_refl _) _)
        have t5 : ∀ w5 : World, Below (wr.alloc (.cells #[.bool true, .int .i64 v] 57)).drew.heap.size (wr.alloc (.cells #[.bool true, .int .i64 v] 57)).drew w5 → w5.cell? ⟨wr.heap.size, 1, none⟩ = some (.int .i64 v) := fun w5 h =>
          (h.cell (p := ⟨wr.heap.size, 1, none⟩) (by simp)).trans ((Whole.new wr #[.bool true, .int .i64 v] 57).cell 1)
        have hyat : ∀ w5 : World, Below (wr.alloc (.cells #[.bool true, .int .i64 v] 57)).drew.heap.size (wr.alloc (.cells #[.bool true, .int .i64 v] 57)).drew w5 → _ := fun w5 h =>
          hY (Ar.rcs cs k) ⟨k, v, hk1000, hvr⟩ w5 (jb _ _ _ hJs (hb4.trans (h.mono hb4.size))) (by omega)
        have hkall : ∀ w5 W6 : World, Below (wr.alloc (.cells #[.bool true, .int .i64 v] 57)).drew.heap.size (wr.alloc (.cells #[.bool true, .int .i64 v] 57)).drew w5 → KeepA m1 m2 w5 W6 → KeepA m1 m2 W W6 := fun w5 W6 h h' =>
          hkp.trans ((KeepA.below (hb4.trans (h.mono hb4.size))).trans h')
        have hBs2 : Bs < wr.heap.size := World.block_lt_of_cell? wr _ c0
        have hB2 : B < wr.heap.size := World.block_lt_of_cell? wr _ c1
        have hpre := hpre0
        have HSU := Lib.hid hsucc
        dsimp only [encA] at hyat
        clear t0 t1 hsucc hpre0 hlen hY
        gi_wp2_with fail
        refine wpIn_region_any (by kernel_rfl) ?_
        try (change wpAnyIn _ _ _ _ _ _ _ _ _ (World.drew _))
        refine wpAnyIn_take (i := 0) (v := ?_) rfl rfl (by kernel_rfl) (by kernel_rfl) (by kernel_rfl) (fun _ _ _ h => h) ⟨Or.inl ⟨by rfl, ?_⟩, fun _ => rfl⟩ ?_
        rotate_left 1
        · (intro w'; go_simp <;> with_reducible rfl)
        try simp only [Act.put, List.setIfInBounds_toArray, List.set_cons_zero, List.set_cons_succ]
        refine wpAnyIn_ready (rs := [1]) (by kernel_rfl) (by simp) ?_
        refine AllReadyIn.cons rfl (fun K hK => ?_) AllReadyIn.nil
        go_simp
        refine hK _ _ ?_
        clear hK K
        try simp only [Act.put, List.setIfInBounds_toArray, List.set_cons_zero, List.set_cons_succ]
        refine wpAnyIn_take (i := 2) (v := ?_) rfl rfl (by kernel_rfl) (by kernel_rfl) (by kernel_rfl) (fun _ _ _ h => h) ⟨Or.inl ⟨by rfl, ?_⟩, fun _ => rfl⟩ ?_
        rotate_left 1
        · (intro w'; go_simp <;> with_reducible rfl)
        try simp only [Act.put, List.setIfInBounds_toArray, List.set_cons_zero, List.set_cons_succ]
        refine wpAnyIn_take (i := 3) (v := ?_) rfl rfl (by kernel_rfl) (by kernel_rfl) (by kernel_rfl) (fun _ _ _ h => h) ⟨Or.inl ⟨by rfl, ?_⟩, fun _ => rfl⟩ ?_
        rotate_left 1
        · (intro w'; go_simp <;> with_reducible rfl)
        try simp only [Act.put, List.setIfInBounds_toArray, List.set_cons_zero, List.set_cons_succ]
        refine wpAnyIn_take (i := 8) (v := ?_) rfl rfl (by kernel_rfl) (by kernel_rfl) (by kernel_rfl) (fun _ _ _ h => h) ⟨Or.inl ⟨by rfl, ?_⟩, fun _ => rfl⟩ ?_
        rotate_left 1
        · (intro w'; go_simp <;> with_reducible rfl)
        try simp only [Act.put, List.setIfInBounds_toArray, List.set_cons_zero, List.set_cons_succ]
        refine wpAnyIn_take (i := 10) (v := ?_) rfl rfl (by kernel_rfl) (by kernel_rfl) (by kernel_rfl) (fun _ _ _ h => h) ⟨Or.inl ⟨by rfl, ?_⟩, fun _ => rfl⟩ ?_
        rotate_left 1
        · (intro w'; go_simp <;> with_reducible rfl)
        try simp only [Act.put, List.setIfInBounds_toArray, List.set_cons_zero, List.set_cons_succ]
        refine wpAnyIn_ready (rs := [4, 11]) (by kernel_rfl) (by simp) ?_
        refine AllReadyIn.cons rfl (fun K hK => ?_) (AllReadyIn.cons rfl (fun K hK => ?_) AllReadyIn.nil)
        · go_simp
          refine hK _ _ ?_
          clear hK K
          try simp only [Act.put, List.setIfInBounds_toArray, List.set_cons_zero, List.set_cons_succ]
          refine wpAnyIn_take (i := 5) (v := ?_) rfl rfl (by kernel_rfl) (by kernel_rfl) (by kernel_rfl) (fun _ _ _ h => h) ⟨Or.inl ⟨by rfl, ?_⟩, fun _ => rfl⟩ ?_
          rotate_left 1
          · (intro w'; go_simp <;> with_reducible rfl)
          try simp only [Act.put, List.setIfInBounds_toArray, List.set_cons_zero, List.set_cons_succ]
          refine wpAnyIn_take (i := 6) (v := ?_) rfl rfl (by kernel_rfl) (by kernel_rfl) (by kernel_rfl) (fun _ _ _ h => h) ⟨Or.inl ⟨by rfl, ?_⟩, fun _ => rfl⟩ ?_
          rotate_left 1
          · (intro w'; go_simp <;> with_reducible rfl)
          try simp only [Act.put, List.setIfInBounds_toArray, List.set_cons_zero, List.set_cons_succ]
          refine wpAnyIn_ready (rs := [7, 11]) (by kernel_rfl) (by simp) ?_
          refine AllReadyIn.cons rfl (fun K hK => ?_) (AllReadyIn.cons rfl (fun K hK => ?_) AllReadyIn.nil)
          · go_simp
            refine hK _ _ ?_
            clear hK K
            try simp only [Act.put, List.setIfInBounds_toArray, List.set_cons_zero, List.set_cons_succ]
            refine wpAnyIn_ready (rs := [9, 11]) (by kernel_rfl) (by simp) ?_
            refine AllReadyIn.cons rfl (fun K hK => ?_) (AllReadyIn.cons rfl (fun K hK => ?_) AllReadyIn.nil)
            · go_simp
              refine ⟨trivial, (callsIn_wide.2 (ahandle_any b s (k : Int) _ hki)).mono ?_⟩
              rintro e w5 ⟨rfl, hb5⟩
              have e1 := t5 w5 hb5
              refine hK _ _ ?_
              clear hK K
              try simp only [Act.put, List.setIfInBounds_toArray, List.set_cons_zero, List.set_cons_succ]
              refine wpAnyIn_ready (rs := [11]) (by kernel_rfl) (by simp) ?_
              refine AllReadyIn.cons rfl (fun K hK => ?_) AllReadyIn.nil
              go_simp
              refine hK _ _ ?_
              clear hK K
              try simp only [Act.put, List.setIfInBounds_toArray, List.set_cons_zero, List.set_cons_succ]
              obtain ⟨fn, tmps, assign, body, hy, hR⟩ := hyat w5 hb5
              refine wpAnyIn_ready (rs := [12]) (by kernel_rfl) (by simp) ?_
              refine AllReadyIn.cons rfl (fun K hK => ?_) AllReadyIn.nil
              go_simp
              refine hR.mono ?_
              rintro e W6 (⟨rfl, hJ6, hk6⟩ | ⟨rfl, hJ6⟩)
              · refine hK _ _ ?_
                clear hK K
                try simp only [Act.put, List.setIfInBounds_toArray, List.set_cons_zero, List.set_cons_succ]
                refine wpAnyIn_take (i := 13) (v := ?_) rfl rfl (by kernel_rfl) (by kernel_rfl) (by kernel_rfl) (fun _ _ _ h => h) ⟨Or.inl ⟨by rfl, ?_⟩, fun _ => rfl⟩ ?_
                rotate_left 1
                · (intro w'; go_simp <;> with_reducible rfl)
                try simp only [Act.put, List.setIfInBounds_toArray, List.set_cons_zero, List.set_cons_succ]
                refine wpAnyIn_take (i := 14) (v := ?_) rfl rfl (by kernel_rfl) (by kernel_rfl) (by kernel_rfl) (fun _ _ _ h => h) ⟨Or.inl ⟨by rfl, ?_⟩, fun _ => rfl⟩ ?_
                rotate_left 1
                · (intro w'; go_simp <;> with_reducible rfl)
                try simp only [Act.put, List.setIfInBounds_toArray, List.set_cons_zero, List.set_cons_succ]
                refine wpAnyIn_done (by kernel_rfl) ?_ _
                gi_wp2_with fail
                go_roundw
                case rel => exact ⟨k + 1, by go_num, by omega, hkall w5 W6 hb5 hk6, by rw [HSU.out]; exact hJ6⟩
                case measure => simp [intOf]; omega
              · refine hK _ _ ?_
                clear hK K
                try simp only [Act.put, List.setIfInBounds_toArray, List.set_cons_zero, List.set_cons_succ]
                refine wpAnyIn_take (i := 13) (v := ?_) rfl rfl (by kernel_rfl) (by kernel_rfl) (by kernel_rfl) (fun _ _ _ h => h) ⟨Or.inl ⟨by rfl, ?_⟩, fun _ => rfl⟩ ?_
                rotate_left 1
                · (intro w'; go_simp <;> with_reducible rfl)
                try simp only [Act.put, List.setIfInBounds_toArray, List.set_cons_zero, List.set_cons_succ]
                refine wpAnyIn_take (i := 14) (v := ?_) rfl rfl (by kernel_rfl) (by kernel_rfl) (by kernel_rfl) (fun _ _ _ h => h) ⟨Or.inl ⟨by rfl, ?_⟩, fun _ => rfl⟩ ?_
                rotate_left 1
                · (intro w'; go_simp <;> with_reducible rfl)
                try simp only [Act.put, List.setIfInBounds_toArray, List.set_cons_zero, List.set_cons_succ]
                refine wpAnyIn_done (by kernel_rfl) ?_ _
                gi_wp2_with fail
                refine bodyPost_ret (results_none rfl _ _ _) rfl ?_
                exact ⟨⟨_, rfl⟩, .inr ⟨_, hpre, hJ6⟩⟩
            · go_simp
              refine hK _ _ ?_
              clear hK K
              try simp only [Act.put, List.setIfInBounds_toArray, List.set_cons_zero, List.set_cons_succ]
              refine wpAnyIn_ready (rs := [9]) (by kernel_rfl) (by simp) ?_
              refine AllReadyIn.cons rfl (fun K hK => ?_) AllReadyIn.nil
              go_simp
              refine ⟨trivial, (callsIn_wide.2 (ahandle_any b s (k : Int) _ hki)).mono ?_⟩
              rintro e w5 ⟨rfl, hb5⟩
              have e1 := t5 w5 hb5
              refine hK _ _ ?_
              clear hK K
              try simp only [Act.put, List.setIfInBounds_toArray, List.set_cons_zero, List.set_cons_succ]
              obtain ⟨fn, tmps, assign, body, hy, hR⟩ := hyat w5 hb5
              refine wpAnyIn_ready (rs := [12]) (by kernel_rfl) (by simp) ?_
              refine AllReadyIn.cons rfl (fun K hK => ?_) AllReadyIn.nil
              go_simp
              refine hR.mono ?_
              rintro e W6 (⟨rfl, hJ6, hk6⟩ | ⟨rfl, hJ6⟩)
              · refine hK _ _ ?_
                clear hK K
                try simp only [Act.put, List.setIfInBounds_toArray, List.set_cons_zero, List.set_cons_succ]
                refine wpAnyIn_take (i := 13) (v := ?_) rfl rfl (by kernel_rfl) (by kernel_rfl) (by kernel_rfl) (fun _ _ _ h => h) ⟨Or.inl ⟨by rfl, ?_⟩, fun _ => rfl⟩ ?_
                rotate_left 1
                · (intro w'; go_simp <;> with_reducible rfl)
                try simp only [Act.put, List.setIfInBounds_toArray, List.set_cons_zero, List.set_cons_succ]
                refine wpAnyIn_take (i := 14) (v := ?_) rfl rfl (by kernel_rfl) (by kernel_rfl) (by kernel_rfl) (fun _ _ _ h => h) ⟨Or.inl ⟨by rfl, ?_⟩, fun _ => rfl⟩ ?_
                rotate_left 1
                · (intro w'; go_simp <;> with_reducible rfl)
                try simp only [Act.put, List.setIfInBounds_toArray, List.set_cons_zero, List.set_cons_succ]
                refine wpAnyIn_done (by kernel_rfl) ?_ _
                gi_wp2_with fail
                go_roundw
                case rel => exact ⟨k + 1, by go_num, by omega, hkall w5 W6 hb5 hk6, by rw [HSU.out]; exact hJ6⟩
                case measure => simp [intOf]; omega
              · refine hK _ _ ?_
                clear hK K
                try simp only [Act.put, List.setIfInBounds_toArray, List.set_cons_zero, List.set_cons_succ]
                refine wpAnyIn_take (i := 13) (v := ?_) rfl rfl (by kernel_rfl) (by kernel_rfl) (by kernel_rfl) (fun _ _ _ h => h) ⟨Or.inl ⟨by rfl, ?_⟩, fun _ => rfl⟩ ?_
                rotate_left 1
                · (intro w'; go_simp <;> with_reducible rfl)
                try simp only [Act.put, List.setIfInBounds_toArray, List.set_cons_zero, List.set_cons_succ]
                refine wpAnyIn_take (i := 14) (v := ?_) rfl rfl (by kernel_rfl) (by kernel_rfl) (by kernel_rfl) (fun _ _ _ h => h) ⟨Or.inl ⟨by rfl, ?_⟩, fun _ => rfl⟩ ?_
                rotate_left 1
                · (intro w'; go_simp <;> with_reducible rfl)
                try simp only [Act.put, List.setIfInBounds_toArray, List.set_cons_zero, List.set_cons_succ]
                refine wpAnyIn_done (by kernel_rfl) ?_ _
                gi_wp2_with fail
                refine bodyPost_ret (results_none rfl _ _ _) rfl ?_
                exact ⟨⟨_, rfl⟩, .inr ⟨_, hpre, hJ6⟩⟩
          · go_simp
            refine hK _ _ ?_
            clear hK K
            try simp only [Act.put, List.setIfInBounds_toArray, List.set_cons_zero, List.set_cons_succ]
            refine wpAnyIn_ready (rs := [7]) (by kernel_rfl) (by simp) ?_
            refine AllReadyIn.cons rfl (fun K hK => ?_) AllReadyIn.nil
            go_simp
            refine hK _ _ ?_
            clear hK K
            try simp only [Act.put, List.setIfInBounds_toArray, List.set_cons_zero, List.set_cons_succ]
            refine wpAnyIn_ready (rs := [9]) (by kernel_rfl) (by simp) ?_
            refine AllReadyIn.cons rfl (fun K hK => ?_) AllReadyIn.nil
            go_simp
            refine ⟨trivial, (callsIn_wide.2 (ahandle_any b s (k : Int) _ hki)).mono ?_⟩
            rintro e w5 ⟨rfl, hb5⟩
            have e1 := t5 w5 hb5
            refine hK _ _ ?_
            clear hK K
            try simp only [Act.put, List.setIfInBounds_toArray, List.set_cons_zero, List.set_cons_succ]
            obtain ⟨fn, tmps, assign, body, hy, hR⟩ := hyat w5 hb5
            refine wpAnyIn_ready (rs := [12]) (by kernel_rfl) (by simp) ?_
            refine AllReadyIn.cons rfl (fun K hK => ?_) AllReadyIn.nil
            go_simp
            refine hR.mono ?_
            rintro e W6 (⟨rfl, hJ6, hk6⟩ | ⟨rfl, hJ6⟩)
            · refine hK _ _ ?_
              clear hK K
              try simp only [Act.put, List.setIfInBounds_toArray, List.set_cons_zero, List.set_cons_succ]
              refine wpAnyIn_take (i := 13) (v := ?_) rfl rfl (by kernel_rfl) (by kernel_rfl) (by kernel_rfl) (fun _ _ _ h => h) ⟨Or.inl ⟨by rfl, ?_⟩, fun _ => rfl⟩ ?_
              rotate_left 1
              · (intro w'; go_simp <;> with_reducible rfl)
              try simp only [Act.put, List.setIfInBounds_toArray, List.set_cons_zero, List.set_cons_succ]
              refine wpAnyIn_take (i := 14) (v := ?_) rfl rfl (by kernel_rfl) (by kernel_rfl) (by kernel_rfl) (fun _ _ _ h => h) ⟨Or.inl ⟨by rfl, ?_⟩, fun _ => rfl⟩ ?_
              rotate_left 1
              · (intro w'; go_simp <;> with_reducible rfl)
              try simp only [Act.put, List.setIfInBounds_toArray, List.set_cons_zero, List.set_cons_succ]
              refine wpAnyIn_done (by kernel_rfl) ?_ _
              gi_wp2_with fail
              go_roundw
              case rel => exact ⟨k + 1, by go_num, by omega, hkall w5 W6 hb5 hk6, by rw [HSU.out]; exact hJ6⟩
              case measure => simp [intOf]; omega
            · refine hK _ _ ?_
              clear hK K
              try simp only [Act.put, List.setIfInBounds_toArray, List.set_cons_zero, List.set_cons_succ]
              refine wpAnyIn_take (i := 13) (v := ?_) rfl rfl (by kernel_rfl) (by kernel_rfl) (by kernel_rfl) (fun _ _ _ h => h) ⟨Or.inl ⟨by rfl, ?_⟩, fun _ => rfl⟩ ?_
              rotate_left 1
              · (intro w'; go_simp <;> with_reducible rfl)
              try simp only [Act.put, List.setIfInBounds_toArray, List.set_cons_zero, List.set_cons_succ]
              refine wpAnyIn_take (i := 14) (v := ?_) rfl rfl (by kernel_rfl) (by kernel_rfl) (by kernel_rfl) (fun _ _ _ h => h) ⟨Or.inl ⟨by rfl, ?_⟩, fun _ => rfl⟩ ?_
              rotate_left 1
              · (intro w'; go_simp <;> with_reducible rfl)
              try simp only [Act.put, List.setIfInBounds_toArray, List.set_cons_zero, List.set_cons_succ]
              refine wpAnyIn_done (by kernel_rfl) ?_ _
              gi_wp2_with fail
              refine bodyPost_ret (results_none rfl _ _ _) rfl ?_
              exact ⟨⟨_, rfl⟩, .inr ⟨_, hpre, hJ6⟩⟩
        · go_simp
          refine hK _ _ ?_
          clear hK K
          try simp only [Act.put, List.setIfInBounds_toArray, List.set_cons_zero, List.set_cons_succ]
          refine wpAnyIn_ready (rs := [4]) (by kernel_rfl) (by simp) ?_
          refine AllReadyIn.cons rfl (fun K hK => ?_) AllReadyIn.nil
          go_simp
          refine hK _ _ ?_
          clear hK K
          try simp only [Act.put, List.setIfInBounds_toArray, List.set_cons_zero, List.set_cons_succ]
          refine wpAnyIn_take (i := 5) (v := ?_) rfl rfl (by kernel_rfl) (by kernel_rfl) (by kernel_rfl) (fun _ _ _ h => h) ⟨Or.inl ⟨by rfl, ?_⟩, fun _ => rfl⟩ ?_
          rotate_left 1
          · (intro w'; go_simp <;> with_reducible rfl)
          try simp only [Act.put, List.setIfInBounds_toArray, List.set_cons_zero, List.set_cons_succ]
          refine wpAnyIn_take (i := 6) (v := ?_) rfl rfl (by kernel_rfl) (by kernel_rfl) (by kernel_rfl) (fun _ _ _ h => h) ⟨Or.inl ⟨by rfl, ?_⟩, fun _ => rfl⟩ ?_
          rotate_left 1
          · (intro w'; go_simp <;> with_reducible rfl)
          try simp only [Act.put, List.setIfInBounds_toArray, List.set_cons_zero, List.set_cons_succ]
          refine wpAnyIn_ready (rs := [7]) (by kernel_rfl) (by simp) ?_
          refine AllReadyIn.cons rfl (fun K hK => ?_) AllReadyIn.nil
          go_simp
          refine hK _ _ ?_
          clear hK K
          try simp only [Act.put, List.setIfInBounds_toArray, List.set_cons_zero, List.set_cons_succ]
          refine wpAnyIn_ready (rs := [9]) (by kernel_rfl) (by simp) ?_
          refine AllReadyIn.cons rfl (fun K hK => ?_) AllReadyIn.nil
          go_simp
          refine ⟨trivial, (callsIn_wide.2 (ahandle_any b s (k : Int) _ hki)).mono ?_⟩
          rintro e w5 ⟨rfl, hb5⟩
          have e1 := t5 w5 hb5
          refine hK _ _ ?_
          clear hK K
          try simp only [Act.put, List.setIfInBounds_toArray, List.set_cons_zero, List.set_cons_succ]
          obtain ⟨fn, tmps, assign, body, hy, hR⟩ := hyat w5 hb5
          refine wpAnyIn_ready (rs := [12]) (by kernel_rfl) (by simp) ?_
          refine AllReadyIn.cons rfl (fun K hK => ?_) AllReadyIn.nil
          go_simp
          refine hR.mono ?_
          rintro e W6 (⟨rfl, hJ6, hk6⟩ | ⟨rfl, hJ6⟩)
          · refine hK _ _ ?_
            clear hK K
            try simp only [Act.put, List.setIfInBounds_toArray, List.set_cons_zero, List.set_cons_succ]
            refine wpAnyIn_take (i := 13) (v := ?_) rfl rfl (by kernel_rfl) (by kernel_rfl) (by kernel_rfl) (fun _ _ _ h => h) ⟨Or.inl ⟨by rfl, ?_⟩, fun _ => rfl⟩ ?_
            rotate_left 1
            · (intro w'; go_simp <;> with_reducible rfl)
            try simp only [Act.put, List.setIfInBounds_toArray, List.set_cons_zero, List.set_cons_succ]
            refine wpAnyIn_take (i := 14) (v := ?_) rfl rfl (by kernel_rfl) (by kernel_rfl) (by kernel_rfl) (fun _ _ _ h => h) ⟨Or.inl ⟨by rfl, ?_⟩, fun _ => rfl⟩ ?_
            rotate_left 1
            · (intro w'; go_simp <;> with_reducible rfl)
            try simp only [Act.put, List.setIfInBounds_toArray, List.set_cons_zero, List.set_cons_succ]
            refine wpAnyIn_done (by kernel_rfl) ?_ _
            gi_wp2_with fail
            go_roundw
            case rel => exact ⟨k + 1, by go_num, by omega, hkall w5 W6 hb5 hk6, by rw [HSU.out]; exact hJ6⟩
            case measure => simp [intOf]; omega
          · refine hK _ _ ?_
            clear hK K
            try simp only [Act.put, List.setIfInBounds_toArray, List.set_cons_zero, List.set_cons_succ]
            refine wpAnyIn_take (i := 13) (v := ?_) rfl rfl (by kernel_rfl) (by kernel_rfl) (by kernel_rfl) (fun _ _ _ h => h) ⟨Or.inl ⟨by rfl, ?_⟩, fun _ => rfl⟩ ?_
            rotate_left 1
            · (intro w'; go_simp <;> with_reducible rfl)
            try simp only [Act.put, List.setIfInBounds_toArray, List.set_cons_zero, List.set_cons_succ]
            refine wpAnyIn_take (i := 14) (v := ?_) rfl rfl (by kernel_rfl) (by kernel_rfl) (by kernel_rfl) (fun _ _ _ h => h) ⟨Or.inl ⟨by rfl, ?_⟩, fun _ => rfl⟩ ?_
            rotate_left 1
            · (intro w'; go_simp <;> with_reducible rfl)
            try simp only [Act.put, List.setIfInBounds_toArray, List.set_cons_zero, List.set_cons_succ]
            refine wpAnyIn_done (by kernel_rfl) ?_ _
            gi_wp2_with fail
            refine bodyPost_ret (results_none rfl _ _ _) rfl ?_
            exact ⟨⟨_, rfl⟩, .inr ⟨_, hpre, hJ6⟩⟩
    · obtain rfl : k = cs.length := by omega
      gi_wp2_with fail
      go_end0
      exact ⟨⟨_, rfl⟩, .inl ⟨_, rfl, hJs⟩⟩

/-- All hands back a function that yields the records. -/
theorem aallS_any (b s : Int) (live : Nat) (cs : List (Option Int)) (fr : List Nat) (A A' : Option Addr) (c c' : Nat) (base B : Nat) (w : World)
    (hM : AMv 29 57 3 2 base w B b s (.slice A cs.length c) cs.length (Ar.rows Ar.slot cs) (.slice A' fr.length c') fr live)
    (hc : ∀ v, some v ∈ cs → -9223372036854775808 ≤ v ∧ v ≤ 9223372036854775807) (hl : cs.length ≤ 1000) :
    Calls Try.prog 31 #[.pointer (some ⟨B, 0, none⟩)] w fun e w' => ∃ lb, e = .returned (.func (.func 48) #[] lb) ∧ w' = w.alloc (.cells #[.pointer (some ⟨B, 0, none⟩)] 51) ∧
      ∀ m1 m2, m1 < w.heap.size → m2 < w.heap.size → ¬ Foot B (.slice A cs.length c) (.slice A' fr.length c') m1 → ¬ Foot B (.slice A cs.length c) (.slice A' fr.length c') m2 →
        SeqStopsK Fence.wide 4 Try.prog 48 lb (encA b s) (KeepA m1 m2) (fun xs => xs = Ar.rcs cs cs.length) (fun pre => pre <+: Ar.rcs cs cs.length) (Ar.rcs cs cs.length).length w' := by
  refine (aall_any B w).mono ?_
  rintro e w' ⟨rfl, rfl⟩
  refine ⟨_, rfl, rfl, fun m1 m2 h1 h2 f1 f2 l J Jx W hW hJ hJx hY h0 => ?_⟩
  have hb : Below w.heap.size w (w.alloc (.cells #[.pointer (some ⟨B, 0, none⟩)] 51)) := (Below.refl _ _).alloc (Nat.le_refl _) _
  exact all1_in b s live cs fr A A' c c' base B l w.heap.size m1 m2 J Jx W ((hM.below hb).below hW) ((hW.block _ (by simp)).trans (World.alloc_heap_new w _)) hc hl ⟨by omega, f1⟩ ⟨by omega, f2⟩ hJ hY h0

end Go.Proofs.Ythocodmniofioaa
