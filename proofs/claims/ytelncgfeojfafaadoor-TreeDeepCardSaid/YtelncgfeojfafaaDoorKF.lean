/- The children of a node and the way up, as functions to range over. -/
import Derived.Lib.OthersKept
import Derived.RangeFuncNested
import Derived.RangeFuncBound
import Derived.RangeFuncCalls
import Derived.RangeFuncLeaves
import Derived.Shelf.Abstract
import Derived.Shelf.RegionOpen
import Derived.OwnWalkIn
import Derived.TacticsInMore
import Derived.LoopNIn
import Derived.LoopIn
import Derived.Stop.RegionWithIn
import Derived.Outline
import Derived.Lib.MinMax
import Derived.Test.YtelncgfeojfafaaDoorKC
import Derived.Test.YtelncgfeojfafaaDoorKE
namespace Go.Proofs.YtelncgfeojfafaaDoor
open Go.RowKit Go.Shelf
set_option linter.unusedVariables false
set_option linter.unusedSimpArgs false
attribute [local go_sem] Oper.semAt_some

set_option maxHeartbeats 400000 in
theorem kids_make (B : Nat) (h : Int) (w : World) :
    Calls Tryd.prog 41 #[.pointer (some ⟨B, 0, none⟩), .int .i64 h] w fun e w' =>
      e = .returned (.func (.func 56) #[] #[.pointer (some ⟨w.heap.size, 0, none⟩), .pointer (some ⟨w.heap.size + 1, 0, none⟩)]) ∧ w' = (w.alloc (.cells #[.pointer (some ⟨B, 0, none⟩)] 23)).alloc (.cells #[.int .i64 h] 3) := by
  go_enter Tryd.func41, Tryd.ntmps41
  go_wp2_with fail
  go_ret
  exact ⟨rfl, rfl⟩
set_option maxHeartbeats 400000 in
theorem up_make (B : Nat) (h : Int) (w : World) :
    Calls Tryd.prog 40 #[.pointer (some ⟨B, 0, none⟩), .int .i64 h] w fun e w' =>
      e = .returned (.func (.func 55) #[] #[.pointer (some ⟨w.heap.size + 1, 0, none⟩), .pointer (some ⟨w.heap.size, 0, none⟩)]) ∧ w' = (w.alloc (.cells #[.pointer (some ⟨B, 0, none⟩)] 23)).alloc (.cells #[.int .i64 h] 3) := by
  go_enter Tryd.func40, Tryd.ntmps40
  go_wp2_with fail
  go_ret
  exact ⟨rfl, rfl⟩

/-- What is kept between two rounds: the tree can be read, its links are those of l, and the iterator's two boxes lie. -/
structure KIds (KI : World → Prop) (B bt bh : Nat) (b s h : Int) (l : List Int) : Prop where
  read : ∀ W, KI W → ∃ (base n live : Nat) (vs vf : Value) (R : Int → Option Tr.Nd) (fr : List Nat) (root : Int), TV base W B b s vs n R vf fr live root ∧ Sound b s n R fr live ∧ ((R h).getD Tr.zNd).fi = Tr.fs l ∧ ∀ x ∈ l, ∃ e, R x = some e ∧ e.ne = Tr.nxt l x
  below : ∀ W W', Below W.heap.size W W' → KI W → KI W'
  box : ∀ W, KI W → W.cell? ⟨bt, 0, none⟩ = some (.pointer (some ⟨B, 0, none⟩)) ∧ W.cell? ⟨bh, 0, none⟩ = some (.int .i64 h)

theorem walk_next {l A C : List Int} {v : Int} (e : l = A ++ v :: C) (hnd : l.Nodup) (h0 : 0 ∉ l) : Tr.nxt l v = Tr.fs C ∧ l.idxOf v = A.length ∧ A.length + 1 ≤ l.idxOf (Tr.fs C) := by
  have hv : v ∉ A := fun hm => by rw [e] at hnd; exact (List.nodup_append.1 hnd).2.2 _ hm _ (by simp) rfl
  refine ⟨by rw [e]; exact Tr.nxt_split hv, by rw [e]; exact Tr.idxOf_split hv, ?_⟩
  cases C with
  | nil =>
    have : l.idxOf (0 : Int) = l.length := List.idxOf_eq_length h0
    show _ ≤ l.idxOf (0 : Int)
    rw [this, e]; simp
  | cons y r =>
    have e2 : l = (A ++ [v]) ++ y :: r := by rw [e]; simp
    have hy : y ∉ A ++ [v] := fun hm => by rw [e2] at hnd; exact (List.nodup_append.1 hnd).2.2 _ hm _ (by simp) rfl
    show _ ≤ l.idxOf y
    rw [e2, Tr.idxOf_split hy]; simp

set_option maxRecDepth 100000 in
set_option maxHeartbeats 2000000 in
theorem kids1_in (KI : World → Prop) (B bt bh lp n : Nat) (b s h : Int) (l : List Int) (J Jx : List {x : Int // x ∈ l} → World → Prop) (W : World) (hK : KIds KI B bt bh b s h l) (hh : I64 h) (hnd : l.Nodup) (h0l : 0 ∉ l) (hn : 2 ≤ n)
    (hJ : AbidesFrom W.heap.size J)
    (hY : ∀ pre x W1, J pre W1 → pre.length < l.length → YieldAt Fence.wide (n - 1) Tryd.prog lp #[.int .i64 x.1] W1 fun e W' => (e = .returned (.bool true) ∧ J (pre ++ [x]) W' ∧ (KI W1 → KI W')) ∨ (e = .returned (.bool false) ∧ Jx (pre ++ [x]) W'))
    (hKW : KI W) (h0 : J [] W) :
    CallsIn Fence.wide n Tryd.prog 56 #[.func (.yield lp) #[] #[], .pointer (some ⟨bt, 0, none⟩), .pointer (some ⟨bh, 0, none⟩)] W fun e W' => (∃ v, e = .returned v) ∧
      ((∃ xs, xs = l.attach ∧ J xs W') ∨ (∃ pre, pre <+: l.attach ∧ Jx pre W')) := by
  obtain ⟨base, m, live, vs, vf, R, fr, root, hT, hS, hfi, hne⟩ := hK.read W hKW
  obtain ⟨c0, c1⟩ := hK.box W hKW
  refine callsIn_of_wp Tryd.func56 rfl trivial ?_ rfl
  simp only [Tryd.ntmps56, List.size_toArray, List.length_cons, List.length_nil, Nat.reduceAdd, Nat.reduceSub, Array.replicate_succ, Array.replicate_zero, List.push_toArray, List.append_toArray, List.nil_append, List.cons_append]
  gi_wp2_with fail
  refine ⟨trivial, fun _ => by omega, callsIn_wide.2 ((at_any base B b s root h live m R fr vs vf W hT hS hh).mono ?_)⟩
  rintro e w2 ⟨g, o, rfl, hnp, hb2⟩
  obtain ⟨_, _, _, _, _, t5, _, _, _⟩ := hnp.cells
  rw [hfi] at t5
  have hKW2 := hK.below W w2 hb2 hKW
  have h02 : J [] w2 := hJ [] W w2 none h0 (gb_of_below hb2 none) (fun r e => by cases e)
  clear hT hS hfi hne hnp c0 c1
  gi_wp2_with fail
  gi_loopw [4] (fun k wr => ∃ pre rest : List {x : Int // x ∈ l}, k = .int .i64 (Tr.fs (rest.map (·.1))) ∧ l.attach = pre ++ rest ∧ KI wr ∧ J pre wr) (fun k _ => l.length - l.idxOf (intOf k))
  case atStart => exact ⟨[], l.attach, by simp, rfl, hKW2, h02⟩
  case round =>
    obtain ⟨pre, rest, rfl, hat, hKr, hJr⟩ := hrel
    have hmap : pre.map (·.1) ++ rest.map (·.1) = l := by
      have := congrArg (List.map (·.1)) hat
      rw [List.map_append, List.attach_map_subtype_val] at this
      exact this.symm
    obtain ⟨q0, q1⟩ := hK.box wr hKr
    cases rest with
    | nil =>
      have hat' : l.attach = pre := by rw [hat, List.append_nil]
      have HA := Lib.hid hat'
      clear hat hat' hmap hY hnd
      gi_wp2_with fail
      go_end0
      exact ⟨⟨_, rfl⟩, .inl ⟨pre, HA.out.symm, hJr⟩⟩
    | cons x rest =>
      have hfs : Tr.fs ((x :: rest).map (·.1)) = x.1 := rfl
      have hx0 : x.1 ≠ 0 := fun e => h0l (e ▸ x.2)
      have hc1 : (x.1 != 0) = true := by simpa using hx0
      have hlen : pre.length < l.length := by
        have := congrArg List.length hmap
        simp at this
        omega
      obtain ⟨hnx, hidx, hidx2⟩ := walk_next (A := pre.map (·.1)) (v := x.1) (C := rest.map (·.1)) hmap.symm hnd h0l
      rw [List.length_map] at hidx hidx2
      rw [hfs]
      obtain ⟨fn, tmps, assign, body, hy, hR⟩ := hY pre x wr hJr hlen
      have HAT := Lib.hid hat
      have HNX := Lib.hid hnx
      have HID := Lib.hid (And.intro hidx hidx2)
      have hxm := x.2
      clear hat hmap hY hfs hnx hidx hidx2
      gi_wp2_with fail
      refine ⟨fun _ => by omega, hR.mono ?_⟩
      rintro e w3 (⟨rfl, hJ3, hk3⟩ | ⟨rfl, hJx3⟩)
      · have hK3 := hk3 hKr
        obtain ⟨base, m, live, vs, vf, R, fr, root, hT, hS, _, hne⟩ := hK.read w3 hK3
        obtain ⟨c0, c1⟩ := hK.box w3 hK3
        obtain ⟨d, ed, hdn⟩ := hne x.1 hxm
        have hxi := (tmem_i64 hS (h := x.1) (by rw [ed]; rfl)).1
        gi_wp2_with fail
        refine ⟨trivial, fun _ => by omega, callsIn_wide.2 ((at_any base B b s root x.1 live m R fr vs vf w3 hT hS hxi).mono ?_)⟩
        rintro e w4 ⟨g, o, rfl, hnp, hb4⟩
        rw [ed] at hnp
        obtain ⟨_, _, _, _, _, _, _, _, t8⟩ := hnp.cells
        have t8' : w4.cell? ⟨g, o + 8, none⟩ = some (.int .i64 (Tr.fs (rest.map (·.1)))) := by rw [t8, ← HNX.out, ← hdn]; rfl
        have hK4 := hK.below w3 w4 hb4 hK3
        clear hT hS hne hnp t8 ed hdn
        gi_wp2_with fail
        go_roundw
        case rel =>
          exact ⟨pre ++ [x], rest, rfl, by rw [HAT.out]; simp, hK4, hJ _ w3 w4 none hJ3 (gb_of_below hb4 none) (fun r e => by cases e)⟩
        case measure =>
          have := HID.out
          show l.length - l.idxOf (Tr.fs (rest.map (·.1))) < l.length - l.idxOf x.1
          omega
      · gi_wp2_with fail
        refine bodyPost_ret (results_none rfl _ _ _) rfl ?_
        exact ⟨⟨_, rfl⟩, .inr ⟨_, ⟨rest, by rw [HAT.out]; simp⟩, hJx3⟩⟩

/-- What is kept between two rounds on the way up. -/
structure UIds (KI : World → Prop) (B bt bh : Nat) (b s h : Int) (l : List Int) : Prop where
  read : ∀ W, KI W → ∃ (base n live : Nat) (vs vf : Value) (R : Int → Option Tr.Nd) (fr : List Nat) (root : Int), TV base W B b s vs n R vf fr live root ∧ Sound b s n R fr live ∧ (l = [] → R h = none) ∧ ∀ x ∈ l, ∃ e, R x = some e ∧ e.pa = Tr.nxt l x
  below : ∀ W W', Below W.heap.size W W' → KI W → KI W'
  box : ∀ W, KI W → W.cell? ⟨bt, 0, none⟩ = some (.pointer (some ⟨B, 0, none⟩)) ∧ W.cell? ⟨bh, 0, none⟩ = some (.int .i64 h)

set_option maxRecDepth 100000 in
set_option maxHeartbeats 2000000 in
theorem up1_in (KI : World → Prop) (B bt bh lp n : Nat) (b s h : Int) (l : List Int) (J Jx : List {x : Int // x ∈ l} → World → Prop) (W : World) (hK : UIds KI B bt bh b s h l) (hh : I64 h) (hhd : l ≠ [] → Tr.fs l = h) (hnd : l.Nodup) (h0l : 0 ∉ l) (hn : 2 ≤ n)
    (hJ : AbidesFrom W.heap.size J)
    (hY : ∀ pre x W1, J pre W1 → pre.length < l.length → YieldAt Fence.wide (n - 1) Tryd.prog lp #[.int .i64 x.1] W1 fun e W' => (e = .returned (.bool true) ∧ J (pre ++ [x]) W' ∧ (KI W1 → KI W')) ∨ (e = .returned (.bool false) ∧ Jx (pre ++ [x]) W'))
    (hKW : KI W) (h0 : J [] W) :
    CallsIn Fence.wide n Tryd.prog 55 #[.func (.yield lp) #[] #[], .pointer (some ⟨bh, 0, none⟩), .pointer (some ⟨bt, 0, none⟩)] W fun e W' => (∃ v, e = .returned v) ∧
      ((∃ xs, xs = l.attach ∧ J xs W') ∨ (∃ pre, pre <+: l.attach ∧ Jx pre W')) := by
  obtain ⟨c0, c1⟩ := hK.box W hKW
  refine callsIn_of_wp Tryd.func55 rfl trivial ?_ rfl
  simp only [Tryd.ntmps55, List.size_toArray, List.length_cons, List.length_nil, Nat.reduceAdd, Nat.reduceSub, Array.replicate_succ, Array.replicate_zero, List.push_toArray, List.append_toArray, List.nil_append, List.cons_append]
  gi_wp2_with fail
  gi_loopw [4] (fun k wr => ∃ (pre rest : List {x : Int // x ∈ l}) (y : Int), k = .int .i64 y ∧ (rest = [] → (l = [] ∧ y = h) ∨ y = 0) ∧ (rest ≠ [] → y = Tr.fs (rest.map (·.1))) ∧ l.attach = pre ++ rest ∧ KI wr ∧ J pre wr) (fun k _ => l.length - l.idxOf (intOf k))
  case atStart =>
    refine ⟨[], l.attach, h, rfl, fun e => .inl ⟨by simpa using e, rfl⟩, fun e => ?_, rfl, hKW, h0⟩
    rw [List.attach_map_subtype_val]
    exact (hhd (fun e' => e (by simp [e']))).symm
  case round =>
    obtain ⟨pre, rest, y, rfl, hr0, hr1, hat, hKr, hJr⟩ := hrel
    have hmap : pre.map (·.1) ++ rest.map (·.1) = l := by
      have := congrArg (List.map (·.1)) hat
      rw [List.map_append, List.attach_map_subtype_val] at this
      exact this.symm
    obtain ⟨q0, q1⟩ := hK.box wr hKr
    obtain ⟨base, m, live, vs, vf, R, fr, root, hT, hS, hnone, hne⟩ := hK.read wr hKr
    cases rest with
    | nil =>
      have hy : R y = none ∧ I64 y := by
        rcases hr0 rfl with ⟨e1, e2⟩ | e
        · rw [e2]; exact ⟨hnone e1, hh⟩
        · rw [e]; exact ⟨hS.zero (Int.le_refl 0), by constructor <;> omega⟩
      have hat' : l.attach = pre := by rw [hat, List.append_nil]
      have HA := Lib.hid hat'
      have HH := Lib.hid (has_any base B b s root y live m R fr vs vf wr hT hS hy.2)
      have HY0 := Lib.hid hy.1
      clear hat hat' hmap hY hnd hr0 hr1 hT hS hnone hne hy
      gi_wp2_with fail
      refine ⟨trivial, fun _ => by omega, callsIn_wide.2 (HH.out.mono ?_)⟩
      rintro e w4 ⟨rfl, hb4⟩
      have hJ4 := hJ _ wr w4 none hJr (gb_of_below hb4 none) (fun r e => by cases e)
      rw [HY0.out]
      gi_wp2_with fail
      go_end0
      exact ⟨⟨_, rfl⟩, .inl ⟨pre, HA.out.symm, hJ4⟩⟩
    | cons x rest =>
      have hyx : y = x.1 := hr1 (by simp)
      subst hyx
      have hlen : pre.length < l.length := by
        have := congrArg List.length hmap
        simp at this
        omega
      obtain ⟨hnx, hidx, hidx2⟩ := walk_next (A := pre.map (·.1)) (v := x.1) (C := rest.map (·.1)) hmap.symm hnd h0l
      rw [List.length_map] at hidx hidx2
      obtain ⟨d, ed, hdn⟩ := hne x.1 x.2
      have hxi := (tmem_i64 hS (h := x.1) (by rw [ed]; rfl)).1
      have HH := Lib.hid (has_any base B b s root x.1 live m R fr vs vf wr hT hS hxi)
      have HAT := Lib.hid hat
      have HNX := Lib.hid hnx
      have HID := Lib.hid (And.intro hidx hidx2)
      have HED := Lib.hid ed
      have hxm := x.2
      clear hat hmap hnx hidx hidx2 hr0 hr1 hT hS hnone hne hdn ed
      gi_wp2_with fail
      refine ⟨trivial, fun _ => by omega, callsIn_wide.2 (HH.out.mono ?_)⟩
      rintro e w4 ⟨rfl, hb4⟩
      have hJ4 := hJ _ wr w4 none hJr (gb_of_below hb4 none) (fun r e => by cases e)
      have hK4 := hK.below wr w4 hb4 hKr
      obtain ⟨fn, tmps, assign, body, hy, hR⟩ := hY pre x w4 hJ4 hlen
      rw [HED.out]
      clear hY
      gi_wp2_with fail
      refine ⟨fun _ => by omega, hR.mono ?_⟩
      rintro e w3 (⟨rfl, hJ3, hk3⟩ | ⟨rfl, hJx3⟩)
      · have hK3 := hk3 hK4
        obtain ⟨base, m, live, vs, vf, R, fr, root, hT, hS, _, hne⟩ := hK.read w3 hK3
        obtain ⟨c0, c1⟩ := hK.box w3 hK3
        obtain ⟨d, ed, hdn⟩ := hne x.1 hxm
        gi_wp2_with fail
        refine ⟨trivial, fun _ => by omega, callsIn_wide.2 ((at_any base B b s root x.1 live m R fr vs vf w3 hT hS hxi).mono ?_)⟩
        rintro e w5 ⟨g, o, rfl, hnp, hb5⟩
        rw [ed] at hnp
        obtain ⟨_, _, _, _, t4, _, _, _, _⟩ := hnp.cells
        have t4' : w5.cell? ⟨g, o + 4, none⟩ = some (.int .i64 (Tr.fs (rest.map (·.1)))) := by rw [t4, ← HNX.out, ← hdn]; rfl
        have hK5 := hK.below w3 w5 hb5 hK3
        clear hT hS hne hnp t4 ed hdn
        gi_wp2_with fail
        go_roundw
        case rel =>
          exact ⟨pre ++ [x], rest, _, rfl, fun e => .inr (by rw [e]; rfl), fun _ => rfl, by rw [HAT.out]; simp, hK5, hJ _ w3 w5 none hJ3 (gb_of_below hb5 none) (fun r e => by cases e)⟩
        case measure =>
          have := HID.out
          show l.length - l.idxOf (Tr.fs (rest.map (·.1))) < l.length - l.idxOf x.1
          omega
      · gi_wp2_with fail
        refine bodyPost_ret (results_none rfl _ _ _) rfl ?_
        exact ⟨⟨_, rfl⟩, .inr ⟨_, ⟨rest, by rw [HAT.out]; simp⟩, hJx3⟩⟩
end Go.Proofs.YtelncgfeojfafaaDoor

/- following, and Walk as a function to range over. -/
namespace Go.Proofs.YtelncgfeojfafaaDoor
open Go.RowKit Go.Shelf
set_option linter.unusedVariables false
set_option linter.unusedSimpArgs false

end Go.Proofs.YtelncgfeojfafaaDoor

/- Walk as a function to range over. -/
namespace Go.Proofs.YtelncgfeojfafaaDoor
open Go.RowKit Go.Shelf
set_option linter.unusedVariables false
set_option linter.unusedSimpArgs false
attribute [local go_sem] Oper.semAt_some

/-- What is kept between two rounds over a subtree. -/
structure WIds (KI : World → Prop) (B bt bh : Nat) (b s h : Int) (g : Tr.G) : Prop where
  read : ∀ W, KI W → ∃ (base n live : Nat) (vs vf : Value) (av : Int → Tr.Sl) (fr : List Nat) (root : Int), TV base W B b s vs n (Tr.raw g av) vf fr live root ∧ Sound b s n (Tr.raw g av) fr live
  below : ∀ W W', Below W.heap.size W W' → KI W → KI W'
  box : ∀ W, KI W → W.cell? ⟨bt, 0, none⟩ = some (.pointer (some ⟨B, 0, none⟩)) ∧ W.cell? ⟨bh, 0, none⟩ = some (.int .i64 h)

end Go.Proofs.YtelncgfeojfafaaDoor

/- What a loop over a tree keeps; depth, Contains, Top. -/
namespace Go.Proofs.YtelncgfeojfafaaDoor
open Go.RowKit Go.Shelf
set_option linter.unusedVariables false
set_option linter.unusedSimpArgs false
attribute [local go_sem] Oper.semAt_some

/-- The tree can be read, and the iterator's two boxes lie. -/
structure LS (base B bt bh : Nat) (b s h : Int) (vs : Value) (n : Nat) (R : Int → Option Tr.Nd) (vf : Value) (fr : List Nat) (live : Nat) (root : Int) (W : World) : Prop where
  tree : TV base W B b s vs n R vf fr live root
  bt : Whole W bt #[.pointer (some ⟨B, 0, none⟩)] 23
  bh : Whole W bh #[.int .i64 h] 3
section
variable {base B bt bh n live : Nat} {b s h root : Int} {vs vf : Value} {R : Int → Option Tr.Nd} {fr : List Nat} {W W' : World}
theorem LS.below (H : LS base B bt bh b s h vs n R vf fr live root W) (hb : Below W.heap.size W W') : LS base B bt bh b s h vs n R vf fr live root W' :=
  ⟨H.tree.below hb, H.bt.below hb H.bt.lt, H.bh.below hb H.bh.lt⟩
theorem TV.others {row : Option Nat} (H : TV base W B b s vs n R vf fr live root) (hg : W.grownBy W' row) (hr : ∀ r, row = some r → ∃ o : Obj, W.heap[r]? = some o ∧ o.isCells = false) : TV base W' B b s vs n R vf fr live root := by
  refine H.turns (S := fun k => row = some k) (.of_grown hg (fun k hk => hk)) ?_
  intro k hk e
  obtain ⟨o, ho, hc⟩ := hr k e
  have hcell : ∃ cs t fz, W.heap[k]? = some (.cells cs t fz) := by
    rcases hk with rfl | hk | hk
    · exact ⟨_, _, _, H.var⟩
    · rcases H.row.2 with ⟨e1, _⟩ | ⟨g', cap, cur, e1, _, hg', _⟩
      · rw [e1] at hk; simp [Value.ownBlock] at hk
      · rw [e1] at hk
        have : g' = k := by simpa [Value.ownBlock] using hk
        rw [← this]; exact ⟨_, _, _, hg'⟩
    · rcases H.free.2 with ⟨e1, _⟩ | ⟨g', cap, cur, e1, _, hg', _⟩
      · rw [e1] at hk; simp [Value.ownBlock] at hk
      · rw [e1] at hk
        have : g' = k := by simpa [Value.ownBlock] using hk
        rw [← this]; exact ⟨_, _, _, hg'⟩
  obtain ⟨cs, t, fz, hx⟩ := hcell
  rw [hx] at ho
  obtain rfl := Option.some.inj ho
  cases hc
theorem whole_others {row : Option Nat} {k : Nat} {cs : Array Value} {t : TypeId} (H : Whole W k cs t) (hg : W.grownBy W' row) (hr : ∀ r, row = some r → ∃ o : Obj, W.heap[r]? = some o ∧ o.isCells = false) : Whole W' k cs t :=
  H.grown hg (fun e => by
    obtain ⟨o, ho, hc⟩ := hr k e.symm
    rw [show W.heap[k]? = _ from H] at ho
    obtain rfl := Option.some.inj ho
    cases hc)
theorem LS.others {row : Option Nat} (H : LS base B bt bh b s h vs n R vf fr live root W) (hg : W.grownBy W' row) (hr : ∀ r, row = some r → ∃ o : Obj, W.heap[r]? = some o ∧ o.isCells = false) : LS base B bt bh b s h vs n R vf fr live root W' :=
  ⟨H.tree.others hg hr, whole_others H.bt hg hr, whole_others H.bh hg hr⟩
/-- A store into another block. -/
theorem LS.set (H : LS base B bt bh b s h vs n R vf fr live root W) {m : Nat} (hm : ¬ Foot B vs vf m) (h1 : m ≠ bt) (h2 : m ≠ bh) (i : Nat) (v : Value) : LS base B bt bh b s h vs n R vf fr live root (W.setCell ⟨m, i, none⟩ v) :=
  ⟨H.tree.turns (S := fun k => k = m) (.of_grown (gb_put (gb_of_below (Below.refl W.heap.size W) (some m)) i v) (fun j hj => by simpa using hj.symm)) (fun k hk e => hm (e ▸ hk)), H.bt.other (fun e => h1 e.symm) _, H.bh.other (fun e => h2 e.symm) _⟩
theorem LS.keepT {P : World → Prop} {A B C : World} (h1 : P A → P B) (h2 : P B → P C) : P A → P C := fun x => h2 (h1 x)
theorem LS.keepB (w : World) : ∀ (W : World) (l : Nat) (o o' : Obj), w.heap.size ≤ l → W.heap[l]? = some o → o.isCells = false → o.isWalk = false → LS base B bt bh b s h vs n R vf fr live root W → LS base B bt bh b s h vs n R vf fr live root (W.putObj l o') :=
  fun W l o o' _ hl hc _ H => H.others (grownBy_putObj' W l o') (fun r e => by cases e; exact ⟨o, hl, hc⟩)
theorem ko_below {W W' : World} (h : Below W.heap.size W W') : KeepsOthers W W' := ⟨h.size, fun k o hk _ => (h.block k (Array.getElem?_eq_some_iff.1 hk).1).trans hk⟩
theorem LS.kids {g : Tr.G} {av : Int → Tr.Sl} (hS : Sound b s n (Tr.raw g av) fr live) (hw : Tr.WF 0 g) : KIds (LS base B bt bh b s h vs n (Tr.raw g av) vf fr live root) B bt bh b s h (Tr.kidsOf g h) where
  read W H := by
    refine ⟨base, n, live, vs, vf, Tr.raw g av, fr, root, H.tree, hS, ?_, fun x hx => ?_⟩
    · cases e : g h with
      | none => rw [Tr.raw_none e, Tr.kidsOf_none e]; rfl
      | some m => rw [Tr.raw_some e, Tr.kidsOf_some e]; rfl
    · obtain ⟨m, e1, e2⟩ := hw.kidsOf_mem hx
      refine ⟨_, Tr.raw_some e1, ?_⟩
      show Tr.nxt (Tr.kidsOf g m.pa) x = _
      rw [e2]
  below W W' hb H := H.below hb
  box W H := ⟨H.bt.cell 0, H.bh.cell 0⟩
theorem up_next {g : Tr.G} (hw : Tr.WF 0 g) : ∀ (l : List Int) (x : Int), Tr.Up g x l → ∀ y ∈ l, ∃ m, g y = some m ∧ m.pa = Tr.nxt l y := by
  intro l
  induction l with
  | nil => intro x _ y hy; cases hy
  | cons a r ih =>
    intro x u y hy
    cases u with
    | @node _ m _ e u =>
      rcases List.mem_cons.1 hy with rfl | hy
      · refine ⟨m, e, ?_⟩
        rw [Tr.nxt, if_pos rfl]
        cases u with
        | out e' =>
          rcases hw.pa e with h1 | ⟨p, h1, _⟩
          · exact h1
          · rw [e'] at h1; cases h1
        | node _ _ => rfl
      · obtain ⟨m', h1, h2⟩ := ih _ u y hy
        refine ⟨m', h1, ?_⟩
        rw [Tr.nxt, if_neg]
        · exact h2
        · rintro rfl
          exact hw.above e u hy
theorem LS.up {g : Tr.G} {av : Int → Tr.Sl} (hS : Sound b s n (Tr.raw g av) fr live) (hw : Tr.WF 0 g) : UIds (LS base B bt bh b s h vs n (Tr.raw g av) vf fr live root) B bt bh b s h (Tr.upG g h) where
  read W H := by
    refine ⟨base, n, live, vs, vf, Tr.raw g av, fr, root, H.tree, hS, fun e => ?_, fun x hx => ?_⟩
    · cases e1 : g h with
      | none => exact Tr.raw_none e1
      | some m => rw [hw.upG_some e1] at e; cases e
    · obtain ⟨m, e1, e2⟩ := up_next hw _ _ (hw.up_is h).1 x hx
      exact ⟨_, Tr.raw_some e1, e2⟩
  below W W' hb H := H.below hb
  box W H := ⟨H.bt.cell 0, H.bh.cell 0⟩
theorem LS.walk {g : Tr.G} {av : Int → Tr.Sl} (hS : Sound b s n (Tr.raw g av) fr live) : WIds (LS base B bt bh b s h vs n (Tr.raw g av) vf fr live root) B bt bh b s h g where
  read W H := ⟨base, n, live, vs, vf, av, fr, root, H.tree, hS⟩
  below W W' hb H := H.below hb
  box W H := ⟨H.bt.cell 0, H.bh.cell 0⟩
theorem up_head {g : Tr.G} (hw : Tr.WF 0 g) (h : Int) : Tr.upG g h ≠ [] → Tr.fs (Tr.upG g h) = h := fun e => by
  cases eg : g h with
  | none => rw [hw.upG_none eg] at e; exact absurd rfl e
  | some m => rw [hw.upG_some eg]; rfl
theorem up_zero {g : Tr.G} (hw : Tr.WF 0 g) (h : Int) : 0 ∉ Tr.upG g h := fun e => by
  have := (hw.up_is h).1.mem e
  rw [hw.zero] at this; cases this
/-- The way up as a function to range over. -/
theorem up_seq {g : Tr.G} {av : Int → Tr.Sl} (hS : Sound b s n (Tr.raw g av) fr live) (hw : Tr.WF 0 g) (hh : I64 h) (k : Nat) (hk : 2 ≤ k) (w : World) (H : LS base B bt bh b s h vs n (Tr.raw g av) vf fr live root w) :
    SeqStopsK Fence.wide k Tryd.prog 55 #[.pointer (some ⟨bh, 0, none⟩), .pointer (some ⟨bt, 0, none⟩)] (fun x : {x : Int // x ∈ Tr.upG g h} => #[.int .i64 x.1])
      (fun A B' => LS base B bt bh b s h vs n (Tr.raw g av) vf fr live root A → LS base B bt bh b s h vs n (Tr.raw g av) vf fr live root B') (fun xs => xs = (Tr.upG g h).attach) (fun pre => pre <+: (Tr.upG g h).attach) (Tr.upG g h).length w :=
  fun l J Jx W hW hJ _ hY h0 => up1_in _ B bt bh l k b s h (Tr.upG g h) J Jx W (LS.up hS hw) hh (up_head hw h) (hw.up_nodup h) (up_zero hw h) hk hJ hY (H.below hW) h0
theorem kids_seq {g : Tr.G} {av : Int → Tr.Sl} (hS : Sound b s n (Tr.raw g av) fr live) (hw : Tr.WF 0 g) (hh : I64 h) (k : Nat) (hk : 2 ≤ k) (w : World) (H : LS base B bt bh b s h vs n (Tr.raw g av) vf fr live root w) :
    SeqStopsK Fence.wide k Tryd.prog 56 #[.pointer (some ⟨bt, 0, none⟩), .pointer (some ⟨bh, 0, none⟩)] (fun x : {x : Int // x ∈ Tr.kidsOf g h} => #[.int .i64 x.1])
      (fun A B' => LS base B bt bh b s h vs n (Tr.raw g av) vf fr live root A → LS base B bt bh b s h vs n (Tr.raw g av) vf fr live root B') (fun xs => xs = (Tr.kidsOf g h).attach) (fun pre => pre <+: (Tr.kidsOf g h).attach) (Tr.kidsOf g h).length w :=
  fun l J Jx W hW hJ _ hY h0 => kids1_in _ B bt bh l k b s h (Tr.kidsOf g h) J Jx W (LS.kids hS hw) hh (hw.kidsOf_nodup h) (hw.kidsOf_zero h) hk hJ hY (H.below hW) h0
/-- The boxes of an iterator that has been made. -/
theorem LS.made {w : World} (H : TV base w B b s vs n R vf fr live root) : LS base B w.heap.size (w.heap.size + 1) b s h vs n R vf fr live root ((w.alloc (.cells #[.pointer (some ⟨B, 0, none⟩)] 23)).alloc (.cells #[.int .i64 h] 3)) := by
  refine ⟨H.below (((Below.refl _ w).alloc (Nat.le_refl _) _).alloc (by simp) _), (Whole.new w _ _).alloc _, ?_⟩
  have := Whole.new (w.alloc (.cells #[.pointer (some ⟨B, 0, none⟩)] 23)) #[.int .i64 h] 3
  rwa [World.size_alloc] at this
end
end Go.Proofs.YtelncgfeojfafaaDoor

/- depth: how many levels lie above a node, with it. -/
namespace Go.Proofs.YtelncgfeojfafaaDoor
open Go.RowKit Go.Shelf
set_option linter.unusedVariables false
set_option linter.unusedSimpArgs false
attribute [local go_sem] Oper.semAt_some

set_option maxRecDepth 100000 in
set_option maxHeartbeats 4000000 in
theorem depth_any (base B : Nat) (b s root h : Int) (live n : Nat) (g : Tr.G) (av : Int → Tr.Sl) (fr : List Nat) (vs vf : Value) (w : World) (hm : TV base w B b s vs n (Tr.raw g av) vf fr live root) (hS : Sound b s n (Tr.raw g av) fr live) (hw : Tr.WF 0 g) (hh : I64 h) :
    Calls Tryd.prog 20 #[.pointer (some ⟨B, 0, none⟩), .int .i64 h] w fun e w' => e = .returned (.int .i64 ((Tr.upG g h).length : Nat)) ∧ Below w.heap.size w w' := by
  have hul := (hw.up_is h).2
  have hlt := hm.lt
  refine (callsIn_wide (n := 8)).1 ?_
  refine callsIn_of_wp_marks Tryd.func20 rfl trivial ?_ rfl
  simp only [Tryd.ntmps20, List.size_toArray, List.length_cons, List.length_nil, Nat.reduceAdd, Nat.reduceSub, Array.replicate_succ, Array.replicate_zero, List.push_toArray, List.append_toArray, List.nil_append, List.cons_append]
  gi_wp2_with fail
  obtain ⟨w1, hw1⟩ : ∃ w1, w.alloc (.cells #[.int .i64 0] 3) = w1 := ⟨_, rfl⟩
  have hz1 : w1.heap.size = w.heap.size + 1 := by rw [← hw1]; simp
  have hb1 : Below w.heap.size w w1 := by rw [← hw1]; exact (Below.refl _ w).alloc (Nat.le_refl _) _
  have hX1 : Whole w1 w.heap.size #[.int .i64 0] 3 := by rw [← hw1]; exact Whole.new w _ _
  have hL := LS.made (h := h) (hm.below hb1)
  have hsz2 : ((w1.alloc (.cells #[.pointer (some ⟨B, 0, none⟩)] 23)).alloc (.cells #[.int .i64 h] 3)).heap.size = w1.heap.size + 2 := by simp
  have hb2 : Below w1.heap.size w1 ((w1.alloc (.cells #[.pointer (some ⟨B, 0, none⟩)] 23)).alloc (.cells #[.int .i64 h] 3)) := ((Below.refl _ w1).alloc (Nat.le_refl _) _).alloc (by simp) _
  have hseq := up_seq hS hw hh 7 (by omega) _ hL
  have HUP := Lib.hid (up_make B h w1)
  try rw [hw1]
  refine ⟨trivial, (callsIn_wide.2 HUP.out).mono ?_⟩
  rintro e w' ⟨rfl, hw'⟩
  rw [← hw'] at hL hsz2 hb2 hseq
  have hX2 := hX1.below hb2 hX1.lt
  have hB2 := hb1.trans (hb2.mono hb1.size)
  clear hm hS hX1 hw' hb2 HUP
  gi_wp2_with fail
  rw [hz1] at hseq hL hsz2
  have hm1 : ¬ Foot B vs vf w.heap.size := fun hk => by have := (hlt _ hk).2; omega
  refine wpIn_rangeFunc_ownF (w := w') rfl (by decide) (gf := 55) (lb := #[.pointer (some ⟨w.heap.size + 1 + 1, 0, none⟩), .pointer (some ⟨w.heap.size + 1, 0, none⟩)]) rfl trivial (enters_of Tryd.func55 (by kernel_rfl) rfl) hseq LS.keepT (LS.keepB _) (Below.refl _ _) (fun _ => rfl)
    (fun pre W => Whole W w.heap.size #[.int .i64 (pre.length : Nat)] 3 ∧ LS base B (w.heap.size + 1) (w.heap.size + 1 + 1) b s h vs n (Tr.raw g av) vf fr live root W ∧ Below w.heap.size w W) (fun _ _ _ => False)
    ?hI ?hIx ⟨hX2, hL, hB2⟩ (fun x => { tmps := #[.pointer (some ⟨B, 0, none⟩), .int .i64 h, undef, undef, .int .i64 0, .pointer (some ⟨w.heap.size, 0, none⟩), .pointer (some ⟨B, 0, none⟩), .int .i64 h, .func (.func 55) #[] #[.pointer (some ⟨w.heap.size + 1 + 1, 0, none⟩), .pointer (some ⟨w.heap.size + 1, 0, none⟩)], .int .i64 x.1, undef, undef, undef], defers := [] }) ?assign ?body ?done ?stop
  case hI =>
    rintro pre W W' row ⟨h1, h2, h3⟩ hg hr
    exact ⟨whole_others h1 hg (fun r e => (hr r e).2), h2.others hg (fun r e => (hr r e).2), h3.grown hg h3.size (fun r e => by have := (hr r e).1; omega)⟩
  case hIx => intro c pre W W' row h _ _; exact h
  case assign =>
    intro l x W K hK
    gi_wp2
    simpa using hK
  case body =>
    rintro l pre x W ⟨hX, hLW, hBW⟩ hlen
    have c0 : W.cell? ⟨w.heap.size, 0, none⟩ = some (.int .i64 (pre.length : Nat)) := hX.cell 0
    have f0 := hX.free 0
    have hpl : pre.length ≤ 128 := by omega
    have hX' := hX.put 0 (.int .i64 ((pre.length : Int) + 1))
    have hL' := hLW.set hm1 (by omega) (by omega) 0 (.int .i64 ((pre.length : Int) + 1))
    have HF := Lib.hid (And.intro hX' (And.intro hL' (hBW.setCell (p := ⟨w.heap.size, 0, none⟩) (Nat.le_refl _) (.int .i64 ((pre.length : Int) + 1)))))
    clear hX hLW hBW hX' hL'
    gi_wp2_with fail
    refine ⟨KeepsOthers.setCell _ _ _, fun _ => HF.out.2.1, ?_, HF.out.2.1, HF.out.2.2⟩
    rw [List.length_append]
    exact HF.out.1
  case done =>
    rintro D xs W hD rfl ⟨hX, hLW, hBW⟩ hK
    rw [List.length_attach] at hX
    have c0 : W.cell? ⟨w.heap.size, 0, none⟩ = some (.int .i64 ((Tr.upG g h).length : Nat)) := hX.cell 0
    have HB := Lib.hid (hBW.trans (belowK_b (w := w) (Nat.le_refl _) W D _ (.deferred none) (by omega) hK rfl rfl))
    clear hX hLW hBW
    gi_wp2_with fail
    refine ⟨by simp, .inl ⟨_, _, rfl, run_takeDeferred hK, ?_⟩⟩
    exact ⟨_, results_tmp rfl _ _ _, rfl, HB.out⟩
  case stop =>
    rintro D c pre W _ _ h _
    exact h.elim
end Go.Proofs.YtelncgfeojfafaaDoor

/- height: the levels of a subtree. -/
namespace Go.Proofs.YtelncgfeojfafaaDoor
open Go.RowKit Go.Shelf
set_option linter.unusedVariables false
set_option linter.unusedSimpArgs false
attribute [local go_sem] Oper.semAt_some

/-- The greatest height of some nodes. -/
def maxH (g : Tr.G) (l : List Int) : Nat := (l.map (Tr.hgtG g)).foldl max 0
theorem maxH_snoc (g : Tr.G) (l : List Int) (x : Int) : maxH g (l ++ [x]) = max (maxH g l) (Tr.hgtG g x) := by simp [maxH]

set_option maxRecDepth 100000 in
set_option maxHeartbeats 4000000 in
theorem height_any (base B : Nat) (b s root : Int) (live n : Nat) (g : Tr.G) (av : Int → Tr.Sl) (fr : List Nat) (vs vf : Value) (hS : Sound b s n (Tr.raw g av) fr live) (hw : Tr.WF 0 g) : ∀ h, (g h).isSome → ∀ w, TV base w B b s vs n (Tr.raw g av) vf fr live root →
    Calls Tryd.prog 21 #[.pointer (some ⟨B, 0, none⟩), .int .i64 h] w fun e w' => e = .returned (.int .i64 (Tr.hgtG g h : Nat)) ∧ Below w.heap.size w w' := by
  refine hw.induct fun h ih => ?_
  intro hsome w hm
  obtain ⟨nh, eg⟩ := Option.isSome_iff_exists.1 hsome
  have hh := (tmem_i64 hS (h := h) (by rw [raw_isSome, eg]; rfl)).1
  have hkk := Tr.kidsOf_some eg
  have hres : Tr.hgtG g h = maxH g (Tr.kidsOf g h) + 1 := by rw [hw.hgtG_some eg, hkk]; rfl
  have hle := hw.hgt_le h
  have IH : ∀ k ∈ Tr.kidsOf g h, ∀ w, TV base w B b s vs n (Tr.raw g av) vf fr live root → Calls Tryd.prog 21 #[.pointer (some ⟨B, 0, none⟩), .int .i64 k] w fun e w' => e = .returned (.int .i64 (Tr.hgtG g k : Nat)) ∧ Below w.heap.size w w' := fun k hk w hT => by
    obtain ⟨m, e, _⟩ := hw.kidsOf_mem hk
    exact ih nh eg k (by rw [← hkk]; exact hk) (by rw [e]; rfl) w hT
  clear ih hsome hkk
  have hlt := hm.lt
  rw [hres]
  rw [hres] at hle
  refine (callsIn_wide (n := 8)).1 ?_
  refine callsIn_of_wp_marks Tryd.func21 rfl trivial ?_ rfl
  simp only [Tryd.ntmps21, List.size_toArray, List.length_cons, List.length_nil, Nat.reduceAdd, Nat.reduceSub, Array.replicate_succ, Array.replicate_zero, List.push_toArray, List.append_toArray, List.nil_append, List.cons_append]
  gi_wp2_with fail
  obtain ⟨w1, hw1⟩ : ∃ w1, (w.alloc (.cells #[.pointer (some ⟨B, 0, none⟩)] 23)).alloc (.cells #[.int .i64 0] 3) = w1 := ⟨_, rfl⟩
  have hz1 : w1.heap.size = w.heap.size + 2 := by rw [← hw1]; simp
  have hb1 : Below w.heap.size w w1 := by rw [← hw1]; exact ((Below.refl _ w).alloc (Nat.le_refl _) _).alloc (by simp) _
  have hT1 : Whole w1 w.heap.size #[.pointer (some ⟨B, 0, none⟩)] 23 := by rw [← hw1]; exact (Whole.new w _ _).alloc _
  have hX1 : Whole w1 (w.heap.size + 1) #[.int .i64 0] 3 := by
    have := Whole.new (w.alloc (.cells #[.pointer (some ⟨B, 0, none⟩)] 23)) #[.int .i64 0] 3
    rw [World.size_alloc] at this
    rw [← hw1]; exact this
  have hL := LS.made (h := h) (hm.below hb1)
  have hsz2 : ((w1.alloc (.cells #[.pointer (some ⟨B, 0, none⟩)] 23)).alloc (.cells #[.int .i64 h] 3)).heap.size = w1.heap.size + 2 := by simp
  have hb2 : Below w1.heap.size w1 ((w1.alloc (.cells #[.pointer (some ⟨B, 0, none⟩)] 23)).alloc (.cells #[.int .i64 h] 3)) := ((Below.refl _ w1).alloc (Nat.le_refl _) _).alloc (by simp) _
  have hseq := kids_seq hS hw hh 7 (by omega) _ hL
  have HUP := Lib.hid (kids_make B h w1)
  have t1 : w1.cell? ⟨w.heap.size, 0, none⟩ = some (.pointer (some ⟨B, 0, none⟩)) := hT1.cell 0
  have HIH := Lib.hid IH
  clear IH hres eg
  try rw [hw1]
  refine ⟨trivial, (callsIn_wide.2 HUP.out).mono ?_⟩
  rintro e w' ⟨rfl, hw'⟩
  rw [← hw'] at hL hsz2 hb2 hseq
  have hX2 := hX1.below hb2 hX1.lt
  have hT2 := hT1.below hb2 hT1.lt
  have hB2 := hb1.trans (hb2.mono hb1.size)
  have HSS := Lib.hid hS
  clear hm hS hX1 hw' hb2 HUP hT1 t1
  gi_wp2_with fail
  rw [hz1] at hseq hL hsz2
  have hm1 : ¬ Foot B vs vf (w.heap.size + 1) := fun hk => by have := (hlt _ hk).2; omega
  refine wpIn_rangeFunc_ownF (w := w') rfl (by decide) (gf := 56) (lb := #[.pointer (some ⟨w.heap.size + 1 + 1, 0, none⟩), .pointer (some ⟨w.heap.size + 1 + 1 + 1, 0, none⟩)]) rfl trivial (enters_of Tryd.func56 (by kernel_rfl) rfl) hseq LS.keepT (LS.keepB _) (Below.refl _ _) (fun _ => rfl)
    (fun pre W => Whole W w.heap.size #[.pointer (some ⟨B, 0, none⟩)] 23 ∧ Whole W (w.heap.size + 1) #[.int .i64 (maxH g (pre.map (·.1)) : Nat)] 3 ∧ LS base B (w.heap.size + 1 + 1) (w.heap.size + 1 + 1 + 1) b s h vs n (Tr.raw g av) vf fr live root W ∧ Below w.heap.size w W)
    (fun _ _ _ => False)
    ?hI ?hIx ⟨hT2, hX2, hL, hB2⟩ (fun x => { tmps := #[.pointer (some ⟨B, 0, none⟩), .int .i64 h, .pointer (some ⟨w.heap.size, 0, none⟩), undef, .int .i64 0, .pointer (some ⟨w.heap.size + 1, 0, none⟩), .int .i64 x.1, .pointer (some ⟨B, 0, none⟩), .int .i64 h, .func (.func 56) #[] #[.pointer (some ⟨w.heap.size + 1 + 1, 0, none⟩), .pointer (some ⟨w.heap.size + 1 + 1 + 1, 0, none⟩)], .int .i64 x.1, undef, undef, undef, undef, undef, undef, undef], defers := [] }) ?assign ?body ?done ?stop
  case hI =>
    rintro pre W W' row ⟨hT, h1, h2, h3⟩ hg hr
    exact ⟨whole_others hT hg (fun r e => (hr r e).2), whole_others h1 hg (fun r e => (hr r e).2), h2.others hg (fun r e => (hr r e).2), h3.grown hg h3.size (fun r e => by have := (hr r e).1; omega)⟩
  case hIx => rintro c pre W W' row h _ _; exact h
  case assign =>
    intro l x W K hK
    gi_wp2
    first | exact hK | simpa using hK
  case body =>
    rintro l pre x W ⟨hT, hX, hLW, hBW⟩ hlen
    have t0 : W.cell? ⟨w.heap.size, 0, none⟩ = some (.pointer (some ⟨B, 0, none⟩)) := hT.cell 0
    have c0 : W.cell? ⟨w.heap.size + 1, 0, none⟩ = some (.int .i64 (maxH g (pre.map (·.1)) : Nat)) := hX.cell 0
    have f0 := hX.free 0
    obtain ⟨M, hM⟩ : ∃ M, maxH g (pre.map (·.1)) = M := ⟨_, rfl⟩
    obtain ⟨X, hXX⟩ : ∃ X, Tr.hgtG g x.1 = X := ⟨_, rfl⟩
    rw [hM] at c0
    have hKf := fun (w4 : World) (hb4 : Below W.heap.size W w4) => And.intro (hT.below hb4 hT.lt) (And.intro (hX.below hb4 hX.lt) (And.intro (hLW.below hb4) (hBW.trans (hb4.mono hBW.size))))
    have hbd : Below W.heap.size W W.drew := ⟨rfl, rfl, rfl, Nat.le_refl _, fun _ _ => rfl⟩
    have HC := Lib.hid (HIH.out x.1 x.2 W.drew (hLW.below hbd).tree)
    rw [hXX] at HC
    have HKF := Lib.hid hKf
    have HBD := Lib.hid hbd
    have HMM := Lib.hid (And.intro hM hXX)
    clear hT hX hLW hBW hKf hbd hM hXX
    have hmx : max (M : Int) (X : Int) = ((max M X : Nat) : Int) := by omega
    gi_wp2_with fail
    gi_region_with (refine ⟨trivial, ?_⟩; gi_at_call 21; refine (CallsIn.inRound l (callsIn_wide.2 HC.out)).mono ?_; rintro e w4 ⟨rfl, hb4⟩; have hbW := HBD.out.trans (hb4.mono HBD.out.size); obtain ⟨hT4, hX4, hL4, hB4⟩ := HKF.out w4 hbW; rw [HMM.out.1] at hX4; have k0 : w4.cell? ⟨w.heap.size + 1, 0, none⟩ = some (.int .i64 (M : Nat)) := hX4.cell 0; have z0 := hX4.free 0; have t4 : w4.cell? ⟨w.heap.size, 0, none⟩ = some (.pointer (some ⟨B, 0, none⟩)) := hT4.cell 0; have hko := ko_below hbW; have HX4 := Lib.hid hX4; have HT4 := Lib.hid hT4; have HL4 := Lib.hid hL4; have HB4 := Lib.hid hB4; clear hX4 hT4 hL4 hB4 hb4 hbW)
    all_goals
      gi_wp2_with fail
      refine ⟨hko.trans (KeepsOthers.setCell _ _ _), fun _ => HL4.out.set hm1 (by omega) (by omega) _ _, HT4.out.other (by show w.heap.size ≠ w.heap.size + 1; omega) _, ?_, HL4.out.set hm1 (by omega) (by omega) _ _, HB4.out.setCell (p := ⟨w.heap.size + 1, 0, none⟩) (Nat.le_succ _) _⟩
      rw [List.map_append, List.map_cons, List.map_nil, maxH_snoc, HMM.out.1, HMM.out.2]
      exact HX4.out.put 0 _
  case done =>
    rintro D xs W hD rfl ⟨_, hX, hLW, hBW⟩ hK
    rw [List.attach_map_subtype_val] at hX
    have c0 : W.cell? ⟨w.heap.size + 1, 0, none⟩ = some (.int .i64 (maxH g (Tr.kidsOf g h) : Nat)) := hX.cell 0
    have HB := Lib.hid (hBW.trans (belowK_b (w := w) (Nat.le_refl _) W D _ (.deferred none) (by omega) hK rfl rfl))
    have hM128 : maxH g (Tr.kidsOf g h) ≤ 128 := by omega
    obtain ⟨M, hM⟩ : ∃ M, maxH g (Tr.kidsOf g h) = M := ⟨_, rfl⟩
    rw [hM] at c0 hM128
    have HM := Lib.hid hM
    clear hX hLW hBW hM hle
    gi_wp2_with fail
    refine ⟨by simp, .inl ⟨_, _, rfl, run_takeDeferred hK, ?_⟩⟩
    refine ⟨_, results_tmp rfl _ _ _, ?_, HB.out⟩
    show Ending.returned (.int .i64 ((M : Int) + 1)) = _
    exact aretI (by rw [HM.out]; omega)
  case stop =>
    rintro D c pre W _ _ h _
    exact h.elim
end Go.Proofs.YtelncgfeojfafaaDoor

/- Contains: whether a node lies on the way up of another. -/
namespace Go.Proofs.YtelncgfeojfafaaDoor
open Go.RowKit Go.Shelf
set_option linter.unusedVariables false
set_option linter.unusedSimpArgs false
attribute [local go_sem] Oper.semAt_some

set_option maxRecDepth 100000 in
set_option maxHeartbeats 4000000 in
theorem contains_any (base B : Nat) (b s root a h : Int) (live n : Nat) (g : Tr.G) (av : Int → Tr.Sl) (fr : List Nat) (vs vf : Value) (w : World) (hm : TV base w B b s vs n (Tr.raw g av) vf fr live root) (hS : Sound b s n (Tr.raw g av) fr live) (hw : Tr.WF 0 g) (hh : I64 h) :
    Calls Tryd.prog 18 #[.pointer (some ⟨B, 0, none⟩), .int .i64 a, .int .i64 h] w fun e w' => e = .returned (.bool (decide (a ∈ Tr.upG g h))) ∧ Below w.heap.size w w' := by
  have hlt := hm.lt
  refine (callsIn_wide (n := 8)).1 ?_
  refine callsIn_of_wp_marks Tryd.func18 rfl trivial ?_ rfl
  simp only [Tryd.ntmps18, List.size_toArray, List.length_cons, List.length_nil, Nat.reduceAdd, Nat.reduceSub, Array.replicate_succ, Array.replicate_zero, List.push_toArray, List.append_toArray, List.nil_append, List.cons_append]
  gi_wp2_with fail
  obtain ⟨w1, hw1⟩ : ∃ w1, (w.alloc (.cells #[.int .i64 a] 3)).alloc (.cells #[.bool false] 4) = w1 := ⟨_, rfl⟩
  have hz1 : w1.heap.size = w.heap.size + 2 := by rw [← hw1]; simp
  have hb1 : Below w.heap.size w w1 := by rw [← hw1]; exact ((Below.refl _ w).alloc (Nat.le_refl _) _).alloc (by simp) _
  have hA1 : Whole w1 w.heap.size #[.int .i64 a] 3 := by rw [← hw1]; exact (Whole.new w _ _).alloc _
  have hX1 : Whole w1 (w.heap.size + 1) #[.bool false] 4 := by
    have := Whole.new (w.alloc (.cells #[.int .i64 a] 3)) #[.bool false] 4
    rw [World.size_alloc] at this
    rw [← hw1]; exact this
  have hL := LS.made (h := h) (hm.below hb1)
  have hsz2 : ((w1.alloc (.cells #[.pointer (some ⟨B, 0, none⟩)] 23)).alloc (.cells #[.int .i64 h] 3)).heap.size = w1.heap.size + 2 := by simp
  have hb2 : Below w1.heap.size w1 ((w1.alloc (.cells #[.pointer (some ⟨B, 0, none⟩)] 23)).alloc (.cells #[.int .i64 h] 3)) := ((Below.refl _ w1).alloc (Nat.le_refl _) _).alloc (by simp) _
  have hseq := up_seq hS hw hh 7 (by omega) _ hL
  have HUP := Lib.hid (up_make B h w1)
  try rw [hw1]
  refine ⟨trivial, (callsIn_wide.2 HUP.out).mono ?_⟩
  rintro e w' ⟨rfl, hw'⟩
  rw [← hw'] at hL hsz2 hb2 hseq
  have hX2 := hX1.below hb2 hX1.lt
  have hA2 := hA1.below hb2 hA1.lt
  have hB2 := hb1.trans (hb2.mono hb1.size)
  clear hm hS hX1 hw' hb2 HUP hA1
  gi_wp2_with fail
  rw [hz1] at hseq hL hsz2
  have hm1 : ¬ Foot B vs vf (w.heap.size + 1) := fun hk => by have := (hlt _ hk).2; omega
  refine wpIn_rangeFunc_ownF (w := w') rfl (by decide) (gf := 55) (lb := #[.pointer (some ⟨w.heap.size + 1 + 1 + 1, 0, none⟩), .pointer (some ⟨w.heap.size + 1 + 1, 0, none⟩)]) rfl trivial (enters_of Tryd.func55 (by kernel_rfl) rfl) hseq LS.keepT (LS.keepB _) (Below.refl _ _) (fun _ => rfl)
    (fun pre W => Whole W w.heap.size #[.int .i64 a] 3 ∧ Whole W (w.heap.size + 1) #[.bool false] 4 ∧ LS base B (w.heap.size + 1 + 1) (w.heap.size + 1 + 1 + 1) b s h vs n (Tr.raw g av) vf fr live root W ∧ Below w.heap.size w W ∧ a ∉ pre.map (·.1))
    (fun c _ W => c = .ret ∧ Whole W (w.heap.size + 1) #[.bool true] 4 ∧ Below w.heap.size w W ∧ a ∈ Tr.upG g h)
    ?hI ?hIx ⟨hA2, hX2, hL, hB2, by simp⟩ (fun x => { tmps := #[.pointer (some ⟨B, 0, none⟩), .int .i64 a, .int .i64 h, undef, .pointer (some ⟨w.heap.size, 0, none⟩), undef, .pointer (some ⟨w.heap.size + 1, 0, none⟩), .int .i64 x.1, .pointer (some ⟨B, 0, none⟩), .int .i64 h, .func (.func 55) #[] #[.pointer (some ⟨w.heap.size + 1 + 1 + 1, 0, none⟩), .pointer (some ⟨w.heap.size + 1 + 1, 0, none⟩)], .int .i64 x.1, undef, undef, undef], defers := [] }) ?assign ?body ?done ?stop
  case hI =>
    rintro pre W W' row ⟨h0, h1, h2, h3, h4⟩ hg hr
    exact ⟨whole_others h0 hg (fun r e => (hr r e).2), whole_others h1 hg (fun r e => (hr r e).2), h2.others hg (fun r e => (hr r e).2), h3.grown hg h3.size (fun r e => by have := (hr r e).1; omega), h4⟩
  case hIx =>
    rintro c pre W W' row ⟨h0, h1, h2, h3⟩ hg hr
    exact ⟨h0, whole_others h1 hg (fun r e => (hr r e).2), h2.grown hg h2.size (fun r e => by have := (hr r e).1; omega), h3⟩
  case assign =>
    intro l x W K hK
    gi_wp2
    first | exact hK | simpa using hK
  case body =>
    rintro l pre x W ⟨hA, hX, hLW, hBW, hnot⟩ hlen
    have a0 : W.cell? ⟨w.heap.size, 0, none⟩ = some (.int .i64 a) := hA.cell 0
    have c0 : W.cell? ⟨w.heap.size + 1, 0, none⟩ = some (.bool false) := hX.cell 0
    have f0 := hX.free 0
    by_cases hxa : x.1 = a
    · have hq : (x.1 == a) = true := by simpa using hxa
      have hX' := hX.put 0 (.bool true)
      have HF := Lib.hid (And.intro hX' (And.intro (hBW.setCell (p := ⟨w.heap.size + 1, 0, none⟩) (Nat.le_succ _) (.bool true)) (show a ∈ Tr.upG g h from hxa ▸ x.2)))
      clear hA hX hLW hBW hX' hnot hxa
      gi_wp2_with fail
      exact ⟨KeepsOthers.setCell _ _ _, rfl, HF.out⟩
    · have hq : (x.1 == a) = false := by simpa using hxa
      have HF := Lib.hid (And.intro hA (And.intro hX (And.intro hLW (And.intro hBW (show a ∉ (pre ++ [x]).map (·.1) by
        rw [List.map_append, List.mem_append]
        rintro (h1 | h1)
        · exact hnot h1
        · simp at h1; exact hxa h1.symm)))))
      clear hA hX hLW hBW hnot hxa
      gi_wp2_with fail
      exact ⟨KeepsOthers.refl _, fun h => h, HF.out⟩
  case done =>
    rintro D xs W hD rfl ⟨_, hX, hLW, hBW, hnot⟩ hK
    rw [List.attach_map_subtype_val] at hnot
    have c0 : W.cell? ⟨w.heap.size + 1, 0, none⟩ = some (.bool false) := hX.cell 0
    have f0 := hX.free 0
    have hX' := hX.put 0 (.bool false)
    have hKs := (KeepsOthers.setCell W ⟨w.heap.size + 1, 0, none⟩ (.bool false)).same D _ hK rfl
    have hBs := hBW.setCell (p := ⟨w.heap.size + 1, 0, none⟩) (Nat.le_succ _) (.bool false)
    obtain ⟨V, hV⟩ : ∃ V, W.setCell ⟨w.heap.size + 1, 0, none⟩ (.bool false) = V := ⟨_, rfl⟩
    rw [hV] at hX' hKs hBs
    have c9 : V.cell? ⟨w.heap.size + 1, 0, none⟩ = some (.bool false) := hX'.cell 0
    have hca := cell_kept c9 (grownBy_putObj' V D (.deferred none)) (fun r e => by cases e; exact ⟨_, hKs, rfl⟩)
    have HB := Lib.hid (hBs.trans (belowK_b (w := w) (Nat.le_refl _) V D _ (.deferred none) (by omega) hKs rfl rfl))
    have HN := Lib.hid hnot
    clear hX hLW hBW hX' hnot hBs
    gi_wp2_with fail
    refine ⟨by simp, .inl ⟨_, _, rfl, run_takeDeferred hKs, ?_⟩⟩
    refine ⟨.bool false, ?_, ?_, HB.out⟩
    · simp [results, Tryd.f18, go_sem, hca]
    · exact aretB (by simp [HN.out])
  case stop =>
    rintro D c pre W hD hsp ⟨rfl, hX, hBW, hmem⟩ hK
    have c0 : W.cell? ⟨w.heap.size + 1, 0, none⟩ = some (.bool true) := hX.cell 0
    have hca := cell_kept c0 (grownBy_putObj' W D (.deferred none)) (fun r e => by cases e; exact ⟨_, hK, rfl⟩)
    have HB := Lib.hid (hBW.trans (belowK_b (w := w) (Nat.le_refl _) W D _ (.deferred none) (by omega) hK rfl rfl))
    have HN := Lib.hid hmem
    clear hX hBW hmem
    gi_wp2_with fail
    refine ⟨by simp, .inl ⟨_, _, rfl, run_takeDeferred hK, ?_⟩⟩
    refine ⟨.bool true, ?_, ?_, HB.out⟩
    · simp [results, Tryd.f18, go_sem, hca]
    · exact aretB (by simp [HN.out])
end Go.Proofs.YtelncgfeojfafaaDoor

/- hasOtherElement: whether an element beside a node is a child of a parent. -/
namespace Go.Proofs.YtelncgfeojfafaaDoor
open Go.RowKit Go.Shelf
set_option linter.unusedVariables false
set_option linter.unusedSimpArgs false
attribute [local go_sem] Oper.semAt_some

namespace Tr
def kindOf (g : G) (h : Int) : Int := match g h with | some n => n.kind | none => 0
theorem kindOf_some {g : G} {h : Int} {n : GN} (e : g h = some n) : kindOf g h = n.kind := by unfold kindOf; rw [e]
def otherG (g : G) (p h : Int) : Bool := (kidsOf g p).any fun k => k != h && kindOf g k == 2
end Tr

set_option maxRecDepth 100000 in
set_option maxHeartbeats 4000000 in
theorem other_any (base B : Nat) (b s root p h : Int) (live n : Nat) (g : Tr.G) (av : Int → Tr.Sl) (fr : List Nat) (vs vf : Value) (w : World) (hm : TV base w B b s vs n (Tr.raw g av) vf fr live root) (hS : Sound b s n (Tr.raw g av) fr live) (hw : Tr.WF 0 g) (hp : I64 p) :
    Calls Tryd.prog 39 #[.pointer (some ⟨B, 0, none⟩), .int .i64 p, .int .i64 h] w fun e w' => e = .returned (.bool (Tr.otherG g p h)) ∧ Below w.heap.size w w' := by
  have hlt := hm.lt
  refine (callsIn_wide (n := 8)).1 ?_
  refine callsIn_of_wp_marks Tryd.func39 rfl trivial ?_ rfl
  simp only [Tryd.ntmps39, List.size_toArray, List.length_cons, List.length_nil, Nat.reduceAdd, Nat.reduceSub, Array.replicate_succ, Array.replicate_zero, List.push_toArray, List.append_toArray, List.nil_append, List.cons_append]
  obtain ⟨w1, hw1⟩ : ∃ w1, ((w.alloc (.cells #[.pointer (some ⟨B, 0, none⟩)] 23)).alloc (.cells #[.int .i64 h] 3)).alloc (.cells #[.bool false] 4) = w1 := ⟨_, rfl⟩
  have hz1 : w1.heap.size = w.heap.size + 3 := by rw [← hw1]; simp
  have hb1 : Below w.heap.size w w1 := by rw [← hw1]; exact (((Below.refl _ w).alloc (Nat.le_refl _) _).alloc (by simp) _).alloc (by simp; omega) _
  have hT1 : Whole w1 w.heap.size #[.pointer (some ⟨B, 0, none⟩)] 23 := by rw [← hw1]; exact ((Whole.new w _ _).alloc _).alloc _
  have hA1 : Whole w1 (w.heap.size + 1) #[.int .i64 h] 3 := by
    have := (Whole.new (w.alloc (.cells #[.pointer (some ⟨B, 0, none⟩)] 23)) #[.int .i64 h] 3).alloc (.cells #[.bool false] 4)
    rw [World.size_alloc] at this
    rw [← hw1]; exact this
  have hX1 : Whole w1 (w.heap.size + 1 + 1) #[.bool false] 4 := by
    have := Whole.new ((w.alloc (.cells #[.pointer (some ⟨B, 0, none⟩)] 23)).alloc (.cells #[.int .i64 h] 3)) #[.bool false] 4
    rw [World.size_alloc, World.size_alloc] at this
    rw [← hw1]; exact this
  have hL := LS.made (h := p) (hm.below hb1)
  have hsz2 : ((w1.alloc (.cells #[.pointer (some ⟨B, 0, none⟩)] 23)).alloc (.cells #[.int .i64 p] 3)).heap.size = w1.heap.size + 2 := by simp
  have hb2 : Below w1.heap.size w1 ((w1.alloc (.cells #[.pointer (some ⟨B, 0, none⟩)] 23)).alloc (.cells #[.int .i64 p] 3)) := ((Below.refl _ w1).alloc (Nat.le_refl _) _).alloc (by simp) _
  have hseq := kids_seq hS hw hp 7 (by omega) _ hL
  have HUP := Lib.hid (kids_make B p w1)
  have t1 : w1.cell? ⟨w.heap.size, 0, none⟩ = some (.pointer (some ⟨B, 0, none⟩)) := hT1.cell 0
  gi_wp2_with fail
  try rw [hw1]
  gi_wp2_with fail
  refine ⟨trivial, (callsIn_wide.2 HUP.out).mono ?_⟩
  rintro e w' ⟨rfl, hw'⟩
  rw [← hw'] at hL hsz2 hb2 hseq
  have hX2 := hX1.below hb2 hX1.lt
  have hA2 := hA1.below hb2 hA1.lt
  have hT2 := hT1.below hb2 hT1.lt
  have hB2 := hb1.trans (hb2.mono hb1.size)
  have HSS := Lib.hid hS
  clear hm hS hX1 hw' hb2 HUP hA1 hT1 t1
  gi_wp2_with fail
  rw [hz1] at hseq hL hsz2
  have hm1 : ¬ Foot B vs vf (w.heap.size + 1 + 1) := fun hk => by have := (hlt _ hk).2; omega
  refine wpIn_rangeFunc_ownF (w := w') rfl (by decide) (gf := 56) (lb := #[.pointer (some ⟨w.heap.size + 1 + 1 + 1, 0, none⟩), .pointer (some ⟨w.heap.size + 1 + 1 + 1 + 1, 0, none⟩)]) rfl trivial (enters_of Tryd.func56 (by kernel_rfl) rfl) hseq LS.keepT (LS.keepB _) (Below.refl _ _) (fun _ => rfl)
    (fun pre W => Whole W w.heap.size #[.pointer (some ⟨B, 0, none⟩)] 23 ∧ Whole W (w.heap.size + 1) #[.int .i64 h] 3 ∧ Whole W (w.heap.size + 1 + 1) #[.bool false] 4 ∧ LS base B (w.heap.size + 1 + 1 + 1) (w.heap.size + 1 + 1 + 1 + 1) b s p vs n (Tr.raw g av) vf fr live root W ∧ Below w.heap.size w W ∧ (pre.map (·.1)).any (fun k => k != h && Tr.kindOf g k == 2) = false)
    (fun c _ W => c = .ret ∧ Whole W (w.heap.size + 1 + 1) #[.bool true] 4 ∧ Below w.heap.size w W ∧ Tr.otherG g p h = true)
    ?hI ?hIx ⟨hT2, hA2, hX2, hL, hB2, rfl⟩ (fun x => { tmps := #[.pointer (some ⟨B, 0, none⟩), .int .i64 p, .int .i64 h, .pointer (some ⟨w.heap.size, 0, none⟩), undef, .pointer (some ⟨w.heap.size + 1, 0, none⟩), .pointer (some ⟨w.heap.size + 1 + 1, 0, none⟩), .int .i64 x.1, .pointer (some ⟨B, 0, none⟩), .int .i64 p, .func (.func 56) #[] #[.pointer (some ⟨w.heap.size + 1 + 1 + 1, 0, none⟩), .pointer (some ⟨w.heap.size + 1 + 1 + 1 + 1, 0, none⟩)], .int .i64 x.1, undef, undef, undef, undef, undef, undef, undef, undef, undef, undef, undef, undef], defers := [] }) ?assign ?body ?done ?stop
  case hI =>
    rintro pre W W' row ⟨hT, h0, h1, h2, h3, h4⟩ hg hr
    exact ⟨whole_others hT hg (fun r e => (hr r e).2), whole_others h0 hg (fun r e => (hr r e).2), whole_others h1 hg (fun r e => (hr r e).2), h2.others hg (fun r e => (hr r e).2), h3.grown hg h3.size (fun r e => by have := (hr r e).1; omega), h4⟩
  case hIx =>
    rintro c pre W W' row ⟨h0, h1, h2, h3⟩ hg hr
    exact ⟨h0, whole_others h1 hg (fun r e => (hr r e).2), h2.grown hg h2.size (fun r e => by have := (hr r e).1; omega), h3⟩
  case assign =>
    intro l x W K hK
    gi_wp2
    first | exact hK | simpa using hK
  case body =>
    rintro l pre x W ⟨hT, hA, hX, hLW, hBW, hnot⟩ hlen
    have t0 : W.cell? ⟨w.heap.size, 0, none⟩ = some (.pointer (some ⟨B, 0, none⟩)) := hT.cell 0
    have a0 : W.cell? ⟨w.heap.size + 1, 0, none⟩ = some (.int .i64 h) := hA.cell 0
    have c0 : W.cell? ⟨w.heap.size + 1 + 1, 0, none⟩ = some (.bool false) := hX.cell 0
    have f0 := hX.free 0
    obtain ⟨mx, ex, _⟩ := hw.kidsOf_mem x.2
    have hany : ∀ v, (x.1 != h && Tr.kindOf g x.1 == 2) = v → ((pre ++ [x]).map (·.1)).any (fun k => k != h && Tr.kindOf g k == 2) = v := fun v e => by
      rw [List.map_append, List.any_append, hnot, Bool.false_or, ← e]; simp
    by_cases hxh : x.1 = h
    · have hq : (x.1 != h) = false := by simpa using hxh
      have HF := Lib.hid (And.intro hT (And.intro hA (And.intro hX (And.intro hLW (And.intro hBW (hany false (by rw [hq]; rfl)))))))
      clear hT hA hX hLW hBW hnot hxh hany
      gi_wp2_with fail
      refine And.intro (by first | exact trivial | (intros; exact trivial)) ?_
      gi_wp2_with fail
      exact ⟨KeepsOthers.refl _, fun h => h, HF.out⟩
    · have hq : (x.1 != h) = true := by simpa using hxh
      have hxi := (tmem_i64 HSS.out (h := x.1) (by rw [raw_isSome, ex]; rfl)).1
      have HAT := Lib.hid (at_any base B b s root x.1 live n (Tr.raw g av) fr vs vf W hLW.tree HSS.out hxi)
      have HST := Lib.hid (And.intro hT (And.intro hA (And.intro hX (And.intro hLW hBW))))
      have HANY := Lib.hid hany
      clear hT hA hX hLW hBW hnot hany
      gi_wp2_with fail
      refine ⟨trivial, (CallsIn.inRound l (callsIn_wide.2 HAT.out)).mono ?_⟩
      rintro e w4 ⟨g4, o4, rfl, hnp, hb4⟩
      rw [Tr.raw_some ex] at hnp
      obtain ⟨k0, _⟩ := hnp.cells
      have k0' : w4.cell? ⟨g4, o4, none⟩ = some (.int .i64 mx.kind) := k0
      obtain ⟨hT, hA, hX, hLW, hBW⟩ := HST.out
      have hT4 := hT.below hb4 hT.lt
      have hA4 := hA.below hb4 hA.lt
      have hX4 := hX.below hb4 hX.lt
      have hL4 := hLW.below hb4
      have hB4 := hBW.trans (hb4.mono hBW.size)
      have c4 : w4.cell? ⟨w.heap.size + 1 + 1, 0, none⟩ = some (.bool false) := hX4.cell 0
      have f4 := hX4.free 0
      have hko := ko_below hb4
      have hkd := Tr.kindOf_some ex
      by_cases hk2 : mx.kind = 2
      · have hq2 : (mx.kind == 2) = true := by simpa using hk2
        have hX' := hX4.put 0 (.bool true)
        have htr : Tr.otherG g p h = true := by
          unfold Tr.otherG
          rw [List.any_eq_true]
          exact ⟨x.1, x.2, by rw [hq, hkd, hk2]; rfl⟩
        have HF := Lib.hid (And.intro hX' (And.intro (hB4.setCell (p := ⟨w.heap.size + 1 + 1, 0, none⟩) (by show _ ≤ w.heap.size + 1 + 1; omega) (.bool true)) htr))
        clear hT hA hX hLW hBW hT4 hA4 hX4 hL4 hB4 hX' htr hk2 hnp hkd k0
        gi_wp2_with fail
        exact ⟨hko.trans (KeepsOthers.setCell _ _ _), rfl, HF.out⟩
      · have hq2 : (mx.kind == 2) = false := by simpa using hk2
        have HF := Lib.hid (And.intro hT4 (And.intro hA4 (And.intro hX4 (And.intro hL4 (And.intro hB4 (HANY.out false (by rw [hq, hkd, hq2]; rfl)))))))
        clear hT hA hX hLW hBW hT4 hA4 hX4 hB4 hk2 hnp hkd k0
        gi_wp2_with fail
        exact ⟨hko, fun _ => hL4, HF.out⟩
  case done =>
    rintro D xs W hD rfl ⟨_, _, hX, hLW, hBW, hnot⟩ hK
    rw [List.attach_map_subtype_val] at hnot
    have c0 : W.cell? ⟨w.heap.size + 1 + 1, 0, none⟩ = some (.bool false) := hX.cell 0
    have f0 := hX.free 0
    have hX' := hX.put 0 (.bool false)
    have hKs := (KeepsOthers.setCell W ⟨w.heap.size + 1 + 1, 0, none⟩ (.bool false)).same D _ hK rfl
    have hBs := hBW.setCell (p := ⟨w.heap.size + 1 + 1, 0, none⟩) (by show _ ≤ w.heap.size + 1 + 1; omega) (.bool false)
    obtain ⟨V, hV⟩ : ∃ V, W.setCell ⟨w.heap.size + 1 + 1, 0, none⟩ (.bool false) = V := ⟨_, rfl⟩
    rw [hV] at hX' hKs hBs
    have c9 : V.cell? ⟨w.heap.size + 1 + 1, 0, none⟩ = some (.bool false) := hX'.cell 0
    have hca := cell_kept c9 (grownBy_putObj' V D (.deferred none)) (fun r e => by cases e; exact ⟨_, hKs, rfl⟩)
    have HB := Lib.hid (hBs.trans (belowK_b (w := w) (Nat.le_refl _) V D _ (.deferred none) (by omega) hKs rfl rfl))
    have HN := Lib.hid hnot
    clear hX hLW hBW hX' hnot hBs
    gi_wp2_with fail
    refine ⟨by simp, .inl ⟨_, _, rfl, run_takeDeferred hKs, ?_⟩⟩
    refine ⟨.bool false, ?_, ?_, HB.out⟩
    · simp [results, Tryd.f39, go_sem, hca]
    · exact aretB HN.out.symm
  case stop =>
    rintro D c pre W hD hsp ⟨rfl, hX, hBW, hmem⟩ hK
    have c0 : W.cell? ⟨w.heap.size + 1 + 1, 0, none⟩ = some (.bool true) := hX.cell 0
    have hca := cell_kept c0 (grownBy_putObj' W D (.deferred none)) (fun r e => by cases e; exact ⟨_, hK, rfl⟩)
    have HB := Lib.hid (hBW.trans (belowK_b (w := w) (Nat.le_refl _) W D _ (.deferred none) (by omega) hK rfl rfl))
    have HN := Lib.hid hmem
    clear hX hBW hmem
    gi_wp2_with fail
    refine ⟨by simp, .inl ⟨_, _, rfl, run_takeDeferred hK, ?_⟩⟩
    refine ⟨.bool true, ?_, ?_, HB.out⟩
    · simp [results, Tryd.f39, go_sem, hca]
    · exact aretB HN.out.symm
end Go.Proofs.YtelncgfeojfafaaDoor
