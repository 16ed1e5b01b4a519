/- The program's Points hands back a function that yields the code points of the repaired form with their indices. -/
import Derived.Test.YtfiegofcjinmcaaDoorTRef
import Derived.Test.YtfiegofcjinmcaaDoorTCod
import Derived.Lib.OthersKept
import Derived.RangeFuncNested
import Derived.RangeFuncBound
import Derived.RangeFuncCalls
import Derived.RangeFuncLeaves
import Derived.Shelf.Abstract
import Derived.Shelf.RegionOpen
import Derived.OwnWalkIn
import Derived.TacticsInMore
import Derived.LoopNIn
import Derived.LoopIn
namespace Go.Proofs.YtfiegofcjinmcaaDoor
open Go.RowKit Go.Shelf
attribute [local go_sem] Oper.semAt_some

/-- What a loop's body keeps that writes the block m, rows of bytes and what is new: iterators, and cells that are no bytes. -/
def Keep (m : Nat) (W W' : World) : Prop := W.heap.size ≤ W'.heap.size ∧ ∀ k o, W.heap[k]? = some o → k ≠ m → (o.isWalk = true ∨ ∃ c t fz, t ≠ 5 ∧ o = .cells c t fz) → W'.heap[k]? = some o
theorem Keep.trans {m : Nat} {A B C : World} (h : Keep m A B) (k : Keep m B C) : Keep m A C :=
  ⟨Nat.le_trans h.1 k.1, fun i o hi hm ho => k.2 i o (h.2 i o hi hm ho) hm ho⟩
theorem Keep.put {m : Nat} {w : World} (W : World) (l : Nat) (o o' : Obj) (_ : w.heap.size ≤ l) (hl : W.heap[l]? = some o) (hc : o.isCells = false) (hw : o.isWalk = false) : Keep m W (W.putObj l o') := by
  have h := grownBy_putObj' W l o'
  refine ⟨h.size, fun k x hk _ hx => ?_⟩
  by_cases e : k = l
  · subst e
    rw [hl] at hk
    obtain rfl := Option.some.inj hk
    rcases hx with hx | ⟨c, t, fz, _, rfl⟩
    · rw [hw] at hx; cases hx
    · cases hc
  · rw [World.putObj_heap_other e]; exact hk
theorem Keep.setCell (m : Nat) (W : World) (v : Value) : Keep m W (W.setCell ⟨m, 0, none⟩ v) :=
  ⟨by simp [World.setCell], fun k _ hk hm _ => (heap_setCell_other _ ⟨m, 0, none⟩ k _ hm).trans hk⟩
theorem Keep.of {m : Nat} {W W' : World} (h : Lib.OthersKept 5 (some m) W W') (hs : W.heap.size ≤ W'.heap.size) : Keep m W W' :=
  ⟨hs, fun k o hk hm ho => h k o hk (fun e => hm (Option.some.inj e)) (fun c fz e => by
    rcases ho with ho | ⟨c', t, fz', ht, rfl⟩
    · subst e; cases ho
    · cases e; exact ht rfl)⟩

set_option maxRecDepth 100000 in
set_option maxHeartbeats 1000000 in
theorem points1_in (s : ByteArray) (hs : s.size ≤ 10000) (l Bs m : Nat) (hm : m < Bs) (J Jx : List (Nat × List UInt8) → World → Prop) (W : World) (hBs : W.heap[Bs]? = some (.cells #[.string s] 9 (0, 0)))
    (hJ : AbidesFrom W.heap.size J)
    (hY : ∀ pre x W1, J pre W1 → pre.length < (Txt.chunks s.data.toList).length → YieldAt Fence.wide (4 - 1) Tryd.prog l (encP x) W1 fun e W' =>
      (e = .returned (.bool true) ∧ J (pre ++ [x]) W' ∧ Keep m W1 W') ∨ (e = .returned (.bool false) ∧ Jx (pre ++ [x]) W'))
    (h0 : J [] W) :
    CallsIn Fence.wide 4 Tryd.prog 31 #[.func (.yield l) #[] #[], .pointer (some ⟨Bs, 0, none⟩)] W fun e W' => (∃ v, e = .returned v) ∧
      ((∃ xs, xs = enum (Txt.chunks s.data.toList) ∧ J xs W') ∨ (∃ pre, pre <+: enum (Txt.chunks s.data.toList) ∧ Jx pre W')) := by
  have hcell : W.cell? ⟨Bs, 0, none⟩ = some (.string s) := cell_of_row W Bs 0 _ _ _ hBs
  have hBl : Bs < W.heap.size := (Array.getElem?_eq_some_iff.1 hBs).1
  have hll : s.data.toList.length = s.size := rfl
  obtain ⟨cs, hcs⟩ : ∃ cs, Txt.chunks s.data.toList = cs := ⟨_, rfl⟩
  have hcl := Txt.chunks_len s.data.toList
  rw [hcs] at hY hcl ⊢
  refine callsIn_of_wp Tryd.func31 rfl trivial ?_ rfl
  simp only [Tryd.ntmps31, List.size_toArray, List.length_cons, List.length_nil, Nat.reduceAdd, Nat.reduceSub, Array.replicate_succ, Array.replicate_zero, List.push_toArray, List.append_toArray, List.nil_append, List.cons_append]
  gi_wp2
  gi_loopw [3] (fun i wr => ∃ (pos k : Nat), i = .int .i64 k ∧ k ≤ 10000 ∧ cs.drop k = Txt.chunks (s.data.toList.drop pos) ∧ wr.heap[W.heap.size]? = some (.stringIter s pos) ∧ J ((enum cs).take k) wr)
    (fun _ wr => s.size - wr.iterPos W.heap.size)
  case atStart =>
    refine ⟨0, 0, rfl, Nat.zero_le _, by rw [List.drop_zero, List.drop_zero, hcs], World.iter_heap W s 0, ?_⟩
    exact hJ _ _ _ none h0 (World.grownBy_alloc W _ none) (fun r e => by cases e)
  case round =>
    obtain ⟨pos, k, rfl, hk, hdr, hit, hJs⟩ := hrel
    by_cases hp : pos < s.size
    · have hne : s.data.toList.drop pos ≠ [] := fun e => by have h2 : s.size ≤ pos := List.drop_eq_nil_iff.1 e; omega
      have hw := Txt.step_width hne
      have hcode := step_code hne
      have hst := Txt.chunks_step hne
      have hdec := Txt.decode_step s pos
      rw [List.drop_drop] at hst
      obtain ⟨n, hn⟩ : ∃ n, (Txt.step (s.data.toList.drop pos)).2 = n := ⟨_, rfl⟩
      obtain ⟨c, hc⟩ : ∃ c, Lib.encodeRune ((Txt.step (s.data.toList.drop pos)).1 : Nat) = c := ⟨_, rfl⟩
      rw [hc] at hcode hst
      rw [hn] at hst hw
      rw [hst] at hdr
      obtain ⟨hk2, _, hdr2, htk⟩ := drop_cons hdr
      have hnx : ∀ ty, (Instr.next (.pointer (some ⟨W.heap.size, 0, none⟩)) true ty).run Tryd.prog wr = _ := fun ty => Lib.run_next_any_at wr W.heap.size s pos ty hit hp
      rw [hdec, ← hcode, hn] at hnx
      have hit2 := Lib.iterAt_heap wr W.heap.size s pos (pos + n) hit
      have hJ2 : J ((enum cs).take k) (wr.iterAt W.heap.size s (pos + n)) := hJ _ wr _ (some W.heap.size) hJs (grownBy_putObj' wr W.heap.size (.stringIter s (pos + n))) (fun r e => by cases e; exact ⟨Nat.le_refl _, _, hit, rfl⟩)
      obtain ⟨fn, tmps, assign, body, hy, hR⟩ := hY _ (k, c) _ hJ2 (by rw [List.length_take, enum_length]; omega)
      dsimp only [encP] at hy
      rw [← htk] at hR
      have hip : s.size - wr.iterPos W.heap.size = s.size - pos := by simp only [World.iterPos, hit]
      clear hdec hcode hst hY
      gi_wp2
      refine hR.mono ?_
      rintro e W3 (⟨rfl, hJ3, hk3⟩ | ⟨rfl, hJx3⟩)
      · have hit3 := hk3.2 W.heap.size _ hit2 (by omega) (.inl rfl)
        gi_wp2
        go_roundw
        case rel => exact ⟨pos + n, k + 1, by go_num, by omega, hdr2, hit3, hJ3⟩
        case measure =>
          rw [hip]
          simp only [World.iterPos, hit3]
          omega
      · gi_wp2
        refine bodyPost_ret (results_none rfl _ _ _) rfl ?_
        exact ⟨⟨_, rfl⟩, .inr ⟨_, enum_prefix_take cs (k + 1), hJx3⟩⟩
    · have hd : s.data.toList.drop pos = [] := List.drop_eq_nil_of_le (by omega)
      rw [hd, Txt.chunks_nil] at hdr
      have hkl : cs.length ≤ k := List.drop_eq_nil_iff.1 hdr
      rw [List.take_of_length_le (by rw [enum_length]; exact hkl)] at hJs
      have hnx : ∀ ty, (Instr.next (.pointer (some ⟨W.heap.size, 0, none⟩)) true ty).run Tryd.prog wr = _ := fun ty => Lib.run_next_end_at wr W.heap.size s pos ty hit hp
      gi_wp2
      go_end0
      exact ⟨⟨_, rfl⟩, .inl ⟨_, rfl, hJs⟩⟩

set_option maxHeartbeats 400000 in
theorem tpoints_any (s : ByteArray) (w : World) (hs : s.size ≤ 10000) :
    Calls Tryd.prog 19 #[.string s] w fun e w' => ∃ lb, e = .returned (.func (.func 31) #[] lb) ∧ w' = w.alloc (.cells #[.string s] 9) ∧
      ∀ m, m < w.heap.size → SeqStopsK Fence.wide 4 Tryd.prog 31 lb encP (Keep m) (fun xs => xs = enum (Txt.chunks s.data.toList)) (fun pre => pre <+: enum (Txt.chunks s.data.toList)) (Txt.chunks s.data.toList).length w' := by
  go_enter Tryd.func19, Tryd.ntmps19
  go_wp2
  go_ret
  refine ⟨_, rfl, rfl, fun m hm l J Jx W hW hJ hJx hY h0 => ?_⟩
  exact points1_in s hs l w.heap.size m hm J Jx W ((hW.block _ (by simp)).trans (World.alloc_heap_new w _)) hJ hY h0

end Go.Proofs.YtfiegofcjinmcaaDoor
