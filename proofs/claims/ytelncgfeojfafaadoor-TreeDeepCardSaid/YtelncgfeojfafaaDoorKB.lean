/- The library's two tables for UTF-8 lie in memory as the program lays them. -/
import Derived.Test.YtelncgfeojfafaaDoorProg
import Derived.Shelf.Unicode.DecodeSlow
import Derived.Below
import Derived.Shelf.Unicode.ValidAny
import Derived.WalkKit
import Derived.Lib.OthersKept
import Derived.RangeFuncNested
import Derived.RangeFuncBound
import Derived.RangeFuncCalls
import Derived.RangeFuncLeaves
import Derived.Shelf.Abstract
import Derived.Shelf.RegionOpen
import Derived.OwnWalkIn
import Derived.TacticsInMore
import Derived.LoopNIn
import Derived.LoopIn
import Derived.Shelf.Strings.BuilderK
import Derived.Shelf.Strings.BuilderRune
import Derived.Lib.FrozenHead
import Derived.Deep.RegionHeld3
import Derived.Deep.RegionWith
import Derived.Deep.DrawnRows
import Derived.Shelf.Strings.Search3
import Derived.Test.YtelncgfeojfafaaDoorKA
import Derived.Test.YtelncgfeojfafaaDoorKC
namespace Go.Proofs.YtelncgfeojfafaaDoor
open Go Go.RowKit

def Lit (w : World) : Prop := Lib.Utf8Tabs 0 1 w
theorem lit_cell {w w' : World} {a : Addr} {v : Value} (h : w.cell? a = some v) (hb : Below w.heap.size w w') : w'.cell? a = some v := (hb.cell (World.block_lt_of_cell? w a h)).trans h
theorem Lit.below {w w' : World} (h : Lit w) (hb : Below w.heap.size w w') : Lit w' :=
  ⟨fun c hc => lit_cell (h.1 c hc) hb, fun i hi => ⟨lit_cell (h.2 i hi).1 hb, lit_cell (h.2 i hi).2 hb⟩⟩

end Go.Proofs.YtelncgfeojfafaaDoor

/- What the library says of valid strings, over this program. -/
namespace Go.Proofs
open Go.Shelf

def Tryd.lays196_ren : Go.Shelf.Ren := ⟨fun | 196 => 48 | 259 => 58 | n => n, fun | 0 => 0 | 3 => 3 | 4 => 4 | 5 => 5 | 9 => 9 | 12 => 12 | 46 => 101 | 53 => 106 | 119 => 97 | 138 => 99 | 139 => 100 | n => n, fun | 3 => 0 | 4 => 1 | n => n⟩
theorem Tryd.lays196 : Go.Proofs.Lays.n196 Tryd.prog Tryd.lays196_ren := {
  mixed := by kernel_rfl
  f196 := Tryd.func48.trans (congrArg some (by kernel_rfl))
  f259 := Tryd.func58.trans (congrArg some (by kernel_rfl))
  t0 := Tryd.underlying0
  a0 := Tryd.isAgg0
  z0 := Tryd.sizeOf0
  v0 := Tryd.zeroValue0
  t3 := Tryd.underlying3
  a3 := Tryd.isAgg3
  z3 := Tryd.sizeOf3
  v3 := Tryd.zeroValue3
  t4 := Tryd.underlying4
  a4 := Tryd.isAgg4
  z4 := Tryd.sizeOf4
  v4 := Tryd.zeroValue4
  t5 := Tryd.underlying5
  a5 := Tryd.isAgg5
  z5 := Tryd.sizeOf5
  v5 := Tryd.zeroValue5
  t9 := Tryd.underlying9
  a9 := Tryd.isAgg9
  z9 := Tryd.sizeOf9
  v9 := Tryd.zeroValue9
  t12 := Tryd.underlying12
  a12 := Tryd.isAgg12
  z12 := Tryd.sizeOf12
  v12 := Tryd.zeroValue12
  t46 := Tryd.underlying101
  a46 := Tryd.isAgg101
  z46 := Tryd.sizeOf101
  v46 := Tryd.zeroValue101
  t53 := Tryd.underlying106
  a53 := Tryd.isAgg106
  z53 := Tryd.sizeOf106
  v53 := Tryd.zeroValue106
  t119 := Tryd.underlying97
  a119 := Tryd.isAgg97
  z119 := Tryd.sizeOf97
  t138 := Tryd.underlying99
  a138 := Tryd.isAgg99
  z138 := Tryd.sizeOf99
  v138 := Tryd.zeroValue99
  t139 := Tryd.underlying100
  a139 := Tryd.isAgg100
  z139 := Tryd.sizeOf100
  v139 := Tryd.zeroValue100
  g3 := by kernel_rfl
  g4 := by kernel_rfl }
open Go.RowKit in
theorem Tryd.validString (s : ByteArray) (w : World) (hs : s.size ≤ 9223372036854775807) (hT : Lib.Utf8Tabs 0 1 w) :
    Calls Tryd.prog 48 #[.string s] w fun e w' => e = .returned (.bool (Lib.validD s.data.toList)) ∧ Below w.heap.size w w' := Any.utf8_ValidString Tryd.lays196 s w hs hT
end Go.Proofs

/- The program's Valid returns what the plain text says. -/
namespace Go.Proofs.YtelncgfeojfafaaDoor
open Go.RowKit

set_option maxHeartbeats 400000 in
theorem tvalid_any (s : ByteArray) (w : World) (hs : s.size ≤ 20000) (hT : Lit w) :
    Calls Tryd.prog 31 #[.string s] w fun e w' => e = .returned (.bool (decide (Txt.rep s.data.toList = s.data.toList))) ∧ Below w.heap.size w w' := by
  have hR := Tryd.validString s w (by omega) hT
  rw [Txt.validD_eq] at hR
  go_enter Tryd.func31, Tryd.ntmps31
  go_wp2_with fail
  refine hR.mono ?_
  rintro e w2 ⟨rfl, hb⟩
  go_wp2_with fail
  go_ret
  exact ⟨rfl, hb⟩

end Go.Proofs.YtelncgfeojfafaaDoor

/- The program's Points hands back a function that yields the code points of the repaired form with their indices. -/
namespace Go.Proofs.YtelncgfeojfafaaDoor
open Go.RowKit Go.Shelf
attribute [local go_sem] Oper.semAt_some

/-- What a loop's body keeps that writes the block m, rows of bytes and what is new: iterators, and cells that are no bytes. -/
def Keep (m : Nat) (W W' : World) : Prop := W.heap.size ≤ W'.heap.size ∧ ∀ k o, W.heap[k]? = some o → k ≠ m → (o.isWalk = true ∨ ∃ c t fz, t ≠ 5 ∧ o = .cells c t fz) → W'.heap[k]? = some o
theorem Keep.trans {m : Nat} {A B C : World} (h : Keep m A B) (k : Keep m B C) : Keep m A C :=
  ⟨Nat.le_trans h.1 k.1, fun i o hi hm ho => k.2 i o (h.2 i o hi hm ho) hm ho⟩
theorem Keep.put {m : Nat} {w : World} (W : World) (l : Nat) (o o' : Obj) (_ : w.heap.size ≤ l) (hl : W.heap[l]? = some o) (hc : o.isCells = false) (hw : o.isWalk = false) : Keep m W (W.putObj l o') := by
  have h := grownBy_putObj' W l o'
  refine ⟨h.size, fun k x hk _ hx => ?_⟩
  by_cases e : k = l
  · subst e
    rw [hl] at hk
    obtain rfl := Option.some.inj hk
    rcases hx with hx | ⟨c, t, fz, _, rfl⟩
    · rw [hw] at hx; cases hx
    · cases hc
  · rw [World.putObj_heap_other e]; exact hk
theorem Keep.setCell (m : Nat) (W : World) (v : Value) : Keep m W (W.setCell ⟨m, 0, none⟩ v) :=
  ⟨by simp [World.setCell], fun k _ hk hm _ => (heap_setCell_other _ ⟨m, 0, none⟩ k _ hm).trans hk⟩
theorem Keep.of {m : Nat} {W W' : World} (h : Lib.OthersKept 5 (some m) W W') (hs : W.heap.size ≤ W'.heap.size) : Keep m W W' :=
  ⟨hs, fun k o hk hm ho => h k o hk (fun e => hm (Option.some.inj e)) (fun c fz e => by
    rcases ho with ho | ⟨c', t, fz', ht, rfl⟩
    · subst e; cases ho
    · cases e; exact ht rfl)⟩

set_option maxRecDepth 100000 in
set_option maxHeartbeats 1000000 in
theorem points1_in (s : ByteArray) (hs : s.size ≤ 20000) (l Bs m : Nat) (hm : m < Bs) (J Jx : List (Nat × List UInt8) → World → Prop) (W : World) (hBs : W.heap[Bs]? = some (.cells #[.string s] 9 (0, 0)))
    (hJ : AbidesFrom W.heap.size J)
    (hY : ∀ pre x W1, J pre W1 → pre.length < (Txt.chunks s.data.toList).length → YieldAt Fence.wide (4 - 1) Tryd.prog l (encP x) W1 fun e W' =>
      (e = .returned (.bool true) ∧ J (pre ++ [x]) W' ∧ Keep m W1 W') ∨ (e = .returned (.bool false) ∧ Jx (pre ++ [x]) W'))
    (h0 : J [] W) :
    CallsIn Fence.wide 4 Tryd.prog 49 #[.func (.yield l) #[] #[], .pointer (some ⟨Bs, 0, none⟩)] W fun e W' => (∃ v, e = .returned v) ∧
      ((∃ xs, xs = enum (Txt.chunks s.data.toList) ∧ J xs W') ∨ (∃ pre, pre <+: enum (Txt.chunks s.data.toList) ∧ Jx pre W')) := by
  have hcell : W.cell? ⟨Bs, 0, none⟩ = some (.string s) := cell_of_row W Bs 0 _ _ _ hBs
  have hBl : Bs < W.heap.size := (Array.getElem?_eq_some_iff.1 hBs).1
  have hll : s.data.toList.length = s.size := rfl
  obtain ⟨cs, hcs⟩ : ∃ cs, Txt.chunks s.data.toList = cs := ⟨_, rfl⟩
  have hcl := Txt.chunks_len s.data.toList
  rw [hcs] at hY hcl ⊢
  refine callsIn_of_wp Tryd.func49 rfl trivial ?_ rfl
  simp only [Tryd.ntmps49, List.size_toArray, List.length_cons, List.length_nil, Nat.reduceAdd, Nat.reduceSub, Array.replicate_succ, Array.replicate_zero, List.push_toArray, List.append_toArray, List.nil_append, List.cons_append]
  gi_wp2
  gi_loopw [3] (fun i wr => ∃ (pos k : Nat), i = .int .i64 k ∧ k ≤ 20000 ∧ cs.drop k = Txt.chunks (s.data.toList.drop pos) ∧ wr.heap[W.heap.size]? = some (.stringIter s pos) ∧ J ((enum cs).take k) wr)
    (fun _ wr => s.size - wr.iterPos W.heap.size)
  case atStart =>
    refine ⟨0, 0, rfl, Nat.zero_le _, by rw [List.drop_zero, List.drop_zero, hcs], World.iter_heap W s 0, ?_⟩
    exact hJ _ _ _ none h0 (World.grownBy_alloc W _ none) (fun r e => by cases e)
  case round =>
    obtain ⟨pos, k, rfl, hk, hdr, hit, hJs⟩ := hrel
    by_cases hp : pos < s.size
    · have hne : s.data.toList.drop pos ≠ [] := fun e => by have h2 : s.size ≤ pos := List.drop_eq_nil_iff.1 e; omega
      have hw := Txt.step_width hne
      have hcode := step_code hne
      have hst := Txt.chunks_step hne
      have hdec := Txt.decode_step s pos
      rw [List.drop_drop] at hst
      obtain ⟨n, hn⟩ : ∃ n, (Txt.step (s.data.toList.drop pos)).2 = n := ⟨_, rfl⟩
      obtain ⟨c, hc⟩ : ∃ c, Lib.encodeRune ((Txt.step (s.data.toList.drop pos)).1 : Nat) = c := ⟨_, rfl⟩
      rw [hc] at hcode hst
      rw [hn] at hst hw
      rw [hst] at hdr
      obtain ⟨hk2, _, hdr2, htk⟩ := drop_cons hdr
      have hnx : ∀ ty, (Instr.next (.pointer (some ⟨W.heap.size, 0, none⟩)) true ty).run Tryd.prog wr = _ := fun ty => Lib.run_next_any_at wr W.heap.size s pos ty hit hp
      rw [hdec, ← hcode, hn] at hnx
      have hit2 := Lib.iterAt_heap wr W.heap.size s pos (pos + n) hit
      have hJ2 : J ((enum cs).take k) (wr.iterAt W.heap.size s (pos + n)) := hJ _ wr _ (some W.heap.size) hJs (grownBy_putObj' wr W.heap.size (.stringIter s (pos + n))) (fun r e => by cases e; exact ⟨Nat.le_refl _, _, hit, rfl⟩)
      obtain ⟨fn, tmps, assign, body, hy, hR⟩ := hY _ (k, c) _ hJ2 (by rw [List.length_take, enum_length]; omega)
      dsimp only [encP] at hy
      rw [← htk] at hR
      have hip : s.size - wr.iterPos W.heap.size = s.size - pos := by simp only [World.iterPos, hit]
      clear hdec hcode hst hY
      gi_wp2
      refine hR.mono ?_
      rintro e W3 (⟨rfl, hJ3, hk3⟩ | ⟨rfl, hJx3⟩)
      · have hit3 := hk3.2 W.heap.size _ hit2 (by omega) (.inl rfl)
        gi_wp2
        go_roundw
        case rel => exact ⟨pos + n, k + 1, by go_num, by omega, hdr2, hit3, hJ3⟩
        case measure =>
          rw [hip]
          simp only [World.iterPos, hit3]
          omega
      · gi_wp2
        refine bodyPost_ret (results_none rfl _ _ _) rfl ?_
        exact ⟨⟨_, rfl⟩, .inr ⟨_, enum_prefix_take cs (k + 1), hJx3⟩⟩
    · have hd : s.data.toList.drop pos = [] := List.drop_eq_nil_of_le (by omega)
      rw [hd, Txt.chunks_nil] at hdr
      have hkl : cs.length ≤ k := List.drop_eq_nil_iff.1 hdr
      rw [List.take_of_length_le (by rw [enum_length]; exact hkl)] at hJs
      have hnx : ∀ ty, (Instr.next (.pointer (some ⟨W.heap.size, 0, none⟩)) true ty).run Tryd.prog wr = _ := fun ty => Lib.run_next_end_at wr W.heap.size s pos ty hit hp
      gi_wp2
      go_end0
      exact ⟨⟨_, rfl⟩, .inl ⟨_, rfl, hJs⟩⟩

set_option maxHeartbeats 400000 in
theorem tpoints_any (s : ByteArray) (w : World) (hs : s.size ≤ 20000) :
    Calls Tryd.prog 32 #[.string s] w fun e w' => ∃ lb, e = .returned (.func (.func 49) #[] lb) ∧ w' = w.alloc (.cells #[.string s] 9) ∧
      ∀ m, m < w.heap.size → SeqStopsK Fence.wide 4 Tryd.prog 49 lb encP (Keep m) (fun xs => xs = enum (Txt.chunks s.data.toList)) (fun pre => pre <+: enum (Txt.chunks s.data.toList)) (Txt.chunks s.data.toList).length w' := by
  go_enter Tryd.func32, Tryd.ntmps32
  go_wp2
  go_ret
  refine ⟨_, rfl, rfl, fun m hm l J Jx W hW hJ hJx hY h0 => ?_⟩
  exact points1_in s hs l w.heap.size m hm J Jx W ((hW.block _ (by simp)).trans (World.alloc_heap_new w _)) hJ hY h0

end Go.Proofs.YtelncgfeojfafaaDoor

/- What the library says of a Builder, over this program: WriteRune and String. -/
namespace Go.Proofs
open Go.Shelf

def Tryd.lays168_ren : Go.Shelf.Ren := ⟨fun | 168 => 33 | 240 => 50 | 242 => 51 | 276 => 59 | 278 => 60 | n => n, fun | 0 => 0 | 3 => 3 | 4 => 4 | 5 => 5 | 9 => 9 | 20 => 20 | 21 => 21 | 37 => 70 | 46 => 101 | 51 => 104 | 70 => 69 | 72 => 72 | 75 => 77 | 80 => 80 | 164 => 102 | n => n, fun | n => n⟩
theorem Tryd.lays168 : Go.Proofs.Lays.n168 Tryd.prog Tryd.lays168_ren := {
  mixed := by kernel_rfl
  f168 := Tryd.func33.trans (congrArg some (by kernel_rfl))
  f240 := Tryd.func50.trans (congrArg some (by kernel_rfl))
  f242 := Tryd.func51.trans (congrArg some (by kernel_rfl))
  f276 := Tryd.func59.trans (congrArg some (by kernel_rfl))
  f278 := Tryd.func60.trans (congrArg some (by kernel_rfl))
  t0 := Tryd.underlying0
  a0 := Tryd.isAgg0
  z0 := Tryd.sizeOf0
  v0 := Tryd.zeroValue0
  t3 := Tryd.underlying3
  a3 := Tryd.isAgg3
  z3 := Tryd.sizeOf3
  v3 := Tryd.zeroValue3
  t4 := Tryd.underlying4
  a4 := Tryd.isAgg4
  z4 := Tryd.sizeOf4
  v4 := Tryd.zeroValue4
  t5 := Tryd.underlying5
  a5 := Tryd.isAgg5
  z5 := Tryd.sizeOf5
  v5 := Tryd.zeroValue5
  t9 := Tryd.underlying9
  a9 := Tryd.isAgg9
  z9 := Tryd.sizeOf9
  v9 := Tryd.zeroValue9
  t20 := Tryd.underlying20
  a20 := Tryd.isAgg20
  z20 := Tryd.sizeOf20
  v20 := Tryd.zeroValue20
  t21 := Tryd.underlying21
  a21 := Tryd.isAgg21
  z21 := Tryd.sizeOf21
  v21 := Tryd.zeroValue21
  t37 := Tryd.underlying70
  a37 := Tryd.isAgg70
  z37 := Tryd.sizeOf70
  v37 := Tryd.zeroValue70
  t46 := Tryd.underlying101
  a46 := Tryd.isAgg101
  z46 := Tryd.sizeOf101
  v46 := Tryd.zeroValue101
  t51 := Tryd.underlying104
  a51 := Tryd.isAgg104
  z51 := Tryd.sizeOf104
  v51 := Tryd.zeroValue104
  t70 := Tryd.underlying69
  a70 := Tryd.isAgg69
  z70 := Tryd.sizeOf69
  v70 := Tryd.zeroValue69
  t72 := Tryd.underlying72
  a72 := Tryd.isAgg72
  z72 := Tryd.sizeOf72
  v72 := Tryd.zeroValue72
  t75 := Tryd.underlying77
  a75 := Tryd.isAgg77
  z75 := Tryd.sizeOf77
  v75 := Tryd.zeroValue77
  t164 := Tryd.underlying102
  a164 := Tryd.isAgg102
  z164 := Tryd.sizeOf102
  v164 := Tryd.zeroValue102 }
theorem Tryd.Builder_Extra_168 : Builder.Extra Tryd.prog Tryd.lays168_ren := {
  sizeBuilder := by kernel_rfl
  liesBuilder := by kernel_rfl
  t5 := Tryd.underlying5
  a5 := Tryd.isAgg5
  z5 := Tryd.sizeOf5
  v5 := Tryd.zeroValue5
  infoByte := by kernel_rfl
  cellsByte := by kernel_rfl
  sizeByte := by kernel_rfl
  neB5 := by decide }
def Tryd.lays169_ren : Go.Shelf.Ren := ⟨fun | 169 => 34 | n => n, fun | 0 => 0 | 3 => 3 | 5 => 5 | 9 => 9 | 37 => 70 | 70 => 69 | 72 => 72 | 127 => 93 | n => n, fun | n => n⟩
theorem Tryd.lays169 : Go.Proofs.Lays.n169 Tryd.prog Tryd.lays169_ren := {
  mixed := by kernel_rfl
  f169 := Tryd.func34.trans (congrArg some (by kernel_rfl))
  t0 := Tryd.underlying0
  a0 := Tryd.isAgg0
  z0 := Tryd.sizeOf0
  v0 := Tryd.zeroValue0
  t3 := Tryd.underlying3
  a3 := Tryd.isAgg3
  z3 := Tryd.sizeOf3
  v3 := Tryd.zeroValue3
  t9 := Tryd.underlying9
  a9 := Tryd.isAgg9
  z9 := Tryd.sizeOf9
  v9 := Tryd.zeroValue9
  t37 := Tryd.underlying70
  a37 := Tryd.isAgg70
  z37 := Tryd.sizeOf70
  v37 := Tryd.zeroValue70
  t70 := Tryd.underlying69
  a70 := Tryd.isAgg69
  z70 := Tryd.sizeOf69
  v70 := Tryd.zeroValue69
  t72 := Tryd.underlying72
  a72 := Tryd.isAgg72
  z72 := Tryd.sizeOf72
  v72 := Tryd.zeroValue72
  t127 := Tryd.underlying93
  a127 := Tryd.isAgg93
  z127 := Tryd.sizeOf93
  v127 := Tryd.zeroValue93 }
theorem Tryd.Builder_Extra_169 : Builder.Extra Tryd.prog Tryd.lays169_ren := {
  sizeBuilder := by kernel_rfl
  liesBuilder := by kernel_rfl
  t5 := Tryd.underlying5
  a5 := Tryd.isAgg5
  z5 := Tryd.sizeOf5
  v5 := Tryd.zeroValue5
  infoByte := by kernel_rfl
  cellsByte := by kernel_rfl
  sizeByte := by kernel_rfl
  neB5 := by decide }
open Go.RowKit in
theorem Tryd.writeRune (B b : Nat) (bs : List Value) (r : Int) (hr0 : -2147483648 ≤ r) (hr1 : r ≤ 2147483647) (w : World) (h : Lib.IsBuilderF 72 5 B b bs w) (hlen : bs.length + 4 ≤ 140737488355328) (hBw : B ≤ w.heap.size) :
    Calls Tryd.prog 33 #[.pointer (some ⟨b, 0, none⟩), .int .i32 r] w fun e w' => e = .returned (.tuple #[.int .i64 (Lib.runeCells r).length, .nilIface]) ∧ (Lib.BuilderAtF 72 5 B b (.pointer (some ⟨b, 0, none⟩)) (bs ++ Lib.runeCells r) w' ∧ Below B w w' ∧ Lib.OthersKept 5 (some b) w w') := Any.Builder_WriteRune_k Tryd.lays168 Tryd.Builder_Extra_168 B b bs r hr0 hr1 w h hlen hBw
open Go.RowKit in
theorem Tryd.builderString (B b : Nat) (l : List UInt8) (w : World) (h : Lib.IsBuilderF 72 5 B b (Lib.byteCells l) w) (hBw : B ≤ w.heap.size) :
    Calls Tryd.prog 34 #[.pointer (some ⟨b, 0, none⟩)] w fun e w' => e = .returned (.string ⟨l.toArray⟩) ∧ (Lib.IsBuilderF 72 5 B b (Lib.byteCells l) w' ∧ Below B w w' ∧ Lib.OthersKept 5 (some b) w w') := Any.Builder_String_any_k Tryd.lays169 Tryd.Builder_Extra_169 B b l w h hBw
end Go.Proofs

/- A Builder into which a loop over the code points of a text writes. -/
namespace Go.Proofs.YtelncgfeojfafaaDoor
open Go Go.RowKit Go.Shelf

/-- What has been written when these code points have come: those from index a on. -/
def acc (a : Int) (pre : List (Nat × List UInt8)) : List Value := pre.flatMap fun x => if a ≤ (x.1 : Int) then Lib.runeCells ((code x.2 : Nat) : Int) else []
theorem acc_snoc (a : Int) (pre : List (Nat × List UInt8)) (x : Nat × List UInt8) : acc a (pre ++ [x]) = acc a pre ++ (if a ≤ (x.1 : Int) then Lib.runeCells ((code x.2 : Nat) : Int) else []) := by
  simp [acc, List.flatMap_append]
theorem acc_len (a : Int) (pre : List (Nat × List UInt8)) : (acc a pre).length ≤ 4 * pre.length := by
  induction pre with
  | nil => simp [acc]
  | cons x r ih =>
    have h4 := Lib.runeCells_le ((code x.2 : Nat) : Int)
    have : acc a (x :: r) = (if a ≤ (x.1 : Int) then Lib.runeCells ((code x.2 : Nat) : Int) else []) ++ acc a r := by simp [acc]
    rw [this, List.length_append, List.length_cons]
    split
    · omega
    · simp only [List.length_nil]; omega
theorem enum_take_succ (cs : List (List UInt8)) (k : Nat) (h : k < cs.length) : (enum cs).take (k + 1) = (enum cs).take k ++ [(k, cs.getD k [])] := by
  have hd : cs.drop k = cs.getD k [] :: cs.drop (k + 1) := by
    rw [List.drop_eq_getElem_cons h]
    simp [List.getD, h]
  exact (drop_cons hd).2.2.2
theorem acc_take (a : Int) (cs : List (List UInt8)) (hg : ∀ c ∈ cs, Txt.Good c) : ∀ k, k ≤ cs.length → acc a ((enum cs).take k) = Lib.byteCells (seg cs a.toNat k).flatten := by
  intro k
  induction k with
  | zero => intro _; rw [seg_empty cs _ 0 (Nat.zero_le _)]; rfl
  | succ k ih =>
    intro h
    have hk : k < cs.length := h
    rw [enum_take_succ cs k hk, acc_snoc, ih (by omega)]
    have hgc : Txt.Good (cs.getD k []) := hg _ (by simp [List.getD, hk])
    by_cases hak : a ≤ (k : Int)
    · rw [if_pos hak, good_cells hgc, seg_step cs a.toNat k (by omega) hk, List.flatten_append]
      simp [Lib.byteCells]
    · rw [if_neg hak, seg_empty cs _ k (by omega), seg_empty cs _ (k + 1) (by omega)]
      rfl

/-- A Builder stays one when what is no row of cells is turned. -/
theorem builder_kept {T e : TypeId} {B b : Nat} {bs : List Value} {W W' : World} {row : Option Nat} (h : Lib.IsBuilderF T e B b bs W) (hg : W.grownBy W' row)
    (hr : ∀ r, row = some r → ∃ o : Obj, W.heap[r]? = some o ∧ o.isCells = false) : Lib.IsBuilderF T e B b bs W' := by
  have hone : ∀ p, Lib.BuilderAtF T e B b p bs W → Lib.BuilderAtF T e B b p bs W' := by
    rintro p ⟨hB, v, hb, hown, hne⟩
    have hbl : b < W.heap.size := (Array.getElem?_eq_some_iff.1 hb).1
    refine ⟨hB, v, ?_, hown.kept hg ?_, hne⟩
    · rw [hg.block b hbl ?_]
      · exact hb
      · intro e
        obtain ⟨o, ho, hc⟩ := hr b e.symm
        rw [hb] at ho
        obtain rfl := Option.some.inj ho
        cases hc
    · by_cases hv : v.ownBlock = none
      · exact .inl hv
      · right
        intro e
        obtain ⟨r, hvr⟩ := Option.ne_none_iff_exists'.1 hv
        obtain ⟨o, ho, hc⟩ := hr r (by rw [← e, hvr])
        obtain ⟨c, fz, hcc⟩ := Lib.ownsRowF_kind hown r hvr
        rw [hcc] at ho
        obtain rfl := Option.some.inj ho
        cases hc
  rcases h with h | h
  · exact .inl (hone _ h)
  · exact .inr (hone _ h)
/-- The body's word when it has written a rune. -/
theorem keepsOthers_of {b : Nat} {bs : List Value} {W W' : World} (h : Lib.OthersKept 5 (some b) W W') (hs : W.heap.size ≤ W'.heap.size) (hb : Lib.IsBuilderF 72 5 b b bs W) : KeepsOthers W W' := by
  refine ⟨hs, fun k o hk ho => h k o hk (fun e => ?_) (fun c fz e => ?_)⟩
  · obtain rfl := Option.some.inj e
    rcases hb with ⟨_, v, hc, _⟩ | ⟨_, v, hc, _⟩ <;>
    · rw [hc] at hk
      obtain rfl := Option.some.inj hk
      cases ho
  · subst e; cases ho
theorem builder_lt {T e : TypeId} {B b : Nat} {bs : List Value} {W : World} (h : Lib.IsBuilderF T e B b bs W) : b < W.heap.size := by
  rcases h with h | h <;> exact h.lt
/-- A Builder stays one when one behind it is written nothing to but new blocks come. -/
theorem builder_below {T e : TypeId} {B b : Nat} {bs : List Value} {W W' : World} (h : Lib.IsBuilderF T e B b bs W) (hb : Below W.heap.size W W') : Lib.IsBuilderF T e B b bs W' := by
  have hone : ∀ p, Lib.BuilderAtF T e B b p bs W → Lib.BuilderAtF T e B b p bs W' := by
    rintro p ⟨hB, v, hc, hown, hne⟩
    have hbl : b < W.heap.size := (Array.getElem?_eq_some_iff.1 hc).1
    refine ⟨hB, v, (hb.block b hbl).trans hc, ⟨hown.1, ?_⟩, hne⟩
    rcases hown.2 with hn | ⟨g, cap, cur, fz, rfl, hg, hgg, rest⟩
    · exact .inl hn
    · exact .inr ⟨g, cap, cur, fz, rfl, hg, (hb.block g (Array.getElem?_eq_some_iff.1 hgg).1).trans hgg, rest⟩
  rcases h with h | h
  · exact .inl (hone _ h)
  · exact .inr (hone _ h)
/-- A block that does not move while a rune is written. -/
theorem others_deferred {e : TypeId} {b D : Nat} {bs : List Value} {T : TypeId} {W W' : World} (h : Lib.OthersKept e (some b) W W') (hK : W.heap[D]? = some (.deferred (some []))) (hb : Lib.IsBuilderF T e b b bs W) : W'.heap[D]? = some (.deferred (some [])) := by
  refine h D _ hK (fun x => ?_) (fun c fz x => by cases x)
  obtain rfl := Option.some.inj x
  rcases hb with ⟨_, v, hc, _⟩ | ⟨_, v, hc, _⟩ <;> rw [hc] at hK <;> cases hK

end Go.Proofs.YtelncgfeojfafaaDoor

/- The program's Repair returns what the plain text says. -/
namespace Go.Proofs.YtelncgfeojfafaaDoor
open Go.RowKit Go.Shelf
attribute [local go_sem] Oper.semAt_some

theorem acc_all (cs : List (List UInt8)) (hg : ∀ c ∈ cs, Txt.Good c) : acc 0 (enum cs) = Lib.byteCells cs.flatten := by
  have h := acc_take 0 cs hg cs.length (Nat.le_refl _)
  rw [← enum_length cs, List.take_length, enum_length] at h
  rw [h]
  unfold seg
  rw [List.take_length]
  rfl

set_option maxRecDepth 100000 in
set_option maxHeartbeats 1000000 in
theorem trepair_any (s : ByteArray) (w : World) (hs : s.size ≤ 20000) (hT : Lit w) :
    Calls Tryd.prog 12 #[.string s] w fun e w' => e = .returned (.string (tstr (Txt.rep s.data.toList))) ∧ Below w.heap.size w w' := by
  have hV := tvalid_any s w hs hT
  by_cases hv : Txt.rep s.data.toList = s.data.toList
  · rw [decide_eq_true hv] at hV
    have hres : tstr (Txt.rep s.data.toList) = s := by rw [hv, tstr_of]
    rw [hres]
    go_enter Tryd.func12, Tryd.ntmps12
    go_wp2_with fail
    refine hV.mono ?_
    rintro e w2 ⟨rfl, hb⟩
    go_wp2_with fail
    go_ret
    exact ⟨rfl, hb⟩
  · rw [decide_eq_false hv] at hV
    clear hv
    obtain ⟨cs, hcs⟩ : ∃ cs, Txt.chunks s.data.toList = cs := ⟨_, rfl⟩
    have hflat : Txt.rep s.data.toList = cs.flatten := by rw [← hcs]; rfl
    have hgood := Txt.chunks_all_good s.data.toList
    have hcl := Txt.chunks_len s.data.toList
    have hll : s.data.toList.length = s.size := rfl
    rw [hcs] at hgood hcl
    rw [hflat]
    have hall := acc_all cs hgood
    have HCS := Lib.hid hcs
    clear hgood hcs hflat
    refine (callsIn_wide (n := 5)).1 ?_
    refine callsIn_of_wp_marks Tryd.func12 rfl trivial ?_ rfl
    simp only [Tryd.ntmps12, List.size_toArray, List.length_cons, List.length_nil, Nat.reduceAdd, Nat.reduceSub, Array.replicate_succ, Array.replicate_zero, List.push_toArray, List.append_toArray, List.nil_append, List.cons_append]
    gi_wp2_with fail
    refine ⟨trivial, (callsIn_wide.2 hV).mono ?_⟩
    rintro e w2 ⟨rfl, hb2⟩
    obtain ⟨W1, hW1⟩ : ∃ W1, w2.alloc (.cells #[.pointer none, .slice none 0 0] 72) = W1 := ⟨_, rfl⟩
    gi_wp2_with fail
    refine ⟨trivial, (callsIn_wide.2 (tpoints_any s W1 (by omega))).mono ?_⟩
    rintro e w4 ⟨lb, rfl, hw4, hst⟩
    rw [HCS.out] at hst
    gi_wp2_with fail
    rw [← hw4]
    have hsz2 := hb2.size
    have hB0 : Below w.heap.size w W1 := by rw [← hW1]; exact hb2.alloc hsz2 _
    have hsz1 : W1.heap.size = w2.heap.size + 1 := by rw [← hW1]; simp
    have hbl1 : Lib.IsBuilderF 72 5 w2.heap.size w2.heap.size [] W1 := by
      have := Lib.IsBuilderF.of (Lib.fresh_isBuilder 72 5 w2)
      rw [hW1] at this
      exact this
    have hb4 : Below W1.heap.size W1 w4 := by rw [hw4]; exact (Below.refl _ _).alloc (Nat.le_refl _) _
    have hsz4 : w4.heap.size = w2.heap.size + 2 := by rw [hw4]; simp [hsz1]
    have hbl4 := builder_below hbl1 hb4
    have hB4 : Below w.heap.size w w4 := hB0.trans (hb4.mono (by omega))
    have hstm := hst w2.heap.size (by omega)
    clear hst hb4 hw4 hW1 hbl1 hB0 hV hb2
    refine wpIn_rangeFunc_ownF (w := w4) rfl (by decide) (gf := 49) (lb := lb) rfl trivial (enters_of Tryd.func49 (by kernel_rfl) rfl) hstm Keep.trans Keep.put (Below.refl _ _) (fun _ => rfl)
      (fun pre W => Lib.IsBuilderF 72 5 w2.heap.size w2.heap.size (acc 0 pre) W ∧ Below w.heap.size w W)
      (fun _ _ _ => False)
      ?hI ?hIx ?h0
      (fun x => { tmps := #[.string s, undef, .string ⟨#[]⟩, .pointer (some ⟨w2.heap.size, 0, none⟩), undef, .int .i32 (code x.2 : Nat), .string s, .bool false, undef, .string s, .func (.func 49) #[] lb, .int .i64 (x.1 : Nat), .int .i32 (code x.2 : Nat), undef, undef, undef], defers := [] }) ?assign ?body ?done ?stop
    case hI =>
      rintro pre W W' row ⟨h1, h5⟩ hg hr
      have hr' : ∀ r, row = some r → ∃ o : Obj, W.heap[r]? = some o ∧ o.isCells = false := fun r e => (hr r e).2
      exact ⟨builder_kept h1 hg hr', h5.grown hg (by have := h5.size; omega) (fun k hk => by have := (hr k hk).1; omega)⟩
    case hIx => exact fun _ _ _ _ _ hs _ _ => hs
    case h0 => exact ⟨hbl4, hB4⟩
    case assign =>
      intro l x W K hK
      gi_wp2
      exact hK
    case body =>
      rintro l pre x W ⟨h1, h5⟩ hlen
      have hcx := code_lt x.2
      have hal := acc_len 0 pre
      have hW2 : w2.heap.size < W.heap.size := builder_lt h1
      have hsn := acc_snoc 0 pre x
      rw [if_pos (by omega)] at hsn
      gi_wp2_with fail
      refine ⟨trivial, (CallsIn.inRound l (callsIn_wide.2 (Tryd.writeRune w2.heap.size w2.heap.size (acc 0 pre) (code x.2 : Nat) (by omega) (by omega) W h1 (by omega) (by omega)))).mono ?_⟩
      rintro e w5 ⟨rfl, hb5, hbel5, hk5⟩
      gi_wp2_with fail
      refine ⟨keepsOthers_of hk5 hbel5.size h1, Keep.of hk5 hbel5.size, ?_, h5.trans (hbel5.mono (by omega))⟩
      rw [hsn]; exact .inr hb5
    case done =>
      rintro D xs W hD rfl ⟨h1, h5⟩ hK
      rw [hall] at h1
      have hK1 : ∀ W', Lib.OthersKept 5 (some w2.heap.size) W W' → W'.heap[D]? = some (.deferred (some [])) := fun W' h => others_deferred h hK h1
      have hW2 : w2.heap.size < W.heap.size := builder_lt h1
      gi_wp2_with fail
      refine ⟨trivial, (callsIn_wide.2 (Tryd.builderString w2.heap.size w2.heap.size _ W h1 (by omega))).mono ?_⟩
      rintro e w5 ⟨rfl, hb5, hbel5, hk5⟩
      gi_wp2_with fail
      refine ⟨by simp, .inl ⟨_, _, rfl, run_takeDeferred (hK1 _ hk5), ?_⟩⟩
      refine ⟨_, results_tmp rfl _ _ _, rfl, ?_⟩
      exact (h5.trans (hbel5.mono (by omega))).trans (belowK_b (w := w) (Nat.le_refl _) _ D _ _ (by omega) (hK1 _ hk5) rfl rfl)
    case stop =>
      rintro D c pre W hD _ h _
      exact h.elim

end Go.Proofs.YtelncgfeojfafaaDoor

/- The program's IsSpace returns what the plain text says. -/
namespace Go.Proofs.YtelncgfeojfafaaDoor
open Go.RowKit

set_option maxHeartbeats 400000 in
theorem cspace_any (c : UInt8) (w : World) :
    Calls Tryd.prog 53 #[.int .u8 c.toNat] w fun e w' => e = .returned (.bool (Txt.sp c)) ∧ w = w' := by
  go_enter Tryd.func53, Tryd.ntmps53
  go_wp2
  all_goals go_ret
  all_goals refine ⟨retB ?_, rfl⟩
  all_goals unfold Txt.sp
  all_goals rw [Bool.eq_iff_iff]
  all_goals simp
  all_goals omega
theorem tisspace_any (c : UInt8) (w : World) :
    Calls Tryd.prog 53 #[.int .u8 c.toNat] w fun e w' => e = .returned (.bool (Txt.sp c)) ∧ Below w.heap.size w w' := by
  refine (cspace_any c w).mono ?_
  rintro e w2 ⟨rfl, rfl⟩
  exact ⟨rfl, Below.refl _ _⟩

end Go.Proofs.YtelncgfeojfafaaDoor

/- What the library says of Contains, over this program. -/
namespace Go.Proofs
open Go.Shelf

def Tryd.lays144_ren : Go.Shelf.Ren := ⟨fun | 143 => 61 | 144 => 52 | 217 => 64 | 219 => 63 | 224 => 66 | 225 => 65 | 266 => 68 | 267 => 67 | 314 => 69 | n => n, fun | 3 => 3 | 4 => 4 | 5 => 5 | 9 => 9 | 46 => 101 | 51 => 104 | 146 => 108 | n => n, fun | 1 => 2 | n => n⟩
theorem Tryd.lays144 : Go.Proofs.Lays.n144 Tryd.prog Tryd.lays144_ren := {
  mixed := by kernel_rfl
  f143 := Tryd.func61.trans (congrArg some (by kernel_rfl))
  f144 := Tryd.func52.trans (congrArg some (by kernel_rfl))
  f217 := Tryd.func64.trans (congrArg some (by kernel_rfl))
  f219 := Tryd.func63.trans (congrArg some (by kernel_rfl))
  f224 := Tryd.func66.trans (congrArg some (by kernel_rfl))
  f225 := Tryd.func65.trans (congrArg some (by kernel_rfl))
  f266 := Tryd.func68.trans (congrArg some (by kernel_rfl))
  f267 := Tryd.func67.trans (congrArg some (by kernel_rfl))
  f314 := Tryd.func69.trans (congrArg some (by kernel_rfl))
  t3 := Tryd.underlying3
  a3 := Tryd.isAgg3
  z3 := Tryd.sizeOf3
  v3 := Tryd.zeroValue3
  t4 := Tryd.underlying4
  a4 := Tryd.isAgg4
  z4 := Tryd.sizeOf4
  v4 := Tryd.zeroValue4
  t5 := Tryd.underlying5
  a5 := Tryd.isAgg5
  z5 := Tryd.sizeOf5
  v5 := Tryd.zeroValue5
  t9 := Tryd.underlying9
  a9 := Tryd.isAgg9
  z9 := Tryd.sizeOf9
  v9 := Tryd.zeroValue9
  t46 := Tryd.underlying101
  a46 := Tryd.isAgg101
  z46 := Tryd.sizeOf101
  v46 := Tryd.zeroValue101
  t51 := Tryd.underlying104
  a51 := Tryd.isAgg104
  z51 := Tryd.sizeOf104
  v51 := Tryd.zeroValue104
  t146 := Tryd.underlying108
  a146 := Tryd.isAgg108
  z146 := Tryd.sizeOf108
  v146 := Tryd.zeroValue108
  g1 := by kernel_rfl }

open Go.RowKit in
theorem Tryd.contains_one (s : ByteArray) (c : UInt8) (w : World) :
    Calls Tryd.prog 52 #[.string s, .string ⟨#[c]⟩] w fun e w' => e = .returned (.bool (decide (0 ≤ Lib.indexByte s.data.toList c))) ∧ w' = w := Any.strings_Contains_one Tryd.lays144 s c w
end Go.Proofs

/- Names: plain, validAttrName; limits: fits. -/
namespace Go.Proofs.YtelncgfeojfafaaDoor
open Go.RowKit
set_option linter.unusedVariables false
set_option linter.unusedSimpArgs false

namespace Nm
/-- A byte that no name bears. -/
def bad (c : UInt8) : Bool := Txt.sp c || c.toNat == 47 || c.toNat == 62 || (decide (65 ≤ c.toNat) && decide (c.toNat ≤ 90))
def plain (s : ByteArray) : Bool := !(s.data.toList.any bad) && decide (Txt.rep s.data.toList = s.data.toList)
/-- A valid name of an attribute. -/
def attr (s : ByteArray) : Bool := decide (s.data.toList ≠ []) && !((s.data.toList.drop 1).contains 61) && plain s
theorem any_split {l : List UInt8} {k : Nat} (h : k < l.length) (h0 : (l.take k).any bad = false) : (l.take (k + 1)).any bad = bad l[k] := by
  rw [List.take_succ_eq_append_getElem h, List.any_append, h0, Bool.false_or]; simp
end Nm

set_option maxRecDepth 100000 in
set_option maxHeartbeats 2000000 in
theorem plain_any (s : ByteArray) (w : World) (hs : s.size ≤ 20000) (hT : Lit w) :
    Calls Tryd.prog 36 #[.string s] w fun e w' => e = .returned (.bool (Nm.plain s)) ∧ Below w.heap.size w w' := by
  have hll : s.data.toList.length = s.size := rfl
  go_enter Tryd.func36, Tryd.ntmps36
  go_wp2_with fail
  go_loopw [7] (fun i wr => ∃ k : Nat, i = .int .i64 k ∧ k ≤ s.size ∧ (s.data.toList.take k).any Nm.bad = false ∧ Below w.heap.size w wr) (fun i _ => s.size - (intOf i).toNat)
  case atStart => exact ⟨0, rfl, Nat.zero_le _, rfl, Below.refl _ _⟩
  case round =>
    obtain ⟨k, rfl, hk, hany, hbr⟩ := hrel
    by_cases hlt : k < s.size
    · have hkl : k < s.data.toList.length := hlt
      have hnext := Nm.any_split hkl hany
      have hget : s.data.toList[k] = s[k] := rfl
      rw [hget] at hnext
      obtain ⟨c, hc⟩ : ∃ c, s[k] = c := ⟨_, rfl⟩
      have hcl := c.toNat_lt
      rw [hc] at hnext
      have hq : (Nm.bad c = true ∧ (Txt.sp c = true ∨ (Txt.sp c = false ∧ ((c.toNat : Int) == 47) = true) ∨ (Txt.sp c = false ∧ ((c.toNat : Int) == 47) = false ∧ ((c.toNat : Int) == 62) = true) ∨ (Txt.sp c = false ∧ ((c.toNat : Int) == 47) = false ∧ ((c.toNat : Int) == 62) = false ∧ decide ((65 : Int) ≤ (c.toNat : Int)) = true ∧ decide ((c.toNat : Int) ≤ 90) = true))) ∨
          (Nm.bad c = false ∧ Txt.sp c = false ∧ ((c.toNat : Int) == 47) = false ∧ ((c.toNat : Int) == 62) = false ∧ (decide ((65 : Int) ≤ (c.toNat : Int)) = false ∨ (decide ((65 : Int) ≤ (c.toNat : Int)) = true ∧ decide ((c.toNat : Int) ≤ 90) = false))) := by
        unfold Nm.bad
        cases Txt.sp c with
        | true => left; exact ⟨rfl, .inl rfl⟩
        | false =>
          simp only [Bool.false_or, Bool.or_eq_true, beq_iff_eq, Bool.and_eq_true, decide_eq_true_eq, Bool.or_eq_false_iff, beq_eq_false_iff_ne, ne_eq, Bool.and_eq_false_iff, decide_eq_false_iff_not, true_and, false_or, Bool.false_eq_true]
          omega
      have hneg : Nm.bad c = true → Nm.plain s = false := fun e => by
        unfold Nm.plain
        rw [Bool.and_eq_false_iff]
        left
        rw [Bool.not_eq_false', List.any_eq_true]
        exact ⟨c, by rw [← hc]; exact List.getElem_mem hkl, e⟩
      have HN := Lib.hid hneg
      have HX := Lib.hid hnext
      clear hneg hnext hany hget
      rcases hq with ⟨hb, hq⟩ | ⟨hb, h1, h2, h3, hq⟩
      · have HB := Lib.hid hb
        clear hb
        rcases hq with h1 | ⟨h1, h2⟩ | ⟨h1, h2, h3⟩ | ⟨h1, h2, h3, h4, h5⟩
        all_goals
          go_wp2_with fail
          refine (tisspace_any c wr).mono ?_
          rintro e w2 ⟨rfl, hb2⟩
          have hb5 : Below w.heap.size w w2 := hbr.trans (hb2.mono hbr.size)
          go_wp2_with fail
          go_ret
          exact ⟨aretB (HN.out HB.out).symm, hb5⟩
      · have HB := Lib.hid hb
        clear hb
        rcases hq with h4 | ⟨h4, h5⟩
        all_goals
          go_wp2_with fail
          refine (tisspace_any c wr).mono ?_
          rintro e w2 ⟨rfl, hb2⟩
          have hb5 : Below w.heap.size w w2 := hbr.trans (hb2.mono hbr.size)
          go_wp2_with fail
          go_roundw
          case rel => exact ⟨k + 1, by go_num, by omega, by rw [HX.out, HB.out], hb5⟩
          case measure => simp [intOf]; omega
    · have hkk : k = s.size := by omega
      have hall : Nm.plain s = decide (Txt.rep s.data.toList = s.data.toList) := by
        unfold Nm.plain
        rw [hkk, ← hll, List.take_length] at hany
        rw [hany]; rfl
      have HV := Lib.hid (tvalid_any s wr hs (hT.below hbr))
      have HA := Lib.hid hall
      clear hall hany
      subst hkk
      go_wp2_with fail
      refine HV.out.mono ?_
      rintro e w2 ⟨rfl, hb2⟩
      have hb5 : Below w.heap.size w w2 := hbr.trans (hb2.mono hbr.size)
      go_wp2_with fail
      go_ret
      exact ⟨aretB HA.out.symm, hb5⟩

theorem nm_drop (s : ByteArray) (i : Nat) : (s.extract i s.size).data.toList = s.data.toList.drop i := by
  rw [ByteArray.data_extract, Array.toList_extract]
  show (s.data.toList.drop i).take (s.data.toList.length - i) = _
  rw [List.take_of_length_le (by rw [List.length_drop]; omega)]
theorem index_has (l : List UInt8) (c : UInt8) : decide (0 ≤ Lib.indexByte l c) = l.contains c := by
  induction l with
  | nil => rfl
  | cons b r ih =>
    unfold Lib.indexByte
    by_cases h : b = c
    · subst h; simp
    · have hbc : (b == c) = false := by simpa using h
      have hcb : (c == b) = false := by simpa using fun e => h e.symm
      rw [hbc, List.contains_cons, hcb, Bool.false_or, ← ih]
      have hge : -1 ≤ Lib.indexByte r c := by
        clear ih hbc hcb h
        induction r with
        | nil => exact (by decide : (-1 : Int) ≤ -1)
        | cons d r ih2 =>
          unfold Lib.indexByte
          split
          · omega
          · split
            · omega
            · omega
      by_cases h2 : Lib.indexByte r c = -1
      · rw [h2]; rfl
      · have : (Lib.indexByte r c == -1) = false := by simpa using h2
        rw [this]
        simp only [Bool.false_eq_true, if_false]
        rw [Bool.eq_iff_iff, decide_eq_true_eq, decide_eq_true_eq]
        omega

set_option maxRecDepth 100000 in
set_option maxHeartbeats 2000000 in
theorem attrName_any (s : ByteArray) (w : World) (hs : s.size ≤ 20000) (hT : Lit w) :
    Calls Tryd.prog 35 #[.string s] w fun e w' => e = .returned (.bool (Nm.attr s)) ∧ Below w.heap.size w w' := by
  have hP := plain_any s w hs hT
  by_cases he : s.data.toList = []
  · have hse : s = ⟨#[]⟩ := by
      cases s with
      | mk d => cases d with | mk l => simp at he; subst he; rfl
    have hr : Nm.attr s = false := by unfold Nm.attr; rw [he]; rfl
    have HR := Lib.hid hr
    clear hr hP he
    subst hse
    go_enter Tryd.func35, Tryd.ntmps35
    go_wp2_with fail
    go_ret
    exact ⟨aretB HR.out.symm, Below.refl _ _⟩
  · have hpos : 0 < s.size := by
      rcases Nat.eq_zero_or_pos s.size with h | h
      · exact absurd (List.eq_nil_of_length_eq_zero (show s.data.toList.length = 0 from h)) he
      · exact h
    have hne0 : (s.toList == []) = false := by
      rw [Lib.toList_data, beq_eq_false_iff_ne]; exact he
    have hne : (s.toList != []) = true := by
      rw [bne, hne0]; rfl
    have hrun : ∀ W : World, (Instr.slice 9 (.string s) (some (.int .i64 1)) none none).run Tryd.prog W = .ok (.string (s.extract 1 s.size)) W := fun W => by
      rw [run_slice_string_l (ht := Tryd.underlying9) (h0 := by omega) (h1 := by omega)]; rfl
    have hcon : ∀ W : World, Calls Tryd.prog 52 #[.string (s.extract 1 s.size), .string ⟨#[61]⟩] W fun e w' => e = .returned (.bool ((s.data.toList.drop 1).contains 61)) ∧ w' = W := fun W => by
      rw [← nm_drop, ← index_has]
      exact Tryd.contains_one _ 61 W
    have hat : Nm.attr s = (!((s.data.toList.drop 1).contains 61) && Nm.plain s) := by
      unfold Nm.attr
      rw [decide_eq_true he, Bool.true_and]
    obtain ⟨cn, hcn⟩ : ∃ cn, (s.data.toList.drop 1).contains 61 = cn := ⟨_, rfl⟩
    rw [hcn] at hcon hat
    have HAT := Lib.hid hat
    clear hat hcn he
    cases cn
    · go_enter Tryd.func35, Tryd.ntmps35
      go_wp2_with fail
      refine (hcon w).mono ?_
      rintro e w2 ⟨rfl, rfl⟩
      go_wp2_with fail
      refine hP.mono ?_
      rintro e w2 ⟨rfl, hb⟩
      go_wp2_with fail
      go_ret
      exact ⟨aretB HAT.out.symm, hb⟩
    · go_enter Tryd.func35, Tryd.ntmps35
      go_wp2_with fail
      refine (hcon w).mono ?_
      rintro e w2 ⟨rfl, rfl⟩
      go_wp2_with fail
      go_ret
      exact ⟨aretB HAT.out.symm, Below.refl _ _⟩

/-- Whether a string, repaired, is not too long. -/
def Nm.fits (s : ByteArray) : Bool := decide ((Txt.rep s.data.toList).length ≤ 1048576)

set_option maxRecDepth 100000 in
set_option maxHeartbeats 2000000 in
theorem fits_any (s : ByteArray) (w : World) (hs : s.size ≤ 20000) (hT : Lit w) :
    Calls Tryd.prog 37 #[.string s] w fun e w' => e = .returned (.bool (Nm.fits s)) ∧ Below w.heap.size w w' := by
  have hrl := Txt.rep_len s.data.toList
  have hll : s.data.toList.length = s.size := rfl
  have hF : Nm.fits s = decide ((((Txt.rep s.data.toList).length : Nat) : Int) ≤ 1048576) := by
    unfold Nm.fits; rw [Bool.eq_iff_iff, decide_eq_true_eq, decide_eq_true_eq]; omega
  have HF := Lib.hid hF
  clear hF
  go_enter Tryd.func37, Tryd.ntmps37
  go_wp2_with fail
  refine (trepair_any s w hs hT).mono ?_
  rintro e w2 ⟨rfl, hb⟩
  go_wp2_with fail
  go_ret
  exact ⟨aretB (by rw [HF.out]; rfl), hb⟩
end Go.Proofs.YtelncgfeojfafaaDoor
