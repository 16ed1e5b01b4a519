/- The program's Points hands back a function that yields the code points of the repaired form with their indices. -/
import Derived.Test.YtoiednecchbmnaaDoorK01
import Derived.Test.YtoiednecchbmnaaDoorK13
import Derived.Test.YtoiednecchbmnaaDoorK00
import Derived.Test.YtoiednecchbmnaaDoorK11
import Derived.Test.YtoiednecchbmnaaDoorK12
import Derived.Lib.OthersKept
import Derived.RangeFuncNested
import Derived.RangeFuncBound
import Derived.RangeFuncCalls
import Derived.RangeFuncLeaves
import Derived.Shelf.Abstract
import Derived.Shelf.RegionOpen
import Derived.OwnWalkIn
import Derived.TacticsInMore
import Derived.LoopNIn
import Derived.LoopIn
import Derived.Lib.FrozenHead
import Derived.Deep.RegionHeld3
import Derived.Deep.RegionWith
import Derived.Deep.DrawnRows
namespace Go.Proofs.YtoiednecchbmnaaDoor
open Go.RowKit Go.Shelf
attribute [local go_sem] Oper.semAt_some

/-- What a loop's body keeps that writes the block m, rows of bytes and what is new: iterators, and cells that are no bytes. -/
def Keep (m : Nat) (W W' : World) : Prop := W.heap.size ≤ W'.heap.size ∧ ∀ k o, W.heap[k]? = some o → k ≠ m → (o.isWalk = true ∨ ∃ c t fz, t ≠ 5 ∧ o = .cells c t fz) → W'.heap[k]? = some o
theorem Keep.trans {m : Nat} {A B C : World} (h : Keep m A B) (k : Keep m B C) : Keep m A C :=
  ⟨Nat.le_trans h.1 k.1, fun i o hi hm ho => k.2 i o (h.2 i o hi hm ho) hm ho⟩
theorem Keep.put {m : Nat} {w : World} (W : World) (l : Nat) (o o' : Obj) (_ : w.heap.size ≤ l) (hl : W.heap[l]? = some o) (hc : o.isCells = false) (hw : o.isWalk = false) : Keep m W (W.putObj l o') := by
  have h := grownBy_putObj' W l o'
  refine ⟨h.size, fun k x hk _ hx => ?_⟩
  by_cases e : k = l
  · subst e
    rw [hl] at hk
    obtain rfl := Option.some.inj hk
    rcases hx with hx | ⟨c, t, fz, _, rfl⟩
    · rw [hw] at hx; cases hx
    · cases hc
  · rw [World.putObj_heap_other e]; exact hk
theorem Keep.setCell (m : Nat) (W : World) (v : Value) : Keep m W (W.setCell ⟨m, 0, none⟩ v) :=
  ⟨by simp [World.setCell], fun k _ hk hm _ => (heap_setCell_other _ ⟨m, 0, none⟩ k _ hm).trans hk⟩
theorem Keep.of {m : Nat} {W W' : World} (h : Lib.OthersKept 5 (some m) W W') (hs : W.heap.size ≤ W'.heap.size) : Keep m W W' :=
  ⟨hs, fun k o hk hm ho => h k o hk (fun e => hm (Option.some.inj e)) (fun c fz e => by
    rcases ho with ho | ⟨c', t, fz', ht, rfl⟩
    · subst e; cases ho
    · cases e; exact ht rfl)⟩

set_option maxRecDepth 100000 in
set_option maxHeartbeats 1000000 in
theorem points1_in (s : ByteArray) (hs : s.size ≤ 20000) (l Bs m : Nat) (hm : m < Bs) (J Jx : List (Nat × List UInt8) → World → Prop) (W : World) (hBs : W.heap[Bs]? = some (.cells #[.string s] 9 (0, 0)))
    (hJ : AbidesFrom W.heap.size J)
    (hY : ∀ pre x W1, J pre W1 → pre.length < (Txt.chunks s.data.toList).length → YieldAt Fence.wide (4 - 1) Tryd.prog l (encP x) W1 fun e W' =>
      (e = .returned (.bool true) ∧ J (pre ++ [x]) W' ∧ Keep m W1 W') ∨ (e = .returned (.bool false) ∧ Jx (pre ++ [x]) W'))
    (h0 : J [] W) :
    CallsIn Fence.wide 4 Tryd.prog 67 #[.func (.yield l) #[] #[], .pointer (some ⟨Bs, 0, none⟩)] W fun e W' => (∃ v, e = .returned v) ∧
      ((∃ xs, xs = enum (Txt.chunks s.data.toList) ∧ J xs W') ∨ (∃ pre, pre <+: enum (Txt.chunks s.data.toList) ∧ Jx pre W')) := by
  have hcell : W.cell? ⟨Bs, 0, none⟩ = some (.string s) := cell_of_row W Bs 0 _ _ _ hBs
  have hBl : Bs < W.heap.size := (Array.getElem?_eq_some_iff.1 hBs).1
  have hll : s.data.toList.length = s.size := rfl
  obtain ⟨cs, hcs⟩ : ∃ cs, Txt.chunks s.data.toList = cs := ⟨_, rfl⟩
  have hcl := Txt.chunks_len s.data.toList
  rw [hcs] at hY hcl ⊢
  refine callsIn_of_wp Tryd.func67 rfl trivial ?_ rfl
  simp only [Tryd.ntmps67, List.size_toArray, List.length_cons, List.length_nil, Nat.reduceAdd, Nat.reduceSub, Array.replicate_succ, Array.replicate_zero, List.push_toArray, List.append_toArray, List.nil_append, List.cons_append]
  gi_wp2
  gi_loopw [3] (fun i wr => ∃ (pos k : Nat), i = .int .i64 k ∧ k ≤ 20000 ∧ cs.drop k = Txt.chunks (s.data.toList.drop pos) ∧ wr.heap[W.heap.size]? = some (.stringIter s pos) ∧ J ((enum cs).take k) wr)
    (fun _ wr => s.size - wr.iterPos W.heap.size)
  case atStart =>
    refine ⟨0, 0, rfl, Nat.zero_le _, by rw [List.drop_zero, List.drop_zero, hcs], World.iter_heap W s 0, ?_⟩
    exact hJ _ _ _ none h0 (World.grownBy_alloc W _ none) (fun r e => by cases e)
  case round =>
    obtain ⟨pos, k, rfl, hk, hdr, hit, hJs⟩ := hrel
    by_cases hp : pos < s.size
    · have hne : s.data.toList.drop pos ≠ [] := fun e => by have h2 : s.size ≤ pos := List.drop_eq_nil_iff.1 e; omega
      have hw := Txt.step_width hne
      have hcode := step_code hne
      have hst := Txt.chunks_step hne
      have hdec := Txt.decode_step s pos
      rw [List.drop_drop] at hst
      obtain ⟨n, hn⟩ : ∃ n, (Txt.step (s.data.toList.drop pos)).2 = n := ⟨_, rfl⟩
      obtain ⟨c, hc⟩ : ∃ c, Lib.encodeRune ((Txt.step (s.data.toList.drop pos)).1 : Nat) = c := ⟨_, rfl⟩
      rw [hc] at hcode hst
      rw [hn] at hst hw
      rw [hst] at hdr
      obtain ⟨hk2, _, hdr2, htk⟩ := drop_cons hdr
      have hnx : ∀ ty, (Instr.next (.pointer (some ⟨W.heap.size, 0, none⟩)) true ty).run Tryd.prog wr = _ := fun ty => Lib.run_next_any_at wr W.heap.size s pos ty hit hp
      rw [hdec, ← hcode, hn] at hnx
      have hit2 := Lib.iterAt_heap wr W.heap.size s pos (pos + n) hit
      have hJ2 : J ((enum cs).take k) (wr.iterAt W.heap.size s (pos + n)) := hJ _ wr _ (some W.heap.size) hJs (grownBy_putObj' wr W.heap.size (.stringIter s (pos + n))) (fun r e => by cases e; exact ⟨Nat.le_refl _, _, hit, rfl⟩)
      obtain ⟨fn, tmps, assign, body, hy, hR⟩ := hY _ (k, c) _ hJ2 (by rw [List.length_take, enum_length]; omega)
      dsimp only [encP] at hy
      rw [← htk] at hR
      have hip : s.size - wr.iterPos W.heap.size = s.size - pos := by simp only [World.iterPos, hit]
      clear hdec hcode hst hY
      gi_wp2
      refine hR.mono ?_
      rintro e W3 (⟨rfl, hJ3, hk3⟩ | ⟨rfl, hJx3⟩)
      · have hit3 := hk3.2 W.heap.size _ hit2 (by omega) (.inl rfl)
        gi_wp2
        go_roundw
        case rel => exact ⟨pos + n, k + 1, by go_num, by omega, hdr2, hit3, hJ3⟩
        case measure =>
          rw [hip]
          simp only [World.iterPos, hit3]
          omega
      · gi_wp2
        refine bodyPost_ret (results_none rfl _ _ _) rfl ?_
        exact ⟨⟨_, rfl⟩, .inr ⟨_, enum_prefix_take cs (k + 1), hJx3⟩⟩
    · have hd : s.data.toList.drop pos = [] := List.drop_eq_nil_of_le (by omega)
      rw [hd, Txt.chunks_nil] at hdr
      have hkl : cs.length ≤ k := List.drop_eq_nil_iff.1 hdr
      rw [List.take_of_length_le (by rw [enum_length]; exact hkl)] at hJs
      have hnx : ∀ ty, (Instr.next (.pointer (some ⟨W.heap.size, 0, none⟩)) true ty).run Tryd.prog wr = _ := fun ty => Lib.run_next_end_at wr W.heap.size s pos ty hit hp
      gi_wp2
      go_end0
      exact ⟨⟨_, rfl⟩, .inl ⟨_, rfl, hJs⟩⟩

set_option maxHeartbeats 400000 in
theorem tpoints_any (s : ByteArray) (w : World) (hs : s.size ≤ 20000) :
    Calls Tryd.prog 47 #[.string s] w fun e w' => ∃ lb, e = .returned (.func (.func 67) #[] lb) ∧ w' = w.alloc (.cells #[.string s] 9) ∧
      ∀ m, m < w.heap.size → SeqStopsK Fence.wide 4 Tryd.prog 67 lb encP (Keep m) (fun xs => xs = enum (Txt.chunks s.data.toList)) (fun pre => pre <+: enum (Txt.chunks s.data.toList)) (Txt.chunks s.data.toList).length w' := by
  go_enter Tryd.func47, Tryd.ntmps47
  go_wp2
  go_ret
  refine ⟨_, rfl, rfl, fun m hm l J Jx W hW hJ hJx hY h0 => ?_⟩
  exact points1_in s hs l w.heap.size m hm J Jx W ((hW.block _ (by simp)).trans (World.alloc_heap_new w _)) hJ hY h0

end Go.Proofs.YtoiednecchbmnaaDoor
/- A Builder into which a loop over the code points of a text writes. -/
namespace Go.Proofs.YtoiednecchbmnaaDoor
open Go Go.RowKit Go.Shelf

/-- What has been written when these code points have come: those from index a on. -/
def acc (a : Int) (pre : List (Nat × List UInt8)) : List Value := pre.flatMap fun x => if a ≤ (x.1 : Int) then Lib.runeCells ((code x.2 : Nat) : Int) else []
theorem acc_snoc (a : Int) (pre : List (Nat × List UInt8)) (x : Nat × List UInt8) : acc a (pre ++ [x]) = acc a pre ++ (if a ≤ (x.1 : Int) then Lib.runeCells ((code x.2 : Nat) : Int) else []) := by
  simp [acc, List.flatMap_append]
theorem acc_len (a : Int) (pre : List (Nat × List UInt8)) : (acc a pre).length ≤ 4 * pre.length := by
  induction pre with
  | nil => simp [acc]
  | cons x r ih =>
    have h4 := Lib.runeCells_le ((code x.2 : Nat) : Int)
    have : acc a (x :: r) = (if a ≤ (x.1 : Int) then Lib.runeCells ((code x.2 : Nat) : Int) else []) ++ acc a r := by simp [acc]
    rw [this, List.length_append, List.length_cons]
    split
    · omega
    · simp only [List.length_nil]; omega
theorem enum_take_succ (cs : List (List UInt8)) (k : Nat) (h : k < cs.length) : (enum cs).take (k + 1) = (enum cs).take k ++ [(k, cs.getD k [])] := by
  have hd : cs.drop k = cs.getD k [] :: cs.drop (k + 1) := by
    rw [List.drop_eq_getElem_cons h]
    simp [List.getD, h]
  exact (drop_cons hd).2.2.2
theorem acc_take (a : Int) (cs : List (List UInt8)) (hg : ∀ c ∈ cs, Txt.Good c) : ∀ k, k ≤ cs.length → acc a ((enum cs).take k) = Lib.byteCells (seg cs a.toNat k).flatten := by
  intro k
  induction k with
  | zero => intro _; rw [seg_empty cs _ 0 (Nat.zero_le _)]; rfl
  | succ k ih =>
    intro h
    have hk : k < cs.length := h
    rw [enum_take_succ cs k hk, acc_snoc, ih (by omega)]
    have hgc : Txt.Good (cs.getD k []) := hg _ (by simp [List.getD, hk])
    by_cases hak : a ≤ (k : Int)
    · rw [if_pos hak, good_cells hgc, seg_step cs a.toNat k (by omega) hk, List.flatten_append]
      simp [Lib.byteCells]
    · rw [if_neg hak, seg_empty cs _ k (by omega), seg_empty cs _ (k + 1) (by omega)]
      rfl

/-- A Builder stays one when what is no row of cells is turned. -/
theorem builder_kept {T e : TypeId} {B b : Nat} {bs : List Value} {W W' : World} {row : Option Nat} (h : Lib.IsBuilderF T e B b bs W) (hg : W.grownBy W' row)
    (hr : ∀ r, row = some r → ∃ o : Obj, W.heap[r]? = some o ∧ o.isCells = false) : Lib.IsBuilderF T e B b bs W' := by
  have hone : ∀ p, Lib.BuilderAtF T e B b p bs W → Lib.BuilderAtF T e B b p bs W' := by
    rintro p ⟨hB, v, hb, hown, hne⟩
    have hbl : b < W.heap.size := (Array.getElem?_eq_some_iff.1 hb).1
    refine ⟨hB, v, ?_, hown.kept hg ?_, hne⟩
    · rw [hg.block b hbl ?_]
      · exact hb
      · intro e
        obtain ⟨o, ho, hc⟩ := hr b e.symm
        rw [hb] at ho
        obtain rfl := Option.some.inj ho
        cases hc
    · by_cases hv : v.ownBlock = none
      · exact .inl hv
      · right
        intro e
        obtain ⟨r, hvr⟩ := Option.ne_none_iff_exists'.1 hv
        obtain ⟨o, ho, hc⟩ := hr r (by rw [← e, hvr])
        obtain ⟨c, fz, hcc⟩ := Lib.ownsRowF_kind hown r hvr
        rw [hcc] at ho
        obtain rfl := Option.some.inj ho
        cases hc
  rcases h with h | h
  · exact .inl (hone _ h)
  · exact .inr (hone _ h)
/-- The body's word when it has written a rune. -/
theorem keepsOthers_of {b : Nat} {bs : List Value} {W W' : World} (h : Lib.OthersKept 5 (some b) W W') (hs : W.heap.size ≤ W'.heap.size) (hb : Lib.IsBuilderF 71 5 b b bs W) : KeepsOthers W W' := by
  refine ⟨hs, fun k o hk ho => h k o hk (fun e => ?_) (fun c fz e => ?_)⟩
  · obtain rfl := Option.some.inj e
    rcases hb with ⟨_, v, hc, _⟩ | ⟨_, v, hc, _⟩ <;>
    · rw [hc] at hk
      obtain rfl := Option.some.inj hk
      cases ho
  · subst e; cases ho
theorem builder_lt {T e : TypeId} {B b : Nat} {bs : List Value} {W : World} (h : Lib.IsBuilderF T e B b bs W) : b < W.heap.size := by
  rcases h with h | h <;> exact h.lt
/-- A Builder stays one when one behind it is written nothing to but new blocks come. -/
theorem builder_below {T e : TypeId} {B b : Nat} {bs : List Value} {W W' : World} (h : Lib.IsBuilderF T e B b bs W) (hb : Below W.heap.size W W') : Lib.IsBuilderF T e B b bs W' := by
  have hone : ∀ p, Lib.BuilderAtF T e B b p bs W → Lib.BuilderAtF T e B b p bs W' := by
    rintro p ⟨hB, v, hc, hown, hne⟩
    have hbl : b < W.heap.size := (Array.getElem?_eq_some_iff.1 hc).1
    refine ⟨hB, v, (hb.block b hbl).trans hc, ⟨hown.1, ?_⟩, hne⟩
    rcases hown.2 with hn | ⟨g, cap, cur, fz, rfl, hg, hgg, rest⟩
    · exact .inl hn
    · exact .inr ⟨g, cap, cur, fz, rfl, hg, (hb.block g (Array.getElem?_eq_some_iff.1 hgg).1).trans hgg, rest⟩
  rcases h with h | h
  · exact .inl (hone _ h)
  · exact .inr (hone _ h)
/-- A block that does not move while a rune is written. -/
theorem others_deferred {e : TypeId} {b D : Nat} {bs : List Value} {T : TypeId} {W W' : World} (h : Lib.OthersKept e (some b) W W') (hK : W.heap[D]? = some (.deferred (some []))) (hb : Lib.IsBuilderF T e b b bs W) : W'.heap[D]? = some (.deferred (some [])) := by
  refine h D _ hK (fun x => ?_) (fun c fz x => by cases x)
  obtain rfl := Option.some.inj x
  rcases hb with ⟨_, v, hc, _⟩ | ⟨_, v, hc, _⟩ <;> rw [hc] at hK <;> cases hK

end Go.Proofs.YtoiednecchbmnaaDoor
/- The program's Repair returns what the plain text says. -/
namespace Go.Proofs.YtoiednecchbmnaaDoor
open Go.RowKit Go.Shelf
attribute [local go_sem] Oper.semAt_some

theorem acc_all (cs : List (List UInt8)) (hg : ∀ c ∈ cs, Txt.Good c) : acc 0 (enum cs) = Lib.byteCells cs.flatten := by
  have h := acc_take 0 cs hg cs.length (Nat.le_refl _)
  rw [← enum_length cs, List.take_length, enum_length] at h
  rw [h]
  unfold seg
  rw [List.take_length]
  rfl

set_option maxRecDepth 100000 in
set_option maxHeartbeats 1000000 in
theorem trepair_any (s : ByteArray) (w : World) (hs : s.size ≤ 20000) (hT : Lit w) :
    Calls Tryd.prog 33 #[.string s] w fun e w' => e = .returned (.string (tstr (Txt.rep s.data.toList))) ∧ Below w.heap.size w w' := by
  have hV := tvalid_any s w hs hT
  by_cases hv : Txt.rep s.data.toList = s.data.toList
  · rw [decide_eq_true hv] at hV
    have hres : tstr (Txt.rep s.data.toList) = s := by rw [hv, tstr_of]
    rw [hres]
    go_enter Tryd.func33, Tryd.ntmps33
    go_wp2_with fail
    refine hV.mono ?_
    rintro e w2 ⟨rfl, hb⟩
    go_wp2_with fail
    go_ret
    exact ⟨rfl, hb⟩
  · rw [decide_eq_false hv] at hV
    clear hv
    obtain ⟨cs, hcs⟩ : ∃ cs, Txt.chunks s.data.toList = cs := ⟨_, rfl⟩
    have hflat : Txt.rep s.data.toList = cs.flatten := by rw [← hcs]; rfl
    have hgood := Txt.chunks_all_good s.data.toList
    have hcl := Txt.chunks_len s.data.toList
    have hll : s.data.toList.length = s.size := rfl
    rw [hcs] at hgood hcl
    rw [hflat]
    have hall := acc_all cs hgood
    have HCS := Lib.hid hcs
    clear hgood hcs hflat
    refine (callsIn_wide (n := 5)).1 ?_
    refine callsIn_of_wp_marks Tryd.func33 rfl trivial ?_ rfl
    simp only [Tryd.ntmps33, List.size_toArray, List.length_cons, List.length_nil, Nat.reduceAdd, Nat.reduceSub, Array.replicate_succ, Array.replicate_zero, List.push_toArray, List.append_toArray, List.nil_append, List.cons_append]
    gi_wp2_with fail
    refine ⟨trivial, (callsIn_wide.2 hV).mono ?_⟩
    rintro e w2 ⟨rfl, hb2⟩
    obtain ⟨W1, hW1⟩ : ∃ W1, w2.alloc (.cells #[.pointer none, .slice none 0 0] 71) = W1 := ⟨_, rfl⟩
    gi_wp2_with fail
    refine ⟨trivial, (callsIn_wide.2 (tpoints_any s W1 (by omega))).mono ?_⟩
    rintro e w4 ⟨lb, rfl, hw4, hst⟩
    rw [HCS.out] at hst
    gi_wp2_with fail
    rw [← hw4]
    have hsz2 := hb2.size
    have hB0 : Below w.heap.size w W1 := by rw [← hW1]; exact hb2.alloc hsz2 _
    have hsz1 : W1.heap.size = w2.heap.size + 1 := by rw [← hW1]; simp
    have hbl1 : Lib.IsBuilderF 71 5 w2.heap.size w2.heap.size [] W1 := by
      have := Lib.IsBuilderF.of (Lib.fresh_isBuilder 71 5 w2)
      rw [hW1] at this
      exact this
    have hb4 : Below W1.heap.size W1 w4 := by rw [hw4]; exact (Below.refl _ _).alloc (Nat.le_refl _) _
    have hsz4 : w4.heap.size = w2.heap.size + 2 := by rw [hw4]; simp [hsz1]
    have hbl4 := builder_below hbl1 hb4
    have hB4 : Below w.heap.size w w4 := hB0.trans (hb4.mono (by omega))
    have hstm := hst w2.heap.size (by omega)
    clear hst hb4 hw4 hW1 hbl1 hB0 hV hb2
    refine wpIn_rangeFunc_ownF (w := w4) rfl (by decide) (gf := 67) (lb := lb) rfl trivial (enters_of Tryd.func67 (by kernel_rfl) rfl) hstm Keep.trans Keep.put (Below.refl _ _) (fun _ => rfl)
      (fun pre W => Lib.IsBuilderF 71 5 w2.heap.size w2.heap.size (acc 0 pre) W ∧ Below w.heap.size w W)
      (fun _ _ _ => False)
      ?hI ?hIx ?h0
      (fun x => { tmps := #[.string s, undef, .string ⟨#[]⟩, .pointer (some ⟨w2.heap.size, 0, none⟩), undef, .int .i32 (code x.2 : Nat), .string s, .bool false, undef, .string s, .func (.func 67) #[] lb, .int .i64 (x.1 : Nat), .int .i32 (code x.2 : Nat), undef, undef, undef], defers := [] }) ?assign ?body ?done ?stop
    case hI =>
      rintro pre W W' row ⟨h1, h5⟩ hg hr
      have hr' : ∀ r, row = some r → ∃ o : Obj, W.heap[r]? = some o ∧ o.isCells = false := fun r e => (hr r e).2
      exact ⟨builder_kept h1 hg hr', h5.grown hg (by have := h5.size; omega) (fun k hk => by have := (hr k hk).1; omega)⟩
    case hIx => exact fun _ _ _ _ _ hs _ _ => hs
    case h0 => exact ⟨hbl4, hB4⟩
    case assign =>
      intro l x W K hK
      gi_wp2
      exact hK
    case body =>
      rintro l pre x W ⟨h1, h5⟩ hlen
      have hcx := code_lt x.2
      have hal := acc_len 0 pre
      have hW2 : w2.heap.size < W.heap.size := builder_lt h1
      have hsn := acc_snoc 0 pre x
      rw [if_pos (by omega)] at hsn
      gi_wp2_with fail
      refine ⟨trivial, (CallsIn.inRound l (callsIn_wide.2 (Tryd.writeRune w2.heap.size w2.heap.size (acc 0 pre) (code x.2 : Nat) (by omega) (by omega) W h1 (by omega) (by omega)))).mono ?_⟩
      rintro e w5 ⟨rfl, hb5, hbel5, hk5⟩
      gi_wp2_with fail
      refine ⟨keepsOthers_of hk5 hbel5.size h1, Keep.of hk5 hbel5.size, ?_, h5.trans (hbel5.mono (by omega))⟩
      rw [hsn]; exact .inr hb5
    case done =>
      rintro D xs W hD rfl ⟨h1, h5⟩ hK
      rw [hall] at h1
      have hK1 : ∀ W', Lib.OthersKept 5 (some w2.heap.size) W W' → W'.heap[D]? = some (.deferred (some [])) := fun W' h => others_deferred h hK h1
      have hW2 : w2.heap.size < W.heap.size := builder_lt h1
      gi_wp2_with fail
      refine ⟨trivial, (callsIn_wide.2 (Tryd.builderString w2.heap.size w2.heap.size _ W h1 (by omega))).mono ?_⟩
      rintro e w5 ⟨rfl, hb5, hbel5, hk5⟩
      gi_wp2_with fail
      refine ⟨by simp, .inl ⟨_, _, rfl, run_takeDeferred (hK1 _ hk5), ?_⟩⟩
      refine ⟨_, results_tmp rfl _ _ _, rfl, ?_⟩
      exact (h5.trans (hbel5.mono (by omega))).trans (belowK_b (w := w) (Nat.le_refl _) _ D _ _ (by omega) (hK1 _ hk5) rfl rfl)
    case stop =>
      rintro D c pre W hD _ h _
      exact h.elim

end Go.Proofs.YtoiednecchbmnaaDoor
/- The declarations of a flat text: one. -/
namespace Go.Proofs.YtoiednecchbmnaaDoor
open Go Go.RowKit
set_option linter.unusedVariables false
theorem DRow.grown {w w' : World} {base B : Nat} {v : Value} {l : List St.De} (h : DRow w base v l) (hg : w.grownBy w' (some B)) (hB : B < base) : DRow w' base v l := by
  refine World.ownsRow.kept h hg ?_
  rcases h.2 with ⟨rfl, _⟩ | ⟨g, cap, cur, rfl, h1, _⟩
  · left; rfl
  · right; intro e
    have e' : g = B := by simpa [Value.ownBlock] using e
    omega
theorem dcell_one (l : List St.De) : ∀ u ∈ l.flatMap dcell, u.oneCell' = true := by
  intro u hu
  obtain ⟨d, _, hd⟩ := List.mem_flatMap.1 hu
  unfold dcell at hd
  simp only [List.mem_cons, List.not_mem_nil, or_false] at hd
  rcases hd with rfl | rfl | rfl | rfl | rfl <;> rfl
theorem declInfo : (Tryd.prog.info? 42).map (fun i => (i.zero, i.size, i.bytes)) = some (some (.agg #[.string ⟨#[]⟩, .int .i64 0, .int .i64 0, .string ⟨#[]⟩, .bool false]), 5, 56) := by kernel_rfl
/-- What declared answers for a text. -/
def DecOk (l : List UInt8) (ds : List St.De) : Prop := ∀ w, MaxLen w → Calls Tryd.prog 35 #[.string (tstr l)] w fun e w' => ∃ u, e = .returned u ∧ DRow w' w.heap.size u ds ∧ Below w.heap.size w w'
set_option maxHeartbeats 8000000 in
theorem ydeclarations_flat (b : Nat) (l : List UInt8) (ds : List St.De) (w : World) (hl : l.length ≤ 20000) (hne : l ≠ []) (hF : Flat l) (hM : MaxLen w) (hD : DecOk l ds) (hd : ds.length ≤ 100) (h : ScS w b l) :
    Calls Tryd.prog 26 #[.pointer (some ⟨b, 0, none⟩)] w fun e w' => ∃ u, e = .returned u ∧ DRow w' w.heap.size u ds ∧ w.grownBy w' (some b) := by
  obtain ⟨i0, hi0, hz0, hz1, hz2⟩ := info_parts declInfo
  have HH := Lib.hid h
  have HM := Lib.hid hM
  have HFl := Lib.hid hF
  have HD := Lib.hid hD
  have hbl : b < w.heap.size := Whole.lt h
  clear h hM hF hD
  go_enter Tryd.func26, Tryd.ntmps26
  go_wp2_with fail
  go_loopg [3] 1 (fun gg u3 wr => (gg = 1 ∧ u3 = .slice none 0 0 ∧ wr = w) ∨ (∃ (A : Option Addr) (c : Nat), u3 = .slice A ds.length c ∧ DRow wr w.heap.size (.slice A ds.length c) ds ∧ ScS wr b [] ∧ w.grownBy wr (some b)))
  case atStart => exact .inl ⟨rfl, rfl, rfl⟩
  case round =>
    rcases hrel with ⟨rfl, rfl, rfl⟩ | ⟨A, c, rfl, hrow, hs, hg⟩
    · have hc0 : wr.cell? ⟨b, 0, none⟩ = some (.string (tstr l)) := Whole.cell HH.out 0
      have hz : (tstr l).toList.isEmpty = false := by rw [ttl]; cases l with | nil => exact absurd rfl hne | cons a t => rfl
      have hu := yuntil_flat b l wr hl HFl.out HH.out
      go_wp2_with fail
      refine hu.mono ?_
      clear hu hc0
      rintro e w2 ⟨rfl, hS2, hg2⟩
      have HS2 := Lib.hid hS2
      have HG2 := Lib.hid hg2
      have hdd := HD.out w2 (HM.out.gb (Whole.cell HH.out 0) hg2)
      clear hS2 hg2
      go_wp2_with fail
      refine hdd.mono ?_
      clear hdd
      rintro e w3 ⟨u, rfl, hr, hb⟩
      have HG3 := Lib.hid (gb_trans HG2.out (gb_of_below hb (some b)))
      have HS3 := Lib.hid (Whole.below HS2.out hb HS2.out.lt)
      have hr2 := hr.mono (base' := wr.heap.size) HG2.out.size
      have HR := Lib.hid hr2
      clear hr hr2 hb
      go_wp2_with (at_builtin; refine wpList_append_src rfl _ _ 37 rfl wr.heap.size wr.heap.size 42 i0 (.agg #[.string ⟨#[]⟩, .int .i64 0, .int .i64 0, .string ⟨#[]⟩, .bool false]) 5 56 Tryd.underlying37 hi0 hz0 hz1 hz2 rfl (by decide) _ 0 [] rfl (World.ownsRow_nil _ _ _ _) _ ds.length (ds.flatMap dcell) rfl HR.out (dcell_one ds) (by unfold maxLen; omega) (by omega) HG3.out.size ?_)
      intro v' w4 hown hgrow hfr
      have hown2 : DRow w4 wr.heap.size v' ds := hown
      have HG4 := Lib.hid (gb_trans HG3.out (show w3.grownBy w4 (some b) from ⟨hgrow.os, hgrow.tape, hgrow.output, hgrow.size, fun k hk _ => hgrow.block k hk (by intro e; cases e)⟩))
      have hS4 : ScS w4 b [] := (hgrow.block b HS3.out.lt (by intro e; cases e)).trans HS3.out
      have HO := Lib.hid hown2
      have hsk : Calls Tryd.prog 37 #[.pointer (some ⟨b, 0, none⟩), .string ⟨#[59]⟩] w4 fun e w' => e = .returned (.bool false) ∧ ScS w' b [] ∧ w4.grownBy w' (some b) := yskip_any b [] [59] w4 hS4
      clear hown hown2 hgrow hfr hS4
      go_wp2_with fail
      refine hsk.mono ?_
      clear hsk
      rintro e w5 ⟨rfl, hS5, hg5⟩
      have hO5 := HO.out.grown hg5 hbl
      have HG5 := Lib.hid (gb_trans HG4.out hg5)
      have HS5 := Lib.hid hS5
      obtain ⟨A, c, rfl⟩ := hO5.form
      have HO5 := Lib.hid hO5
      clear hS5 hg5 hO5
      go_wp2_with fail
      go_roundg 0
      case rel => exact .inr ⟨A, c, rfl, HO5.out, HS5.out, HG5.out⟩
      case measure => omega
    · have hc0 : wr.cell? ⟨b, 0, none⟩ = some (.string (tstr [])) := Whole.cell hs 0
      have hz : (tstr []).toList.isEmpty = true := by rw [ttl]; rfl
      have HR := Lib.hid hrow
      have HG := Lib.hid hg
      clear hrow hs hg
      go_wp2_with fail
      go_ret
      exact ⟨_, rfl, HR.out, HG.out⟩
end Go.Proofs.YtoiednecchbmnaaDoor
/- The declarations of a flat text as the law calls them; the law's first question. -/
namespace Go.Proofs.YtoiednecchbmnaaDoor
open Go Go.RowKit
set_option linter.unusedVariables false
set_option maxHeartbeats 8000000 in
theorem yread_flat (l : List UInt8) (w : World) (hl : l.length ≤ 20000) (hF : Flat l) (hr : Txt.rep l = l) (hT : Lit w) :
    Calls Tryd.prog 25 #[.string (tstr l)] w fun e w' => ∃ b, e = .returned (.pointer (some ⟨b, 0, none⟩)) ∧ ScS w' b l ∧ w.heap.size ≤ b ∧ Below w.heap.size w w' := by
  have hrep := trepair_any (tstr l) w (by rw [tsize]; exact hl) hT
  rw [tdata, hr] at hrep
  clear hr hT
  go_enter Tryd.func25, Tryd.ntmps25
  go_wp2_with fail
  refine hrep.mono ?_
  clear hrep
  rintro e w2 ⟨rfl, hb⟩
  have hS : ScS (w2.alloc (.cells #[.string (tstr l)] 64)) w2.heap.size l := Whole.new _ _ _
  have hB := hb.alloc hb.size (.cells #[.string (tstr l)] 64)
  have hbs := hb.size
  have hpl := yplain_flat w2.heap.size l (w2.alloc (.cells #[.string (tstr l)] 64)) hl hF hS
  have HB := Lib.hid hB
  have HBS := Lib.hid hbs
  clear hS hB hb hbs
  go_wp2_with fail
  refine hpl.mono ?_
  clear hpl
  rintro e w4 ⟨rfl, hg⟩
  have HB4 := Lib.hid (HB.out.grown hg (HB.out.size) (fun k hk => by injection hk with hk; have := HBS.out; omega))
  clear hg
  go_wp2_with fail
  go_ret
  exact ⟨w4.heap.size, rfl, Whole.new _ _ _, HB4.out.size, HB4.out.alloc HB4.out.size _⟩
set_option maxHeartbeats 8000000 in
theorem ydecls_flat (l : List UInt8) (ds : List St.De) (w : World) (hl : l.length ≤ 20000) (hne : l ≠ []) (hF : Flat l) (hr : Txt.rep l = l) (hT : Lit w) (hM : MaxLen w) (hD : DecOk l ds) (hd : ds.length ≤ 100) :
    Calls Tryd.prog 13 #[.string (tstr l)] w fun e w' => ∃ u, e = .returned u ∧ DRow w' w.heap.size u ds ∧ Below w.heap.size w w' := by
  have hrd := yread_flat l w hl hF hr hT
  have HM := Lib.hid hM
  clear hM hr hT
  go_enter Tryd.func13, Tryd.ntmps13
  go_wp2_with fail
  refine hrd.mono ?_
  clear hrd
  rintro e w2 ⟨b, rfl, hS, hbb, hb⟩
  have hdc := ydeclarations_flat b l ds w2 hl hne hF (HM.out.below hb) hD hd hS
  have HB := Lib.hid hb
  have HBB := Lib.hid hbb
  clear hS hbb hb hD hF
  go_wp2_with fail
  refine hdc.mono ?_
  clear hdc
  rintro e w3 ⟨u, rfl, hR, hg⟩
  have HB3 := Lib.hid (HB.out.grown hg HB.out.size (fun k hk => by injection hk with hk; have := HBB.out; omega))
  have HR := Lib.hid (hR.mono (base' := w.heap.size) HB.out.size)
  clear hR hg
  go_wp2_with fail
  go_ret
  exact ⟨_, rfl, HR.out, HB3.out⟩
def tRed : List UInt8 := [99, 111, 108, 111, 114, 58, 32, 114, 101, 100]
def dRed : St.De := ⟨[99, 111, 108, 111, 114], ⟨6, 0, [35, 102, 102, 48, 48, 48, 48]⟩, false⟩
theorem red_ok : DecOk tRed [dRed] := by
  intro w hM
  have h := ydeclared_any [99, 111, 108, 111, 114] [32, 114, 101, 100] [99, 111, 108, 111, 114] [114, 101, 100] false [dRed] w hM (by decide) (by decide) (by decide +kernel) (by decide +kernel) (by decide)
    (fun w hM => by
      have := yexpand_no [99, 111, 108, 111, 114] [114, 101, 100] w hM (by decide) (by decide +kernel)
      rw [show St.single [99, 111, 108, 111, 114] [114, 101, 100] = [dRed] by decide +kernel] at this
      exact this)
  exact h
set_option maxHeartbeats 4000000 in
theorem yawake_any (w : World) (hT : Lit w) (hM : MaxLen w) : Calls Tryd.prog 5 #[] w fun e w' => e = .returned (.bool true) ∧ Below w.heap.size w w' := by
  have hd := ydecls_flat tRed [dRed] w (by decide) (by decide) (by
    have : (tRed.all flatC) = true := by decide +kernel
    exact List.all_eq_true.1 this) (by decide +kernel) hT hM red_ok (by decide)
  clear hT hM
  go_enter Tryd.func5, Tryd.ntmps5
  go_wp2_with fail
  refine hd.mono ?_
  clear hd
  rintro e w2 ⟨u, rfl, hR, hb⟩
  obtain ⟨A, c, rfl⟩ := hR.form
  obtain ⟨g, rfl, hg, hcell, hfr, hcap, hput, hgb⟩ := hR.put (i := 0) (by decide) true
  have c0 : w2.cell? ⟨g, 0, none⟩ = some (.string ⟨#[99, 111, 108, 111, 114]⟩) := by have := World.ownsRow.cellAt hR 0 (by decide); exact this
  have c3 : w2.cell? ⟨g, 3, none⟩ = some (.string ⟨#[35, 102, 102, 48, 48, 48, 48]⟩) := by have := World.ownsRow.cellAt hR 3 (by decide); exact this
  have HB := Lib.hid hb
  clear hR hb hput hgb hcell hfr
  have hlen : [dRed].length = 1 := rfl
  go_wp2_with fail
  go_ret
  exact ⟨rfl, HB.out⟩
end Go.Proofs.YtoiednecchbmnaaDoor
