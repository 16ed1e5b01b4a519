/- The scanner's smallest methods. -/
import Derived.Test.YtoiednecchbmnaaDoorK01
import Derived.Test.YtoiednecchbmnaaDoorK00
import Derived.Shelf.Abstract
import Derived.Test.YtoiednecchbmnaaDoorProg
import Derived.Shelf.Small.Strs
import Derived.Shelf.Vars
import Derived.Shelf.Strings.Cut
import Derived.Below
import Derived.Lib.IndexMore
namespace Go.Proofs.YtoiednecchbmnaaDoor
open Go Go.RowKit
set_option linter.unusedVariables false
def St.nx (cs l : List UInt8) : Bool := match l with | [] => false | c :: _ => cs.contains c
theorem ttl (l : List UInt8) : (tstr l).toList = l := by rw [Lib.toList_data, tdata]
set_option maxHeartbeats 400000 in
theorem ydg_any (c : UInt8) (w : World) :
    Calls Tryd.prog 79 #[.int .u8 c.toNat] w fun e w' => e = .returned (.bool (St.dg c)) ∧ w = w' := by
  have hc := c.toNat_lt
  go_enter Tryd.func79, Tryd.ntmps79
  go_wp2_with fail
  all_goals go_ret
  all_goals refine ⟨retB ?_, rfl⟩
  all_goals unfold St.dg
  all_goals rw [Bool.eq_iff_iff]
  all_goals simp
  all_goals omega
set_option maxHeartbeats 400000 in
theorem yhx_any (c : UInt8) (w : World) :
    Calls Tryd.prog 61 #[.int .u8 c.toNat] w fun e w' => e = .returned (.bool (St.hx c)) ∧ w = w' := by
  have hc := c.toNat_lt
  have h1 := ydg_any c w
  cases e1 : St.dg c with
  | true =>
    rw [e1] at h1
    have HG := Lib.hid (show St.hx c = true by unfold St.hx; rw [e1]; rfl)
    clear e1
    go_enter Tryd.func61, Tryd.ntmps61
    go_wp2_with fail
    refine h1.mono ?_
    rintro e w' ⟨rfl, rfl⟩
    go_wp2_with fail
    go_ret
    exact ⟨retB HG.out.symm, rfl⟩
  | false =>
    rw [e1] at h1
    have HG := Lib.hid (show St.hx c = (decide (97 ≤ c.toNat) && decide (c.toNat ≤ 102)) by unfold St.hx; rw [e1]; rfl)
    clear e1
    go_enter Tryd.func61, Tryd.ntmps61
    go_wp2_with fail
    refine h1.mono ?_
    rintro e w' ⟨rfl, rfl⟩
    go_wp2_with fail
    all_goals go_ret
    all_goals refine ⟨retB ?_, rfl⟩
    all_goals rw [HG.out]
    all_goals rw [Bool.eq_iff_iff]
    all_goals simp
    all_goals omega
theorem asks_dg : Asks 79 St.dg := fun w c => ydg_any c w
theorem asks_hx : Asks 61 St.hx := fun w c => yhx_any c w
theorem ent_dg : ∀ args w, (callFunc 79 args).run Tryd.prog w = .ok (.enter 79 args) w := enters_of Tryd.func79 (by kernel_rfl) rfl
theorem ent_hx : ∀ args w, (callFunc 61 args).run Tryd.prog w = .ok (.enter 61 args) w := enters_of Tryd.func61 (by kernel_rfl) rfl
set_option maxHeartbeats 400000 in
theorem yskip_any (b : Nat) (l p : List UInt8) (w : World) (h : ScS w b l) :
    Calls Tryd.prog 37 #[.pointer (some ⟨b, 0, none⟩), .string (tstr p)] w fun e w' => e = .returned (.bool (St.skip p l)) ∧ ScS w' b (St.cutP p l) ∧ w.grownBy w' (some b) := by
  have hh := zcutprefix_any l p w
  have h0 : w.cell? ⟨b, 0, none⟩ = some (.string (tstr l)) := Whole.cell h 0
  have hf : w.frozen? ⟨b, 0, none⟩ = false := Whole.free h 0
  have HH := Lib.hid h
  clear h
  go_enter Tryd.func37, Tryd.ntmps37
  go_wp2_with fail
  refine hh.mono ?_
  rintro e w' ⟨rfl, rfl⟩
  go_wp2_with fail
  go_ret
  exact ⟨rfl, HH.out.put, ScS.gput _ _ _⟩
set_option maxHeartbeats 400000 in
theorem ytake_any (b k : Nat) (l : List UInt8) (w : World) (hk : k ≤ l.length) (hl : l.length ≤ 20000) (h : ScS w b l) :
    Calls Tryd.prog 53 #[.pointer (some ⟨b, 0, none⟩), .int .i64 (k : Int)] w fun e w' => e = .returned (.string (tstr (l.take k))) ∧ ScS w' b (l.drop k) ∧ w.grownBy w' (some b) := by
  have e1 := tsize l
  have hk0 : (0 : Int) ≤ (k : Int) := by omega
  have hk1 : (k : Int) ≤ (l.length : Int) := by omega
  have h0 : w.cell? ⟨b, 0, none⟩ = some (.string (tstr l)) := Whole.cell h 0
  have hf : w.frozen? ⟨b, 0, none⟩ = false := Whole.free h 0
  have HH := Lib.hid h
  have X1 := textr_head l k
  have X2 : (tstr l).extract k l.length = tstr (l.drop k) := by have := textr_end l k; rw [tsize] at this; exact this
  clear h
  go_enter Tryd.func53, Tryd.ntmps53
  go_wp2_with fail
  go_ret
  try rw [X1]
  try rw [X2]
  exact ⟨rfl, HH.out.put, ScS.gput _ _ _⟩
set_option maxHeartbeats 1000000 in
set_option maxRecDepth 20000 in
theorem yrun_any (g : Nat) (p : UInt8 → Bool) (eg : ∀ args w, (callFunc g args).run Tryd.prog w = .ok (.enter g args) w) (hp : Asks g p) (b : Nat) (l : List UInt8) (w : World) (hl : l.length ≤ 20000) (h : ScS w b l) :
    Calls Tryd.prog 60 #[.pointer (some ⟨b, 0, none⟩), .func (.func g) #[] #[]] w fun e w' => e = .returned (.string (tstr (l.takeWhile p))) ∧ ScS w' b (l.dropWhile p) ∧ w.grownBy w' (some b) := by
  have e1 := tsize l
  have h0 : w.cell? ⟨b, 0, none⟩ = some (.string (tstr l)) := Whole.cell h 0
  have hf : w.frozen? ⟨b, 0, none⟩ = false := Whole.free h 0
  have HH := Lib.hid h
  have HP := Lib.hid hp
  clear h hp
  go_enter Tryd.func60, Tryd.ntmps60
  go_wp2_with fail
  go_loopg [5] (l.length) (fun gg u wr => ∃ k : Nat, u = .int .i64 (k : Int) ∧ k ≤ (l.takeWhile p).length ∧ k ≤ l.length ∧ l.length - k ≤ gg ∧ wr = w)
  case atStart => exact ⟨0, rfl, Nat.zero_le _, Nat.zero_le _, Nat.le_refl _, rfl⟩
  case round =>
    obtain ⟨k, rfl, hkt, hkl, hgg, rfl⟩ := hrel
    by_cases hlt : k < l.length
    · have hlt' : (k : Int) < (l.length : Int) := by omega
      have hd := tget l k (by omega)
      have hcall := HP.out wr (tstr l)[k]
      have hc256 := (tstr l)[k].toNat_lt
      cases hq : p (tstr l)[k] with
      | true =>
        rw [hq] at hcall
        have HM := Lib.hid (run1_more hkt hd hq)
        clear hd hq hkt
        go_wp2_with fail
        refine hcall.mono ?_
        clear hcall
        rintro e w' ⟨rfl, rfl⟩
        go_wp2_with fail
        go_roundg (l.length - (k + 1))
        case rel => exact ⟨k + 1, by go_num, HM.out, by omega, by omega, rfl⟩
        case measure => omega
      | false =>
        rw [hq] at hcall
        have HD := Lib.hid (run1_here hkt fun c r e => by rw [hd] at e; obtain ⟨rfl, _⟩ := List.cons.inj e; exact hq)
        clear hd hq hkt
        go_wp2_with fail
        refine hcall.mono ?_
        clear hcall
        rintro e w' ⟨rfl, rfl⟩
        go_wp2_with fail
        have ht := ytake_any b k l _ (by omega) hl HH.out
        refine ht.mono ?_
        rintro e w2 ⟨rfl, hR, hg⟩
        have HR := Lib.hid (And.intro hR hg)
        clear hR hg ht
        go_wp2_with fail
        go_ret
        have E := take_tw p l
        rw [HD.out] at E
        rw [← E.1, ← E.2]
        exact ⟨rfl, HR.out.1, HR.out.2⟩
    · have hlt' : ¬ (k : Int) < (l.length : Int) := by omega
      have HD := Lib.hid (run1_here hkt fun c r e => by rw [List.drop_of_length_le (by omega)] at e; cases e)
      clear hkt
      go_wp2_with fail
      have ht := ytake_any b k l _ (by omega) hl HH.out
      refine ht.mono ?_
      rintro e w2 ⟨rfl, hR, hg⟩
      have HR := Lib.hid (And.intro hR hg)
      clear hR hg ht
      go_wp2_with fail
      go_ret
      have E := take_tw p l
      rw [HD.out] at E
      rw [← E.1, ← E.2]
      exact ⟨rfl, HR.out.1, HR.out.2⟩
end Go.Proofs.YtoiednecchbmnaaDoor
/- What the library says of IndexByte and Cut, over this program. -/
namespace Go.Proofs
open Go.Shelf
def Tryd.lays137_ren : Go.Shelf.Ren := ⟨fun | 137 => 57 | 217 => 74 | 266 => 93 | n => n, fun | 3 => 3 | 5 => 5 | 9 => 9 | n => n, fun | n => n⟩
theorem Tryd.lays137 : Go.Proofs.Lays.n137 Tryd.prog Tryd.lays137_ren := {
  mixed := by kernel_rfl
  f137 := Tryd.func57.trans (congrArg some (by kernel_rfl))
  f217 := Tryd.func74.trans (congrArg some (by kernel_rfl))
  f266 := Tryd.func93.trans (congrArg some (by kernel_rfl))
  t3 := Tryd.underlying3
  a3 := Tryd.isAgg3
  z3 := Tryd.sizeOf3
  v3 := Tryd.zeroValue3
  t5 := Tryd.underlying5
  a5 := Tryd.isAgg5
  z5 := Tryd.sizeOf5
  v5 := Tryd.zeroValue5
  t9 := Tryd.underlying9
  a9 := Tryd.isAgg9
  z9 := Tryd.sizeOf9
  v9 := Tryd.zeroValue9 }
def Tryd.lays145_ren : Go.Shelf.Ren := ⟨fun | 145 => 27 | 217 => 74 | 219 => 59 | 220 => 38 | 224 => 77 | 225 => 76 | 266 => 93 | 267 => 78 | 314 => 95 | n => n, fun | 3 => 3 | 4 => 4 | 5 => 5 | 9 => 9 | 46 => 97 | 51 => 107 | 59 => 57 | 146 => 113 | n => n, fun | 1 => 0 | n => n⟩
theorem Tryd.lays145 : Go.Proofs.Lays.n145 Tryd.prog Tryd.lays145_ren := {
  mixed := by kernel_rfl
  f145 := Tryd.func27.trans (congrArg some (by kernel_rfl))
  f217 := Tryd.func74.trans (congrArg some (by kernel_rfl))
  f219 := Tryd.func59.trans (congrArg some (by kernel_rfl))
  f220 := Tryd.func38.trans (congrArg some (by kernel_rfl))
  f224 := Tryd.func77.trans (congrArg some (by kernel_rfl))
  f225 := Tryd.func76.trans (congrArg some (by kernel_rfl))
  f266 := Tryd.func93.trans (congrArg some (by kernel_rfl))
  f267 := Tryd.func78.trans (congrArg some (by kernel_rfl))
  f314 := Tryd.func95.trans (congrArg some (by kernel_rfl))
  t3 := Tryd.underlying3
  a3 := Tryd.isAgg3
  z3 := Tryd.sizeOf3
  v3 := Tryd.zeroValue3
  t4 := Tryd.underlying4
  a4 := Tryd.isAgg4
  z4 := Tryd.sizeOf4
  v4 := Tryd.zeroValue4
  t5 := Tryd.underlying5
  a5 := Tryd.isAgg5
  z5 := Tryd.sizeOf5
  v5 := Tryd.zeroValue5
  t9 := Tryd.underlying9
  a9 := Tryd.isAgg9
  z9 := Tryd.sizeOf9
  v9 := Tryd.zeroValue9
  t46 := Tryd.underlying97
  a46 := Tryd.isAgg97
  z46 := Tryd.sizeOf97
  v46 := Tryd.zeroValue97
  t51 := Tryd.underlying107
  a51 := Tryd.isAgg107
  z51 := Tryd.sizeOf107
  v51 := Tryd.zeroValue107
  t59 := Tryd.underlying57
  a59 := Tryd.isAgg57
  z59 := Tryd.sizeOf57
  v59 := Tryd.zeroValue57
  t146 := Tryd.underlying113
  a146 := Tryd.isAgg113
  z146 := Tryd.sizeOf113
  v146 := Tryd.zeroValue113
  g1 := by kernel_rfl }
open Go.RowKit in
theorem Tryd.indexByte (s : ByteArray) (c : Int) (w : World) :
    Calls Tryd.prog 57 #[.string s, .int .u8 c] w fun e w' => e = .returned (.int .i64 (Lib.indexByte s.data.toList c.toNat.toUInt8)) ∧ w' = w := Any.strings_IndexByte Tryd.lays137 s c w
theorem Tryd.maxLen (w : World) (h : w.ShapedOpen Tryd.prog) : ∃ m, w.cell? ⟨0, 0, none⟩ = some (.int .i64 m) :=
  Go.Proofs.cell_of_shapedOpen_int (zero := #[.int .i64 0]) (t := 3) h (of_decide_eq_true (by kernel_rfl)) (by kernel_rfl) rfl (by kernel_rfl) (by kernel_rfl) Tryd.underlying3
namespace YtoiednecchbmnaaDoor
open Go.RowKit
def MaxLen (w : World) : Prop := ∃ m, w.cell? ⟨0, 0, none⟩ = some (.int .i64 m)
theorem MaxLen.below {w w' : World} (h : MaxLen w) (hb : Below w.heap.size w w') : MaxLen w' := by
  obtain ⟨m, hm⟩ := h
  exact ⟨m, (hb.cell (World.block_lt_of_cell? w _ hm)).trans hm⟩
theorem MaxLen.gb {w w' : World} {b : Nat} {s : ByteArray} (h : MaxLen w) (hs : w.cell? ⟨b, 0, none⟩ = some (.string s)) (hg : w.grownBy w' (some b)) : MaxLen w' := by
  obtain ⟨m, hm⟩ := h
  have hlt := World.block_lt_of_cell? w _ hm
  refine ⟨m, (World.cell?_of_block (hg.block _ hlt (fun e => ?_))).trans hm⟩
  have e2 : 0 = b := Option.some.inj e
  subst e2
  rw [hm] at hs
  cases hs
theorem scut (l sep : List UInt8) (w : World) (hM : MaxLen w) (hl : l.length ≤ 20000) :
    Calls Tryd.prog 27 #[.string (tstr l), .string (tstr sep)] w fun e w' => e = .returned (.tuple #[.string (tstr (Lib.cut l sep).1), .string (tstr (Lib.cut l sep).2.1), .bool (Lib.cut l sep).2.2]) ∧ Below w.heap.size w w' := by
  obtain ⟨m, hm⟩ := hM
  have hs : (tstr l).size = l.length := by show (tstr l).data.size = _; unfold tstr; simp
  have ht : ∀ x : List UInt8, (tstr x).data.toList = x := fun x => by unfold tstr; simp
  have := Any.strings_Cut Tryd.lays145 (tstr l) (tstr sep) m w (by omega) hm
  rw [ht, ht] at this
  refine this.mono ?_
  rintro e w' ⟨rfl, n, rfl⟩
  exact ⟨rfl, ⟨rfl, rfl, rfl, Nat.le_refl _, fun _ _ => rfl⟩⟩
end YtoiednecchbmnaaDoor
end Go.Proofs
/- What is next. -/
namespace Go.Proofs.YtoiednecchbmnaaDoor
open Go Go.RowKit
set_option linter.unusedVariables false
theorem idx_nx (c : UInt8) : ∀ cs : List UInt8, decide (0 ≤ Lib.indexByte cs c) = cs.contains c := by
  intro cs
  induction cs with
  | nil => rfl
  | cons d t ih =>
    have hge := Lib.indexByte_ge t c
    unfold Lib.indexByte
    rw [List.contains_cons, ← ih]
    by_cases e : d = c
    · subst e; simp
    · have e2 : ¬ c = d := fun h => e h.symm
      rw [if_neg (by simpa using e), Bool.eq_iff_iff]
      simp only [beq_iff_eq, Bool.or_eq_true, decide_eq_true_eq, e2, false_or]
      split <;> omega
set_option maxHeartbeats 400000 in
theorem ynext_any (b : Nat) (cs l : List UInt8) (w : World) (h : ScS w b l) :
    Calls Tryd.prog 51 #[.pointer (some ⟨b, 0, none⟩), .string (tstr cs)] w fun e w' => e = .returned (.bool (St.nx cs l)) ∧ w = w' := by
  have h0 : w.cell? ⟨b, 0, none⟩ = some (.string (tstr l)) := Whole.cell h 0
  cases l with
  | nil =>
    have hz := ttl []
    clear h
    go_enter Tryd.func51, Tryd.ntmps51
    go_wp2_with fail
    go_ret
    exact ⟨rfl, rfl⟩
  | cons c t =>
    have hz : ¬ (tstr (c :: t)).toList = [] := by rw [ttl]; simp
    have hp : (0 : Int) < ((tstr (c :: t)).size : Int) := by rw [tsize, List.length_cons]; omega
    have hp2 : 0 < (tstr (c :: t)).size := by rw [tsize, List.length_cons]; omega
    have hc0 : (tstr (c :: t))[0] = c := rfl
    have hi := Tryd.indexByte (tstr cs) c.toNat w
    have HN := Lib.hid (show (!(tstr (c :: t)).toList.isEmpty && decide (0 ≤ Lib.indexByte cs c)) = St.nx cs (c :: t) by rw [ttl, idx_nx]; rfl)
    rw [tdata, show ((c.toNat : Int).toNat.toUInt8) = c from by simp] at hi
    clear h
    go_enter Tryd.func51, Tryd.ntmps51
    go_wp2_with fail
    refine hi.mono ?_
    rintro e w' ⟨rfl, rfl⟩
    go_wp2_with fail
    go_ret
    exact ⟨retB HN.out, rfl⟩
end Go.Proofs.YtoiednecchbmnaaDoor
/- What a table of constants gives for a name. -/
namespace Go.Proofs.YtoiednecchbmnaaDoor
open Go Go.RowKit
set_option linter.unusedVariables false
theorem ybt {w w1 w2 : World} (h1 : Below w.heap.size w w1) (h2 : Below w1.heap.size w1 w2) : Below w.heap.size w w2 := h1.trans (h2.mono h1.size)
theorem index_at {a b : List UInt8} {c : UInt8} {p : List UInt8} (h : ¬ c ∈ a) : Lib.index (a ++ ((c :: p) ++ b)) (c :: p) = (a.length : Int) := by
  apply Lib.index_first
  · simp
  · unfold Lib.occAt
    rw [List.drop_left]
    exact List.isPrefixOf_iff_prefix.2 (List.prefix_append _ _)
  · intro j hj
    rw [Bool.eq_false_iff]
    intro ho
    have := Lib.occAt_head rfl ho
    rw [List.getElem?_append_left hj] at this
    exact h (List.mem_of_getElem? this)
theorem index_no {a : List UInt8} {c : UInt8} {p : List UInt8} (h : ¬ c ∈ a) : Lib.index a (c :: p) = -1 := by
  apply Lib.index_none
  intro j hj
  rw [Bool.eq_false_iff]
  intro ho
  exact h (List.mem_of_getElem? (Lib.occAt_head rfl ho))
theorem cut_at {a b : List UInt8} {c : UInt8} {p : List UInt8} (h : ¬ c ∈ a) : Lib.cut (a ++ ((c :: p) ++ b)) (c :: p) = (a, b, true) := by
  unfold Lib.cut
  rw [index_at h, if_pos (by omega)]
  rw [show ((a.length : Int)).toNat = a.length by omega, List.take_left]
  rw [← List.append_assoc, ← List.length_append, List.drop_left]
theorem cut_none {a : List UInt8} {c : UInt8} {p : List UInt8} (h : ¬ c ∈ a) : Lib.cut a (c :: p) = (a, [], false) := by
  unfold Lib.cut
  rw [index_no h, if_neg (by decide)]
namespace St
/-- A table's next line, and what is behind it. -/
theorem rend_cons {k v : Bs} {t : List (Bs × Bs)} (h : TOk ((k, v) :: t)) : Lib.cut (rend ((k, v) :: t)) [10] = (k ++ 58 :: 32 :: v, rend t, !t.isEmpty) := by
  obtain ⟨h1, h2, h3⟩ := h (k, v) (by simp)
  have hn : ¬ (10 : UInt8) ∈ k ++ 58 :: 32 :: v := by
    intro hm
    rcases List.mem_append.1 hm with e | e
    · exact h2 e
    · rcases List.mem_cons.1 e with e | e
      · cases e
      · rcases List.mem_cons.1 e with e | e
        · cases e
        · exact h3 e
  cases t with
  | nil => exact cut_none hn
  | cons x t => exact cut_at (p := []) (b := rend (x :: t)) hn
theorem line_cut {k v : Bs} (h : ¬ 58 ∈ k) : Lib.cut (k ++ 58 :: 32 :: v) [58, 32] = (k, v, true) := cut_at (p := [32]) (b := v) h
theorem rend_ne {k v : Bs} {t : List (Bs × Bs)} : rend ((k, v) :: t) ≠ [] := by
  cases t with
  | nil => show k ++ 58 :: 32 :: v ≠ []; simp
  | cons x t => show (k ++ 58 :: 32 :: v) ++ 10 :: rend (x :: t) ≠ []; simp
theorem rend_len {k v : Bs} {t : List (Bs × Bs)} : (rend t).length ≤ (rend ((k, v) :: t)).length ∧ (k ++ 58 :: 32 :: v).length ≤ (rend ((k, v) :: t)).length := by
  cases t with
  | nil => exact ⟨by simp [rend], Nat.le_refl _⟩
  | cons x t => show _ ≤ ((k ++ 58 :: 32 :: v) ++ 10 :: rend (x :: t)).length ∧ _ ≤ ((k ++ 58 :: 32 :: v) ++ 10 :: rend (x :: t)).length; simp only [List.length_append, List.length_cons]; omega
end St
set_option maxHeartbeats 4000000 in
theorem ylookUp_any (T : List (St.Bs × St.Bs)) (name : List UInt8) (w : World) (hM : MaxLen w) (hT : St.TOk T) (hl : (St.rend T).length ≤ 20000) :
    Calls Tryd.prog 14 #[.string (tstr (St.rend T)), .string (tstr name)] w fun e w' => e = .returned (.tuple #[.string (tstr ((St.find T name).getD [])), .bool (St.find T name).isSome]) ∧ Below w.heap.size w w' := by
  have HM := Lib.hid hM
  have HT := Lib.hid hT
  have HL := Lib.hid hl
  clear hM hT hl
  go_enter Tryd.func14, Tryd.ntmps14
  go_wp2_with fail
  go_loopg [0] (T.length) (fun gg u0 wr => ∃ t : List (St.Bs × St.Bs), u0 = .string (tstr (St.rend t)) ∧ St.TOk t ∧ (St.rend t).length ≤ 20000 ∧ t.length ≤ gg ∧ St.find t name = St.find T name ∧ Below w.heap.size w wr)
  case atStart => exact ⟨T, rfl, HT.out, HL.out, Nat.le_refl _, rfl, Below.refl _ _⟩
  case round =>
    obtain ⟨t, rfl, ht, hlt, hgg, hf, hb⟩ := hrel
    have HB := Lib.hid hb
    have HM2 := HM.out.below hb
    clear hb
    cases t with
    | nil =>
      have hz := ttl []
      have hzb : (tstr (St.rend [])).toList.isEmpty = true := by rw [ttl]; rfl
      have HF := Lib.hid hf
      clear hf ht hlt
      go_wp2_with fail
      go_ret2
      rw [← HF.out]
      exact ⟨rfl, HB.out⟩
    | cons x t =>
      obtain ⟨k, v⟩ := x
      have hzb : (tstr (St.rend ((k, v) :: t))).toList.isEmpty = false := by
        rw [ttl]
        cases h : St.rend ((k, v) :: t) with
        | nil => exact absurd h St.rend_ne
        | cons a b => rfl
      have hc := scut (St.rend ((k, v) :: t)) [10] wr HM2 hlt
      rw [St.rend_cons ht] at hc
      have h58 := (ht (k, v) (by simp)).1
      have hc2 : ∀ w', MaxLen w' → Calls Tryd.prog 27 #[.string (tstr (k ++ 58 :: 32 :: v)), .string ⟨#[58, 32]⟩] w' _ := fun w' h => by
        have := scut (k ++ 58 :: 32 :: v) [58, 32] w' h (Nat.le_trans St.rend_len.2 hlt)
        rw [St.line_cut h58] at this
        exact this
      have HT2 := Lib.hid (show St.TOk t from fun y hy => ht y (by simp [hy]))
      have HL2 := Lib.hid (Nat.le_trans (St.rend_len (k := k) (v := v)).1 hlt)
      have HGG := Lib.hid hgg
      clear ht hlt h58 hgg
      by_cases hk : k = name
      · have hkb : ((tstr k).toList == (tstr name).toList) = true := by rw [hk]; exact beq_self_eq_true _
        have HF := Lib.hid (show some v = St.find T name by rw [← hf]; unfold St.find; rw [if_pos hk])
        clear hf hk
        go_wp2_with fail
        refine hc.mono ?_
        clear hc
        rintro e w2 ⟨rfl, hb2⟩
        have HB2 := Lib.hid hb2
        have hcc := hc2 w2 (HM2.below hb2)
        clear hb2 hc2
        go_wp2_with fail
        refine hcc.mono ?_
        clear hcc
        rintro e w3 ⟨rfl, hb3⟩
        have HB3 := Lib.hid hb3
        clear hb3
        go_wp2_with fail
        go_ret2
        rw [← HF.out]
        exact ⟨rfl, ybt HB.out (ybt HB2.out HB3.out)⟩
      · have hkb : ((tstr k).toList == (tstr name).toList) = false := by rw [ttl, ttl]; exact beq_eq_false_iff_ne.2 hk
        have HF := Lib.hid (show St.find t name = St.find T name by rw [← hf]; conv => rhs; unfold St.find; rw [if_neg hk])
        clear hf hk
        go_wp2_with fail
        refine hc.mono ?_
        clear hc
        rintro e w2 ⟨rfl, hb2⟩
        have HB2 := Lib.hid hb2
        have hcc := hc2 w2 (HM2.below hb2)
        clear hb2 hc2
        go_wp2_with fail
        refine hcc.mono ?_
        clear hcc
        rintro e w3 ⟨rfl, hb3⟩
        have HB3 := Lib.hid hb3
        clear hb3
        go_wp2_with fail
        go_roundg (t.length)
        case rel => exact ⟨t, rfl, HT2.out, HL2.out, Nat.le_refl _, HF.out, ybt HB.out (ybt HB2.out HB3.out)⟩
        case measure => have := HGG.out; simp only [List.length_cons] at this; omega
end Go.Proofs.YtoiednecchbmnaaDoor
