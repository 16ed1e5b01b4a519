/- The program's IsSpace returns what the plain text says. -/
import Derived.Test.YtoiednecchbmnaaGreatDoorK01
import Derived.Test.YtoiednecchbmnaaGreatDoorK00
import Derived.Deep.LoopGhost
import Derived.Lib.Strings
import Derived.Test.YtoiednecchbmnaaGreatDoorProg
import Derived.Shelf.Abstract
import Derived.Shelf.Small.Strs
import Derived.Shelf.Vars
import Derived.Shelf.Strings.Cut
import Derived.Below
namespace Go.Proofs.YtoiednecchbmnaaGreatDoor
open Go.RowKit

set_option maxHeartbeats 400000 in
theorem cspace_any (c : UInt8) (w : World) :
    Calls Tryz.prog 30 #[.int .u8 c.toNat] w fun e w' => e = .returned (.bool (Txt.sp c)) ∧ w = w' := by
  go_enter Tryz.func30, Tryz.ntmps30
  go_wp2
  all_goals go_ret
  all_goals refine ⟨retB ?_, rfl⟩
  all_goals unfold Txt.sp
  all_goals rw [Bool.eq_iff_iff]
  all_goals simp
  all_goals omega
theorem tisspace_any (c : UInt8) (w : World) :
    Calls Tryz.prog 30 #[.int .u8 c.toNat] w fun e w' => e = .returned (.bool (Txt.sp c)) ∧ Below w.heap.size w w' := by
  refine (cspace_any c w).mono ?_
  rintro e w2 ⟨rfl, rfl⟩
  exact ⟨rfl, Below.refl _ _⟩

end Go.Proofs.YtoiednecchbmnaaGreatDoor
/- What the texts of style lean on: strings as lists, a box of one string, the library's small functions. -/
namespace Go.Proofs.YtoiednecchbmnaaGreatDoor
open Go Go.RowKit
set_option linter.unusedVariables false
def St.skip (p l : List UInt8) : Bool := p.isPrefixOf l
/-- The scanner: what is left. -/
def ScS (w : World) (b : Nat) (l : List UInt8) : Prop := Whole w b #[.string (tstr l)] 53
theorem tdata (l : List UInt8) : (tstr l).data.toList = l := by unfold tstr; simp
theorem tsize (l : List UInt8) : (tstr l).size = l.length := by show (tstr l).data.size = _; rw [← Array.length_toList, tdata]
theorem tstr_inj {a b : List UInt8} (h : tstr a = tstr b) : a = b := by rw [← tdata a, h, tdata]
theorem tstr_eq {s : ByteArray} {l : List UInt8} (h : s.data.toList = l) : s = tstr l := by
  subst h
  apply ByteArray.ext
  show s.data = s.data.toList.toArray
  simp
theorem textr (l : List UInt8) (i j : Nat) : (tstr l).extract i j = tstr ((l.take j).drop i) := by
  apply tstr_eq
  rw [ByteArray.data_extract, Array.toList_extract, tdata]
  simp [List.extract_eq_take_drop, List.drop_take]
theorem textr_end (l : List UInt8) (i : Nat) : (tstr l).extract i (tstr l).size = tstr (l.drop i) := by rw [textr, tsize, List.take_length]
theorem textr_head (l : List UInt8) (j : Nat) : (tstr l).extract 0 j = tstr (l.take j) := by rw [textr, List.drop_zero]
theorem tget (l : List UInt8) (i : Nat) (h : i < (tstr l).size) : l.drop i = (tstr l)[i] :: l.drop (i + 1) := by
  have := List.drop_eq_getElem_cons (l := (tstr l).data.toList) (i := i) h
  rw [show l.drop i = (tstr l).data.toList.drop i by rw [tdata], show l.drop (i + 1) = (tstr l).data.toList.drop (i + 1) by rw [tdata]]
  exact this

theorem gbR (w : World) (b : Nat) : w.grownBy w (some b) := gb_of_below (Below.refl _ _) _
theorem ret2 {a b c d : Value} (h : a = b) (k : c = d) : Ending.returned (.tuple #[a, c]) = .returned (.tuple #[b, d]) := by rw [h, k]
/-- What happens to the reader's box and to a new block, is nothing to what lay before but the reader. -/
theorem gb_new {w W X : World} {b B : Nat} (h : w.grownBy W (some b)) (g : W.grownBy X (some B)) (hB : w.heap.size ≤ B) : w.grownBy X (some b) :=
  ⟨g.os.trans h.os, g.tape.trans h.tape, g.output.trans h.output, Nat.le_trans h.size g.size, fun k hk hn => (g.block k (Nat.lt_of_lt_of_le hk h.size) (fun e => by injection e; omega)).trans (h.block k hk hn)⟩
theorem str_beq (a b : List UInt8) : ((tstr a).toList == (tstr b).toList) = (a == b) := by rw [Lib.toList_data, Lib.toList_data, tdata, tdata]
theorem skip_eq {p s : List UInt8} (h : p.length ≤ s.length) : (s.take p.length == p) = St.skip p s := by
  unfold St.skip
  rw [Bool.eq_iff_iff, beq_iff_eq, List.isPrefixOf_iff_prefix, List.prefix_iff_eq_take]
  exact ⟨fun h => h.symm, fun h => h.symm⟩
set_option maxHeartbeats 400000 in
theorem zhas_any (s p : List UInt8) (w : World) :
    Calls Tryz.prog 103 #[.string (tstr s), .string (tstr p)] w fun e w' => e = .returned (.bool (St.skip p s)) ∧ w = w' := by
  have e1 := tsize s
  have e2 := tsize p
  by_cases hle : p.length ≤ s.length
  · have h1 : ((tstr p).size : Int) ≤ ((tstr s).size : Int) := by omega
    have h0 : (0 : Int) ≤ ((tstr p).size : Int) := by omega
    have HQ := Lib.hid (skip_eq hle)
    go_enter Tryz.func103, Tryz.ntmps103
    go_wp2_with fail
    go_ret
    rw [textr_head, str_beq]
    exact ⟨retB HQ.out, rfl⟩
  · have HS := Lib.hid (show St.skip p s = false by rw [Bool.eq_false_iff]; intro h; exact hle (List.isPrefixOf_iff_prefix.1 h).length_le)
    have h1 : ¬ ((tstr p).size : Int) ≤ ((tstr s).size : Int) := by omega
    go_enter Tryz.func103, Tryz.ntmps103
    go_wp2_with fail
    go_ret
    exact ⟨retB HS.out.symm, rfl⟩
set_option maxHeartbeats 400000 in
theorem zcutp_any (s p : List UInt8) (w : World) :
    Calls Tryz.prog 73 #[.string (tstr s), .string (tstr p)] w fun e w' => e = .returned (.tuple #[.string (tstr (St.cutP p s)), .bool (St.skip p s)]) ∧ w = w' := by
  have e1 := tsize s
  have e2 := tsize p
  have hh := zhas_any s p w
  cases hk : St.skip p s with
  | true =>
    rw [hk] at hh
    have hle : p.length ≤ s.length := (List.isPrefixOf_iff_prefix.1 hk).length_le
    have h1 : (p.length : Int) ≤ (s.length : Int) := by omega
    have h0 : (0 : Int) ≤ (p.length : Int) := by omega
    have HC := Lib.hid (show St.cutP p s = s.drop p.length by unfold St.cutP; rw [if_pos (show p.isPrefixOf s = true from hk)])
    clear hk
    go_enter Tryz.func73, Tryz.ntmps73
    go_wp2_with fail
    refine hh.mono ?_
    rintro e w' ⟨rfl, rfl⟩
    go_wp2_with fail
    go_ret2
    refine ⟨?_, rfl⟩
    rw [HC.out, ← textr_end, e1]
    rfl
  | false =>
    rw [hk] at hh
    have HC := Lib.hid (show St.cutP p s = s by unfold St.cutP; rw [if_neg (by unfold St.skip at hk; rw [hk]; decide)])
    clear hk
    go_enter Tryz.func73, Tryz.ntmps73
    go_wp2_with fail
    refine hh.mono ?_
    rintro e w' ⟨rfl, rfl⟩
    go_wp2_with fail
    go_ret2
    refine ⟨?_, rfl⟩
    rw [HC.out]
    rfl
set_option maxHeartbeats 400000 in
theorem zcutprefix_any (s p : List UInt8) (w : World) :
    Calls Tryz.prog 47 #[.string (tstr s), .string (tstr p)] w fun e w' => e = .returned (.tuple #[.string (tstr (St.cutP p s)), .bool (St.skip p s)]) ∧ w = w' := by
  have hh := zcutp_any s p w
  go_enter Tryz.func47, Tryz.ntmps47
  go_wp2_with fail
  refine hh.mono ?_
  rintro e w' ⟨rfl, rfl⟩
  go_wp2_with fail
  go_ret2
  exact ⟨rfl, rfl⟩
theorem cut_no {p l : List UInt8} (h : St.skip p l = false) : St.cutP p l = l := by unfold St.cutP; rw [if_neg (by unfold St.skip at h; rw [h]; decide)]
theorem ScS.put {w : World} {b : Nat} {l m : List UInt8} (h : ScS w b l) : ScS (w.setCell ⟨b, 0, none⟩ (.string (tstr m))) b m := Whole.put h 0 _
theorem ScS.gput (w : World) (b : Nat) (v : Value) : w.grownBy (w.setCell ⟨b, 0, none⟩ v) (some b) := gb_put (gb_of_below (Below.refl _ _) _) 0 _
/-- A question about a character. -/
def Asks (g : Nat) (p : UInt8 → Bool) : Prop := ∀ w, ∀ c : UInt8, Calls Tryz.prog g #[.int .u8 c.toNat] w fun e w' => e = .returned (.bool (p c)) ∧ w = w'
theorem run1_here {p : UInt8 → Bool} {l : List UInt8} {k : Nat} (hk : k ≤ (l.takeWhile p).length) (h : ∀ c r, l.drop k = c :: r → p c = false) : (l.takeWhile p).length = k := by
  induction l generalizing k with
  | nil => simp only [List.takeWhile_nil, List.length_nil] at hk ⊢; omega
  | cons a r ih =>
    by_cases ha : p a = true
    · rw [List.takeWhile_cons_of_pos ha] at hk ⊢
      cases k with
      | zero => have := h a r rfl; rw [ha] at this; cases this
      | succ k =>
        rw [List.length_cons] at hk ⊢
        rw [ih (by omega) (fun c t e => h c t e)]
    · rw [List.takeWhile_cons_of_neg ha] at hk ⊢
      simp only [List.length_nil] at hk ⊢
      omega
theorem run1_more {p : UInt8 → Bool} {l : List UInt8} {k : Nat} (hk : k ≤ (l.takeWhile p).length) {c : UInt8} {r : List UInt8} (h : l.drop k = c :: r) (hp : p c = true) : k + 1 ≤ (l.takeWhile p).length := by
  induction l generalizing k with
  | nil => simp at h
  | cons a t ih =>
    by_cases ha : p a = true
    · rw [List.takeWhile_cons_of_pos ha] at hk ⊢
      cases k with
      | zero => simp
      | succ k =>
        rw [List.length_cons] at hk ⊢
        have := ih (by omega) h
        omega
    · exfalso
      rw [List.takeWhile_cons_of_neg ha] at hk
      simp only [List.length_nil] at hk
      obtain rfl : k = 0 := by omega
      rw [List.drop_zero] at h
      obtain ⟨rfl, _⟩ := List.cons.inj h
      exact ha hp
theorem take_tw (p : UInt8 → Bool) (l : List UInt8) : l.take (l.takeWhile p).length = l.takeWhile p ∧ l.drop (l.takeWhile p).length = l.dropWhile p := by
  induction l with
  | nil => exact ⟨rfl, rfl⟩
  | cons c t ih =>
    rw [List.takeWhile_cons, List.dropWhile_cons]
    split
    · rw [List.length_cons, List.take_succ_cons, List.drop_succ_cons, ih.1, ih.2]; exact ⟨rfl, rfl⟩
    · exact ⟨rfl, rfl⟩
theorem take_end {p : UInt8 → Bool} {l : List UInt8} {k : Nat} (h : (l.takeWhile p).length = k) : (tstr l).extract 0 k = tstr (l.takeWhile p) ∧ (tstr l).extract k l.length = tstr (l.dropWhile p) := by
  have := take_tw p l
  rw [h] at this
  refine ⟨by rw [textr_head, this.1], ?_⟩
  have e := textr_end l k
  rw [tsize] at e
  rw [e, this.2]
end Go.Proofs.YtoiednecchbmnaaGreatDoor
/- The scanner's smallest methods. -/
namespace Go.Proofs.YtoiednecchbmnaaGreatDoor
open Go Go.RowKit
set_option linter.unusedVariables false
def St.nx (cs l : List UInt8) : Bool := match l with | [] => false | c :: _ => cs.contains c
theorem ttl (l : List UInt8) : (tstr l).toList = l := by rw [Lib.toList_data, tdata]
set_option maxHeartbeats 400000 in
theorem ydg_any (c : UInt8) (w : World) :
    Calls Tryz.prog 112 #[.int .u8 c.toNat] w fun e w' => e = .returned (.bool (St.dg c)) ∧ w = w' := by
  have hc := c.toNat_lt
  go_enter Tryz.func112, Tryz.ntmps112
  go_wp2_with fail
  all_goals go_ret
  all_goals refine ⟨retB ?_, rfl⟩
  all_goals unfold St.dg
  all_goals rw [Bool.eq_iff_iff]
  all_goals simp
  all_goals omega
set_option maxHeartbeats 400000 in
theorem yhx_any (c : UInt8) (w : World) :
    Calls Tryz.prog 84 #[.int .u8 c.toNat] w fun e w' => e = .returned (.bool (St.hx c)) ∧ w = w' := by
  have hc := c.toNat_lt
  have h1 := ydg_any c w
  cases e1 : St.dg c with
  | true =>
    rw [e1] at h1
    have HG := Lib.hid (show St.hx c = true by unfold St.hx; rw [e1]; rfl)
    clear e1
    go_enter Tryz.func84, Tryz.ntmps84
    go_wp2_with fail
    refine h1.mono ?_
    rintro e w' ⟨rfl, rfl⟩
    go_wp2_with fail
    go_ret
    exact ⟨retB HG.out.symm, rfl⟩
  | false =>
    rw [e1] at h1
    have HG := Lib.hid (show St.hx c = (decide (97 ≤ c.toNat) && decide (c.toNat ≤ 102)) by unfold St.hx; rw [e1]; rfl)
    clear e1
    go_enter Tryz.func84, Tryz.ntmps84
    go_wp2_with fail
    refine h1.mono ?_
    rintro e w' ⟨rfl, rfl⟩
    go_wp2_with fail
    all_goals go_ret
    all_goals refine ⟨retB ?_, rfl⟩
    all_goals rw [HG.out]
    all_goals rw [Bool.eq_iff_iff]
    all_goals simp
    all_goals omega
theorem asks_dg : Asks 112 St.dg := fun w c => ydg_any c w
theorem asks_hx : Asks 84 St.hx := fun w c => yhx_any c w
theorem ent_dg : ∀ args w, (callFunc 112 args).run Tryz.prog w = .ok (.enter 112 args) w := enters_of Tryz.func112 (by kernel_rfl) rfl
theorem ent_hx : ∀ args w, (callFunc 84 args).run Tryz.prog w = .ok (.enter 84 args) w := enters_of Tryz.func84 (by kernel_rfl) rfl
set_option maxHeartbeats 400000 in
theorem yskip_any (b : Nat) (l p : List UInt8) (w : World) (h : ScS w b l) :
    Calls Tryz.prog 24 #[.pointer (some ⟨b, 0, none⟩), .string (tstr p)] w fun e w' => e = .returned (.bool (St.skip p l)) ∧ ScS w' b (St.cutP p l) ∧ w.grownBy w' (some b) := by
  have hh := zcutprefix_any l p w
  have h0 : w.cell? ⟨b, 0, none⟩ = some (.string (tstr l)) := Whole.cell h 0
  have hf : w.frozen? ⟨b, 0, none⟩ = false := Whole.free h 0
  have HH := Lib.hid h
  clear h
  go_enter Tryz.func24, Tryz.ntmps24
  go_wp2_with fail
  refine hh.mono ?_
  rintro e w' ⟨rfl, rfl⟩
  go_wp2_with fail
  go_ret
  exact ⟨rfl, HH.out.put, ScS.gput _ _ _⟩
set_option maxHeartbeats 400000 in
theorem ytake_any (b k : Nat) (l : List UInt8) (w : World) (hk : k ≤ l.length) (hl : l.length ≤ 20000) (h : ScS w b l) :
    Calls Tryz.prog 42 #[.pointer (some ⟨b, 0, none⟩), .int .i64 (k : Int)] w fun e w' => e = .returned (.string (tstr (l.take k))) ∧ ScS w' b (l.drop k) ∧ w.grownBy w' (some b) := by
  have e1 := tsize l
  have hk0 : (0 : Int) ≤ (k : Int) := by omega
  have hk1 : (k : Int) ≤ (l.length : Int) := by omega
  have h0 : w.cell? ⟨b, 0, none⟩ = some (.string (tstr l)) := Whole.cell h 0
  have hf : w.frozen? ⟨b, 0, none⟩ = false := Whole.free h 0
  have HH := Lib.hid h
  have X1 := textr_head l k
  have X2 : (tstr l).extract k l.length = tstr (l.drop k) := by have := textr_end l k; rw [tsize] at this; exact this
  clear h
  go_enter Tryz.func42, Tryz.ntmps42
  go_wp2_with fail
  go_ret
  try rw [X1]
  try rw [X2]
  exact ⟨rfl, HH.out.put, ScS.gput _ _ _⟩
set_option maxHeartbeats 1000000 in
set_option maxRecDepth 20000 in
theorem yrun_any (g : Nat) (p : UInt8 → Bool) (eg : ∀ args w, (callFunc g args).run Tryz.prog w = .ok (.enter g args) w) (hp : Asks g p) (b : Nat) (l : List UInt8) (w : World) (hl : l.length ≤ 20000) (h : ScS w b l) :
    Calls Tryz.prog 83 #[.pointer (some ⟨b, 0, none⟩), .func (.func g) #[] #[]] w fun e w' => e = .returned (.string (tstr (l.takeWhile p))) ∧ ScS w' b (l.dropWhile p) ∧ w.grownBy w' (some b) := by
  have e1 := tsize l
  have h0 : w.cell? ⟨b, 0, none⟩ = some (.string (tstr l)) := Whole.cell h 0
  have hf : w.frozen? ⟨b, 0, none⟩ = false := Whole.free h 0
  have HH := Lib.hid h
  have HP := Lib.hid hp
  clear h hp
  go_enter Tryz.func83, Tryz.ntmps83
  go_wp2_with fail
  go_loopg [5] (l.length) (fun gg u wr => ∃ k : Nat, u = .int .i64 (k : Int) ∧ k ≤ (l.takeWhile p).length ∧ k ≤ l.length ∧ l.length - k ≤ gg ∧ wr = w)
  case atStart => exact ⟨0, rfl, Nat.zero_le _, Nat.zero_le _, Nat.le_refl _, rfl⟩
  case round =>
    obtain ⟨k, rfl, hkt, hkl, hgg, rfl⟩ := hrel
    by_cases hlt : k < l.length
    · have hlt' : (k : Int) < (l.length : Int) := by omega
      have hd := tget l k (by omega)
      have hcall := HP.out wr (tstr l)[k]
      have hc256 := (tstr l)[k].toNat_lt
      cases hq : p (tstr l)[k] with
      | true =>
        rw [hq] at hcall
        have HM := Lib.hid (run1_more hkt hd hq)
        clear hd hq hkt
        go_wp2_with fail
        refine hcall.mono ?_
        clear hcall
        rintro e w' ⟨rfl, rfl⟩
        go_wp2_with fail
        go_roundg (l.length - (k + 1))
        case rel => exact ⟨k + 1, by go_num, HM.out, by omega, by omega, rfl⟩
        case measure => omega
      | false =>
        rw [hq] at hcall
        have HD := Lib.hid (run1_here hkt fun c r e => by rw [hd] at e; obtain ⟨rfl, _⟩ := List.cons.inj e; exact hq)
        clear hd hq hkt
        go_wp2_with fail
        refine hcall.mono ?_
        clear hcall
        rintro e w' ⟨rfl, rfl⟩
        go_wp2_with fail
        have ht := ytake_any b k l _ (by omega) hl HH.out
        refine ht.mono ?_
        rintro e w2 ⟨rfl, hR, hg⟩
        have HR := Lib.hid (And.intro hR hg)
        clear hR hg ht
        go_wp2_with fail
        go_ret
        have E := take_tw p l
        rw [HD.out] at E
        rw [← E.1, ← E.2]
        exact ⟨rfl, HR.out.1, HR.out.2⟩
    · have hlt' : ¬ (k : Int) < (l.length : Int) := by omega
      have HD := Lib.hid (run1_here hkt fun c r e => by rw [List.drop_of_length_le (by omega)] at e; cases e)
      clear hkt
      go_wp2_with fail
      have ht := ytake_any b k l _ (by omega) hl HH.out
      refine ht.mono ?_
      rintro e w2 ⟨rfl, hR, hg⟩
      have HR := Lib.hid (And.intro hR hg)
      clear hR hg ht
      go_wp2_with fail
      go_ret
      have E := take_tw p l
      rw [HD.out] at E
      rw [← E.1, ← E.2]
      exact ⟨rfl, HR.out.1, HR.out.2⟩
end Go.Proofs.YtoiednecchbmnaaGreatDoor
/- What the library says of IndexByte and Cut, over this program. -/
namespace Go.Proofs
open Go.Shelf
def Tryz.lays137_ren : Go.Shelf.Ren := ⟨fun | 137 => 46 | 217 => 72 | 266 => 102 | n => n, fun | 3 => 3 | 5 => 5 | 9 => 9 | n => n, fun | n => n⟩
theorem Tryz.lays137 : Go.Proofs.Lays.n137 Tryz.prog Tryz.lays137_ren := {
  mixed := by kernel_rfl
  f137 := Tryz.func46.trans (congrArg some (by kernel_rfl))
  f217 := Tryz.func72.trans (congrArg some (by kernel_rfl))
  f266 := Tryz.func102.trans (congrArg some (by kernel_rfl))
  t3 := Tryz.underlying3
  a3 := Tryz.isAgg3
  z3 := Tryz.sizeOf3
  v3 := Tryz.zeroValue3
  t5 := Tryz.underlying5
  a5 := Tryz.isAgg5
  z5 := Tryz.sizeOf5
  v5 := Tryz.zeroValue5
  t9 := Tryz.underlying9
  a9 := Tryz.isAgg9
  z9 := Tryz.sizeOf9
  v9 := Tryz.zeroValue9 }
def Tryz.lays145_ren : Go.Shelf.Ren := ⟨fun | 145 => 29 | 217 => 72 | 219 => 82 | 220 => 52 | 224 => 110 | 225 => 109 | 266 => 102 | 267 => 111 | 314 => 126 | n => n, fun | 3 => 3 | 4 => 4 | 5 => 5 | 9 => 9 | 46 => 118 | 51 => 121 | 59 => 56 | 146 => 147 | n => n, fun | 1 => 2 | n => n⟩
theorem Tryz.lays145 : Go.Proofs.Lays.n145 Tryz.prog Tryz.lays145_ren := {
  mixed := by kernel_rfl
  f145 := Tryz.func29.trans (congrArg some (by kernel_rfl))
  f217 := Tryz.func72.trans (congrArg some (by kernel_rfl))
  f219 := Tryz.func82.trans (congrArg some (by kernel_rfl))
  f220 := Tryz.func52.trans (congrArg some (by kernel_rfl))
  f224 := Tryz.func110.trans (congrArg some (by kernel_rfl))
  f225 := Tryz.func109.trans (congrArg some (by kernel_rfl))
  f266 := Tryz.func102.trans (congrArg some (by kernel_rfl))
  f267 := Tryz.func111.trans (congrArg some (by kernel_rfl))
  f314 := Tryz.func126.trans (congrArg some (by kernel_rfl))
  t3 := Tryz.underlying3
  a3 := Tryz.isAgg3
  z3 := Tryz.sizeOf3
  v3 := Tryz.zeroValue3
  t4 := Tryz.underlying4
  a4 := Tryz.isAgg4
  z4 := Tryz.sizeOf4
  v4 := Tryz.zeroValue4
  t5 := Tryz.underlying5
  a5 := Tryz.isAgg5
  z5 := Tryz.sizeOf5
  v5 := Tryz.zeroValue5
  t9 := Tryz.underlying9
  a9 := Tryz.isAgg9
  z9 := Tryz.sizeOf9
  v9 := Tryz.zeroValue9
  t46 := Tryz.underlying118
  a46 := Tryz.isAgg118
  z46 := Tryz.sizeOf118
  v46 := Tryz.zeroValue118
  t51 := Tryz.underlying121
  a51 := Tryz.isAgg121
  z51 := Tryz.sizeOf121
  v51 := Tryz.zeroValue121
  t59 := Tryz.underlying56
  a59 := Tryz.isAgg56
  z59 := Tryz.sizeOf56
  v59 := Tryz.zeroValue56
  t146 := Tryz.underlying147
  a146 := Tryz.isAgg147
  z146 := Tryz.sizeOf147
  v146 := Tryz.zeroValue147
  g1 := by kernel_rfl }
open Go.RowKit in
theorem Tryz.indexByte (s : ByteArray) (c : Int) (w : World) :
    Calls Tryz.prog 46 #[.string s, .int .u8 c] w fun e w' => e = .returned (.int .i64 (Lib.indexByte s.data.toList c.toNat.toUInt8)) ∧ w' = w := Any.strings_IndexByte Tryz.lays137 s c w
theorem Tryz.maxLen (w : World) (h : w.ShapedOpen Tryz.prog) : ∃ m, w.cell? ⟨2, 0, none⟩ = some (.int .i64 m) :=
  Go.Proofs.cell_of_shapedOpen_int (zero := #[.int .i64 0]) (t := 3) h (of_decide_eq_true (by kernel_rfl)) (by kernel_rfl) rfl (by kernel_rfl) (by kernel_rfl) Tryz.underlying3
namespace YtoiednecchbmnaaGreatDoor
open Go.RowKit
def MaxLen (w : World) : Prop := ∃ m, w.cell? ⟨2, 0, none⟩ = some (.int .i64 m)
theorem MaxLen.below {w w' : World} (h : MaxLen w) (hb : Below w.heap.size w w') : MaxLen w' := by
  obtain ⟨m, hm⟩ := h
  exact ⟨m, (hb.cell (World.block_lt_of_cell? w _ hm)).trans hm⟩
theorem MaxLen.gb {w w' : World} {b : Nat} {s : ByteArray} (h : MaxLen w) (hs : w.cell? ⟨b, 0, none⟩ = some (.string s)) (hg : w.grownBy w' (some b)) : MaxLen w' := by
  obtain ⟨m, hm⟩ := h
  have hlt := World.block_lt_of_cell? w _ hm
  refine ⟨m, (World.cell?_of_block (hg.block _ hlt (fun e => ?_))).trans hm⟩
  have e2 : 2 = b := Option.some.inj e
  subst e2
  rw [hm] at hs
  cases hs
theorem scut (l sep : List UInt8) (w : World) (hM : MaxLen w) (hl : l.length ≤ 20000) :
    Calls Tryz.prog 29 #[.string (tstr l), .string (tstr sep)] w fun e w' => e = .returned (.tuple #[.string (tstr (Lib.cut l sep).1), .string (tstr (Lib.cut l sep).2.1), .bool (Lib.cut l sep).2.2]) ∧ Below w.heap.size w w' := by
  obtain ⟨m, hm⟩ := hM
  have hs : (tstr l).size = l.length := by show (tstr l).data.size = _; unfold tstr; simp
  have ht : ∀ x : List UInt8, (tstr x).data.toList = x := fun x => by unfold tstr; simp
  have := Any.strings_Cut Tryz.lays145 (tstr l) (tstr sep) m w (by omega) hm
  rw [ht, ht] at this
  refine this.mono ?_
  rintro e w' ⟨rfl, n, rfl⟩
  exact ⟨rfl, ⟨rfl, rfl, rfl, Nat.le_refl _, fun _ _ => rfl⟩⟩
end YtoiednecchbmnaaGreatDoor
end Go.Proofs
/- What is next. -/
namespace Go.Proofs.YtoiednecchbmnaaGreatDoor
open Go Go.RowKit
set_option linter.unusedVariables false
theorem idx_nx (c : UInt8) : ∀ cs : List UInt8, decide (0 ≤ Lib.indexByte cs c) = cs.contains c := by
  intro cs
  induction cs with
  | nil => rfl
  | cons d t ih =>
    have hge := Lib.indexByte_ge t c
    unfold Lib.indexByte
    rw [List.contains_cons, ← ih]
    by_cases e : d = c
    · subst e; simp
    · have e2 : ¬ c = d := fun h => e h.symm
      rw [if_neg (by simpa using e), Bool.eq_iff_iff]
      simp only [beq_iff_eq, Bool.or_eq_true, decide_eq_true_eq, e2, false_or]
      split <;> omega
set_option maxHeartbeats 400000 in
theorem ynext_any (b : Nat) (cs l : List UInt8) (w : World) (h : ScS w b l) :
    Calls Tryz.prog 40 #[.pointer (some ⟨b, 0, none⟩), .string (tstr cs)] w fun e w' => e = .returned (.bool (St.nx cs l)) ∧ w = w' := by
  have h0 : w.cell? ⟨b, 0, none⟩ = some (.string (tstr l)) := Whole.cell h 0
  cases l with
  | nil =>
    have hz := ttl []
    clear h
    go_enter Tryz.func40, Tryz.ntmps40
    go_wp2_with fail
    go_ret
    exact ⟨rfl, rfl⟩
  | cons c t =>
    have hz : ¬ (tstr (c :: t)).toList = [] := by rw [ttl]; simp
    have hp : (0 : Int) < ((tstr (c :: t)).size : Int) := by rw [tsize, List.length_cons]; omega
    have hp2 : 0 < (tstr (c :: t)).size := by rw [tsize, List.length_cons]; omega
    have hc0 : (tstr (c :: t))[0] = c := rfl
    have hi := Tryz.indexByte (tstr cs) c.toNat w
    have HN := Lib.hid (show (!(tstr (c :: t)).toList.isEmpty && decide (0 ≤ Lib.indexByte cs c)) = St.nx cs (c :: t) by rw [ttl, idx_nx]; rfl)
    rw [tdata, show ((c.toNat : Int).toNat.toUInt8) = c from by simp] at hi
    clear h
    go_enter Tryz.func40, Tryz.ntmps40
    go_wp2_with fail
    refine hi.mono ?_
    rintro e w' ⟨rfl, rfl⟩
    go_wp2_with fail
    go_ret
    exact ⟨retB HN.out, rfl⟩
end Go.Proofs.YtoiednecchbmnaaGreatDoor
