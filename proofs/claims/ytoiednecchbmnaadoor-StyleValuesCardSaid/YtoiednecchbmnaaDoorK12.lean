/- A builder in memory; a text without comments, strings and parts stays as it is, and is read to its end. -/
import Derived.Test.YtoiednecchbmnaaDoorK11
import Derived.Test.YtoiednecchbmnaaDoorK02
import Derived.Test.YtoiednecchbmnaaDoorK10
import Derived.WalkKit
import Derived.Laws.OwnMore
import Derived.Laws.IdiomStrings
import Derived.Test.YtoiednecchbmnaaDoorProg
import Derived.Shelf.Unicode.DecodeSlow
import Derived.Below
namespace Go.Proofs.YtoiednecchbmnaaDoor
open Go Go.RowKit
set_option linter.unusedVariables false
/-- The builder in block B holds out; nothing below B is its. -/
def BW (w : World) (B : Nat) (out : List UInt8) : Prop := Lib.IsBuilderF 71 5 B B (Lib.byteCells out) w ∧ B < w.heap.size
theorem bcells_app (a b : List UInt8) : Lib.byteCells a ++ Lib.strCells (tstr b) = Lib.byteCells (a ++ b) := by
  rw [bcells_str, tdata]
  simp [bcells, Lib.byteCells]
theorem bcells_len (a : List UInt8) : (Lib.byteCells a).length = a.length := by simp [Lib.byteCells]
theorem BW.below {w w' : World} {B : Nat} {out : List UInt8} (h : BW w B out) (hb : Below w.heap.size w w') : BW w' B out := by
  refine ⟨?_, Nat.lt_of_lt_of_le h.2 hb.size⟩
  have hone : ∀ p, Lib.BuilderAtF 71 5 B B p (Lib.byteCells out) w → Lib.BuilderAtF 71 5 B B p (Lib.byteCells out) w' := by
    rintro p ⟨hB, v, hc, hown, hne⟩
    refine ⟨hB, v, (hb.block B h.2).trans hc, ⟨hown.1, ?_⟩, hne⟩
    rcases hown.2 with hn | ⟨g, cap, cur, fz, rfl, hg, hgg, rest⟩
    · exact .inl hn
    · exact .inr ⟨g, cap, cur, fz, rfl, hg, (hb.block g (Array.getElem?_eq_some_iff.1 hgg).1).trans hgg, rest⟩
  exact h.1.elim (fun h => .inl (hone _ h)) (fun h => .inr (hone _ h))
/-- What a function that writes does. -/
def WOut (B : Nat) (w : World) (out txt : List UInt8) (e : Ending) (w' : World) : Prop := (∃ u, e = .returned u) ∧ BW w' B (out ++ txt) ∧ Below B w w'
theorem zws_any (B : Nat) (out s : List UInt8) (w : World) (h : BW w B out) (hl : out.length + s.length ≤ 100000000) :
    Calls Tryd.prog 52 #[.pointer (some ⟨B, 0, none⟩), .string (tstr s)] w (WOut B w out s) := by
  refine (Tryd.writeString B B (Lib.byteCells out) (tstr s) w h.1 (by rw [bcells_len, tsize]; omega) (Nat.le_of_lt h.2)).mono ?_
  rintro e w' ⟨rfl, h1, h2, h3⟩
  rw [bcells_app] at h1
  exact ⟨⟨_, rfl⟩, ⟨.inr h1, Nat.lt_of_lt_of_le h.2 h2.size⟩, h2⟩
theorem BW.grown {w w' : World} {B b : Nat} {l : List UInt8} {out : List UInt8} (h : BW w B out) (hs : ScS w b l) (hg : w.grownBy w' (some b)) (hb : b < B) : BW w' B out := by
  refine ⟨?_, Nat.lt_of_lt_of_le h.2 hg.size⟩
  have hone : ∀ p, Lib.BuilderAtF 71 5 B B p (Lib.byteCells out) w → Lib.BuilderAtF 71 5 B B p (Lib.byteCells out) w' := by
    rintro p ⟨hB, v, hc, hown, hne⟩
    refine ⟨hB, v, (hg.block B h.2 (fun e => by injection e; omega)).trans hc, ⟨hown.1, ?_⟩, hne⟩
    rcases hown.2 with hn | ⟨g, cap, cur, fz, rfl, hg1, hgg, rest⟩
    · exact .inl hn
    · exact .inr ⟨g, cap, cur, fz, rfl, hg1, (hg.block g (Array.getElem?_eq_some_iff.1 hgg).1 (fun e => by injection e; omega)).trans hgg, rest⟩
  exact h.1.elim (fun h => .inl (hone _ h)) (fun h => .inr (hone _ h))
theorem gb_low {w wp wn : World} {r : Option Nat} (h : w.grownBy wp r) (k : Below w.heap.size wp wn) : w.grownBy wn r := ⟨k.os.trans h.os, k.tape.trans h.tape, k.output.trans h.output, Nat.le_trans h.size k.size, fun i hi hn => (k.block i hi).trans (h.block i hi hn)⟩
end Go.Proofs.YtoiednecchbmnaaDoor
/- A flat text has no comments. -/
namespace Go.Proofs.YtoiednecchbmnaaDoor
open Go Go.RowKit
set_option linter.unusedVariables false
set_option maxHeartbeats 8000000 in
theorem yplain_flat (b : Nat) (l : List UInt8) (w : World) (hl : l.length ≤ 20000) (hF : Flat l) (h : ScS w b l) :
    Calls Tryd.prog 34 #[.pointer (some ⟨b, 0, none⟩)] w fun e w' => e = .returned (.string (tstr l)) ∧ w.grownBy w' (some b) := by
  have hbw : BW (w.alloc (.cells #[.pointer none, .slice none 0 0] 71)) w.heap.size [] := ⟨Lib.IsBuilderF.of (Lib.fresh_isBuilder 71 5 w), by rw [World.size_alloc]; omega⟩
  have hg0 : w.grownBy (w.alloc (.cells #[.pointer none, .slice none 0 0] 71)) (some b) := World.grownBy_alloc _ _ _
  have hs0 : ScS (w.alloc (.cells #[.pointer none, .slice none 0 0] 71)) b l := Whole.alloc h _
  have hbl : b < w.heap.size := Whole.lt h
  obtain ⟨W1, hW1⟩ : ∃ W1, w.alloc (.cells #[.pointer none, .slice none 0 0] 71) = W1 := ⟨_, rfl⟩
  rw [hW1] at hbw hg0 hs0
  have HBW := Lib.hid hbw
  have HG := Lib.hid hg0
  have HS := Lib.hid hs0
  have HFl := Lib.hid hF
  clear h hF hbw hg0 hs0
  go_enter Tryd.func34, Tryd.ntmps34
  go_wp2_with fail
  try rw [hW1]
  go_loopg [] (l.length) (fun gg wr => ∃ k : Nat, k ≤ l.length ∧ l.length - k ≤ gg ∧ ScS wr b (l.drop k) ∧ BW wr w.heap.size (l.take k) ∧ w.grownBy wr (some b))
  case atStart => exact ⟨0, Nat.zero_le _, Nat.le_refl _, HS.out, HBW.out, HG.out⟩
  case round =>
    obtain ⟨k, hkl, hgg, hs, hbw, hg⟩ := hrel
    have hc0 : wr.cell? ⟨b, 0, none⟩ = some (.string (tstr (l.drop k))) := Whole.cell hs 0
    have HS2 := Lib.hid hs
    have HB2 := Lib.hid hbw
    have HG2 := Lib.hid hg
    clear hs hbw hg hW1
    by_cases hlt : k < l.length
    · have hd : l.drop k = l[k] :: l.drop (k + 1) := List.drop_eq_getElem_cons hlt
      have hf := HFl.out (l[k]) (List.getElem_mem hlt)
      have HT := Lib.hid (show l.take (k + 1) = l.take k ++ [l[k]] from List.take_succ_eq_append_getElem hlt)
      obtain ⟨c, hc⟩ : ∃ c, l[k] = c := ⟨_, rfl⟩
      obtain ⟨r, hr⟩ : ∃ r, l.drop (k + 1) = r := ⟨_, rfl⟩
      rw [hc, hr] at hd
      rw [hc] at hf HT
      rw [hd] at hc0 HS2
      have hrl : (c :: r).length ≤ 20000 := by rw [← hd, List.length_drop]; omega
      have hz : (tstr (c :: r)).toList.isEmpty = false := by rw [ttl]; rfl
      have n47 := flat_ne hf 47 (by decide)
      have hk1 : St.skip [47, 42] (c :: r) = false := by
        unfold St.skip
        have : ¬ (47 : UInt8) = c := fun e => n47 (by rw [← e])
        simp [List.isPrefixOf, this]
      have hk2 : St.nx [34, 39] (c :: r) = false := by
        have h1 := flat_ne hf 34 (by decide)
        have h2 := flat_ne hf 39 (by decide)
        unfold St.nx
        simp only [List.contains_cons, List.contains_nil, Bool.or_false, Bool.or_eq_false_iff, beq_eq_false_iff_ne]
        exact ⟨fun e => h1 (by rw [e]), fun e => h2 (by rw [e])⟩
      have ha := yskip_any b (c :: r) [47, 42] wr HS2.out
      rw [hk1, cut_no hk1] at ha
      have hb : ∀ w, ScS w b (c :: r) → Calls Tryd.prog 51 #[.pointer (some ⟨b, 0, none⟩), .string ⟨#[34, 39]⟩] w fun e w' => e = .returned (.bool false) ∧ w = w' := fun w h => by have := ynext_any b [34, 39] (c :: r) w h; rw [hk2] at this; exact this
      have hct : ∀ w, ScS w b (c :: r) → Calls Tryd.prog 53 #[.pointer (some ⟨b, 0, none⟩), .int .i64 1] w fun e w' => e = .returned (.string (tstr [c])) ∧ ScS w' b r ∧ w.grownBy w' (some b) := fun w h => ytake_any b 1 (c :: r) w (by simp) hrl h
      have HR := Lib.hid hr
      clear hf n47 hk1 hk2 hd hc hr
      go_wp2_with fail
      refine ha.mono ?_
      clear ha
      rintro e w2 ⟨rfl, hS3, hg3⟩
      have HS3 := Lib.hid hS3
      have HB3 := Lib.hid (HB2.out.grown HS2.out hg3 hbl)
      have HG3 := Lib.hid (gb_trans HG2.out hg3)
      have hbb := hb w2 hS3
      clear hS3 hg3 hb hc0
      go_wp2_with fail
      refine hbb.mono ?_
      clear hbb
      rintro e w3 ⟨rfl, rfl⟩
      have hcc := hct w2 HS3.out
      clear hct
      go_wp2_with fail
      refine hcc.mono ?_
      clear hcc
      rintro e w4 ⟨rfl, hS4, hg4⟩
      have hws := zws_any w.heap.size (l.take k) [c] w4 (HB3.out.grown HS3.out hg4 hbl) (by rw [List.length_take]; simp only [List.length_singleton]; omega)
      have HS4 := Lib.hid hS4
      have HG4 := Lib.hid (gb_trans HG3.out hg4)
      clear hS4 hg4
      go_wp2_with fail
      refine hws.mono ?_
      clear hws
      rintro e w5 ⟨⟨u, rfl⟩, hB5, hb5⟩
      have HB5 := Lib.hid hB5
      have HG5 := Lib.hid (gb_low HG4.out hb5)
      have HS5 := Lib.hid (Whole.below HS4.out hb5 hbl)
      clear hB5 hb5
      go_wp2_with fail
      go_roundg (l.length - (k + 1))
      case rel => exact ⟨k + 1, by omega, by omega, by rw [HR.out]; exact HS5.out, by rw [HT.out]; exact HB5.out, HG5.out⟩
      case measure => omega
    · obtain rfl : k = l.length := by omega
      rw [List.drop_length] at hc0
      have hz : (tstr []).toList.isEmpty = true := by rw [ttl]; rfl
      have hs := Tryd.builderString w.heap.size w.heap.size (l.take l.length) wr HB2.out.1 (Nat.le_of_lt HB2.out.2)
      rw [List.take_length] at hs
      go_wp2_with fail
      refine hs.mono ?_
      clear hs
      rintro e w2 ⟨rfl, h1, h2, h3⟩
      have HG3 := Lib.hid (gb_low HG2.out h2)
      clear h1 h2 h3
      go_wp2_with fail
      go_ret
      exact ⟨rfl, HG3.out⟩
end Go.Proofs.YtoiednecchbmnaaDoor
/- Appending a row that a slice names, whatever the slice, nil too. No program is imported. -/
namespace Go.Proofs.YtoiednecchbmnaaDoor
open Go Go.RowKit

variable {P : Program} {w : World}
/-- A row lies where it lay, or where nothing lay. -/
def Fresh (w : World) (v v' : Value) : Prop := v'.ownBlock = v.ownBlock ∨ ∀ k, v'.ownBlock = some k → w.heap.size ≤ k
/-- A row is the old one, or is new. -/
def NewOr (w : World) (v v' : Value) : Prop := ∀ k, v'.ownBlock = some k → v.ownBlock = some k ∨ w.heap.size ≤ k
theorem NewOr.same (w : World) (v : Value) : NewOr w v v := fun _ h => .inl h
theorem NewOr.nil (w : World) (v : Value) : NewOr w v (.slice none 0 0) := fun k h => by simp [Value.ownBlock] at h
theorem NewOr.of_own {w w' : World} {base size n : Nat} {e : TypeId} {v v' : Value} {xs : List Value} (h : w'.ownsRow base e size v' n xs) (hb : w.heap.size ≤ base) : NewOr w v v' := fun k hk => .inr (Nat.le_trans hb (h.lt k hk).1)
theorem append_fresh (base : Nat) (t ty e : TypeId) (i : TypeInfo) (z : Value) (size bytes : Nat) (ht : P.underlying t = some (.slice e)) (hi : P.info? e = some i) (hz : i.zero = some z)
    (hsize : i.size = size) (hby : i.bytes = bytes) (hzs : z.cells.size = size) (hsz : 0 < size)
    (v : Value) (n : Nat) (xs : List Value) (hown : w.ownsRow base e size v n xs)
    (a : Addr) (m c : Nat) (news : List Value) (hl : news.length = m * size) (hnews : ∀ j u, news[j]? = some u → w.cell? (a.add j) = some u) (h1 : ∀ u ∈ news, u.oneCell' = true)
    (h63 : n + m ≤ maxLen) (hbytes : (n + m) * bytes ≤ 140737488355328) {v' : Value} {w' : World}
    (hrun : (Builtin.append_ #[t, t] ty #[v, .slice (some a) m c]).run P w = .ok v' w') : Fresh w v v' := by
  have hsmall : n + m ≤ 9223372036854775807 := by simp only [maxLen] at h63; omega
  rcases hown.2 with ⟨rfl, rfl⟩ | ⟨g, cap, cur, rfl, hbg, hg, hnc, hcm, hcs, htake⟩
  · have hx : xs = [] := List.eq_nil_of_length_eq_zero (by simpa using hown.1)
    subst hx
    obtain ⟨v2, w2, hr, h2, _, _⟩ := run_append_own (P := P) w w.heap.size t ty e i z size bytes ht hi hz hsize hby hzs hsz _ _ _ (World.ownsRow_nil w w.heap.size e size) a m c news hl hnews h1 h63 hbytes (Nat.le_refl _)
    rw [hrun] at hr
    injection hr with hv _
    subst hv
    exact .inr fun k hk => (h2.lt k hk).1
  · subst hsize
    subst hby
    by_cases hroom : n + m ≤ cap
    · have hfit : n * i.size + news.length ≤ cur.size := by rw [hl, hcs, ← Nat.add_mul]; exact Nat.mul_le_mul_right _ hroom
      have hr := run_append_room (P := P) w t ty e i ht hi g n cap cur hg a m c news hl hnews h1 hroom hfit
      rw [hrun] at hr
      injection hr with hv _
      subst hv
      exact .inl (by simp [Value.ownBlock])
    · have holds : ∀ j u, xs[j]? = some u → w.cell? ((⟨g, 0, none⟩ : Addr).add j) = some u := hown.cells (g := g) rfl
      have hr := run_append_grow (P := P) w t ty e i z ht hi hz ⟨g, 0, none⟩ n cap xs hown.1 holds a m c news hl hnews (by omega) (by omega) (growslice_fits (by omega) hbytes)
      rw [hrun] at hr
      injection hr with hv _
      subst hv
      exact .inr fun k hk => by simp [Value.ownBlock] at hk; omega
theorem run_append_src (base base2 : Nat) (t ty e : TypeId) (i : TypeInfo) (z : Value) (size bytes : Nat) (ht : P.underlying t = some (.slice e)) (hi : P.info? e = some i) (hz : i.zero = some z)
    (hsize : i.size = size) (hby : i.bytes = bytes) (hzs : z.cells.size = size) (hsz : 0 < size)
    (v : Value) (n : Nat) (xs : List Value) (hown : w.ownsRow base e size v n xs) (v2 : Value) (m : Nat) (ys : List Value) (hsrc : w.ownsRow base2 e size v2 m ys) (h1 : ∀ u ∈ ys, u.oneCell' = true)
    (h63 : n + m ≤ maxLen) (hbytes : (n + m) * bytes ≤ 140737488355328) (hbase : base ≤ w.heap.size) :
    ∃ v' w', (Builtin.append_ #[t, t] ty #[v, v2]).run P w = .ok v' w' ∧ w'.ownsRow base e size v' (n + m) (xs ++ ys) ∧ w.grownBy w' v.ownBlock ∧ Fresh w v v' := by
  have hs := hsrc
  rcases hsrc.2 with ⟨rfl, rfl⟩ | ⟨g, cap, cur, rfl, _⟩
  · have hy : ys = [] := by
      have := hsrc.1
      rw [Nat.zero_mul] at this
      exact List.eq_nil_of_length_eq_zero this
    subst hy
    refine ⟨v, w, run_append_owned_none w base t ty e i size ht hi v n xs hown, by rw [List.append_nil, Nat.add_zero]; exact hown, ⟨rfl, rfl, rfl, Nat.le_refl _, fun _ _ _ => rfl⟩, .inl rfl⟩
  · obtain ⟨v', w', hr, h2, h3, _⟩ := run_append_own (P := P) w base t ty e i z size bytes ht hi hz hsize hby hzs hsz v n xs hown ⟨g, 0, none⟩ m cap ys hs.1 (hs.cells rfl) h1 h63 hbytes hbase
    exact ⟨v', w', hr, h2, h3, append_fresh base t ty e i z size bytes ht hi hz hsize hby hzs hsz v n xs hown ⟨g, 0, none⟩ m cap ys hs.1 (hs.cells rfl) h1 h63 hbytes hr⟩

theorem wpList_append_src {ops : Array Oper} {rest : List Oper} {o : Oper} {a : Act} {Q : Exit → Act → World → Prop} (hgd : o.guard = none) (s x : Operand) (t : TypeId)
    (ho : o.op = .call { callee := .builtin .append, args := #[s, x], argTypes := #[t, t] })
    (base base2 : Nat) (e : TypeId) (i : TypeInfo) (z : Value) (size bytes : Nat) (ht : P.underlying t = some (.slice e)) (hi : P.info? e = some i) (hz : i.zero = some z)
    (hsize : i.size = size) (hby : i.bytes = bytes) (hzs : z.cells.size = size) (hsz : 0 < size)
    (v : Value) (n : Nat) (xs : List Value) (hs : a.eval s = v) (hown : w.ownsRow base e size v n xs) (v2 : Value) (m : Nat) (ys : List Value) (hx : a.eval x = v2) (hsrc : w.ownsRow base2 e size v2 m ys) (h1 : ∀ u ∈ ys, u.oneCell' = true)
    (h63 : n + m ≤ maxLen) (hbytes : (n + m) * bytes ≤ 140737488355328) (hbase : base ≤ w.heap.size)
    (h : ∀ v' w', w'.ownsRow base e size v' (n + m) (xs ++ ys) → w.grownBy w' v.ownBlock → Fresh w v v' → wpList P ops Q rest (a.put o.dst v') w') : wpList P ops Q (o :: rest) a w := by
  refine wpList_plain hgd fun K hK => ?_
  obtain ⟨v', w', hr, h2, h3, h4⟩ := run_append_src (P := P) base base2 t o.type e i z size bytes ht hi hz hsize hby hzs hsz v n xs hown v2 m ys hsrc h1 h63 hbytes hbase
  unfold Oper.wp execOp
  simp only [ho, resolve, invoke, builtin, Sem.run_bind, Sem.run_pure, Result.andThen_ok, List.map_toArray, List.map_cons, List.map_nil, hs, hx, hr]
  exact hK _ _ (h v' w' h2 h3 h4)

/-- A guard: the goal is such a step. -/
theorem step_pre {c : Prop} [Decidable c] {A B : Prop} (h : if c then A else B) : if c then A else B := h
/-- At a step of a region that draws its order. -/
theorem step_append_src {ops : Array Oper} {o : Oper} {a : Act} {K : Act → World → Prop} {Q : Exit → Act → World → Prop} {E : Prop} (hgd : o.guard = none) (s x : Operand) (t : TypeId)
    (ho : o.op = .call { callee := .builtin .append, args := #[s, x], argTypes := #[t, t] })
    (base base2 : Nat) (e : TypeId) (i : TypeInfo) (z : Value) (size bytes : Nat) (ht : P.underlying t = some (.slice e)) (hi : P.info? e = some i) (hz : i.zero = some z)
    (hsize : i.size = size) (hby : i.bytes = bytes) (hzs : z.cells.size = size) (hsz : 0 < size)
    (v : Value) (n : Nat) (xs : List Value) (hs : a.eval s = v) (hown : w.ownsRow base e size v n xs) (v2 : Value) (m : Nat) (ys : List Value) (hx : a.eval x = v2) (hsrc : w.ownsRow base2 e size v2 m ys) (h1 : ∀ u ∈ ys, u.oneCell' = true)
    (h63 : n + m ≤ maxLen) (hbytes : (n + m) * bytes ≤ 140737488355328) (hbase : base ≤ w.heap.size)
    (h : ∀ v' w', w'.ownsRow base e size v' (n + m) (xs ++ ys) → w.grownBy w' v.ownBlock → Fresh w v v' → K (a.put o.dst v') w') :
    if Region.wanted o (yielded ops a.tmps) = true then Oper.wp P o a w K Q else E := by
  have hw : Region.wanted o (yielded ops a.tmps) = true := by simp [Region.wanted, hgd]
  rw [if_pos hw]
  obtain ⟨v', w', hr, h2, h3, h4⟩ := run_append_src (P := P) base base2 t o.type e i z size bytes ht hi hz hsize hby hzs hsz v n xs hown v2 m ys hsrc h1 h63 hbytes hbase
  unfold Oper.wp execOp
  simp only [ho, resolve, invoke, builtin, Sem.run_bind, Sem.run_pure, Result.andThen_ok, List.map_toArray, List.map_cons, List.map_nil, hs, hx, hr]
  exact h v' w' h2 h3 h4

end Go.Proofs.YtoiednecchbmnaaDoor
/- The library's two tables for UTF-8 lie in memory as the program lays them. -/
namespace Go.Proofs.YtoiednecchbmnaaDoor
open Go Go.RowKit

def Lit (w : World) : Prop := Lib.Utf8Tabs 1 2 w
theorem lit_cell {w w' : World} {a : Addr} {v : Value} (h : w.cell? a = some v) (hb : Below w.heap.size w w') : w'.cell? a = some v := (hb.cell (World.block_lt_of_cell? w a h)).trans h
theorem Lit.below {w w' : World} (h : Lit w) (hb : Below w.heap.size w w') : Lit w' :=
  ⟨fun c hc => lit_cell (h.1 c hc) hb, fun i hi => ⟨lit_cell (h.2 i hi).1 hb, lit_cell (h.2 i hi).2 hb⟩⟩

end Go.Proofs.YtoiednecchbmnaaDoor
