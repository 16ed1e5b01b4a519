/- What the library says of Split, over this program. -/
import Derived.Test.YtoiednecchbmnaaDoorK01
import Derived.Test.YtoiednecchbmnaaDoorK09
import Derived.Test.YtoiednecchbmnaaDoorK04
import Derived.Test.YtoiednecchbmnaaDoorK02
import Derived.Test.YtoiednecchbmnaaDoorK10
import Derived.Test.YtoiednecchbmnaaDoorK12
import Derived.Test.YtoiednecchbmnaaDoorProg
import Derived.Shelf.Strings.Split
import Derived.Lib.MinMax
import Derived.Laws.IdiomStrings
import Derived.Lib.Strings
import Derived.Laws.OwnMore
namespace Go.Proofs
open Go.Shelf
def Tryd.lays146_ren : Go.Shelf.Ren := ⟨fun | 138 => 64 | 143 => 65 | 146 => 31 | 195 => 81 | 197 => 82 | 217 => 74 | 218 => 83 | 219 => 59 | 221 => 45 | 224 => 77 | 225 => 76 | 260 => 96 | 266 => 93 | 267 => 78 | 268 => 63 | 314 => 95 | n => n, fun | 0 => 0 | 3 => 3 | 4 => 4 | 5 => 5 | 9 => 9 | 21 => 21 | 31 => 28 | 46 => 97 | 51 => 107 | 105 => 98 | 119 => 101 | 138 => 103 | 139 => 104 | 146 => 113 | n => n, fun | 1 => 0 | 3 => 1 | 4 => 2 | n => n⟩
theorem Tryd.lays146 : Go.Proofs.Lays.n146 Tryd.prog Tryd.lays146_ren := {
  mixed := by kernel_rfl
  f138 := Tryd.func64.trans (congrArg some (by kernel_rfl))
  f143 := Tryd.func65.trans (congrArg some (by kernel_rfl))
  f146 := Tryd.func31.trans (congrArg some (by kernel_rfl))
  f195 := Tryd.func81.trans (congrArg some (by kernel_rfl))
  f197 := Tryd.func82.trans (congrArg some (by kernel_rfl))
  f217 := Tryd.func74.trans (congrArg some (by kernel_rfl))
  f218 := Tryd.func83.trans (congrArg some (by kernel_rfl))
  f219 := Tryd.func59.trans (congrArg some (by kernel_rfl))
  f221 := Tryd.func45.trans (congrArg some (by kernel_rfl))
  f224 := Tryd.func77.trans (congrArg some (by kernel_rfl))
  f225 := Tryd.func76.trans (congrArg some (by kernel_rfl))
  f260 := Tryd.func96.trans (congrArg some (by kernel_rfl))
  f266 := Tryd.func93.trans (congrArg some (by kernel_rfl))
  f267 := Tryd.func78.trans (congrArg some (by kernel_rfl))
  f268 := Tryd.func63.trans (congrArg some (by kernel_rfl))
  f314 := Tryd.func95.trans (congrArg some (by kernel_rfl))
  t0 := Tryd.underlying0
  a0 := Tryd.isAgg0
  z0 := Tryd.sizeOf0
  v0 := Tryd.zeroValue0
  t3 := Tryd.underlying3
  a3 := Tryd.isAgg3
  z3 := Tryd.sizeOf3
  v3 := Tryd.zeroValue3
  t4 := Tryd.underlying4
  a4 := Tryd.isAgg4
  z4 := Tryd.sizeOf4
  v4 := Tryd.zeroValue4
  t5 := Tryd.underlying5
  a5 := Tryd.isAgg5
  z5 := Tryd.sizeOf5
  v5 := Tryd.zeroValue5
  t9 := Tryd.underlying9
  a9 := Tryd.isAgg9
  z9 := Tryd.sizeOf9
  v9 := Tryd.zeroValue9
  t21 := Tryd.underlying21
  a21 := Tryd.isAgg21
  z21 := Tryd.sizeOf21
  v21 := Tryd.zeroValue21
  t31 := Tryd.underlying28
  a31 := Tryd.isAgg28
  z31 := Tryd.sizeOf28
  v31 := Tryd.zeroValue28
  t46 := Tryd.underlying97
  a46 := Tryd.isAgg97
  z46 := Tryd.sizeOf97
  v46 := Tryd.zeroValue97
  t51 := Tryd.underlying107
  a51 := Tryd.isAgg107
  z51 := Tryd.sizeOf107
  v51 := Tryd.zeroValue107
  t105 := Tryd.underlying98
  a105 := Tryd.isAgg98
  z105 := Tryd.sizeOf98
  v105 := Tryd.zeroValue98
  t119 := Tryd.underlying101
  a119 := Tryd.isAgg101
  z119 := Tryd.sizeOf101
  t138 := Tryd.underlying103
  a138 := Tryd.isAgg103
  z138 := Tryd.sizeOf103
  v138 := Tryd.zeroValue103
  t139 := Tryd.underlying104
  a139 := Tryd.isAgg104
  z139 := Tryd.sizeOf104
  v139 := Tryd.zeroValue104
  t146 := Tryd.underlying113
  a146 := Tryd.isAgg113
  z146 := Tryd.sizeOf113
  v146 := Tryd.zeroValue113
  g1 := by kernel_rfl
  g3 := by kernel_rfl
  g4 := by kernel_rfl }
end Go.Proofs
/- The reference's Points, Code and Join return what the plain texts say. -/
namespace Go.Proofs.YtoiednecchbmnaaDoor
open Go.RowKit

theorem strInfo : (Tryd.prog.info? 9).map (fun i => (i.zero, i.size, i.bytes)) = some (some (.string ByteArray.empty), 1, 16) := by kernel_rfl

/-- Strings as the cells of a row. -/
def scells (l : List (List UInt8)) : List Value := l.map fun c => .string (tstr c)
theorem scells_append (l m : List (List UInt8)) : scells (l ++ m) = scells l ++ scells m := by simp [scells]
theorem scells_length (l : List (List UInt8)) : (scells l).length = l.length := by simp [scells]

theorem flat_len {cs : List (List UInt8)} (h : ∀ c ∈ cs, Txt.Good c) : cs.length ≤ cs.flatten.length := by
  induction cs with
  | nil => simp
  | cons c cs ih =>
    have h1 := (h c List.mem_cons_self).four_at_most
    have h2 := ih (fun c' hc => h c' (List.mem_cons_of_mem _ hc))
    simp only [List.length_cons, List.flatten_cons, List.length_append]; omega

end Go.Proofs.YtoiednecchbmnaaDoor
/- The reference's Collapse returns what the plain text says. -/
namespace Go.Proofs.YtoiednecchbmnaaDoor
open Go.RowKit

end Go.Proofs.YtoiednecchbmnaaDoor
/- The reference's Fields returns what the plain text says. -/
namespace Go.Proofs.YtoiednecchbmnaaDoor
open Go.RowKit

theorem fields_count (p l : List UInt8) : (Txt.fields p l).length ≤ p.length + l.length := by
  induction l generalizing p with
  | nil =>
    unfold Txt.fields
    split
    · simp
    · rename_i h
      have : 0 < p.length := List.length_pos_iff.2 h
      simp only [List.length_cons, List.length_nil]; omega
  | cons c r ih =>
    unfold Txt.fields
    split
    · split
      · have := ih []; simp only [List.length_cons, List.length_nil] at this ⊢; omega
      · rename_i h
        have h1 : 0 < p.length := List.length_pos_iff.2 h
        have := ih []
        simp only [List.length_cons, List.length_nil] at this ⊢; omega
    · have := ih (p ++ [c])
      simp only [List.length_cons, List.length_append, List.length_nil] at this ⊢; omega

set_option maxRecDepth 100000 in
set_option maxHeartbeats 400000 in
theorem rfields_any (s : ByteArray) (w : World) (hs : s.size ≤ 10000) :
    Calls Tryd.prog 9 #[.string s] w fun e w' => ∃ v, e = .returned v ∧ w'.ownsRow w.heap.size 9 1 v (Txt.fields [] s.data.toList).length (scells (Txt.fields [] s.data.toList)) ∧ Below w.heap.size w w' := by
  obtain ⟨i0, hi, hz0, hz1, hz2⟩ := info_parts strInfo
  have hct := fields_count [] s.data.toList
  have hll : s.data.toList.length = s.size := rfl
  rw [hll, List.length_nil, Nat.zero_add] at hct
  obtain ⟨hn1, hn2⟩ := tstr_none
  go_enter Tryd.func9, Tryd.ntmps9
  go_wp2_with fail
  go_loopw [3, 4, 5] (fun v p i wr => ∃ (k : Nat) (D : List (List UInt8)) (P : List UInt8), k ≤ s.size ∧ i = .int .i64 k ∧ p = .string (tstr P) ∧ P.length ≤ k ∧ wr.ownsRow w.heap.size 9 1 v D.length (scells D) ∧ D ++ Txt.fields P (s.data.toList.drop k) = Txt.fields [] s.data.toList ∧ Below w.heap.size w wr) (fun _ _ i _ => s.size - (intOf i).toNat)
  case atStart => exact ⟨0, [], [], Nat.zero_le _, rfl, rfl, Nat.le_refl _, World.ownsRow_nil _ _ _ _, rfl, Below.refl _ _⟩
  case round =>
    obtain ⟨k, D, P, hk, rfl, rfl, hPk, hown, hL, hbel⟩ := hrel
    obtain ⟨A, cp, rfl⟩ := own_form hown
    have hDl : D.length ≤ 10000 := by have := congrArg List.length hL; rw [List.length_append] at this; omega
    have hPs : (tstr P).size ≤ 10000 := by rw [tstr_size]; omega
    by_cases hlt : k < s.size
    · rw [drop_at s k hlt, Txt.fields] at hL
      cases hsp : Txt.sp s[k] with
      | false =>
        rw [if_neg (by rw [hsp]; simp)] at hL
        have h1s : ∀ c : UInt8, (tstr [c]).size = 1 := fun c => tstr_size _
        have had : ∀ (c : UInt8) (W : World), (Op.stringOp .add (tstr P) (tstr [c])).run Tryd.prog W = .ok (.string (tstr P ++ tstr [c])) W := fun c W => run_string_add_sum W _ _ (by rw [h1s]; omega)
        have hsl := slice1 s k k ((k : Int) + 1) rfl rfl hlt
        have HL := Lib.hid hL
        have HP := Lib.hid hsp
        clear hsp hL
        go_wp2_with fail
        refine (space_any s[k] wr).mono ?_
        rintro e w2 ⟨rfl, rfl⟩
        rw [HP.out]
        go_wp2_with fail
        go_roundw
        case rel => exact ⟨k + 1, D, P ++ [s[k]], by omega, by go_num, by rw [tstr_append], by simp; omega, hown, HL.out, hbel⟩
        case measure => simp [intOf]; omega
      | true =>
        rw [if_pos hsp] at hL
        by_cases hP : P = []
        · rw [if_pos hP] at hL
          subst hP
          have HL := Lib.hid hL
          have HP := Lib.hid hsp
          clear hsp hL
          go_wp2_with fail
          refine (space_any s[k] wr).mono ?_
          rintro e w2 ⟨rfl, rfl⟩
          rw [HP.out]
          go_wp2_with fail
          go_roundw
          case rel => exact ⟨k + 1, D, [], by omega, by go_num, rfl, Nat.zero_le _, hown, HL.out, hbel⟩
          case measure => simp [intOf]; omega
        · rw [if_neg hP] at hL
          obtain ⟨hq1, hq2⟩ := tstr_some hP
          have HL : Hid ((D ++ [P]) ++ Txt.fields [] (s.data.toList.drop (k + 1)) = Txt.fields [] s.data.toList) := by
            have : (D ++ [P]) ++ Txt.fields [] (s.data.toList.drop (k + 1)) = Txt.fields [] s.data.toList := by rw [← hL, List.append_assoc]; rfl
            exact Lib.hid this
          have HP := Lib.hid hsp
          clear hsp hL
          go_wp2_with fail
          refine (space_any s[k] wr).mono ?_
          rintro e w2 ⟨rfl, rfl⟩
          rw [HP.out]
          go_wp2_with (at_builtin; refine wpList_append_own _ rfl (.tmp 26) (.tmp 28) 28 rfl w.heap.size 9 i0 (.string ByteArray.empty) 1 16 Tryd.underlying28 hi hz0 hz1 hz2 rfl (by decide) _ D.length (scells D) rfl (hown.alloc _) ⟨wr.heap.size, 0, none⟩ 1 1 (scells [P]) rfl rfl ?c1 ?c2 ?c3 ?c4 ?c5 ?_)
          case c1 => intro j u hj; match j, hj with | 0, hj => simp [scells] at hj; subst hj; simp [Addr.add]
          case c2 => intro u hu; simp [scells] at hu; subst hu; rfl
          case c3 => unfold maxLen; omega
          case c4 => omega
          case c5 => have := hbel.size; simp; omega
          intro v2 w2 ho2 hg2 _
          have hb2 : Below w.heap.size w w2 := (hbel.alloc hbel.size _).grown hg2 (by have := hbel.size; simp; omega) (fun j hj => (hown.lt j hj).1)
          rw [← scells_append] at ho2
          have HB := Lib.hid hb2
          have HO := Lib.hid ho2
          clear ho2 hg2 hb2
          go_wp2_with fail
          go_roundw
          case rel => exact ⟨k + 1, D ++ [P], [], by omega, by go_num, rfl, Nat.zero_le _, by rw [List.length_append]; exact HO.out, HL.out, HB.out⟩
          case measure => simp [intOf]; omega
    · have ek : k = s.size := by omega
      subst ek
      rw [drop_end s _ hlt, Txt.fields] at hL
      by_cases hP : P = []
      · rw [if_pos hP, List.append_nil] at hL
        subst hP
        have HL := Lib.hid hL
        clear hL
        go_wp2_with fail
        go_ret
        exact ⟨_, rfl, by rw [← HL.out]; exact hown, hbel⟩
      · rw [if_neg hP] at hL
        obtain ⟨hq1, hq2⟩ := tstr_some hP
        have HL := Lib.hid hL
        clear hL
        go_wp2_with (at_builtin; refine wpList_append_own _ rfl (.tmp 32) (.tmp 34) 28 rfl w.heap.size 9 i0 (.string ByteArray.empty) 1 16 Tryd.underlying28 hi hz0 hz1 hz2 rfl (by decide) _ D.length (scells D) rfl (hown.alloc _) ⟨wr.heap.size, 0, none⟩ 1 1 (scells [P]) rfl rfl ?c1 ?c2 ?c3 ?c4 ?c5 ?_)
        case c1 => intro j u hj; match j, hj with | 0, hj => simp [scells] at hj; subst hj; simp [Addr.add]
        case c2 => intro u hu; simp [scells] at hu; subst hu; rfl
        case c3 => unfold maxLen; omega
        case c4 => omega
        case c5 => have := hbel.size; simp; omega
        intro v2 w2 ho2 hg2 _
        have hb2 : Below w.heap.size w w2 := (hbel.alloc hbel.size _).grown hg2 (by have := hbel.size; simp; omega) (fun j hj => (hown.lt j hj).1)
        rw [← scells_append] at ho2
        have HB := Lib.hid hb2
        have HO := Lib.hid ho2
        clear ho2 hg2 hb2
        go_wp2_with fail
        go_ret
        exact ⟨_, rfl, by rw [← HL.out, List.length_append]; exact HO.out, HB.out⟩

end Go.Proofs.YtoiednecchbmnaaDoor
/- A word of a list, as the reference finds it. -/
namespace Go.Proofs.YtoiednecchbmnaaDoor
open Go Go.RowKit
set_option linter.unusedVariables false
theorem srow_form {w : World} {base n : Nat} {v : Value} {xs : List Value} (h : w.ownsRow base 9 1 v n xs) : ∃ A c, v = .slice A n c := by
  rcases h.2 with ⟨rfl, hn⟩ | ⟨g, cap, cur, rfl, _⟩
  · exact ⟨none, 0, by rw [hn]⟩
  · exact ⟨_, _, rfl⟩
theorem srow_at {w : World} {base n c : Nat} {A : Option Addr} {fs : List (List UInt8)} (h : w.ownsRow base 9 1 (.slice A n c) n (scells fs)) {i : Nat} (hi : i < fs.length) (hn : n = fs.length) :
    ∃ g, A = some ⟨g, 0, none⟩ ∧ w.cell? ⟨g, i, none⟩ = some (.string (tstr fs[i])) ∧ n ≤ c := by
  have h2 := h
  rcases h.2 with ⟨e, hn⟩ | ⟨g, cap, cur, e, hb, hg, hc, hm, hs, ht⟩
  · omega
  · injection e with e1 e2 e3
    subst e1 e3
    refine ⟨g, rfl, ?_, hc⟩
    have := World.ownsRow.cellAt h2 i (by omega)
    rw [this]
    unfold scells
    rw [List.getElem?_map, List.getElem?_eq_getElem hi]
    rfl
set_option maxHeartbeats 4000000 in
theorem rone_any (s l : List UInt8) (fs : List (List UInt8)) (w : World) (hf : Txt.fields [] l = fs) (hl : l.length ≤ 10000) (hfs : fs.length ≤ 1000) :
    Calls Tryd.prog 20 #[.string (tstr s), .string (tstr l)] w fun e w' => e = .returned (.bool (decide (s ∈ fs))) ∧ Below w.heap.size w w' := by
  have hr := rfields_any (tstr l) w (by rw [tsize]; exact hl)
  rw [tdata, hf] at hr
  obtain ⟨N, hN⟩ : ∃ N, fs.length = N := ⟨_, rfl⟩
  have HN := Lib.hid hN
  rw [hN] at hr hfs
  clear hf hN hl
  go_enter Tryd.func20, Tryd.ntmps20
  go_wp2_with fail
  refine hr.mono ?_
  clear hr
  rintro e w2 ⟨v, rfl, hrow, hb⟩
  obtain ⟨A, c, rfl⟩ := srow_form hrow
  have HB := Lib.hid hb
  have HR := Lib.hid hrow
  clear hrow hb
  go_wp2_with fail
  go_loopg [6] N (fun gg u6 wr => ∃ i : Nat, u6 = .int .i64 (i : Int) ∧ i ≤ N ∧ N - i ≤ gg ∧ ¬ s ∈ fs.take i ∧ wr = w2)
  case atStart => exact ⟨0, rfl, Nat.zero_le _, Nat.le_refl _, by simp, rfl⟩
  case round =>
    obtain ⟨i, rfl, hi, hgg, hno, rfl⟩ := hrel
    by_cases hlt : i < N
    · have hlt' : (i : Int) < (N : Int) := by omega
      have hif : i < fs.length := by have := HN.out; omega
      obtain ⟨g, rfl, hcell, hcap⟩ := srow_at HR.out hif HN.out.symm
      by_cases hs : fs[i] = s
      · have hsb : ((tstr fs[i]).toList == (tstr s).toList) = true := by rw [hs]; exact beq_self_eq_true _
        have HS := Lib.hid (show decide (s ∈ fs) = true from decide_eq_true (by rw [← hs]; exact List.getElem_mem hif))
        clear hno hs
        go_wp2_with fail
        go_ret
        rw [HS.out]
        exact ⟨rfl, HB.out⟩
      · have hsb : ((tstr fs[i]).toList == (tstr s).toList) = false := by rw [ttl, ttl]; exact beq_eq_false_iff_ne.2 hs
        have HS := Lib.hid (show ¬ s ∈ fs.take (i + 1) by
          rw [List.take_succ_eq_append_getElem hif, List.mem_append, List.mem_singleton]
          rintro (h | h)
          · exact hno h
          · exact hs h.symm)
        clear hno hs
        go_wp2_with fail
        go_roundg (N - (i + 1))
        case rel => exact ⟨i + 1, by go_num, by omega, by omega, HS.out, rfl⟩
        case measure => omega
    · have hlt' : ¬ (i : Int) < (N : Int) := by omega
      have HS := Lib.hid (show decide (s ∈ fs) = false from decide_eq_false (by rw [List.take_of_length_le (by have := HN.out; omega)] at hno; exact hno))
      clear hno
      go_wp2_with fail
      go_ret
      rw [HS.out]
      exact ⟨rfl, HB.out⟩
end Go.Proofs.YtoiednecchbmnaaDoor
/- The names of the longhands. -/
namespace Go.Proofs.YtoiednecchbmnaaDoor
open Go Go.RowKit
set_option linter.unusedVariables false
def lineOf (x : St.Bs × St.Bs) : List UInt8 := x.1 ++ 58 :: 32 :: x.2
theorem indexB_t (a b : List UInt8) : Lib.indexB (tstr a) (tstr b) = Lib.index a b := by
  show Lib.index (tstr a).data.toList (tstr b).data.toList = _
  rw [tdata, tdata]
theorem line_no {k v : St.Bs} {t : List (St.Bs × St.Bs)} (h : St.TOk ((k, v) :: t)) : ¬ (10 : UInt8) ∈ lineOf (k, v) := by
  obtain ⟨h1, h2, h3⟩ := h (k, v) (by simp)
  intro hm
  rcases List.mem_append.1 hm with e | e
  · exact h2 e
  · rcases List.mem_cons.1 e with e | e
    · cases e
    · rcases List.mem_cons.1 e with e | e
      · cases e
      · exact h3 e
theorem split_rend : ∀ (T : List (St.Bs × St.Bs)), St.TOk T → T ≠ [] → Lib.countB (tstr (St.rend T)) (tstr [10]) = T.length - 1 ∧ Lib.splitB (tstr [10]) 0 (T.length - 1) (tstr (St.rend T)) = T.map fun x => tstr (lineOf x)
  | [], _, h => absurd rfl h
  | [(k, v)], h, _ => by
    have hi : Lib.indexB (tstr (lineOf (k, v))) (tstr [10]) = -1 := by rw [indexB_t]; exact index_no (line_no h)
    exact ⟨Lib.countB_miss _ _ hi, rfl⟩
  | (k, v) :: x :: t, h, _ => by
    obtain ⟨ih1, ih2⟩ := split_rend (x :: t) (fun y hy => h y (by simp [hy])) (by simp)
    have hr : St.rend ((k, v) :: x :: t) = lineOf (k, v) ++ 10 :: St.rend (x :: t) := rfl
    have hi : Lib.indexB (tstr (St.rend ((k, v) :: x :: t))) (tstr [10]) = ((lineOf (k, v)).length : Int) := by
      rw [indexB_t, hr]
      exact index_at (p := []) (b := St.rend (x :: t)) (line_no h)
    have h1 : (tstr [10]).size = 1 := rfl
    have hd : (tstr (St.rend ((k, v) :: x :: t))).extract ((lineOf (k, v)).length + (tstr [10]).size) (tstr (St.rend ((k, v) :: x :: t))).size = tstr (St.rend (x :: t)) := by
      rw [textr_end, h1, hr]
      congr 1
      rw [← List.drop_drop, List.drop_left]
      rfl
    have ht : (tstr (St.rend ((k, v) :: x :: t))).extract 0 ((lineOf (k, v)).length + 0) = tstr (lineOf (k, v)) := by
      rw [textr_head, hr, Nat.add_zero, List.take_left]
    have hl : ((k, v) :: x :: t).length - 1 = ((x :: t).length - 1) + 1 := by simp
    constructor
    · rw [Lib.countB_hit _ _ _ (by rw [h1]; exact Nat.le_refl _) hi, hd, ih1, hl, Nat.add_comm]
    · rw [hl, Lib.splitB_hit _ _ _ _ _ hi, hd, ht, ih2]
      rfl
theorem split_long : Lib.splitB (tstr [10]) 0 36 (tstr (St.rend St.longT)) = St.longT.map fun x => tstr (lineOf x) := (split_rend St.longT St.longT_ok (by decide)).2
theorem count_long : Lib.countB (tstr (St.rend St.longT)) (tstr [10]) = 36 := (split_rend St.longT St.longT_ok (by decide)).1
theorem srow_mono {w : World} {base base' n : Nat} {v : Value} {xs : List Value} (h : w.ownsRow base 9 1 v n xs) (hb : base' ≤ base) : w.ownsRow base' 9 1 v n xs :=
  ⟨h.1, h.2.imp id fun ⟨g, cap, cur, h1, h2, h3⟩ => ⟨g, cap, cur, h1, Nat.le_trans hb h2, h3⟩⟩
def NM : List (List UInt8) := St.longT.map (·.1)
set_option maxHeartbeats 4000000 in
theorem ynames_any (w : World) (hM : MaxLen w) :
    Calls Tryd.prog 18 #[.string (tstr (St.rend St.longT))] w fun e w' => ∃ v, e = .returned v ∧ w'.ownsRow w.heap.size 9 1 v 37 (scells NM) ∧ Below w.heap.size w w' := by
  obtain ⟨i0, hi0, hz0, hz1, hz2⟩ := info_parts strInfo
  have hsp : Calls Tryd.prog 31 #[.string (tstr (St.rend St.longT)), .string ⟨#[10]⟩] w fun e w' => e = .returned (.slice (some ⟨w.heap.size, 0, none⟩) 37 37) ∧ w' = w.alloc (.cells ((St.longT.map fun x => tstr (lineOf x)).map Value.string).toArray 9) := by
    obtain ⟨m, hm⟩ := hM
    have := Any.strings_Split Tryd.lays146 (by kernel_rfl) (tstr (St.rend St.longT)) (tstr [10]) m w (by have := St.longT_len; rw [tsize]; omega) hm (by decide)
    rw [count_long, split_long] at this
    exact this
  obtain ⟨ROW, hROW⟩ : ∃ ROW : Array Value, ((St.longT.map fun x => tstr (lineOf x)).map Value.string).toArray = ROW := ⟨_, rfl⟩
  rw [hROW] at hsp
  have hW1 : Whole (w.alloc (.cells ROW 9)) w.heap.size ROW 9 := Whole.new _ _ _
  have hB1 : Below w.heap.size w (w.alloc (.cells ROW 9)) := (Below.refl _ _).alloc (Nat.le_refl _) _
  obtain ⟨W1, hWW⟩ : ∃ W1, w.alloc (.cells ROW 9) = W1 := ⟨_, rfl⟩
  rw [hWW] at hsp hW1 hB1
  have HB1 := Lib.hid hB1
  have HW1 := Lib.hid hW1
  have HM1 := Lib.hid (hM.below hB1)
  have HCELL := Lib.hid (show ∀ (W : World), Whole W w.heap.size ROW 9 → ∀ i (h : i < St.longT.length), W.cell? ⟨w.heap.size, i, none⟩ = some (.string (tstr (lineOf St.longT[i]))) from fun W hW i h => by
    rw [hW.cell, ← hROW]
    simp [h])
  clear hM hW1 hB1 hROW
  have hT37 : St.longT.length = 37 := by decide +kernel
  go_enter Tryd.func18, Tryd.ntmps18
  go_wp2_with fail
  refine hsp.mono ?_
  clear hsp
  rintro e w2 ⟨rfl, rfl⟩
  go_wp2_with fail
  go_loopg [3, 12] 37 (fun gg u3 u12 wr => ∃ (i : Nat) (A : Option Addr) (c : Nat), u12 = .int .i64 (i : Int) ∧ u3 = .slice A i c ∧ i ≤ 37 ∧ 37 - i ≤ gg ∧ wr.ownsRow w2.heap.size 9 1 (.slice A i c) i (scells (NM.take i)) ∧ Whole wr w.heap.size ROW 9 ∧ Below w2.heap.size w2 wr)
  case atStart => exact ⟨0, none, 0, rfl, rfl, by omega, by omega, World.ownsRow_nil _ _ _ _, HW1.out, Below.refl _ _⟩
  case round =>
    obtain ⟨i, A, c, rfl, rfl, hi, hgg, hrow, hwh, hb⟩ := hrel
    by_cases hlt : i < 37
    · have hlt' : (i : Int) < 37 := by omega
      have hil : i < St.longT.length := by omega
      have hcell := HCELL.out wr hwh i hil
      have hok := St.longT_ok St.longT[i] (List.getElem_mem hil)
      have hcut : ∀ W, MaxLen W → Calls Tryd.prog 27 #[.string (tstr (lineOf St.longT[i])), .string ⟨#[58, 32]⟩] W fun e w' => e = .returned (.tuple #[.string (tstr St.longT[i].1), .string (tstr St.longT[i].2), .bool true]) ∧ Below W.heap.size W w' := fun W h => by
        have := scut (lineOf St.longT[i]) [58, 32] W h (by
          have : ∀ x ∈ St.longT, (lineOf x).length ≤ 20000 := by
            have : (St.longT.all fun x => decide ((lineOf x).length ≤ 20000)) = true := by decide +kernel
            intro x hx; exact of_decide_eq_true (List.all_eq_true.1 this x hx)
          exact this _ (List.getElem_mem hil))
        unfold lineOf at this
        rw [St.line_cut hok.1] at this
        exact this
      have HN := Lib.hid (show NM.take (i + 1) = NM.take i ++ [St.longT[i].1] by
        unfold NM
        rw [← List.map_take, ← List.map_take, List.take_succ_eq_append_getElem hil, List.map_append]; rfl)
      have hc1 := hcut wr (HM1.out.below hb)
      have HB := Lib.hid hb
      have HROW := Lib.hid hrow
      have HWH := Lib.hid hwh
      obtain ⟨x, hx⟩ : ∃ x, St.longT[i].1 = x := ⟨_, rfl⟩
      obtain ⟨y, hy⟩ : ∃ y, St.longT[i].2 = y := ⟨_, rfl⟩
      obtain ⟨z, hz⟩ : ∃ z, lineOf St.longT[i] = z := ⟨_, rfl⟩
      rw [hx, hy, hz] at hc1
      rw [hz] at hcell
      rw [hx] at HN
      clear hcut hok hrow hwh hb hx hy hz
      go_wp2_with fail
      refine hc1.mono ?_
      clear hc1
      rintro e w3 ⟨rfl, hb3⟩
      have HB3 := Lib.hid (HB.out.trans (hb3.mono HB.out.size))
      have HW3 := Lib.hid (HWH.out.below hb3 HWH.out.lt)
      have hrow3 : w3.ownsRow w2.heap.size 9 1 (.slice A i c) i (scells (NM.take i)) := by
        have := HROW.out
        refine ⟨this.1, this.2.imp id fun ⟨g, cap, cur, h1, h2, h3, h4⟩ => ⟨g, cap, cur, h1, h2, ?_, h4⟩⟩
        exact (hb3.block g (Array.getElem?_eq_some_iff.1 h3).1).trans h3
      have HR3 := Lib.hid hrow3
      clear hb3 hrow3 hcell
      have hlt3 : w2.heap.size ≤ w3.heap.size := HB3.out.size
      go_wp2_with (at_builtin; refine wpList_append_src rfl _ _ 28 rfl w2.heap.size w3.heap.size 9 i0 (.string ByteArray.empty) 1 16 Tryd.underlying28 hi0 hz0 hz1 hz2 rfl (by decide) _ i (scells (NM.take i)) rfl (World.ownsRow.alloc HR3.out _) _ 1 [.string (tstr x)] rfl (World.ownsRow_lit (base := w3.heap.size) (e := 9) (size := 1) w3 #[.string (tstr x)] 1 (Nat.le_refl _) (by unfold maxLen; omega) rfl) (by intro u hu; simp only [List.mem_singleton] at hu; subst hu; rfl) (by unfold maxLen; omega) (by omega) (by rw [World.size_alloc]; omega) ?_)
      intro v' w4 hown hgrow _
      have hlow : ∀ kk, (Value.slice A i c).ownBlock = some kk → w2.heap.size ≤ kk := fun kk hk => (World.ownsRow.lt HR3.out kk hk).1
      have hown2 : w4.ownsRow w2.heap.size 9 1 v' (i + 1) (scells (NM.take (i + 1))) := by rw [HN.out, scells_append]; exact hown
      have hB4 : Below w2.heap.size w2 w4 := (HB3.out.alloc hlt3 _).grown hgrow (by rw [World.size_alloc]; omega) hlow
      have hW4 : Whole w4 w.heap.size ROW 9 := ((HW3.out.alloc (.cells #[.string (tstr x)] 9))).grown hgrow (fun e => by have := hlow _ e.symm; have := HW1.out.lt; omega)
      obtain ⟨A', c', rfl⟩ := srow_form hown2
      have HO := Lib.hid hown2
      have HB4 := Lib.hid hB4
      have HW4 := Lib.hid hW4
      clear hown hown2 hgrow hB4 hW4 hlow
      go_wp2_with fail
      go_roundg (37 - (i + 1))
      case rel => exact ⟨i + 1, A', c', by go_num, rfl, by omega, by omega, HO.out, HW4.out, HB4.out⟩
      case measure => omega
    · have hlt' : ¬ (i : Int) < 37 := by omega
      obtain rfl : i = 37 := by omega
      have HROW := Lib.hid hrow
      have HB := Lib.hid hb
      clear hrow hb hwh
      go_wp2_with fail
      go_ret
      refine ⟨_, rfl, ?_, ?_⟩
      · have := HROW.out
        rw [show NM.take 37 = NM by decide +kernel] at this
        exact srow_mono this HB1.out.size
      · exact HB1.out.trans (HB.out.mono HB1.out.size)
end Go.Proofs.YtoiednecchbmnaaDoor
