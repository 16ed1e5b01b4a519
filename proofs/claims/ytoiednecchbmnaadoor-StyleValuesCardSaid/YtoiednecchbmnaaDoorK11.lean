/- A row of declarations; the declaration of a longhand. -/
import Derived.Test.YtoiednecchbmnaaDoorK10
import Derived.Test.YtoiednecchbmnaaDoorK04
import Derived.Test.YtoiednecchbmnaaDoorK02
import Derived.Laws.OwnMore
import Derived.Test.YtoiednecchbmnaaDoorProg
import Derived.Shelf.Strings.BuilderK
import Derived.Shelf.Strings.BuilderRune
namespace Go.Proofs.YtoiednecchbmnaaDoor
open Go Go.RowKit
set_option linter.unusedVariables false
def dcell (d : St.De) : List Value := [.string (tstr d.name), .int .i64 d.val.kind, .int .i64 d.val.num, .string (tstr d.val.word), .bool d.imp]
/-- A row of declarations of the call's own. -/
def DRow (w : World) (base : Nat) (v : Value) (l : List St.De) : Prop := w.ownsRow base 42 5 v l.length (l.flatMap dcell)
theorem DRow.nil (w : World) (base : Nat) : DRow w base (.slice none 0 0) [] := World.ownsRow_nil _ _ _ _
theorem DRow.mono {w : World} {base base' : Nat} {v : Value} {l : List St.De} (h : DRow w base v l) (hb : base' ≤ base) : DRow w base' v l :=
  ⟨h.1, h.2.imp id fun ⟨g, cap, cur, h1, h2, h3⟩ => ⟨g, cap, cur, h1, Nat.le_trans hb h2, h3⟩⟩
theorem DRow.form {w : World} {base : Nat} {v : Value} {l : List St.De} (h : DRow w base v l) : ∃ A c, v = .slice A l.length c := by
  rcases h.2 with ⟨rfl, hn⟩ | ⟨g, cap, cur, rfl, _⟩
  · exact ⟨none, 0, by rw [hn]⟩
  · exact ⟨_, _, rfl⟩
set_option maxHeartbeats 8000000 in
theorem ysingle_any (p s : List UInt8) (w : World) (hM : MaxLen w) (hl : s.length ≤ 20000) :
    Calls Tryd.prog 71 #[.string (tstr p), .string (tstr s)] w fun e w' => ∃ v, e = .returned v ∧ DRow w' w.heap.size v (St.single p s) ∧ Below w.heap.size w w' := by
  have hp := yparse_any p s w hM hl
  have HS := Lib.hid (show St.single p s = if (St.parse p s).2 = 0 then [⟨p, (St.parse p s).1, false⟩] else [] from rfl)
  generalize St.parse p s = V at hp HS
  obtain ⟨⟨v0, v1, v2⟩, e⟩ := V
  unfold vaV at hp
  simp only at hp
  clear hM
  by_cases he : e = 0
  · subst he
    have HE := Lib.hid (show St.single p s = [⟨p, ⟨v0, v1, v2⟩, false⟩] from HS.out)
    clear HS
    go_enter Tryd.func71, Tryd.ntmps71
    go_wp2_with fail
    refine hp.mono ?_
    clear hp
    rintro e w2 ⟨rfl, hb⟩
    have h6 := hb.alloc hb.size (.cells #[.int .i64 v0, .int .i64 v1, .string (tstr v2)] 24)
    have h7 : (w2.alloc (.cells #[.int .i64 v0, .int .i64 v1, .string (tstr v2)] 24)).heap.size = w2.heap.size + 1 := World.size_alloc _ _
    have H6 := Lib.hid h6
    have H7 := Lib.hid h7
    clear hb h6 h7
    go_wp2_with fail
    go_ret
    rw [HE.out]
    have h6 := H6.out
    have h7 := H7.out
    obtain ⟨X6, hX6⟩ : ∃ X6, w2.alloc (.cells #[.int .i64 v0, .int .i64 v1, .string (tstr v2)] 24) = X6 := ⟨_, rfl⟩
    rw [hX6] at h6 h7 ⊢
    rw [← h7]
    exact ⟨_, rfl, World.ownsRow_lit X6 #[.string (tstr p), .int .i64 v0, .int .i64 v1, .string (tstr v2), .bool false] 1 h6.size (by unfold maxLen; omega) rfl, h6.alloc h6.size _⟩
  · have HE := Lib.hid (show St.single p s = [] from HS.out.trans (if_neg he))
    clear HS
    go_enter Tryd.func71, Tryd.ntmps71
    go_wp2_with fail
    refine hp.mono ?_
    clear hp
    rintro e w2 ⟨rfl, hb⟩
    have h6 := hb.alloc hb.size (.cells #[.int .i64 v0, .int .i64 v1, .string (tstr v2)] 24)
    have H6 := Lib.hid h6
    clear hb h6
    go_wp2_with fail
    go_ret
    rw [HE.out]
    exact ⟨_, rfl, DRow.nil _ _, H6.out⟩
end Go.Proofs.YtoiednecchbmnaaDoor
/- What is no shorthand is a longhand alone. -/
namespace Go.Proofs.YtoiednecchbmnaaDoor
open Go Go.RowKit
set_option linter.unusedVariables false
namespace St
theorem shortT_ok : TOk shortT := by
  have : (shortT.all fun x => !x.1.contains 58 && !x.1.contains 10 && !x.2.contains 10) = true := by decide +kernel
  intro x hx
  have := List.all_eq_true.1 this x hx
  simpa [and_assoc] using this
theorem shortT_len : (rend shortT).length ≤ 20000 := by
  have : decide ((rend shortT).length ≤ 20000) = true := by decide +kernel
  exact of_decide_eq_true this
end St
set_option maxHeartbeats 40000000 in
set_option maxRecDepth 200000 in
theorem yexpand_no (p s : List UInt8) (w : World) (hM : MaxLen w) (hl : s.length ≤ 20000) (hno : St.find St.shortT p = none) :
    Calls Tryd.prog 56 #[.string (tstr p), .string (tstr s)] w fun e w' => ∃ v, e = .returned v ∧ DRow w' w.heap.size v (St.single p s) ∧ Below w.heap.size w w' := by
  have hlk := ylookUp_any St.shortT p w hM St.shortT_ok St.shortT_len
  rw [hno] at hlk
  simp only [Option.getD_none, Option.isSome_none] at hlk
  have HM := Lib.hid hM
  have hs := fun w2 h => ysingle_any p s w2 h hl
  clear hM hno
  go_enter Tryd.func56, Tryd.ntmps56
  go_wp2_with fail
  refine (calls_cast (by kernel_rfl) hlk).mono ?_
  clear hlk
  rintro e w2 ⟨rfl, hb⟩
  have HB := Lib.hid hb
  have hss := hs w2 (HM.out.below hb)
  clear hb hs
  go_wp2_with fail
  refine hss.mono ?_
  clear hss
  rintro e w3 ⟨v, rfl, hd, hb⟩
  have HD := Lib.hid hd
  have HB3 := Lib.hid (ybt HB.out hb)
  clear hb hd
  go_wp2_with fail
  go_ret
  exact ⟨_, rfl, HD.out.mono HB.out.size, HB3.out⟩
theorem dflat_set : ∀ (l : List St.De) (i : Nat) (h : i < l.length) (b : Bool), (l.flatMap dcell).set (i * 5 + 4) (.bool b) = (l.set i { l[i] with imp := b }).flatMap dcell
  | [], i, h, b => by cases h
  | d :: t, 0, h, b => rfl
  | d :: t, i + 1, h, b => by
    have ih := dflat_set t i (by simpa using h) b
    rw [List.flatMap_cons, List.set_cons_succ, List.flatMap_cons, show (i + 1) * 5 + 4 = (i * 5 + 4) + 5 by omega]
    show _ :: _ :: _ :: _ :: _ :: ((t.flatMap dcell).set (i * 5 + 4) (.bool b)) = _
    rw [ih]
    rfl
theorem dflat_get : ∀ (l : List St.De) (i : Nat) (h : i < l.length), (l.flatMap dcell)[i * 5 + 4]? = some (.bool l[i].imp)
  | [], i, h => by cases h
  | d :: t, 0, h => rfl
  | d :: t, i + 1, h => by
    have ih := dflat_get t i (by simpa using h)
    rw [List.flatMap_cons, show (i + 1) * 5 + 4 = (i * 5 + 4) + 5 by omega]
    exact ih
theorem dflat_len (l : List St.De) : (l.flatMap dcell).length = l.length * 5 := by
  induction l with
  | nil => rfl
  | cons d t ih => rw [List.flatMap_cons, List.length_append, ih, List.length_cons]; show 5 + _ = _; omega
/-- A declaration of the row is made important, or not. -/
theorem DRow.put {w : World} {base n c : Nat} {A : Option Addr} {l : List St.De} (h : DRow w base (.slice A n c) l) {i : Nat} (hi : i < l.length) (b : Bool) :
    ∃ g, A = some ⟨g, 0, none⟩ ∧ base ≤ g ∧ w.cell? ⟨g, i * 5 + 4, none⟩ = some (.bool l[i].imp) ∧ w.frozen? ⟨g, i * 5 + 4, none⟩ = false ∧ l.length ≤ c ∧
      DRow (w.setCell ⟨g, i * 5 + 4, none⟩ (.bool b)) base (.slice A n c) (l.set i { l[i] with imp := b }) ∧ w.grownBy (w.setCell ⟨g, i * 5 + 4, none⟩ (.bool b)) (some g) := by
  have h2 := h
  rcases h.2 with ⟨e, hn⟩ | ⟨g, cap, cur, e, hb, hg, hc, hm, hs, ht⟩
  · omega
  · injection e with e1 e2 e3
    subst e1 e2 e3
    refine ⟨g, rfl, hb, ?_, ?_, hc, ?_, ?_⟩
    · have := World.ownsRow.cellAt h2 (i * 5 + 4) (by omega)
      rw [this, dflat_get l i hi]
    · exact World.ownsRow.frozenAt h2 _
    · have := (World.ownsRow.stored h2 (i * 5 + 4) (.bool b)).1
      rw [dflat_set l i hi b] at this
      unfold DRow
      rw [List.length_set]
      exact this
    · exact (World.ownsRow.stored h2 (i * 5 + 4) (.bool b)).2
set_option maxHeartbeats 8000000 in
/-- A declaration: its name, its value, and whether it is important. -/
theorem ydeclared_any (n v p s : List UInt8) (imp : Bool) (ds : List St.De) (w : World) (hM : MaxLen w) (hl : (n ++ 58 :: v).length ≤ 20000) (hn : ¬ (58 : UInt8) ∈ n)
    (hp : (Txt.trim n).map Txt.lo = p) (hs : St.cutImp (Txt.trim (v.map Txt.lo)) = (s, imp)) (hd : ds.length ≤ 100)
    (hx : ∀ w, MaxLen w → Calls Tryd.prog 56 #[.string (tstr p), .string (tstr s)] w fun e w' => ∃ v, e = .returned v ∧ DRow w' w.heap.size v ds ∧ Below w.heap.size w w') :
    Calls Tryd.prog 35 #[.string (tstr (n ++ 58 :: v))] w fun e w' => ∃ u, e = .returned u ∧ DRow w' w.heap.size u (ds.map fun d => { d with imp := imp }) ∧ Below w.heap.size w w' := by
  have hc := scut (n ++ 58 :: v) [58] w hM hl
  rw [show Lib.cut (n ++ 58 :: v) [58] = (n, v, true) from cut_at (p := []) (b := v) hn] at hc
  rw [List.length_append, List.length_cons] at hl
  have hlo : ∀ t : List UInt8, t.length ≤ 20000 → ∀ w, Calls Tryd.prog 16 #[.string (tstr t)] w fun e w' => e = .returned (.string (tstr (t.map Txt.lo))) ∧ Below w.heap.size w w' := fun t ht w => by have := tlower_any (tstr t) w (by rw [tsize]; exact ht); rw [tdata] at this; exact this
  have htr : ∀ t : List UInt8, t.length ≤ 20000 → ∀ w, Calls Tryd.prog 15 #[.string (tstr t)] w fun e w' => e = .returned (.string (tstr (Txt.trim t))) ∧ w = w' := fun t ht w => by have := ctrim_any (tstr t) w (by rw [tsize]; exact ht); rw [tdata] at this; exact this
  have h1 := hlo v (by omega)
  have h2 := htr (v.map Txt.lo) (by rw [List.length_map]; omega)
  have h3 : ∀ w, Calls Tryd.prog 55 #[.string (tstr (Txt.trim (v.map Txt.lo)))] w _ := fun w => ycutimp_any (Txt.trim (v.map Txt.lo)) w (Nat.le_trans (trim_len' _) (by rw [List.length_map]; omega))
  rw [hs] at h3
  have h4 := htr n (by omega)
  have h5 := hlo (Txt.trim n) (Nat.le_trans (trim_len' _) (by omega))
  rw [hp] at h5
  have HM := Lib.hid hM
  clear hlo htr hM hn hp hs hl
  obtain ⟨x, hxx⟩ : ∃ x, Txt.trim (v.map Txt.lo) = x := ⟨_, rfl⟩
  rw [hxx] at h2 h3
  clear hxx
  go_enter Tryd.func35, Tryd.ntmps35
  go_wp2_with fail
  refine hc.mono ?_
  clear hc
  rintro e w2 ⟨rfl, hb⟩
  have HB2 := Lib.hid hb
  have HM2 := Lib.hid (HM.out.below hb)
  clear hb
  go_wp2_with fail
  refine (h1 _).mono ?_
  clear h1
  rintro e w3 ⟨rfl, hb⟩
  have HB3 := Lib.hid (ybt HB2.out hb)
  have HM3 := Lib.hid (HM2.out.below hb)
  clear hb
  go_wp2_with fail
  refine (h2 _).mono ?_
  clear h2
  rintro e w4 ⟨rfl, rfl⟩
  go_wp2_with fail
  refine (h3 _).mono ?_
  clear h3
  rintro e w4 ⟨rfl, rfl⟩
  go_wp2_with fail
  refine (h4 _).mono ?_
  clear h4
  rintro e w4 ⟨rfl, rfl⟩
  go_wp2_with fail
  refine (h5 _).mono ?_
  clear h5
  rintro e w4 ⟨rfl, hb⟩
  have HB4 := Lib.hid (ybt HB3.out hb)
  have hxx := hx _ (HM3.out.below hb)
  clear hb hx
  go_wp2_with fail
  refine hxx.mono ?_
  clear hxx
  rintro e w5 ⟨u, rfl, hD, hb⟩
  have HB5 := Lib.hid (ybt HB4.out hb)
  have hD2 := hD.mono (base' := w.heap.size) HB4.out.size
  obtain ⟨A, c, rfl⟩ := hD2.form
  obtain ⟨N, hN⟩ : ∃ N, ds.length = N := ⟨_, rfl⟩
  have HD := Lib.hid (show DRow w5 w.heap.size (.slice A N c) ds by rw [← hN]; exact hD2)
  have HN := Lib.hid hN
  rw [hN] at hd
  rw [hN]
  clear hD hD2 hb hN
  go_wp2_with fail
  go_loopg [31] N (fun gg u31 wr => ∃ (i : Nat) (L : List St.De), u31 = .int .i64 (i : Int) ∧ i ≤ N ∧ N - i ≤ gg ∧ DRow wr w.heap.size (.slice A N c) L ∧ L.length = N ∧ (∀ j, L[j]? = (ds[j]?).map fun d => if j < i then { d with imp := imp } else d) ∧ Below w.heap.size w wr)
  case atStart => exact ⟨0, ds, rfl, Nat.zero_le _, Nat.le_refl _, HD.out, HN.out, fun j => by simp, HB5.out⟩
  case round =>
    obtain ⟨i, L, rfl, hi, hgg, hD, hL, hLj, hb⟩ := hrel
    by_cases hlt : i < N
    · have hlt' : (i : Int) < (N : Int) := by omega
      obtain ⟨g, rfl, hg, hcell, hfr, hcap, hput, hgb⟩ := hD.put (i := i) (by omega) imp
      have HP := Lib.hid hput
      have HB6 := Lib.hid (hb.grown hgb hb.size (fun k hk => by injection hk with hk; omega))
      have HL := Lib.hid (show ∀ j, (L.set i { L[i]'(by omega) with imp := imp })[j]? = (ds[j]?).map fun d => if j < i + 1 then { d with imp := imp } else d by
        intro j
        rw [List.getElem?_set]
        have hj := hLj j
        by_cases e : i = j
        · subst e
          rw [if_pos rfl, if_pos (by omega)]
          rw [List.getElem?_eq_getElem (show i < L.length by omega)] at hj
          cases e : ds[i]? with
          | none => rw [e] at hj; cases hj
          | some d =>
            rw [e] at hj
            simp only [Option.map_some, Nat.lt_irrefl, if_false, Option.some.injEq] at hj
            simp only [Option.map_some, Nat.lt_succ_self, if_true]
            rw [hj]
        · rw [if_neg e, hj]
          congr 1
          funext d
          by_cases hji : j < i
          · rw [if_pos hji, if_pos (by omega)]
          · rw [if_neg hji, if_neg (by omega)])
      have HLl := Lib.hid (show (L.set i { L[i]'(by omega) with imp := imp }).length = N by rw [List.length_set]; exact hL)
      clear hD hput hgb hb hLj hcap
      go_wp2_with fail
      go_roundg (N - (i + 1))
      case rel => exact ⟨i + 1, _, by go_num, by omega, by omega, HP.out, HLl.out, HL.out, HB6.out⟩
      case measure => omega
    · have hlt' : ¬ (i : Int) < (N : Int) := by omega
      have HL := Lib.hid (show L = ds.map fun d => { d with imp := imp } by
        apply List.ext_getElem?
        intro j
        rw [hLj j, List.getElem?_map]
        cases e : ds[j]? with
        | none => rfl
        | some d =>
          have : j < ds.length := (List.getElem?_eq_some_iff.1 e).1
          have hN := HN.out
          simp only [Option.map_some]
          rw [if_pos (by omega)])
      have HDD := Lib.hid hD
      have HBB := Lib.hid hb
      clear hD hb hLj
      go_wp2_with fail
      go_ret
      rw [← HL.out]
      exact ⟨_, rfl, HDD.out, HBB.out⟩
end Go.Proofs.YtoiednecchbmnaaDoor
/- A flat text is read to its end. -/
namespace Go.Proofs.YtoiednecchbmnaaDoor
open Go Go.RowKit
set_option linter.unusedVariables false
/-- No character of strings, parts, comments or declarations' ends. -/
def flatC (c : UInt8) : Bool := !(c == 34 || c == 39 || c == 40 || c == 41 || c == 47 || c == 59 || c == 91 || c == 93 || c == 123 || c == 125)
def Flat (l : List UInt8) : Prop := ∀ c ∈ l, flatC c = true
theorem flat_ne {c : UInt8} (h : flatC c = true) : ∀ k : UInt8, flatC k = false → ¬ c.toNat = k.toNat := fun k hk e => by
  have := UInt8.toNat_inj.1 e
  rw [this, hk] at h
  cases h
theorem yib59 (d : UInt8) (w : World) (h : ¬ d.toNat = 59) : Calls Tryd.prog 57 #[.string ⟨#[59]⟩, .int .u8 d.toNat] w fun e w' => e = .returned (.int .i64 (-1)) ∧ w' = w := by
  have hi := Tryd.indexByte (tstr [59]) d.toNat w
  rw [tdata, show ((d.toNat : Int).toNat.toUInt8) = d from by simp, show Lib.indexByte [59] d = -1 by
    have hn : ¬ (59 : UInt8) = d := fun e => h (by rw [← e]; rfl)
    unfold Lib.indexByte
    rw [if_neg (by simpa using hn)]
    rfl] at hi
  exact hi
set_option maxHeartbeats 8000000 in
theorem yuntil_flat (b : Nat) (l : List UInt8) (w : World) (hl : l.length ≤ 20000) (hF : Flat l) (h : ScS w b l) :
    Calls Tryd.prog 36 #[.pointer (some ⟨b, 0, none⟩), .string ⟨#[59]⟩] w fun e w' => e = .returned (.string (tstr l)) ∧ ScS w' b [] ∧ w.grownBy w' (some b) := by
  have e1 := tsize l
  have h0 : w.cell? ⟨b, 0, none⟩ = some (.string (tstr l)) := Whole.cell h 0
  have HH := Lib.hid h
  have HFl := Lib.hid hF
  clear h hF
  go_enter Tryd.func36, Tryd.ntmps36
  go_wp2_with fail
  go_loopg [5, 6] (l.length) (fun gg u5 u6 wr => ∃ k : Nat, u5 = .int .i64 (k : Int) ∧ u6 = .int .i64 0 ∧ k ≤ l.length ∧ l.length - k ≤ gg ∧ wr = w)
  case atStart => exact ⟨0, rfl, rfl, Nat.zero_le _, Nat.le_refl _, rfl⟩
  case round =>
    obtain ⟨k, rfl, rfl, hkl, hgg, rfl⟩ := hrel
    by_cases hlt : k < l.length
    · have hlt' : (k : Int) < (l.length : Int) := by omega
      have hf := HFl.out (l[k]) (List.getElem_mem hlt)
      have hg : l[k] = (tstr l)[k] := rfl
      rw [hg] at hf
      have n34 : ¬ (tstr l)[k].toNat = 34 := flat_ne hf 34 (by decide)
      have n39 : ¬ (tstr l)[k].toNat = 39 := flat_ne hf 39 (by decide)
      have n40 : ¬ (tstr l)[k].toNat = 40 := flat_ne hf 40 (by decide)
      have n41 : ¬ (tstr l)[k].toNat = 41 := flat_ne hf 41 (by decide)
      have n91 : ¬ (tstr l)[k].toNat = 91 := flat_ne hf 91 (by decide)
      have n93 : ¬ (tstr l)[k].toNat = 93 := flat_ne hf 93 (by decide)
      have n123 : ¬ (tstr l)[k].toNat = 123 := flat_ne hf 123 (by decide)
      have n125 : ¬ (tstr l)[k].toNat = 125 := flat_ne hf 125 (by decide)
      have n59 : ¬ (tstr l)[k].toNat = 59 := flat_ne hf 59 (by decide)
      have hi := yib59 (tstr l)[k] wr n59
      clear hf hg
      have m34 : ¬ ((tstr l)[k].toNat : Int) = 34 := by omega
      have m39 : ¬ ((tstr l)[k].toNat : Int) = 39 := by omega
      have m40 : ¬ ((tstr l)[k].toNat : Int) = 40 := by omega
      have m41 : ¬ ((tstr l)[k].toNat : Int) = 41 := by omega
      have m91 : ¬ ((tstr l)[k].toNat : Int) = 91 := by omega
      have m93 : ¬ ((tstr l)[k].toNat : Int) = 93 := by omega
      have m123 : ¬ ((tstr l)[k].toNat : Int) = 123 := by omega
      have m125 : ¬ ((tstr l)[k].toNat : Int) = 125 := by omega
      go_wp2_with fail
      refine hi.mono ?_
      clear hi
      rintro e w' ⟨rfl, rfl⟩
      go_wp2_with fail
      go_roundg (l.length - (k + 1))
      case rel => exact ⟨k + 1, by go_num, rfl, by omega, by omega, rfl⟩
      case measure => omega
    · have hlt' : ¬ (k : Int) < (l.length : Int) := by omega
      obtain rfl : k = l.length := by omega
      have ht := ytake_any b l.length l wr (Nat.le_refl _) hl HH.out
      rw [List.take_length, List.drop_length] at ht
      go_wp2_with fail
      refine ht.mono ?_
      clear ht
      rintro e w2 ⟨rfl, hR, hg⟩
      have HR := Lib.hid (And.intro hR hg)
      clear hR hg
      go_wp2_with fail
      go_ret
      exact ⟨rfl, HR.out.1, HR.out.2⟩
end Go.Proofs.YtoiednecchbmnaaDoor
/- What the library says of a Builder, over this program: WriteRune and String. -/
namespace Go.Proofs
open Go.Shelf

def Tryd.lays168_ren : Go.Shelf.Ren := ⟨fun | 168 => 48 | 240 => 68 | 242 => 69 | 276 => 85 | 278 => 86 | n => n, fun | 0 => 0 | 3 => 3 | 4 => 4 | 5 => 5 | 9 => 9 | 20 => 20 | 21 => 21 | 37 => 53 | 46 => 97 | 51 => 107 | 70 => 69 | 72 => 71 | 75 => 76 | 80 => 65 | 164 => 105 | n => n, fun | n => n⟩
theorem Tryd.lays168 : Go.Proofs.Lays.n168 Tryd.prog Tryd.lays168_ren := {
  mixed := by kernel_rfl
  f168 := Tryd.func48.trans (congrArg some (by kernel_rfl))
  f240 := Tryd.func68.trans (congrArg some (by kernel_rfl))
  f242 := Tryd.func69.trans (congrArg some (by kernel_rfl))
  f276 := Tryd.func85.trans (congrArg some (by kernel_rfl))
  f278 := Tryd.func86.trans (congrArg some (by kernel_rfl))
  t0 := Tryd.underlying0
  a0 := Tryd.isAgg0
  z0 := Tryd.sizeOf0
  v0 := Tryd.zeroValue0
  t3 := Tryd.underlying3
  a3 := Tryd.isAgg3
  z3 := Tryd.sizeOf3
  v3 := Tryd.zeroValue3
  t4 := Tryd.underlying4
  a4 := Tryd.isAgg4
  z4 := Tryd.sizeOf4
  v4 := Tryd.zeroValue4
  t5 := Tryd.underlying5
  a5 := Tryd.isAgg5
  z5 := Tryd.sizeOf5
  v5 := Tryd.zeroValue5
  t9 := Tryd.underlying9
  a9 := Tryd.isAgg9
  z9 := Tryd.sizeOf9
  v9 := Tryd.zeroValue9
  t20 := Tryd.underlying20
  a20 := Tryd.isAgg20
  z20 := Tryd.sizeOf20
  v20 := Tryd.zeroValue20
  t21 := Tryd.underlying21
  a21 := Tryd.isAgg21
  z21 := Tryd.sizeOf21
  v21 := Tryd.zeroValue21
  t37 := Tryd.underlying53
  a37 := Tryd.isAgg53
  z37 := Tryd.sizeOf53
  v37 := Tryd.zeroValue53
  t46 := Tryd.underlying97
  a46 := Tryd.isAgg97
  z46 := Tryd.sizeOf97
  v46 := Tryd.zeroValue97
  t51 := Tryd.underlying107
  a51 := Tryd.isAgg107
  z51 := Tryd.sizeOf107
  v51 := Tryd.zeroValue107
  t70 := Tryd.underlying69
  a70 := Tryd.isAgg69
  z70 := Tryd.sizeOf69
  v70 := Tryd.zeroValue69
  t72 := Tryd.underlying71
  a72 := Tryd.isAgg71
  z72 := Tryd.sizeOf71
  v72 := Tryd.zeroValue71
  t75 := Tryd.underlying76
  a75 := Tryd.isAgg76
  z75 := Tryd.sizeOf76
  v75 := Tryd.zeroValue76
  t164 := Tryd.underlying105
  a164 := Tryd.isAgg105
  z164 := Tryd.sizeOf105
  v164 := Tryd.zeroValue105 }
theorem Tryd.Builder_Extra_168 : Builder.Extra Tryd.prog Tryd.lays168_ren := {
  sizeBuilder := by kernel_rfl
  liesBuilder := by kernel_rfl
  t5 := Tryd.underlying5
  a5 := Tryd.isAgg5
  z5 := Tryd.sizeOf5
  v5 := Tryd.zeroValue5
  infoByte := by kernel_rfl
  cellsByte := by kernel_rfl
  sizeByte := by kernel_rfl
  neB5 := by decide }
def Tryd.lays169_ren : Go.Shelf.Ren := ⟨fun | 169 => 49 | n => n, fun | 0 => 0 | 3 => 3 | 5 => 5 | 9 => 9 | 37 => 53 | 70 => 69 | 72 => 71 | 127 => 93 | n => n, fun | n => n⟩
theorem Tryd.lays169 : Go.Proofs.Lays.n169 Tryd.prog Tryd.lays169_ren := {
  mixed := by kernel_rfl
  f169 := Tryd.func49.trans (congrArg some (by kernel_rfl))
  t0 := Tryd.underlying0
  a0 := Tryd.isAgg0
  z0 := Tryd.sizeOf0
  v0 := Tryd.zeroValue0
  t3 := Tryd.underlying3
  a3 := Tryd.isAgg3
  z3 := Tryd.sizeOf3
  v3 := Tryd.zeroValue3
  t9 := Tryd.underlying9
  a9 := Tryd.isAgg9
  z9 := Tryd.sizeOf9
  v9 := Tryd.zeroValue9
  t37 := Tryd.underlying53
  a37 := Tryd.isAgg53
  z37 := Tryd.sizeOf53
  v37 := Tryd.zeroValue53
  t70 := Tryd.underlying69
  a70 := Tryd.isAgg69
  z70 := Tryd.sizeOf69
  v70 := Tryd.zeroValue69
  t72 := Tryd.underlying71
  a72 := Tryd.isAgg71
  z72 := Tryd.sizeOf71
  v72 := Tryd.zeroValue71
  t127 := Tryd.underlying93
  a127 := Tryd.isAgg93
  z127 := Tryd.sizeOf93
  v127 := Tryd.zeroValue93 }
theorem Tryd.Builder_Extra_169 : Builder.Extra Tryd.prog Tryd.lays169_ren := {
  sizeBuilder := by kernel_rfl
  liesBuilder := by kernel_rfl
  t5 := Tryd.underlying5
  a5 := Tryd.isAgg5
  z5 := Tryd.sizeOf5
  v5 := Tryd.zeroValue5
  infoByte := by kernel_rfl
  cellsByte := by kernel_rfl
  sizeByte := by kernel_rfl
  neB5 := by decide }
open Go.RowKit in
theorem Tryd.writeRune (B b : Nat) (bs : List Value) (r : Int) (hr0 : -2147483648 ≤ r) (hr1 : r ≤ 2147483647) (w : World) (h : Lib.IsBuilderF 71 5 B b bs w) (hlen : bs.length + 4 ≤ 140737488355328) (hBw : B ≤ w.heap.size) :
    Calls Tryd.prog 48 #[.pointer (some ⟨b, 0, none⟩), .int .i32 r] w fun e w' => e = .returned (.tuple #[.int .i64 (Lib.runeCells r).length, .nilIface]) ∧ (Lib.BuilderAtF 71 5 B b (.pointer (some ⟨b, 0, none⟩)) (bs ++ Lib.runeCells r) w' ∧ Below B w w' ∧ Lib.OthersKept 5 (some b) w w') := Any.Builder_WriteRune_k Tryd.lays168 Tryd.Builder_Extra_168 B b bs r hr0 hr1 w h hlen hBw
open Go.RowKit in
theorem Tryd.builderString (B b : Nat) (l : List UInt8) (w : World) (h : Lib.IsBuilderF 71 5 B b (Lib.byteCells l) w) (hBw : B ≤ w.heap.size) :
    Calls Tryd.prog 49 #[.pointer (some ⟨b, 0, none⟩)] w fun e w' => e = .returned (.string ⟨l.toArray⟩) ∧ (Lib.IsBuilderF 71 5 B b (Lib.byteCells l) w' ∧ Below B w w' ∧ Lib.OthersKept 5 (some b) w w') := Any.Builder_String_any_k Tryd.lays169 Tryd.Builder_Extra_169 B b l w h hBw
end Go.Proofs
/- What the library says of a Builder's WriteString, over this program. -/
namespace Go.Proofs
open Go.Shelf

def Tryd.lays166_ren : Go.Shelf.Ren := ⟨fun | 166 => 52 | 240 => 68 | 276 => 85 | n => n, fun | 0 => 0 | 3 => 3 | 4 => 4 | 5 => 5 | 9 => 9 | 20 => 20 | 37 => 53 | 70 => 69 | 72 => 71 | 75 => 76 | 80 => 65 | 164 => 105 | n => n, fun | n => n⟩
theorem Tryd.lays166 : Go.Proofs.Lays.n166 Tryd.prog Tryd.lays166_ren := {
  mixed := by kernel_rfl
  f166 := Tryd.func52.trans (congrArg some (by kernel_rfl))
  f240 := Tryd.func68.trans (congrArg some (by kernel_rfl))
  f276 := Tryd.func85.trans (congrArg some (by kernel_rfl))
  t0 := Tryd.underlying0
  a0 := Tryd.isAgg0
  z0 := Tryd.sizeOf0
  v0 := Tryd.zeroValue0
  t3 := Tryd.underlying3
  a3 := Tryd.isAgg3
  z3 := Tryd.sizeOf3
  v3 := Tryd.zeroValue3
  t4 := Tryd.underlying4
  a4 := Tryd.isAgg4
  z4 := Tryd.sizeOf4
  v4 := Tryd.zeroValue4
  t9 := Tryd.underlying9
  a9 := Tryd.isAgg9
  z9 := Tryd.sizeOf9
  v9 := Tryd.zeroValue9
  t20 := Tryd.underlying20
  a20 := Tryd.isAgg20
  z20 := Tryd.sizeOf20
  v20 := Tryd.zeroValue20
  t37 := Tryd.underlying53
  a37 := Tryd.isAgg53
  z37 := Tryd.sizeOf53
  v37 := Tryd.zeroValue53
  t70 := Tryd.underlying69
  a70 := Tryd.isAgg69
  z70 := Tryd.sizeOf69
  v70 := Tryd.zeroValue69
  t72 := Tryd.underlying71
  a72 := Tryd.isAgg71
  z72 := Tryd.sizeOf71
  v72 := Tryd.zeroValue71
  t75 := Tryd.underlying76
  a75 := Tryd.isAgg76
  z75 := Tryd.sizeOf76
  v75 := Tryd.zeroValue76
  t164 := Tryd.underlying105
  a164 := Tryd.isAgg105
  z164 := Tryd.sizeOf105
  v164 := Tryd.zeroValue105 }
theorem Tryd.Builder_Extra_166 : Builder.Extra Tryd.prog Tryd.lays166_ren := {
  sizeBuilder := by kernel_rfl
  liesBuilder := by kernel_rfl
  t5 := Tryd.underlying5
  a5 := Tryd.isAgg5
  z5 := Tryd.sizeOf5
  v5 := Tryd.zeroValue5
  infoByte := by kernel_rfl
  cellsByte := by kernel_rfl
  sizeByte := by kernel_rfl
  neB5 := by decide }
open Go.RowKit in
theorem Tryd.writeString (B b : Nat) (bs : List Value) (s : ByteArray) (w : World) (h : Lib.IsBuilderF 71 5 B b bs w) (hlen : bs.length + s.size ≤ 140737488355328) (hBw : B ≤ w.heap.size) :
    Calls Tryd.prog 52 #[.pointer (some ⟨b, 0, none⟩), .string s] w fun e w' => e = .returned (.tuple #[.int .i64 s.size, .nilIface]) ∧ (Lib.BuilderAtF 71 5 B b (.pointer (some ⟨b, 0, none⟩)) (bs ++ Lib.strCells s) w' ∧ Below B w w' ∧ Lib.OthersKept 5 (some b) w w') := Any.Builder_WriteString_k Tryd.lays166 Tryd.Builder_Extra_166 B b bs s w h hlen hBw
end Go.Proofs
