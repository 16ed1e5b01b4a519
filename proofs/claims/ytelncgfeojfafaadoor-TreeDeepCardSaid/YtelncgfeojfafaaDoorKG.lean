/- accepts: whether a node may be a child of a parent. -/
import Derived.Test.YtelncgfeojfafaaDoorKC
import Derived.Test.YtelncgfeojfafaaDoorKF
namespace Go.Proofs.YtelncgfeojfafaaDoor
open Go.RowKit
set_option linter.unusedVariables false
set_option linter.unusedSimpArgs false

namespace Tr
def acceptsG (g : G) (p h : Int) : Bool :=
  if kindOf g p = 2 then kindOf g h != 1 else if kindOf g p = 1 then (kindOf g h == 4 || (kindOf g h == 2 && !otherG g p h)) else false
end Tr

set_option maxRecDepth 100000 in
set_option maxHeartbeats 2000000 in
theorem accepts_any (base B : Nat) (b s root p h : Int) (live n : Nat) (g : Tr.G) (av : Int → Tr.Sl) (fr : List Nat) (vs vf : Value) (np nh : Tr.GN) (w : World) (hm : TV base w B b s vs n (Tr.raw g av) vf fr live root) (hS : Sound b s n (Tr.raw g av) fr live) (hw : Tr.WF 0 g) (ep : g p = some np) (eh : g h = some nh) :
    Calls Tryd.prog 17 #[.pointer (some ⟨B, 0, none⟩), .int .i64 p, .int .i64 h] w fun e w' => e = .returned (.bool (Tr.acceptsG g p h)) ∧ Below w.heap.size w w' := by
  have hpi := (tmem_i64 hS (h := p) (by rw [raw_isSome, ep]; rfl)).1
  have hkp := Tr.kindOf_some ep
  have hkh := Tr.kindOf_some eh
  obtain ⟨kp, hkp0⟩ : ∃ k, np.kind = k := ⟨_, rfl⟩
  obtain ⟨kh, hkh0⟩ : ∃ k, nh.kind = k := ⟨_, rfl⟩
  rw [hkp0] at hkp
  rw [hkh0] at hkh
  have hacc : Tr.acceptsG g p h = if kp = 2 then kh != 1 else if kp = 1 then (kh == 4 || (kh == 2 && !Tr.otherG g p h)) else false := by unfold Tr.acceptsG; rw [hkp, hkh]
  have hA := fun (W : World) (hb : Below w.heap.size w W) => at_tv base B b s root h live n _ fr vs vf _ W (hm.below hb) hS (Tr.raw_some (av := av) eh)
  have hP := fun (W : World) (hb : Below w.heap.size w W) => at_tv base B b s root p live n _ fr vs vf _ W (hm.below hb) hS (Tr.raw_some (av := av) ep)
  have hO := fun (W : World) (hb : Below w.heap.size w W) => other_any base B b s root p h live n g av fr vs vf W (hm.below hb) hS hw hpi
  have kA : ∀ (W : World) (gb o : Nat), Below w.heap.size w W → PtrTo b s vs n gb o h → W.cell? ⟨gb, o, none⟩ = some (.int .i64 kh) := fun W gb o hb hpt => by
    rw [← hkh0]; exact ((hm.below hb).np hpt (Tr.raw_some (av := av) eh)).cells.1
  have kP : ∀ (W : World) (gb o : Nat), Below w.heap.size w W → PtrTo b s vs n gb o p → W.cell? ⟨gb, o, none⟩ = some (.int .i64 kp) := fun W gb o hb hpt => by
    rw [← hkp0]; exact ((hm.below hb).np hpt (Tr.raw_some (av := av) ep)).cells.1
  rw [hacc]
  obtain ⟨OT, hOT⟩ : ∃ O, Tr.otherG g p h = O := ⟨_, rfl⟩
  rw [hOT] at hO ⊢
  have HA := Lib.hid hA
  have HP := Lib.hid hP
  have HO := Lib.hid hO
  have KA := Lib.hid kA
  have KP := Lib.hid kP
  clear hA hP hO kA kP hm hS hacc hkp hkh hkp0 hkh0 ep eh hOT hw
  have main : ∀ r : Bool, ((kp = 2 ∧ r = (kh != 1)) ∨ (kp = 1 ∧ kh = 4 ∧ r = true) ∨ (kp = 1 ∧ kh = 2 ∧ r = !OT) ∨ (kp = 1 ∧ kh ≠ 4 ∧ kh ≠ 2 ∧ r = false) ∨ (kp ≠ 2 ∧ kp ≠ 1 ∧ r = false)) →
      Calls Tryd.prog 17 #[.pointer (some ⟨B, 0, none⟩), .int .i64 p, .int .i64 h] w fun e w' => e = .returned (.bool r) ∧ Below w.heap.size w w' := by
    intro r hr
    have hq : ((kp == 2) = true ∧ r = (kh != 1)) ∨ ((kp == 2) = false ∧ (kp == 1) = true ∧ (kh == 4) = true ∧ r = true) ∨ ((kp == 2) = false ∧ (kp == 1) = true ∧ (kh == 4) = false ∧ (kh == 2) = true ∧ r = !OT) ∨ ((kp == 2) = false ∧ (kp == 1) = true ∧ (kh == 4) = false ∧ (kh == 2) = false ∧ r = false) ∨ ((kp == 2) = false ∧ (kp == 1) = false ∧ r = false) := by
      rcases hr with ⟨h1, h2⟩ | ⟨h1, h2, h3⟩ | ⟨h1, h2, h3⟩ | ⟨h1, h2, h3, h4⟩ | ⟨h1, h2, h3⟩
      · exact .inl ⟨by simp [h1], h2⟩
      · exact .inr (.inl ⟨by simp [h1], by simp [h1], by simp [h2], h3⟩)
      · exact .inr (.inr (.inl ⟨by simp [h1], by simp [h1], by simp [h2], by simp [h2], h3⟩))
      · exact .inr (.inr (.inr (.inl ⟨by simp [h1], by simp [h1], by simpa using h2, by simpa using h3, h4⟩)))
      · exact .inr (.inr (.inr (.inr ⟨by simpa using h1, by simpa using h2, h3⟩)))
    clear hr
    have HR := Lib.hid hq
    clear hq
    go_enter Tryd.func17, Tryd.ntmps17
    go_wp2_with fail
    refine (HA.out w (Below.refl _ _)).mono ?_
    rintro e w2 ⟨g2, o2, rfl, hpt2, hb2⟩
    have c2 := KA.out w2 g2 o2 hb2 hpt2
    go_wp2_with fail
    refine (HP.out w2 hb2).mono ?_
    rintro e w3 ⟨g3, o3, rfl, hpt3, hb3⟩
    have hb03 := hb2.trans (hb3.mono hb2.size)
    have c3 := KP.out w3 g3 o3 hb03 hpt3
    rcases HR.out with ⟨h1, h2⟩ | ⟨h1, h2, h3, h4⟩ | ⟨h1, h2, h3, h4, h5⟩ | ⟨h1, h2, h3, h4, h5⟩ | ⟨h1, h2, h3⟩
    · subst h2
      go_wp2_with fail
      go_ret
      exact ⟨rfl, hb03⟩
    · subst h4
      go_wp2_with fail
      go_ret
      exact ⟨rfl, hb03⟩
    · subst h5
      go_wp2_with fail
      refine (HO.out w3 hb03).mono ?_
      rintro e w4 ⟨rfl, hb4⟩
      have hb04 := hb03.trans (hb4.mono hb03.size)
      go_wp2_with fail
      go_ret
      exact ⟨rfl, hb04⟩
    · subst h5
      go_wp2_with fail
      go_ret
      exact ⟨rfl, hb03⟩
    · subst h3
      go_wp2_with fail
      go_ret
      exact ⟨rfl, hb03⟩
  refine main _ ?_
  by_cases h1 : kp = 2
  · left; exact ⟨h1, by rw [if_pos h1]⟩
  · right
    by_cases h2 : kp = 1
    · by_cases h3 : kh = 4
      · left; exact ⟨h2, h3, by rw [if_neg h1, if_pos h2, h3]; rfl⟩
      · right
        by_cases h4 : kh = 2
        · left; exact ⟨h2, h4, by rw [if_neg h1, if_pos h2, h4]; rfl⟩
        · right; left
          exact ⟨h2, h3, h4, by rw [if_neg h1, if_pos h2]; simp [h3, h4]⟩
    · right; right; right
      exact ⟨h1, h2, by rw [if_neg h1, if_neg h2]⟩
end Go.Proofs.YtelncgfeojfafaaDoor

/- Insert: its errors. -/
namespace Go.Proofs.YtelncgfeojfafaaDoor
open Go.RowKit
set_option linter.unusedVariables false
set_option linter.unusedSimpArgs false

theorem bne_false {a c : Int} (h : a = c) : (a != c) = false := by simp [h]
theorem bne_true {a c : Int} (h : a ≠ c) : (a != c) = true := by simpa using h
theorem beq_false' {a c : Int} (h : a ≠ c) : (a == c) = false := by simpa using h
theorem beq_true' {a c : Int} (h : a = c) : (a == c) = true := by simpa using h

/-- Two results: nothing, and an error. -/
abbrev errV (k : Int) : Value := .tuple #[.slice none 0 0, .int .i64 k]

set_option maxRecDepth 100000 in
set_option maxHeartbeats 2000000 in
theorem insert_none (base B : Nat) (b s root p h c : Int) (live n : Nat) (R : Int → Option Tr.Nd) (fr : List Nat) (vs vf : Value) (w : World) (hm : TV base w B b s vs n R vf fr live root) (hS : Sound b s n R fr live) (hp : I64 p) (hh : I64 h) (hc : I64 c)
    (hno : R p = none ∨ R h = none ∨ (c ≠ 0 ∧ R c = none)) :
    Calls Tryd.prog 7 #[.pointer (some ⟨B, 0, none⟩), .int .i64 p, .int .i64 h, .int .i64 c] w fun e w' => e = .returned (errV 6) ∧ Below w.heap.size w w' := by
  have H := fun (x : Int) (hx : I64 x) (W : World) (hb : Below w.heap.size w W) => has_any base B b s root x live n R fr vs vf W (hm.below hb) hS hx
  have HH := Lib.hid H
  clear hm hS H
  cases e1 : R p with
  | none =>
    go_enter Tryd.func7, Tryd.ntmps7
    go_wp2_with fail
    refine (HH.out p hp w (Below.refl _ _)).mono ?_
    rintro e w2 ⟨rfl, hb2⟩
    rw [e1]
    clear e1 hno
    go_wp2_with fail
    go_ret2
    exact ⟨rfl, hb2⟩
  | some d1 =>
    cases e2 : R h with
    | none =>
      go_enter Tryd.func7, Tryd.ntmps7
      go_wp2_with fail
      refine (HH.out p hp w (Below.refl _ _)).mono ?_
      rintro e w2 ⟨rfl, hb2⟩
      rw [e1]
      have H2 := HH.out h hh w2 hb2
      rw [e2] at H2
      clear e1 e2 hno
      go_wp2_with fail
      refine H2.mono ?_
      rintro e w3 ⟨rfl, hb3⟩
      have hb03 := hb2.trans (hb3.mono hb2.size)
      clear H2
      go_wp2_with fail
      go_ret2
      exact ⟨rfl, hb03⟩
    | some d2 =>
      obtain ⟨hc0, e3⟩ : c ≠ 0 ∧ R c = none := by
        rcases hno with h1 | h1 | h1
        · rw [e1] at h1; cases h1
        · rw [e2] at h1; cases h1
        · exact h1
      have hq := bne_true hc0
      go_enter Tryd.func7, Tryd.ntmps7
      go_wp2_with fail
      refine (HH.out p hp w (Below.refl _ _)).mono ?_
      rintro e w2 ⟨rfl, hb2⟩
      rw [e1]
      have H2 := HH.out h hh w2 hb2
      rw [e2] at H2
      clear e1 e2 hno
      go_wp2_with fail
      refine H2.mono ?_
      rintro e w3 ⟨rfl, hb3⟩
      have hb03 := hb2.trans (hb3.mono hb2.size)
      have H3 := HH.out c hc w3 hb03
      rw [e3] at H3
      clear H2 e3
      go_wp2_with fail
      refine H3.mono ?_
      rintro e w4 ⟨rfl, hb4⟩
      have hb04 := hb03.trans (hb4.mono hb03.size)
      clear H3
      go_wp2_with fail
      go_ret2
      exact ⟨rfl, hb04⟩

/-- The nodes are there: how Insert begins. -/
structure InsIn (base B : Nat) (b s root p h c : Int) (live n : Nat) (g : Tr.G) (av : Int → Tr.Sl) (fr : List Nat) (vs vf : Value) (np nh : Tr.GN) (w : World) : Prop where
  tree : TV base w B b s vs n (Tr.raw g av) vf fr live root
  sound : Sound b s n (Tr.raw g av) fr live
  wf : Tr.WF 0 g
  ep : g p = some np
  eh : g h = some nh
  ec : c ≠ 0 → (g c).isSome
section
variable {base B n live : Nat} {b s root p h c : Int} {g : Tr.G} {av : Int → Tr.Sl} {fr : List Nat} {vs vf : Value} {np nh : Tr.GN} {w w' : World}
theorem InsIn.has (H : InsIn base B b s root p h c live n g av fr vs vf np nh w) (hb : Below w.heap.size w w') {x : Int} (hx : (g x).isSome) :
    Calls Tryd.prog 16 #[.pointer (some ⟨B, 0, none⟩), .int .i64 x] w' fun e w2 => e = .returned (.bool true) ∧ Below w'.heap.size w' w2 := by
  have := has_any base B b s root x live n (Tr.raw g av) fr vs vf w' (H.tree.below hb) H.sound (tmem_i64 H.sound (h := x) (by rw [raw_isSome]; exact hx)).1
  rw [raw_isSome, hx] at this
  exact this
theorem InsIn.paOf (H : InsIn base B b s root p h c live n g av fr vs vf np nh w) (hb : Below w.heap.size w w') (hc : c ≠ 0) :
    Calls Tryd.prog 19 #[.pointer (some ⟨B, 0, none⟩), .int .i64 c] w' fun e w2 => ∃ gb o, e = .returned (.pointer (some ⟨gb, o, none⟩)) ∧ w2.cell? ⟨gb, o + 4, none⟩ = some (.int .i64 (Tr.paOf g c)) ∧ Below w'.heap.size w' w2 := by
  obtain ⟨m, em⟩ := Option.isSome_iff_exists.1 (H.ec hc)
  refine (at_tv base B b s root c live n _ fr vs vf _ w' (H.tree.below hb) H.sound (Tr.raw_some em)).mono ?_
  rintro e w2 ⟨gb, o, rfl, hpt, hb2⟩
  refine ⟨gb, o, rfl, ?_, hb2⟩
  obtain ⟨_, _, _, _, t4, _⟩ := (((H.tree.below hb).below hb2).np hpt (Tr.raw_some em)).cells
  rw [t4, Tr.paOf_some em]; rfl
end

set_option maxRecDepth 100000 in
set_option maxHeartbeats 4000000 in
theorem insert_tree (base B : Nat) (b s root p h c : Int) (live n : Nat) (g : Tr.G) (av : Int → Tr.Sl) (fr : List Nat) (vs vf : Value) (np nh : Tr.GN) (w : World) (H : InsIn base B b s root p h c live n g av fr vs vf np nh w)
    (hno : Tr.acceptsG g p h = false ∨ h ∈ Tr.upG g p ∨ (c ≠ 0 ∧ Tr.paOf g c ≠ p)) :
    Calls Tryd.prog 7 #[.pointer (some ⟨B, 0, none⟩), .int .i64 p, .int .i64 h, .int .i64 c] w fun e w' => e = .returned (errV 10) ∧ Below w.heap.size w w' := by
  have hpi := (tmem_i64 H.sound (h := p) (by rw [raw_isSome, H.ep]; rfl)).1
  have HP := Lib.hid (H.has (Below.refl _ w) (x := p) (by rw [H.ep]; rfl))
  have HHh := Lib.hid (fun (W : World) (hb : Below w.heap.size w W) => H.has hb (x := h) (by rw [H.eh]; rfl))
  have HHc := Lib.hid (fun (W : World) (hb : Below w.heap.size w W) (hc : c ≠ 0) => H.has hb (x := c) (H.ec hc))
  have HA := Lib.hid (fun (W : World) (hb : Below w.heap.size w W) => accepts_any base B b s root p h live n g av fr vs vf np nh W (H.tree.below hb) H.sound H.wf H.ep H.eh)
  have HC := Lib.hid (fun (W : World) (hb : Below w.heap.size w W) => contains_any base B b s root h p live n g av fr vs vf W (H.tree.below hb) H.sound H.wf hpi)
  have HPa := Lib.hid (fun (W : World) (hb : Below w.heap.size w W) (hc : c ≠ 0) => H.paOf hb hc)
  have HN := Lib.hid hno
  have HI := Lib.hid H
  clear H hno
  have key : ∀ (w2 w3 : World), Below w2.heap.size w2 w3 → Below w.heap.size w w2 → Below w.heap.size w w3 := fun w2 w3 h h' => h'.trans (h.mono h'.size)
  by_cases hc0 : c = 0
  · have hq := bne_false hc0
    go_enter Tryd.func7, Tryd.ntmps7
    go_wp2_with fail
    refine HP.out.mono ?_
    rintro e w2 ⟨rfl, hb2⟩
    go_wp2_with fail
    refine (HHh.out w2 hb2).mono ?_
    rintro e w3 ⟨rfl, hb3⟩
    have hb03 := key _ _ hb3 hb2
    go_wp2_with fail
    refine (HA.out w3 hb03).mono ?_
    rintro e w4 ⟨rfl, hb4⟩
    have hb04 := key _ _ hb4 hb03
    cases ha : Tr.acceptsG g p h with
    | false =>
      clear ha
      go_wp2_with fail
      go_ret2
      exact ⟨rfl, hb04⟩
    | true =>
      have hu : decide (h ∈ Tr.upG g p) = true := by
        rcases HN.out with h1 | h1 | ⟨h1, _⟩
        · rw [ha] at h1; cases h1
        · exact decide_eq_true h1
        · exact absurd hc0 h1
      have HC4 := HC.out w4 hb04
      rw [hu] at HC4
      clear ha hu
      go_wp2_with fail
      refine HC4.mono ?_
      rintro e w5 ⟨rfl, hb5⟩
      have hb05 := key _ _ hb5 hb04
      clear HC4
      go_wp2_with fail
      go_ret2
      exact ⟨rfl, hb05⟩
  · have hq := bne_true hc0
    go_enter Tryd.func7, Tryd.ntmps7
    go_wp2_with fail
    refine HP.out.mono ?_
    rintro e w2 ⟨rfl, hb2⟩
    go_wp2_with fail
    refine (HHh.out w2 hb2).mono ?_
    rintro e w3' ⟨rfl, hb3'⟩
    have hb03' := key _ _ hb3' hb2
    go_wp2_with fail
    refine (HHc.out w3' hb03' hc0).mono ?_
    rintro e w3 ⟨rfl, hb3⟩
    have hb03 := key _ _ hb3 hb03'
    go_wp2_with fail
    refine (HA.out w3 hb03).mono ?_
    rintro e w4 ⟨rfl, hb4⟩
    have hb04 := key _ _ hb4 hb03
    cases ha : Tr.acceptsG g p h with
    | false =>
      clear ha
      go_wp2_with fail
      go_ret2
      exact ⟨rfl, hb04⟩
    | true =>
      have HC4 := HC.out w4 hb04
      by_cases hu : h ∈ Tr.upG g p
      · rw [decide_eq_true hu] at HC4
        clear ha hu
        go_wp2_with fail
        refine HC4.mono ?_
        rintro e w5 ⟨rfl, hb5⟩
        have hb05 := key _ _ hb5 hb04
        clear HC4
        go_wp2_with fail
        go_ret2
        exact ⟨rfl, hb05⟩
      · rw [decide_eq_false hu] at HC4
        have hpc : Tr.paOf g c ≠ p := by
          rcases HN.out with h1 | h1 | ⟨_, h1⟩
          · rw [ha] at h1; cases h1
          · exact absurd h1 hu
          · exact h1
        have hq3 := bne_true hpc
        clear ha hu hpc
        go_wp2_with fail
        refine HC4.mono ?_
        rintro e w5 ⟨rfl, hb5⟩
        have hb05 := key _ _ hb5 hb04
        have HP5 := HPa.out w5 hb05 hc0
        clear HC4
        go_wp2_with fail
        refine HP5.mono ?_
        rintro e w6 ⟨gb, o, rfl, k4, hb6⟩
        have hb06 := key _ _ hb6 hb05
        clear HP5
        go_wp2_with fail
        go_ret2
        exact ⟨rfl, hb06⟩
end Go.Proofs.YtelncgfeojfafaaDoor

/- cut and link by whole trees; what Insert needs of them. -/
namespace Go.Proofs.YtelncgfeojfafaaDoor
open Go.RowKit
set_option linter.unusedVariables false
set_option linter.unusedSimpArgs false

namespace Tr
/-- A node taken from its parent, if it has one. -/
def cut1 (g : G) (h : Int) : G := if paOf g h = 0 then g else cutG g h
def recs1 (g : G) (h : Int) : List Rec := if paOf g h = 0 then [] else [placeG g 2 h]
section
variable {g : G} {h p c : Int} {n q : GN}
theorem WF.cut1 (w : WF 0 g) (e : g h = some n) : WF 0 (cut1 g h) := by
  unfold Tr.cut1; split
  · exact w
  · exact w.cut e
theorem cut1_self (e : g h = some n) : cut1 g h h = some { n with pa := 0 } := by
  unfold cut1
  split
  · rename_i hp
    rw [paOf_some e] at hp
    rw [e]
    cases n; simp only at hp; subst hp; rfl
  · exact cutG_self e
theorem cut1_attrs {x : Int} {m' : GN} (ex : cut1 g h x = some m') : ∃ m, g x = some m ∧ m.attrs = m'.attrs ∧ m.kind = m'.kind ∧ m.name = m'.name ∧ m.data = m'.data := by
  unfold cut1 at ex
  split at ex
  · exact ⟨m', ex, rfl, rfl, rfl, rfl⟩
  · unfold cutG at ex
    split at ex
    · rename_i e; subst e
      cases eg : g x with
      | none => rw [eg] at ex; cases ex
      | some m => rw [eg] at ex; obtain rfl := Option.some.inj ex; exact ⟨m, rfl, rfl, rfl, rfl, rfl⟩
    · split at ex
      · cases eg : g x with
        | none => rw [eg] at ex; cases ex
        | some m => rw [eg] at ex; obtain rfl := Option.some.inj ex; exact ⟨m, rfl, rfl, rfl, rfl, rfl⟩
      · exact ⟨m', ex, rfl, rfl, rfl, rfl⟩
theorem linkG_attrs {x : Int} {m' : GN} (ex : linkG g p h c x = some m') : ∃ m, g x = some m ∧ m.attrs = m'.attrs ∧ m.kind = m'.kind ∧ m.name = m'.name ∧ m.data = m'.data := by
  unfold linkG at ex
  split at ex
  · rename_i e; subst e
    cases eg : g x with
    | none => rw [eg] at ex; cases ex
    | some m => rw [eg] at ex; obtain rfl := Option.some.inj ex; exact ⟨m, rfl, rfl, rfl, rfl, rfl⟩
  · split at ex
    · rename_i e; subst e
      cases eg : g x with
      | none => rw [eg] at ex; cases ex
      | some m => rw [eg] at ex; obtain rfl := Option.some.inj ex; exact ⟨m, rfl, rfl, rfl, rfl, rfl⟩
    · exact ⟨m', ex, rfl, rfl, rfl, rfl⟩
theorem WF.up_cut (w : WF 0 g) (e : g h = some n) {x : Int} (hx : h ∉ upG g x) : upG (Tr.cut1 g h) x = upG g x := by
  unfold Tr.cut1
  split
  · rfl
  · refine (w.cut e).upG_of ?_
    have key : ∀ (x : Int) (l : List Int), Up g x l → h ∉ l → Up (cutG g h) x l := by
      intro x l u
      induction u with
      | @out y e1 =>
        intro _
        refine .out ?_
        have := cutG_isSome (g := g) (h := h) (x := y)
        rw [e1] at this
        exact Option.not_isSome_iff_eq_none.1 (by rw [this]; simp)
      | @node y m l e1 u ih =>
        intro hm
        simp only [List.mem_cons, not_or] at hm
        have := cutG_isSome (g := g) (h := h) (x := y)
        rw [e1] at this
        obtain ⟨m', em'⟩ := Option.isSome_iff_exists.1 this
        obtain ⟨m0, e0, h1, _⟩ := cutG_pa_of em' (fun e2 => hm.1 e2.symm)
        rw [e1] at e0; obtain rfl := Option.some.inj e0
        exact .node em' (by rw [h1]; exact ih hm.2)
    exact key _ _ (w.up_is x).1 hx
theorem WF.hgt_cut (w : WF 0 g) (e : g h = some n) : hgtG (Tr.cut1 g h) h = hgtG g h := by
  have w1 := w.cut1 e
  have key : ∀ x, h ∈ upG g x → hgtG (Tr.cut1 g h) x = hgtG g x := by
    refine w.induct fun x ih => fun hx => ?_
    cases ex : g x with
    | none => rw [w.upG_none ex] at hx; cases hx
    | some m =>
      have hkids : ∃ m', Tr.cut1 g h x = some m' ∧ m'.kids = m.kids := by
        by_cases hxh : x = h
        · rw [hxh, e] at ex; obtain rfl := Option.some.inj ex
          exact ⟨{ n with pa := 0 }, by rw [hxh]; exact cut1_self e, rfl⟩
        · unfold Tr.cut1
          split
          · exact ⟨m, ex, rfl⟩
          · rw [cutG_ne hxh (fun e1 => by
              rw [paOf_some e] at e1
              rw [e1] at hx
              exact w.above e (w.up_is n.pa).1 hx)]
            exact ⟨m, ex, rfl⟩
      obtain ⟨m', em', hk⟩ := hkids
      rw [w1.hgtG_some em', w.hgtG_some ex, hk]
      refine congrArg (fun t : List Nat => t.foldl max 0 + 1) (List.map_congr_left fun k hk2 => ih m ex k hk2 ?_)
      rw [w.up_kid ex hk2]
      exact List.mem_cons_of_mem _ hx
  exact key h (by rw [w.upG_some e]; simp)
/-- Ahead of which child the node comes. -/
def insC (g : G) (h c : Int) : Int := if c = h then nxt (kidsOf g (paOf g h)) h else c
theorem insC_mem (w : WF 0 g) (e : g h = some n) (ep : g p = some q) (hu : h ∉ upG g p) (hc : c = 0 ∨ paOf g c = p ∧ (g c).isSome) :
    ∃ q1, Tr.cut1 g h p = some q1 ∧ (insC g h c = 0 ∨ insC g h c ∈ q1.kids) := by
  have hph : p ≠ h := fun e1 => by rw [w.upG_some ep, e1] at hu; exact hu (by simp)
  have hpz : p ≠ 0 := fun e1 => by rw [e1, w.zero] at ep; cases ep
  have hkids : ∃ q1, Tr.cut1 g h p = some q1 ∧ q1.kids = q.kids.erase h := by
    unfold Tr.cut1
    by_cases hpa : paOf g h = p
    · rw [if_neg (by rw [hpa]; exact hpz)]
      rw [paOf_some e] at hpa
      subst hpa
      exact ⟨_, cutG_pa e (fun e1 => hph e1) ep, rfl⟩
    · have hnk : h ∉ q.kids := fun hm => by
        obtain ⟨m, e1, e2⟩ := w.down p q h ep hm
        exact hpa (by rw [paOf_some e1]; exact e2)
      refine ⟨q, ?_, (List.erase_of_not_mem hnk).symm⟩
      split
      · exact ep
      · rw [cutG_ne hph (fun e1 => hpa e1.symm)]; exact ep
  obtain ⟨q1, e1, e2⟩ := hkids
  refine ⟨q1, e1, ?_⟩
  rw [e2]
  unfold insC
  split
  · rename_i hch
    rcases hc with h0 | ⟨h1, _⟩
    · rw [← hch, h0, w.zero] at e; cases e
    · rw [hch] at h1
      rw [h1, kidsOf_some ep]
      by_cases hz : nxt q.kids h = 0
      · exact .inl hz
      · right
        refine (List.mem_erase_of_ne ?_).2 (nxt_mem hz)
        intro e3
        have hk := w.in_parent e (by rw [← paOf_some e, h1]; exact hpz)
        rw [← paOf_some e, h1, kidsOf_some ep] at hk
        obtain ⟨l1, l2, e4⟩ := List.append_of_mem hk
        have hnd := w.nodup p q ep
        rw [e4] at hnd e3 hz
        have h5 : h ∉ l1 := fun hx => (List.nodup_append.1 hnd).2.2 h hx h (by simp) rfl
        rw [nxt_split h5] at e3 hz
        exact (List.nodup_cons.1 (List.nodup_append.1 hnd).2.1).1 (e3 ▸ fs_mem hz)
  · rename_i hch
    rcases hc with h0 | ⟨h1, h2⟩
    · exact .inl h0
    · right
      obtain ⟨m, em⟩ := Option.isSome_iff_exists.1 h2
      rw [paOf_some em] at h1
      have hk := w.in_parent em (by rw [h1]; exact hpz)
      rw [h1, kidsOf_some ep] at hk
      exact (List.mem_erase_of_ne hch).2 hk
end
end Tr

theorem cut_any (base B : Nat) (b s root h : Int) (live n : Nat) (g : Tr.G) (av : Int → Tr.Sl) (fr : List Nat) (vs vf : Value) (nd : Tr.GN) (w : World) (hm : TV base w B b s vs n (Tr.raw g av) vf fr live root) (hS : Sound b s n (Tr.raw g av) fr live) (hw : Tr.WF 0 g) (eg : g h = some nd) :
    Calls Tryd.prog 22 #[.pointer (some ⟨B, 0, none⟩), .int .i64 h] w fun e w' => ∃ v, e = .returned v ∧ RecRow w.heap.size w' v (Tr.recs1 g h) ∧ TV base w' B b s vs n (Tr.raw (Tr.cut1 g h) av) vf fr live root ∧ AStep w w' (Foot B vs vf) (Foot B vs vf) := by
  unfold Tr.recs1 Tr.cut1
  rw [Tr.paOf_some eg]
  by_cases hp : nd.pa = 0
  · rw [if_pos hp, if_pos hp]
    refine (cut_none base B b s root h live n g av fr vs vf nd w hm hS eg hp).mono ?_
    rintro e w' ⟨rfl, hb⟩
    exact ⟨_, rfl, RecRow.nil _ _, hm.below hb, .of_below hb⟩
  · rw [if_neg hp, if_neg hp]
    exact cut_some base B b s root h live n g av fr vs vf nd w hm hS hw eg hp

theorem sound_cut1 {b s : Int} {n live : Nat} {g : Tr.G} {av : Int → Tr.Sl} {fr : List Nat} {h : Int} {nd : Tr.GN} (hS : Sound b s n (Tr.raw g av) fr live) (hw : Tr.WF 0 g) (eg : g h = some nd) : Sound b s n (Tr.raw (Tr.cut1 g h) av) fr live := by
  unfold Tr.cut1
  split
  · exact hS
  · rename_i hp
    rw [Tr.paOf_some eg] at hp
    rw [Tr.cut_raw hw eg hp]
    exact hS.cutR
theorem sound_link {b s : Int} {n live : Nat} {g : Tr.G} {av : Int → Tr.Sl} {fr : List Nat} {p h c : Int} {nd q : Tr.GN} (hS : Sound b s n (Tr.raw g av) fr live) (hw : Tr.WF 0 g) (eh : g h = some nd) (hn : nd.pa = 0) (ep : g p = some q) (hp : h ≠ p) (hc : c = 0 ∨ c ∈ q.kids) : Sound b s n (Tr.raw (Tr.linkG g p h c) av) fr live := by
  rw [Tr.link_raw hw eh hn ep hp hc]
  exact hS.linked

theorem link_tree (base B : Nat) (b s root p h c : Int) (live n : Nat) (g : Tr.G) (av : Int → Tr.Sl) (fr : List Nat) (vs vf : Value) (nd q : Tr.GN) (w : World) (hm : TV base w B b s vs n (Tr.raw g av) vf fr live root) (hS : Sound b s n (Tr.raw g av) fr live) (hw : Tr.WF 0 g)
    (eh : g h = some nd) (hn : nd.pa = 0) (ep : g p = some q) (hp : h ≠ p) (hc : c = 0 ∨ c ∈ q.kids) :
    Calls Tryd.prog 23 #[.pointer (some ⟨B, 0, none⟩), .int .i64 p, .int .i64 h, .int .i64 c] w fun e w' => (∃ u, e = .returned u) ∧ TV base w' B b s vs n (Tr.raw (Tr.linkG g p h c) av) vf fr live root ∧ AStep w w' (Foot B vs vf) (Foot B vs vf) := by
  rw [Tr.link_raw hw eh hn ep hp hc]
  have hpz : p ≠ 0 := fun e1 => by rw [e1, hw.zero] at ep; cases ep
  have hnk : h ∉ q.kids := fun hm => by
    obtain ⟨m, h1, h2⟩ := hw.down p q h ep hm
    rw [eh] at h1; obtain rfl := Option.some.inj h1
    exact hpz (by rw [← h2, hn])
  have hcm : c ≠ 0 → ∃ mc, g c = some mc ∧ mc.pa = p := fun e => hw.down p q c ep (by rcases hc with h1 | h1; exact absurd h1 e; exact h1)
  have hpvm : (if c = 0 then Tr.lst q.kids else Tr.prv q.kids c) ≠ 0 → (if c = 0 then Tr.lst q.kids else Tr.prv q.kids c) ∈ q.kids := fun e => by
    split at e
    · rename_i h1; rw [if_pos h1]; exact Tr.lst_mem e
    · rename_i h1; rw [if_neg h1]; exact Tr.prv_mem e
  obtain ⟨dc, hdc⟩ := some_or (R := Tr.raw g av) (c := c) (fun e => by obtain ⟨mc, e1, _⟩ := hcm e; exact ⟨_, Tr.raw_some e1⟩)
  obtain ⟨dv, hdv⟩ := some_or (R := Tr.raw g av) (c := if c = 0 then Tr.lst q.kids else Tr.prv q.kids c) (fun e => by obtain ⟨mv, e1, _⟩ := hw.down p q _ ep (hpvm e); exact ⟨_, Tr.raw_some e1⟩)
  refine link_any base B b s root p h c live n _ fr vs vf _ _ dc dv _ w hm hS (Tr.raw_some ep) (Tr.raw_some eh) hdc ?_ hdv hp (fun e e1 => ?_) (fun e e1 => hnk (by rw [e1]; exact hpvm e))
  · by_cases h1 : c = 0
    · rw [if_pos h1, if_pos h1]; rfl
    · rw [if_neg h1, if_neg h1]
      obtain ⟨mc, e1, e2⟩ := hcm h1
      have := hdc h1
      rw [Tr.raw_some e1] at this
      obtain rfl := Option.some.inj this
      show _ = Tr.prv (Tr.kidsOf g mc.pa) c
      rw [e2, Tr.kidsOf_some ep]
  · rcases hc with h1 | h1
    · exact e h1
    · exact hnk (e1 ▸ h1)
end Go.Proofs.YtelncgfeojfafaaDoor

/- Insert: too deep, or done. -/
namespace Go.Proofs.YtelncgfeojfafaaDoor
open Go.RowKit
set_option linter.unusedVariables false
set_option linter.unusedSimpArgs false

theorem recInfo : (Tryd.prog.info? 41).map (fun i => (i.zero, i.size, i.bytes)) = some (some (.agg #[.int .i64 0, .int .i64 0, .int .i64 0, .int .i64 0, .int .i64 0, .int .i64 0, .string ⟨#[]⟩, .string ⟨#[]⟩, .bool false, .int .i64 0, .int .i64 0]), 11, 104) := by kernel_rfl
theorem rcells_append (l m : List Tr.Rec) : rcells (l ++ m) = rcells l ++ rcells m := by simp [rcells]
theorem rc_one (r : Tr.Rec) : ∀ u ∈ rcells [r], u.oneCell' = true := fun u hu => by
  simp only [rcells, rcC, List.flatMap_cons, List.flatMap_nil, List.append_nil, List.mem_cons, List.not_mem_nil, or_false] at hu
  rcases hu with rfl | rfl | rfl | rfl | rfl | rfl | rfl | rfl | rfl | rfl | rfl <;> rfl
theorem own_lower {w : World} {b1 b2 size : Nat} {e : TypeId} {v : Value} {n : Nat} {xs : List Value} (h : w.ownsRow b1 e size v n xs) (hb : b2 ≤ b1) : w.ownsRow b2 e size v n xs := by
  refine ⟨h.1, ?_⟩
  rcases h.2 with hn | ⟨g, cap, cur, hv, h0, hr⟩
  · exact .inl hn
  · exact .inr ⟨g, cap, cur, hv, Nat.le_trans hb h0, hr⟩
theorem RecRow.lower {b1 b2 : Nat} {w : World} {v : Value} {l : List Tr.Rec} (h : RecRow b1 w v l) (hb : b2 ≤ b1) : RecRow b2 w v l := own_lower h hb
theorem RecRow.below {b : Nat} {w w' : World} {v : Value} {l : List Tr.Rec} (h : RecRow b w v l) (hb : Below w.heap.size w w') : RecRow b w' v l := own_turns (S := fun _ => False) h (.of_below hb) (fun _ _ => id)
section
variable {base B n live : Nat} {w w1 : World} {b s root : Int} {vs vf : Value} {R : Int → Option Tr.Nd} {fr : List Nat}
/-- A row of another kind than a tree's blocks. -/
theorem TV.apart {b2 size m : Nat} {e : TypeId} {v : Value} {xs : List Value} (hM : TV base w B b s vs n R vf fr live root) (h : w.ownsRow b2 e size v m xs) (h1 : e ≠ 32) (h2 : e ≠ 64) (h3 : e ≠ 3) : ∀ k, v.ownBlock = some k → ¬ Foot B vs vf k := by
  rintro k hk (rfl | hx | hx)
  · exact own_unlike h hM.var h1 hk
  · rcases own_ne h hM.row h2 with h4 | h4
    · rw [h4] at hk; cases hk
    · exact h4 (hk.trans hx.symm)
  · rcases own_ne h hM.free h3 with h4 | h4
    · rw [h4] at hk; cases hk
    · exact h4 (hk.trans hx.symm)
theorem RecRow.step {b2 : Nat} {v : Value} {l : List Tr.Rec} {F' : Nat → Prop} (h : RecRow b2 w v l) (hM : TV base w B b s vs n R vf fr live root) (st : AStep w w1 (Foot B vs vf) F') : RecRow b2 w1 v l :=
  own_turns h st.1 (hM.apart h (by decide) (by decide) (by decide))
theorem TV.grown_rec {b2 : Nat} {v : Value} {l : List Tr.Rec} (hM : TV base w B b s vs n R vf fr live root) (h : RecRow b2 w v l) (g : w.grownBy w1 v.ownBlock) : TV base w1 B b s vs n R vf fr live root :=
  hM.turns (S := fun k => v.ownBlock = some k) (.of_grown g (fun k hk => hk)) (fun k hk e => hM.apart h (by decide) (by decide) (by decide) k e hk)
theorem AStep.rec_grown {F F' : Nat → Prop} {w2 : World} {S : Nat → Prop} (st : AStep w w1 F F') (h : Turns S w1 w2) (hS : ∀ k, S k → w.heap.size ≤ k) : AStep w w2 F F' :=
  ⟨st.1.trans h (fun _ _ x => x) (fun k hk x => absurd hk (Nat.not_lt.2 (hS k x))), st.2⟩
theorem InsIn.next {p h c : Int} {g : Tr.G} {av : Int → Tr.Sl} {np nh : Tr.GN} {w' : World} (H : InsIn base B b s root p h c live n g av fr vs vf np nh w) (hb : Below w.heap.size w w') :
    Calls Tryd.prog 19 #[.pointer (some ⟨B, 0, none⟩), .int .i64 h] w' fun e w2 => ∃ gb o, e = .returned (.pointer (some ⟨gb, o, none⟩)) ∧ w2.cell? ⟨gb, o + 8, none⟩ = some (.int .i64 (Tr.nxt (Tr.kidsOf g (Tr.paOf g h)) h)) ∧ Below w'.heap.size w' w2 := by
  refine (at_tv base B b s root h live n _ fr vs vf _ w' (H.tree.below hb) H.sound (Tr.raw_some H.eh)).mono ?_
  rintro e w2 ⟨gb, o, rfl, hpt, hb2⟩
  refine ⟨gb, o, rfl, ?_, hb2⟩
  obtain ⟨_, _, _, _, _, _, _, _, t8⟩ := (((H.tree.below hb).below hb2).np hpt (Tr.raw_some H.eh)).cells
  rw [t8, Tr.paOf_some H.eh]; rfl
end

set_option maxRecDepth 100000 in
set_option maxHeartbeats 2000000 in
theorem insert_limit (base B : Nat) (b s root p h c : Int) (live n : Nat) (g : Tr.G) (av : Int → Tr.Sl) (fr : List Nat) (vs vf : Value) (np nh : Tr.GN) (w : World) (H : InsIn base B b s root p h c live n g av fr vs vf np nh w)
    (hacc : Tr.acceptsG g p h = true) (hu : h ∉ Tr.upG g p) (hpc : c ≠ 0 → Tr.paOf g c = p) (hlim : 128 < (Tr.upG g p).length + Tr.hgtG g h) :
    Calls Tryd.prog 7 #[.pointer (some ⟨B, 0, none⟩), .int .i64 p, .int .i64 h, .int .i64 c] w fun e w' => e = .returned (errV 5) ∧ Below w.heap.size w w' := by
  have hpi := (tmem_i64 H.sound (h := p) (by rw [raw_isSome, H.ep]; rfl)).1
  have HP := Lib.hid (H.has (Below.refl _ w) (x := p) (by rw [H.ep]; rfl))
  have HHh := Lib.hid (fun (W : World) (hb : Below w.heap.size w W) => H.has hb (x := h) (by rw [H.eh]; rfl))
  have HHc := Lib.hid (fun (W : World) (hb : Below w.heap.size w W) (hc : c ≠ 0) => H.has hb (x := c) (H.ec hc))
  have HA := Lib.hid (fun (W : World) (hb : Below w.heap.size w W) => accepts_any base B b s root p h live n g av fr vs vf np nh W (H.tree.below hb) H.sound H.wf H.ep H.eh)
  have HC := Lib.hid (fun (W : World) (hb : Below w.heap.size w W) => contains_any base B b s root h p live n g av fr vs vf W (H.tree.below hb) H.sound H.wf hpi)
  have HPa := Lib.hid (fun (W : World) (hb : Below w.heap.size w W) (hc : c ≠ 0) => H.paOf hb hc)
  have hdl := (H.wf.up_is p).2
  have hgl := H.wf.hgt_le h
  have HD := fun (W : World) (hb : Below w.heap.size w W) => depth_any base B b s root p live n g av fr vs vf W (H.tree.below hb) H.sound H.wf hpi
  have HG := fun (W : World) (hb : Below w.heap.size w W) => height_any base B b s root live n g av fr vs vf H.sound H.wf h (by rw [H.eh]; rfl) W (H.tree.below hb)
  have key : ∀ (w2 w3 : World), Below w2.heap.size w2 w3 → Below w.heap.size w w2 → Below w.heap.size w w3 := fun w2 w3 h h' => h'.trans (h.mono h'.size)
  clear H
  obtain ⟨D, hD⟩ : ∃ D, (Tr.upG g p).length = D := ⟨_, rfl⟩
  obtain ⟨X, hX⟩ : ∃ X, Tr.hgtG g h = X := ⟨_, rfl⟩
  rw [hD] at HD hdl hlim
  rw [hX] at HG hgl hlim
  have hXl : X ≤ 129 := by omega
  replace HD := Lib.hid HD
  replace HG := Lib.hid HG
  have hq9 : decide ((128 : Int) < (D : Int) + (X : Int)) = true := decide_eq_true (by omega)
  by_cases hc0 : c = 0
  · subst hc0
    have hq : ((0 : Int) != 0) = false := rfl
    go_enter Tryd.func7, Tryd.ntmps7
    go_wp2_with fail
    refine HP.out.mono ?_
    rintro e w2 ⟨rfl, hb2⟩
    go_wp2_with fail
    refine (HHh.out w2 hb2).mono ?_
    rintro e w3 ⟨rfl, hb3⟩
    have hb03 := key _ _ hb3 hb2
    have HA3 := HA.out w3 hb03
    rw [hacc] at HA3
    go_wp2_with fail
    refine HA3.mono ?_
    rintro e w4 ⟨rfl, hb4⟩
    have hb04 := key _ _ hb4 hb03
    have HC4 := HC.out w4 hb04
    rw [decide_eq_false hu] at HC4
    clear HA3
    go_wp2_with fail
    refine HC4.mono ?_
    rintro e w5 ⟨rfl, hb5⟩
    have hb05 := key _ _ hb5 hb04
    clear HC4
    go_wp2_with fail
    refine (HD.out w5 hb05).mono ?_
    rintro e w6 ⟨rfl, hb6⟩
    have hb06 := key _ _ hb6 hb05
    go_wp2_with fail
    refine (HG.out w6 hb06).mono ?_
    rintro e w7 ⟨rfl, hb7⟩
    have hb07 := key _ _ hb7 hb06
    go_wp2_with fail
    go_ret2
    exact ⟨rfl, hb07⟩
  · have hq := bne_true hc0
    replace hpc := hpc hc0
    go_enter Tryd.func7, Tryd.ntmps7
    go_wp2_with fail
    refine HP.out.mono ?_
    rintro e w2 ⟨rfl, hb2⟩
    go_wp2_with fail
    refine (HHh.out w2 hb2).mono ?_
    rintro e w3' ⟨rfl, hb3'⟩
    have hb03' := key _ _ hb3' hb2
    go_wp2_with fail
    refine (HHc.out w3' hb03' hc0).mono ?_
    rintro e w3 ⟨rfl, hb3⟩
    have hb03 := key _ _ hb3 hb03'
    have HA3 := HA.out w3 hb03
    rw [hacc] at HA3
    go_wp2_with fail
    refine HA3.mono ?_
    rintro e w4 ⟨rfl, hb4⟩
    have hb04 := key _ _ hb4 hb03
    have HC4 := HC.out w4 hb04
    rw [decide_eq_false hu] at HC4
    clear HA3
    go_wp2_with fail
    refine HC4.mono ?_
    rintro e w5' ⟨rfl, hb5'⟩
    have hb05' := key _ _ hb5' hb04
    have HP5 := HPa.out w5' hb05' hc0
    rw [hpc] at HP5
    clear HC4
    go_wp2_with fail
    refine HP5.mono ?_
    rintro e w5 ⟨gb, o, rfl, k4, hb5⟩
    have hb05 := key _ _ hb5 hb05'
    have hpp : (p != p) = false := by simp
    clear HP5
    go_wp2_with fail
    refine (HD.out w5 hb05).mono ?_
    rintro e w6 ⟨rfl, hb6⟩
    have hb06 := key _ _ hb6 hb05
    go_wp2_with fail
    refine (HG.out w6 hb06).mono ?_
    rintro e w7 ⟨rfl, hb7⟩
    have hb07 := key _ _ hb7 hb06
    go_wp2_with fail
    go_ret2
    exact ⟨rfl, hb07⟩
end Go.Proofs.YtelncgfeojfafaaDoor

/- Insert, where the node may be inserted. -/
namespace Go.Proofs.YtelncgfeojfafaaDoor
open Go.RowKit
set_option linter.unusedVariables false
set_option linter.unusedSimpArgs false

set_option maxRecDepth 100000 in
set_option maxHeartbeats 2000000 in
theorem insert_ok (base B : Nat) (b s root p h c : Int) (live n : Nat) (g : Tr.G) (av : Int → Tr.Sl) (fr : List Nat) (vs vf : Value) (np nh : Tr.GN) (w : World) (H : InsIn base B b s root p h c live n g av fr vs vf np nh w)
    (hacc : Tr.acceptsG g p h = true) (hu : h ∉ Tr.upG g p) (hpc : c ≠ 0 → Tr.paOf g c = p) (hlim : (Tr.upG g p).length + Tr.hgtG g h ≤ 128) :
    Calls Tryd.prog 7 #[.pointer (some ⟨B, 0, none⟩), .int .i64 p, .int .i64 h, .int .i64 c] w fun e w' => ∃ v, e = .returned (.tuple #[v, .int .i64 0]) ∧ RecRow w.heap.size w' v (Tr.recs1 g h ++ [Tr.placeG (Tr.linkG (Tr.cut1 g h) p h (Tr.insC g h c)) 1 h]) ∧
      TV base w' B b s vs n (Tr.raw (Tr.linkG (Tr.cut1 g h) p h (Tr.insC g h c)) av) vf fr live root ∧ AStep w w' (Foot B vs vf) (Foot B vs vf) := by
  obtain ⟨i0, hi0, hz0, hz1, hz2⟩ := info_parts recInfo
  have hph : h ≠ p := fun e1 => by rw [H.wf.upG_some H.ep, e1] at hu; exact hu (by simp)
  have hw1 := H.wf.cut1 H.eh
  have hS1 := sound_cut1 H.sound H.wf H.eh
  have e1h := Tr.cut1_self H.eh
  obtain ⟨q1, e1p, hc1⟩ := Tr.insC_mem (c := c) H.wf H.eh H.ep hu (by
    by_cases hc0 : c = 0
    · exact .inl hc0
    · exact .inr ⟨hpc hc0, H.ec hc0⟩)
  have hS2 := sound_link hS1 hw1 e1h rfl e1p hph hc1
  have hw2 : Tr.WF 0 (Tr.linkG (Tr.cut1 g h) p h (Tr.insC g h c)) := hw1.link e1h rfl e1p (by rw [H.wf.up_cut H.eh hu]; exact hu) (by rw [H.wf.up_cut H.eh hu, H.wf.hgt_cut H.eh]; exact hlim)
  have e2h := Tr.linkG_self (p := p) (c := Tr.insC g h c) e1h
  have hrl : (Tr.recs1 g h).length ≤ 1 := by unfold Tr.recs1; split <;> simp
  have hpi := (tmem_i64 H.sound (h := p) (by rw [raw_isSome, H.ep]; rfl)).1
  have HP := Lib.hid (H.has (Below.refl _ w) (x := p) (by rw [H.ep]; rfl))
  have HHh := Lib.hid (fun (W : World) (hb : Below w.heap.size w W) => H.has hb (x := h) (by rw [H.eh]; rfl))
  have HHc := Lib.hid (fun (W : World) (hb : Below w.heap.size w W) (hc : c ≠ 0) => H.has hb (x := c) (H.ec hc))
  have HA := Lib.hid (fun (W : World) (hb : Below w.heap.size w W) => accepts_any base B b s root p h live n g av fr vs vf np nh W (H.tree.below hb) H.sound H.wf H.ep H.eh)
  have HC := Lib.hid (fun (W : World) (hb : Below w.heap.size w W) => contains_any base B b s root h p live n g av fr vs vf W (H.tree.below hb) H.sound H.wf hpi)
  have HPa := Lib.hid (fun (W : World) (hb : Below w.heap.size w W) (hc : c ≠ 0) => H.paOf hb hc)
  have hdl := (H.wf.up_is p).2
  have hgl := H.wf.hgt_le h
  have HD := fun (W : World) (hb : Below w.heap.size w W) => depth_any base B b s root p live n g av fr vs vf W (H.tree.below hb) H.sound H.wf hpi
  have HG := fun (W : World) (hb : Below w.heap.size w W) => height_any base B b s root live n g av fr vs vf H.sound H.wf h (by rw [H.eh]; rfl) W (H.tree.below hb)
  have key : ∀ (w2 w3 : World), Below w2.heap.size w2 w3 → Below w.heap.size w w2 → Below w.heap.size w w3 := fun w2 w3 h h' => h'.trans (h.mono h'.size)
  have HN := Lib.hid (fun (W : World) (hb : Below w.heap.size w W) => H.next hb)
  have HCUT := Lib.hid (fun (W : World) (hb : Below w.heap.size w W) => cut_any base B b s root h live n g av fr vs vf nh W (H.tree.below hb) H.sound H.wf H.eh)
  have hcn : c = h → Tr.insC g h c = Tr.nxt (Tr.kidsOf g (Tr.paOf g h)) h := fun e => by unfold Tr.insC; rw [if_pos e]
  have hcm : c ≠ h → Tr.insC g h c = c := fun e => by unfold Tr.insC; rw [if_neg e]
  have hh0 : h ≠ 0 := fun e => by have := H.eh; rw [e, H.wf.zero] at this; cases this
  clear H
  obtain ⟨D, hD⟩ : ∃ D, (Tr.upG g p).length = D := ⟨_, rfl⟩
  obtain ⟨X, hX⟩ : ∃ X, Tr.hgtG g h = X := ⟨_, rfl⟩
  rw [hD] at HD hdl hlim
  rw [hX] at HG hgl hlim
  have hXl : X ≤ 129 := by omega
  replace HD := Lib.hid HD
  replace HG := Lib.hid HG
  have hq9 : decide ((128 : Int) < (D : Int) + (X : Int)) = false := decide_eq_false (by omega)
  by_cases hc0 : c = 0
  · subst hc0
    have hq : ((0 : Int) != 0) = false := rfl
    have hqe : ((0 : Int) == h) = false := beq_false' (fun e => hh0 e.symm)
    have hce := hcm (fun e => hh0 e.symm)
    rw [hce] at hc1 hS2 hw2 e2h ⊢
    clear hcn hcm hce
    go_enter Tryd.func7, Tryd.ntmps7
    go_wp2_with fail
    refine HP.out.mono ?_
    rintro e w2 ⟨rfl, hb2⟩
    go_wp2_with fail
    refine (HHh.out w2 hb2).mono ?_
    rintro e w3 ⟨rfl, hb3⟩
    have hb03 := key _ _ hb3 hb2
    have HA3 := HA.out w3 hb03
    rw [hacc] at HA3
    go_wp2_with fail
    refine HA3.mono ?_
    rintro e w4 ⟨rfl, hb4⟩
    have hb04 := key _ _ hb4 hb03
    have HC4 := HC.out w4 hb04
    rw [decide_eq_false hu] at HC4
    clear HA3
    go_wp2_with fail
    refine HC4.mono ?_
    rintro e w5 ⟨rfl, hb5⟩
    have hb05 := key _ _ hb5 hb04
    clear HC4
    go_wp2_with fail
    refine (HD.out w5 hb05).mono ?_
    rintro e w6 ⟨rfl, hb6⟩
    have hb06 := key _ _ hb6 hb05
    go_wp2_with fail
    refine (HG.out w6 hb06).mono ?_
    rintro e w7 ⟨rfl, hb7⟩
    have hb07 := key _ _ hb7 hb06
    have hb8 : Below w7.heap.size w7 w7 := Below.refl _ _
    obtain ⟨w8, hw8⟩ : ∃ w8, w7 = w8 := ⟨_, rfl⟩
    have hb08 : Below w.heap.size w w8 := hw8 ▸ hb07
    subst hw8
    go_wp2_with fail
    refine (HCUT.out w7 hb08).mono ?_
    rintro e w9 ⟨v9, rfl, hr9, hm9, st9⟩
    obtain ⟨A9, c9, hv9⟩ : ∃ A c, v9 = .slice A (Tr.recs1 g h).length c := own_slice (own_zero hr9)
    subst hv9
    have HST9 := Lib.hid ((AStep.of_below (F := Foot B vs vf) hb08).trans st9)
    have hsz9 := HST9.out.1.size
    have hr9' : RecRow w.heap.size w9 (.slice A9 (Tr.recs1 g h).length c9) (Tr.recs1 g h) := RecRow.lower hr9 hb08.size
    go_wp2_with fail
    refine (link_tree base B b s root p h (0) live n (Tr.cut1 g h) av fr vs vf _ q1 w9 hm9 hS1 hw1 e1h rfl e1p hph (.inl rfl)).mono ?_
    rintro e w10 ⟨⟨u, rfl⟩, hm10, st10⟩
    have hr10 := hr9'.step hm9 st10
    go_wp2_with fail
    refine (place_any base B b s root 1 h live n (Tr.linkG (Tr.cut1 g h) p h (0)) av fr vs vf _ w10 hm10 hS2 hw2 e2h).mono ?_
    rintro e w11 ⟨rfl, hb11⟩
    have hr11 := hr10.below hb11
    have hm11 := hm10.below hb11
    obtain ⟨r, hr⟩ : ∃ r, Tr.placeG (Tr.linkG (Tr.cut1 g h) p h (0)) 1 h = r := ⟨_, rfl⟩
    have hB12 := (Below.refl _ w11).alloc (Nat.le_refl _) (.cells #[.int .i64 r.kind, .int .i64 r.target, .int .i64 r.node, .int .i64 r.prev, .int .i64 r.next, .int .i64 r.index, .string r.name, .string r.old, .bool r.had, .int .i64 r.count, .int .i64 r.size] 41)
    have hrow := rec_row w11 r 0 (Nat.zero_le _)
    have hr12 := hr11.below hB12
    have hm12 := hm11.below hB12
    have HST12 := Lib.hid (HST9.out.trans (st10.trans ((AStep.of_below (F := Foot B vs vf) hb11).trans (.of_below hB12))))
    have hcb : w.heap.size ≤ (w11.alloc (.cells #[.int .i64 r.kind, .int .i64 r.target, .int .i64 r.node, .int .i64 r.prev, .int .i64 r.next, .int .i64 r.index, .string r.name, .string r.old, .bool r.had, .int .i64 r.count, .int .i64 r.size] 41)).heap.size := HST12.out.1.size
    have HRR := Lib.hid hr
    have HM12 := Lib.hid hm12
    rw [hr]
    clear hm9 hm10 hm11 hm12 st9 st10 hr9 hr9' hr10 hr11 hr
    go_wp2_with (at_builtin; refine wpList_append_src rfl _ _ 36 rfl w.heap.size 0 41 i0 (.agg #[.int .i64 0, .int .i64 0, .int .i64 0, .int .i64 0, .int .i64 0, .int .i64 0, .string ⟨#[]⟩, .string ⟨#[]⟩, .bool false, .int .i64 0, .int .i64 0]) 11 104 Tryd.underlying36 hi0 hz0 hz1 hz2 rfl (by decide) _ _ _ rfl hr12 _ 1 (rcells [r]) rfl hrow (rc_one r) ?c3 ?c4 hcb ?_)
    case c3 => unfold maxLen; omega
    case c4 => omega
    intro v13 w13 o13 g13 f13
    have o13' : RecRow w.heap.size w13 v13 (Tr.recs1 g h ++ [r]) := by
      unfold RecRow
      rw [List.length_append, rcells_append]; exact o13
    have hT13 := HM12.out.grown_rec hr12 g13
    have hTn : Turns (fun k => (Value.slice A9 (Tr.recs1 g h).length c9).ownBlock = some k) (w11.alloc (.cells #[.int .i64 r.kind, .int .i64 r.target, .int .i64 r.node, .int .i64 r.prev, .int .i64 r.next, .int .i64 r.index, .string r.name, .string r.old, .bool r.had, .int .i64 r.count, .int .i64 r.size] 41)) w13 := .of_grown g13 (fun k hk => hk)
    have HS13 := Lib.hid (HST12.out.rec_grown hTn (fun k hk => (hr12.lt k hk).1))
    have HO13 := Lib.hid o13'
    have HT13 := Lib.hid hT13
    clear o13 o13' g13 f13 hT13 hTn hr12 hrow hB12
    go_wp2_with fail
    go_ret2
    refine ⟨_, rfl, ?_, HT13.out, HS13.out⟩
    rw [HRR.out]; exact HO13.out
  · have hq := bne_true hc0
    replace hpc := hpc hc0
    by_cases hch : c = h
    · have hqe : (c == h) = true := beq_true' hch
      have hce := hcn hch
      rw [hce] at hc1 hS2 hw2 e2h ⊢
      clear hcn hcm hce
      obtain ⟨cn, hcn2⟩ : ∃ x, Tr.nxt (Tr.kidsOf g (Tr.paOf g h)) h = x := ⟨_, rfl⟩
      rw [hcn2] at hc1 hS2 hw2 e2h HN ⊢
      clear hcn2 hqe
      replace hch := hch.symm
      subst hch
      have hqe : (h == h) = true := by simp
      go_enter Tryd.func7, Tryd.ntmps7
      go_wp2_with fail
      refine HP.out.mono ?_
      rintro e w2 ⟨rfl, hb2⟩
      go_wp2_with fail
      refine (HHh.out w2 hb2).mono ?_
      rintro e w3' ⟨rfl, hb3'⟩
      have hb03' := key _ _ hb3' hb2
      go_wp2_with fail
      refine (HHc.out w3' hb03' hc0).mono ?_
      rintro e w3 ⟨rfl, hb3⟩
      have hb03 := key _ _ hb3 hb03'
      have HA3 := HA.out w3 hb03
      rw [hacc] at HA3
      go_wp2_with fail
      refine HA3.mono ?_
      rintro e w4 ⟨rfl, hb4⟩
      have hb04 := key _ _ hb4 hb03
      have HC4 := HC.out w4 hb04
      rw [decide_eq_false hu] at HC4
      clear HA3
      go_wp2_with fail
      refine HC4.mono ?_
      rintro e w5' ⟨rfl, hb5'⟩
      have hb05' := key _ _ hb5' hb04
      have HP5 := HPa.out w5' hb05' hc0
      rw [hpc] at HP5
      clear HC4
      go_wp2_with fail
      refine HP5.mono ?_
      rintro e w5 ⟨gb, o, rfl, k4, hb5⟩
      have hb05 := key _ _ hb5 hb05'
      have hpp : (p != p) = false := by simp
      clear HP5
      go_wp2_with fail
      refine (HD.out w5 hb05).mono ?_
      rintro e w6 ⟨rfl, hb6⟩
      have hb06 := key _ _ hb6 hb05
      go_wp2_with fail
      refine (HG.out w6 hb06).mono ?_
      rintro e w7 ⟨rfl, hb7⟩
      have hb07 := key _ _ hb7 hb06
      have HNX := HN.out w7 hb07
      go_wp2_with fail
      refine HNX.mono ?_
      rintro e w8 ⟨gb8, o8, rfl, k8, hb8⟩
      have hb08 := key _ _ hb8 hb07
      clear HNX
      go_wp2_with fail
      refine (HCUT.out w8 hb08).mono ?_
      rintro e w9 ⟨v9, rfl, hr9, hm9, st9⟩
      obtain ⟨A9, c9, hv9⟩ : ∃ A c, v9 = .slice A (Tr.recs1 g h).length c := own_slice (own_zero hr9)
      subst hv9
      have HST9 := Lib.hid ((AStep.of_below (F := Foot B vs vf) hb08).trans st9)
      have hsz9 := HST9.out.1.size
      have hr9' : RecRow w.heap.size w9 (.slice A9 (Tr.recs1 g h).length c9) (Tr.recs1 g h) := RecRow.lower hr9 hb08.size
      go_wp2_with fail
      refine (link_tree base B b s root p h (cn) live n (Tr.cut1 g h) av fr vs vf _ q1 w9 hm9 hS1 hw1 e1h rfl e1p hph hc1).mono ?_
      rintro e w10 ⟨⟨u, rfl⟩, hm10, st10⟩
      have hr10 := hr9'.step hm9 st10
      go_wp2_with fail
      refine (place_any base B b s root 1 h live n (Tr.linkG (Tr.cut1 g h) p h (cn)) av fr vs vf _ w10 hm10 hS2 hw2 e2h).mono ?_
      rintro e w11 ⟨rfl, hb11⟩
      have hr11 := hr10.below hb11
      have hm11 := hm10.below hb11
      obtain ⟨r, hr⟩ : ∃ r, Tr.placeG (Tr.linkG (Tr.cut1 g h) p h (cn)) 1 h = r := ⟨_, rfl⟩
      have hB12 := (Below.refl _ w11).alloc (Nat.le_refl _) (.cells #[.int .i64 r.kind, .int .i64 r.target, .int .i64 r.node, .int .i64 r.prev, .int .i64 r.next, .int .i64 r.index, .string r.name, .string r.old, .bool r.had, .int .i64 r.count, .int .i64 r.size] 41)
      have hrow := rec_row w11 r 0 (Nat.zero_le _)
      have hr12 := hr11.below hB12
      have hm12 := hm11.below hB12
      have HST12 := Lib.hid (HST9.out.trans (st10.trans ((AStep.of_below (F := Foot B vs vf) hb11).trans (.of_below hB12))))
      have hcb : w.heap.size ≤ (w11.alloc (.cells #[.int .i64 r.kind, .int .i64 r.target, .int .i64 r.node, .int .i64 r.prev, .int .i64 r.next, .int .i64 r.index, .string r.name, .string r.old, .bool r.had, .int .i64 r.count, .int .i64 r.size] 41)).heap.size := HST12.out.1.size
      have HRR := Lib.hid hr
      have HM12 := Lib.hid hm12
      rw [hr]
      clear hm9 hm10 hm11 hm12 st9 st10 hr9 hr9' hr10 hr11 hr
      go_wp2_with (at_builtin; refine wpList_append_src rfl _ _ 36 rfl w.heap.size 0 41 i0 (.agg #[.int .i64 0, .int .i64 0, .int .i64 0, .int .i64 0, .int .i64 0, .int .i64 0, .string ⟨#[]⟩, .string ⟨#[]⟩, .bool false, .int .i64 0, .int .i64 0]) 11 104 Tryd.underlying36 hi0 hz0 hz1 hz2 rfl (by decide) _ _ _ rfl hr12 _ 1 (rcells [r]) rfl hrow (rc_one r) ?c3 ?c4 hcb ?_)
      case c3 => unfold maxLen; omega
      case c4 => omega
      intro v13 w13 o13 g13 f13
      have o13' : RecRow w.heap.size w13 v13 (Tr.recs1 g h ++ [r]) := by
        unfold RecRow
        rw [List.length_append, rcells_append]; exact o13
      have hT13 := HM12.out.grown_rec hr12 g13
      have hTn : Turns (fun k => (Value.slice A9 (Tr.recs1 g h).length c9).ownBlock = some k) (w11.alloc (.cells #[.int .i64 r.kind, .int .i64 r.target, .int .i64 r.node, .int .i64 r.prev, .int .i64 r.next, .int .i64 r.index, .string r.name, .string r.old, .bool r.had, .int .i64 r.count, .int .i64 r.size] 41)) w13 := .of_grown g13 (fun k hk => hk)
      have HS13 := Lib.hid (HST12.out.rec_grown hTn (fun k hk => (hr12.lt k hk).1))
      have HO13 := Lib.hid o13'
      have HT13 := Lib.hid hT13
      clear o13 o13' g13 f13 hT13 hTn hr12 hrow hB12
      go_wp2_with fail
      go_ret2
      refine ⟨_, rfl, ?_, HT13.out, HS13.out⟩
      rw [HRR.out]; exact HO13.out
    · have hqe : (c == h) = false := beq_false' hch
      have hce := hcm hch
      rw [hce] at hc1 hS2 hw2 e2h ⊢
      clear hcn hcm hce
      go_enter Tryd.func7, Tryd.ntmps7
      go_wp2_with fail
      refine HP.out.mono ?_
      rintro e w2 ⟨rfl, hb2⟩
      go_wp2_with fail
      refine (HHh.out w2 hb2).mono ?_
      rintro e w3' ⟨rfl, hb3'⟩
      have hb03' := key _ _ hb3' hb2
      go_wp2_with fail
      refine (HHc.out w3' hb03' hc0).mono ?_
      rintro e w3 ⟨rfl, hb3⟩
      have hb03 := key _ _ hb3 hb03'
      have HA3 := HA.out w3 hb03
      rw [hacc] at HA3
      go_wp2_with fail
      refine HA3.mono ?_
      rintro e w4 ⟨rfl, hb4⟩
      have hb04 := key _ _ hb4 hb03
      have HC4 := HC.out w4 hb04
      rw [decide_eq_false hu] at HC4
      clear HA3
      go_wp2_with fail
      refine HC4.mono ?_
      rintro e w5' ⟨rfl, hb5'⟩
      have hb05' := key _ _ hb5' hb04
      have HP5 := HPa.out w5' hb05' hc0
      rw [hpc] at HP5
      clear HC4
      go_wp2_with fail
      refine HP5.mono ?_
      rintro e w5 ⟨gb, o, rfl, k4, hb5⟩
      have hb05 := key _ _ hb5 hb05'
      have hpp : (p != p) = false := by simp
      clear HP5
      go_wp2_with fail
      refine (HD.out w5 hb05).mono ?_
      rintro e w6 ⟨rfl, hb6⟩
      have hb06 := key _ _ hb6 hb05
      go_wp2_with fail
      refine (HG.out w6 hb06).mono ?_
      rintro e w7 ⟨rfl, hb7⟩
      have hb07 := key _ _ hb7 hb06
      have hb8 : Below w7.heap.size w7 w7 := Below.refl _ _
      obtain ⟨w8, hw8⟩ : ∃ w8, w7 = w8 := ⟨_, rfl⟩
      have hb08 : Below w.heap.size w w8 := hw8 ▸ hb07
      subst hw8
      go_wp2_with fail
      refine (HCUT.out w7 hb08).mono ?_
      rintro e w9 ⟨v9, rfl, hr9, hm9, st9⟩
      obtain ⟨A9, c9, hv9⟩ : ∃ A c, v9 = .slice A (Tr.recs1 g h).length c := own_slice (own_zero hr9)
      subst hv9
      have HST9 := Lib.hid ((AStep.of_below (F := Foot B vs vf) hb08).trans st9)
      have hsz9 := HST9.out.1.size
      have hr9' : RecRow w.heap.size w9 (.slice A9 (Tr.recs1 g h).length c9) (Tr.recs1 g h) := RecRow.lower hr9 hb08.size
      go_wp2_with fail
      refine (link_tree base B b s root p h (c) live n (Tr.cut1 g h) av fr vs vf _ q1 w9 hm9 hS1 hw1 e1h rfl e1p hph hc1).mono ?_
      rintro e w10 ⟨⟨u, rfl⟩, hm10, st10⟩
      have hr10 := hr9'.step hm9 st10
      go_wp2_with fail
      refine (place_any base B b s root 1 h live n (Tr.linkG (Tr.cut1 g h) p h (c)) av fr vs vf _ w10 hm10 hS2 hw2 e2h).mono ?_
      rintro e w11 ⟨rfl, hb11⟩
      have hr11 := hr10.below hb11
      have hm11 := hm10.below hb11
      obtain ⟨r, hr⟩ : ∃ r, Tr.placeG (Tr.linkG (Tr.cut1 g h) p h (c)) 1 h = r := ⟨_, rfl⟩
      have hB12 := (Below.refl _ w11).alloc (Nat.le_refl _) (.cells #[.int .i64 r.kind, .int .i64 r.target, .int .i64 r.node, .int .i64 r.prev, .int .i64 r.next, .int .i64 r.index, .string r.name, .string r.old, .bool r.had, .int .i64 r.count, .int .i64 r.size] 41)
      have hrow := rec_row w11 r 0 (Nat.zero_le _)
      have hr12 := hr11.below hB12
      have hm12 := hm11.below hB12
      have HST12 := Lib.hid (HST9.out.trans (st10.trans ((AStep.of_below (F := Foot B vs vf) hb11).trans (.of_below hB12))))
      have hcb : w.heap.size ≤ (w11.alloc (.cells #[.int .i64 r.kind, .int .i64 r.target, .int .i64 r.node, .int .i64 r.prev, .int .i64 r.next, .int .i64 r.index, .string r.name, .string r.old, .bool r.had, .int .i64 r.count, .int .i64 r.size] 41)).heap.size := HST12.out.1.size
      have HRR := Lib.hid hr
      have HM12 := Lib.hid hm12
      rw [hr]
      clear hm9 hm10 hm11 hm12 st9 st10 hr9 hr9' hr10 hr11 hr
      go_wp2_with (at_builtin; refine wpList_append_src rfl _ _ 36 rfl w.heap.size 0 41 i0 (.agg #[.int .i64 0, .int .i64 0, .int .i64 0, .int .i64 0, .int .i64 0, .int .i64 0, .string ⟨#[]⟩, .string ⟨#[]⟩, .bool false, .int .i64 0, .int .i64 0]) 11 104 Tryd.underlying36 hi0 hz0 hz1 hz2 rfl (by decide) _ _ _ rfl hr12 _ 1 (rcells [r]) rfl hrow (rc_one r) ?c3 ?c4 hcb ?_)
      case c3 => unfold maxLen; omega
      case c4 => omega
      intro v13 w13 o13 g13 f13
      have o13' : RecRow w.heap.size w13 v13 (Tr.recs1 g h ++ [r]) := by
        unfold RecRow
        rw [List.length_append, rcells_append]; exact o13
      have hT13 := HM12.out.grown_rec hr12 g13
      have hTn : Turns (fun k => (Value.slice A9 (Tr.recs1 g h).length c9).ownBlock = some k) (w11.alloc (.cells #[.int .i64 r.kind, .int .i64 r.target, .int .i64 r.node, .int .i64 r.prev, .int .i64 r.next, .int .i64 r.index, .string r.name, .string r.old, .bool r.had, .int .i64 r.count, .int .i64 r.size] 41)) w13 := .of_grown g13 (fun k hk => hk)
      have HS13 := Lib.hid (HST12.out.rec_grown hTn (fun k hk => (hr12.lt k hk).1))
      have HO13 := Lib.hid o13'
      have HT13 := Lib.hid hT13
      clear o13 o13' g13 f13 hT13 hTn hr12 hrow hB12
      go_wp2_with fail
      go_ret2
      refine ⟨_, rfl, ?_, HT13.out, HS13.out⟩
      rw [HRR.out]; exact HO13.out
end Go.Proofs.YtelncgfeojfafaaDoor
