/- For any two numbers n and m, the statement TreeDeep returns true: nodes can be nested up to the depth that the chapter names and not deeper, one by one or as a subtree. -/
import Derived.Test.YtelncgfeojfafaaDoorRows
import Derived.Test.YtelncgfeojfafaaDoorCards
import Derived.Test.YtelncgfeojfafaaDoorTie
import Derived.PinnedBridge
import Derived.Lib.LaidU8T
import Derived.Lib.LaidIn
import Derived.Lay
import Derived.LaidMore
import Derived.SevenTiedAt
import Derived.SizedLaws
import Derived.ChangeOld
import Derived.Below
import Derived.WalkKit
import Derived.ProofKit
import Derived.OpenShut
import Derived.ShutString
import Derived.Test.YtelncgfeojfafaaDoorKB
import Derived.Test.YtelncgfeojfafaaDoorKC
import Derived.Test.YtelncgfeojfafaaDoorKE
import Derived.Test.YtelncgfeojfafaaDoorKG
import Derived.Test.YtelncgfeojfafaaDoorKI
namespace Go.Proofs.YtelncgfeojfafaaDoor.Tr
open Go Go.RowKit
set_option linter.unusedVariables false
set_option linter.unusedSimpArgs false

/-- A chain below q. -/
def Line (g : G) : Int → List Int → Prop
  | _, [] => True
  | q, x :: r => (∃ m, g x = some m ∧ m.pa = q ∧ m.kids = r.take 1) ∧ Line g x r
theorem Line.congr {g g' : G} : ∀ {l : List Int} {q : Int}, Line g q l → (∀ x ∈ l, g' x = g x) → Line g' q l
  | [], _, _, _ => trivial
  | x :: r, q, ⟨⟨m, h1, h2, h3⟩, h4⟩, h => ⟨⟨m, (h x (by simp)).trans h1, h2, h3⟩, h4.congr fun y hy => h y (by simp [hy])⟩
theorem Line.mem {g : G} : ∀ {l : List Int} {q : Int}, Line g q l → ∀ x ∈ l, (g x).isSome
  | _ :: _, _, ⟨⟨_, h1, _, _⟩, h4⟩, y, hy => by
    rcases List.mem_cons.1 hy with rfl | hy
    · rw [h1]; rfl
    · exact h4.mem y hy
theorem Line.link {g : G} {p h : Int} {r : List Int} : ∀ {l : List Int} {q : Int}, Line g q (l ++ [p]) → Line g 0 (h :: r) → ((l ++ [p]) ++ h :: r).Nodup → Line (linkG g p h 0) q ((l ++ [p]) ++ h :: r)
  | [], q, ⟨⟨m, h1, h2, h3⟩, _⟩, ⟨⟨mh, k1, k2, k3⟩, k4⟩, hn => by
    have hph : p ≠ h := fun e => by subst e; simp at hn
    have hr : ∀ x ∈ r, x ≠ h ∧ x ≠ p := fun x hx => by
      simp at hn
      exact ⟨fun e => hn.2.1 (e ▸ hx), fun e => hn.1.2 (e ▸ hx)⟩
    refine ⟨⟨_, linkG_pa h1 hph, h2, ?_⟩, ⟨⟨_, linkG_self k1, rfl, k3⟩, k4.congr fun x hx => linkG_ne (hr x hx).1 (hr x hx).2⟩⟩
    show insB m.kids 0 h = _
    rw [h3]; rfl
  | x :: l, q, ⟨⟨m, h1, h2, h3⟩, h4⟩, k, hn => by
    have hn2 : ((l ++ [p]) ++ h :: r).Nodup := (List.nodup_cons.1 hn).2
    have hx : x ∉ (l ++ [p]) ++ h :: r := (List.nodup_cons.1 hn).1
    refine ⟨⟨m, by rw [linkG_ne (fun e => hx (by simp [e])) (fun e => hx (by simp [e]))]; exact h1, h2, ?_⟩, Line.link h4 k hn2⟩
    rw [h3]
    cases l <;> simp
theorem Line.hgt {g : G} (w : WF 0 g) : ∀ {r : List Int} {x q : Int}, Line g q (x :: r) → hgtG g x = (x :: r).length
  | [], x, q, ⟨⟨m, h1, h2, h3⟩, _⟩ => by rw [w.hgtG_some h1, h3]; rfl
  | y :: r, x, q, ⟨⟨m, h1, h2, h3⟩, h4⟩ => by
    rw [w.hgtG_some h1, h3, List.take_succ_cons, List.take_zero, List.map_cons, List.map_nil, h4.hgt w]
    simp
theorem Line.up {g : G} {p : Int} : ∀ {l : List Int} {q : Int} {u : List Int}, Line g q (l ++ [p]) → Up g q u → Up g p ((l ++ [p]).reverse ++ u)
  | [], q, u, ⟨⟨m, h1, h2, h3⟩, _⟩, hu => .node h1 (h2 ▸ hu)
  | x :: l, q, u, ⟨⟨m, h1, h2, h3⟩, h4⟩, hu => by
    have := h4.up (u := x :: u) (.node h1 (h2 ▸ hu))
    simpa using this
theorem Line.upG {g : G} (w : WF 0 g) {p : Int} {l : List Int} (h : Line g 0 (l ++ [p])) : upG g p = (l ++ [p]).reverse := by
  have h1 := h.up (u := []) (.out w.zero)
  rw [List.append_nil] at h1
  exact (w.up_is p).1.one h1

/-- What the law's tree is: a chain below the document, and a chain aside. -/
structure Deep (g : G) (root : Int) (c d : List Int) (ok : ByteArray → Prop) : Prop where
  wf : WF 0 g
  main : Line g 0 (root :: c)
  side : Line g 0 d
  nodup : ((root :: c) ++ d).Nodup
  doc : ∀ m, g root = some m → m.kind = 1 ∧ m.attrs = [] ∧ m.data = ⟨#[]⟩
  elem : ∀ x m, g x = some m → x ≠ root → m.kind = 2 ∧ ok m.name ∧ m.attrs = [] ∧ m.data = ⟨#[]⟩
section
variable {g : G} {root h p : Int} {c d l : List Int} {ok : ByteArray → Prop}
theorem Deep.start {H : Int} (hH : H ≠ 0) : Deep (addG (fun _ => none) H ⟨1, ⟨#[]⟩, [], ⟨#[]⟩, 0, []⟩) H [] [] ok where
  wf := WF.empty.add rfl hH rfl rfl
  main := ⟨⟨_, addG_self _ _ _, rfl, rfl⟩, trivial⟩
  side := trivial
  nodup := by simp
  doc m e := by rw [addG_self] at e; obtain rfl := Option.some.inj e; exact ⟨rfl, rfl, rfl⟩
  elem x m e hx := by rw [addG_ne hx] at e; cases e
theorem Deep.not_mem (D : Deep g root c d ok) (hn : g h = none) : h ∉ (root :: c) ++ d := fun hm => by
  have : (g h).isSome := by
    rcases List.mem_append.1 hm with hm | hm
    · exact D.main.mem h hm
    · exact D.side.mem h hm
  rw [hn] at this; cases this
/-- One element more, in no parent. -/
theorem Deep.add (D : Deep g root c d ok) (hn : g h = none) (h0 : h ≠ 0) {nm : ByteArray} (hok : ok nm) : Deep (addG g h ⟨2, nm, [], ⟨#[]⟩, 0, []⟩) root c d ok ∧ Line (addG g h ⟨2, nm, [], ⟨#[]⟩, 0, []⟩) 0 [h] := by
  have hm := D.not_mem hn
  refine ⟨⟨D.wf.add hn h0 rfl rfl, D.main.congr fun x hx => addG_ne (fun e => hm (by rw [← e]; exact List.mem_append_left _ hx)), D.side.congr fun x hx => addG_ne (fun e => hm (by rw [← e]; exact List.mem_append_right _ hx)), D.nodup, fun m e => ?_, fun x m e hx => ?_⟩, ⟨⟨_, addG_self _ _ _, rfl, rfl⟩, trivial⟩⟩
  · rw [addG_ne (fun e => hm (by rw [← e]; simp))] at e; exact D.doc m e
  · by_cases e1 : x = h
    · subst e1
      rw [addG_self] at e
      obtain rfl := Option.some.inj e
      exact ⟨rfl, hok, rfl, rfl⟩
    · rw [addG_ne e1] at e; exact D.elem x m e hx
theorem cut1_zero (e : paOf g h = 0) : cut1 g h = g := by unfold cut1; rw [if_pos e]
theorem insC_zero (h0 : h ≠ 0) : insC g h 0 = 0 := by unfold insC; rw [if_neg (Ne.symm h0)]
/-- The aside chain's first node becomes a child of the last of a chain l. -/
theorem Deep.joined (D : Deep g root c d ok) {r : List Int} (hp : Line g 0 (l ++ [p])) (hh : Line g 0 (h :: r)) (hn : ((l ++ [p]) ++ h :: r).Nodup) (hr : h ≠ root) (hlim : (l ++ [p]).length + (h :: r).length ≤ 128) :
    h ≠ 0 ∧ (g p).isSome ∧ (g h).isSome ∧ paOf g h = 0 ∧ h ∉ upG g p ∧ (upG g p).length + hgtG g h = (l ++ [p]).length + (h :: r).length ∧ WF 0 (linkG g p h 0) ∧ Line (linkG g p h 0) 0 ((l ++ [p]) ++ h :: r) ∧
      (∀ m, linkG g p h 0 root = some m → m.kind = 1 ∧ m.attrs = [] ∧ m.data = ⟨#[]⟩) ∧ (∀ x m, linkG g p h 0 x = some m → x ≠ root → m.kind = 2 ∧ ok m.name ∧ m.attrs = [] ∧ m.data = ⟨#[]⟩) := by
  have w := D.wf
  obtain ⟨mp, ep⟩ := Option.isSome_iff_exists.1 (hp.mem p (by simp))
  obtain ⟨⟨mh, eh, hpa, hk⟩, _⟩ := id hh
  have h0 : h ≠ 0 := fun e => by rw [e, w.zero] at eh; cases eh
  have hup := hp.upG w
  have hhg := hh.hgt w
  have hnu : h ∉ upG g p := by
    rw [hup]
    intro hm
    have hm2 : h ∈ l ++ [p] := List.mem_reverse.1 hm
    exact (List.nodup_append.1 hn).2.2 h hm2 h (by simp) rfl
  have hlen : (upG g p).length + hgtG g h = (l ++ [p]).length + (h :: r).length := by rw [hup, hhg, List.length_reverse]
  refine ⟨h0, by rw [ep]; rfl, by rw [eh]; rfl, by rw [paOf_some eh]; exact hpa, hnu, hlen, w.link eh hpa ep hnu (by rw [hlen]; exact hlim), hp.link hh hn, fun m e => ?_, fun x m e hx => ?_⟩
  · obtain ⟨m0, e0, e1, e2, e3, e4⟩ := linkG_attrs e
    obtain ⟨k1, k2, k3⟩ := D.doc m0 e0
    exact ⟨by rw [← e2]; exact k1, by rw [← e1]; exact k2, by rw [← e4]; exact k3⟩
  · obtain ⟨m0, e0, e1, e2, e3, e4⟩ := linkG_attrs e
    obtain ⟨k1, k2, k3, k4⟩ := D.elem x m0 e0 hx
    exact ⟨by rw [← e2]; exact k1, by rw [← e3]; exact k2, by rw [← e1]; exact k3, by rw [← e4]; exact k4⟩
/-- A child that a chain's node may have. -/
theorem Deep.may (D : Deep g root c d ok) (hp : Line g 0 (l ++ [p])) {m : GN} (eh : g h = some m) (hr : h ≠ root) : acceptsG g p h = true := by
  obtain ⟨mp, ep⟩ := Option.isSome_iff_exists.1 (hp.mem p (by simp))
  have hkh : kindOf g h = 2 := by rw [kindOf_some eh]; exact (D.elem h m eh hr).1
  unfold acceptsG
  rw [hkh]
  by_cases e : p = root
  · subst e
    have hkp : kindOf g p = 1 := by rw [kindOf_some ep]; exact (D.doc mp ep).1
    have hks : kidsOf g p = [] := by
      have : ∀ (l : List Int) (q : Int), Line g q (l ++ [p]) → ∃ m, g p = some m ∧ m.kids = [] := by
        intro l
        induction l with
        | nil => rintro q ⟨⟨m, h1, _, h3⟩, _⟩; exact ⟨m, h1, h3⟩
        | cons x r ih => rintro q ⟨_, h4⟩; exact ih x h4
      obtain ⟨m, h1, h2⟩ := this l 0 hp
      rw [kidsOf_some h1]; exact h2
    have ho : otherG g p h = false := by unfold otherG; rw [hks]; rfl
    rw [hkp, ho]; rfl
  · have hkp : kindOf g p = 2 := by rw [kindOf_some ep]; exact (D.elem p mp ep e).1
    rw [hkp]; rfl
theorem Deep.acc (D : Deep g root c d ok) {x : Int} {m : GN} (e : g x = some m) (hpa : m.pa ≠ 0) : acceptsG g m.pa x = true := by
  obtain ⟨pm, ep, hk⟩ := D.wf.up x m e hpa
  obtain ⟨⟨mr, er, hr1, hr2⟩, _⟩ := D.main
  have hx : x ≠ root := fun e1 => by
    rw [e1, er] at e
    obtain rfl := Option.some.inj e
    exact hpa hr1
  have hkx : kindOf g x = 2 := by rw [kindOf_some e]; exact (D.elem x m e hx).1
  unfold acceptsG
  rw [hkx]
  by_cases e1 : m.pa = root
  · rw [e1] at ep ⊢
    rw [er] at ep
    obtain rfl := Option.some.inj ep
    have hkp : kindOf g root = 1 := by rw [kindOf_some er]; exact (D.doc mr er).1
    have ho : otherG g root x = false := by
      unfold otherG
      rw [kidsOf_some er, hr2]
      rw [hr2] at hk
      cases c with
      | nil => rfl
      | cons y r =>
        simp only [List.take_succ_cons, List.take_zero] at hk ⊢
        have : x = y := by simpa using hk
        subst this
        simp
    rw [hkp, ho]; rfl
  · have hkp : kindOf g m.pa = 2 := by rw [kindOf_some ep]; exact (D.elem m.pa pm ep e1).1
    rw [hkp]; rfl
end
end Go.Proofs.YtelncgfeojfafaaDoor.Tr

/- How the chains of the law's tree grow. No program is imported. -/
namespace Go.Proofs.YtelncgfeojfafaaDoor.Tr
open Go Go.RowKit
set_option linter.unusedVariables false
set_option linter.unusedSimpArgs false
section
variable {g : G} {root h p : Int} {c d l : List Int} {ok : ByteArray → Prop}
theorem link_other {q : Int} {k : List Int} (hk : Line g q k) (h1 : h ∉ k) (h2 : p ∉ k) : Line (linkG g p h 0) q k :=
  hk.congr fun x hx => linkG_ne (fun e => h1 (e ▸ hx)) (fun e => h2 (e ▸ hx))
/-- A node that is in no chain is hung below the main chain's last. -/
theorem Deep.grow (D : Deep g root c d ok) (hc : root :: c = l ++ [p]) (hh : Line g 0 [h]) (hm : h ∉ (root :: c) ++ d) (hlim : (root :: c).length + 1 ≤ 128) : Deep (linkG g p h 0) root (c ++ [h]) d ok := by
  have hp : Line g 0 (l ++ [p]) := hc ▸ D.main
  have hn2 : ((root :: c) ++ [h]).Nodup := by
    refine List.nodup_append.2 ⟨(List.nodup_append.1 D.nodup).1, by simp, fun a ha b hb e => ?_⟩
    have : b = h := by simpa using hb
    subst this; subst e
    exact hm (List.mem_append_left _ ha)
  have hr : h ≠ root := fun e => hm (by rw [e]; simp)
  obtain ⟨_, _, _, _, _, _, hw, hl, h5, h6⟩ := D.joined hp hh (hc ▸ hn2) hr (by rw [← hc]; exact hlim)
  rw [← hc] at hl
  have hpm : p ∈ root :: c := by rw [hc]; simp
  refine ⟨hw, hl, link_other D.side (fun e => hm (List.mem_append_right _ e)) (fun e => (List.nodup_append.1 D.nodup).2.2 p hpm p e rfl), ?_, h5, h6⟩
  show ((root :: c) ++ [h] ++ d).Nodup
  rw [List.append_assoc]
  refine List.nodup_append.2 ⟨(List.nodup_append.1 D.nodup).1, List.nodup_cons.2 ⟨fun e => hm (List.mem_append_right _ e), (List.nodup_append.1 D.nodup).2.1⟩, fun a ha b hb e => ?_⟩
  subst e
  rcases List.mem_cons.1 hb with rfl | hb
  · exact hm (List.mem_append_left _ ha)
  · exact (List.nodup_append.1 D.nodup).2.2 a ha a hb rfl
/-- .. below the aside chain's last. -/
theorem Deep.growd (D : Deep g root c d ok) (hd : d = l ++ [p]) (hh : Line g 0 [h]) (hm : h ∉ (root :: c) ++ d) (hlim : d.length + 1 ≤ 128) : Deep (linkG g p h 0) root c (d ++ [h]) ok := by
  have hp : Line g 0 (l ++ [p]) := hd ▸ D.side
  have hn2 : (d ++ [h]).Nodup := by
    refine List.nodup_append.2 ⟨(List.nodup_append.1 D.nodup).2.1, by simp, fun a ha b hb e => ?_⟩
    have : b = h := by simpa using hb
    subst this; subst e
    exact hm (List.mem_append_right _ ha)
  have hr : h ≠ root := fun e => hm (by rw [e]; simp)
  obtain ⟨_, _, _, _, _, _, hw, hl, h5, h6⟩ := D.joined hp hh (hd ▸ hn2) hr (by rw [← hd]; exact hlim)
  rw [← hd] at hl
  have hpm : p ∈ d := by rw [hd]; simp
  refine ⟨hw, link_other D.main (fun e => hm (List.mem_append_left _ e)) (fun e => (List.nodup_append.1 D.nodup).2.2 p e p hpm rfl), hl, ?_, h5, h6⟩
  refine List.nodup_append.2 ⟨(List.nodup_append.1 D.nodup).1, hn2, fun a ha b hb e => ?_⟩
  subst e
  rcases List.mem_append.1 hb with hb | hb
  · exact (List.nodup_append.1 D.nodup).2.2 a ha a hb rfl
  · have : a = h := by simpa using hb
    subst this
    exact hm (List.mem_append_left _ ha)
/-- The aside chain begins. -/
theorem Deep.aside (D : Deep g root c [] ok) (hh : Line g 0 [h]) (hm : h ∉ (root :: c) ++ []) : Deep g root c [h] ok := by
  refine ⟨D.wf, D.main, hh, ?_, D.doc, D.elem⟩
  refine List.nodup_append.2 ⟨(List.nodup_append.1 D.nodup).1, by simp, fun a ha b hb e => ?_⟩
  have : b = h := by simpa using hb
  subst this; subst e
  exact hm (List.mem_append_left _ ha)
/-- The aside chain is hung below the main chain's last. -/
theorem Deep.fin {r : List Int} (D : Deep g root c (h :: r) ok) (hc : root :: c = l ++ [p]) (hlim : (root :: c).length + (h :: r).length ≤ 128) : Deep (linkG g p h 0) root (c ++ h :: r) [] ok := by
  have hp : Line g 0 (l ++ [p]) := hc ▸ D.main
  have hr : h ≠ root := fun e => (List.nodup_append.1 D.nodup).2.2 root (by simp) h (by simp) e.symm
  obtain ⟨_, _, _, _, _, _, hw, hl, h5, h6⟩ := D.joined hp D.side (hc ▸ D.nodup) hr (by rw [← hc]; exact hlim)
  rw [← hc] at hl
  exact ⟨hw, hl, trivial, by rw [List.append_nil]; exact D.nodup, h5, h6⟩
end
end Go.Proofs.YtelncgfeojfafaaDoor.Tr

/- Steps of the law's tree: a node is made, and hung below the end of a chain. -/
namespace Go.Proofs.YtelncgfeojfafaaDoor
open Go.RowKit
set_option linter.unusedVariables false
set_option linter.unusedSimpArgs false

theorem ins_chain (base B : Nat) (b s root p h : Int) (live n : Nat) (g : Tr.G) (fr : List Nat) (vs vf : Value) (c d l r : List Int) (ok : ByteArray → Prop) (w : World) (hm : TV base w B b s vs n (Tr.raw g noA) vf fr live root) (hS : Sound b s n (Tr.raw g noA) fr live) (D : Tr.Deep g root c d ok)
    (hp : Tr.Line g 0 (l ++ [p])) (hh : Tr.Line g 0 (h :: r)) (hn : ((l ++ [p]) ++ h :: r).Nodup) (hr : h ≠ root) (hlim : (l ++ [p]).length + (h :: r).length ≤ 128) :
    Calls Tryd.prog 7 #[.pointer (some ⟨B, 0, none⟩), .int .i64 p, .int .i64 h, .int .i64 0] w fun e w' => ∃ v, e = .returned (.tuple #[v, .int .i64 0]) ∧ RecRow w.heap.size w' v [Tr.placeG (Tr.linkG g p h 0) 1 h] ∧
      TV base w' B b s vs n (Tr.raw (Tr.linkG g p h 0) noA) vf fr live root ∧ Sound b s n (Tr.raw (Tr.linkG g p h 0) noA) fr live ∧ AStep w w' (Foot B vs vf) (Foot B vs vf) := by
  obtain ⟨h0, ip, ih, hpa, hnu, hlen, hw', hl', _⟩ := D.joined hp hh hn hr hlim
  obtain ⟨mp, ep⟩ := Option.isSome_iff_exists.1 ip
  obtain ⟨mh, eh⟩ := Option.isSome_iff_exists.1 ih
  have H : InsIn base B b s root p h 0 live n g noA fr vs vf mp mh w := ⟨hm, hS, D.wf, ep, eh, fun e => absurd rfl e⟩
  have hi := insert_ok base B b s root p h 0 live n g noA fr vs vf mp mh w H (D.may hp eh hr) hnu (fun e => absurd rfl e) (by rw [hlen]; exact hlim)
  rw [Tr.cut1_zero hpa, Tr.insC_zero h0, show Tr.recs1 g h = [] from if_pos hpa, List.nil_append] at hi
  have hph : h ≠ p := fun e => by rw [D.wf.upG_some ep, e] at hnu; exact hnu (by simp)
  have hS' := sound_link hS D.wf eh (by rw [← Tr.paOf_some eh]; exact hpa) ep hph (c := 0) (.inl rfl)
  refine hi.mono ?_
  rintro e w' ⟨v, he, hrr, h1, h2⟩
  exact ⟨v, he, hrr, h1, hS', h2⟩
theorem ins_chain_limit (base B : Nat) (b s root p h : Int) (live n : Nat) (g : Tr.G) (fr : List Nat) (vs vf : Value) (c d l r : List Int) (ok : ByteArray → Prop) (w : World) (hm : TV base w B b s vs n (Tr.raw g noA) vf fr live root) (hS : Sound b s n (Tr.raw g noA) fr live) (D : Tr.Deep g root c d ok)
    (hp : Tr.Line g 0 (l ++ [p])) (hh : Tr.Line g 0 (h :: r)) (hn : ((l ++ [p]) ++ h :: r).Nodup) (hr : h ≠ root) (hlim : 128 < (l ++ [p]).length + (h :: r).length) :
    Calls Tryd.prog 7 #[.pointer (some ⟨B, 0, none⟩), .int .i64 p, .int .i64 h, .int .i64 0] w fun e w' => e = .returned (errV 5) ∧ Below w.heap.size w w' := by
  have w0 := D.wf
  obtain ⟨mp, ep⟩ := Option.isSome_iff_exists.1 (hp.mem p (by simp))
  obtain ⟨mh, eh⟩ := Option.isSome_iff_exists.1 (hh.mem h (by simp))
  have hnu : h ∉ Tr.upG g p := by
    rw [hp.upG w0]
    intro hx
    exact (List.nodup_append.1 hn).2.2 h (List.mem_reverse.1 hx) h (by simp) rfl
  have H : InsIn base B b s root p h 0 live n g noA fr vs vf mp mh w := ⟨hm, hS, D.wf, ep, eh, fun e => absurd rfl e⟩
  exact insert_limit base B b s root p h 0 live n g noA fr vs vf mp mh w H (D.may hp eh hr) hnu (fun e => absurd rfl e) (by rw [hp.upG w0, hh.hgt w0, List.length_reverse]; exact hlim)
/-- How many children a node has at most. -/
theorem kids_len {b s : Int} {n live : Nat} {g : Tr.G} {av : Int → Tr.Sl} {fr : List Nat} (hS : Sound b s n (Tr.raw g av) fr live) (hw : Tr.WF 0 g) (h : Int) : (Tr.kidsOf g h).length ≤ n := by
  have h1 := Tr.nodup_sub_le (m := (allN b s (Tr.raw g av) n).map (·.1)) (hw.kidsOf_nodup h) fun x hx => by
    obtain ⟨m, e, _⟩ := hw.kidsOf_mem hx
    exact (allN_all hS x).2 (by rw [e]; rfl)
  rw [List.length_map] at h1
  exact Nat.le_trans h1 (allN_len b s (Tr.raw g av) n)
/-- Names of elements that this law gives. -/
def okN (nm : ByteArray) : Prop := nm.size ≤ 20000 ∧ Nm.elem nm = true
theorem deep_valid (base B : Nat) (b s root : Int) (live n : Nat) (g : Tr.G) (fr : List Nat) (vs vf : Value) (c d : List Int) (w : World) (hm : TV base w B b s vs n (Tr.raw g noA) vf fr live root) (hS : Sound b s n (Tr.raw g noA) fr live) (D : Tr.Deep g root c d okN) (hl : live ≤ 20000) (hT : Lit w) :
    Calls Tryd.prog 8 #[.pointer (some ⟨B, 0, none⟩)] w fun e w' => e = .returned (.bool true) ∧ Below w.heap.size w w' := by
  obtain ⟨mr, er⟩ := Option.isSome_iff_exists.1 (D.main.mem root (by simp))
  refine valid_any base B b s root live n g noA fr vs vf mr w hm hS D.wf (fun h => Nat.le_trans (kids_len hS D.wf h) (by have := hS.le; omega)) hl er (D.doc mr er).1 fun h m e => ?_
  by_cases hr : h = root
  · subst hr
    obtain ⟨k1, k2, k3⟩ := D.doc m e
    refine ⟨by rw [k1]; omega, by rw [k1]; omega, by rw [k1]; simp, D.acc e, fun W hW => ?_, fun W hW => ?_⟩
    · have := vnames_nil_doc (Tr.raw1 g noA h m) W rfl (show m.kind ≠ 2 by rw [k1]; omega)
      exact this
    · have := wlimits_nil (Tr.raw1 g noA h m) W rfl (show m.data.size ≤ 20000 by rw [k3]; show 0 ≤ 20000; omega) (hT.below hW)
      rw [show (Tr.raw1 g noA h m).data = ⟨#[]⟩ from k3, fits_nil] at this
      exact this
  · obtain ⟨k1, ⟨k2, k3⟩, k4, k5⟩ := D.elem h m e hr
    refine ⟨by rw [k1]; omega, by rw [k1]; omega, by rw [k1]; simp [hr], D.acc e, fun W hW => ?_, fun W hW => ?_⟩
    · have := vnames_nil (Tr.raw1 g noA h m) W rfl k2 (hT.below hW)
      rw [show (Tr.raw1 g noA h m).name = m.name from rfl, k3, Bool.or_true] at this
      exact this
    · have := wlimits_nil (Tr.raw1 g noA h m) W rfl (show m.data.size ≤ 20000 by rw [k5]; show 0 ≤ 20000; omega) (hT.below hW)
      rw [show (Tr.raw1 g noA h m).data = ⟨#[]⟩ from k5, fits_nil] at this
      exact this
theorem mk_deep (base B : Nat) (b s root : Int) (live n : Nat) (g : Tr.G) (fr : List Nat) (vs vf : Value) (c d : List Int) (nm : ByteArray) (w : World) (hm : TV base w B b s vs n (Tr.raw g noA) vf fr live root) (hS : Sound b s n (Tr.raw g noA) fr live) (D : Tr.Deep g root c d okN) (hbase : base ≤ w.heap.size) (hn : n < 100000) (hl : live < 20000) (hok : okN nm) (hT : Lit w) :
    Calls Tryd.prog 6 #[.pointer (some ⟨B, 0, none⟩), .int .i64 2, .string nm, .string ⟨#[]⟩, .slice none 0 0] w fun e w' => ∃ (h : Int) (g' : Tr.G) (vs' vf' : Value) (n' : Nat) (fr' : List Nat), e = .returned (.tuple #[.int .i64 h, .int .i64 0]) ∧ n' ≤ n + 1 ∧ h ≠ 0 ∧ h ∉ (root :: c) ++ d ∧
      TV base w' B b s vs' n' (Tr.raw g' noA) vf' fr' (live + 1) root ∧ Sound b s n' (Tr.raw g' noA) fr' (live + 1) ∧ Tr.Deep g' root c d okN ∧ Tr.Line g' 0 [h] ∧ AStep w w' (Foot B vs vf) (Foot B vs' vf') := by
  refine (make_elem base B b s root live n g noA fr vs vf nm w hm hS D.wf hbase hn hl hok.1 hok.2 hT).mono ?_
  rintro e w' ⟨h, vs', vf', n', fr', he, h1, h2, h3, h4, h5, _, h7⟩
  rw [noA_add] at h4 h5
  obtain ⟨k1, k2⟩ := D.add h2 h3 (nm := nm) hok
  exact ⟨h, _, vs', vf', n', fr', he, h1, h3, D.not_mem h2, h4, h5, k1, k2, h7⟩
/-- A row of one record. -/
theorem rec_one {base : Nat} {w : World} {v : Value} {r : Tr.Rec} (h : RecRow base w v [r]) : ∃ g c, v = .slice (some ⟨g, 0, none⟩) 1 c ∧ w.cell? ⟨g, 0, none⟩ = some (.int .i64 r.kind) := by
  obtain ⟨A, c, rfl⟩ := own_slice (own_zero h)
  obtain ⟨g, rfl, _, hc⟩ := own_cells (own_zero h) (show 0 < [r].length by simp)
  exact ⟨g, c, rfl, hc 0 _ rfl⟩
theorem rep_first {a : UInt8} (h : a.toNat ≤ 127) (r : List UInt8) : Txt.rep (a :: r) = a :: Txt.rep r := by
  have hs : Txt.size (a :: r) = 1 := Txt.size_begins (.one a r h)
  rw [Txt.rep_good (by omega), hs]; rfl
theorem elem_letter {c : UInt8} (h1 : 97 ≤ c.toNat) (h2 : c.toNat ≤ 122) (h3 : Nm.bad c = false) : Nm.elem ⟨#[c]⟩ = true := by
  unfold Nm.elem
  show (decide (97 ≤ c.toNat) && decide (c.toNat ≤ 122) && Nm.plain ⟨#[c]⟩) = true
  rw [decide_eq_true h1, decide_eq_true h2]
  unfold Nm.plain
  rw [show (⟨#[c]⟩ : ByteArray).data.toList = [c] from rfl, rep_first (by omega), Txt.rep_nil]
  simp [h3]
theorem okN_one {c : UInt8} (h : Nm.elem ⟨#[c]⟩ = true) : okN ⟨#[c]⟩ := ⟨by show 1 ≤ 20000; omega, h⟩
theorem ok_b : okN ⟨#[98]⟩ := okN_one (elem_letter (by decide) (by decide) (by decide))
theorem ok_i : okN ⟨#[105]⟩ := okN_one (elem_letter (by decide) (by decide) (by decide))
theorem ok_p : okN ⟨#[112]⟩ := okN_one (elem_letter (by decide) (by decide) (by decide))
end Go.Proofs.YtelncgfeojfafaaDoor

/- The law's awake: the tree works. -/
namespace Go.Proofs.YtelncgfeojfafaaDoor
open Go.RowKit
set_option linter.unusedVariables false
set_option linter.unusedSimpArgs false

set_option maxRecDepth 100000 in
set_option maxHeartbeats 1000000 in
theorem awake_any (w : World) (hT : Lit w) :
    Calls Tryd.prog 4 #[] w fun e w' => e = .returned (.bool true) ∧ Below w.heap.size w w' := by
  go_enter Tryd.func4, Tryd.ntmps4
  go_wp2_with fail
  refine (new_any 0 0 w).mono ?_
  rintro e w1 ⟨B, vs, vf, rfl, hm, hS, hw, hb1⟩
  have hH : Ar.hdl 0 0 0 ≠ 0 := by have := (hdl_pos (b := 0) (s := 0) (i := 0) (by omega)).1; intro e; rw [show ((0 : Nat) : Int) = 0 from rfl, e] at this; omega
  obtain ⟨root, hroot⟩ : ∃ root, Ar.hdl 0 0 0 = root := ⟨_, rfl⟩
  rw [hroot] at hm hS hw hH
  have D : Tr.Deep (Tr.addG noG root docN) root [] [] okN := Tr.Deep.start hH
  obtain ⟨g, hg⟩ : ∃ g, Tr.addG noG root docN = g := ⟨_, rfl⟩
  rw [hg] at hm hS D
  obtain ⟨_, _, _, _, _, r5⟩ := hm.cells
  have HMK := Lib.hid (mk_deep w.heap.size B 0 0 root 1 1 g [] vs vf [] [] ⟨#[112]⟩ w1 hm hS D hb1.size (by omega) (by omega) ok_p (hT.below hb1))
  have hlo := fun k hk => (hm.lt k hk).1
  clear hS hw hroot hg
  go_wp2_with fail
  refine HMK.out.mono ?_
  rintro e w2 ⟨h, g2, vs2, vf2, n2, fr2, rfl, h1, h2, h3, hm2, hS2, D2, L2, hst⟩
  have hb2 : Below w.heap.size w w2 := hb1.trans (hst.1.below hb1.size hlo)
  obtain ⟨_, _, _, _, _, r52⟩ := hm2.cells
  have hlen1 : (([] : List Int) ++ [root]).length + [h].length ≤ 128 := by simp
  have hr : h ≠ root := fun e => h3 (by rw [e]; simp)
  have HI := Lib.hid (ins_chain w.heap.size B 0 0 root root h 2 n2 g2 fr2 vs2 vf2 [] [] [] [] okN w2 hm2 hS2 D2 D2.main L2 (by simp [Ne.symm hr]) hr hlen1)
  have hlo2 := fun k hk => (hm2.lt k hk).1
  have hq : (h == 0) = false := by simpa using h2
  have hq2 : (h != 0) = true := by simpa using h2
  clear hm hS2 D L2 r5 hlo D2 h3 hr HMK hst h2
  go_wp2_with fail
  refine HI.out.mono ?_
  rintro e w3 ⟨v, rfl, hrr, _, _, hst3⟩
  obtain ⟨gr, cr, rfl, hk⟩ := rec_one hrr
  have hk1 : w3.cell? ⟨gr, 0, none⟩ = some (.int .i64 1) := hk
  have hb3 : Below w.heap.size w w3 := hb2.trans (hst3.1.below hb2.size hlo2)
  clear HI hrr hst3 hk
  go_wp2_with fail
  go_ret
  exact ⟨rfl, hb3⟩
end Go.Proofs.YtelncgfeojfafaaDoor

/- TreeDeep's tree in memory, and its steps. -/
namespace Go.Proofs.YtelncgfeojfafaaDoor
open Go.RowKit
set_option linter.unusedVariables false
set_option linter.unusedSimpArgs false

/-- The law's tree, of k nodes. -/
def LD (w : World) (base B : Nat) (root : Int) (k : Nat) (c d : List Int) (P : Tr.G → Prop) (W : World) : Prop :=
  ∃ (vs vf : Value) (n : Nat) (fr : List Nat) (g : Tr.G), TV base W B 0 0 vs n (Tr.raw g noA) vf fr k root ∧ Sound 0 0 n (Tr.raw g noA) fr k ∧ Tr.Deep g root c d okN ∧ P g ∧ n ≤ k ∧ base ≤ W.heap.size ∧ w.heap.size ≤ base ∧ Below w.heap.size w W
section
variable {w W : World} {base B k : Nat} {root : Int} {c d : List Int} {P : Tr.G → Prop}
theorem LD.weak (h : LD w base B root k c d P W) : LD w base B root k c d (fun _ => True) W := by
  obtain ⟨vs, vf, n, fr, g, h1, h2, h3, _, h5⟩ := h
  exact ⟨vs, vf, n, fr, g, h1, h2, h3, trivial, h5⟩
theorem LD.below {W' : World} (h : LD w base B root k c d P W) (hb : Below W.heap.size W W') : LD w base B root k c d P W' := by
  obtain ⟨vs, vf, n, fr, g, h1, h2, h3, h4, h5, h6, h7, h8⟩ := h
  exact ⟨vs, vf, n, fr, g, h1.below hb, h2, h3, h4, h5, Nat.le_trans h6 hb.size, h7, h8.trans (hb.mono h8.size)⟩
theorem LD.rooted (h : LD w base B root k c d P W) : W.cell? ⟨B, 5, none⟩ = some (.int .i64 root) := by
  obtain ⟨vs, vf, n, fr, g, h1, _⟩ := h
  exact h1.cells.2.2.2.2.2
theorem LD.old (h : LD w base B root k c d P W) : Below w.heap.size w W := by
  obtain ⟨vs, vf, n, fr, g, h1, h2, h3, h4, h5, h6, h7, h8⟩ := h
  exact h8
theorem LD.nodup (h : LD w base B root k c d P W) : ((root :: c) ++ d).Nodup := by
  obtain ⟨vs, vf, n, fr, g, h1, h2, h3, h4⟩ := h
  exact h3.nodup
theorem LD.start (hT : Lit w) : Calls Tryd.prog 5 #[saltV 0 0] W fun e w' => Below w.heap.size w W → ∃ B root, e = .returned (.pointer (some ⟨B, 0, none⟩)) ∧ LD w W.heap.size B root 1 [] [] (fun _ => True) w' := by
  refine (new_any 0 0 W).mono ?_
  rintro e w1 ⟨B, vs, vf, rfl, hm, hS, hw, hb1⟩ hbw
  have hH : Ar.hdl 0 0 0 ≠ 0 := by have := (hdl_pos (b := 0) (s := 0) (i := 0) (by omega)).1; intro e; rw [show ((0 : Nat) : Int) = 0 from rfl, e] at this; omega
  exact ⟨B, _, rfl, vs, vf, 1, [], _, hm, hS, Tr.Deep.start hH, trivial, Nat.le_refl _, hb1.size, hbw.size, hbw.trans (hb1.mono hbw.size)⟩
theorem LD.make (h : LD w base B root k c d P W) (hT : Lit w) {nm : ByteArray} (hok : okN nm) (hk : k < 20000) :
    Calls Tryd.prog 6 #[.pointer (some ⟨B, 0, none⟩), .int .i64 2, .string nm, .string ⟨#[]⟩, .slice none 0 0] W fun e w' => ∃ x : Int, e = .returned (.tuple #[.int .i64 x, .int .i64 0]) ∧ x ≠ 0 ∧ x ∉ (root :: c) ++ d ∧ LD w base B root (k + 1) c d (fun g => Tr.Line g 0 [x]) w' := by
  obtain ⟨vs, vf, n, fr, g, h1, h2, h3, h4, h5, h6, h7, h8⟩ := h
  refine (mk_deep base B 0 0 root k n g fr vs vf c d nm W h1 h2 h3 h6 (by omega) hk hok (hT.below h8)).mono ?_
  rintro e w' ⟨x, g', vs', vf', n', fr', he, k1, k2, k3, k4, k5, k6, k7, k8⟩
  exact ⟨x, he, k2, k3, vs', vf', n', fr', g', k4, k5, k6, k7, by omega, Nat.le_trans h6 k8.1.size, h7, h8.trans (k8.1.below h8.size (fun j hj => Nat.le_trans h7 (h1.lt j hj).1))⟩
theorem LD.step {W' : World} {vs vf : Value} {n : Nat} {fr : List Nat} {R : Int → Option Tr.Nd} (h1 : TV base W B 0 0 vs n R vf fr k root) (h6 : base ≤ W.heap.size) (h7 : w.heap.size ≤ base) (h8 : Below w.heap.size w W) (st : AStep W W' (Foot B vs vf) (Foot B vs vf)) : base ≤ W'.heap.size ∧ Below w.heap.size w W' :=
  ⟨Nat.le_trans h6 st.1.size, h8.trans (st.1.below h8.size (fun j hj => Nat.le_trans h7 (h1.lt j hj).1))⟩
theorem LD.grow {x p : Int} {l : List Int} (h : LD w base B root k c d (fun g => Tr.Line g 0 [x]) W) (hm : x ∉ (root :: c) ++ d) (hc : root :: c = l ++ [p]) (hlim : c.length + 2 ≤ 128) :
    Calls Tryd.prog 7 #[.pointer (some ⟨B, 0, none⟩), .int .i64 p, .int .i64 x, .int .i64 0] W fun e w' => ∃ v, e = .returned (.tuple #[v, .int .i64 0]) ∧ LD w base B root k (c ++ [x]) d (fun _ => True) w' := by
  obtain ⟨vs, vf, n, fr, g, h1, h2, h3, h4, h5, h6, h7, h8⟩ := h
  have hlm : (root :: c).length + 1 ≤ 128 := by simp; omega
  have hr : x ≠ root := fun e => hm (by rw [e]; simp)
  have hn2 : ((l ++ [p]) ++ [x]).Nodup := by
    rw [← hc]
    refine List.nodup_append.2 ⟨(List.nodup_append.1 h3.nodup).1, by simp, fun a ha b hb e => ?_⟩
    have : b = x := by simpa using hb
    subst this; subst e
    exact hm (List.mem_append_left _ ha)
  refine (ins_chain base B 0 0 root p x k n g fr vs vf c d l [] okN W h1 h2 h3 (hc ▸ h3.main) h4 hn2 hr (by rw [← hc]; exact hlm)).mono ?_
  rintro e w' ⟨v, he, _, k1, k2, k3⟩
  obtain ⟨q1, q2⟩ := LD.step h1 h6 h7 h8 k3
  exact ⟨v, he, vs, vf, n, fr, _, k1, k2, h3.grow hc h4 hm hlm, trivial, h5, q1, h7, q2⟩
theorem LD.growd {x p : Int} {l : List Int} (h : LD w base B root k c d (fun g => Tr.Line g 0 [x]) W) (hm : x ∉ (root :: c) ++ d) (hd : d = l ++ [p]) (hlim : d.length + 1 ≤ 128) :
    Calls Tryd.prog 7 #[.pointer (some ⟨B, 0, none⟩), .int .i64 p, .int .i64 x, .int .i64 0] W fun e w' => ∃ v, e = .returned (.tuple #[v, .int .i64 0]) ∧ LD w base B root k c (d ++ [x]) (fun _ => True) w' := by
  obtain ⟨vs, vf, n, fr, g, h1, h2, h3, h4, h5, h6, h7, h8⟩ := h
  have hr : x ≠ root := fun e => hm (by rw [e]; simp)
  have hn2 : ((l ++ [p]) ++ [x]).Nodup := by
    rw [← hd]
    refine List.nodup_append.2 ⟨(List.nodup_append.1 h3.nodup).2.1, by simp, fun a ha b hb e => ?_⟩
    have : b = x := by simpa using hb
    subst this; subst e
    exact hm (List.mem_append_right _ ha)
  refine (ins_chain base B 0 0 root p x k n g fr vs vf c d l [] okN W h1 h2 h3 (hd ▸ h3.side) h4 hn2 hr (by rw [← hd]; exact hlim)).mono ?_
  rintro e w' ⟨v, he, _, k1, k2, k3⟩
  obtain ⟨q1, q2⟩ := LD.step h1 h6 h7 h8 k3
  exact ⟨v, he, vs, vf, n, fr, _, k1, k2, h3.growd hd h4 hm hlim, trivial, h5, q1, h7, q2⟩
theorem LD.limit {x p : Int} {l r : List Int} {Q : Tr.G → Prop} (h : LD w base B root k c d (fun g => Tr.Line g 0 (x :: r)) W) (hm : ((root :: c) ++ x :: r).Nodup) (hc : root :: c = l ++ [p]) (hlim : 128 < (root :: c).length + (x :: r).length) :
    Calls Tryd.prog 7 #[.pointer (some ⟨B, 0, none⟩), .int .i64 p, .int .i64 x, .int .i64 0] W fun e w' => e = .returned (errV 5) ∧ LD w base B root k c d (fun _ => True) w' := by
  have hh := h
  obtain ⟨vs, vf, n, fr, g, h1, h2, h3, h4, h5, h6, h7, h8⟩ := h
  have hr : x ≠ root := fun e => (List.nodup_append.1 hm).2.2 root (by simp) x (by simp) e.symm
  refine (ins_chain_limit base B 0 0 root p x k n g fr vs vf c d l r okN W h1 h2 h3 (hc ▸ h3.main) h4 (hc ▸ hm) hr (by rw [← hc]; exact hlim)).mono ?_
  rintro e w' ⟨he, hb⟩
  exact ⟨he, (hh.below hb).weak⟩
theorem LD.aside {x : Int} (h : LD w base B root k c [] (fun g => Tr.Line g 0 [x]) W) (hm : x ∉ (root :: c) ++ []) : LD w base B root k c [x] (fun _ => True) W := by
  obtain ⟨vs, vf, n, fr, g, h1, h2, h3, h4, h5⟩ := h
  exact ⟨vs, vf, n, fr, g, h1, h2, h3.aside h4 hm, trivial, h5⟩
theorem LD.side (h : LD w base B root k c d P W) : LD w base B root k c d (fun g => Tr.Line g 0 d) W := by
  obtain ⟨vs, vf, n, fr, g, h1, h2, h3, h4, h5⟩ := h
  exact ⟨vs, vf, n, fr, g, h1, h2, h3, h3.side, h5⟩
theorem LD.fin {x p : Int} {l r : List Int} (h : LD w base B root k c (x :: r) P W) (hc : root :: c = l ++ [p]) (hlim : (root :: c).length + (x :: r).length ≤ 128) :
    Calls Tryd.prog 7 #[.pointer (some ⟨B, 0, none⟩), .int .i64 p, .int .i64 x, .int .i64 0] W fun e w' => ∃ v, e = .returned (.tuple #[v, .int .i64 0]) ∧ LD w base B root k (c ++ x :: r) [] (fun _ => True) w' := by
  obtain ⟨vs, vf, n, fr, g, h1, h2, h3, h4, h5, h6, h7, h8⟩ := h
  have hr : x ≠ root := fun e => (List.nodup_append.1 h3.nodup).2.2 root (by simp) x (by simp) e.symm
  refine (ins_chain base B 0 0 root p x k n g fr vs vf c (x :: r) l r okN W h1 h2 h3 (hc ▸ h3.main) h3.side (hc ▸ h3.nodup) hr (by rw [← hc]; exact hlim)).mono ?_
  rintro e w' ⟨v, he, _, k1, k2, k3⟩
  obtain ⟨q1, q2⟩ := LD.step h1 h6 h7 h8 k3
  exact ⟨v, he, vs, vf, n, fr, _, k1, k2, h3.fin hc hlim, trivial, h5, q1, h7, q2⟩
theorem LD.valid (h : LD w base B root k c d P W) (hT : Lit w) (hk : k ≤ 20000) : Calls Tryd.prog 8 #[.pointer (some ⟨B, 0, none⟩)] W fun e w' => e = .returned (.bool true) ∧ Below w.heap.size w w' := by
  obtain ⟨vs, vf, n, fr, g, h1, h2, h3, h4, h5, h6, h7, h8⟩ := h
  refine (deep_valid base B 0 0 root k n g fr vs vf c d W h1 h2 h3 hk (hT.below h8)).mono ?_
  rintro e w' ⟨he, hb⟩
  exact ⟨he, h8.trans (hb.mono h8.size)⟩
end
end Go.Proofs.YtelncgfeojfafaaDoor

/- TreeDeep. -/
namespace Go.Proofs.YtelncgfeojfafaaDoor
open Go.RowKit
set_option linter.unusedVariables false
set_option linter.unusedSimpArgs false

set_option maxRecDepth 100000 in
set_option maxHeartbeats 2000000 in
theorem deep_walk (nv mv : Nat) (hnv : nv < 256) (hmv : mv < 256) (w : World) (hT : Lit w) :
    Calls Tryd.prog 3 #[.int .u8 nv, .int .u8 mv] w fun e w' => e = .returned (.bool true) ∧ Below w.heap.size w w' := by
  go_enter Tryd.func3, Tryd.ntmps3
  go_wp2_with fail
  refine (awake_any w hT).mono ?_
  rintro e w1 ⟨rfl, hb1⟩
  have HN := Lib.hid (LD.start (w := w) (W := w1) hT)
  go_wp2_with fail
  refine HN.out.mono ?_
  rintro e w2 h2
  obtain ⟨B, root, rfl, hL⟩ := h2 hb1
  have r5 := hL.rooted
  obtain ⟨base, hbase⟩ : ∃ base, w1.heap.size = base := ⟨_, rfl⟩
  rw [hbase] at hL
  clear HN h2 hb1 hbase
  go_wp2_with fail
  go_loopw [6, 7] (fun hv iv wr => ∃ (i : Nat) (p : Int) (c l : List Int), iv = .int .i64 i ∧ hv = .int .i64 p ∧ i ≤ nv ∧ root :: c = l ++ [p] ∧ c.length = min i 127 ∧ LD w base B root (1 + i) c [] (fun _ => True) wr) (fun _ iv _ => nv - (intOf iv).toNat)
  case atStart => exact ⟨0, root, [], [], rfl, rfl, Nat.zero_le _, rfl, rfl, hL⟩
  case round =>
    obtain ⟨i, p, c, l, rfl, rfl, hi, hc, hcl, hLr⟩ := hrel
    clear hL r5
    by_cases hlt : i < nv
    · have HM := Lib.hid (hLr.make hT ok_b (by omega))
      have q1 : (i : Int) < (nv : Int) := by omega
      go_wp2_with fail
      refine HM.out.mono ?_
      rintro e w3 ⟨x, rfl, hx0, hxm, hLx⟩
      by_cases hb : i < 127
      · have HI := Lib.hid (hLx.grow hxm hc (by omega))
        have q2 : ¬ (128 : Int) < (i : Int) + 2 := by omega
        have HH := Lib.hid (And.intro hc hcl)
        clear HM hLx hxm hc hcl
        go_wp2_with fail
        refine HI.out.mono ?_
        rintro e w4 ⟨v, rfl, hL4⟩
        have HL4 := Lib.hid hL4
        clear hL4 HI
        go_wp2_with fail
        go_roundw
        case rel => exact ⟨i + 1, x, c ++ [x], root :: c, by go_num, rfl, by omega, rfl, by rw [List.length_append, HH.out.2]; simp; omega, by rw [show 1 + (i + 1) = 1 + i + 1 from by omega]; exact HL4.out⟩
        case measure => simp [intOf]; omega
      · have hxm' : ((root :: c) ++ [x]).Nodup := by
          refine List.nodup_append.2 ⟨(List.nodup_append.1 hLx.nodup).1, by simp, fun a ha b hb e => ?_⟩
          have : b = x := by simpa using hb
          subst this; subst e
          exact hxm (List.mem_append_left _ ha)
        have HI := Lib.hid (hLx.limit (Q := fun _ => True) hxm' hc (by rw [List.length_cons, hcl]; simp; omega))
        have q2 : (128 : Int) < (i : Int) + 2 := by omega
        have HH := Lib.hid (And.intro hc hcl)
        clear HM hLx hxm hc hcl hxm'
        go_wp2_with fail
        refine HI.out.mono ?_
        rintro e w4 ⟨rfl, hL4⟩
        have HL4 := Lib.hid hL4
        clear hL4 HI
        go_wp2_with fail
        go_roundw
        case rel => exact ⟨i + 1, p, c, l, by go_num, rfl, by omega, HH.out.1, by rw [HH.out.2]; omega, by rw [show 1 + (i + 1) = 1 + i + 1 from by omega]; exact HL4.out⟩
        case measure => simp [intOf]; omega
    · have hin : i = nv := by omega
      subst hin
      have HM := Lib.hid (hLr.make hT ok_i (by omega))
      clear hLr
      have HH := Lib.hid (And.intro hc hcl)
      clear hc hcl
      have q1 : ¬ (i : Int) < (i : Int) := by omega
      go_wp2_with fail
      refine HM.out.mono ?_
      rintro e w3 ⟨t, rfl, ht0, htm, hLt⟩
      have hLa := hLt.aside htm
      clear HM hLt htm
      go_wp2_with fail
      go_loopw [15, 16] (fun yv iv wr => ∃ (j : Nat) (y : Int) (r l2 : List Int), iv = .int .i64 j ∧ yv = .int .i64 y ∧ 1 ≤ j ∧ j ≤ max (mv % 128) 1 ∧ t :: r = l2 ++ [y] ∧ (t :: r).length = j ∧ LD w base B root (1 + i + j) c (t :: r) (fun _ => True) wr) (fun _ iv _ => 128 - (intOf iv).toNat)
      case atStart => exact ⟨1, t, [], [], rfl, rfl, Nat.le_refl _, by omega, rfl, rfl, hLa⟩
      case round =>
        obtain ⟨j, y, r, l2, rfl, rfl, hj1, hj, hd, hdl, hLr⟩ := hrel
        clear hLa
        by_cases hlt2 : j < mv % 128
        · have HM := Lib.hid (hLr.make hT ok_i (by omega))
          clear hLr
          have q3 : (j : Int) < (mv : Int) % 128 := by omega
          have HD := Lib.hid (And.intro hd hdl)
          clear hd hdl
          go_wp2_with fail
          refine HM.out.mono ?_
          rintro e w5 ⟨x, rfl, hx0, hxm, hLx⟩
          have HI := Lib.hid (hLx.growd hxm HD.out.1 (by rw [HD.out.2]; omega))
          clear HM hLx hxm
          go_wp2_with fail
          refine HI.out.mono ?_
          rintro e w6 ⟨v, rfl, hL6⟩
          have HL6 := Lib.hid hL6
          clear hL6 HI
          go_wp2_with fail
          go_roundw
          case rel => exact ⟨j + 1, x, r ++ [x], t :: r, by go_num, rfl, by omega, by omega, rfl, by have := HD.out.2; rw [List.length_cons] at this ⊢; rw [List.length_append]; simp; omega, by rw [show 1 + i + (j + 1) = 1 + i + j + 1 from by omega]; exact HL6.out⟩
          case measure => simp [intOf]; omega
        · have q3 : ¬ (j : Int) < (mv : Int) % 128 := by omega
          have hjm : j = max (mv % 128) 1 := by omega
          have r5 := hLr.rooted
          have hBo := hLr.old
          by_cases hpr : p = root
          · have q4 : (p == root) = true := by simpa using hpr
            clear hLr hpr hd hdl
            go_wp2_with fail
            go_ret
            exact ⟨rfl, hBo⟩
          · have q4 : (p == root) = false := by simpa using hpr
            have hcl1 : (root :: c).length = 1 + min i 127 := by rw [List.length_cons, HH.out.2]; omega
            by_cases hlim : (root :: c).length + (t :: r).length ≤ 128
            · have hle : 1 + min (i : Int) 127 + max ((mv : Int) % 128) 1 ≤ 128 := by rw [hcl1, hdl] at hlim; omega
              have HI := Lib.hid (hLr.fin HH.out.1 hlim)
              clear hLr hpr hd hdl hlim hcl1 hBo hjm
              go_wp2_with fail
              refine HI.out.mono ?_
              rintro e w6 ⟨v, rfl, hL6⟩
              have HV := Lib.hid (hL6.valid hT (by omega))
              clear hL6 HI
              go_wp2_with fail
              refine HV.out.mono ?_
              rintro e w7 ⟨rfl, hb7⟩
              go_wp2_with fail
              go_ret
              exact ⟨rfl, hb7⟩
            · have hle : ¬ 1 + min (i : Int) 127 + max ((mv : Int) % 128) 1 ≤ 128 := by rw [hcl1, hdl] at hlim; omega
              have HI := Lib.hid (hLr.side.limit (Q := fun _ => True) hLr.nodup HH.out.1 (by omega))
              clear hLr hpr hd hdl hlim hcl1 hBo hjm
              go_wp2_with fail
              refine HI.out.mono ?_
              rintro e w6 ⟨rfl, hL6⟩
              have HV := Lib.hid (hL6.valid hT (by omega))
              clear hL6 HI
              go_wp2_with fail
              refine HV.out.mono ?_
              rintro e w7 ⟨rfl, hb7⟩
              go_wp2_with fail
              go_ret
              exact ⟨aretB (by rw [decide_eq_false (by omega)]; rfl), hb7⟩
theorem deep_any (a b : Int) (ha : 0 ≤ a ∧ a ≤ 255) (hb : 0 ≤ b ∧ b ≤ 255) (w : World) (hT : Lit w) :
    Calls Tryd.prog 3 #[.int .u8 a, .int .u8 b] w fun e w' => e = .returned (.bool true) ∧ Below w.heap.size w w' := by
  obtain ⟨n, rfl⟩ := Int.eq_ofNat_of_zero_le ha.1
  obtain ⟨m, rfl⟩ := Int.eq_ofNat_of_zero_le hb.1
  exact deep_walk n m (by omega) (by omega) w hT
end Go.Proofs.YtelncgfeojfafaaDoor

namespace Go.Proofs.YtelncgfeojfafaaDoor.treeDeep
open Go.ChangeShapes Go.WideShapes Go.ChangeAt Go.RowKit
open Go.ChangeMaps (open_string shut_string)
set_option linter.unusedVariables false

theorem own : ownKnob Tryd.prog.godebug = none := by kernel_rfl
theorem laidOut : laidOutB Tryd.prog = true := by kernel_rfl

theorem bu8 {n : Int} (h : (Lit.int .u8 n).wf = true) : 0 ≤ n ∧ n ≤ 255 := by
  simpa [Lit.wf, IntKind.min, IntKind.max, IntKind.bits, IntKind.signed] using h
theorem bi64 {n : Int} (h : (Lit.int .i64 n).wf = true) : -9223372036854775808 ≤ n ∧ n ≤ 9223372036854775807 := by
  simpa [Lit.wf, IntKind.min, IntKind.max, IntKind.bits, IntKind.signed] using h

open Go.Shelf Go.Lib in
theorem laid_lit {W : World} (h : laidMetH Tryd.prog Rows.treeDeepRow.laid W) : Lit W := by
  rw [MakeChecks.laidMetH_plain _ _ _ (by kernel_rfl)] at h
  have e1 : Rows.laid_unicode_utf8_first = firstData := Pinned.utf8First_eq
  have e2 : (Rows.laid_unicode_utf8_acceptRanges : DataW Unit) = acceptData := by kernel_rfl
  exact utf8Tabs_of_readsT (U8Types.of196 Tryd.lays196) ⟨by kernel_rfl, by kernel_rfl, by kernel_rfl, by kernel_rfl, by kernel_rfl, by kernel_rfl, by kernel_rfl⟩
    (e1 ▸ Lib.laidMet.reads h (.tail _ (.head _))) (e2 ▸ Lib.laidMet.reads h (.head _))

/-! The step from the walk to the row. -/
set_option maxRecDepth 100000 in
theorem lifted (os : Os) (started : os.Started) (H : Type) (enc : TypeId × Value → H) :
    ReturnsInHanded {} Tryd.checked os 3 .any (fun w args => (Rows.treeDeepSpec.pre enc Tryd.prog Tryd.f3 [] false w args ∧ laidMetH Tryd.prog Rows.treeDeepRow.laid w) ∧ sizedMet enc Tryd.prog Tryd.f3 (OpenSpec.ofChange Rows.treeDeepSpec) false w args) (Rows.treeDeepSpec.post enc Tryd.prog Tryd.f3 false true false false) := by
  refine returnsInHanded_of_change_and (C := Tryd.checked) (X := fun w _ => laidMetH Tryd.prog Rows.treeDeepRow.laid w) (fun _ _ _ hh h => h.of_heap hh) own started (by kernel_rfl) Tryd.func3
    (ChangeSpec.witness_shaped (enc := enc) (C := Tryd.checked) (os := os) (X := fun w _ => laidMetH Tryd.prog Rows.treeDeepRow.laid w) false (World.laidAll Tryd.prog os Rows.treeDeepRow.laid) #[.int .u8 0, .int .u8 0] 8 (World.laidAll_os _ _ _)
      (World.shaped_of_ZipB (by kernel_rfl) (by kernel_rfl)) (by kernel_rfl) (by kernel_rfl) (by kernel_rfl)
      (by rw [MakeChecks.laidMetH_plain _ _ _ (by kernel_rfl)]; exact laidMet_laidAll _ (by kernel_rfl) (by kernel_rfl))) ?_
  intro W base args ds gs before hval0 hW hcnd hsz0 hL _
  have hT : Lit W := laid_lit hL
  have hval : ∀ (j : Nat) t v, Tryd.f3.params[j]? = some t → args[j]? = some v → Value.okWide Tryd.prog W .any base t v := hval0
  have hsz : (DataW.weightsEach Tryd.prog (Tryd.f3.params.toList ++ Rows.treeDeepSpec.plain.varTypes Tryd.prog) (ds ++ gs)).all (· ≤ reachBytes) = true := hsz0
  have hW' := hW
  obtain ⟨p, q, hA0, hV, rfl, hfz, hnd⟩ := hW
  have hA : DataW.TrodAll enc Tryd.prog W 0 (fun _ => true) true Tryd.f3.params.toList args.toList ds p := hA0
  rw [Tryd.params3] at hA hval hsz
  obtain ⟨v0, vs0, d0, ds0, p0, q0, hargs, rfl, rfl, h0, r0⟩ := trodAll_cons hA
  obtain ⟨v1, vs1, d1, ds1, p1, q1, rfl, rfl, rfl, h1, r1⟩ := trodAll_cons r0
  obtain ⟨rfl, rfl, rfl⟩ := trodAll_nil r1
  obtain rfl : args = #[v0, v1] := by cases args; simp_all
  obtain ⟨rfl, rfl⟩ := trodVars_none hV
  obtain ⟨a0, rfl, rfl, rfl, w0⟩ := open_int Tryd.underlying5 (hval 0 5 v0 rfl rfl) h0
  obtain ⟨a1, rfl, rfl, rfl, w1⟩ := open_int Tryd.underlying5 (hval 1 5 v1 rfl rfl) h1
  clear hA0 hval0 hsz0
  refine (deep_any a0 a1 (bu8 w0) (bu8 w1) W hT).mono fun e W' ⟨he, bel⟩ => ?_
  subst he
  exact ⟨_, rfl, _, _, _, [], _, [], hW', trodAll_mk1 (shut_bool Tryd.underlying4 _), (trodAll_cons_mk (shut_int Tryd.underlying5 w0) (trodAll_cons_mk (shut_int Tryd.underlying5 w1) trodAll_mk0)), rfl, bel.frame _, fun h => by cases h⟩

theorem over : Rows.treeDeepRow.holds Tryd.pinned (OpenSpec.ofChange Rows.treeDeepSpec) :=
  OpenClaim.holds_of_wide 3 Tryd.f3 rfl rfl rfl rfl rfl rfl rfl ⟨rfl, rfl, rfl, rfl, rfl⟩ rfl rfl rfl rfl rfl (by kernel_rfl) Tryd.func3 (by kernel_rfl)
    (of_decide_eq_true (by kernel_rfl)) (by unfold Func.isWrapper; first | (rw [if_pos (by decide +kernel)]; kernel_rfl) | (rw [if_neg (by decide +kernel)]; exact ⟨rfl, rfl⟩))
    (fun os started H enc _ => lifted os started H enc)

/-- The statement: the card, over the row. -/
theorem proved : Rows.TreeDeepCardSaid :=
  Claim7.holds_tied_plain_at .later [] [.data, .pinned] true _ false over (fun _ h => by cases h) (by kernel_rfl) (fun _ h => by cases h) treeDeep_row_tie rfl ⟨rfl, rfl⟩ (by kernel_rfl) rfl
    (fun f fn hf hfn => by
      obtain rfl : f = 3 := Option.some.inj ((show Tryd.prog.funcNamed Rows.treeDeepRow.func = some 3 by kernel_rfl).symm.trans hf) |>.symm
      obtain rfl : fn = Tryd.f3 := (Option.some.inj (Tryd.func3.symm.trans hfn)).symm
      exact ⟨by kernel_rfl, fun j t ht => by
        rw [Tryd.params3] at ht
        have hm : t ∈ [5] := by simpa using Array.mem_of_getElem? ht
        have hall : ([5].all fun u => !Tryd.prog.wantsStandIn u) = true := by kernel_rfl
        exact (show Tryd.prog.wantsStandIn t = false by simpa using List.all_eq_true.1 hall t hm)⟩)
    (by kernel_rfl)
end Go.Proofs.YtelncgfeojfafaaDoor.treeDeep
