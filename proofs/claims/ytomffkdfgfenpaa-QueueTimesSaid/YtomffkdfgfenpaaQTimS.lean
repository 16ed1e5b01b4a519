/- The code's set and the reference's, side by side. -/
import Derived.Test.YtomffkdfgfenpaaQRefG
import Derived.Test.YtomffkdfgfenpaaQOpn
namespace Go.Proofs.Ytomffkdfgfenpaa
open Go Go.RowKit

theorem ins_perm (x : T3) : ∀ l : List T3, (ins x l).Perm (x :: l)
  | [] => List.Perm.refl _
  | y :: l => by
    unfold ins
    split
    · exact List.Perm.refl _
    · exact ((ins_perm x l).cons y).trans (List.Perm.swap x y l)
theorem Idn.perm {l m : List T3} (h : Idn l) (hp : l.Perm m) : Idn m := (hp.pairwise_iff (fun h => fun e => h e.symm)).1 h
theorem fnd_iff {id : Int} {l m : List T3} (hp : l.Perm m) : fnd id l = none ↔ fnd id m = none := by
  have key : ∀ {a b : List T3}, a.Perm b → fnd id a = none → fnd id b = none := fun {a b} hp h =>
    fnd_none id b fun j y hy => fnd_mem h y (hp.mem_iff.2 (List.mem_of_getElem? hy))
  exact ⟨key hp, key hp.symm⟩
structure MD (L l : List T3) (nx : Int) (k : Nat) : Prop where
  perm : l.Perm L
  lx : Lx L
  idn : Idn L
  bd : ∀ x ∈ L, x.1 ≤ nx ∧ x.2.2 ≤ nx
  n0 : 0 ≤ nx
  n1 : nx ≤ k
  len : L.length ≤ k
section
variable {L l : List T3} {nx : Int} {k : Nat}
theorem MD.same (h : MD L l nx k) : MD L l nx (k + 1) := ⟨h.perm, h.lx, h.idn, h.bd, h.n0, by have := h.n1; omega, by have := h.len; omega⟩
theorem MD.put (h : MD L l nx k) (id due : Int) (hi : id ≤ nx + 1) (hf : ∀ y ∈ L, y.1 ≠ id) : MD (ins (id, due, nx + 1) L) (l ++ [(id, due, nx + 1)]) (nx + 1) (k + 1) := by
  refine ⟨?_, ins_lx _ h.lx fun y hy => ?_, ins_idn _ h.idn hf, fun x hx => ?_, ?_, ?_, ?_⟩
  · refine (List.perm_append_singleton _ _).trans ?_
    exact (h.perm.cons _).trans (ins_perm _ _).symm
  · have := (h.bd y hy).2
    show y.2.2 < nx + 1
    omega
  · rcases (mem_ins _ _ x).1 hx with rfl | hx
    · exact ⟨hi, Int.le_refl _⟩
    · have := h.bd x hx
      omega
  · have := h.n0; omega
  · have := h.n1; omega
  · rw [ins_len]; have := h.len; omega
theorem MD.add (h : MD L l nx k) (due : Int) : MD (ins (nx + 1, due, nx + 1) L) (l ++ [(nx + 1, due, nx + 1)]) (nx + 1) (k + 1) :=
  h.put (nx + 1) due (Int.le_refl _) fun y hy e => by have := (h.bd y hy).1; omega
theorem MD.again (h : MD L l nx k) {id : Int} (due : Int) (hi : id ≤ nx) (hf : fnd id L = none) : MD (ins (id, due, nx + 1) L) (l ++ [(id, due, nx + 1)]) (nx + 1) (k + 1) :=
  h.put id due (by omega) (fnd_mem hf)
theorem MD.rem (h : MD L l nx k) {id : Int} {i : Nat} (hf : fnd id L = some i) : MD (del id L) (del id l) nx (k + 1) := by
  obtain ⟨x, hx, rfl⟩ := fnd_some hf
  have hs := mem_split hx
  have h1 : L.Perm (x :: del x.1 L) := by
    rw [del_some hf]
    exact (List.Perm.of_eq hs).trans List.perm_middle
  refine ⟨del_perm (h.perm.trans h1) (h.idn.perm h1), del_lx h.lx, del_idn h.idn, fun y hy => h.bd y (del_mem hy), h.n0, by have := h.n1; omega, ?_⟩
  have := (del_sub (id := x.1) (l := L)).length_le
  have := h.len
  omega
theorem MD.pop {x : T3} {r : List T3} (h : MD (x :: r) l nx k) : MD r (del x.1 l) nx (k + 1) := by
  refine ⟨del_perm h.perm h.idn, (List.pairwise_cons.1 h.lx).2, (List.pairwise_cons.1 h.idn).2, fun y hy => h.bd y (List.mem_cons_of_mem _ hy), h.n0, by have := h.n1; omega, ?_⟩
  have := h.len
  simp at this
  omega
end
structure TB (base : Nat) (w : World) (Q : Nat) (q : Value) (L : List T3) (nx : Int) (R : Nat) (rv : Value) (l : List T3) (mx : Int) : Prop where
  t : TM base w Q q L nx
  b : Whole w R #[rv, .int .i64 mx] 58
  r : RV w rv l
  low : base ≤ R
section
variable {base : Nat} {w w' : World} {Q R : Nat} {q q' rv rv' : Value} {L L' l l' : List T3} {nx nx' mx : Int}
theorem TB.below (h : TB base w Q q L nx R rv l mx) (hb : Below w.heap.size w w') : TB base w' Q q L nx R rv l mx :=
  ⟨h.t.below hb, h.b.below hb h.b.lt, h.r.below hb, h.low⟩
theorem TB.nfoot (h : TB base w Q q L nx R rv l mx) : ¬ Foot Q q R := h.t.unlike h.b (by decide) (by decide)
theorem TB.code (h : TB base w Q q L nx R rv l mx) (ht : TM base w' Q q' L' nx') (hs : AStep w w' (Foot Q q) (Foot Q q')) : TB base w' Q q' L' nx' R rv l mx := by
  refine ⟨ht, h.b.turns hs.1 h.nfoot, h.r.turns hs.1 ?_, h.low⟩
  rintro k hk (rfl | e)
  · exact h.r.unlike h.t.var (by decide) hk
  · exact h.r.ne h.t.row (by decide) k hk e
theorem TB.put (h : TB base w Q q L nx R rv l mx) (hr : RV w rv' l') (mx' : Int) : ∃ X, (w.setCell ⟨R, 0, none⟩ rv').setCell ⟨R, 1, none⟩ (.int .i64 mx') = X ∧ TB base X Q q L nx R rv' l' mx' ∧ w.grownBy X (some R) := by
  obtain ⟨X, hX, hB, gX⟩ := box2r h.b rv' (.int .i64 mx')
  have hT : Turns (fun k => k = R) w X := .of_grown gX (fun k hk => by simpa using hk.symm)
  exact ⟨X, hX, ⟨h.t.turns hT (fun k hk e => h.nfoot (e ▸ hk)), hB, hr.turns hT (fun k hk e => hr.unlike h.b (by decide) (by rw [hk, e])), h.low⟩, gX⟩
theorem TB.cells (h : TB base w Q q L nx R rv l mx) : w.cell? ⟨R, 0, none⟩ = some rv ∧ w.cell? ⟨R, 1, none⟩ = some (.int .i64 mx) ∧ w.frozen? ⟨R, 0, none⟩ = false ∧ w.frozen? ⟨R, 1, none⟩ = false := ⟨h.b.cell 0, h.b.cell 1, h.b.free 0, h.b.free 1⟩
end
theorem RV.form3 {w : World} {v : Value} {l : List T3} (h : RV w v l) : ∃ A m c, v = .slice A m c := by
  obtain ⟨A, c, h⟩ := TR.form h
  exact ⟨A, _, c, h⟩
theorem six {x : Int} (h : 0 ≤ x) : (x % 6 = 0 ∧ x.tmod 6 = 0) ∨ (x % 6 = 1 ∧ x.tmod 6 = 1) ∨ (x % 6 = 2 ∧ x.tmod 6 = 2) ∨ (x % 6 = 3 ∧ x.tmod 6 = 3) ∨ (x % 6 = 4 ∧ x.tmod 6 = 4) ∨ (x % 6 = 5 ∧ x.tmod 6 = 5) := by
  have e : x.tmod 6 = x % 6 := Int.tmod_eq_emod_of_nonneg h
  omega
end Go.Proofs.Ytomffkdfgfenpaa
