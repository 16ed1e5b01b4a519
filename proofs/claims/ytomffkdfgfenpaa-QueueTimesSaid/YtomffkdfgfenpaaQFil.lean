/- The list of timers after the first k numbers were added; orders and identifiers. -/
import Derived.Test.YtomffkdfgfenpaaQTcl
import Derived.Test.YtomffkdfgfenpaaQInt
namespace Go.Proofs.Ytomffkdfgfenpaa
open Go Go.RowKit

def Lx (l : List T3) : Prop := l.Pairwise fun a b => a.2.1 < b.2.1 ∨ a.2.1 = b.2.1 ∧ a.2.2 < b.2.2
theorem Lx.srt {l : List T3} (h : Lx l) : Srt l := List.Pairwise.imp (fun h => by omega) h
theorem ins_lx (x : T3) : ∀ {l : List T3}, Lx l → (∀ y ∈ l, y.2.2 < x.2.2) → Lx (ins x l)
  | [], _, _ => List.pairwise_singleton _ _
  | y :: l, h, hx => by
    obtain ⟨h1, h2⟩ := List.pairwise_cons.1 h
    unfold ins
    split
    · rename_i hlt
      refine List.pairwise_cons.2 ⟨fun z hz => ?_, h⟩
      rcases List.mem_cons.1 hz with rfl | hz
      · exact .inl hlt
      · have := h1 z hz
        exact .inl (by omega)
    · refine List.pairwise_cons.2 ⟨fun z hz => ?_, ins_lx x h2 (fun z hz => hx z (List.mem_cons_of_mem _ hz))⟩
      rcases (mem_ins x l z).1 hz with rfl | hz
      · have := hx y (List.mem_cons_self ..)
        omega
      · exact h1 z hz
def Idn (l : List T3) : Prop := l.Pairwise fun a b => a.1 ≠ b.1
theorem ins_idn (x : T3) : ∀ {l : List T3}, Idn l → (∀ y ∈ l, y.1 ≠ x.1) → Idn (ins x l)
  | [], _, _ => List.pairwise_singleton _ _
  | y :: l, h, hx => by
    obtain ⟨h1, h2⟩ := List.pairwise_cons.1 h
    unfold ins
    split
    · exact List.pairwise_cons.2 ⟨fun z hz => (hx z hz).symm, h⟩
    · refine List.pairwise_cons.2 ⟨fun z hz => ?_, ins_idn x h2 (fun z hz => hx z (List.mem_cons_of_mem _ hz))⟩
      rcases (mem_ins x l z).1 hz with rfl | hz
      · exact hx y (List.mem_cons_self ..)
      · exact h1 z hz
theorem ins_count (p : T3 → Bool) (x : T3) : ∀ l : List T3, (ins x l).countP p = (x :: l).countP p
  | [] => rfl
  | y :: l => by
    unfold ins
    split
    · rfl
    · rw [List.countP_cons, ins_count p x l, List.countP_cons, List.countP_cons, List.countP_cons]
      omega
theorem mem_split {l : List T3} {i : Nat} {x : T3} (h : l[i]? = some x) : l = l.take i ++ x :: l.drop (i + 1) := by
  obtain ⟨hi, hx⟩ := List.getElem?_eq_some_iff.1 h
  have e := List.drop_eq_getElem_cons hi
  rw [hx] at e
  rw [← e, List.take_append_drop]
theorem del_free {id : Int} {l : List T3} (h : Idn l) : fnd id (del id l) = none := by
  cases hf : fnd id l with
  | none => rw [del_none hf]; exact hf
  | some i =>
    obtain ⟨x, hx, hid⟩ := fnd_some hf
    rw [del_some hf]
    have hs := mem_split hx
    unfold Idn at h
    rw [hs, List.pairwise_append, List.pairwise_cons] at h
    obtain ⟨_, ⟨h2, _⟩, h3⟩ := h
    refine fnd_none id _ fun j y hy => ?_
    rcases List.mem_append.1 (List.mem_of_getElem? hy) with hm | hm
    · rw [← hid]
      exact h3 y hm x (List.mem_cons_self ..)
    · rw [← hid]
      exact (h2 y hm).symm
theorem del_mem {id : Int} {l : List T3} {x : T3} (h : x ∈ del id l) : x ∈ l := (del_sub (id := id)).subset h
theorem del_idn {id : Int} {l : List T3} (h : Idn l) : Idn (del id l) := List.Pairwise.sublist del_sub h
theorem del_lx {id : Int} {l : List T3} (h : Lx l) : Lx (del id l) := List.Pairwise.sublist del_sub h
theorem fnd_of_mem {id : Int} {l : List T3} {x : T3} (h : x ∈ l) (hx : x.1 = id) : ∃ i, fnd id l = some i := by
  cases hf : fnd id l with
  | some i => exact ⟨i, rfl⟩
  | none => exact absurd hx (fnd_mem hf x h)

/-- The list after the first k numbers were added. -/
def filT (l : List Int) : Nat → List T3
  | 0 => []
  | k + 1 => ins ((k : Int) + 1, l.getD k 0, (k : Int) + 1) (filT l k)
theorem filT_len (l : List Int) : ∀ k, (filT l k).length = k
  | 0 => rfl
  | k + 1 => by rw [filT, ins_len, filT_len l k]
theorem filT_mem (l : List Int) : ∀ k x, x ∈ filT l k → 1 ≤ x.1 ∧ x.1 ≤ (k : Int) ∧ x.2.2 = x.1 ∧ x.2.1 = l.getD (x.1 - 1).toNat 0
  | 0, x, h => by simp [filT] at h
  | k + 1, x, h => by
    rw [filT] at h
    rcases (mem_ins _ _ x).1 h with rfl | h
    · refine ⟨by show (1 : Int) ≤ (k : Int) + 1; omega, by show (k : Int) + 1 ≤ ((k + 1 : Nat) : Int); omega, rfl, ?_⟩
      show l.getD k 0 = l.getD ((k : Int) + 1 - 1).toNat 0
      congr 1
      omega
    · have := filT_mem l k x h
      exact ⟨this.1, by omega, this.2.2.1, this.2.2.2⟩
theorem filT_has (l : List Int) : ∀ (k : Nat) (id : Int), 1 ≤ id → id ≤ (k : Int) → ∃ x, x ∈ filT l k ∧ x.1 = id
  | 0, id, h1, h2 => by omega
  | k + 1, id, h1, h2 => by
    by_cases e : id = (k : Int) + 1
    · exact ⟨_, (mem_ins _ _ _).2 (.inl rfl), e.symm⟩
    · obtain ⟨x, hx, hid⟩ := filT_has l k id h1 (by omega)
      exact ⟨x, (mem_ins _ _ _).2 (.inr hx), hid⟩
theorem filT_lx (l : List Int) : ∀ k, Lx (filT l k)
  | 0 => List.Pairwise.nil
  | k + 1 => ins_lx _ (filT_lx l k) fun y hy => by
    have := filT_mem l k y hy
    show y.2.2 < (k : Int) + 1
    omega
theorem filT_idn (l : List Int) : ∀ k, Idn (filT l k)
  | 0 => List.Pairwise.nil
  | k + 1 => ins_idn _ (filT_idn l k) fun y hy => by
    have := filT_mem l k y hy
    show y.1 ≠ (k : Int) + 1
    omega
/-- How many are due. -/
theorem filT_count (l : List Int) (now : Int) : ∀ k, k ≤ l.length → (filT l k).countP (fun x => decide (x.2.1 ≤ now)) = (l.take k).countP (fun x => decide (x ≤ now))
  | 0, _ => rfl
  | k + 1, hk => by
    rw [filT, ins_count, List.countP_cons, filT_count l now k (by omega)]
    have hx : l[k]? = some (l.getD k 0) := by simp [List.getD, show k < l.length by omega]
    rw [List.take_add_one, hx]
    simp [List.countP_append, List.countP_cons]

/-! Two sets that lie apart. -/
structure TT (base : Nat) (w : World) (Q : Nat) (q : Value) (l : List T3) (nx : Int) (C : Nat) (c : Value) (m : List T3) (mx : Int) : Prop where
  a : TM base w Q q l nx
  b : TM base w C c m mx
  ap : ∀ k, Foot Q q k → ¬ Foot C c k
section
variable {base : Nat} {w w' : World} {Q C : Nat} {q c q' c' : Value} {l m l' m' : List T3} {nx mx nx' mx' : Int}
theorem TT.swap (h : TT base w Q q l nx C c m mx) : TT base w C c m mx Q q l nx := ⟨h.b, h.a, fun k hk hq => h.ap k hq hk⟩
theorem TT.below (h : TT base w Q q l nx C c m mx) (hb : Below w.heap.size w w') : TT base w' Q q l nx C c m mx := ⟨h.a.below hb, h.b.below hb, h.ap⟩
theorem TT.step (h : TT base w Q q l nx C c m mx) (hq : TM base w' Q q' l' nx') (hs : AStep w w' (Foot Q q) (Foot Q q')) : TT base w' Q q' l' nx' C c m mx :=
  ⟨hq, h.b.turns hs.1 (fun k hk hf => h.ap k hf hk), fun k hk hc => h.ap k (hs.2 k (h.b.lt k hc).2 hk) hc⟩
theorem TT.stepB (h : TT base w Q q l nx C c m mx) (hq : TM base w' C c' m' mx') (hs : AStep w w' (Foot C c) (Foot C c')) : TT base w' Q q l nx C c' m' mx' := (h.swap.step hq hs).swap
/-- A third one's step keeps both. -/
theorem TT.third (h : TT base w Q q l nx C c m mx) {F F' : Nat → Prop} (hs : AStep w w' F F') (h1 : ∀ k, Foot Q q k → ¬ F k) (h2 : ∀ k, Foot C c k → ¬ F k) : TT base w' Q q l nx C c m mx :=
  ⟨h.a.turns hs.1 h1, h.b.turns hs.1 h2, h.ap⟩
end
/-- Pop, when it does not matter which. -/
theorem tpop_some (base Q : Nat) (v : Value) (l : List T3) (nx now : Int) (w : World) (h : TM base w Q v l nx) (hl : l.length ≤ 1000) :
    Calls Try.prog 30 #[.pointer (some ⟨Q, 0, none⟩), .int .i64 now] w fun e w' => (∃ u, e = .returned u) ∧ ∃ v' l', TM base w' Q v' l' nx ∧ l'.Sublist l ∧ AStep w w' (Foot Q v) (Foot Q v') := by
  cases l with
  | nil =>
    refine (tpop_none base Q v nx now w h).mono ?_
    rintro e w' ⟨rfl, hb⟩
    exact ⟨⟨_, rfl⟩, v, [], h.below hb, List.Sublist.refl _, .of_below hb⟩
  | cons x r =>
    have hr : r.length ≤ 1000 := by simp at hl; omega
    by_cases hd : x.2.1 ≤ now
    · refine (tpop_due base Q v x r nx now w h hr hd).mono ?_
      rintro e w' ⟨rfl, h1, h2⟩
      exact ⟨⟨_, rfl⟩, _, r, h1, List.sublist_cons_self _ _, h2⟩
    · refine (tpop_late base Q v x r nx now w h hr (by omega)).mono ?_
      rintro e w' ⟨rfl, hb⟩
      exact ⟨⟨_, rfl⟩, v, _, h.below hb, List.Sublist.refl _, .of_below hb⟩
end Go.Proofs.Ytomffkdfgfenpaa
