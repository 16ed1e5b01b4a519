/- The timer set's Remove, Again, First, Pop and Clone. -/
import Derived.Test.YtomffkdfgfenpaaQTin
import Derived.Test.YtomffkdfgfenpaaQTpo
import Derived.Test.YtomffkdfgfenpaaQClo
namespace Go.Proofs.Ytomffkdfgfenpaa
open Go.RowKit

/-- The list without the timer that has an identifier. -/
def del (id : Int) (l : List T3) : List T3 :=
  match fnd id l with
  | some i => l.take i ++ l.drop (i + 1)
  | none => l
theorem del_some {id : Int} {l : List T3} {i : Nat} (h : fnd id l = some i) : del id l = l.take i ++ l.drop (i + 1) := by unfold del; rw [h]
theorem del_len {id : Int} {l : List T3} {i : Nat} (h : fnd id l = some i) : (del id l).length = l.length - 1 := by
  have := fnd_lt h
  rw [del_some h, List.length_append, List.length_take, List.length_drop]
  omega
theorem del_none {id : Int} {l : List T3} (h : fnd id l = none) : del id l = l := by unfold del; rw [h]
theorem del_sub {id : Int} {l : List T3} : (del id l).Sublist l := by
  cases h : fnd id l with
  | none => rw [del_none h]; exact List.Sublist.refl _
  | some i =>
    rw [del_some h]
    have e : l.take i ++ l.drop i = l := List.take_append_drop i l
    calc (l.take i ++ l.drop (i + 1)).Sublist (l.take i ++ l.drop i) := List.Sublist.append (List.Sublist.refl _) (by
          have := List.drop_sublist 1 (l.drop i)
          rwa [List.drop_drop] at this)
      _ = l := e
theorem del_srt {id : Int} {l : List T3} (h : Srt l) : Srt (del id l) := h.sublist del_sub

set_option maxRecDepth 100000 in
set_option maxHeartbeats 1000000 in
theorem tremove_any (base Q : Nat) (v : Value) (l : List T3) (nx id : Int) (w : World) (h : TM base w Q v l nx) (hl : l.length ≤ 1000) :
    Calls Try.prog 28 #[.pointer (some ⟨Q, 0, none⟩), .int .i64 id] w fun e w' => e = .returned (.bool (fnd id l).isSome) ∧ ∃ v', TM base w' Q v' (del id l) nx ∧ AStep w w' (Foot Q v) (Foot Q v') := by
  have HP := Lib.hid (tpos_any base Q v l nx id w h hl)
  cases hf : fnd id l with
  | none =>
    have HF := Lib.hid hf
    have hd := del_none hf
    rw [hf] at HP
    rw [hd]
    have H := Lib.hid h
    clear hf hd h
    go_enter Try.func28, Try.ntmps28
    go_wp2_with fail
    refine HP.out.mono ?_
    rintro e w1 ⟨rfl, hb1⟩
    have hm : fndI none = -1 := rfl
    rw [hm]
    clear hm
    go_wp2_with fail
    go_ret
    exact ⟨rfl, v, H.out.below hb1, AStep.of_below hb1⟩
  | some i =>
    have hlt := fnd_lt hf
    have hdl := del_len hf
    have hd := del_some hf
    rw [hf] at HP
    have HD := Lib.hid hd
    have HDL := Lib.hid hdl
    have H := Lib.hid h
    clear hf hd hdl h
    go_enter Try.func28, Try.ntmps28
    go_wp2_with fail
    refine HP.out.mono ?_
    rintro e w1 ⟨rfl, hb1⟩
    have hm : fndI (some i) = (i : Int) := rfl
    rw [hm]
    have h1 := H.out.below hb1
    obtain ⟨k1, _, _, _⟩ := h1.cells
    have hcall := del_any base v l i w1 h1.row hlt hl
    have HC := Lib.hid hcall
    obtain ⟨A0, c0, rfl⟩ := H.out.row.form
    have hw1 : IntKind.i64.wrap ((i : Int) + 1) = (i : Int) + 1 := by rw [IntKind.wrap_i64]; omega
    have hi0 : (0 : Int) ≤ (i : Int) := by omega
    have H1 := Lib.hid h1
    clear hm h1 hcall HP
    go_wp2_with fail
    refine HC.out.mono ?_
    rintro e w2 ⟨v2, rfl, o2, g2, f2⟩
    have o2' : TR w2 base 72 3 v2 (del id l).length (trow (del id l)) := by rw [HDL.out, HD.out]; exact o2
    obtain ⟨j1, j2, j3⟩ := H1.out.grow (Below.refl _ w1) g2 o2' (.inl f2)
    have j4 := j1.cell 0
    have j5 := j1.free 0
    simp only [List.getElem?_toArray, List.getElem?_cons_zero] at j4
    obtain ⟨A2, c2, rfl⟩ := o2.form
    have J2 := Lib.hid j2
    have J3 := Lib.hid ((AStep.of_below (F := Foot Q (.slice A0 l.length c0)) hb1).trans j3)
    clear o2 o2' g2 f2 j1 j2 j3 H1 HC k1
    go_wp2_with fail
    go_ret
    exact ⟨rfl, _, J2.out, J3.out⟩

set_option maxRecDepth 100000 in
set_option maxHeartbeats 1000000 in
theorem tagain_no (base Q : Nat) (v : Value) (l : List T3) (nx id due : Int) (w : World) (h : TM base w Q v l nx) (hl : l.length ≤ 900) (hno : ¬ (1 ≤ id ∧ id ≤ nx ∧ fnd id l = none)) :
    Calls Try.prog 26 #[.pointer (some ⟨Q, 0, none⟩), .int .i64 id, .int .i64 due] w fun e w' => e = .returned (.bool false) ∧ Below w.heap.size w w' := by
  have HP := Lib.hid (tpos_any base Q v l nx id w h (by omega))
  obtain ⟨_, k2, _, _⟩ := h.cells
  by_cases h1 : id < 1
  · clear h hno
    go_enter Try.func26, Try.ntmps26
    go_wp2_with fail
    go_ret
    exact ⟨rfl, Below.refl _ w⟩
  · by_cases h2 : nx < id
    · clear h hno
      go_enter Try.func26, Try.ntmps26
      go_wp2_with fail
      go_ret
      exact ⟨rfl, Below.refl _ w⟩
    · cases hf : fnd id l with
      | some i =>
        rw [hf] at HP
        clear h hf hno
        go_enter Try.func26, Try.ntmps26
        go_wp2_with fail
        refine HP.out.mono ?_
        rintro e w1 ⟨rfl, hb1⟩
        have hm : fndI (some i) = (i : Int) := rfl
        rw [hm]
        have hi0 : (0 : Int) ≤ (i : Int) := by omega
        clear hm
        go_wp2_with fail
        go_ret
        exact ⟨rfl, hb1⟩
      | none => exact absurd ⟨by omega, by omega, hf⟩ hno
set_option maxRecDepth 100000 in
set_option maxHeartbeats 1000000 in
theorem tagain_yes (base Q : Nat) (v : Value) (l : List T3) (nx id due : Int) (w : World) (h : TM base w Q v l nx) (hb : base ≤ w.heap.size) (hs : Srt l) (hl : l.length ≤ 900) (hnx : 0 ≤ nx ∧ nx ≤ 100000) (h1 : 1 ≤ id) (h2 : id ≤ nx) (hf : fnd id l = none) :
    Calls Try.prog 26 #[.pointer (some ⟨Q, 0, none⟩), .int .i64 id, .int .i64 due] w fun e w' => e = .returned (.bool true) ∧ ∃ v', TM base w' Q v' (ins (id, due, nx + 1) l) (nx + 1) ∧ AStep w w' (Foot Q v) (Foot Q v') := by
  have HP := Lib.hid (tpos_any base Q v l nx id w h (by omega))
  obtain ⟨_, k2, _, _⟩ := h.cells
  have h1' : ¬ id < 1 := by omega
  have h2' : ¬ nx < id := by omega
  rw [hf] at HP
  have H := Lib.hid h
  clear h hf h1 h2
  go_enter Try.func26, Try.ntmps26
  go_wp2_with fail
  refine HP.out.mono ?_
  rintro e w1 ⟨rfl, hb1⟩
  have hm : fndI none = -1 := rfl
  rw [hm]
  have H1 := Lib.hid (H.out.below hb1)
  have hbs1 : base ≤ w1.heap.size := Nat.le_trans hb hb1.size
  clear hm k2
  go_wp2_with fail
  refine (tinsert_any base Q v l nx id due w1 H1.out hbs1 hs hl hnx).mono ?_
  rintro e w2 ⟨rfl, v2, hT2, hst2⟩
  have HT2 := Lib.hid hT2
  have HST := Lib.hid ((AStep.of_below (F := Foot Q v) hb1).trans hst2)
  clear hT2 hst2 H1
  go_wp2_with fail
  go_ret
  exact ⟨rfl, v2, HT2.out, HST.out⟩

set_option maxRecDepth 100000 in
set_option maxHeartbeats 1000000 in
theorem tfirst0 (base Q : Nat) (v : Value) (nx : Int) (w : World) (h : TM base w Q v [] nx) :
    Calls Try.prog 32 #[.pointer (some ⟨Q, 0, none⟩)] w fun e w' => e = .returned (.tuple #[.agg #[.int .i64 0, .int .i64 0, .int .i64 0], .bool false]) ∧ Below w.heap.size w w' := by
  have hb1 := (Below.refl _ w).alloc (Nat.le_refl _) (.cells #[.int .i64 0, .int .i64 0, .int .i64 0] 72)
  have h1 := h.below hb1
  obtain ⟨A0, c0, rfl⟩ := h.row.form
  obtain ⟨k1, _, _, _⟩ := h1.cells
  go_enter Try.func32, Try.ntmps32
  clear h h1
  go_wp2_with fail
  refine bodyPost_ret (v := .tuple #[.agg #[.int .i64 0, .int .i64 0, .int .i64 0], .bool false]) ?_ rfl ⟨rfl, hb1⟩
  simp [results, Try.f32, go_sem]
set_option maxRecDepth 100000 in
set_option maxHeartbeats 1000000 in
theorem tfirst1 (base Q : Nat) (v : Value) (x : T3) (r : List T3) (nx : Int) (w : World) (h : TM base w Q v (x :: r) nx) (hl : r.length ≤ 1000) :
    Calls Try.prog 32 #[.pointer (some ⟨Q, 0, none⟩)] w fun e w' => e = .returned (.tuple #[.agg #[.int .i64 x.1, .int .i64 x.2.1, .int .i64 x.2.2], .bool true]) ∧ Below w.heap.size w w' := by
  have hb1 := (Below.refl _ w).alloc (Nat.le_refl _) (.cells #[.int .i64 0, .int .i64 0, .int .i64 0] 72)
  have hb2 := (Below.refl _ w).alloc (Nat.le_refl _) (.cells #[.int .i64 x.1, .int .i64 x.2.1, .int .i64 x.2.2] 72)
  have h1 := h.below hb1
  obtain ⟨A0, c0, rfl⟩ := h.row.form
  rcases h.row.addr with ⟨_, h0, _⟩ | ⟨g, off, rfl⟩
  · simp at h0
  obtain ⟨k1, _, _, _⟩ := h1.cells
  obtain ⟨e1, e2, e3⟩ := h1.row.timerAt rfl (i := 0) (x := x) rfl
  rw [Nat.zero_mul, Nat.add_zero] at e1 e2 e3
  have hrl : (x :: r).length = r.length + 1 := rfl
  rw [hrl] at k1
  go_enter Try.func32, Try.ntmps32
  clear h h1 hrl
  go_wp2_with fail
  refine bodyPost_ret (v := .tuple #[.agg #[.int .i64 x.1, .int .i64 x.2.1, .int .i64 x.2.2], .bool true]) ?_ rfl ⟨rfl, hb2⟩
  simp [results, Try.f32, go_sem]

theorem box3 {W : World} {B : Nat} {x0 x1 x2 : Value} {T : TypeId} (r : Whole W B #[x0, x1, x2] T) (y0 y1 y2 : Value) :
    ∃ X, ((W.setCell ⟨B, 0, none⟩ y0).setCell ⟨B, 1, none⟩ y1).setCell ⟨B, 2, none⟩ y2 = X ∧ Whole X B #[y0, y1, y2] T ∧ W.grownBy X (some B) :=
  ⟨_, rfl, ((r.put 0 y0).put 1 y1).put 2 y2, gb_put (gb_put (gb_put (gb_of_below (Below.refl W.heap.size W) (some B)) 0 y0) 1 y1) 2 y2⟩
set_option maxRecDepth 100000 in
set_option maxHeartbeats 1000000 in
theorem tpop_none (base Q : Nat) (v : Value) (nx now : Int) (w : World) (h : TM base w Q v [] nx) :
    Calls Try.prog 30 #[.pointer (some ⟨Q, 0, none⟩), .int .i64 now] w fun e w' => e = .returned (.tuple #[.agg #[.int .i64 0, .int .i64 0, .int .i64 0], .bool false]) ∧ Below w.heap.size w w' := by
  have hb1 := (Below.refl _ w).alloc (Nat.le_refl _) (.cells #[.int .i64 0, .int .i64 0, .int .i64 0] 72)
  have hR1 := Whole.new w #[.int .i64 0, .int .i64 0, .int .i64 0] 72
  have h1 := h.below hb1
  obtain ⟨w1, hw1⟩ : ∃ w1, w.alloc (.cells #[.int .i64 0, .int .i64 0, .int .i64 0] 72) = w1 := ⟨_, rfl⟩
  rw [hw1] at hb1 hR1 h1
  have H1 := Lib.hid h1
  clear h h1
  go_enter Try.func30, Try.ntmps30
  go_wp2_with fail
  refine (tfirst0 base Q v nx w1 H1.out).mono ?_
  rintro e w2 ⟨rfl, hb2⟩
  have hR3 := (hR1.below hb2 hR1.lt).alloc (.cells #[.int .i64 0, .int .i64 0, .int .i64 0] 72)
  have hB3 := (hb1.trans (hb2.mono hb1.size)).alloc (hb1.trans (hb2.mono hb1.size)).size (.cells #[.int .i64 0, .int .i64 0, .int .i64 0] 72)
  obtain ⟨X, hX, hRX, gX⟩ := box3 hR3 (.int .i64 0) (.int .i64 0) (.int .i64 0)
  have r0 : (w2.alloc (.cells #[.int .i64 0, .int .i64 0, .int .i64 0] 72)).cell? ⟨w.heap.size, 0, none⟩ = some (.int .i64 0) := hR3.cell 0
  have z0 : (w2.alloc (.cells #[.int .i64 0, .int .i64 0, .int .i64 0] 72)).frozen? ⟨w.heap.size, 0, none⟩ = false := hR3.free 0
  have r1 : (w2.alloc (.cells #[.int .i64 0, .int .i64 0, .int .i64 0] 72)).cell? ⟨w.heap.size, 1, none⟩ = some (.int .i64 0) := hR3.cell 1
  have z1 : (w2.alloc (.cells #[.int .i64 0, .int .i64 0, .int .i64 0] 72)).frozen? ⟨w.heap.size, 1, none⟩ = false := hR3.free 1
  have r2 : (w2.alloc (.cells #[.int .i64 0, .int .i64 0, .int .i64 0] 72)).cell? ⟨w.heap.size, 2, none⟩ = some (.int .i64 0) := hR3.cell 2
  have z2 : (w2.alloc (.cells #[.int .i64 0, .int .i64 0, .int .i64 0] 72)).frozen? ⟨w.heap.size, 2, none⟩ = false := hR3.free 2
  have p0 : X.cell? ⟨w.heap.size, 0, none⟩ = some (.int .i64 0) := hRX.cell 0
  have p1 : X.cell? ⟨w.heap.size, 1, none⟩ = some (.int .i64 0) := hRX.cell 1
  have p2 : X.cell? ⟨w.heap.size, 2, none⟩ = some (.int .i64 0) := hRX.cell 2
  have hBX := hB3.grown gX hB3.size (fun j hj => by simp at hj; omega)
  clear hw1 hR1 hR3 hRX gX hb2 hB3
  go_wp2_with fail
  refine bodyPost_ret (v := .tuple #[.agg #[.int .i64 0, .int .i64 0, .int .i64 0], .bool false]) ?_ rfl ⟨rfl, hBX⟩
  simp [results, Try.f30, go_sem, p0, p1, p2]
set_option maxRecDepth 100000 in
set_option maxHeartbeats 1000000 in
theorem tpop_late (base Q : Nat) (v : Value) (x : T3) (r : List T3) (nx now : Int) (w : World) (h : TM base w Q v (x :: r) nx) (hl : r.length ≤ 1000) (hlate : now < x.2.1) :
    Calls Try.prog 30 #[.pointer (some ⟨Q, 0, none⟩), .int .i64 now] w fun e w' => e = .returned (.tuple #[.agg #[.int .i64 0, .int .i64 0, .int .i64 0], .bool false]) ∧ Below w.heap.size w w' := by
  have hb1 := (Below.refl _ w).alloc (Nat.le_refl _) (.cells #[.int .i64 0, .int .i64 0, .int .i64 0] 72)
  have hR1 := Whole.new w #[.int .i64 0, .int .i64 0, .int .i64 0] 72
  have h1 := h.below hb1
  obtain ⟨w1, hw1⟩ : ∃ w1, w.alloc (.cells #[.int .i64 0, .int .i64 0, .int .i64 0] 72) = w1 := ⟨_, rfl⟩
  rw [hw1] at hb1 hR1 h1
  have H1 := Lib.hid h1
  clear h h1
  go_enter Try.func30, Try.ntmps30
  go_wp2_with fail
  refine (tfirst1 base Q v x r nx w1 H1.out hl).mono ?_
  rintro e w2 ⟨rfl, hb2⟩
  have hR3 := (hR1.below hb2 hR1.lt).alloc (.cells #[.int .i64 x.1, .int .i64 x.2.1, .int .i64 x.2.2] 72)
  have hB3 := (hb1.trans (hb2.mono hb1.size)).alloc (hb1.trans (hb2.mono hb1.size)).size (.cells #[.int .i64 x.1, .int .i64 x.2.1, .int .i64 x.2.2] 72)
  obtain ⟨X, hX, hRX, gX⟩ := box3 hR3 (.int .i64 0) (.int .i64 0) (.int .i64 0)
  have r0 : (w2.alloc (.cells #[.int .i64 x.1, .int .i64 x.2.1, .int .i64 x.2.2] 72)).cell? ⟨w.heap.size, 0, none⟩ = some (.int .i64 0) := hR3.cell 0
  have z0 : (w2.alloc (.cells #[.int .i64 x.1, .int .i64 x.2.1, .int .i64 x.2.2] 72)).frozen? ⟨w.heap.size, 0, none⟩ = false := hR3.free 0
  have r1 : (w2.alloc (.cells #[.int .i64 x.1, .int .i64 x.2.1, .int .i64 x.2.2] 72)).cell? ⟨w.heap.size, 1, none⟩ = some (.int .i64 0) := hR3.cell 1
  have z1 : (w2.alloc (.cells #[.int .i64 x.1, .int .i64 x.2.1, .int .i64 x.2.2] 72)).frozen? ⟨w.heap.size, 1, none⟩ = false := hR3.free 1
  have r2 : (w2.alloc (.cells #[.int .i64 x.1, .int .i64 x.2.1, .int .i64 x.2.2] 72)).cell? ⟨w.heap.size, 2, none⟩ = some (.int .i64 0) := hR3.cell 2
  have z2 : (w2.alloc (.cells #[.int .i64 x.1, .int .i64 x.2.1, .int .i64 x.2.2] 72)).frozen? ⟨w.heap.size, 2, none⟩ = false := hR3.free 2
  have p0 : X.cell? ⟨w.heap.size, 0, none⟩ = some (.int .i64 0) := hRX.cell 0
  have p1 : X.cell? ⟨w.heap.size, 1, none⟩ = some (.int .i64 0) := hRX.cell 1
  have p2 : X.cell? ⟨w.heap.size, 2, none⟩ = some (.int .i64 0) := hRX.cell 2
  have hBX := hB3.grown gX hB3.size (fun j hj => by simp at hj; omega)
  clear hw1 hR1 hR3 hRX gX hb2 hB3
  go_wp2_with fail
  refine bodyPost_ret (v := .tuple #[.agg #[.int .i64 0, .int .i64 0, .int .i64 0], .bool false]) ?_ rfl ⟨rfl, hBX⟩
  simp [results, Try.f30, go_sem, p0, p1, p2]
set_option maxRecDepth 100000 in
set_option maxHeartbeats 1000000 in
theorem tpop_due (base Q : Nat) (v : Value) (x : T3) (r : List T3) (nx now : Int) (w : World) (h : TM base w Q v (x :: r) nx) (hl : r.length ≤ 1000) (hdue : x.2.1 ≤ now) :
    Calls Try.prog 30 #[.pointer (some ⟨Q, 0, none⟩), .int .i64 now] w fun e w' => e = .returned (.tuple #[.agg #[.int .i64 x.1, .int .i64 x.2.1, .int .i64 x.2.2], .bool true]) ∧ TM base w' Q (tailV v 1 3) r nx ∧ AStep w w' (Foot Q v) (Foot Q (tailV v 1 3)) := by
  have hb1 := (Below.refl _ w).alloc (Nat.le_refl _) (.cells #[.int .i64 0, .int .i64 0, .int .i64 0] 72)
  have hR1 := Whole.new w #[.int .i64 0, .int .i64 0, .int .i64 0] 72
  have h1 := h.below hb1
  obtain ⟨w1, hw1⟩ : ∃ w1, w.alloc (.cells #[.int .i64 0, .int .i64 0, .int .i64 0] 72) = w1 := ⟨_, rfl⟩
  rw [hw1] at hb1 hR1 h1
  have H1 := Lib.hid h1
  have hQlt := h.lt
  clear h1
  have hlate : ¬ now < x.2.1 := by omega
  obtain ⟨A0, c0, rfl⟩ := h.row.form
  rcases h.row.addr with ⟨_, h0, _⟩ | ⟨g, off, rfl⟩
  · simp at h0
  have hcn := h.row.le
  have hrl : (x :: r).length = r.length + 1 := rfl
  rw [hrl] at hcn
  clear h
  go_enter Try.func30, Try.ntmps30
  go_wp2_with fail
  refine (tfirst1 base Q _ x r nx w1 H1.out hl).mono ?_
  rintro e w2 ⟨rfl, hb2⟩
  have hb3 := (Below.refl _ w2).alloc (Nat.le_refl _) (.cells #[.int .i64 x.1, .int .i64 x.2.1, .int .i64 x.2.2] 72)
  have hR3 := (hR1.below hb2 hR1.lt).alloc (.cells #[.int .i64 x.1, .int .i64 x.2.1, .int .i64 x.2.2] 72)
  have hB3 := (hb1.trans (hb2.mono hb1.size)).alloc (hb1.trans (hb2.mono hb1.size)).size (.cells #[.int .i64 x.1, .int .i64 x.2.1, .int .i64 x.2.2] 72)
  have hF3 := Whole.new w2 #[.int .i64 x.1, .int .i64 x.2.1, .int .i64 x.2.2] 72
  have hT3 := (H1.out.below hb2).below hb3
  have hbz := hB3.size
  have hs12 := hb1.size
  have hs23 := hb2.size
  have htl : TR (w2.alloc (.cells #[.int .i64 x.1, .int .i64 x.2.1, .int .i64 x.2.2] 72)) base 72 3 (tailV (.slice (some ⟨g, off, none⟩) (x :: r).length c0) 1 3) r.length (trow r) := by
    have h1 := hT3.row.tail (k := 1) (by simp)
    have e1 : (x :: r).length - 1 = r.length := by simp
    have e2 : (trow (x :: r)).drop (1 * 3) = trow r := by rw [trow_drop]; rfl
    rw [e1, e2] at h1
    exact h1
  obtain ⟨hT4, hst4⟩ := hT3.cut htl (tailV_own _ 1 3)
  have hQR : (⟨Q, 0, none⟩ : Addr).block ≠ w.heap.size := fun e => by have := (hQlt Q (.inl rfl)).2; simp at e; omega
  have hQF : (⟨Q, 0, none⟩ : Addr).block ≠ w2.heap.size := fun e => by have := (hQlt Q (.inl rfl)).2; simp at e; omega
  obtain ⟨k1, _, k2, _⟩ := hT3.cells
  have hst4' := (AStep.of_below (F := Foot Q (.slice (some ⟨g, off, none⟩) (x :: r).length c0)) hB3).trans hst4
  rw [hrl] at k1 hT4 hst4'
  have htv : ∃ tv, tailV (.slice (some ⟨g, off, none⟩) (r.length + 1) c0) 1 3 = tv ∧ (c0 = 1 → tv = .slice (some ⟨g, off, none⟩) r.length 0) ∧ (c0 ≠ 1 → tv = .slice (some ⟨g, off + 3, none⟩) r.length (c0 - 1)) := ⟨_, rfl, fun e => by simp [tailV, e], fun e => by simp [tailV, e, Addr.add]⟩
  obtain ⟨tv, htv0, htv1, htv2⟩ := htv
  rw [htv0] at hT4 hst4'
  have HTV := Lib.hid htv0
  have hR4 := hR3.other (a := ⟨Q, 0, none⟩) (fun e => hQR e.symm) tv
  have hF4 := hF3.other (a := ⟨Q, 0, none⟩) (fun e => hQF e.symm) tv
  obtain ⟨W4, hW4⟩ : ∃ W4, (w2.alloc (.cells #[.int .i64 x.1, .int .i64 x.2.1, .int .i64 x.2.2] 72)).setCell ⟨Q, 0, none⟩ tv = W4 := ⟨_, rfl⟩
  rw [hW4] at hT4 hst4' hR4 hF4
  obtain ⟨X, hX, hRX, gX⟩ := box3 hR4 (.int .i64 x.1) (.int .i64 x.2.1) (.int .i64 x.2.2)
  have r0 : (W4).cell? ⟨w.heap.size, 0, none⟩ = some (.int .i64 0) := hR4.cell 0
  have z0 : (W4).frozen? ⟨w.heap.size, 0, none⟩ = false := hR4.free 0
  have r1 : (W4).cell? ⟨w.heap.size, 1, none⟩ = some (.int .i64 0) := hR4.cell 1
  have z1 : (W4).frozen? ⟨w.heap.size, 1, none⟩ = false := hR4.free 1
  have r2 : (W4).cell? ⟨w.heap.size, 2, none⟩ = some (.int .i64 0) := hR4.cell 2
  have z2 : (W4).frozen? ⟨w.heap.size, 2, none⟩ = false := hR4.free 2
  have f0 : W4.cell? ⟨w2.heap.size, 0, none⟩ = some (.int .i64 x.1) := hF4.cell 0
  have f1 : W4.cell? ⟨w2.heap.size, 1, none⟩ = some (.int .i64 x.2.1) := hF4.cell 1
  have f2 : W4.cell? ⟨w2.heap.size, 2, none⟩ = some (.int .i64 x.2.2) := hF4.cell 2
  have p0 : X.cell? ⟨w.heap.size, 0, none⟩ = some (.int .i64 x.1) := hRX.cell 0
  have p1 : X.cell? ⟨w.heap.size, 1, none⟩ = some (.int .i64 x.2.1) := hRX.cell 1
  have p2 : X.cell? ⟨w.heap.size, 2, none⟩ = some (.int .i64 x.2.2) := hRX.cell 2
  have htX : Turns (fun k => k = w.heap.size) W4 X := .of_grown gX (fun k hk => by simpa using hk.symm)
  have hTX := hT4.turns htX (fun k hk e => by
    have h1 := hst4'.2 k
    rcases Nat.lt_or_ge k w.heap.size with hlt | hge
    · omega
    · have := (hT3.lt k (by
        rcases hk with e' | e'
        · exact .inl e'
        · refine .inr ?_
          rw [← htv0, tailV_own] at e'
          exact e'))
      have h2 := (hQlt k (by
        rcases hk with e' | e'
        · exact .inl e'
        · refine .inr ?_
          rw [← htv0, tailV_own] at e'
          exact e')).2
      omega)
  have hstX : AStep w X (Foot Q (.slice (some ⟨g, off, none⟩) (r.length + 1) c0)) (Foot Q tv) := by
    refine ⟨⟨htX.os.trans hst4'.1.os, htX.tape.trans hst4'.1.tape, htX.output.trans hst4'.1.output, Nat.le_trans hst4'.1.size htX.size, fun k hk hn => (htX.block k (Nat.lt_of_lt_of_le hk hst4'.1.size) (by omega)).trans (hst4'.1.block k hk hn)⟩, hst4'.2⟩
  have HTX := Lib.hid hTX
  have HSX := Lib.hid hstX
  clear hw1 hR1 hR3 hR4 hF3 hF4 hRX gX hb2 hB3 hb3 hT3 hT4 hst4 hst4' htl htX hTX hstX hQR hQF hQlt htv0 hs12 hs23 hbz H1 hrl
  by_cases hc : c0 = 1
  · have hr0 : r = [] := List.eq_nil_of_length_eq_zero (by omega)
    subst hr0
    have e : tv = .slice (some ⟨g, off, none⟩) 0 0 := htv1 hc
    subst e
    subst hc
    have k1' : (w2.alloc (.cells #[.int .i64 x.1, .int .i64 x.2.1, .int .i64 x.2.2] 72)).cell? ⟨Q, 0, none⟩ = some (.slice (some ⟨g, off, none⟩) 1 1) := k1
    clear k1 hcn hl
    clear htv1 htv2
    go_wp2_with fail
    refine bodyPost_ret (v := .tuple #[.agg #[.int .i64 x.1, .int .i64 x.2.1, .int .i64 x.2.2], .bool true]) ?_ rfl ⟨rfl, by rw [HTV.out]; exact HTX.out, by rw [HTV.out]; exact HSX.out⟩
    simp [results, Try.f30, go_sem, p0, p1, p2]
  · have e := htv2 hc
    subst e
    clear htv1 htv2
    go_wp2_with fail
    refine bodyPost_ret (v := .tuple #[.agg #[.int .i64 x.1, .int .i64 x.2.1, .int .i64 x.2.2], .bool true]) ?_ rfl ⟨rfl, by rw [HTV.out]; exact HTX.out, by rw [HTV.out]; exact HSX.out⟩
    simp [results, Try.f30, go_sem, p0, p1, p2]
end Go.Proofs.Ytomffkdfgfenpaa
