/- The reference's set of timers: Add, find, Again, Remove. -/
import Derived.Test.YtomffkdfgfenpaaQFil
import Derived.Deep.AppendSrc
namespace Go.Proofs.Ytomffkdfgfenpaa
open Go.RowKit

theorem rInfo : (Try.prog.info? 69).map (fun i => (i.zero, i.size, i.bytes)) = some (some (.agg #[.int .i64 0, .int .i64 0, .int .i64 0]), 3, 24) := by kernel_rfl
/-- The reference's list, in a row. -/
abbrev RV (w : World) (v : Value) (l : List T3) : Prop := TR w 0 69 3 v l.length (trow l)
abbrev rval (v : Value) (nx : Int) : Value := .agg #[v, .int .i64 nx]
theorem empty_row (w : World) (E : TypeId) (size : Nat) : TR (w.alloc (.cells #[] E)) w.heap.size E size (.slice (some ⟨w.heap.size, 0, none⟩) 0 0) 0 [] := by
  have h := World.ownsRow_lit (base := w.heap.size) (e := E) (size := size) w #[] 0 (Nat.le_refl _) (Nat.zero_le _) (by simp)
  exact .of_own (by simpa using h)

set_option maxRecDepth 100000 in
set_option maxHeartbeats 1000000 in
theorem rfind_any (A : Option Addr) (c : Nat) (l : List T3) (nx id : Int) (w : World) (h : RV w (.slice A l.length c) l) (hl : l.length ≤ 1000) :
    Calls Try.prog 39 #[rval (.slice A l.length c) nx, .int .i64 id] w fun e w' => e = .returned (.int .i64 (fndI (fnd id l))) ∧ Below w.heap.size w w' := by
  obtain ⟨n, hn⟩ : ∃ n, l.length = n := ⟨_, rfl⟩
  rw [hn] at hl
  have hb1 := (Below.refl _ w).alloc (Nat.le_refl _) (.cells #[.slice A l.length c, .int .i64 nx] 58)
  have hX := Whole.new w #[.slice A l.length c, .int .i64 nx] 58
  have h1 := h.below hb1
  obtain ⟨w1, hw1⟩ : ∃ w1, w.alloc (.cells #[.slice A l.length c, .int .i64 nx] 58) = w1 := ⟨_, rfl⟩
  rw [hw1] at hb1 hX h1
  have k0 : w1.cell? ⟨w.heap.size, 0, none⟩ = some (.slice A l.length c) := hX.cell 0
  rw [hn] at k0 h1 hw1 ⊢
  have HN := Lib.hid hn
  have HT := Lib.hid h1
  have HX := Lib.hid hX
  clear hn h h1 hX
  go_enter Try.func39, Try.ntmps39
  go_wp2_with fail
  clear hw1
  go_loopw [9] (fun i wr => ∃ k : Nat, k ≤ n ∧ i = .int .i64 k ∧ Hid (∀ (j : Nat) (y : T3), j < k → l[j]? = some y → y.1 ≠ id) ∧ wr = w1) (fun i _ => n - (intOf i).toNat)
  case atStart => exact ⟨0, Nat.zero_le _, rfl, Lib.hid (fun j _ hj => absurd hj (Nat.not_lt_zero _)), rfl⟩
  case round =>
    obtain ⟨k, hk, rfl, HK, rfl⟩ := hrel
    by_cases hlt : k < n
    · obtain ⟨x, hx⟩ : ∃ x, l[k]? = some x := ⟨l[k]'(by rw [HN.out]; exact hlt), by simp⟩
      rcases HT.out.addr with ⟨_, h0, _⟩ | ⟨g, off, rfl⟩
      · omega
      obtain ⟨e1, _, _⟩ := HT.out.timerAt HN.out hx
      have HXX := Lib.hid hx
      have hk1 : (0 : Int) ≤ (k : Int) := by omega
      have hk2 : (k : Int) < (n : Int) := by omega
      clear hx
      by_cases hid : x.1 = id
      · have hf := Lib.hid (fnd_at id l k x HXX.out hid HK.out)
        rw [hid] at e1
        clear hid
        go_wp2_with fail
        go_ret
        refine ⟨?_, hb1⟩
        rw [hf.out]
        rfl
      · have HK' : Hid (∀ (j : Nat) (y : T3), j < k + 1 → l[j]? = some y → y.1 ≠ id) := Lib.hid (fun j y hj hy => by
          by_cases e : j = k
          · subst e
            rw [HXX.out] at hy
            injection hy with hy
            rw [← hy]
            exact hid
          · exact HK.out j y (by omega) hy)
        clear HK
        go_wp2_with fail
        go_roundw
        case rel => exact ⟨k + 1, by omega, by go_num, HK', trivial⟩
        case measure => simp [intOf]; omega
    · have ek : n = k := by omega
      subst ek
      have hf := Lib.hid (fnd_none id l (fun j y hy => HK.out j y (by have := (List.getElem?_eq_some_iff.1 hy).1; have := HN.out; omega) hy))
      go_wp2_with fail
      go_ret
      refine ⟨?_, hb1⟩
      rw [hf.out]
      rfl

theorem box2r {W : World} {B : Nat} {x0 x1 : Value} {T : TypeId} (r : Whole W B #[x0, x1] T) (y0 y1 : Value) :
    ∃ X, (W.setCell ⟨B, 0, none⟩ y0).setCell ⟨B, 1, none⟩ y1 = X ∧ Whole X B #[y0, y1] T ∧ W.grownBy X (some B) :=
  ⟨_, rfl, (r.put 0 y0).put 1 y1, gb_put (gb_put (gb_of_below (Below.refl W.heap.size W) (some B)) 0 y0) 1 y1⟩
set_option maxRecDepth 100000 in
set_option maxHeartbeats 1000000 in
theorem radd_any (A : Option Addr) (c : Nat) (l : List T3) (nx due : Int) (w : World) (h : RV w (.slice A l.length c) l) (hl : l.length ≤ 1000) (hnx : 0 ≤ nx ∧ nx ≤ 100000) :
    Calls Try.prog 23 #[rval (.slice A l.length c) nx, .int .i64 due] w fun e w' => ∃ v', e = .returned (rval v' (nx + 1)) ∧ RV w' v' (l ++ [(nx + 1, due, nx + 1)]) ∧ Below w.heap.size w w' := by
  obtain ⟨i0, hi0, hz0, hz1, hz2⟩ := info_parts rInfo
  have hwx : IntKind.i64.wrap (nx + 1) = nx + 1 := by rw [IntKind.wrap_i64]; omega
  obtain ⟨n, hn⟩ : ∃ n, l.length = n := ⟨_, rfl⟩
  rw [hn] at h hl
  have hb1 := (Below.refl _ w).alloc (Nat.le_refl _) (.cells #[.slice A n c, .int .i64 nx] 58)
  have hX1 := Whole.new w #[.slice A n c, .int .i64 nx] 58
  have hz1' : (w.alloc (.cells #[.slice A n c, .int .i64 nx] 58)).heap.size = w.heap.size + 1 := by simp
  obtain ⟨w1, hw1⟩ : ∃ w1, w.alloc (.cells #[.slice A n c, .int .i64 nx] 58) = w1 := ⟨_, rfl⟩
  rw [hw1] at hb1 hX1 hz1'
  have hb2 := hb1.alloc hb1.size (.cells #[.slice none 0 0, .int .i64 0] 58)
  have hX2 := hX1.alloc (.cells #[.slice none 0 0, .int .i64 0] 58)
  have hR2 := Whole.new w1 #[.slice none 0 0, .int .i64 0] 58
  have hz2' : (w1.alloc (.cells #[.slice none 0 0, .int .i64 0] 58)).heap.size = w.heap.size + 1 + 1 := by simp [hz1']
  obtain ⟨w2, hw2⟩ : ∃ w2, w1.alloc (.cells #[.slice none 0 0, .int .i64 0] 58) = w2 := ⟨_, rfl⟩
  rw [hw2] at hb2 hX2 hR2 hz2'
  have k0 : w2.cell? ⟨w.heap.size, 0, none⟩ = some (.slice A n c) := hX2.cell 0
  have k1 : w2.cell? ⟨w.heap.size, 1, none⟩ = some (.int .i64 nx) := hX2.cell 1
  have h2 := h.below hb2
  have hb3 := hb2.alloc hb2.size (.cells #[] 69)
  have hX3 := hX2.alloc (.cells #[] 69)
  have hR3 := hR2.alloc (.cells #[] 69)
  have e3 := (empty_row w2 69 3).lower (show w.heap.size ≤ w2.heap.size by omega)
  have k3 : (w2.alloc (.cells #[] 69)).cell? ⟨w.heap.size, 0, none⟩ = some (.slice A n c) := hX3.cell 0
  have s3 := (h.below hb3).source
  have hbs3 := hb3.size
  obtain ⟨w3, hw3⟩ : ∃ w3, w2.alloc (.cells #[] 69) = w3 := ⟨_, rfl⟩
  rw [hw3] at hb3 hR3 e3 k3 s3 hbs3
  have happ : trow l ++ tcells (nx + 1, due, nx + 1) = trow (l ++ [(nx + 1, due, nx + 1)]) := by rw [trow_append]; simp [trow]
  have hsl : (trow l).length = n * 3 := by rw [trow_len, hn]
  have h1l := trow_one l
  obtain ⟨xs, hxs⟩ : ∃ xs, trow l = xs := ⟨_, rfl⟩
  rw [hxs] at happ hsl h1l s3
  rw [hn] at s3
  have HAPP := Lib.hid happ
  have HN := Lib.hid hn
  have HR3 := Lib.hid hR3
  have HZ := Lib.hid hz2'
  have HZ1 := Lib.hid hz1'
  rw [hn]
  clear hX1 hX2 hX3 hR2 h h2 happ hn hxs hR3 hb1 hb2 hz2' hz1'
  go_enter Try.func23, Try.ntmps23
  go_wp2_with (at_builtin; refine wpList_append_tail rfl _ _ 56 rfl w.heap.size 69 i0 _ 3 24 Try.underlying56 hi0 hz0 hz1 hz2 rfl (by decide) _ 0 [] rfl e3 _ n xs rfl hsl s3 h1l ?c4 ?c5 hbs3 ?_)
  case c4 => unfold maxLen; omega
  case c5 => omega
  intro v4 w4 o4 g4 _
  try simp only [Nat.zero_add, List.nil_append] at o4
  have hb4 : Below w.heap.size w w4 := hb3.grown g4 hbs3 (fun j hj => by simp [Value.ownBlock] at hj; have := HZ.out; omega)
  have hR4 := HR3.out.grown g4 (fun e => by simp [Value.ownBlock] at e; have := HZ.out; have := HZ1.out; omega)
  obtain ⟨A4, c4, rfl⟩ := o4.form
  have hb5 := (Below.refl _ w4).alloc (Nat.le_refl _) (.cells #[.int .i64 (nx + 1), .int .i64 due, .int .i64 (nx + 1)] 69)
  have o5 := o4.below hb5
  have hR5 := hR4.alloc (.cells #[.int .i64 (nx + 1), .int .i64 due, .int .i64 (nx + 1)] 69)
  have s5 := one_source w4 69 (tcells (nx + 1, due, nx + 1))
  have hB5 := hb4.trans (hb5.mono hb4.size)
  have hbs5 := hB5.size
  have h1t := t_one (nx + 1, due, nx + 1)
  obtain ⟨w5, hw5⟩ : ∃ w5, w4.alloc (.cells #[.int .i64 (nx + 1), .int .i64 due, .int .i64 (nx + 1)] 69) = w5 := ⟨_, rfl⟩
  rw [show (tcells (nx + 1, due, nx + 1)).toArray = #[.int .i64 (nx + 1), .int .i64 due, .int .i64 (nx + 1)] from rfl, hw5] at s5
  rw [hw5] at o5 hR5 hB5 hbs5
  have HR5 := Lib.hid hR5
  clear o4 g4 hR4 hb5 hb4 e3 s3 k3 k0 k1 hw3 hw2 hw1 hR5
  go_wp2_with (at_builtin; refine wpList_append_tail rfl _ _ 56 rfl w.heap.size 69 i0 _ 3 24 Try.underlying56 hi0 hz0 hz1 hz2 rfl (by decide) _ n xs rfl o5 _ 1 (tcells (nx + 1, due, nx + 1)) rfl rfl s5 h1t ?c4 ?c5 hbs5 ?_)
  case c4 => unfold maxLen; omega
  case c5 => omega
  intro v6 w6 o6 g6 f6
  obtain ⟨A6, c6, rfl⟩ := o6.form
  have hB6 : Below w.heap.size w w6 := hB5.grown g6 hbs5 (fun j hj => (o5.lt j hj).1)
  have hR6 := HR5.out.grown g6 (fun e => o5.unlike HR5.out (by decide) e.symm)
  obtain ⟨X, hX, hRX, gX⟩ := box2r hR6 (.slice A6 (n + 1) c6) (.int .i64 (nx + 1))
  have hBX := hB6.grown gX hB6.size (fun j hj => by simp at hj; have := HZ1.out; omega)
  have oX := o6.turns (.of_grown gX (S := fun k => k = w1.heap.size) (fun k hk => by simpa using hk.symm)) (fun k hk e => o6.unlike hR6 (by decide) (by rw [hk, e]))
  rw [HAPP.out] at oX
  have oX' : RV X (.slice A6 (n + 1) c6) (l ++ [(nx + 1, due, nx + 1)]) := by
    have h := oX.lower (Nat.zero_le _)
    unfold RV
    rw [List.length_append, HN.out]
    exact h
  have OX := Lib.hid oX'
  have r0 : w6.cell? ⟨w1.heap.size, 0, none⟩ = some (.slice none 0 0) := hR6.cell 0
  have r1 : w6.cell? ⟨w1.heap.size, 1, none⟩ = some (.int .i64 0) := hR6.cell 1
  have z0 := hR6.free 0
  have z1 := hR6.free 1
  have p0 : X.cell? ⟨w1.heap.size, 0, none⟩ = some (.slice A6 (n + 1) c6) := hRX.cell 0
  have p1 : X.cell? ⟨w1.heap.size, 1, none⟩ = some (.int .i64 (nx + 1)) := hRX.cell 1
  clear o5 s5 o6 g6 f6 oX oX' hR6 hRX gX hw5
  go_wp2_with fail
  refine bodyPost_ret (v := rval (.slice A6 (n + 1) c6) (nx + 1)) ?_ rfl ⟨_, rfl, OX.out, hBX⟩
  simp [results, Try.f23, go_sem, p0, p1]
end Go.Proofs.Ytomffkdfgfenpaa
