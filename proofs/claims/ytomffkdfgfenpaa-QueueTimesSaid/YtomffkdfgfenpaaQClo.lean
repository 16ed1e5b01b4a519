/- slices.Clone, a queue's Clone and Take. -/
import Derived.Test.YtomffkdfgfenpaaQTin
import Derived.Test.YtomffkdfgfenpaaQInt
import Derived.Lib.SliceRun
namespace Go.Proofs.Ytomffkdfgfenpaa
open Go.RowKit

set_option maxRecDepth 100000 in
set_option maxHeartbeats 1000000 in
theorem cloneI (base : Nat) (v : Value) (n : Nat) (xs : List Value) (w : World) (h : TR w base 3 1 v n xs) (h1 : ∀ u ∈ xs, u.oneCell' = true) (hl : n ≤ 100000) :
    Calls Try.prog 37 #[v] w fun e w' => ∃ v', e = .returned v' ∧ TR w' w.heap.size 3 1 v' n xs ∧ Below w.heap.size w w' := by
  obtain ⟨i0, hi0, hz0, hz1, hz2⟩ := info_parts qInfoI
  obtain ⟨A, c, rfl⟩ := h.form
  have hcmp : ∀ (w : World) (a : Option Addr) (n c : Nat), (binOp .eql 24 (.slice a n c) (.slice none 0 0)).run Try.prog w = .ok (.bool a.isNone) w := fun w a n c => Lib.run_eql_slice_nil w _ _ a n c 0 0 Try.underlying24
  go_enter Try.func37, Try.ntmps37
  cases A with
  | none =>
    have hn : n = 0 := by
      rcases h.2 with ⟨_, h0⟩ | ⟨g, off, cap, cur, hv, _⟩
      · exact h0
      · cases hv
    have hx : xs = [] := List.eq_nil_of_length_eq_zero (by rw [h.1, hn, Nat.zero_mul])
    have HN := Lib.hid hn
    have HX := Lib.hid hx
    clear hn h hx
    go_wp2_with fail
    go_ret
    refine ⟨_, rfl, ?_, Below.refl _ w⟩
    rw [HN.out, HX.out]
    exact TR.nil _ _ _ _
  | some a =>
    have e1 : TR (w.alloc (.cells #[] 3)) w.heap.size 3 1 (.slice (some ⟨w.heap.size, 0, none⟩) 0 0) 0 [] := by
      have h := World.ownsRow_lit (base := w.heap.size) (e := 3) (size := 1) w #[] 0 (Nat.le_refl _) (Nat.zero_le _) (by simp)
      exact .of_own (by simpa using h)
    have hb1 := (Below.refl _ w).alloc (Nat.le_refl _) (.cells #[] 3)
    have s1 := (h.below hb1).source
    go_wp2_with (at_builtin; refine wpList_append_tail rfl _ _ 24 rfl w.heap.size 3 i0 (.int .i64 0) 1 8 Try.underlying24 hi0 hz0 hz1 hz2 rfl (by decide) _ 0 [] rfl e1 _ n xs rfl h.1 s1 h1 ?c4 ?c5 hb1.size ?_)
    case c4 => unfold maxLen; omega
    case c5 => omega
    intro v2 w2 o2 g2 _
    have hb2 : Below w.heap.size w w2 := hb1.grown g2 hb1.size (fun j hj => by simp [Value.ownBlock] at hj; omega)
    try simp only [Nat.zero_add, List.nil_append] at o2
    have O2 := Lib.hid o2
    clear h e1 s1 o2 g2
    go_wp2_with fail
    go_ret
    exact ⟨_, rfl, O2.out, hb2⟩

set_option maxRecDepth 100000 in
set_option maxHeartbeats 1000000 in
theorem cloneT (base : Nat) (v : Value) (n : Nat) (xs : List Value) (w : World) (h : TR w base 72 3 v n xs) (h1 : ∀ u ∈ xs, u.oneCell' = true) (hl : n ≤ 100000) :
    Calls Try.prog 43 #[v] w fun e w' => ∃ v', e = .returned v' ∧ TR w' w.heap.size 72 3 v' n xs ∧ Below w.heap.size w w' := by
  obtain ⟨i0, hi0, hz0, hz1, hz2⟩ := info_parts timerInfo
  obtain ⟨A, c, rfl⟩ := h.form
  have hcmp : ∀ (w : World) (a : Option Addr) (n c : Nat), (binOp .eql 53 (.slice a n c) (.slice none 0 0)).run Try.prog w = .ok (.bool a.isNone) w := fun w a n c => Lib.run_eql_slice_nil w _ _ a n c 0 0 Try.underlying53
  go_enter Try.func43, Try.ntmps43
  cases A with
  | none =>
    have hn : n = 0 := by
      rcases h.2 with ⟨_, h0⟩ | ⟨g, off, cap, cur, hv, _⟩
      · exact h0
      · cases hv
    have hx : xs = [] := List.eq_nil_of_length_eq_zero (by rw [h.1, hn, Nat.zero_mul])
    have HN := Lib.hid hn
    have HX := Lib.hid hx
    clear hn h hx
    go_wp2_with fail
    go_ret
    refine ⟨_, rfl, ?_, Below.refl _ w⟩
    rw [HN.out, HX.out]
    exact TR.nil _ _ _ _
  | some a =>
    have e1 : TR (w.alloc (.cells #[] 72)) w.heap.size 72 3 (.slice (some ⟨w.heap.size, 0, none⟩) 0 0) 0 [] := by
      have h := World.ownsRow_lit (base := w.heap.size) (e := 72) (size := 3) w #[] 0 (Nat.le_refl _) (Nat.zero_le _) (by simp)
      exact .of_own (by simpa using h)
    have hb1 := (Below.refl _ w).alloc (Nat.le_refl _) (.cells #[] 72)
    have s1 := (h.below hb1).source
    go_wp2_with (at_builtin; refine wpList_append_tail rfl _ _ 53 rfl w.heap.size 72 i0 (.agg #[.int .i64 0, .int .i64 0, .int .i64 0]) 3 24 Try.underlying53 hi0 hz0 hz1 hz2 rfl (by decide) _ 0 [] rfl e1 _ n xs rfl h.1 s1 h1 ?c4 ?c5 hb1.size ?_)
    case c4 => unfold maxLen; omega
    case c5 => omega
    intro v2 w2 o2 g2 _
    have hb2 : Below w.heap.size w w2 := hb1.grown g2 hb1.size (fun j hj => by simp [Value.ownBlock] at hj; omega)
    try simp only [Nat.zero_add, List.nil_append] at o2
    have O2 := Lib.hid o2
    clear h e1 s1 o2 g2
    go_wp2_with fail
    go_ret
    exact ⟨_, rfl, O2.out, hb2⟩

set_option maxRecDepth 100000 in
set_option maxHeartbeats 1000000 in
theorem qcloneI (base Q : Nat) (v : Value) (n : Nat) (xs : List Value) (w : World) (h : QM 26 3 1 base w Q v n xs) (h1 : ∀ u ∈ xs, u.oneCell' = true) (hl : n ≤ 100000) :
    Calls Try.prog 21 #[.pointer (some ⟨Q, 0, none⟩)] w fun e w' => ∃ v', e = .returned (.agg #[v']) ∧ TR w' w.heap.size 3 1 v' n xs ∧ Below w.heap.size w w' := by
  have hb1 := (Below.refl _ w).alloc (Nat.le_refl _) (.cells #[.slice none 0 0] 26)
  have hR1 := Whole.new w #[.slice none 0 0] 26
  have hz1 : (w.alloc (.cells #[.slice none 0 0] 26)).heap.size = w.heap.size + 1 := by simp
  obtain ⟨w1, hw1⟩ : ∃ w1, w.alloc (.cells #[.slice none 0 0] 26) = w1 := ⟨_, rfl⟩
  rw [hw1] at hb1 hR1 hz1
  have hm1 := h.below hb1
  obtain ⟨k1, k2⟩ := hm1.cell
  obtain ⟨A0, c0, rfl⟩ := h.row.form
  have HM := Lib.hid hm1
  have HZ := Lib.hid hz1
  clear h hm1 hz1
  go_enter Try.func21, Try.ntmps21
  go_wp2_with fail
  refine (cloneI base _ n xs w1 HM.out.row h1 hl).mono ?_
  rintro e w2 ⟨v2, rfl, o2, hb2⟩
  have hR2 := hR1.below hb2 hR1.lt
  obtain ⟨A2, c2, rfl⟩ := o2.form
  have r0 : w2.cell? ⟨w.heap.size, 0, none⟩ = some (.slice none 0 0) := hR2.cell 0
  have f0 := hR2.free 0
  have hB2 := hb1.trans (hb2.mono hb1.size)
  have hB3 := hB2.setCell (p := ⟨w.heap.size, 0, none⟩) (Nat.le_refl _) (.slice A2 n c2)
  have g3 : w2.grownBy (w2.setCell ⟨w.heap.size, 0, none⟩ (.slice A2 n c2)) (some w.heap.size) := gb_put (gb_of_below (Below.refl w2.heap.size w2) (some w.heap.size)) 0 _
  have o3 := o2.turns (.of_grown g3 (S := fun k => k = w.heap.size) (fun k hk => by simpa using hk.symm)) (fun k hk e => by have := (o2.lt k hk).1; have := HZ.out; omega)
  have hR3 := hR2.put 0 (.slice A2 n c2)
  have p0 : (w2.setCell ⟨w.heap.size, 0, none⟩ (.slice A2 n c2)).cell? ⟨w.heap.size, 0, none⟩ = some (.slice A2 n c2) := hR3.cell 0
  have O3 := Lib.hid (o3.lower hb1.size)
  clear hR1 hR2 o2 hb2 hB2 g3 o3 hR3 k1 k2
  go_wp2_with fail
  refine bodyPost_ret (v := .agg #[.slice A2 n c2]) ?_ rfl ⟨_, rfl, O3.out, hB3⟩
  simp [results, Try.f21, go_sem, p0]

/-- How many are taken. -/
def clamp (n : Int) (N : Nat) : Nat := if n < 0 then 0 else if (N : Int) < n then N else n.toNat
theorem clamp_le (n : Int) (N : Nat) : clamp n N ≤ N := by unfold clamp; split; omega; split <;> omega
set_option maxRecDepth 100000 in
set_option maxHeartbeats 1000000 in
theorem qtakeI (base Q : Nat) (v : Value) (N : Nat) (xs : List Value) (n : Int) (w : World) (h : QM 26 3 1 base w Q v N xs) (h1 : ∀ u ∈ xs, u.oneCell' = true) (hl : N ≤ 100000) (_hn : -9223372036854775808 ≤ n ∧ n ≤ 9223372036854775807) :
    Calls Try.prog 22 #[.pointer (some ⟨Q, 0, none⟩), .int .i64 n] w fun e w' => ∃ v', e = .returned v' ∧ TR w' w.heap.size 3 1 v' (clamp n N) (xs.take (clamp n N)) ∧ QM 26 3 1 base w' Q (tailV v (clamp n N) 1) (N - clamp n N) (xs.drop (clamp n N)) ∧ AStep w w' (Foot Q v) (Foot Q (tailV v (clamp n N) 1)) := by
  have hk : clamp n N ≤ N := clamp_le n N
  have hcases : (n < 0 ∧ clamp n N = 0) ∨ (0 ≤ n ∧ (N : Int) < n ∧ clamp n N = N) ∨ (0 ≤ n ∧ n ≤ (N : Int) ∧ n = ((clamp n N : Nat) : Int)) := by
    unfold clamp
    by_cases h1 : n < 0
    · exact .inl ⟨h1, if_pos h1⟩
    · by_cases h2 : (N : Int) < n
      · exact .inr (.inl ⟨by omega, h2, by rw [if_neg h1, if_pos h2]⟩)
      · exact .inr (.inr ⟨by omega, by omega, by rw [if_neg h1, if_neg h2]; omega⟩)
  obtain ⟨kk, hkk⟩ : ∃ kk, clamp n N = kk := ⟨_, rfl⟩
  rw [hkk] at hk hcases ⊢
  obtain ⟨k1, k2⟩ := h.cell
  obtain ⟨A0, c0, rfl⟩ := h.row.form
  have hcn := h.row.le
  have hhd := h.row.head hk
  have htl := h.row.tail hk
  rw [Nat.mul_one] at hhd htl
  have hone : ∀ u ∈ xs.take kk, u.oneCell' = true := fun u hu => h1 u (List.mem_of_mem_take hu)
  have hbig : kk ≤ 100000 := by omega
  have hstep : ∀ (v1 : Value) (w1 : World), TR w1 w.heap.size 3 1 v1 kk (xs.take kk) → Below w.heap.size w w1 →
      w1.cell? ⟨Q, 0, none⟩ = some (.slice A0 N c0) ∧ w1.frozen? ⟨Q, 0, none⟩ = false ∧ TR (w1.setCell ⟨Q, 0, none⟩ (tailV (.slice A0 N c0) kk 1)) w.heap.size 3 1 v1 kk (xs.take kk) ∧
      QM 26 3 1 base (w1.setCell ⟨Q, 0, none⟩ (tailV (.slice A0 N c0) kk 1)) Q (tailV (.slice A0 N c0) kk 1) (N - kk) (xs.drop kk) ∧ AStep w (w1.setCell ⟨Q, 0, none⟩ (tailV (.slice A0 N c0) kk 1)) (Foot Q (.slice A0 N c0)) (Foot Q (tailV (.slice A0 N c0) kk 1)) := fun v1 w1 o1 hb1 => by
    have hm1 := h.below hb1
    obtain ⟨j2, j3⟩ := hm1.cut (by decide) (htl.below hb1) (tailV_own _ kk 1)
    have g3 : w1.grownBy (w1.setCell ⟨Q, 0, none⟩ (tailV (.slice A0 N c0) kk 1)) (some Q) := gb_put (gb_of_below (Below.refl w1.heap.size w1) (some Q)) 0 _
    have hQ := h.var.lt
    exact ⟨hm1.cell.1, hm1.cell.2, o1.turns (.of_grown g3 (S := fun k => k = Q) (fun k hk => by simpa using hk.symm)) (fun k hk e => by have := (o1.lt k hk).1; omega), j2, (AStep.of_below hb1).trans j3⟩
  have hcall := cloneI base _ kk (xs.take kk) w hhd hone hbig
  have HC := Lib.hid hcall
  have HS := Lib.hid hstep
  by_cases hc : c0 = kk
  · have et : tailV (.slice A0 N c0) kk 1 = .slice A0 (N - kk) 0 := by simp [tailV, hc]
    rw [et] at HS ⊢
    clear h hhd htl hstep hcall hone hkk et
    have hNk : N - kk = 0 := by omega
    have hNN : N = kk := by omega
    rw [hNk] at HS ⊢
    subst hc
    subst hNN
    clear hNk
    rcases hcases with ⟨g1, gk⟩ | ⟨g0, g1, gk⟩ | ⟨g0, g1, gk⟩
    all_goals
      try subst gk
      go_enter Try.func22, Try.ntmps22
      go_wp2_with fail
      refine HC.out.mono ?_
      rintro e w1 ⟨v1, rfl, o1, hb1⟩
      obtain ⟨q1, q2, q3, q4, q5⟩ := HS.out v1 w1 o1 hb1
      obtain ⟨A1, c1, rfl⟩ := o1.form
      have Q3 := Lib.hid q3
      have Q4 := Lib.hid q4
      have Q5 := Lib.hid q5
      clear q3 q4 q5 o1 k1
      go_wp2_with fail
      go_ret
      exact ⟨_, rfl, by simpa using Q3.out, by simpa using Q4.out, by simpa using Q5.out⟩
  · rcases h.row.addr with ⟨_, h2, h3⟩ | ⟨g, off, rfl⟩
    · omega
    have et : tailV (.slice (some ⟨g, off, none⟩) N c0) kk 1 = .slice (some ⟨g, off + kk, none⟩) (N - kk) (c0 - kk) := by
      have e : (⟨g, off, none⟩ : Addr).add kk = ⟨g, off + kk, none⟩ := by unfold Addr.add; split <;> simp_all
      simp [tailV, hc, e]
    rw [et] at HS ⊢
    clear h hhd htl hstep hcall hone hkk et
    rcases hcases with ⟨g1, gk⟩ | ⟨g0, g1, gk⟩ | ⟨g0, g1, gk⟩
    all_goals
      try subst gk
      go_enter Try.func22, Try.ntmps22
      go_wp2_with fail
      refine HC.out.mono ?_
      rintro e w1 ⟨v1, rfl, o1, hb1⟩
      obtain ⟨q1, q2, q3, q4, q5⟩ := HS.out v1 w1 o1 hb1
      obtain ⟨A1, c1, rfl⟩ := o1.form
      have Q3 := Lib.hid q3
      have Q4 := Lib.hid q4
      have Q5 := Lib.hid q5
      clear q3 q4 q5 o1 k1
      go_wp2_with fail
      go_ret
      exact ⟨_, rfl, by simpa using Q3.out, by simpa using Q4.out, by simpa using Q5.out⟩
end Go.Proofs.Ytomffkdfgfenpaa
