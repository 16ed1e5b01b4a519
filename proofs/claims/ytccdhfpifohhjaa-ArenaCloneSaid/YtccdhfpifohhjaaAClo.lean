/- slices.Clone of a row, and an arena's Clone: new rows with the same cells. -/
import Derived.Test.YtccdhfpifohhjaaACodeG
import Derived.Test.YtccdhfpifohhjaaAAptW
import Derived.Test.YtccdhfpifohhjaaAFilW
import Derived.Lib.SliceRun
namespace Go.Proofs.Ytccdhfpifohhjaa
open Go.RowKit

set_option maxRecDepth 100000 in
set_option maxHeartbeats 1000000 in
theorem cloneS_any (v : Value) (cs : List (Option Int)) (w : World) (h : w.ownsRow 0 57 2 v cs.length (Ar.slots cs)) (hl : cs.length ≤ 1000) :
    Calls Try.prog 49 #[v] w fun e w' => ∃ v', e = .returned v' ∧ w'.ownsRow w.heap.size 57 2 v' cs.length (Ar.slots cs) ∧ Below w.heap.size w w' := by
  obtain ⟨i0, hi0, hz0, hz1, hz2⟩ := info_parts slotInfoI
  obtain ⟨A, c, rfl⟩ := own_slice h
  have hcmp : ∀ (w : World) (a : Option Addr) (n c : Nat), (binOp .eql 26 (.slice a n c) (.slice none 0 0)).run Try.prog w = .ok (.bool a.isNone) w := fun w a n c => Lib.run_eql_slice_nil w _ _ a n c 0 0 Try.underlying26
  go_enter Try.func49, Try.ntmps49
  cases A with
  | none =>
    have hn : cs.length = 0 := by
      rcases h.2 with ⟨hv, hx⟩ | ⟨g, cap, cur, hv, _⟩
      · exact hx
      · cases hv
    have hx : Ar.slots cs = [] := by
      have := List.eq_nil_of_length_eq_zero hn
      subst this; rfl
    have HN := Lib.hid hn
    clear hn h
    go_wp2_with fail
    go_ret
    refine ⟨_, rfl, ?_, Below.refl _ w⟩
    rw [hx, HN.out]
    exact World.ownsRow_nil _ _ _ _
  | some a =>
    obtain ⟨g, rfl, _, _⟩ : ∃ g, a = ⟨g, 0, none⟩ ∧ True ∧ True := by
      rcases h.2 with ⟨hv, _⟩ | ⟨g, cap, cur, hv, _⟩
      · cases hv
      · injection hv with h1; injection h1 with h1; exact ⟨g, h1, trivial, trivial⟩
    have e1 : (w.alloc (.cells #[] 57)).ownsRow w.heap.size 57 2 (.slice (some ⟨w.heap.size, 0, none⟩) 0 0) 0 [] := by
      have h := World.ownsRow_lit (base := w.heap.size) (e := 57) (size := 2) w #[] 0 (Nat.le_refl _) (Nat.zero_le _) rfl
      simpa using h
    have hb1 := (Below.refl _ w).alloc (Nat.le_refl _) (.cells #[] 57)
    have s1 := own_below h hb1
    go_wp2_with (at_builtin; refine wpList_append_src rfl _ _ 26 rfl w.heap.size 0 57 i0 (.agg #[.bool false, .int .i64 0]) 2 16 Try.underlying26 hi0 hz0 hz1 hz2 rfl (by decide) _ 0 [] rfl e1 _ cs.length (Ar.slots cs) rfl s1 (slots_one cs) ?c3 ?c4 hb1.size ?_)
    case c3 => unfold maxLen; omega
    case c4 => omega
    intro v2 w2 o2 g2 _
    have hb2 : Below w.heap.size w w2 := hb1.grown g2 hb1.size (fun j hj => by simp [Value.ownBlock] at hj; omega)
    try simp only [Nat.zero_add, List.nil_append] at o2
    go_wp2_with fail
    go_ret
    exact ⟨_, rfl, o2, hb2⟩

set_option maxRecDepth 100000 in
set_option maxHeartbeats 1000000 in
theorem cloneF_any (v : Value) (fr : List Nat) (w : World) (h : w.ownsRow 0 3 1 v fr.length (Ar.nums fr)) (hl : fr.length ≤ 1000) :
    Calls Try.prog 50 #[v] w fun e w' => ∃ v', e = .returned v' ∧ w'.ownsRow w.heap.size 3 1 v' fr.length (Ar.nums fr) ∧ Below w.heap.size w w' := by
  obtain ⟨i0, hi0, hz0, hz1, hz2⟩ := info_parts intInfo
  obtain ⟨A, c, rfl⟩ := own_slice h
  have hcmp : ∀ (w : World) (a : Option Addr) (n c : Nat), (binOp .eql 27 (.slice a n c) (.slice none 0 0)).run Try.prog w = .ok (.bool a.isNone) w := fun w a n c => Lib.run_eql_slice_nil w _ _ a n c 0 0 Try.underlying27
  go_enter Try.func50, Try.ntmps50
  cases A with
  | none =>
    have hn : fr.length = 0 := by
      rcases h.2 with ⟨hv, hx⟩ | ⟨g, cap, cur, hv, _⟩
      · exact hx
      · cases hv
    have hx : Ar.nums fr = [] := by
      have := List.eq_nil_of_length_eq_zero hn
      subst this; rfl
    have HN := Lib.hid hn
    clear hn h
    go_wp2_with fail
    go_ret
    refine ⟨_, rfl, ?_, Below.refl _ w⟩
    rw [hx, HN.out]
    exact World.ownsRow_nil _ _ _ _
  | some a =>
    obtain ⟨g, rfl, _, _⟩ : ∃ g, a = ⟨g, 0, none⟩ ∧ True ∧ True := by
      rcases h.2 with ⟨hv, _⟩ | ⟨g, cap, cur, hv, _⟩
      · cases hv
      · injection hv with h1; injection h1 with h1; exact ⟨g, h1, trivial, trivial⟩
    have e1 : (w.alloc (.cells #[] 3)).ownsRow w.heap.size 3 1 (.slice (some ⟨w.heap.size, 0, none⟩) 0 0) 0 [] := by
      have h := World.ownsRow_lit (base := w.heap.size) (e := 3) (size := 1) w #[] 0 (Nat.le_refl _) (Nat.zero_le _) rfl
      simpa using h
    have hb1 := (Below.refl _ w).alloc (Nat.le_refl _) (.cells #[] 3)
    have s1 := own_below h hb1
    go_wp2_with (at_builtin; refine wpList_append_src rfl _ _ 27 rfl w.heap.size 0 3 i0 (.int .i64 0) 1 8 Try.underlying27 hi0 hz0 hz1 hz2 rfl (by decide) _ 0 [] rfl e1 _ fr.length (Ar.nums fr) rfl s1 (nums_one fr) ?c3 ?c4 hb1.size ?_)
    case c3 => unfold maxLen; omega
    case c4 => omega
    intro v2 w2 o2 g2 _
    have hb2 : Below w.heap.size w w2 := hb1.grown g2 hb1.size (fun j hj => by simp [Value.ownBlock] at hj; omega)
    try simp only [Nat.zero_add, List.nil_append] at o2
    go_wp2_with fail
    go_ret
    exact ⟨_, rfl, o2, hb2⟩

set_option maxRecDepth 100000 in
set_option maxHeartbeats 1000000 in
theorem aclone_any (base B : Nat) (b s : Int) (cs : List (Option Int)) (fr : List Nat) (F : Nat → Prop) (w : World) (hm : AI base w B b s cs fr F) (hl : cs.length ≤ 1000) (hf : fr.length ≤ 1000) :
    Calls Try.prog 32 #[.pointer (some ⟨B, 0, none⟩)] w fun e w' => ∃ vs vf, e = .returned (arenaV b s vs vf (Ar.live cs : Nat)) ∧ w'.ownsRow w.heap.size 57 2 vs cs.length (Ar.slots cs) ∧ w'.ownsRow w.heap.size 3 1 vf fr.length (Ar.nums fr) ∧ Below w.heap.size w w' := by
  obtain ⟨A, c, A', c', hM, hF⟩ := hm.opened (by decide) (by decide) (by decide)
  have hb1 := (Below.refl _ w).alloc (Nat.le_refl _) (.cells #[.int .i64 0, .int .i64 0, .slice none 0 0, .slice none 0 0, .int .i64 0] 29)
  have hR1 := Whole.new w #[.int .i64 0, .int .i64 0, .slice none 0 0, .slice none 0 0, .int .i64 0] 29
  have hM1 := hM.below hb1
  have hz1 : (w.alloc (.cells #[.int .i64 0, .int .i64 0, .slice none 0 0, .slice none 0 0, .int .i64 0] 29)).heap.size = w.heap.size + 1 := by simp
  obtain ⟨W1, hW1⟩ : ∃ W1, w.alloc (.cells #[.int .i64 0, .int .i64 0, .slice none 0 0, .slice none 0 0, .int .i64 0] 29) = W1 := ⟨_, rfl⟩
  rw [hW1] at hb1 hR1 hM1 hz1
  obtain ⟨m0, m1, m2, m3, m4⟩ := hM1.cells
  have hC2 := Whole.new W1 #[.int .i64 b, .int .i64 s, .slice A cs.length c, .slice A' fr.length c', .int .i64 (Ar.live cs : Nat)] 29
  have hb2 := (Below.refl _ W1).alloc (Nat.le_refl _) (.cells #[.int .i64 b, .int .i64 s, .slice A cs.length c, .slice A' fr.length c', .int .i64 (Ar.live cs : Nat)] 29)
  have hM2 := hM1.below hb2
  have hR2 := hR1.below hb2 hR1.lt
  have hB2 := hb1.trans (hb2.mono (by omega))
  have hz2 : (W1.alloc (.cells #[.int .i64 b, .int .i64 s, .slice A cs.length c, .slice A' fr.length c', .int .i64 (Ar.live cs : Nat)] 29)).heap.size = w.heap.size + 2 := by simp [hz1]
  obtain ⟨W2, hW2⟩ : ∃ W2, W1.alloc (.cells #[.int .i64 b, .int .i64 s, .slice A cs.length c, .slice A' fr.length c', .int .i64 (Ar.live cs : Nat)] 29) = W2 := ⟨_, rfl⟩
  rw [hW2] at hb2 hC2 hM2 hR2 hz2 hB2
  have k2 := hM2.cells.2.2.1
  have hN : Hid (W1.heap.size = w.heap.size + 1) := Lib.hid hz1
  have hN2 : Hid (W2.heap.size = w.heap.size + 2) := Lib.hid hz2
  have hlt : ∀ k, Foot B (.slice A cs.length c) (.slice A' fr.length c') k → k ≠ W1.heap.size := fun k hk => by have := (hM1.am.lt k hk).2; omega
  have HLT := Lib.hid hlt
  clear hlt
  have HM2 := Lib.hid hM2
  have HC2 := Lib.hid hC2
  clear hz1 hz2 hM hM1 hM2 hm hF hC2
  go_enter Try.func32, Try.ntmps32
  go_wp2_with fail
  refine (cloneS_any _ cs W2 (own_zero HM2.out.2.2.1) hl).mono ?_
  rintro e w3 ⟨v3, rfl, o3, hb3⟩
  obtain ⟨A3, c3, rfl⟩ := own_slice (own_zero o3)
  have hC3 := HC2.out.below hb3 HC2.out.lt
  have hR3 := hR2.below hb3 hR2.lt
  have hM3 := HM2.out.below hb3
  have hB3 := hB2.trans (hb3.mono hB2.size)
  have x2 : w3.cell? ⟨W1.heap.size, 2, none⟩ = some (.slice A cs.length c) := hC3.cell 2
  have f2 := hC3.free 2
  have hC4 := hC3.put 2 (.slice A3 cs.length c3)
  have g4 := gb_put (gb_of_below (Below.refl w3.heap.size w3) (some W1.heap.size)) 2 (.slice A3 cs.length c3)
  obtain ⟨w4, hw4⟩ : ∃ w4, w3.setCell ⟨W1.heap.size, 2, none⟩ (.slice A3 cs.length c3) = w4 := ⟨_, rfl⟩
  rw [hw4] at hC4 g4
  have hC4' : Whole w4 W1.heap.size #[.int .i64 b, .int .i64 s, .slice A3 cs.length c3, .slice A' fr.length c', .int .i64 (Ar.live cs : Nat)] 29 := hC4
  have hB4 := hB3.grown g4 hB3.size (fun j hj => by have := hN.out; simp at hj; omega)
  have o4 := o3.kept g4 (.inr (fun e => by have := (o3.lt _ e).1; have := hN.out; have := hN2.out; omega))
  have hM4 := hM3.turns (S := fun k => k = W1.heap.size) (.of_grown g4 (fun k hk => by simpa using hk.symm)) (fun k hk e => HLT.out k hk e)
  have hR4 := hR3.grown g4 (fun e => by have := hN.out; simp at e; omega)
  have j3 := hM4.cells.2.2.2.1
  have HM4 := Lib.hid hM4
  have HC4 := Lib.hid hC4'
  have HO4 := Lib.hid o4
  clear hC4 hC4' hM4 hM3 hC3 hR3 o3 o4 g4 k2 hb2 hb3
  go_wp2_with fail
  refine (cloneF_any _ fr w4 (own_zero HM4.out.2.2.2.1) hf).mono ?_
  rintro e w5 ⟨v5, rfl, o5, hb5⟩
  obtain ⟨A5, c5, rfl⟩ := own_slice (own_zero o5)
  have hC5 := HC4.out.below hb5 HC4.out.lt
  have hR5 := hR4.below hb5 hR4.lt
  have hB5 := hB4.trans (hb5.mono hB4.size)
  have hO5 := own_turns (S := fun _ => False) HO4.out (.of_below hb5) (fun _ _ => id)
  have x3 : w5.cell? ⟨W1.heap.size, 3, none⟩ = some (.slice A' fr.length c') := hC5.cell 3
  have f3 := hC5.free 3
  have hC6 := hC5.put 3 (.slice A5 fr.length c5)
  have g6 := gb_put (gb_of_below (Below.refl w5.heap.size w5) (some W1.heap.size)) 3 (.slice A5 fr.length c5)
  obtain ⟨w6, hw6⟩ : ∃ w6, w5.setCell ⟨W1.heap.size, 3, none⟩ (.slice A5 fr.length c5) = w6 := ⟨_, rfl⟩
  rw [hw6] at hC6 g6
  have hC6' : Whole w6 W1.heap.size #[.int .i64 b, .int .i64 s, .slice A3 cs.length c3, .slice A5 fr.length c5, .int .i64 (Ar.live cs : Nat)] 29 := hC6
  have hB6 := hB5.grown g6 hB5.size (fun j hj => by have := hN.out; simp at hj; omega)
  have hR6 := hR5.grown g6 (fun e => by have := hN.out; simp at e; omega)
  have hs4 := hB4.size
  have o6 := o5.kept g6 (.inr (fun e => by have := (o5.lt _ e).1; have := HC4.out.lt; omega))
  have hO6 := hO5.kept g6 (.inr (fun e => by have := (HO4.out.lt _ e).1; have := hN.out; have := hN2.out; omega))
  have n0 : w6.cell? ⟨W1.heap.size, 0, none⟩ = some (.int .i64 b) := hC6'.cell 0
  have n1 : w6.cell? ⟨W1.heap.size, 1, none⟩ = some (.int .i64 s) := hC6'.cell 1
  have n2 : w6.cell? ⟨W1.heap.size, 2, none⟩ = some (.slice A3 cs.length c3) := hC6'.cell 2
  have n3 : w6.cell? ⟨W1.heap.size, 3, none⟩ = some (.slice A5 fr.length c5) := hC6'.cell 3
  have n4 : w6.cell? ⟨W1.heap.size, 4, none⟩ = some (.int .i64 (Ar.live cs : Nat)) := hC6'.cell 4
  have r0 : w6.cell? ⟨w.heap.size, 0, none⟩ = some (.int .i64 0) := hR6.cell 0
  have r1 : w6.cell? ⟨w.heap.size, 1, none⟩ = some (.int .i64 0) := hR6.cell 1
  have r2 : w6.cell? ⟨w.heap.size, 2, none⟩ = some (.slice none 0 0) := hR6.cell 2
  have r3 : w6.cell? ⟨w.heap.size, 3, none⟩ = some (.slice none 0 0) := hR6.cell 3
  have r4 : w6.cell? ⟨w.heap.size, 4, none⟩ = some (.int .i64 0) := hR6.cell 4
  have z0 := hR6.free 0
  have z1 := hR6.free 1
  have z2 := hR6.free 2
  have z3 := hR6.free 3
  have z4 := hR6.free 4
  obtain ⟨w7, hw7, hR7, g7⟩ := box5 hR6 (.int .i64 b) (.int .i64 s) (.slice A3 cs.length c3) (.slice A5 fr.length c5) (.int .i64 (Ar.live cs : Nat))
  have hB7 := hB6.grown g7 hB6.size (fun j hj => by simp at hj; omega)
  have p0 : w7.cell? ⟨w.heap.size, 0, none⟩ = some (.int .i64 b) := hR7.cell 0
  have p1 : w7.cell? ⟨w.heap.size, 1, none⟩ = some (.int .i64 s) := hR7.cell 1
  have p2 : w7.cell? ⟨w.heap.size, 2, none⟩ = some (.slice A3 cs.length c3) := hR7.cell 2
  have p3 : w7.cell? ⟨w.heap.size, 3, none⟩ = some (.slice A5 fr.length c5) := hR7.cell 3
  have p4 : w7.cell? ⟨w.heap.size, 4, none⟩ = some (.int .i64 (Ar.live cs : Nat)) := hR7.cell 4
  have hs2 : w.heap.size ≤ W2.heap.size := hB2.size
  have o7 : w7.ownsRow w.heap.size 3 1 (.slice A5 fr.length c5) fr.length (Ar.nums fr) := (own_base o6 hs4).kept g7 (.inr (fun e => by have := (o6.lt _ e).1; have := HC4.out.lt; have := hN.out; omega))
  have hO7 : w7.ownsRow w.heap.size 57 2 (.slice A3 cs.length c3) cs.length (Ar.slots cs) := (own_base hO6 hs2).kept g7 (.inr (fun e => by have := (hO6.lt _ e).1; have := hN2.out; omega))
  have HO7 := Lib.hid hO7
  have HO7' := Lib.hid o7
  clear hO7 o7 hO6 o6 hO5 o5 hC5 hC6 hC6' hR4 hR5 hR6 hR7 g6 g7 hB6 hb5 hs2 hs4
  go_wp2_with fail
  refine bodyPost_ret (v := arenaV b s (.slice A3 cs.length c3) (.slice A5 fr.length c5) (Ar.live cs : Nat)) ?_ rfl ⟨_, _, rfl, HO7.out, HO7'.out, hB7⟩
  simp [results, Try.f32, go_sem, p0, p1, p2, p3, p4]
end Go.Proofs.Ytccdhfpifohhjaa
