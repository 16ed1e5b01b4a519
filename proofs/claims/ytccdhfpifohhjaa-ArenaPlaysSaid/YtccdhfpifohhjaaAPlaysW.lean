/- The statement ArenaPlays returns true: its walk. -/
import Derived.Test.YtccdhfpifohhjaaACodeG
import Derived.Test.YtccdhfpifohhjaaASame
import Derived.Test.YtccdhfpifohhjaaAOpH
import Derived.Test.YtccdhfpifohhjaaAOps
import Derived.Test.YtccdhfpifohhjaaAPlSt
import Derived.Test.YtccdhfpifohhjaaAFilW
import Derived.Deep.DeepCutAuto
namespace Go.Proofs.Ytccdhfpifohhjaa
open Go.RowKit

theorem salt_at {W0 W : World} {B : Nat} {b s : Int} {T : TypeId} (h : Whole W0 B #[.int .i64 b, .int .i64 s] T) (hb : Below W0.heap.size W0 W) :
    W.cell? ⟨B, 0, none⟩ = some (.int .i64 b) ∧ W.cell? ⟨B, 1, none⟩ = some (.int .i64 s) := ⟨(h.below hb h.lt).cell 0, (h.below hb h.lt).cell 1⟩

theorem whole_next (w : World) (c d : Array Value) (t u : TypeId) : Whole ((w.alloc (.cells c t)).alloc (.cells d u)) (w.heap.size + 1) d u := by
  have h := Whole.new (w.alloc (.cells c t)) d u
  rw [World.size_alloc] at h
  exact h

theorem opH_i64 {pk v : Int} {raw : Bool} {gl : List Int} (hv : -32768 ≤ v ∧ v ≤ 32767) (hg : ∀ x ∈ gl, I64 x) : I64 (opH pk raw v gl) := by
  unfold opH
  split
  · constructor <;> omega
  · rename_i hn
    have hl : 0 < gl.length := Nat.pos_of_ne_zero fun h => hn (.inr h)
    have hz : pk.toNat % gl.length < gl.length := Nat.mod_lt _ hl
    have e : gl.getD (pk.toNat % gl.length) 0 = gl[pk.toNat % gl.length] := by simp [List.getD, hz]
    rw [e]
    exact hg _ (List.getElem_mem hz)
theorem five {x : Int} (h : 0 ≤ x) : (x % 5 = 0 ∧ x.tmod 5 = 0) ∨ (x % 5 = 1 ∧ x.tmod 5 = 1) ∨ (x % 5 = 2 ∧ x.tmod 5 = 2) ∨ (x % 5 = 3 ∧ x.tmod 5 = 3) ∨ (x % 5 = 4 ∧ x.tmod 5 = 4) := by
  have e : x.tmod 5 = x % 5 := Int.tmod_eq_emod_of_nonneg h
  omega

set_option maxRecDepth 100000 in
set_option maxHeartbeats 2000000 in
theorem plays_walk (b s : Int) (A : Option Addr) (cp : Nat) (l : List (Int × Int × Bool × Int)) (w : World) (_hb : I64 b) (_hs : I64 s) (hl : Ops w A l) (hbd : ∀ x ∈ l, OpOk x) :
    Calls Try.prog 3 #[saltV b s, .slice A l.length cp] w fun e w' => e = .returned (.bool true) ∧ Below w.heap.size w w' := by
  obtain ⟨i0, hi0, hz0, hz1, hz2⟩ := info_parts intInfo
  obtain ⟨n, hn⟩ : ∃ n, l.length = n := ⟨_, rfl⟩
  rw [hn]
  have HN := Lib.hid hn
  clear hn
  go_enter Try.func3, Try.ntmps3
  go_wp2_with fail
  refine (aawake_any _).mono ?_
  rintro e w1 ⟨rfl, hb1⟩
  have hS1 : Whole w1 w.heap.size #[.int .i64 b, .int .i64 s] 23 := Whole.below (Whole.new w _ _) hb1 (by simp)
  have c1 : w1.cell? ⟨w.heap.size, 0, none⟩ = some (.int .i64 b) := hS1.cell 0
  have c2 : w1.cell? ⟨w.heap.size, 1, none⟩ = some (.int .i64 s) := hS1.cell 1
  have hB1 : Below w.heap.size w w1 := ((Below.refl _ w).alloc (Nat.le_refl _) _).trans (hb1.mono (by simp))
  clear hb1
  by_cases hbig : 150 < n
  · have hbig' : (150 : Int) < (n : Int) := by omega
    go_wp2_with fail
    refine (aawake_any _).mono ?_
    rintro e w2 ⟨rfl, hb2⟩
    go_wp2_with fail
    go_ret
    exact ⟨rfl, abelow_trans hB1 hb2⟩
  · have hbig' : ¬ (150 : Int) < (n : Int) := by omega
    go_upto_region 3 with fail
    go_cut [5, 6] (fun s5 s6 wx => ∃ B M : Nat, s5 = .pointer (some ⟨B, 0, none⟩) ∧ s6 = .pointer (some ⟨M, 0, none⟩) ∧ w1.heap.size ≤ B ∧ w1.heap.size ≤ M ∧ Whole wx B #[.int .i64 b, .int .i64 s, .slice none 0 0, .slice none 0 0, .int .i64 0] 29 ∧ Whole wx M #[.int .i64 b, .int .i64 s, .slice none 0 0, .slice none 0 0] 33 ∧ Below w1.heap.size w1 wx)
    case first =>
      have hd1 : Below w1.heap.size w1 w1.drew := ⟨rfl, rfl, rfl, Nat.le_refl _, fun _ _ => rfl⟩
      have hd2 : Below w1.heap.size w1 (w1.alloc (.cells #[.int .i64 0, .int .i64 0, .slice none 0 0, .slice none 0 0, .int .i64 0] 29)).drew := ((Below.refl _ w1).alloc (Nat.le_refl _) _).trans ⟨rfl, rfl, rfl, Nat.le_refl _, fun _ _ => rfl⟩
      have hd3 : Below w1.heap.size w1 ((w1.alloc (.cells #[.int .i64 0, .int .i64 0, .slice none 0 0, .slice none 0 0, .int .i64 0] 29)).alloc (.cells #[.int .i64 0, .int .i64 0, .slice none 0 0, .slice none 0 0] 33)).drew := (((Below.refl _ w1).alloc (Nat.le_refl _) _).alloc (by simp) _).trans ⟨rfl, rfl, rfl, Nat.le_refl _, fun _ _ => rfl⟩
      have hA2 : Whole (w1.alloc (.cells #[.int .i64 0, .int .i64 0, .slice none 0 0, .slice none 0 0, .int .i64 0] 29)).drew w1.heap.size #[.int .i64 0, .int .i64 0, .slice none 0 0, .slice none 0 0, .int .i64 0] 29 := Whole.new w1 _ _
      have hA3 : Whole ((w1.alloc (.cells #[.int .i64 0, .int .i64 0, .slice none 0 0, .slice none 0 0, .int .i64 0] 29)).alloc (.cells #[.int .i64 0, .int .i64 0, .slice none 0 0, .slice none 0 0] 33)).drew w1.heap.size #[.int .i64 0, .int .i64 0, .slice none 0 0, .slice none 0 0, .int .i64 0] 29 := (Whole.new w1 #[.int .i64 0, .int .i64 0, .slice none 0 0, .slice none 0 0, .int .i64 0] 29).alloc (.cells #[.int .i64 0, .int .i64 0, .slice none 0 0, .slice none 0 0] 33)
      have hM3 : Whole ((w1.alloc (.cells #[.int .i64 0, .int .i64 0, .slice none 0 0, .slice none 0 0, .int .i64 0] 29)).alloc (.cells #[.int .i64 0, .int .i64 0, .slice none 0 0, .slice none 0 0] 33)).drew (w1.heap.size + 1) #[.int .i64 0, .int .i64 0, .slice none 0 0, .slice none 0 0] 33 := by have h := Whole.new (w1.alloc (.cells #[.int .i64 0, .int .i64 0, .slice none 0 0, .slice none 0 0, .int .i64 0] 29)) #[.int .i64 0, .int .i64 0, .slice none 0 0, .slice none 0 0] 33; rw [World.size_alloc] at h; exact h
      have hd4 : Below w1.heap.size w1 (w1.alloc (.cells #[.int .i64 0, .int .i64 0, .slice none 0 0, .slice none 0 0] 33)).drew := ((Below.refl _ w1).alloc (Nat.le_refl _) _).trans ⟨rfl, rfl, rfl, Nat.le_refl _, fun _ _ => rfl⟩
      have hd5 : Below w1.heap.size w1 ((w1.alloc (.cells #[.int .i64 0, .int .i64 0, .slice none 0 0, .slice none 0 0] 33)).alloc (.cells #[.int .i64 0, .int .i64 0, .slice none 0 0, .slice none 0 0, .int .i64 0] 29)).drew := (((Below.refl _ w1).alloc (Nat.le_refl _) _).alloc (by simp) _).trans ⟨rfl, rfl, rfl, Nat.le_refl _, fun _ _ => rfl⟩
      have hM4 : Whole (w1.alloc (.cells #[.int .i64 0, .int .i64 0, .slice none 0 0, .slice none 0 0] 33)).drew w1.heap.size #[.int .i64 0, .int .i64 0, .slice none 0 0, .slice none 0 0] 33 := Whole.new w1 _ _
      have hM5 : Whole ((w1.alloc (.cells #[.int .i64 0, .int .i64 0, .slice none 0 0, .slice none 0 0] 33)).alloc (.cells #[.int .i64 0, .int .i64 0, .slice none 0 0, .slice none 0 0, .int .i64 0] 29)).drew w1.heap.size #[.int .i64 0, .int .i64 0, .slice none 0 0, .slice none 0 0] 33 := (Whole.new w1 #[.int .i64 0, .int .i64 0, .slice none 0 0, .slice none 0 0] 33).alloc (.cells #[.int .i64 0, .int .i64 0, .slice none 0 0, .slice none 0 0, .int .i64 0] 29)
      have hA5 : Whole ((w1.alloc (.cells #[.int .i64 0, .int .i64 0, .slice none 0 0, .slice none 0 0] 33)).alloc (.cells #[.int .i64 0, .int .i64 0, .slice none 0 0, .slice none 0 0, .int .i64 0] 29)).drew (w1.heap.size + 1) #[.int .i64 0, .int .i64 0, .slice none 0 0, .slice none 0 0, .int .i64 0] 29 := whole_next w1 _ _ _ _
      clear c1 c2
      go_region_held3 (fun W => W.cell? ⟨w.heap.size, 0, none⟩ = some (.int .i64 b) ∧ W.cell? ⟨w.heap.size, 1, none⟩ = some (.int .i64 s))
        (first | exact salt_at hS1 hd1 | exact salt_at hS1 hd2 | exact salt_at hS1 hd3 | exact salt_at hS1 hd4 | exact salt_at hS1 hd5 | exact salt_at hS1 hB2 | exact salt_at hS1 hB0 | exact salt_at hS1 hB01 | exact salt_at hS1 hB02 | exact salt_at hS1 (hB2.alloc hB2.size _) | exact salt_at hS1 ((hB2.alloc hB2.size _).alloc (hB2.alloc hB2.size _).size _))
        (first
          | (go_at_call 12; refine (anew_any b s w1.drew).mono ?_; rintro e w2 ⟨rfl, hb2⟩; have hB2 : Below w1.heap.size w1 w2 := hd1.trans (hb2.mono hd1.size); have hs2 := hB2.size)
          | (go_at_call 12; refine (anew_any b s (w1.alloc (.cells #[.int .i64 0, .int .i64 0, .slice none 0 0, .slice none 0 0, .int .i64 0] 29)).drew).mono ?_; rintro e w2 ⟨rfl, hb2⟩; have hB2 : Below w1.heap.size w1 w2 := hd2.trans (hb2.mono hd2.size); have hs2 := hB2.size; have hb2' := hb2.size; try simp only [World.size_drew, World.size_alloc] at hb2'; have hB0 : Below w1.heap.size w1 (w2.alloc (.cells #[.int .i64 0, .int .i64 0, .slice none 0 0, .slice none 0 0] 33)) := hB2.alloc hB2.size _; have hA0 : Whole (w2.alloc (.cells #[.int .i64 0, .int .i64 0, .slice none 0 0, .slice none 0 0] 33)) w1.heap.size #[.int .i64 0, .int .i64 0, .slice none 0 0, .slice none 0 0, .int .i64 0] 29 := (hA2.below hb2 hA2.lt).alloc (.cells #[.int .i64 0, .int .i64 0, .slice none 0 0, .slice none 0 0] 33); have hM0 : Whole (w2.alloc (.cells #[.int .i64 0, .int .i64 0, .slice none 0 0, .slice none 0 0] 33)) w2.heap.size #[.int .i64 0, .int .i64 0, .slice none 0 0, .slice none 0 0] 33 := Whole.new w2 #[.int .i64 0, .int .i64 0, .slice none 0 0, .slice none 0 0] 33; obtain ⟨X1, hX1, hA1, g1⟩ := box5 hA0 (.int .i64 b) (.int .i64 s) (.slice none 0 0) (.slice none 0 0) (.int .i64 0); have hM1 := hM0.grown g1 (fun e => Whole.unlike hA0 hM0 (by decide) (Option.some.inj e).symm); have hB01 := hB0.grown g1 hB0.size (fun j hj => by simp at hj; omega); obtain ⟨X2, hX2, hM2, g2⟩ := box4 hM1 (.int .i64 b) (.int .i64 s) (.slice none 0 0) (.slice none 0 0); have hA2' := hA1.grown g2 (fun e => Whole.unlike hA1 hM1 (by decide) (Option.some.inj e)); have hB02 := hB01.grown g2 hB01.size (fun j hj => by simp at hj; omega); have ka0 := hA0.cell 0; have za0 := hA0.free 0; have ka1 := hA0.cell 1; have za1 := hA0.free 1; have ka2 := hA0.cell 2; have za2 := hA0.free 2; have ka3 := hA0.cell 3; have za3 := hA0.free 3; have ka4 := hA0.cell 4; have za4 := hA0.free 4; simp only [List.getElem?_toArray, List.getElem?_cons_succ, List.getElem?_cons_zero] at ka0 ka1 ka2 ka3 ka4; have km0 := hM1.cell 0; have zm0 := hM1.free 0; have km1 := hM1.cell 1; have zm1 := hM1.free 1; have km2 := hM1.cell 2; have zm2 := hM1.free 2; have km3 := hM1.cell 3; have zm3 := hM1.free 3; simp only [List.getElem?_toArray, List.getElem?_cons_succ, List.getElem?_cons_zero] at km0 km1 km2 km3; have HA := Lib.hid hA2'; have HM := Lib.hid hM2; clear hA0 hM0 hA1 hM1 hA2' hM2 g1 g2)
          | (go_at_call 12; refine (anew_any b s ((w1.alloc (.cells #[.int .i64 0, .int .i64 0, .slice none 0 0, .slice none 0 0, .int .i64 0] 29)).alloc (.cells #[.int .i64 0, .int .i64 0, .slice none 0 0, .slice none 0 0] 33)).drew).mono ?_; rintro e w2 ⟨rfl, hb2⟩; have hB2 : Below w1.heap.size w1 w2 := hd3.trans (hb2.mono hd3.size); have hs2 := hB2.size; have hb2' := hb2.size; try simp only [World.size_drew, World.size_alloc] at hb2'; have hB0 : Below w1.heap.size w1 (w2) := hB2; have hA0 : Whole (w2) w1.heap.size #[.int .i64 0, .int .i64 0, .slice none 0 0, .slice none 0 0, .int .i64 0] 29 := hA3.below hb2 hA3.lt; have hM0 : Whole (w2) (w1.heap.size + 1) #[.int .i64 0, .int .i64 0, .slice none 0 0, .slice none 0 0] 33 := hM3.below hb2 hM3.lt; obtain ⟨X1, hX1, hA1, g1⟩ := box5 hA0 (.int .i64 b) (.int .i64 s) (.slice none 0 0) (.slice none 0 0) (.int .i64 0); have hM1 := hM0.grown g1 (fun e => Whole.unlike hA0 hM0 (by decide) (Option.some.inj e).symm); have hB01 := hB0.grown g1 hB0.size (fun j hj => by simp at hj; omega); obtain ⟨X2, hX2, hM2, g2⟩ := box4 hM1 (.int .i64 b) (.int .i64 s) (.slice none 0 0) (.slice none 0 0); have hA2' := hA1.grown g2 (fun e => Whole.unlike hA1 hM1 (by decide) (Option.some.inj e)); have hB02 := hB01.grown g2 hB01.size (fun j hj => by simp at hj; omega); have ka0 := hA0.cell 0; have za0 := hA0.free 0; have ka1 := hA0.cell 1; have za1 := hA0.free 1; have ka2 := hA0.cell 2; have za2 := hA0.free 2; have ka3 := hA0.cell 3; have za3 := hA0.free 3; have ka4 := hA0.cell 4; have za4 := hA0.free 4; simp only [List.getElem?_toArray, List.getElem?_cons_succ, List.getElem?_cons_zero] at ka0 ka1 ka2 ka3 ka4; have km0 := hM1.cell 0; have zm0 := hM1.free 0; have km1 := hM1.cell 1; have zm1 := hM1.free 1; have km2 := hM1.cell 2; have zm2 := hM1.free 2; have km3 := hM1.cell 3; have zm3 := hM1.free 3; simp only [List.getElem?_toArray, List.getElem?_cons_succ, List.getElem?_cons_zero] at km0 km1 km2 km3; have HA := Lib.hid hA2'; have HM := Lib.hid hM2; clear hA0 hM0 hA1 hM1 hA2' hM2 g1 g2)
          | (go_at_call 12; refine (anew_any b s ((w1.alloc (.cells #[.int .i64 0, .int .i64 0, .slice none 0 0, .slice none 0 0] 33)).alloc (.cells #[.int .i64 0, .int .i64 0, .slice none 0 0, .slice none 0 0, .int .i64 0] 29)).drew).mono ?_; rintro e w2 ⟨rfl, hb2⟩; have hB2 : Below w1.heap.size w1 w2 := hd5.trans (hb2.mono hd5.size); have hs2 := hB2.size; have hb2' := hb2.size; try simp only [World.size_drew, World.size_alloc] at hb2'; have hB0 : Below w1.heap.size w1 (w2) := hB2; have hA0 : Whole (w2) (w1.heap.size + 1) #[.int .i64 0, .int .i64 0, .slice none 0 0, .slice none 0 0, .int .i64 0] 29 := hA5.below hb2 hA5.lt; have hM0 : Whole (w2) w1.heap.size #[.int .i64 0, .int .i64 0, .slice none 0 0, .slice none 0 0] 33 := hM5.below hb2 hM5.lt; obtain ⟨X1, hX1, hA1, g1⟩ := box5 hA0 (.int .i64 b) (.int .i64 s) (.slice none 0 0) (.slice none 0 0) (.int .i64 0); have hM1 := hM0.grown g1 (fun e => Whole.unlike hA0 hM0 (by decide) (Option.some.inj e).symm); have hB01 := hB0.grown g1 hB0.size (fun j hj => by simp at hj; omega); obtain ⟨X2, hX2, hM2, g2⟩ := box4 hM1 (.int .i64 b) (.int .i64 s) (.slice none 0 0) (.slice none 0 0); have hA2' := hA1.grown g2 (fun e => Whole.unlike hA1 hM1 (by decide) (Option.some.inj e)); have hB02 := hB01.grown g2 hB01.size (fun j hj => by simp at hj; omega); have ka0 := hA0.cell 0; have za0 := hA0.free 0; have ka1 := hA0.cell 1; have za1 := hA0.free 1; have ka2 := hA0.cell 2; have za2 := hA0.free 2; have ka3 := hA0.cell 3; have za3 := hA0.free 3; have ka4 := hA0.cell 4; have za4 := hA0.free 4; simp only [List.getElem?_toArray, List.getElem?_cons_succ, List.getElem?_cons_zero] at ka0 ka1 ka2 ka3 ka4; have km0 := hM1.cell 0; have zm0 := hM1.free 0; have km1 := hM1.cell 1; have zm1 := hM1.free 1; have km2 := hM1.cell 2; have zm2 := hM1.free 2; have km3 := hM1.cell 3; have zm3 := hM1.free 3; simp only [List.getElem?_toArray, List.getElem?_cons_succ, List.getElem?_cons_zero] at km0 km1 km2 km3; have HA := Lib.hid hA2'; have HM := Lib.hid hM2; clear hA0 hM0 hA1 hM1 hA2' hM2 g1 g2)
          | (go_at_call 12; refine (anew_any b s (w1.alloc (.cells #[.int .i64 0, .int .i64 0, .slice none 0 0, .slice none 0 0] 33)).drew).mono ?_; rintro e w2 ⟨rfl, hb2⟩; have hB2 : Below w1.heap.size w1 w2 := hd4.trans (hb2.mono hd4.size); have hs2 := hB2.size; have hb2' := hb2.size; try simp only [World.size_drew, World.size_alloc] at hb2'; have hB01 : Below w1.heap.size w1 (w2.alloc (.cells #[.int .i64 b, .int .i64 s, .slice none 0 0, .slice none 0 0, .int .i64 0] 29)) := hB2.alloc hs2 _; have hA1 := Whole.new w2 #[.int .i64 b, .int .i64 s, .slice none 0 0, .slice none 0 0, .int .i64 0] 29; have hM1 := (hM4.below hb2 hM4.lt).alloc (.cells #[.int .i64 b, .int .i64 s, .slice none 0 0, .slice none 0 0, .int .i64 0] 29); obtain ⟨X2, hX2, hM2, g2⟩ := box4 hM1 (.int .i64 b) (.int .i64 s) (.slice none 0 0) (.slice none 0 0); have hA2' := hA1.grown g2 (fun e => Whole.unlike hA1 hM1 (by decide) (Option.some.inj e)); have hB02 := hB01.grown g2 hB01.size (fun j hj => by simp at hj; omega); have km0 := hM1.cell 0; have zm0 := hM1.free 0; have km1 := hM1.cell 1; have zm1 := hM1.free 1; have km2 := hM1.cell 2; have zm2 := hM1.free 2; have km3 := hM1.cell 3; have zm3 := hM1.free 3; simp only [List.getElem?_toArray, List.getElem?_cons_succ, List.getElem?_cons_zero] at km0 km1 km2 km3; have HA := Lib.hid hA2'; have HM := Lib.hid hM2; clear hA1 hM1 hA2' hM2 g2)
          )
      all_goals (go_wp2_with fail; go_meet)
      all_goals first
        | exact ⟨w2.heap.size, w2.heap.size + 1, rfl, rfl, hs2, by omega, (Whole.new w2 _ _).alloc _, whole_next w2 _ _ _ _, (hB2.alloc hB2.size _).alloc (hB2.alloc hB2.size _).size _⟩
        | exact ⟨w1.heap.size, w2.heap.size, rfl, rfl, Nat.le_refl _, hs2, HA.out, HM.out, hB02⟩
        | exact ⟨w2.heap.size + 1, w2.heap.size, rfl, rfl, by omega, hs2, whole_next w2 _ _ _ _, (Whole.new w2 _ _).alloc _, (hB2.alloc hB2.size _).alloc (hB2.alloc hB2.size _).size _⟩
        | exact ⟨w2.heap.size, w1.heap.size, rfl, rfl, hs2, Nat.le_refl _, HA.out, HM.out, hB02⟩
        | exact ⟨w1.heap.size + 1, w1.heap.size, rfl, rfl, Nat.le_succ _, Nat.le_refl _, HA.out, HM.out, hB02⟩
        | exact ⟨w1.heap.size, w1.heap.size + 1, rfl, rfl, Nat.le_refl _, Nat.le_succ _, HA.out, HM.out, hB02⟩
    case rest =>
      obtain ⟨B, M, rfl, rfl, hBb, hMb, hA, hM, hB2⟩ := hcut
      have hl2 := hl.below hB1
      have hP : PS w1 wc B M b s [] [] (Foot B (.slice none 0 0) (.slice none 0 0)) [] [] (.slice none 0 0) (.slice none 0 0) (.slice none 0 0) (.slice none 0 0) (.slice none 0 0) [] :=
        ⟨⟨_, _, hA, hBb, World.ownsRow_nil _ _ _ _, World.ownsRow_nil _ _ _ _, rfl⟩, ⟨World.ownsRow_nil _ _ _ _, World.ownsRow_nil _ _ _ _⟩, hM, Row.nil _ _ _ _, fun k hk => by simp [Value.ownBlock] at hk, fun k hk => by simp [Value.ownBlock] at hk, hB2, hMb⟩
      have HP := Lib.hid hP
      have HL := Lib.hid hl2
      have HB1 := Lib.hid hB1
      clear hP hl2 hB1 hA hM hB2 hl c1 c2 hS1
      go_wp2_with fail
      go_loopw [7, 34] (fun g i wr => ∃ (k : Nat) (F : Nat → Prop) (cs : List (Option Int)) (fr : List Nat) (gl : List Int) (vc vf : Value), k ≤ n ∧ i = .int .i64 k ∧ PS w1 wr B M b s cs fr F cs fr vc vf vc vf g gl ∧ Ar.Ok cs fr ∧ cs.length ≤ k ∧ gl.length ≤ k ∧ ∀ x ∈ gl, I64 x) (fun _ i _ => n - (intOf i).toNat)
      case atStart => exact ⟨0, _, [], [], [], _, _, Nat.zero_le _, rfl, HP.out, Ar.Ok.nil, Nat.le_refl _, Nat.le_refl _, fun _ h => by simp at h⟩
      case round =>
        obtain ⟨k, F, cs, fr, gl, vc, vf, hk, rfl, hP, hok, hcl, hgl, hgi⟩ := hrel
        obtain ⟨Ag, cg, hg⟩ := hP.row.slice
        subst hg
        obtain ⟨Ac, cc, rfl⟩ := own_slice hP.mr.1
        obtain ⟨Af, cf, rfl⟩ := own_slice hP.mr.2
        by_cases hlt : k < n
        · obtain ⟨⟨kd, pk, raw, v⟩, hx⟩ : ∃ x, l[k]? = some x := ⟨_, List.getElem?_eq_getElem (by rw [HN.out]; exact hlt)⟩
          obtain ⟨hk0, hk1, hp0, hp1, hv0, hv1⟩ := hbd _ (List.mem_of_getElem? hx)
          obtain ⟨bl, ol, rfl, y0, y1, y2, y3⟩ := HL.out.below hP.bel k _ hx
          have q1 : (k : Int) < (n : Int) := by omega
          have q0 : (0 : Int) ≤ (k : Int) := by omega
          have hgl' := hP.row.len
          have S4 : ∀ W', Below wr.heap.size wr W' → W'.cell? ⟨bl, ol + k * 4, none⟩ = some (.int .u8 kd) ∧ W'.cell? ⟨bl, ol + k * 4 + 1, none⟩ = some (.int .u8 pk) ∧ W'.cell? ⟨bl, ol + k * 4 + 2, none⟩ = some (.bool raw) ∧ W'.cell? ⟨bl, ol + k * 4 + 3, none⟩ = some (.int .i16 v) := fun W' hb => ⟨acell y0 hb, acell y1 hb, acell y2 hb, acell y3 hb⟩
          have hd : Below wr.heap.size wr wr.drew := ⟨rfl, rfl, rfl, Nat.le_refl _, fun _ _ => rfl⟩
          simp only at hk0 hk1 hp0 hp1 hv0 hv1
          have hwv := w64i (x := v) (by omega) (by omega)
          have HP := Lib.hid hP
          have HX := Lib.hid hx
          have HG := Lib.hid hgl'
          have HS := Lib.hid S4
          clear hP hx hgl' y0 y1 y2 y3 S4
          go_wp2_with fail
          go_region_held3 (fun W => W.cell? ⟨bl, ol + k * 4, none⟩ = some (.int .u8 kd) ∧ W.cell? ⟨bl, ol + k * 4 + 1, none⟩ = some (.int .u8 pk) ∧ W.cell? ⟨bl, ol + k * 4 + 2, none⟩ = some (.bool raw) ∧ W.cell? ⟨bl, ol + k * 4 + 3, none⟩ = some (.int .i16 v))
            (first | exact HS.out _ hd | exact HS.out _ hb4)
            (first | (go_at_call 13; refine (roph_any w1.heap.size F kd pk v raw Ag gl.length cg gl wr.drew ⟨hp0, hp1⟩ ⟨hv0, hv1⟩ HP.out.row (by omega)).mono ?_; rintro e w4 ⟨rfl, hb4'⟩; have hb4 : Below wr.heap.size wr w4 := hd.trans hb4'; clear hb4'))
          have hh := opH_i64 (pk := pk) (raw := raw) ⟨hv0, hv1⟩ hgi
          obtain ⟨h, hhe⟩ : ∃ h, opH pk raw v gl = h := ⟨_, rfl⟩
          rw [hhe] at hh ⊢
          have HP4 := Lib.hid (HP.out.below hb4)
          obtain ⟨y0, y1, y2, y3⟩ := HS.out _ hb4
          clear hhe HP hd y1 y2 y3
          obtain ⟨m0, m1, m2, m3, f0, f1, f2, f3⟩ := HP4.out.cells
          have hfl := hok.len
          rcases five hk0 with ⟨e1, e2⟩ | ⟨e1, e2⟩ | ⟨e1, e2⟩ | ⟨e1, e2⟩ | ⟨e1, e2⟩
          · go_wp2_with fail
            refine (radd_any b s v _ _ cs fr w4 HP4.out.mr hok (by omega) (by omega)).mono ?_
            rintro e w5 ⟨vc5, vf5, rfl, hm5, hn5, hb5⟩
            have hP5 := HP4.out.ret hb5 hm5 hn5
            obtain ⟨A5, c5, rfl⟩ := own_slice hm5.1
            obtain ⟨E5, d5, rfl⟩ := own_slice hm5.2
            obtain ⟨Y, hY⟩ : ∃ Y, Ar.hdl b s (Ar.add cs fr v).2.2 = Y := ⟨_, rfl⟩
            have hYi : I64 Y := by rw [← hY]; have := Ar.hdl_range b s (Ar.add cs fr v).2.2; constructor <;> omega
            rw [hY]
            have hX6 := Whole.new w5 #[.int .i64 b, .int .i64 s, (.slice A5 (Ar.add cs fr v).1.length c5), (.slice E5 (Ar.add cs fr v).2.1.length d5)] 33
            have hP6 := hP5.below ((Below.refl _ w5).alloc (Nat.le_refl _) (.cells #[.int .i64 b, .int .i64 s, (.slice A5 (Ar.add cs fr v).1.length c5), (.slice E5 (Ar.add cs fr v).2.1.length d5)] 33))
            obtain ⟨w6, hw6⟩ : ∃ w6, w5.alloc (.cells #[.int .i64 b, .int .i64 s, (.slice A5 (Ar.add cs fr v).1.length c5), (.slice E5 (Ar.add cs fr v).2.1.length d5)] 33) = w6 := ⟨_, rfl⟩
            rw [hw6] at hP6 hX6
            have x0 : w6.cell? ⟨w5.heap.size, 0, none⟩ = some (.int .i64 b) := hX6.cell 0
            have x1 : w6.cell? ⟨w5.heap.size, 1, none⟩ = some (.int .i64 s) := hX6.cell 1
            have x2 : w6.cell? ⟨w5.heap.size, 2, none⟩ = some (.slice A5 (Ar.add cs fr v).1.length c5) := hX6.cell 2
            have x3 : w6.cell? ⟨w5.heap.size, 3, none⟩ = some (.slice E5 (Ar.add cs fr v).2.1.length d5) := hX6.cell 3
            obtain ⟨n0, n1, n2, n3, p0, p1, p2, p3⟩ := hP6.cells
            obtain ⟨w7, hw7, hm7, g7⟩ := box4 hP6.mm (.int .i64 b) (.int .i64 s) (.slice A5 (Ar.add cs fr v).1.length c5) (.slice E5 (Ar.add cs fr v).2.1.length d5)
            have hP7 := hP6.stored g7 hm7
            have hP8 := hP7.below ((Below.refl _ w7).alloc (Nat.le_refl _) (.cells #[.int .i64 Y] 3))
            have s8 := row_one w7 3 Y
            obtain ⟨w8, hw8⟩ : ∃ w8, w7.alloc (.cells #[.int .i64 Y] 3) = w8 := ⟨_, rfl⟩
            rw [hw8] at hP8 s8
            have hb8 := hP8.bel.size
            have HP8 := Lib.hid hP8
            have HR8 := Lib.hid hP8.row.1
            have HY := Lib.hid hY
            have HS8 := Lib.hid s8
            clear hP5 hP6 hP7 hP8 hX6 hm5 hn5 hb5 hm7 g7 m0 m1 m2 m3 f0 f1 f2 f3 hY s8
            go_wp2_with (at_builtin; refine wpList_append_src rfl _ _ 27 rfl w1.heap.size 0 3 i0 (.int .i64 0) 1 8 Try.underlying27 hi0 hz0 hz1 hz2 rfl (by decide) _ gl.length (ints gl) rfl HR8.out _ 1 (ints [Y]) rfl HS8.out (ints_one _) ?c3 ?c4 hb8 ?_)
            case c3 => unfold maxLen; omega
            case c4 => omega
            intro v9 w9 o9 g9 f9
            have hP9 := HP8.out.push o9 g9 f9
            obtain ⟨A9, c9, rfl⟩ := own_slice (own_zero o9)
            have hb9 := hP9.bel.size
            have HP9 := Lib.hid hP9
            clear hP9 o9 g9 f9 x0 x1 x2 x3 n0 n1 n2 n3 p0 p1 p2 p3 hw6 hw7 hw8
            go_wp2_with fail
            refine (aadd_any w1.heap.size B b s v cs fr F w9 HP9.out.ai hb9 hok (by omega)).mono ?_
            rintro e w10 ⟨F10, rfl, hA10, hst⟩
            rw [HY.out]
            have hP10 := HP9.out.step hA10 hst
            obtain ⟨m0, m1, m2, m3, f0, f1, f2, f3⟩ := hP10.cells
            have hok' := Ar.add_ok hok v
            have hcl' := Ar.add_len cs fr v
            have hfl' := hok'.len
            have HP10 := Lib.hid hP10
            clear hP10 hA10 hst
            go_wp2_with fail
            refine (same_any w1.heap.size B b s _ _ F10 _ _ w10 HP10.out.ai HP10.out.mr (by omega) (by omega)).mono ?_
            rintro e w11 ⟨rfl, hb11⟩
            have HP11 := Lib.hid (HP10.out.below hb11)
            clear hb11 m0 m1 m2 m3 f0 f1 f2 f3
            go_wp2_with fail
            go_roundw
            case rel =>
              refine ⟨k + 1, F10, (Ar.add cs fr v).1, (Ar.add cs fr v).2.1, gl ++ [Y], (.slice A5 (Ar.add cs fr v).1.length c5), (.slice E5 (Ar.add cs fr v).2.1.length d5), by omega, by go_num, ?_, hok', by omega, by rw [List.length_append]; simp; omega, fun x hx => ?_⟩
              · exact HP11.out
              · rcases List.mem_append.1 hx with hx | hx
                · exact hgi x hx
                · rw [List.mem_singleton.1 hx]; exact hYi
            case measure => simp [intOf]; omega
          · go_wp2_with fail
            refine (radd_any b s v _ _ cs fr w4 HP4.out.mr hok (by omega) (by omega)).mono ?_
            rintro e w5 ⟨vc5, vf5, rfl, hm5, hn5, hb5⟩
            have hP5 := HP4.out.ret hb5 hm5 hn5
            obtain ⟨A5, c5, rfl⟩ := own_slice hm5.1
            obtain ⟨E5, d5, rfl⟩ := own_slice hm5.2
            obtain ⟨Y, hY⟩ : ∃ Y, Ar.hdl b s (Ar.add cs fr v).2.2 = Y := ⟨_, rfl⟩
            have hYi : I64 Y := by rw [← hY]; have := Ar.hdl_range b s (Ar.add cs fr v).2.2; constructor <;> omega
            rw [hY]
            have hX6 := Whole.new w5 #[.int .i64 b, .int .i64 s, (.slice A5 (Ar.add cs fr v).1.length c5), (.slice E5 (Ar.add cs fr v).2.1.length d5)] 33
            have hP6 := hP5.below ((Below.refl _ w5).alloc (Nat.le_refl _) (.cells #[.int .i64 b, .int .i64 s, (.slice A5 (Ar.add cs fr v).1.length c5), (.slice E5 (Ar.add cs fr v).2.1.length d5)] 33))
            obtain ⟨w6, hw6⟩ : ∃ w6, w5.alloc (.cells #[.int .i64 b, .int .i64 s, (.slice A5 (Ar.add cs fr v).1.length c5), (.slice E5 (Ar.add cs fr v).2.1.length d5)] 33) = w6 := ⟨_, rfl⟩
            rw [hw6] at hP6 hX6
            have x0 : w6.cell? ⟨w5.heap.size, 0, none⟩ = some (.int .i64 b) := hX6.cell 0
            have x1 : w6.cell? ⟨w5.heap.size, 1, none⟩ = some (.int .i64 s) := hX6.cell 1
            have x2 : w6.cell? ⟨w5.heap.size, 2, none⟩ = some (.slice A5 (Ar.add cs fr v).1.length c5) := hX6.cell 2
            have x3 : w6.cell? ⟨w5.heap.size, 3, none⟩ = some (.slice E5 (Ar.add cs fr v).2.1.length d5) := hX6.cell 3
            obtain ⟨n0, n1, n2, n3, p0, p1, p2, p3⟩ := hP6.cells
            obtain ⟨w7, hw7, hm7, g7⟩ := box4 hP6.mm (.int .i64 b) (.int .i64 s) (.slice A5 (Ar.add cs fr v).1.length c5) (.slice E5 (Ar.add cs fr v).2.1.length d5)
            have hP7 := hP6.stored g7 hm7
            have hP8 := hP7.below ((Below.refl _ w7).alloc (Nat.le_refl _) (.cells #[.int .i64 Y] 3))
            have s8 := row_one w7 3 Y
            obtain ⟨w8, hw8⟩ : ∃ w8, w7.alloc (.cells #[.int .i64 Y] 3) = w8 := ⟨_, rfl⟩
            rw [hw8] at hP8 s8
            have hb8 := hP8.bel.size
            have HP8 := Lib.hid hP8
            have HR8 := Lib.hid hP8.row.1
            have HY := Lib.hid hY
            have HS8 := Lib.hid s8
            clear hP5 hP6 hP7 hP8 hX6 hm5 hn5 hb5 hm7 g7 m0 m1 m2 m3 f0 f1 f2 f3 hY s8
            go_wp2_with (at_builtin; refine wpList_append_src rfl _ _ 27 rfl w1.heap.size 0 3 i0 (.int .i64 0) 1 8 Try.underlying27 hi0 hz0 hz1 hz2 rfl (by decide) _ gl.length (ints gl) rfl HR8.out _ 1 (ints [Y]) rfl HS8.out (ints_one _) ?c3 ?c4 hb8 ?_)
            case c3 => unfold maxLen; omega
            case c4 => omega
            intro v9 w9 o9 g9 f9
            have hP9 := HP8.out.push o9 g9 f9
            obtain ⟨A9, c9, rfl⟩ := own_slice (own_zero o9)
            have hb9 := hP9.bel.size
            have HP9 := Lib.hid hP9
            clear hP9 o9 g9 f9 x0 x1 x2 x3 n0 n1 n2 n3 p0 p1 p2 p3 hw6 hw7 hw8
            go_wp2_with fail
            refine (aadd_any w1.heap.size B b s v cs fr F w9 HP9.out.ai hb9 hok (by omega)).mono ?_
            rintro e w10 ⟨F10, rfl, hA10, hst⟩
            rw [HY.out]
            have hP10 := HP9.out.step hA10 hst
            obtain ⟨m0, m1, m2, m3, f0, f1, f2, f3⟩ := hP10.cells
            have hok' := Ar.add_ok hok v
            have hcl' := Ar.add_len cs fr v
            have hfl' := hok'.len
            have HP10 := Lib.hid hP10
            clear hP10 hA10 hst
            go_wp2_with fail
            refine (same_any w1.heap.size B b s _ _ F10 _ _ w10 HP10.out.ai HP10.out.mr (by omega) (by omega)).mono ?_
            rintro e w11 ⟨rfl, hb11⟩
            have HP11 := Lib.hid (HP10.out.below hb11)
            clear hb11 m0 m1 m2 m3 f0 f1 f2 f3
            go_wp2_with fail
            go_roundw
            case rel =>
              refine ⟨k + 1, F10, (Ar.add cs fr v).1, (Ar.add cs fr v).2.1, gl ++ [Y], (.slice A5 (Ar.add cs fr v).1.length c5), (.slice E5 (Ar.add cs fr v).2.1.length d5), by omega, by go_num, ?_, hok', by omega, by rw [List.length_append]; simp; omega, fun x hx => ?_⟩
              · exact HP11.out
              · rcases List.mem_append.1 hx with hx | hx
                · exact hgi x hx
                · rw [List.mem_singleton.1 hx]; exact hYi
            case measure => simp [intOf]; omega
          · go_wp2_with fail
            refine (rset_any b s h v _ _ cs fr w4 hh HP4.out.mr (by omega)).mono ?_
            rintro e w5 ⟨vc5, rfl, hm5, hb5⟩
            have hP5 := HP4.out.ret hb5 hm5 (NewOr.same _ _)
            obtain ⟨A5, c5, rfl⟩ := own_slice hm5.1
            obtain ⟨u, hu⟩ : ∃ u, (Ar.has b s cs h).isSome = u := ⟨_, rfl⟩
            rw [hu]
            have hX6 := Whole.new w5 #[.int .i64 b, .int .i64 s, (.slice A5 (Ar.set b s cs h v).length c5), (.slice Af fr.length cf)] 33
            have hP6 := hP5.below ((Below.refl _ w5).alloc (Nat.le_refl _) (.cells #[.int .i64 b, .int .i64 s, (.slice A5 (Ar.set b s cs h v).length c5), (.slice Af fr.length cf)] 33))
            obtain ⟨w6, hw6⟩ : ∃ w6, w5.alloc (.cells #[.int .i64 b, .int .i64 s, (.slice A5 (Ar.set b s cs h v).length c5), (.slice Af fr.length cf)] 33) = w6 := ⟨_, rfl⟩
            rw [hw6] at hP6 hX6
            have x0 : w6.cell? ⟨w5.heap.size, 0, none⟩ = some (.int .i64 b) := hX6.cell 0
            have x1 : w6.cell? ⟨w5.heap.size, 1, none⟩ = some (.int .i64 s) := hX6.cell 1
            have x2 : w6.cell? ⟨w5.heap.size, 2, none⟩ = some (.slice A5 (Ar.set b s cs h v).length c5) := hX6.cell 2
            have x3 : w6.cell? ⟨w5.heap.size, 3, none⟩ = some (.slice Af fr.length cf) := hX6.cell 3
            obtain ⟨n0, n1, n2, n3, p0, p1, p2, p3⟩ := hP6.cells
            obtain ⟨w7, hw7, hm7, g7⟩ := box4 hP6.mm (.int .i64 b) (.int .i64 s) (.slice A5 (Ar.set b s cs h v).length c5) (.slice Af fr.length cf)
            have hP7 := hP6.stored g7 hm7
            have hb7 := hP7.bel.size
            have HP7 := Lib.hid hP7
            have HU := Lib.hid hu
            clear hP5 hP6 hP7 hX6 hm5 hb5 hm7 g7 m0 m1 m2 m3 f0 f1 f2 f3 hu
            go_wp2_with fail
            refine (aset_any w1.heap.size B b s h v cs fr F w7 HP7.out.ai hb7 hh (by omega)).mono ?_
            rintro e w10 ⟨rfl, hA10, hst⟩
            rw [HU.out]
            have hP10 := HP7.out.step hA10 (.of_turns hst)
            obtain ⟨m0, m1, m2, m3, f0, f1, f2, f3⟩ := hP10.cells
            have hok' := Ar.set_ok (b := b) (s := s) (h := h) hok v
            have hcl' := Ar.set_len b s h v cs
            have HP10 := Lib.hid hP10
            have HCL := Lib.hid hcl'
            clear hP10 hA10 hst x0 x1 x2 x3 n0 n1 n2 n3 p0 p1 p2 p3 hw6 hw7 hcl'
            have huu : (u != u) = false := by simp
            go_wp2_with fail
            refine (same_any w1.heap.size B b s _ _ F _ _ w10 HP10.out.ai HP10.out.mr (by rw [HCL.out]; omega) (by omega)).mono ?_
            rintro e w11 ⟨rfl, hb11⟩
            have HP11 := Lib.hid (HP10.out.below hb11)
            clear hb11 m0 m1 m2 m3 f0 f1 f2 f3
            go_wp2_with fail
            go_roundw
            case rel => exact ⟨k + 1, F, _, _, gl, _, _, by omega, by go_num, HP11.out, hok', by rw [HCL.out]; omega, by omega, hgi⟩
            case measure => simp [intOf]; omega
          · go_wp2_with fail
            refine (rdrop_any b s h _ _ cs fr w4 hh HP4.out.mr (by omega) (by omega)).mono ?_
            rintro e w5 ⟨vc5, vf5, rfl, hm5, hn5, hb5⟩
            have hP5 := HP4.out.ret hb5 hm5 hn5
            obtain ⟨A5, c5, rfl⟩ := own_slice hm5.1
            obtain ⟨E5, d5, rfl⟩ := own_slice hm5.2
            obtain ⟨u, hu⟩ : ∃ u, (Ar.has b s cs h).isSome = u := ⟨_, rfl⟩
            rw [hu]
            have hX6 := Whole.new w5 #[.int .i64 b, .int .i64 s, (.slice A5 (Ar.drop b s cs fr h).1.length c5), (.slice E5 (Ar.drop b s cs fr h).2.length d5)] 33
            have hP6 := hP5.below ((Below.refl _ w5).alloc (Nat.le_refl _) (.cells #[.int .i64 b, .int .i64 s, (.slice A5 (Ar.drop b s cs fr h).1.length c5), (.slice E5 (Ar.drop b s cs fr h).2.length d5)] 33))
            obtain ⟨w6, hw6⟩ : ∃ w6, w5.alloc (.cells #[.int .i64 b, .int .i64 s, (.slice A5 (Ar.drop b s cs fr h).1.length c5), (.slice E5 (Ar.drop b s cs fr h).2.length d5)] 33) = w6 := ⟨_, rfl⟩
            rw [hw6] at hP6 hX6
            have x0 : w6.cell? ⟨w5.heap.size, 0, none⟩ = some (.int .i64 b) := hX6.cell 0
            have x1 : w6.cell? ⟨w5.heap.size, 1, none⟩ = some (.int .i64 s) := hX6.cell 1
            have x2 : w6.cell? ⟨w5.heap.size, 2, none⟩ = some (.slice A5 (Ar.drop b s cs fr h).1.length c5) := hX6.cell 2
            have x3 : w6.cell? ⟨w5.heap.size, 3, none⟩ = some (.slice E5 (Ar.drop b s cs fr h).2.length d5) := hX6.cell 3
            obtain ⟨n0, n1, n2, n3, p0, p1, p2, p3⟩ := hP6.cells
            obtain ⟨w7, hw7, hm7, g7⟩ := box4 hP6.mm (.int .i64 b) (.int .i64 s) (.slice A5 (Ar.drop b s cs fr h).1.length c5) (.slice E5 (Ar.drop b s cs fr h).2.length d5)
            have hP7 := hP6.stored g7 hm7
            have hb7 := hP7.bel.size
            have HP7 := Lib.hid hP7
            have HU := Lib.hid hu
            clear hP5 hP6 hP7 hX6 hm5 hn5 hb5 hm7 g7 m0 m1 m2 m3 f0 f1 f2 f3 hu
            go_wp2_with fail
            refine (adrop_any w1.heap.size B b s h cs fr F w7 HP7.out.ai hb7 hok hh (by omega)).mono ?_
            rintro e w10 ⟨F10, rfl, hA10, hst⟩
            rw [HU.out]
            have hP10 := HP7.out.step hA10 hst
            obtain ⟨m0, m1, m2, m3, f0, f1, f2, f3⟩ := hP10.cells
            have hok' := Ar.drop_ok (b := b) (s := s) (h := h) hok
            have hcl' := Ar.drop_len b s h cs fr
            have hfl' := hok'.len
            have HP10 := Lib.hid hP10
            have HCL := Lib.hid hcl'
            rw [hcl'] at hfl'
            clear hP10 hA10 hst x0 x1 x2 x3 n0 n1 n2 n3 p0 p1 p2 p3 hw6 hw7 hcl'
            have huu : (u != u) = false := by simp
            go_wp2_with fail
            refine (same_any w1.heap.size B b s _ _ F10 _ _ w10 HP10.out.ai HP10.out.mr (by rw [HCL.out]; omega) (by omega)).mono ?_
            rintro e w11 ⟨rfl, hb11⟩
            have HP11 := Lib.hid (HP10.out.below hb11)
            clear hb11 m0 m1 m2 m3 f0 f1 f2 f3
            go_wp2_with fail
            go_roundw
            case rel => exact ⟨k + 1, F10, _, _, gl, _, _, by omega, by go_num, HP11.out, hok', by rw [HCL.out]; omega, by omega, hgi⟩
            case measure => simp [intOf]; omega
          · go_wp2_with fail
            refine (aget_any w1.heap.size B b s h cs fr F w4 HP4.out.ai hh (by omega)).mono ?_
            rintro e w5 ⟨rfl, hb5⟩
            have hP5 := HP4.out.below hb5
            obtain ⟨n0, n1, n2, n3, _, _, _, _⟩ := hP5.cells
            have HP5 := Lib.hid hP5
            clear hP5 hb5 m0 m1 m2 m3 f0 f1 f2 f3
            rcases hasI_cases b s cs h with ⟨j, e3, e4, e5⟩ | ⟨e3, e4⟩
            · obtain ⟨x, hgx, hcx⟩ := Ar.get_of_has e3
              rw [hgx]
              have H4 := Lib.hid e4
              clear e3 e4 hgx
              go_wp2_with fail
              refine (rhas_any b s h _ _ cs fr w5 hh HP5.out.mr (by omega)).mono ?_
              rintro e w6 ⟨rfl, hb6⟩
              rw [H4.out]
              have hP6 := HP5.out.below hb6
              obtain ⟨n0, n1, n2, n3, _, _, _, _⟩ := hP6.cells
              obtain ⟨gc, hgc, _, hcc⟩ := own_cells hP6.mr.1 (by omega)
              subst hgc
              obtain ⟨t0, t1⟩ := Ar.slots_get cs j (some x) hcx
              have t2 := hcc _ _ t0
              have t3 := hcc _ _ t1
              have qj : (j : Int) < (cs.length : Int) := by omega
              have qj0 : (0 : Int) ≤ (j : Int) := by omega
              have HP6 := Lib.hid hP6
              clear hP6 hcc hcx hb6 t0 t1
              go_wp2_with fail
              refine (same_any w1.heap.size B b s cs fr F _ _ w6 HP6.out.ai HP6.out.mr (by omega) (by omega)).mono ?_
              rintro e w11 ⟨rfl, hb11⟩
              have HP11 := Lib.hid (HP6.out.below hb11)
              clear hb11
              go_wp2_with fail
              go_roundw
              case rel => exact ⟨k + 1, F, cs, fr, gl, _, _, by omega, by go_num, HP11.out, hok, by omega, by omega, hgi⟩
              case measure => simp [intOf]; omega
            · have hgx := Ar.get_of_none e3
              rw [hgx]
              have H4 := Lib.hid e4
              clear e3 e4 hgx
              go_wp2_with fail
              refine (rhas_any b s h _ _ cs fr w5 hh HP5.out.mr (by omega)).mono ?_
              rintro e w6 ⟨rfl, hb6⟩
              rw [H4.out]
              have hP6 := HP5.out.below hb6
              obtain ⟨n0, n1, n2, n3, _, _, _, _⟩ := hP6.cells
              have HP6 := Lib.hid hP6
              clear hP6 hb6
              go_wp2_with fail
              refine (same_any w1.heap.size B b s cs fr F _ _ w6 HP6.out.ai HP6.out.mr (by omega) (by omega)).mono ?_
              rintro e w11 ⟨rfl, hb11⟩
              have HP11 := Lib.hid (HP6.out.below hb11)
              clear hb11
              go_wp2_with fail
              go_roundw
              case rel => exact ⟨k + 1, F, cs, fr, gl, _, _, by omega, by go_num, HP11.out, hok, by omega, by omega, hgi⟩
              case measure => simp [intOf]; omega
        · go_wp2_with fail
          go_ret
          exact ⟨rfl, HB1.out.trans (hP.bel.mono HB1.out.size)⟩
end Go.Proofs.Ytccdhfpifohhjaa
