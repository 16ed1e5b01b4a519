/- The law's Same returns true for a token and the reference's with the same fields. -/
import Derived.BigQuiet
import Derived.IntWalk
import Derived.Test.YtckmlbcpldpkpaaGreatDoorKG
import Derived.Test.YtckmlbcpldpkpaaGreatDoorKH
namespace Go.Proofs.YtckmlbcpldpkpaaGreatDoor
open Go Go.RowKit
set_option linter.unusedVariables false

theorem str_same (s : ByteArray) : (s.toList != s.toList) = false := by simp

set_option maxRecDepth 100000 in
set_option maxHeartbeats 4000000 in
theorem lsame_any (T : Mk.Tok) (s1 s2 : Value) (b1 b2 : Nat) (w : World) (h1 : ARow 39 w b1 s1 T.attrs) (h2 : ARow 57 w b2 s2 T.attrs) (hm : T.attrs.length ≤ 64) :
    Calls Tryz.prog 11 #[tokT T s1, tokT T s2] w fun e w' => e = .returned (.bool true) ∧ Below w.heap.size w w' := by
  obtain ⟨A1, c1, rfl⟩ := h1.form
  obtain ⟨A2, c2, rfl⟩ := h2.form
  unfold tokT
  have R1 := Lib.hid h1
  have R2 := Lib.hid h2
  obtain ⟨m, hme⟩ : ∃ m, T.attrs.length = m := ⟨_, rfl⟩
  rw [hme] at hm ⊢
  have HM := Lib.hid hme
  obtain ⟨K, hK⟩ : ∃ K : Int, (T.kind : Int) = K := ⟨_, rfl⟩
  rw [hK]
  have qK : (K != K) = false := by simp
  generalize tstr T.name = NM
  generalize tstr T.text = TX
  generalize T.closed = CL
  have qN := str_same NM
  have qT := str_same TX
  have qC : (CL != CL) = false := by simp
  have qM : ((m : Int) != (m : Int)) = false := by simp
  have hX1 := (Whole.new w #[.int .i64 K, .string NM, .slice A1 m c1, .bool CL, .string TX] 30).alloc (.cells #[.int .i64 K, .string NM, .slice A2 m c2, .bool CL, .string TX] 33)
  have hX2 := Whole.new (w.alloc (.cells #[.int .i64 K, .string NM, .slice A1 m c1, .bool CL, .string TX] 30)) #[.int .i64 K, .string NM, .slice A2 m c2, .bool CL, .string TX] 33
  rw [World.size_alloc] at hX2
  have hB : Below w.heap.size w ((w.alloc (.cells #[.int .i64 K, .string NM, .slice A1 m c1, .bool CL, .string TX] 30)).alloc (.cells #[.int .i64 K, .string NM, .slice A2 m c2, .bool CL, .string TX] 33)) := ((Below.refl _ _).alloc (Nat.le_refl _) _).alloc (by rw [World.size_alloc]; omega) _
  obtain ⟨W, hW⟩ : ∃ W, (w.alloc (.cells #[.int .i64 K, .string NM, .slice A1 m c1, .bool CL, .string TX] 30)).alloc (.cells #[.int .i64 K, .string NM, .slice A2 m c2, .bool CL, .string TX] 33) = W := ⟨_, rfl⟩
  rw [hW] at hX1 hX2 hB
  obtain ⟨x0, x1, x2, x3, x4⟩ := tok_cells hX1
  obtain ⟨y0, y1, y2, y3, y4⟩ := tok_cells hX2
  have HB := Lib.hid hB
  clear h1 h2 hme hK hX1 hX2 hB
  go_enter Tryz.func11, Tryz.ntmps11
  go_wp2_with fail
  (try rw [hW])
  clear hW
  go_loopw [5] (fun j wr => ∃ q : Nat, q ≤ m ∧ j = .int .i64 q ∧ Below W.heap.size W wr) (fun j _ => m - (intOf j).toNat)
  case atStart => exact ⟨0, Nat.zero_le _, rfl, Below.refl _ _⟩
  case round =>
    obtain ⟨q, hq, rfl, hBx⟩ := hrel
    replace x2 := (hBx.cell (World.block_lt_of_cell? W _ x2)).trans x2
    replace y2 := (hBx.cell (World.block_lt_of_cell? W _ y2)).trans y2
    clear x0 x1 x3 x4 y0 y1 y3 y4
    by_cases hql : q < m
    · have hql' : (q : Int) < (m : Int) := by omega
      have hqt : q < T.attrs.length := by rw [HM.out]; exact hql
      obtain ⟨g1, e1, hE1, _, hg1, s0, s1⟩ := R1.out.at q hqt
      obtain ⟨g2, e2, hE2, _, hg2, t0, t1⟩ := R2.out.at q hqt
      injection hE1 with hE1 _ hz1
      subst hE1 hz1
      injection hE2 with hE2 _ hz2
      subst hE2 hz2
      have hBB := HB.out.trans (hBx.mono HB.out.size)
      replace s0 := (hBB.cell hg1).trans s0
      replace s1 := (hBB.cell hg1).trans s1
      replace t0 := (hBB.cell hg2).trans t0
      replace t1 := (hBB.cell hg2).trans t1
      generalize tstr T.attrs[q].1 = S0 at s0 t0
      generalize tstr T.attrs[q].2 = S1 at s1 t1
      have q0 := str_same S0
      have q1 := str_same S1
      have HBX := Lib.hid hBx
      clear hBB hBx
      go_wp2_with fail
      go_quiet (fail)
      go_wp2_with fail
      go_roundw
      case rel => exact ⟨q + 1, by omega, by go_num, below_drewN' HBX.out nq⟩
      case measure => simp [intOf]; omega
    · have hql' : ¬ (q : Int) < (m : Int) := by omega
      obtain rfl : q = m := by omega
      go_wp2_with fail
      go_ret
      exact ⟨rfl, HB.out.trans (hBx.mono HB.out.size)⟩

end Go.Proofs.YtckmlbcpldpkpaaGreatDoor
