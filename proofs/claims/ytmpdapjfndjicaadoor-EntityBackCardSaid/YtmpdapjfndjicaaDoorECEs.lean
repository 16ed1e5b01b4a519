/- The program's Escape and EscapeAttr return what the plain texts say. -/
import Derived.Test.YtmpdapjfndjicaaDoorEEsp
import Derived.Test.YtmpdapjfndjicaaDoorEBas
import Derived.Test.YtmpdapjfndjicaaDoorShRpl
namespace Go.Proofs.YtmpdapjfndjicaaDoor
open Go Go.RowKit

/-- A variable of the library's holds some number. -/
def MaxLen (w : World) : Prop := ∃ m, w.cell? ⟨1, 0, none⟩ = some (.int .i64 m)
theorem MaxLen.below {w w' : World} (h : MaxLen w) (hb : Below w.heap.size w w') : MaxLen w' := by
  obtain ⟨m, hm⟩ := h
  exact ⟨m, (hb.cell (World.block_lt_of_cell? w _ hm)).trans hm⟩

theorem tra_any (l : List UInt8) (b : UInt8) (new : List UInt8) (w : World) (hM : MaxLen w) (hs : l.length ≤ 20000) (hn : new.length ≤ 6) (hne : [b] ≠ new) :
    Calls Tryd.prog 34 #[.string (tstr l), .string (tstr [b]), .string (tstr new)] w fun e w' => e = .returned (.string (tstr (l.flatMap (Ent.one b new)))) ∧ Below w.heap.size w w' := by
  obtain ⟨m, hm⟩ := hM
  have hz : (tstr l).size = l.length := tstr_size l
  have hcb := Lib.countB_le (tstr [b]) (by rw [tstr_size]; exact Nat.le_refl _) (tstr l).size (tstr l) (Nat.le_refl _)
  have hmul : Lib.countB (tstr l) (tstr [b]) * (tstr new).size ≤ 20000 * 6 := Nat.mul_le_mul (by omega) (by rw [tstr_size]; exact hn)
  have c := Tryd.replaceAll (tstr l) (tstr [b]) (tstr new) m w (by omega) hm (by rw [tstr_size]; exact Nat.le_refl _) (by omega)
  rw [tstr_data, tstr_data, tstr_data, Ent.replaceAll_ra _ _ _ hne, Ent.ra_one] at c
  exact c

set_option maxHeartbeats 400000 in
theorem tescapeBoth_any (l : List UInt8) (w : World) (hM : MaxLen w) (hs : l.length ≤ 2000) :
    Calls Tryd.prog 33 #[.string (tstr l)] w fun e w' => e = .returned (.string (tstr (l.flatMap Ent.escB))) ∧ Below w.heap.size w w' := by
  have h1 := tra_any l 38 [38, 97, 109, 112, 59] w hM (by omega) (by decide) (by decide)
  have hl := Ent.flat_len _ (Ent.one_len 38 [38, 97, 109, 112, 59] (by decide)) l
  have h2 := fun w2 (h : MaxLen w2) => tra_any (l.flatMap (Ent.one 38 [38, 97, 109, 112, 59])) 13 [38, 35, 49, 51, 59] w2 h (by omega) (by decide) (by decide)
  rw [Ent.comp_B] at h2
  obtain ⟨X, hX⟩ : ∃ X, tstr (l.flatMap (Ent.one 38 [38, 97, 109, 112, 59])) = X := ⟨_, rfl⟩
  rw [hX] at h1 h2
  obtain ⟨S, hS⟩ : ∃ S, tstr l = S := ⟨_, rfl⟩
  rw [hS] at h1 ⊢
  obtain ⟨R, hR⟩ : ∃ R, tstr (l.flatMap Ent.escB) = R := ⟨_, rfl⟩
  rw [hR] at h2 ⊢
  clear hX hl hs hS hR
  go_enter Tryd.func33, Tryd.ntmps33
  go_wp2_with fail
  refine h1.mono ?_
  rintro e w2 ⟨rfl, hb2⟩
  go_wp2_with fail
  refine (h2 w2 (hM.below hb2)).mono ?_
  rintro e w3 ⟨rfl, hb3⟩
  go_wp2_with fail
  go_ret
  exact ⟨rfl, below_trans' hb2 hb3⟩

set_option maxHeartbeats 400000 in
theorem tescape_any (l : List UInt8) (w : World) (hM : MaxLen w) (hs : l.length ≤ 2000) :
    Calls Tryd.prog 20 #[.string (tstr l)] w fun e w' => e = .returned (.string (tstr (l.flatMap Ent.esc))) ∧ Below w.heap.size w w' := by
  have h1 := tescapeBoth_any l w hM hs
  have hl1 := Ent.flat_len _ Ent.escB_len l
  have hl2 := Ent.flat_len _ Ent.escC_len l
  have h2 := fun w2 (h : MaxLen w2) => tra_any (l.flatMap Ent.escB) 60 [38, 108, 116, 59] w2 h (by omega) (by decide) (by decide)
  rw [Ent.comp_C] at h2
  have h3 := fun w2 (h : MaxLen w2) => tra_any (l.flatMap Ent.escC) 62 [38, 103, 116, 59] w2 h (by omega) (by decide) (by decide)
  rw [Ent.comp_D] at h3
  obtain ⟨X, hX⟩ : ∃ X, tstr (l.flatMap Ent.escB) = X := ⟨_, rfl⟩
  rw [hX] at h1 h2
  obtain ⟨Y, hY⟩ : ∃ Y, tstr (l.flatMap Ent.escC) = Y := ⟨_, rfl⟩
  rw [hY] at h2 h3
  obtain ⟨S, hS⟩ : ∃ S, tstr l = S := ⟨_, rfl⟩
  rw [hS] at h1 ⊢
  obtain ⟨R, hR⟩ : ∃ R, tstr (l.flatMap Ent.esc) = R := ⟨_, rfl⟩
  rw [hR] at h3 ⊢
  clear hX hY hl1 hl2 hs hS hR
  go_enter Tryd.func20, Tryd.ntmps20
  go_wp2_with fail
  refine h1.mono ?_
  rintro e w2 ⟨rfl, hb2⟩
  go_wp2_with fail
  refine (h2 w2 (hM.below hb2)).mono ?_
  rintro e w3 ⟨rfl, hb3⟩
  go_wp2_with fail
  refine (h3 w3 ((hM.below hb2).below hb3)).mono ?_
  rintro e w4 ⟨rfl, hb4⟩
  go_wp2_with fail
  go_ret
  exact ⟨rfl, below_trans' (below_trans' hb2 hb3) hb4⟩

set_option maxHeartbeats 400000 in
theorem tescapeAttr_any (l : List UInt8) (w : World) (hM : MaxLen w) (hs : l.length ≤ 2000) :
    Calls Tryd.prog 22 #[.string (tstr l)] w fun e w' => e = .returned (.string (tstr (l.flatMap Ent.escA))) ∧ Below w.heap.size w w' := by
  have h1 := tescapeBoth_any l w hM hs
  have hl1 := Ent.flat_len _ Ent.escB_len l
  have h2 := fun w2 (h : MaxLen w2) => tra_any (l.flatMap Ent.escB) 34 [38, 113, 117, 111, 116, 59] w2 h (by omega) (by decide) (by decide)
  rw [Ent.comp_A] at h2
  obtain ⟨X, hX⟩ : ∃ X, tstr (l.flatMap Ent.escB) = X := ⟨_, rfl⟩
  rw [hX] at h1 h2
  obtain ⟨S, hS⟩ : ∃ S, tstr l = S := ⟨_, rfl⟩
  rw [hS] at h1 ⊢
  obtain ⟨R, hR⟩ : ∃ R, tstr (l.flatMap Ent.escA) = R := ⟨_, rfl⟩
  rw [hR] at h2 ⊢
  clear hX hl1 hs hS hR
  go_enter Tryd.func22, Tryd.ntmps22
  go_wp2_with fail
  refine h1.mono ?_
  rintro e w2 ⟨rfl, hb2⟩
  go_wp2_with fail
  refine (h2 w2 (hM.below hb2)).mono ?_
  rintro e w3 ⟨rfl, hb3⟩
  go_wp2_with fail
  go_ret
  exact ⟨rfl, below_trans' hb2 hb3⟩

end Go.Proofs.YtmpdapjfndjicaaDoor
