/- The reference's model of an arena in memory; its Has and Len. -/
import Derived.Test.YthocodmniofioaaAMod
import Derived.Test.YthocodmniofioaaARef
import Derived.Test.YthocodmniofioaaMem
namespace Go.Proofs.Ythocodmniofioaa
open Go.RowKit

/-- A model as a value. -/
abbrev modelV (b s : Int) (vc vf : Value) : Value := .agg #[.int .i64 b, .int .i64 s, vc, vf]
/-- Its two rows lie in memory. -/
def MR (w : World) (vc vf : Value) (cs : List (Option Int)) (fr : List Nat) : Prop :=
  w.ownsRow 0 49 2 vc cs.length (Ar.slots cs) ∧ w.ownsRow 0 3 1 vf fr.length (Ar.nums fr)
theorem own_below {w w' : World} {e : TypeId} {size : Nat} {v : Value} {n : Nat} {xs : List Value} (h : w.ownsRow 0 e size v n xs) (hb : Below w.heap.size w w') : w'.ownsRow 0 e size v n xs := by
  refine ⟨h.1, ?_⟩
  rcases h.2 with hn | ⟨g, cap, cur, rfl, h0, hg, hr⟩
  · exact .inl hn
  · exact .inr ⟨g, cap, cur, rfl, h0, (hb.block g (Array.getElem?_eq_some_iff.1 hg).1).trans hg, hr⟩
theorem own_zero {w : World} {B : Nat} {e : TypeId} {size : Nat} {v : Value} {n : Nat} {xs : List Value} (h : w.ownsRow B e size v n xs) : w.ownsRow 0 e size v n xs := by
  refine ⟨h.1, ?_⟩
  rcases h.2 with hn | ⟨g, cap, cur, hv, _, hr⟩
  · exact .inl hn
  · exact .inr ⟨g, cap, cur, hv, Nat.zero_le _, hr⟩
theorem MR.below {w w' : World} {vc vf : Value} {cs : List (Option Int)} {fr : List Nat} (h : MR w vc vf cs fr) (hb : Below w.heap.size w w') : MR w' vc vf cs fr := ⟨own_below h.1 hb, own_below h.2 hb⟩
theorem own_slice {w : World} {e : TypeId} {size : Nat} {v : Value} {n : Nat} {xs : List Value} (h : w.ownsRow 0 e size v n xs) : ∃ A c, v = .slice A n c := by
  rcases h.2 with ⟨rfl, rfl⟩ | ⟨g, cap, cur, rfl, _⟩
  · exact ⟨none, 0, rfl⟩
  · exact ⟨_, _, rfl⟩
/-- A row that is not empty, and its cells. -/
theorem own_cells {w : World} {e : TypeId} {size : Nat} {A : Option Addr} {c n : Nat} {xs : List Value} (h : w.ownsRow 0 e size (.slice A n c) n xs) (hn : 0 < n) : ∃ g, A = some ⟨g, 0, none⟩ ∧ g < w.heap.size ∧ ∀ j u, xs[j]? = some u → w.cell? ⟨g, j, none⟩ = some u := by
  have hh := h
  rcases h.2 with ⟨_, rfl⟩ | ⟨g, cap, cur, hv, _, hg, _⟩
  · omega
  · injection hv with hA _ _
    subst hA
    refine ⟨g, rfl, (Array.getElem?_eq_some_iff.1 hg).1, fun j u hu => ?_⟩
    have := hh.cells rfl j u hu
    have e : (⟨g, 0, none⟩ : Addr).add j = ⟨g, j, none⟩ := by unfold Addr.add; split <;> simp_all
    rwa [e] at this

set_option maxHeartbeats 1000000 in
theorem rhas_any (b s h : Int) (vc vf : Value) (cs : List (Option Int)) (fr : List Nat) (w : World) (hh : I64 h) (hm : MR w vc vf cs fr) (hl : cs.length ≤ 10000) :
    Calls Try.prog 21 #[modelV b s vc vf, .int .i64 h] w fun e w' => e = .returned (.int .i64 (Ar.hasI b s cs h)) ∧ Below w.heap.size w w' := by
  obtain ⟨A, c, rfl⟩ := own_slice hm.1
  have hir := Ar.idx_range b s h
  have hcase : (∃ i : Nat, Ar.has b s cs h = some i) ∨ Ar.has b s cs h = none := by cases Ar.has b s cs h with | none => exact .inr rfl | some i => exact .inl ⟨i, rfl⟩
  have hb0 := (Below.refl _ w).alloc (Nat.le_refl _) (.cells #[.int .i64 b, .int .i64 s, .slice A cs.length c, vf] 33)
  go_enter Try.func21, Try.ntmps21
  go_wp2_with fail
  refine (rindex_any b s h _ hh).mono ?_
  rintro e w2 ⟨rfl, hb2⟩
  have hb02 : Below w.heap.size w w2 := hb0.trans (hb2.mono (by simp))
  have hB : Whole w2 w.heap.size #[.int .i64 b, .int .i64 s, .slice A cs.length c, vf] 33 := Whole.below (Whole.new w _ _) hb2 (by simp)
  have c2 : w2.cell? ⟨w.heap.size, 2, none⟩ = some (.slice A cs.length c) := hB.cell 2
  have hm2 := hm.below hb02
  rcases hcase with ⟨i, hi⟩ | hi
  · obtain ⟨h1, h2, v, h3⟩ := Ar.has_some hi
    obtain ⟨g, rfl, hg, hcell⟩ := own_cells hm2.1 (by omega)
    have hc3 := hcell _ _ (Ar.slots_get cs i (some v) h3).1
    have hr : Ar.hasI b s cs h = (i : Int) := by unfold Ar.hasI; rw [hi]
    have q1 : (i : Int) < (cs.length : Int) := by omega
    have q2 : ¬ (cs.length : Int) ≤ (i : Int) := by omega
    rw [h1]
    have HR := Lib.hid hr
    clear hr h1 hi h3 hm hm2 hcell hir
    go_wp2_with fail
    go_ret
    exact ⟨aretI HR.out.symm, hb02⟩
  · have hr : Ar.hasI b s cs h = -1 := by unfold Ar.hasI; rw [hi]
    have HR := Lib.hid hr
    rcases Ar.has_none hi with h1 | ⟨h1, h2⟩ | ⟨i, h1, h2, h3⟩
    · clear hr hi hm hm2 hir
      go_wp2_with fail
      go_ret
      exact ⟨aretI HR.out.symm, hb02⟩
    · have q1 : ¬ Ar.idx b s h < 0 := by omega
      clear hr hi hm hm2 hir
      go_wp2_with fail
      go_ret
      exact ⟨aretI HR.out.symm, hb02⟩
    · obtain ⟨g, rfl, hg, hcell⟩ := own_cells hm2.1 (by omega)
      have hc3 := hcell _ _ (Ar.slots_get cs i none h3).1
      have q1 : (i : Int) < (cs.length : Int) := by omega
      have q2 : ¬ (cs.length : Int) ≤ (i : Int) := by omega
      rw [h1]
      clear hr h1 hi h3 hm hm2 hcell hir
      go_wp2_with fail
      go_ret
      exact ⟨aretI HR.out.symm, hb02⟩

end Go.Proofs.Ythocodmniofioaa
