/- The state of the walk of ArenaPlays: an arena, the model, and the row of the handles, apart from each other. -/
import Derived.Test.YtccdhfpifohhjaaACodeG
import Derived.Test.YtccdhfpifohhjaaAAptW
import Derived.Test.YtccdhfpifohhjaaAOkp
namespace Go.Proofs.Ytccdhfpifohhjaa
open Go.RowKit

/-- The state: the arena in B, the model's value (vc, vf), its variable M (that holds uc, uf), the row g of handles. -/
structure PS (W1 w : World) (B M : Nat) (b s : Int) (cs : List (Option Int)) (fr : List Nat) (F : Nat → Prop) (cm : List (Option Int)) (fm : List Nat) (vc vf uc uf g : Value) (gl : List Int) : Prop where
  ai : AI W1.heap.size w B b s cs fr F
  mr : MR w vc vf cm fm
  mm : Whole w M #[.int .i64 b, .int .i64 s, uc, uf] 33
  row : Row 3 W1.heap.size w g gl F
  aF : ∀ k, vf.ownBlock = some k → ¬ F k
  aG : ∀ k, vf.ownBlock = some k → g.ownBlock ≠ some k
  bel : Below W1.heap.size W1 w
  hM : W1.heap.size ≤ M
section
variable {W1 w w' : World} {B M : Nat} {b s : Int} {cs cs' : List (Option Int)} {fr fr' : List Nat} {F F' : Nat → Prop} {cm cm' : List (Option Int)} {fm fm' : List Nat} {vc vf uc uf g vc' vf' uc' uf' g' : Value} {gl : List Int}
theorem PS.below (h : PS W1 w B M b s cs fr F cm fm vc vf uc uf g gl) (hb : Below w.heap.size w w') : PS W1 w' B M b s cs fr F cm fm vc vf uc uf g gl :=
  ⟨h.ai.below hb, h.mr.below hb, h.mm.below hb h.mm.lt, h.row.below hb, h.aF, h.aG, h.bel.trans (hb.mono h.bel.size), h.hM⟩
theorem PS.ret (h : PS W1 w B M b s cs fr F cm fm vc vf uc uf g gl) (hb : Below w.heap.size w w') (hm : MR w' vc' vf' cm' fm') (hn : NewOr w vf vf') : PS W1 w' B M b s cs fr F cm' fm' vc' vf' uc uf g gl := by
  have h' := h.below hb
  refine ⟨h'.ai, hm, h'.mm, h'.row, fun k hk hF => ?_, fun k hk hg => ?_, h'.bel, h'.hM⟩
  · rcases hn k hk with e | e
    · exact h.aF k e hF
    · have := (h.ai.lt k hF).2; omega
  · rcases hn k hk with e | e
    · exact h.aG k e hg
    · have := (h.row.1.lt k hg).2; omega
theorem PS.stored (h : PS W1 w B M b s cs fr F cm fm vc vf uc uf g gl) (hg : w.grownBy w' (some M)) (hm : Whole w' M #[.int .i64 b, .int .i64 s, uc', uf'] 33) : PS W1 w' B M b s cs fr F cm fm vc vf uc' uf' g gl := by
  have ht : Turns (fun k => k = M) w w' := .of_grown hg (fun k hk => by simpa using hk.symm)
  have hnF := h.ai.not_whole h.mm (by decide) (by decide) (by decide)
  refine ⟨h.ai.turns ht (fun k hF e => hnF (e ▸ hF)), h.mr.grown hg h.mm, hm, ⟨h.row.1.kept hg (.inr (own_unlike h.row.1 h.mm (by decide))), h.row.2⟩, h.aF, h.aG, h.bel.grown hg h.bel.size (fun j hj => ?_), h.hM⟩
  have e : j = M := by simpa using hj.symm
  rw [e]; exact h.hM
theorem PS.push {x : Int} (h : PS W1 w B M b s cs fr F cm fm vc vf uc uf g gl) (ho : w'.ownsRow W1.heap.size 3 1 g' (gl.length + 1) (ints gl ++ ints [x])) (hg : w.grownBy w' g.ownBlock) (hf : Fresh w g g') : PS W1 w' B M b s cs fr F cm fm vc vf uc uf g' (gl ++ [x]) := by
  obtain ⟨h1, h2, h3⟩ := h.row.push h.ai ho hg hf
  refine ⟨h1, ⟨h.mr.1.kept hg (own_ne h.mr.1 h.row.1 (by decide)), ?_⟩, h.mm.grown hg (fun e => own_unlike h.row.1 h.mm (by decide) e.symm), h2, h.aF, fun k hk hg' => ?_, h.bel.grown hg h.bel.size (fun j hj => (h.row.1.lt j hj).1), h.hM⟩
  · refine h.mr.2.kept hg ?_
    cases e : vf.ownBlock with
    | none => exact .inl rfl
    | some k => exact .inr (fun e' => h.aG k e e'.symm)
  · rcases hf with e | e
    · exact h.aG k hk (e ▸ hg')
    · have := e k hg'
      have := (h.mr.2.lt k hk).2
      omega
theorem PS.step (h : PS W1 w B M b s cs fr F cm fm vc vf uc uf g gl) (ha : AI W1.heap.size w' B b s cs' fr' F') (hs : AStep w w' F F') : PS W1 w' B M b s cs' fr' F' cm fm vc vf uc uf g gl := by
  have hnM := h.ai.not_whole h.mm (by decide) (by decide) (by decide)
  have hnC := h.ai.not_row h.mr.1 (by decide) (by decide) (by decide)
  refine ⟨ha, ⟨own_turns h.mr.1 hs.1 hnC, own_turns h.mr.2 hs.1 h.aF⟩, h.mm.turns hs.1 hnM, h.row.step hs, fun k hk hF => h.aF k hk (hs.2 k (h.mr.2.lt k hk).2 hF), h.aG, h.bel.trans (hs.1.below h.bel.size fun j hj => (h.ai.lt j hj).1), h.hM⟩
theorem PS.cells (h : PS W1 w B M b s cs fr F cm fm vc vf uc uf g gl) : w.cell? ⟨M, 0, none⟩ = some (.int .i64 b) ∧ w.cell? ⟨M, 1, none⟩ = some (.int .i64 s) ∧ w.cell? ⟨M, 2, none⟩ = some uc ∧ w.cell? ⟨M, 3, none⟩ = some uf ∧ w.frozen? ⟨M, 0, none⟩ = false ∧ w.frozen? ⟨M, 1, none⟩ = false ∧ w.frozen? ⟨M, 2, none⟩ = false ∧ w.frozen? ⟨M, 3, none⟩ = false :=
  ⟨h.mm.cell 0, h.mm.cell 1, h.mm.cell 2, h.mm.cell 3, h.mm.free 0, h.mm.free 1, h.mm.free 2, h.mm.free 3⟩
end
end Go.Proofs.Ytccdhfpifohhjaa
