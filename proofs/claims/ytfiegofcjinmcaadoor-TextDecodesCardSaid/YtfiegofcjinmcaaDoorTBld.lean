/- A Builder into which a loop over the code points of a text writes. -/
import Derived.Test.YtfiegofcjinmcaaDoorTCPts
import Derived.Test.YtfiegofcjinmcaaDoorMem
import Derived.Test.YtfiegofcjinmcaaDoorShBld
import Derived.Lib.FrozenHead
namespace Go.Proofs.YtfiegofcjinmcaaDoor
open Go Go.RowKit Go.Shelf

/-- What has been written when these code points have come: those from index a on. -/
def acc (a : Int) (pre : List (Nat × List UInt8)) : List Value := pre.flatMap fun x => if a ≤ (x.1 : Int) then Lib.runeCells ((code x.2 : Nat) : Int) else []
theorem acc_snoc (a : Int) (pre : List (Nat × List UInt8)) (x : Nat × List UInt8) : acc a (pre ++ [x]) = acc a pre ++ (if a ≤ (x.1 : Int) then Lib.runeCells ((code x.2 : Nat) : Int) else []) := by
  simp [acc, List.flatMap_append]
theorem acc_len (a : Int) (pre : List (Nat × List UInt8)) : (acc a pre).length ≤ 4 * pre.length := by
  induction pre with
  | nil => simp [acc]
  | cons x r ih =>
    have h4 := Lib.runeCells_le ((code x.2 : Nat) : Int)
    have : acc a (x :: r) = (if a ≤ (x.1 : Int) then Lib.runeCells ((code x.2 : Nat) : Int) else []) ++ acc a r := by simp [acc]
    rw [this, List.length_append, List.length_cons]
    split
    · omega
    · simp only [List.length_nil]; omega
theorem enum_take_succ (cs : List (List UInt8)) (k : Nat) (h : k < cs.length) : (enum cs).take (k + 1) = (enum cs).take k ++ [(k, cs.getD k [])] := by
  have hd : cs.drop k = cs.getD k [] :: cs.drop (k + 1) := by
    rw [List.drop_eq_getElem_cons h]
    simp [List.getD, h]
  exact (drop_cons hd).2.2.2
theorem acc_take (a : Int) (cs : List (List UInt8)) (hg : ∀ c ∈ cs, Txt.Good c) : ∀ k, k ≤ cs.length → acc a ((enum cs).take k) = Lib.byteCells (seg cs a.toNat k).flatten := by
  intro k
  induction k with
  | zero => intro _; rw [seg_empty cs _ 0 (Nat.zero_le _)]; rfl
  | succ k ih =>
    intro h
    have hk : k < cs.length := h
    rw [enum_take_succ cs k hk, acc_snoc, ih (by omega)]
    have hgc : Txt.Good (cs.getD k []) := hg _ (by simp [List.getD, hk])
    by_cases hak : a ≤ (k : Int)
    · rw [if_pos hak, good_cells hgc, seg_step cs a.toNat k (by omega) hk, List.flatten_append]
      simp [Lib.byteCells]
    · rw [if_neg hak, seg_empty cs _ k (by omega), seg_empty cs _ (k + 1) (by omega)]
      rfl

/-- A Builder stays one when what is no row of cells is turned. -/
theorem builder_kept {T e : TypeId} {B b : Nat} {bs : List Value} {W W' : World} {row : Option Nat} (h : Lib.IsBuilderF T e B b bs W) (hg : W.grownBy W' row)
    (hr : ∀ r, row = some r → ∃ o : Obj, W.heap[r]? = some o ∧ o.isCells = false) : Lib.IsBuilderF T e B b bs W' := by
  have hone : ∀ p, Lib.BuilderAtF T e B b p bs W → Lib.BuilderAtF T e B b p bs W' := by
    rintro p ⟨hB, v, hb, hown, hne⟩
    have hbl : b < W.heap.size := (Array.getElem?_eq_some_iff.1 hb).1
    refine ⟨hB, v, ?_, hown.kept hg ?_, hne⟩
    · rw [hg.block b hbl ?_]
      · exact hb
      · intro e
        obtain ⟨o, ho, hc⟩ := hr b e.symm
        rw [hb] at ho
        obtain rfl := Option.some.inj ho
        cases hc
    · by_cases hv : v.ownBlock = none
      · exact .inl hv
      · right
        intro e
        obtain ⟨r, hvr⟩ := Option.ne_none_iff_exists'.1 hv
        obtain ⟨o, ho, hc⟩ := hr r (by rw [← e, hvr])
        obtain ⟨c, fz, hcc⟩ := Lib.ownsRowF_kind hown r hvr
        rw [hcc] at ho
        obtain rfl := Option.some.inj ho
        cases hc
  rcases h with h | h
  · exact .inl (hone _ h)
  · exact .inr (hone _ h)
/-- The body's word when it has written a rune. -/
theorem keepsOthers_of {b : Nat} {bs : List Value} {W W' : World} (h : Lib.OthersKept 5 (some b) W W') (hs : W.heap.size ≤ W'.heap.size) (hb : Lib.IsBuilderF 38 5 b b bs W) : KeepsOthers W W' := by
  refine ⟨hs, fun k o hk ho => h k o hk (fun e => ?_) (fun c fz e => ?_)⟩
  · obtain rfl := Option.some.inj e
    rcases hb with ⟨_, v, hc, _⟩ | ⟨_, v, hc, _⟩ <;>
    · rw [hc] at hk
      obtain rfl := Option.some.inj hk
      cases ho
  · subst e; cases ho
theorem builder_lt {T e : TypeId} {B b : Nat} {bs : List Value} {W : World} (h : Lib.IsBuilderF T e B b bs W) : b < W.heap.size := by
  rcases h with h | h <;> exact h.lt
/-- A Builder stays one when one behind it is written nothing to but new blocks come. -/
theorem builder_below {T e : TypeId} {B b : Nat} {bs : List Value} {W W' : World} (h : Lib.IsBuilderF T e B b bs W) (hb : Below W.heap.size W W') : Lib.IsBuilderF T e B b bs W' := by
  have hone : ∀ p, Lib.BuilderAtF T e B b p bs W → Lib.BuilderAtF T e B b p bs W' := by
    rintro p ⟨hB, v, hc, hown, hne⟩
    have hbl : b < W.heap.size := (Array.getElem?_eq_some_iff.1 hc).1
    refine ⟨hB, v, (hb.block b hbl).trans hc, ⟨hown.1, ?_⟩, hne⟩
    rcases hown.2 with hn | ⟨g, cap, cur, fz, rfl, hg, hgg, rest⟩
    · exact .inl hn
    · exact .inr ⟨g, cap, cur, fz, rfl, hg, (hb.block g (Array.getElem?_eq_some_iff.1 hgg).1).trans hgg, rest⟩
  rcases h with h | h
  · exact .inl (hone _ h)
  · exact .inr (hone _ h)
/-- A block that does not move while a rune is written. -/
theorem others_deferred {e : TypeId} {b D : Nat} {bs : List Value} {T : TypeId} {W W' : World} (h : Lib.OthersKept e (some b) W W') (hK : W.heap[D]? = some (.deferred (some []))) (hb : Lib.IsBuilderF T e b b bs W) : W'.heap[D]? = some (.deferred (some [])) := by
  refine h D _ hK (fun x => ?_) (fun c fz x => by cases x)
  obtain rfl := Option.some.inj x
  rcases hb with ⟨_, v, hc, _⟩ | ⟨_, v, hc, _⟩ <;> rw [hc] at hK <;> cases hK

end Go.Proofs.YtfiegofcjinmcaaDoor
