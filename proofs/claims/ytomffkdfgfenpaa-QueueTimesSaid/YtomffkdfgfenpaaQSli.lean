/- Laying cells over a row, and the built-ins copy, clear and append of zeros at elements of several cells; rows of timers. No program is imported. -/
import Derived.Test.YtomffkdfgfenpaaQMem
import Derived.Lib.AppendZerosOnto
import Derived.Deep.RegionLaw
import Derived.Tactics
namespace Go.Proofs.Ytomffkdfgfenpaa
open Go Go.RowKit

/-- cs laid over L from o on. -/
def over (L : List Value) (o : Nat) (cs : List Value) : List Value := L.take o ++ cs ++ L.drop (o + cs.length)
theorem over_len {L cs : List Value} {o : Nat} (h : o + cs.length ≤ L.length) : (over L o cs).length = L.length := by simp [over]; omega
theorem over_get {L cs : List Value} {o : Nat} (h : o + cs.length ≤ L.length) (j : Nat) : (over L o cs)[j]? = if o ≤ j ∧ j < o + cs.length then cs[j - o]? else L[j]? := by
  have htl : (L.take o).length = o := by rw [List.length_take]; omega
  unfold over
  rw [List.append_assoc]
  by_cases h1 : j < o
  · rw [if_neg (by omega), List.getElem?_append_left (by omega), List.getElem?_take, if_pos h1]
  · rw [List.getElem?_append_right (by omega), htl]
    by_cases h2 : j < o + cs.length
    · rw [if_pos ⟨by omega, h2⟩, List.getElem?_append_left (by omega)]
    · rw [if_neg (by omega), List.getElem?_append_right (by omega), List.getElem?_drop]
      congr 1
      omega
section
variable {P : Program} {W : World}
theorem run_copy_off (dT sT ty elem : TypeId) (size g o dLen dCap : Nat) (a : Addr) (sLen sCap : Nat) (cur : Array Value) (t : TypeId) (cs : List Value)
    (hu : P.underlying dT = some (.slice elem)) (hs : (P.info? elem).map (·.size) = some size)
    (hg : W.heap[g]? = some (.cells cur t (0, 0))) (n : Nat) (hn : Nat.min sLen dLen = n) (hl : cs.length = n * size)
    (hsrc : ∀ j v, cs[j]? = some v → W.cell? (a.add j) = some v) (hfit : o + cs.length ≤ cur.size) (h1 : ∀ v ∈ cs, v.oneCell' = true) :
    (Builtin.copy_ #[dT, sT] ty #[.slice (some ⟨g, o, none⟩) dLen dCap, .slice (some a) sLen sCap]).run P W =
      .ok (goInt n) (W.setRow g (over cur.toList o cs).toArray) := by
  have hf := run_firstCells_some (P := P) W size n a sLen sCap cs hl hsrc
  have hst := run_storeCells_at P g o t cs 0 cur W hg (by simpa using hfit) h1
  cases hq : P.info? elem with
  | none => simp [hq] at hs
  | some i =>
    have hi : i.size = size := by simpa [hq] using hs
    simp only [Nat.add_zero] at hst
    simp [Builtin.copy_, run_underlying hu, Builtin.lenOf, sizeOf, typeInfo, hq, hi, hn, hf, hst, over]
theorem run_clear_off (t ty e : TypeId) (z : Value) (hu : P.underlying t = some (.slice e)) (hz : ∀ w, (zeroValue e).run P w = .ok z w) (g o n cap : Nat) (cur : Array Value) (E : TypeId)
    (hg : W.heap[g]? = some (.cells cur E (0, 0))) (hn : 0 < n) (zs : List Value) (hzs : (Builtin.zeroCells z.cells n).toList = zs) (hfit : o + zs.length ≤ cur.size) (h1 : ∀ v ∈ zs, v.oneCell' = true) :
    (Builtin.clear_ #[t] ty #[.slice (some ⟨g, o, none⟩) n cap]).run P W = .ok (.tuple #[]) (W.setRow g (over cur.toList o zs).toArray) := by
  have hst := run_storeCells_at P g o E zs 0 cur W hg (by simpa using hfit) h1
  simp only [Nat.add_zero] at hst
  obtain ⟨m, rfl⟩ : ∃ m, n = m + 1 := ⟨n - 1, by omega⟩
  simp [Builtin.clear_, run_underlying hu, hz, hzs, hst, over]

/-- The operations, where their runs are known. -/
theorem wpList_copy_at {w : World} {ops : Array Oper} {rest : List Oper} {o : Oper} {a : Act} {Q : Exit → Act → World → Prop} (hgd : o.guard = none) (d s : Operand) (t t' : TypeId)
    (ho : o.op = .call { callee := .builtin .copy, args := #[d, s], argTypes := #[t, t'] }) (v u : Value) (hd : a.eval d = v) (hs : a.eval s = u) {v' : Value} {w' : World}
    (hr : (Builtin.copy_ #[t, t'] o.type #[v, u]).run P w = .ok v' w') (h : wpList P ops Q rest (a.put o.dst v') w') : wpList P ops Q (o :: rest) a w := by
  refine wpList_plain hgd fun K hK => ?_
  unfold Oper.wp execOp
  simp only [ho, resolve, invoke, builtin, Sem.run_bind, Sem.run_pure, Result.andThen_ok, List.map_toArray, List.map_cons, List.map_nil, hd, hs, hr]
  exact hK _ _ h
theorem step_copy_at {ops : Array Oper} {o : Oper} {a : Act} {w : World} {K : Act → World → Prop} {Q : Exit → Act → World → Prop} {E : Prop} (hg : o.guard = none) (d x : Operand) (dT sT : TypeId)
    (hop : o.op = Op.call { callee := Callee.builtin Builtin.copy, args := #[d, x], argTypes := #[dT, sT] })
    (v u : Value) (hd : a.eval d = v) (hx : a.eval x = u) {v' : Value} {w' : World} (hr : (Builtin.copy_ #[dT, sT] o.type #[v, u]).run P w = .ok v' w') (hK : K (a.put o.dst v') w') :
    if Region.wanted o (yielded ops a.tmps) = true then Oper.wp P o a w K Q else E := by
  have hw : Region.wanted o (yielded ops a.tmps) = true := by simp [Region.wanted, hg]
  rw [if_pos hw]
  unfold Oper.wp
  simp [execOp, hop, resolve, invoke, builtin, hd, hx, hr, Result.andThen]
  exact hK
theorem wpList_clear_at {w : World} {ops : Array Oper} {rest : List Oper} {o : Oper} {a : Act} {Q : Exit → Act → World → Prop} (hgd : o.guard = none) (d : Operand) (t : TypeId)
    (ho : o.op = .call { callee := .builtin .clear, args := #[d], argTypes := #[t] }) (v : Value) (hd : a.eval d = v) {v' : Value} {w' : World}
    (hr : (Builtin.clear_ #[t] o.type #[v]).run P w = .ok v' w') (h : wpList P ops Q rest (a.put o.dst v') w') : wpList P ops Q (o :: rest) a w := by
  refine wpList_plain hgd fun K hK => ?_
  unfold Oper.wp execOp
  simp only [ho, resolve, invoke, builtin, Sem.run_bind, Sem.run_pure, Result.andThen_ok, List.map_toArray, List.map_cons, List.map_nil, hd, hr]
  exact hK _ _ h
end

/-! Rows of timers. -/
abbrev T3 := Int × Int × Int
def tcells (x : T3) : List Value := [.int .i64 x.1, .int .i64 x.2.1, .int .i64 x.2.2]
def trow : List T3 → List Value
  | [] => []
  | x :: l => tcells x ++ trow l
theorem trow_len : ∀ l : List T3, (trow l).length = l.length * 3
  | [] => rfl
  | x :: l => by
    rw [trow, List.length_append, trow_len l, List.length_cons, Nat.add_mul, show (tcells x).length = 3 from rfl]
    omega
theorem trow_append : ∀ l m : List T3, trow (l ++ m) = trow l ++ trow m
  | [], _ => rfl
  | x :: l, m => by simp [trow, trow_append l m]
theorem trow_one : ∀ l : List T3, ∀ u ∈ trow l, u.oneCell' = true
  | [], u, h => by simp [trow] at h
  | x :: l, u, h => by
    rw [trow, List.mem_append] at h
    rcases h with h | h
    · simp [tcells] at h
      rcases h with rfl | rfl | rfl <;> rfl
    · exact trow_one l u h
theorem trow_get : ∀ {l : List T3} {i : Nat} {x : T3}, l[i]? = some x → (trow l)[i * 3]? = some (.int .i64 x.1) ∧ (trow l)[i * 3 + 1]? = some (.int .i64 x.2.1) ∧ (trow l)[i * 3 + 2]? = some (.int .i64 x.2.2)
  | [], i, x, h => by simp at h
  | y :: l, 0, x, h => by
    simp at h
    subst h
    exact ⟨rfl, rfl, rfl⟩
  | y :: l, i + 1, x, h => by
    have h' : l[i]? = some x := by simpa using h
    obtain ⟨h1, h2, h3⟩ := trow_get h'
    have e : ∀ j, (trow (y :: l))[3 + j]? = (trow l)[j]? := fun j => by
      rw [trow, List.getElem?_append_right (by simp [tcells]), show (tcells y).length = 3 from rfl, Nat.add_sub_cancel_left]
    refine ⟨?_, ?_, ?_⟩
    · rw [show (i + 1) * 3 = 3 + i * 3 by omega, e, h1]
    · rw [show (i + 1) * 3 + 1 = 3 + (i * 3 + 1) by omega, e, h2]
    · rw [show (i + 1) * 3 + 2 = 3 + (i * 3 + 2) by omega, e, h3]
theorem trow_take (l : List T3) (k : Nat) : (trow l).take (k * 3) = trow (l.take k) := by
  by_cases h : k ≤ l.length
  · have e : trow l = trow (l.take k) ++ trow (l.drop k) := by rw [← trow_append, List.take_append_drop]
    have hl : (trow (l.take k)).length = k * 3 := by rw [trow_len, List.length_take, Nat.min_eq_left h]
    rw [e, List.take_append_of_le_length (by omega), List.take_of_length_le (by omega)]
  · rw [List.take_of_length_le (by rw [trow_len]; omega), List.take_of_length_le (by omega)]
theorem trow_drop (l : List T3) (k : Nat) : (trow l).drop (k * 3) = trow (l.drop k) := by
  by_cases h : k ≤ l.length
  · have e : trow l = trow (l.take k) ++ trow (l.drop k) := by rw [← trow_append, List.take_append_drop]
    have hl : (trow (l.take k)).length = k * 3 := by rw [trow_len, List.length_take, Nat.min_eq_left h]
    have e2 : (trow (l.take k) ++ trow (l.drop k)).drop (trow (l.take k)).length = trow (l.drop k) := List.drop_left
    rw [e, ← hl, e2]
  · rw [List.drop_of_length_le (by rw [trow_len]; omega), List.drop_of_length_le (by omega)]
    rfl
end Go.Proofs.Ytomffkdfgfenpaa
