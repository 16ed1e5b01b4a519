/- The place of a timer in the list: position, slices.IndexFunc; slices.Delete of one timer. -/
import Derived.Test.YtomffkdfgfenpaaQTm
import Derived.StillTailTactics
namespace Go.Proofs.Ytomffkdfgfenpaa
open Go Go.RowKit

def fnd (id : Int) : List T3 → Option Nat
  | [] => none
  | x :: l => if x.1 = id then some 0 else (fnd id l).map (· + 1)
def fndI : Option Nat → Int
  | some i => i
  | none => -1
theorem fnd_at (id : Int) : ∀ (l : List T3) (i : Nat) (x : T3), l[i]? = some x → x.1 = id → (∀ (j : Nat) (y : T3), j < i → l[j]? = some y → y.1 ≠ id) → fnd id l = some i
  | [], i, x, h, _, _ => by simp at h
  | y :: l, 0, x, h, hx, _ => by
    simp at h
    subst h
    simp [fnd, hx]
  | y :: l, i + 1, x, h, hx, hn => by
    have h0 := hn 0 y (by omega) rfl
    have ih := fnd_at id l i x (by simpa using h) hx (fun j z hj hz => hn (j + 1) z (by omega) (by simpa using hz))
    simp [fnd, h0, ih]
theorem fnd_none (id : Int) : ∀ (l : List T3), (∀ (j : Nat) (y : T3), l[j]? = some y → y.1 ≠ id) → fnd id l = none
  | [], _ => rfl
  | y :: l, hn => by
    have h0 := hn 0 y rfl
    have ih := fnd_none id l (fun j z hz => hn (j + 1) z (by simpa using hz))
    simp [fnd, h0, ih]
theorem fnd_some {id : Int} : ∀ {l : List T3} {i : Nat}, fnd id l = some i → ∃ x, l[i]? = some x ∧ x.1 = id
  | [], i, h => by simp [fnd] at h
  | y :: l, i, h => by
    unfold fnd at h
    split at h
    · rename_i hy
      injection h with h
      subst h
      exact ⟨y, rfl, hy⟩
    · cases hf : fnd id l with
      | none => rw [hf] at h; simp at h
      | some j =>
        rw [hf] at h
        simp at h
        subst h
        obtain ⟨x, hx, hid⟩ := fnd_some hf
        exact ⟨x, by simpa using hx, hid⟩
theorem fnd_mem {id : Int} : ∀ {l : List T3}, fnd id l = none → ∀ x ∈ l, x.1 ≠ id
  | [], _, x, hx => by simp at hx
  | y :: l, h, x, hx => by
    unfold fnd at h
    split at h
    · cases h
    · rename_i hy
      have hf : fnd id l = none := by
        cases hf : fnd id l with
        | none => rfl
        | some j => rw [hf] at h; simp at h
      rcases List.mem_cons.1 hx with rfl | hx
      · exact hy
      · exact fnd_mem hf x hx
theorem fnd_lt {id : Int} {l : List T3} {i : Nat} (h : fnd id l = some i) : i < l.length := by
  obtain ⟨x, hx, _⟩ := fnd_some h
  exact (List.getElem?_eq_some_iff.1 hx).1

def tagg (x : T3) : Value := .agg #[.int .i64 x.1, .int .i64 x.2.1, .int .i64 x.2.2]
set_option maxRecDepth 100000 in
set_option maxHeartbeats 1000000 in
theorem pos1_any (x : T3) (B : Nat) (id : Int) (w : World) (hB : Whole w B #[.int .i64 id] 3) :
    Calls Try.prog 48 #[.agg #[.int .i64 x.1, .int .i64 x.2.1, .int .i64 x.2.2], .pointer (some ⟨B, 0, none⟩)] w fun e w' => e = .returned (.bool (x.1 == id)) ∧ Below w.heap.size w w' := by
  have hb := (Below.refl _ w).alloc (Nat.le_refl _) (.cells #[.int .i64 x.1, .int .i64 x.2.1, .int .i64 x.2.2] 72)
  have hB1 := hB.alloc (.cells #[.int .i64 x.1, .int .i64 x.2.1, .int .i64 x.2.2] 72)
  have hX := Whole.new w #[.int .i64 x.1, .int .i64 x.2.1, .int .i64 x.2.2] 72
  have k1 : (w.alloc (.cells #[.int .i64 x.1, .int .i64 x.2.1, .int .i64 x.2.2] 72)).cell? ⟨B, 0, none⟩ = some (.int .i64 id) := hB1.cell 0
  have k2 : (w.alloc (.cells #[.int .i64 x.1, .int .i64 x.2.1, .int .i64 x.2.2] 72)).cell? ⟨w.heap.size, 0, none⟩ = some (.int .i64 x.1) := hX.cell 0
  go_enter Try.func48, Try.ntmps48
  clear hB hB1 hX
  go_wp2_with fail
  go_ret
  exact ⟨rfl, hb⟩

set_option maxRecDepth 100000 in
set_option maxHeartbeats 1000000 in
theorem indexf_any (base : Nat) (A : Option Addr) (c : Nat) (l : List T3) (B : Nat) (id : Int) (w : World) (h : TR w base 72 3 (.slice A l.length c) l.length (trow l)) (hB : Whole w B #[.int .i64 id] 3) (hl : l.length ≤ 1000) :
    Calls Try.prog 47 #[.slice A l.length c, .func (.func 48) #[] #[.pointer (some ⟨B, 0, none⟩)]] w fun e w' => e = .returned (.int .i64 (fndI (fnd id l))) ∧ Below w.heap.size w w' := by
  obtain ⟨n, hn⟩ : ∃ n, l.length = n := ⟨_, rfl⟩
  rw [hn] at h hl ⊢
  have HN := Lib.hid hn
  have HT := Lib.hid h
  have HB := Lib.hid hB
  clear hn h hB
  go_enter Try.func47, Try.ntmps47
  go_wp2_with fail
  go_loopw [8] (fun i wr => ∃ k : Nat, k ≤ n ∧ i = .int .i64 k ∧ Hid (∀ (j : Nat) (y : T3), j < k → l[j]? = some y → y.1 ≠ id) ∧ Below w.heap.size w wr) (fun i _ => n - (intOf i).toNat)
  case atStart => exact ⟨0, Nat.zero_le _, rfl, Lib.hid (fun j _ hj => absurd hj (Nat.not_lt_zero _)), Below.refl _ _⟩
  case round =>
    obtain ⟨k, hk, rfl, HK, hb⟩ := hrel
    by_cases hlt : k < n
    · obtain ⟨x, hx⟩ : ∃ x, l[k]? = some x := ⟨l[k]'(by rw [HN.out]; exact hlt), by simp⟩
      have hT := HT.out.below hb
      rcases hT.addr with ⟨_, h0, _⟩ | ⟨g, off, rfl⟩
      · omega
      obtain ⟨e1, e2, e3⟩ := hT.timerAt HN.out hx
      have hc := pos1_any x B id wr (HB.out.below hb HB.out.lt)
      have HC := Lib.hid hc
      have HX := Lib.hid hx
      have hbs := hb.size
      have hk1 : (0 : Int) ≤ (k : Int) := by omega
      have hk2 : (k : Int) < (n : Int) := by omega
      clear hT hx hc
      go_wp2_with fail
      refine HC.out.mono ?_
      rintro e w1 ⟨rfl, hb1⟩
      by_cases hid : x.1 = id
      · have hf := Lib.hid (fnd_at id l k x HX.out hid HK.out)
        have hde : (x.1 == id) = true := by simp [hid]
        rw [hde]
        clear hid hde e1 e2 e3
        go_wp2_with fail
        go_ret
        refine ⟨?_, hb.trans (hb1.mono hbs)⟩
        rw [hf.out]
        rfl
      · have hde : (x.1 == id) = false := by simp [hid]
        rw [hde]
        have HK' : Hid (∀ (j : Nat) (y : T3), j < k + 1 → l[j]? = some y → y.1 ≠ id) := Lib.hid (fun j y hj hy => by
          by_cases e : j = k
          · subst e
            rw [HX.out] at hy
            injection hy with hy
            rw [← hy]
            exact hid
          · exact HK.out j y (by omega) hy)
        clear hid hde e1 e2 e3 HK
        go_wp2_with fail
        go_roundw
        case rel => exact ⟨k + 1, by omega, by go_num, HK', hb.trans (hb1.mono hbs)⟩
        case measure => simp [intOf]; omega
    · have ek : n = k := by omega
      subst ek
      have hf := Lib.hid (fnd_none id l (fun j y hy => HK.out j y (by have := (List.getElem?_eq_some_iff.1 hy).1; have := HN.out; omega) hy))
      go_wp2_with fail
      go_ret
      refine ⟨?_, hb⟩
      rw [hf.out]
      rfl

set_option maxRecDepth 100000 in
set_option maxHeartbeats 1000000 in
theorem tpos_any (base Q : Nat) (v : Value) (l : List T3) (nx id : Int) (w : World) (h : TM base w Q v l nx) (hl : l.length ≤ 1000) :
    Calls Try.prog 40 #[.pointer (some ⟨Q, 0, none⟩), .int .i64 id] w fun e w' => e = .returned (.int .i64 (fndI (fnd id l))) ∧ Below w.heap.size w w' := by
  have hb1 := (Below.refl _ w).alloc (Nat.le_refl _) (.cells #[.int .i64 id] 3)
  have hI1 := Whole.new w #[.int .i64 id] 3
  have h1 := h.below hb1
  obtain ⟨w1, hw1⟩ : ∃ w1, w.alloc (.cells #[.int .i64 id] 3) = w1 := ⟨_, rfl⟩
  rw [hw1] at hb1 hI1 h1
  obtain ⟨A0, c0, rfl⟩ := h.row.form
  obtain ⟨k1, _, _, _⟩ := h1.cells
  have HI := Lib.hid hI1
  have H1 := Lib.hid h1
  clear h hI1 h1
  go_enter Try.func40, Try.ntmps40
  go_wp2_with fail
  refine (indexf_any base A0 c0 l w.heap.size id w1 H1.out.row HI.out hl).mono ?_
  rintro e w2 ⟨rfl, hb2⟩
  clear k1
  go_wp2_with fail
  go_ret
  exact ⟨rfl, hb1.trans (hb2.mono hb1.size)⟩

/-! slices.Delete of one timer. -/
theorem step_append_at {P : Program} {ops : Array Oper} {o : Oper} {a : Act} {w : World} {K : Act → World → Prop} {Q : Exit → Act → World → Prop} {E : Prop} (hg : o.guard = none) (d x : Operand) (dT sT : TypeId)
    (hop : o.op = Op.call { callee := Callee.builtin Builtin.append, args := #[d, x], argTypes := #[dT, sT] })
    (v u : Value) (hd : a.eval d = v) (hx : a.eval x = u) {v' : Value} {w' : World} (hr : (Builtin.append_ #[dT, sT] o.type #[v, u]).run P w = .ok v' w') (hK : K (a.put o.dst v') w') :
    if Region.wanted o (yielded ops a.tmps) = true then Oper.wp P o a w K Q else E := by
  have hw : Region.wanted o (yielded ops a.tmps) = true := by simp [Region.wanted, hg]
  rw [if_pos hw]
  unfold Oper.wp
  simp [execOp, hop, resolve, invoke, builtin, hd, hx, hr, Result.andThen]
  exact hK
theorem timerZero (w : World) : (zeroValue 72).run Try.prog w = .ok (.agg #[.int .i64 0, .int .i64 0, .int .i64 0]) w := by
  obtain ⟨i0, hi0, hz0, _, _⟩ := info_parts timerInfo
  simp [zeroValue, typeInfo, hi0, hz0]
theorem zeros3 : (Builtin.zeroCells (Value.agg #[.int .i64 0, .int .i64 0, .int .i64 0]).cells 1).toList = [.int .i64 0, .int .i64 0, .int .i64 0] := by
  simp [Builtin.zeroCells, Value.cells, List.range, List.range.loop]
set_option maxRecDepth 100000 in
set_option maxHeartbeats 2000000 in
theorem del_any (base : Nat) (v : Value) (l : List T3) (i : Nat) (w : World) (h : TR w base 72 3 v l.length (trow l)) (hi : i < l.length) (hl : l.length ≤ 1000) :
    Calls Try.prog 41 #[v, .int .i64 i, .int .i64 ((i : Int) + 1)] w fun e w' =>
      ∃ v', e = .returned v' ∧ TR w' base 72 3 v' (l.length - 1) (trow (l.take i ++ l.drop (i + 1))) ∧ w.grownBy w' v.ownBlock ∧ v'.ownBlock = v.ownBlock := by
  rcases h.2 with ⟨_, h0⟩ | ⟨g, off, c, cur, rfl, hbg, hg, hnc, hcm, hcs, hcur⟩
  · omega
  obtain ⟨i0, hi0, hz0, hzs, hzb⟩ := info_parts timerInfo
  obtain ⟨n, hn⟩ : ∃ n, l.length = n := ⟨_, rfl⟩
  rw [hn] at hi hl hnc hcur ⊢
  have hl1 : (trow (l.drop (i + 1))).length = (n - (i + 1)) * 3 := by rw [trow_len, List.length_drop, hn]
  have hl0 : (trow (l.take i)).length = i * 3 := by rw [trow_len, List.length_take, hn]; omega
  obtain ⟨R1, hR1⟩ : ∃ R1, over cur.toList (off + i * 3) (trow (l.drop (i + 1))) = R1 := ⟨_, rfl⟩
  have hf1 : off + i * 3 + (trow (l.drop (i + 1))).length ≤ cur.toList.length := by rw [hl1, Array.length_toList]; omega
  have hs1 : R1.length = cur.size := by rw [← hR1, over_len hf1, Array.length_toList]
  obtain ⟨R2, hR2⟩ : ∃ R2, over R1 (off + (n - 1) * 3) [.int .i64 0, .int .i64 0, .int .i64 0] = R2 := ⟨_, rfl⟩
  have hf2 : off + (n - 1) * 3 + [(Value.int .i64 0), .int .i64 0, .int .i64 0].length ≤ R1.length := by rw [hs1, show [(Value.int .i64 0), .int .i64 0, .int .i64 0].length = 3 from rfl]; omega
  have hs2 : R2.length = cur.size := by rw [← hR2, over_len hf2, hs1]
  have happ : ∀ (a : Addr) ty sc, (a = ⟨g, off + (i + 1) * 3, none⟩ ∨ n - (i + 1) = 0) → (Builtin.append_ #[53, 53] ty #[.slice (some ⟨g, off, none⟩) i c, .slice (some a) (n - (i + 1)) sc]).run Try.prog w.drew = .ok (.slice (some ⟨g, off, none⟩) (i + (n - (i + 1))) c) (w.drew.setRow g R1.toArray) := fun a ty sc ha => by
    have hr := run_append_room_off (P := Try.prog) (w := w.drew) 53 ty 72 i0 Try.underlying53 hi0 g off i c cur hg a (n - (i + 1)) sc (trow (l.drop (i + 1))) (by rw [hl1, hzs]) (fun j u hu => by
      have hj := (List.getElem?_eq_some_iff.1 hu).1
      rw [hl1] at hj
      rcases ha with rfl | h0
      · rw [Addr.add_lit, cell_of_row w.drew g _ cur _ (0, 0) hg, show off + (i + 1) * 3 + j = off + ((i + 1) * 3 + j) by omega, hcur _ (by omega), ← List.getElem?_drop, trow_drop]
        exact hu
      · rw [h0] at hj; omega) (trow_one _) (by omega) (by rw [hzs, hl1]; omega)
    rw [hr, ← hR1, hzs]
    rfl
  have hW1 : (w.drew.setRow g R1.toArray).heap[g]? = some (.cells R1.toArray 72 (0, 0)) := setRow_heap w.drew g cur _ _ _ hg
  have hclr : ∀ ty sc, (Builtin.clear_ #[53] ty #[.slice (some ⟨g, off + (n - 1) * 3, none⟩) 1 sc]).run Try.prog (w.drew.setRow g R1.toArray) = .ok (.tuple #[]) ((w.drew.setRow g R1.toArray).setRow g R2.toArray) := fun ty sc => by
    rw [← hR2]
    exact run_clear_off 53 ty 72 _ Try.underlying53 timerZero g _ 1 sc R1.toArray _ hW1 (by omega) _ zeros3 (by simpa using hf2) (by intro u hu; simp at hu; subst hu; rfl)
  have hW2 : ((w.drew.setRow g R1.toArray).setRow g R2.toArray).heap[g]? = some (.cells R2.toArray 72 (0, 0)) := setRow_heap _ g _ _ _ _ hW1
  have hgb : w.grownBy ((w.drew.setRow g R1.toArray).setRow g R2.toArray) (some g) := ⟨rfl, rfl, rfl, by simp, fun k _ hk => (setRow_other _ g k _ (fun e => hk (by simp [e]))).trans (setRow_other w.drew g k _ (fun e => hk (by simp [e])))⟩
  have hfin : TR ((w.drew.setRow g R1.toArray).setRow g R2.toArray) base 72 3 (.slice (some ⟨g, off, none⟩) (n - 1) c) (n - 1) (trow (l.take i ++ l.drop (i + 1))) := by
    refine ⟨?_, .inr ⟨g, off, c, R2.toArray, rfl, hbg, hW2, by omega, hcm, by rw [List.size_toArray, hs2]; exact hcs, fun j hj => ?_⟩⟩
    · rw [trow_len, List.length_append, List.length_take, List.length_drop, hn]
      omega
    · rw [List.getElem?_toArray, ← hR2, over_get hf2, show [(Value.int .i64 0), .int .i64 0, .int .i64 0].length = 3 from rfl, if_neg (by omega), ← hR1, over_get hf1, hl1, trow_append]
      by_cases h1 : j < i * 3
      · rw [if_neg (by omega), List.getElem?_append_left (by omega), ← trow_take, List.getElem?_take, if_pos h1, ← hcur j (by omega)]
        simp
      · rw [if_pos (by omega), List.getElem?_append_right (by omega), hl0]
        congr 1
        omega
  have hnn : i + (n - (i + 1)) = n - 1 := by omega
  rw [hnn] at happ
  have HF := Lib.hid hfin
  have HG := Lib.hid hgb
  have hw1 : IntKind.i64.wrap ((i : Int) + 1) = (i : Int) + 1 := by rw [IntKind.wrap_i64]; omega
  have hb1 : (0 : Int) ≤ (i : Int) + 1 := by omega
  have hb2 : (i : Int) + 1 ≤ (n : Int) := by omega
  have hb3 : (i : Int) ≤ (i : Int) + 1 := by omega
  have hb4 : (n : Int) ≤ (c : Int) := by omega
  have hb5 : (i : Int) ≤ (c : Int) := by omega
  have hb6 : ((n - 1 : Nat) : Int) ≤ (n : Int) := by omega
  have hb7 : ¬ ((i : Int) = (i : Int) + 1) := by omega
  have ht1 : ((i : Int) + 1).toNat = i + 1 := by omega
  have hcn : ¬ (c = n - 1) := by omega
  have hni : n - (n - 1) = 1 := by omega
  have HA := Lib.hid happ
  have HC := Lib.hid hclr
  clear happ hclr hfin hgb hW1 hW2 hR1 hR2 hf1 hf2 hs1 hs2 hl0 hl1 hg hcur h hnn hz0 hi0
  by_cases hc1 : c = i + 1
  · have hn1 : n = i + 1 := by omega
    subst hn1
    have h1 := HA.out ⟨g, off, none⟩
    have e0 : i + 1 - (i + 1) = 0 := Nat.sub_self _
    have e1 : i + 1 - 1 = i := Nat.add_sub_cancel _ _
    rw [e0] at h1
    rw [e1] at h1 HC HF hni ⊢
    have H1 := Lib.hid fun ty sc => h1 ty sc (.inr rfl)
    have hni' : i + 1 - i = 1 := by omega
    subst hc1
    clear h1 HA e0 e1 hb6 hni
    have hb6 : (i : Int) ≤ (i : Int) + 1 := by omega
    go_enter Try.func41, Try.ntmps41
    go_wp2_with fail
    go_region_law (refine step_append_at rfl _ _ 53 53 rfl (.slice (some ⟨g, off, none⟩) i (i + 1)) (.slice (some ⟨g, off, none⟩) 0 0) (by simp [Act.eval, Act.put]) (by simp [Act.eval, Act.put]) (H1.out _ _) ?_)
    have hcl := fun ty => HC.out ty 1
    clear H1 HC
    go_wp2_with fail
    go_ret
    exact ⟨_, rfl, HF.out, HG.out, rfl⟩
  · have h1 := fun ty sc => HA.out ⟨g, off + (i + 1) * 3, none⟩ ty sc (.inl rfl)
    have H1 := Lib.hid h1
    clear h1 HA
    go_enter Try.func41, Try.ntmps41
    go_wp2_with fail
    go_region_law (refine step_append_at rfl _ _ 53 53 rfl (.slice (some ⟨g, off, none⟩) i c) (.slice (some ⟨g, off + (i + 1) * 3, none⟩) (n - (i + 1)) (c - (i + 1))) (by simp [Act.eval, Act.put]) (by simp [Act.eval, Act.put]) (H1.out _ _) ?_)
    have hcl := fun ty => HC.out ty (c - (n - 1))
    clear H1 HC
    go_wp2_with fail
    go_ret
    exact ⟨_, rfl, HF.out, HG.out, rfl⟩
end Go.Proofs.Ytomffkdfgfenpaa
