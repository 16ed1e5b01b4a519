/- slices.Insert of one timer. -/
import Derived.Test.YtomffkdfgfenpaaProg
import Derived.Test.YtomffkdfgfenpaaQSli
import Derived.StillTailTactics
import Derived.Deep.DeepCutAuto
import Derived.Lib.Overlaps
namespace Go.Proofs.Ytomffkdfgfenpaa
open Go.RowKit

theorem timerInfo : (Try.prog.info? 72).map (fun i => (i.zero, i.size, i.bytes)) = some (some (.agg #[.int .i64 0, .int .i64 0, .int .i64 0]), 3, 24) := by kernel_rfl

set_option maxRecDepth 100000 in
set_option maxHeartbeats 1000000 in
theorem insert_end (base : Nat) (A : Option Addr) (c : Nat) (l : List T3) (x : T3) (vb : Nat) (w : World) (h : TR w base 72 3 (.slice A l.length c) l.length (trow l))
    (hx : Whole w vb (tcells x).toArray 72) (hb : base ≤ w.heap.size) (hl : l.length ≤ 1000) :
    Calls Try.prog 46 #[.slice A l.length c, .int .i64 l.length, .slice (some ⟨vb, 0, none⟩) 1 1] w fun e w' =>
      ∃ v', e = .returned v' ∧ TR w' base 72 3 v' (l.length + 1) (trow (l ++ [x])) ∧ w.grownBy w' (Value.slice A l.length c).ownBlock ∧ Fresh w (.slice A l.length c) v' := by
  obtain ⟨i0, hi0, hz0, hz1, hz2⟩ := info_parts timerInfo
  have hsrc : ((.slice (some ⟨vb, 0, none⟩) 1 1 : Value) = .slice none 0 0 ∧ 1 = 0) ∨ ∃ a c, (.slice (some ⟨vb, 0, none⟩) 1 1 : Value) = .slice (some a) 1 c ∧ ∀ j u, (tcells x)[j]? = some u → w.cell? (a.add j) = some u :=
    .inr ⟨_, _, rfl, fun j u hu => by rw [Addr.add_lit, Nat.zero_add, hx.cell j, List.getElem?_toArray]; exact hu⟩
  have hone : ∀ u ∈ tcells x, u.oneCell' = true := by
    intro u hu
    simp [tcells] at hu
    rcases hu with rfl | rfl | rfl <;> rfl
  have hcn : l.length ≤ c := by
    rcases h.2 with ⟨hv, hn⟩ | ⟨g, off, cap, cur, hv, _, _, hn, _⟩
    · omega
    · injection hv with _ _ h3
      omega
  have happ : trow l ++ tcells x = trow (l ++ [x]) := by rw [trow_append]; simp [trow]
  have HAPP := Lib.hid happ
  obtain ⟨xs, hxs⟩ : ∃ xs, trow l = xs := ⟨_, rfl⟩
  have HXS := Lib.hid hxs
  rw [hxs] at h
  obtain ⟨n, hn⟩ : ∃ n, l.length = n := ⟨_, rfl⟩
  have HN := Lib.hid hn
  rw [hn] at h hl hcn ⊢
  clear hx happ hxs hn
  by_cases hc : c = n
  case' pos => rw [hc] at h hcn ⊢; clear hc
  all_goals
    go_enter Try.func46, Try.ntmps46
    go_wp2_with (at_builtin; refine wpList_append_tail rfl _ _ 53 rfl base 72 i0 _ 3 24 Try.underlying53 hi0 hz0 hz1 hz2 rfl (by decide) _ n xs rfl h _ 1 (tcells x) rfl rfl hsrc hone ?c4 ?c5 hb ?_)
    case c4 => unfold maxLen; omega
    case c5 => omega
    intro v2 w2 o2 g2 f2
    obtain ⟨A2, c2, rfl⟩ := o2.form
    have HO := Lib.hid o2
    have HG := Lib.hid g2
    have HF := Lib.hid f2
    clear o2 g2 f2
    go_wp2_with fail
    go_ret
    refine ⟨_, rfl, ?_, HG.out, HF.out⟩
    rw [← HAPP.out, HXS.out]
    exact HO.out

theorem t_one (x : T3) : ∀ u ∈ tcells x, u.oneCell' = true := by
  intro u hu
  simp [tcells] at hu
  rcases hu with rfl | rfl | rfl <;> rfl
theorem timerSize : (Try.prog.info? 72).map (·.size) = some 3 := by kernel_rfl
theorem timerSizeOf (w : World) : (Go.sizeOf 72).run Try.prog w = .ok 3 w := by
  obtain ⟨i0, hi0, _, hz1, _⟩ := info_parts timerInfo
  simp [Go.sizeOf, typeInfo, hi0, hz1]

set_option maxRecDepth 100000 in
set_option maxHeartbeats 2000000 in
theorem insert_room (base g off n c i : Nat) (cur : Array Value) (l : List T3) (x : T3) (vb : Nat) (w : World) (hg : w.heap[g]? = some (.cells cur 72 (0, 0))) (hfit : off + c * 3 ≤ cur.size) (hcur : ∀ j, j < n * 3 → cur[off + j]? = (trow l)[j]?)
    (hn : l.length = n) (hi : i < n) (hroom : n + 1 ≤ c) (hcm : c ≤ maxLen) (hbg : base ≤ g) (hne : vb ≠ g)
    (hx : Whole w vb (tcells x).toArray 72) (hl : n ≤ 1000) :
    Calls Try.prog 46 #[.slice (some ⟨g, off, none⟩) n c, .int .i64 i, .slice (some ⟨vb, 0, none⟩) 1 1] w fun e w' =>
      e = .returned (.slice (some ⟨g, off, none⟩) (n + 1) c) ∧ TR w' base 72 3 (.slice (some ⟨g, off, none⟩) (n + 1) c) (n + 1) (trow (l.take i ++ x :: l.drop i)) ∧ w.grownBy w' (some g) := by
  have hl1 : (trow (l.drop i)).length = (n - i) * 3 := by rw [trow_len, List.length_drop, hn]
  have hl2 : (tcells x).length = 1 * 3 := rfl
  obtain ⟨R1, hR1⟩ : ∃ R1, over cur.toList (off + (i + 1) * 3) (trow (l.drop i)) = R1 := ⟨_, rfl⟩
  obtain ⟨R2, hR2⟩ : ∃ R2, over R1 (off + i * 3) (tcells x) = R2 := ⟨_, rfl⟩
  have hf1 : off + (i + 1) * 3 + (trow (l.drop i)).length ≤ cur.toList.length := by rw [hl1, Array.length_toList]; omega
  have hs1 : R1.length = cur.size := by rw [← hR1, over_len hf1, Array.length_toList]
  have hf2 : off + i * 3 + (tcells x).length ≤ R1.length := by rw [hl2, hs1]; omega
  have hs2 : R2.length = cur.size := by rw [← hR2, over_len hf2, hs1]
  have hcp1 : ∀ (W : World), W.heap[g]? = some (.cells cur 72 (0, 0)) → ∀ ty dl dc sl sc, Nat.min sl dl = n - i → (Builtin.copy_ #[53, 53] ty #[.slice (some ⟨g, off + (i + 1) * 3, none⟩) dl dc, .slice (some ⟨g, off + i * 3, none⟩) sl sc]).run Try.prog W = .ok (goInt (n - i : Nat)) (W.setRow g R1.toArray) := fun W hW ty dl dc sl sc hmin => by
    rw [← hR1]
    exact run_copy_off _ _ ty 72 3 g _ _ dc _ _ sc cur _ _ Try.underlying53 timerSize hW (n - i) hmin hl1 (fun j v hj => by
      have hjl := (List.getElem?_eq_some_iff.1 hj).1
      rw [hl1] at hjl
      rw [Addr.add_lit, cell_of_row W g _ cur _ (0, 0) hW, show off + i * 3 + j = off + (i * 3 + j) by omega, hcur _ (by omega), ← List.getElem?_drop, trow_drop]
      exact hj) (by rw [Array.length_toList] at hf1; exact hf1) (trow_one _)
  have hcp2 : ∀ (W : World), W.heap[g]? = some (.cells R1.toArray 72 (0, 0)) → Whole W vb (tcells x).toArray 72 → ∀ ty dl dc, 1 ≤ dl → (Builtin.copy_ #[53, 53] ty #[.slice (some ⟨g, off + i * 3, none⟩) dl dc, .slice (some ⟨vb, 0, none⟩) 1 1]).run Try.prog W = .ok (goInt (1 : Nat)) (W.setRow g R2.toArray) := fun W hW hX ty dl dc hdl => by
    rw [← hR2]
    exact run_copy_off _ _ ty 72 3 g _ _ dc _ _ 1 R1.toArray _ _ Try.underlying53 timerSize hW 1 (by simp only [Nat.min_def]; split <;> omega) hl2 (fun j v hj => by
      rw [Addr.add_lit, Nat.zero_add, hX.cell j, List.getElem?_toArray]; exact hj) (by simpa using hf2) (t_one x)
  have hshA : w.shape? vb = some (72, 3) := by
    have hx' : w.heap[vb]? = some (.cells (tcells x).toArray 72 (0, 0)) := hx
    simp [World.shape?, hx', tcells]
  have hshB : w.shape? g = some (72, cur.size) := by simp [World.shape?, hg]
  have hov : ∀ lb cb, (callFunc 49 #[.slice (some ⟨vb, 0, none⟩) 1 1, .slice (some ⟨g, off + (i + 1) * 3, none⟩) lb cb]).run Try.prog w = .ok (.value (.bool false)) w := fun lb cb => by
    rw [run_callFunc_extern Try.func49 (by kernel_rfl) (by kernel_rfl) (by kernel_rfl) (e := Extern.SlicesOverlaps.overlaps #[53, 53] #[4]) (by kernel_rfl),
      Lib.run_overlaps_apart w 53 4 72 Try.underlying53 3 timerSizeOf ⟨vb, 0, none⟩ ⟨g, off + (i + 1) * 3, none⟩ 1 1 lb cb hne 72 72 3 cur.size hshA hshB (by omega) (hx.free 0) (hx.free 3)]
    rfl
  have hw1 : IntKind.i64.wrap ((i : Int) + 1) = (i : Int) + 1 := by rw [IntKind.wrap_i64]; omega
  have hw2 : IntKind.i64.wrap ((n : Int) + 1) = (n : Int) + 1 := by rw [IntKind.wrap_i64]; omega
  have hz2 : ¬ ((i : Int) = (n : Int)) := by omega
  have hz3 : ¬ ((c : Int) < (n : Int) + 1) := by omega
  have hb1 : (0 : Int) ≤ (i : Int) + 1 := by omega
  have hb2 : (i : Int) + 1 ≤ (n : Int) + 1 := by omega
  have hb3 : (0 : Int) ≤ (n : Int) + 1 := by omega
  have hb4 : (n : Int) + 1 ≤ (c : Int) := by omega
  have hb5 : (i : Int) ≤ (n : Int) + 1 := by omega
  have hb6 : (i : Int) ≤ (n : Int) := by omega
  have ht1 : ((i : Int) + 1).toNat = i + 1 := by omega
  have ht2 : ((n : Int) + 1).toNat = n + 1 := by omega
  have hci : ¬ (c = i) := by omega
  have hci1 : ¬ (c = i + 1) := by omega
  go_enter Try.func46, Try.ntmps46
  go_wp2_with fail
  have hW1 : (w.drew.setRow g R1.toArray).heap[g]? = some (.cells R1.toArray 72 (0, 0)) := setRow_heap w.drew g cur R1.toArray _ _ hg
  have hX1 : Whole (w.drew.setRow g R1.toArray) vb (tcells x).toArray 72 := (setRow_other w.drew g vb R1.toArray hne).trans hx
  have hW2 : ((w.drew.setRow g R1.toArray).setRow g R2.toArray).heap[g]? = some (.cells R2.toArray 72 (0, 0)) := setRow_heap _ g _ R2.toArray _ _ hW1
  have hgb : w.grownBy ((w.drew.setRow g R1.toArray).setRow g R2.toArray) (some g) := ⟨rfl, rfl, rfl, by simp, fun k _ hk => (setRow_other _ g k _ (fun e => hk (by simp [e]))).trans (setRow_other w.drew g k _ (fun e => hk (by simp [e])))⟩
  have hfin : TR ((w.drew.setRow g R1.toArray).setRow g R2.toArray) base 72 3 (.slice (some ⟨g, off, none⟩) (n + 1) c) (n + 1) (trow (l.take i ++ x :: l.drop i)) := by
    refine ⟨?_, .inr ⟨g, off, c, R2.toArray, rfl, hbg, hW2, hroom, hcm, by rw [List.size_toArray, hs2]; exact hfit, fun j hj => ?_⟩⟩
    · rw [trow_len, List.length_append, List.length_cons, List.length_take, List.length_drop, hn]
      omega
    · rw [List.getElem?_toArray, ← hR2, over_get hf2, ← hR1, over_get hf1, hl1, hl2, trow_append, trow]
      have htk : (trow (l.take i)).length = i * 3 := by rw [trow_len, List.length_take, hn]; omega
      by_cases h1 : j < i * 3
      · rw [if_neg (by omega), if_neg (by omega), List.getElem?_append_left (by omega), ← trow_take, List.getElem?_take, if_pos h1, ← hcur j (by omega)]
        simp
      · rw [List.getElem?_append_right (by omega), htk]
        by_cases h2 : j < i * 3 + 3
        · rw [if_pos (by omega), List.getElem?_append_left (by rw [hl2]; omega)]
          congr 1
          omega
        · rw [if_neg (by omega), if_pos (by omega), List.getElem?_append_right (by rw [hl2]; omega), hl2]
          congr 1
          omega
  have hc1 := fun ty dl dc sl sc => hcp1 w.drew hg ty dl dc sl sc
  have hc2 := fun ty => hcp2 _ hW1 hX1 ty (n + 1 - i) (c - i) (by omega)
  have HF := Lib.hid hfin
  have HG := Lib.hid hgb
  clear hfin hgb hW1 hX1 hW2 hcp1 hcp2 hov hR1 hR2 hf1 hf2 hs1 hs2 hl1 hl2 hg hcur hx hshA hshB
  go_region_law (refine step_copy_at rfl _ _ 53 53 rfl (.slice (some ⟨g, off + (i + 1) * 3, none⟩) (n - i) (c - (i + 1))) (.slice (some ⟨g, off + i * 3, none⟩) (n + 1 - i) (c - i)) (by simp [Act.eval, Act.put]) (by simp [Act.eval, Act.put]) (hc1 _ _ _ _ _ (by simp only [Nat.min_def]; split <;> omega)) ?_)
  go_wp2_with fail
  go_ret
  exact ⟨rfl, HF.out, HG.out⟩

theorem zc_size (z : Array Value) (n : Nat) : (Builtin.zeroCells z n).size = n * z.size := by simp [Builtin.zeroCells]
set_option maxRecDepth 100000 in
set_option maxHeartbeats 2000000 in
theorem insert_grow (base g off n c i : Nat) (cur : Array Value) (l : List T3) (x : T3) (vb : Nat) (w : World) (hg : w.heap[g]? = some (.cells cur 72 (0, 0))) (hcur : ∀ j, j < n * 3 → cur[off + j]? = (trow l)[j]?)
    (hn : l.length = n) (hi : i < n) (hnc : n ≤ c) (hroom : c < n + 1) (hb : base ≤ w.heap.size)
    (hx : Whole w vb (tcells x).toArray 72) (hl : n ≤ 1000) :
    Calls Try.prog 46 #[.slice (some ⟨g, off, none⟩) n c, .int .i64 i, .slice (some ⟨vb, 0, none⟩) 1 1] w fun e w' =>
      ∃ v', e = .returned v' ∧ TR w' base 72 3 v' (n + 1) (trow (l.take i ++ x :: l.drop i)) ∧ Below w.heap.size w w' ∧ v'.ownBlock = some w.heap.size := by
  obtain ⟨i0, hi0, hz0, hzs, hzb⟩ := info_parts timerInfo
  have hgl : g < w.heap.size := (Array.getElem?_eq_some_iff.1 hg).1
  have hvl : vb < w.heap.size := hx.lt
  have hl0 : (trow (l.take i)).length = i * 3 := by rw [trow_len, List.length_take, hn]; omega
  have hl1 : (trow (l.drop i)).length = (n - i) * 3 := by rw [trow_len, List.length_drop, hn]
  have hl2 : (tcells x).length = 1 * 3 := rfl
  have hold : (Builtin.firstCells i0.size i (.slice (some ⟨g, off, none⟩) i c)).run Try.prog w.drew = .ok (trow (l.take i)).toArray w.drew := by
    rw [hzs]
    exact run_firstCells_some w.drew 3 i ⟨g, off, none⟩ i c (trow (l.take i)) hl0 (fun j v hj => by
      have hjl := (List.getElem?_eq_some_iff.1 hj).1
      rw [hl0] at hjl
      rw [Addr.add_lit, cell_of_row w.drew g _ cur _ (0, 0) hg, hcur _ (by omega)]
      rw [← trow_take, List.getElem?_take, if_pos (by omega)] at hj
      exact hj)
  have hkk : (n : Int) + 1 - (i : Int) = ((n + 1 - i : Nat) : Int) := by omega
  have hik : i + (n + 1 - i) = n + 1 := by omega
  have hrz : ∀ ty, (Builtin.append_ #[53, 3] ty #[.slice (some ⟨g, off, none⟩) i c, .int .i64 ((n : Int) + 1 - (i : Int))]).run Try.prog w =
      .ok (.slice (some ⟨w.heap.size, 0, none⟩) (n + 1) (grownCap w (n + 1) c 72)) (w.drew.alloc (.cells ((trow (l.take i)).toArray ++ Builtin.zeroCells (Value.agg #[.int .i64 0, .int .i64 0, .int .i64 0]).cells (n + 1 - i) ++ Builtin.zeroCells (Value.agg #[.int .i64 0, .int .i64 0, .int .i64 0]).cells (grownCap w (n + 1) c 72 - (n + 1))) 72)) := fun ty => by
    have h := Lib.run_append_grow_zeros w 53 3 ty 72 i0 _ .i64 .i64 Try.underlying53 Try.underlying3 hi0 hz0 (some ⟨g, off, none⟩) i c (trow (l.take i)) hold (n + 1 - i) (by omega) (by omega) (by omega) (by omega) (by rw [hzb]; omega) (by rw [hzb, hik]; exact growslice_fits hroom (by omega))
    rw [hik] at h
    rw [hkk]
    exact h
  have hGn : n + 1 ≤ grownCap w (n + 1) c 72 := grownCap_ge w _ _ _
  have hG63 : grownCap w (n + 1) c 72 ≤ maxLen := grownCap_le_maxLen w (n + 1) c 72 (by unfold maxLen; omega)
  obtain ⟨G, hG⟩ : ∃ G, G = grownCap w (n + 1) c 72 := ⟨_, rfl⟩
  rw [← hG] at hrz hGn hG63
  obtain ⟨ROW, hROW⟩ : ∃ ROW : Array Value, ROW = (trow (l.take i)).toArray ++ Builtin.zeroCells (Value.agg #[.int .i64 0, .int .i64 0, .int .i64 0]).cells (n + 1 - i) ++ Builtin.zeroCells (Value.agg #[.int .i64 0, .int .i64 0, .int .i64 0]).cells (G - (n + 1)) := ⟨_, rfl⟩
  rw [← hROW] at hrz
  have hRl : ROW.size = G * 3 := by
    rw [hROW, Array.size_append, Array.size_append, zc_size, zc_size, List.size_toArray, hl0, show (Value.agg #[.int .i64 0, .int .i64 0, .int .i64 0]).cells.size = 3 from rfl]
    omega
  have hR0 : ∀ j, j < i * 3 → ROW[j]? = (trow (l.take i))[j]? := fun j hj => by
    rw [hROW, Array.getElem?_append_left (by simp [zc_size, hl0]; omega), Array.getElem?_append_left (by rw [List.size_toArray]; omega), List.getElem?_toArray]
  obtain ⟨R1, hR1⟩ : ∃ R1, over ROW.toList (i * 3) (tcells x) = R1 := ⟨_, rfl⟩
  obtain ⟨R2, hR2⟩ : ∃ R2, over R1 ((i + 1) * 3) (trow (l.drop i)) = R2 := ⟨_, rfl⟩
  have hf1 : i * 3 + (tcells x).length ≤ ROW.toList.length := by rw [hl2, Array.length_toList, hRl]; omega
  have hs1 : R1.length = G * 3 := by rw [← hR1, over_len hf1, Array.length_toList, hRl]
  have hf2 : (i + 1) * 3 + (trow (l.drop i)).length ≤ R1.length := by rw [hl1, hs1]; omega
  have hs2 : R2.length = G * 3 := by rw [← hR2, over_len hf2, hs1]
  obtain ⟨W1, hW1⟩ : ∃ W1, W1 = w.drew.alloc (.cells ROW 72) := ⟨_, rfl⟩
  have hN1 : W1.heap[w.heap.size]? = some (.cells ROW 72 (0, 0)) := by rw [hW1]; exact heap_alloc_new w.drew _
  have hO1 : ∀ k, k < w.heap.size → W1.heap[k]? = w.heap[k]? := fun k hk => by rw [hW1]; exact heap_alloc_old w.drew _ hk
  have hcpA : ∀ ty dl dc, 1 ≤ dl → (Builtin.copy_ #[53, 53] ty #[.slice (some ⟨w.heap.size, i * 3, none⟩) dl dc, .slice (some ⟨vb, 0, none⟩) 1 1]).run Try.prog W1 = .ok (goInt (1 : Nat)) (W1.setRow w.heap.size R1.toArray) := fun ty dl dc hdl => by
    rw [← hR1]
    exact run_copy_off _ _ ty 72 3 _ _ _ dc _ _ 1 ROW _ _ Try.underlying53 timerSize hN1 1 (by simp only [Nat.min_def]; split <;> omega) hl2 (fun j v hj => by
      have hX : Whole W1 vb (tcells x).toArray 72 := (hO1 vb hvl).trans hx
      rw [Addr.add_lit, Nat.zero_add, hX.cell j, List.getElem?_toArray]; exact hj) (by simpa using hf1) (t_one x)
  have hN2 : (W1.setRow w.heap.size R1.toArray).heap[w.heap.size]? = some (.cells R1.toArray 72 (0, 0)) := setRow_heap W1 _ _ _ _ _ hN1
  have hO2 : ∀ k, k < w.heap.size → (W1.setRow w.heap.size R1.toArray).heap[k]? = w.heap[k]? := fun k hk => (setRow_other W1 _ k _ (by omega)).trans (hO1 k hk)
  have hcpB : ∀ ty dl dc sl sc, Nat.min sl dl = n - i → (Builtin.copy_ #[53, 53] ty #[.slice (some ⟨w.heap.size, (i + 1) * 3, none⟩) dl dc, .slice (some ⟨g, off + i * 3, none⟩) sl sc]).run Try.prog (W1.setRow w.heap.size R1.toArray).drew = .ok (goInt (n - i : Nat)) ((W1.setRow w.heap.size R1.toArray).drew.setRow w.heap.size R2.toArray) := fun ty dl dc sl sc hmin => by
    rw [← hR2]
    have h := run_copy_off (P := Try.prog) (W := (W1.setRow w.heap.size R1.toArray).drew) 53 53 ty 72 3 w.heap.size ((i + 1) * 3) dl dc ⟨g, off + i * 3, none⟩ sl sc R1.toArray _ (trow (l.drop i)) Try.underlying53 timerSize hN2 (n - i) hmin hl1 (fun j v hj => by
      have hjl := (List.getElem?_eq_some_iff.1 hj).1
      rw [hl1] at hjl
      rw [Addr.add_lit, cell_of_row (W1.setRow w.heap.size R1.toArray).drew g _ cur _ (0, 0) (show (W1.setRow w.heap.size R1.toArray).drew.heap[g]? = _ from (hO2 g hgl).trans hg), show off + i * 3 + j = off + (i * 3 + j) by omega, hcur _ (by omega), ← List.getElem?_drop, trow_drop]
      exact hj) (by simpa using hf2) (trow_one _)
    exact h
  have hN3 : ((W1.setRow w.heap.size R1.toArray).drew.setRow w.heap.size R2.toArray).heap[w.heap.size]? = some (.cells R2.toArray 72 (0, 0)) := setRow_heap _ _ _ _ _ _ hN2
  have hsz1 : w.heap.size ≤ W1.heap.size := by rw [hW1]; simp
  have hfb : Below w.heap.size w ((W1.setRow w.heap.size R1.toArray).drew.setRow w.heap.size R2.toArray) := ⟨by rw [hW1]; rfl, by rw [hW1]; rfl, by rw [hW1]; rfl, by simpa using hsz1, fun k hk => (setRow_other _ _ k _ (by omega)).trans (hO2 k hk)⟩
  have hfin : TR ((W1.setRow w.heap.size R1.toArray).drew.setRow w.heap.size R2.toArray) base 72 3 (.slice (some ⟨w.heap.size, 0, none⟩) (n + 1) G) (n + 1) (trow (l.take i ++ x :: l.drop i)) := by
    refine ⟨?_, .inr ⟨w.heap.size, 0, G, R2.toArray, rfl, hb, hN3, hGn, hG63, by rw [List.size_toArray, hs2]; omega, fun j hj => ?_⟩⟩
    · rw [trow_len, List.length_append, List.length_cons, List.length_take, List.length_drop, hn]
      omega
    · rw [Nat.zero_add, List.getElem?_toArray, ← hR2, over_get hf2, ← hR1, over_get hf1, hl1, hl2, trow_append, trow]
      by_cases h1 : j < i * 3
      · rw [if_neg (by omega), if_neg (by omega), List.getElem?_append_left (by omega), ← hR0 j h1]
        simp
      · rw [List.getElem?_append_right (by omega), hl0]
        by_cases h2 : j < i * 3 + 3
        · rw [if_neg (by omega), if_pos (by omega), List.getElem?_append_left (by rw [hl2]; omega)]
        · rw [if_pos (by omega), List.getElem?_append_right (by rw [hl2]; omega), hl2]
          congr 1
          omega
  have HF := Lib.hid hfin
  have HB := Lib.hid hfb
  have hw1 : IntKind.i64.wrap ((i : Int) + 1) = (i : Int) + 1 := by rw [IntKind.wrap_i64]; omega
  have hw2 : IntKind.i64.wrap ((n : Int) + 1) = (n : Int) + 1 := by rw [IntKind.wrap_i64]; omega
  have hw3 : IntKind.i64.wrap ((n : Int) + 1 - (i : Int)) = (n : Int) + 1 - (i : Int) := by rw [IntKind.wrap_i64]; omega
  have hz2 : ¬ ((i : Int) = (n : Int)) := by omega
  have hz3 : (c : Int) < (n : Int) + 1 := by omega
  have hb1 : (0 : Int) ≤ (i : Int) + 1 := by omega
  have hb2 : (i : Int) + 1 ≤ (n : Int) + 1 := by omega
  have hb5 : (i : Int) ≤ (n : Int) + 1 := by omega
  have hb6 : (i : Int) ≤ (n : Int) := by omega
  have hb7 : (i : Int) ≤ (c : Int) := by omega
  have ht1 : ((i : Int) + 1).toNat = i + 1 := by omega
  have hci : ¬ (c = i) := by omega
  have hGi : ¬ (G = i) := by omega
  have hGi1 : ¬ (G = i + 1) := by omega
  have hrz' := hrz
  rw [← hW1] at hrz'
  have hcA := fun ty dc => hcpA ty (n + 1 - i) dc (by omega)
  have hcB := hcpB
  clear hfin hfb hW1 hN1 hO1 hN2 hO2 hN3 hR1 hR2 hf1 hf2 hs1 hs2 hl0 hl1 hl2 hg hcur hx hRl hR0 hROW hG hold hkk hik hrz hcpA hcpB hsz1 hG63
  go_enter Try.func46, Try.ntmps46
  go_wp2_with (at_builtin; refine Lib.wpList_append_run _ rfl _ _ _ _ rfl _ _ rfl rfl _ _ (hrz' _) ?_)
  go_region_law (refine step_copy_at rfl _ _ 53 53 rfl (.slice (some ⟨w.heap.size, (i + 1) * 3, none⟩) (n - i) (G - (i + 1))) (.slice (some ⟨g, off + i * 3, none⟩) (n - i) (c - i)) (by simp [Act.eval, Act.put]) (by simp [Act.eval, Act.put]) (hcB _ _ _ _ _ (by simp only [Nat.min_def]; split <;> omega)) ?_)
  go_wp2_with fail
  go_ret
  exact ⟨_, rfl, HF.out, HB.out, rfl⟩

theorem insert_any (base : Nat) (v : Value) (l : List T3) (i : Nat) (x : T3) (vb : Nat) (w : World) (h : TR w base 72 3 v l.length (trow l)) (hi : i ≤ l.length)
    (hx : Whole w vb (tcells x).toArray 72) (hne : v.ownBlock ≠ some vb) (hb : base ≤ w.heap.size) (hl : l.length ≤ 1000) :
    Calls Try.prog 46 #[v, .int .i64 i, .slice (some ⟨vb, 0, none⟩) 1 1] w fun e w' =>
      ∃ v', e = .returned v' ∧ TR w' base 72 3 v' (l.length + 1) (trow (l.take i ++ x :: l.drop i)) ∧ w.grownBy w' v.ownBlock ∧ Fresh w v v' := by
  by_cases hin : i = l.length
  · subst hin
    obtain ⟨A, c, rfl⟩ := h.form
    rw [List.take_of_length_le (Nat.le_refl _), List.drop_of_length_le (Nat.le_refl _)]
    exact insert_end base A c l x vb w h hx hb hl
  · rcases h.2 with ⟨_, h0⟩ | ⟨g, off, cap, cur, rfl, hbg, hg, hnc, hcm, hcs, hc⟩
    · omega
    · by_cases hroom : l.length + 1 ≤ cap
      · refine (insert_room base g off l.length cap i cur l x vb w hg hcs hc rfl (by omega) hroom hcm hbg (fun e => hne (by simp [Value.ownBlock, e])) hx hl).mono ?_
        rintro e w' ⟨rfl, h1, h2⟩
        exact ⟨_, rfl, h1, h2, .inl (by simp [Value.ownBlock])⟩
      · refine (insert_grow base g off l.length cap i cur l x vb w hg hc rfl (by omega) hnc (by omega) hb hx hl).mono ?_
        rintro e w' ⟨v', rfl, h1, h2, h3⟩
        exact ⟨_, rfl, h1, gb_of_below h2 _, .inr fun k hk => by rw [h3] at hk; injection hk with hk; omega⟩
end Go.Proofs.Ytomffkdfgfenpaa
