/- The reference's Sorted. -/
import Derived.Test.YtomffkdfgfenpaaQRefE
import Derived.Deep.AppendSrc
namespace Go.Proofs.Ytomffkdfgfenpaa
open Go.RowKit

theorem del_perm {l r : List T3} {x : T3} (hp : l.Perm (x :: r)) (hid : Idn (x :: r)) : (del x.1 l).Perm r := by
  obtain ⟨i, hf⟩ := fnd_of_mem (l := l) (id := x.1) (hp.mem_iff.2 (List.mem_cons_self ..)) rfl
  obtain ⟨y, hy, hyx⟩ := fnd_some hf
  have hm : y ∈ x :: r := hp.mem_iff.1 (List.mem_of_getElem? hy)
  have hxy : y = x := by
    rcases List.mem_cons.1 hm with e | hr
    · exact e
    · exact absurd hyx.symm ((List.pairwise_cons.1 hid).1 y hr)
  subst hxy
  rw [del_some hf]
  have hs := mem_split hy
  have h1 : l.Perm (y :: (l.take i ++ l.drop (i + 1))) := (List.Perm.of_eq hs).trans List.perm_middle
  exact (h1.symm.trans hp).cons_inv
def sliceLen : Value → Nat
  | .slice _ n _ => n
  | _ => 0
set_option maxRecDepth 100000 in
set_option maxHeartbeats 1000000 in
theorem rsorted_any (A : Option Addr) (c : Nat) (l L : List T3) (nx : Int) (w : World) (h : RV w (.slice A l.length c) l) (hl : l.length ≤ 1000) (hp : l.Perm L) (hx : Lx L) (hid : Idn L) :
    Calls Try.prog 42 #[rval (.slice A l.length c) nx] w fun e w' => ∃ v', e = .returned v' ∧ TR w' w.heap.size 69 3 v' L.length (trow L) ∧ Below w.heap.size w w' := by
  obtain ⟨i0, hi0, hz0, hz1, hz2⟩ := info_parts rInfo
  obtain ⟨n, hn⟩ : ∃ n, L.length = n := ⟨_, rfl⟩
  have hln : l.length = n := by rw [hp.length_eq, hn]
  rw [hln] at hl
  have hb1 := (Below.refl _ w).alloc (Nat.le_refl _) (.cells #[.slice A l.length c, .int .i64 nx] 58)
  have hX1 := Whole.new w #[.slice A l.length c, .int .i64 nx] 58
  have h1 := h.below hb1
  obtain ⟨w1, hw1⟩ : ∃ w1, w.alloc (.cells #[.slice A l.length c, .int .i64 nx] 58) = w1 := ⟨_, rfl⟩
  rw [hw1] at hb1 hX1 h1
  have HB1 := Lib.hid hb1
  have HX1 := Lib.hid hX1
  have HH1 := Lib.hid h1
  have HP := Lib.hid hp
  have HLX := Lib.hid hx
  have HID := Lib.hid hid
  have HN := Lib.hid hn
  rw [hn]
  clear hb1 hX1 h h1 hp hx hid hn hln
  go_enter Try.func42, Try.ntmps42
  go_wp2_with fail
  clear hw1
  go_loopw [3] (fun o wr => ∃ (k : Nat) (vt : Value) (m : List T3), k ≤ n ∧ TR wr w.heap.size 69 3 o k (trow (L.take k)) ∧ Whole wr w.heap.size #[vt, .int .i64 nx] 58 ∧ RV wr vt m ∧ Hid (m.Perm (L.drop k)) ∧ Hid (∀ b, vt.ownBlock = some b → o.ownBlock ≠ some b) ∧ Below w.heap.size w wr) (fun o _ => n - sliceLen o)
  case atStart => exact ⟨0, _, l, Nat.zero_le _, TR.nil _ _ _ _, HX1.out, HH1.out, Lib.hid HP.out, Lib.hid (fun b _ h => by simp [Value.ownBlock] at h), HB1.out⟩
  case round =>
    clear HX1 HB1 HH1
    obtain ⟨k, vt, m, hk, ho, hX, hm, HM, HAP, hB⟩ := hrel
    obtain ⟨A', c', rfl⟩ := hm.form
    obtain ⟨Ao, co, rfl⟩ := ho.form
    have hml : m.length = n - k := by rw [HM.out.length_eq, List.length_drop, HN.out]
    have hbs := hB.size
    have hXl := hX.lt
    by_cases hlt : k < n
    · cases hd : L.drop k with
      | nil => have : (L.drop k).length = 0 := by rw [hd]; rfl
               rw [List.length_drop, HN.out] at this; omega
      | cons x r =>
        have hmp : m.Perm (x :: r) := by rw [← hd]; exact HM.out
        have hxr : Lx (x :: r) := by rw [← hd]; exact List.Pairwise.sublist (List.drop_sublist _ _) HLX.out
        have hir : Idn (x :: r) := by rw [← hd]; exact List.Pairwise.sublist (List.drop_sublist _ _) HID.out
        have hr : r = L.drop (k + 1) := by
          have := congrArg List.tail hd
          simpa using this.symm
        have htk : L.take (k + 1) = L.take k ++ [x] := by
          have hxk : L[k]? = some x := by
            have := congrArg (·[0]?) hd
            simpa using this
          rw [List.take_add_one, hxk]; rfl
        obtain ⟨i, hf⟩ := fnd_of_mem (l := m) (id := x.1) (hmp.mem_iff.2 (List.mem_cons_self ..)) rfl
        have HDP := Lib.hid (show (del x.1 m).Perm (L.drop (k + 1)) by rw [← hr]; exact del_perm hmp hir)
        have HTK := Lib.hid (show trow (L.take k) ++ tcells x = trow (L.take (k + 1)) by rw [htk, trow_append]; simp [trow])
        have HFST := Lib.hid (rfirst_any A' c' m r x nx wr hm (by rw [hml]; omega) hmp hxr)
        have HF := Lib.hid hf
        have HMM := Lib.hid hm
        have HO := Lib.hid ho
        have HX := Lib.hid hX
        have HML := Lib.hid hml
        have k0 : wr.cell? ⟨w.heap.size, 0, none⟩ = some (.slice A' m.length c') := hX.cell 0
        have k1 : wr.cell? ⟨w.heap.size, 1, none⟩ = some (.int .i64 nx) := hX.cell 1
        have hpos : (0 : Int) < (m.length : Int) := by omega
        obtain ⟨M, hM⟩ : ∃ M, m.length = M := ⟨_, rfl⟩
        have HMn := Lib.hid hM
        rw [hM] at k0 hpos
        clear hd hmp hxr hir hr htk hf hm ho hX hml
        rw [hM] at HFST HX HAP
        clear hM
        go_wp2_with fail
        refine HFST.out.mono ?_
        rintro e w4 ⟨rfl, hb4⟩
        have hX4 := HX.out.below hb4 HX.out.lt
        have hB4 := hB.trans (hb4.mono hbs)
        have hT5 := Whole.new w4 #[.int .i64 x.1, .int .i64 x.2.1, .int .i64 x.2.2] 69
        have hX5 := hX4.alloc (.cells #[.int .i64 x.1, .int .i64 x.2.1, .int .i64 x.2.2] 69)
        have hB5 := hB4.alloc hB4.size (.cells #[.int .i64 x.1, .int .i64 x.2.1, .int .i64 x.2.2] 69)
        have hb5 := hb4.trans (((Below.refl _ w4).alloc (Nat.le_refl _) (.cells #[.int .i64 x.1, .int .i64 x.2.1, .int .i64 x.2.2] 69)).mono hb4.size)
        have hs4 := hb4.size
        have hz5 : (w4.alloc (.cells #[.int .i64 x.1, .int .i64 x.2.1, .int .i64 x.2.2] 69)).heap.size = w4.heap.size + 1 := by simp
        obtain ⟨w5, hw5⟩ : ∃ w5, w4.alloc (.cells #[.int .i64 x.1, .int .i64 x.2.1, .int .i64 x.2.2] 69) = w5 := ⟨_, rfl⟩
        rw [hw5] at hT5 hX5 hB5 hb5 hz5
        have q0 : w5.cell? ⟨w.heap.size, 0, none⟩ = some (.slice A' M c') := hX5.cell 0
        have q1 : w5.cell? ⟨w.heap.size, 1, none⟩ = some (.int .i64 nx) := hX5.cell 1
        have t0 := hT5.cell 0
        have t1 := hT5.cell 1
        have t2 := hT5.cell 2
        have hrem := rremove_yes A' c' m nx x.1 i w5 (HMM.out.below hb5) (by have := HML.out; omega) HF.out
        rw [HMn.out] at hrem
        have HREM := Lib.hid hrem
        have hO5 := HO.out.below hb5
        have HO5 := Lib.hid hO5
        have HX5 := Lib.hid hX5
        have HT5 := Lib.hid hT5
        have HB5 := Lib.hid hB5
        have HZ5 := Lib.hid hz5
        have HS4 := Lib.hid hs4
        clear hX4 hB4 hT5 hX5 hB5 hb5 hrem hO5 hz5 k0 k1 hb4 hs4 HFST HX HO HMM
        go_wp2_with fail
        refine HREM.out.mono ?_
        rintro e w6 ⟨v6, rfl, hv6, hb6⟩
        obtain ⟨A6, c6, rfl⟩ := hv6.form
        obtain ⟨D, hD⟩ : ∃ D, (del x.1 m).length = D := ⟨_, rfl⟩
        rw [hD] at hv6
        rw [hD]
        have HD := Lib.hid hD
        have hX6 := HX5.out.below hb6 HX5.out.lt
        have hT6 := HT5.out.below hb6 HT5.out.lt
        have hO6 := HO5.out.below hb6
        have hB6 := HB5.out.trans (hb6.mono HB5.out.size)
        have hlo := HO5.out.lt
        have hlv := hv6.lt
        have ha7 := ((Below.refl _ w6).alloc (Nat.le_refl _) (.cells #[.slice A6 D c6, .int .i64 nx] 58))
        have hN7 := Whole.new w6 #[.slice A6 D c6, .int .i64 nx] 58
        have hX7 := hX6.below ha7 hX6.lt
        have hT7 := hT6.below ha7 hT6.lt
        have hO7 := hO6.below ha7
        have hv7 := hv6.below ha7
        have hB7 := hB6.trans (ha7.mono hB6.size)
        obtain ⟨w7, hw7⟩ : ∃ w7, w6.alloc (.cells #[.slice A6 D c6, .int .i64 nx] 58) = w7 := ⟨_, rfl⟩
        rw [hw7] at hN7 hX7 hT7 hO7 hv7 hB7
        obtain ⟨X, hXX, hXY, gX⟩ := box2r hX7 (.slice A6 D c6) (.int .i64 nx)
        have n0 : w7.cell? ⟨w6.heap.size, 0, none⟩ = some (.slice A6 D c6) := hN7.cell 0
        have n1 : w7.cell? ⟨w6.heap.size, 1, none⟩ = some (.int .i64 nx) := hN7.cell 1
        have x0 := hX7.cell 0
        have x1 := hX7.cell 1
        have f0 := hX7.free 0
        have f1 := hX7.free 1
        have hs5 := HZ5.out
        have hs4 := HS4.out
        have hTX := hT7.grown gX (fun e => by simp at e; omega)
        have hOX := hO7.turns (.of_grown gX (S := fun k => k = w.heap.size) (fun k hk => by simpa using hk.symm)) (fun k hk e => hO7.unlike hX7 (by decide) (by rw [hk, e]))
        have hVX := hv7.turns (.of_grown gX (S := fun k => k = w.heap.size) (fun k hk => by simpa using hk.symm)) (fun k hk e => by have := (hv7.lt k hk).1; omega)
        have hBX := hB7.grown gX hB7.size (fun j hj => by simp at hj; omega)
        have y0 := hTX.cell 0
        have y1 := hTX.cell 1
        have y2 := hTX.cell 2
        have hb8 := (Below.refl _ X).alloc (Nat.le_refl _) (.cells #[.int .i64 x.1, .int .i64 x.2.1, .int .i64 x.2.2] 69)
        have hO8 := hOX.below hb8
        have hV8 := hVX.below hb8
        have hX8 := hXY.below hb8 hXY.lt
        have hB8 := hBX.trans (hb8.mono hBX.size)
        have hbs8 := hB8.size
        have s8 := one_source X 69 (tcells x)
        obtain ⟨w8, hw8⟩ : ∃ w8, X.alloc (.cells #[.int .i64 x.1, .int .i64 x.2.1, .int .i64 x.2.2] 69) = w8 := ⟨_, rfl⟩
        rw [show (tcells x).toArray = #[.int .i64 x.1, .int .i64 x.2.1, .int .i64 x.2.2] from rfl, hw8] at s8
        rw [hw8] at hO8 hV8 hX8 hB8 hbs8
        have h1t := t_one x
        have hne : ∀ b, (Value.slice A6 D c6).ownBlock = some b → (Value.slice Ao k co).ownBlock ≠ some b := fun b h1 h2 => by
          have := (hlv b h1).1
          have := (hlo b h2).2
          omega
        have HNE := Lib.hid hne
        have HV8 := Lib.hid hV8
        have HX8 := Lib.hid hX8
        have HB8 := Lib.hid hB8
        have HXA := Lib.hid (fun (e : (Value.slice Ao k co).ownBlock = some w.heap.size) => hO8.unlike hX8 (by decide) e)
        clear hX6 hT6 hO6 hB6 hlo hlv ha7 hN7 hX7 hT7 hO7 hv7 hB7 hXY gX hTX hOX hVX hBX hb8 hV8 hX8 hB8 hne hv6 hb6 hD HREM HX5 HT5 HO5 HB5 q0 q1 hs5 hs4 hw5 HAP HM
        go_wp2_with (at_builtin; refine wpList_append_tail rfl _ _ 56 rfl w.heap.size 69 i0 _ 3 24 Try.underlying56 hi0 hz0 hz1 hz2 rfl (by decide) _ k (trow (L.take k)) rfl hO8 _ 1 (tcells x) rfl rfl s8 h1t ?c4 ?c5 hbs8 ?_)
        case c4 => unfold maxLen; omega
        case c5 => omega
        intro v9 w9 o9 g9 fr9
        have hX9 := HX8.out.grown g9 (fun e => HXA.out e.symm)
        have hV9 := HV8.out.turns (.of_grown g9 (S := fun b => (Value.slice Ao k co).ownBlock = some b) (fun b hb => hb)) (fun b h1 h2 => HNE.out b h1 h2)
        have hB9 := HB8.out.grown g9 HB8.out.size (fun j hj => (hO8.lt j hj).1)
        have hap9 : ∀ b, (Value.slice A6 D c6).ownBlock = some b → v9.ownBlock ≠ some b := fun b h1 h2 => by
          rcases fr9 with e | e
          · rw [e] at h2
            exact HNE.out b h1 h2
          · have := e b h2
            have := (HV8.out.lt b h1).2
            omega
        rw [HTK.out] at o9
        have HO9 := Lib.hid o9
        obtain ⟨A9, c9, rfl⟩ := o9.form
        have HF9 := Lib.hid (show _ ∧ _ ∧ _ ∧ _ from ⟨hX9, hV9, hap9, hB9⟩)
        clear o9 g9 fr9 hX9 hV9 hap9 hB9 hO8 s8 hw8 hw7 hXX
        go_wp2_with fail
        go_roundw
        case rel => exact ⟨k + 1, _, del x.1 m, by omega, HO9.out, HF9.out.1, by have h := HF9.out.2.1.lower (Nat.zero_le _); unfold RV; rw [HD.out]; exact h, HDP, Lib.hid HF9.out.2.2.1, HF9.out.2.2.2⟩
        case measure => simp [sliceLen]; omega
    · have ek : k = n := by omega
      subst ek
      have hm0 : m.length = 0 := by omega
      have k0 : wr.cell? ⟨w.heap.size, 0, none⟩ = some (.slice A' m.length c') := hX.cell 0
      rw [hm0] at k0
      have htk : L.take k = L := by rw [← HN.out, List.take_length]
      rw [htk] at ho
      have HO := Lib.hid ho
      clear ho hX hm htk hm0 hml hlt HM HAP
      go_wp2_with fail
      go_ret
      exact ⟨_, rfl, HO.out, hB⟩
end Go.Proofs.Ytomffkdfgfenpaa
