/- The reference's Decode returns what the plain text says. The statement EntityDecodes returns true: its walk. -/
import Derived.Test.YtmpdapjfndjicaaDoorEAwk
import Derived.Test.YtmpdapjfndjicaaDoorERnx
namespace Go.Proofs.YtmpdapjfndjicaaDoor
open Go Go.RowKit

theorem DecSt.byte {s0 s : ByteArray} {out : List UInt8} (h : DecSt s0 s out) (h0 : 0 < s.size) (hn : (Ent.next s.data.toList).2 = 0) : DecSt s0 (s.extract 1 s.size) (out ++ [s[0]]) := by
  have hd := drop_get s 0 h0
  rw [List.drop_zero] at hd
  have e : Ent.decode s.data.toList = s[0] :: Ent.decode (s.data.toList.drop 1) := by
    conv => lhs; rw [hd]
    exact Ent.decode_zero (by rw [← hd]; exact hn)
  refine ⟨?_, ?_⟩
  · rw [h.1, e, drop_extract]; simp
  · have h2 := h.2
    have hs : (s.extract 1 s.size).size = s.size - 1 := by rw [ByteArray.size_extract]; omega
    rw [hs, List.length_append, List.length_singleton]; omega
theorem DecSt.ref {s0 s : ByteArray} {out : List UInt8} (h : DecSt s0 s out) (hn : (Ent.next s.data.toList).2 ≠ 0) : DecSt s0 (s.extract (Ent.next s.data.toList).2 s.size) (out ++ (Ent.next s.data.toList).1) := by
  obtain ⟨g1, g2⟩ := Ent.next_le s.data.toList
  have g1' : (Ent.next s.data.toList).2 ≤ s.size := g1
  refine ⟨?_, ?_⟩
  · rw [h.1, Ent.decode_some hn, drop_extract]; simp
  · have h2 := h.2
    have hs : (s.extract (Ent.next s.data.toList).2 s.size).size = s.size - (Ent.next s.data.toList).2 := by rw [ByteArray.size_extract]; omega
    rw [hs, List.length_append]; omega
theorem DecSt.all {s0 s : ByteArray} {out : List UInt8} (h : DecSt s0 s out) (h0 : s.size = 0) : Ent.decode s0.data.toList = out := by
  have e : s.data.toList = [] := List.length_eq_zero_iff.1 h0
  rw [h.1, e, Ent.decode_nil, List.append_nil]

set_option maxRecDepth 100000 in
set_option maxHeartbeats 1000000 in
theorem rdecode_any (s : ByteArray) (w : World) (hs : s.size ≤ 2000) :
    Calls Tryd.prog 19 #[.string s] w fun e w' => e = .returned (.string (tstr (Ent.decode s.data.toList))) ∧ Below w.heap.size w w' := by
  have hB0 : Below w.heap.size w w := Below.refl _ _
  have hrel0 : ∃ (r : ByteArray) (out : List UInt8), Value.string s = .string r ∧ Value.string ⟨#[]⟩ = .string (tstr out) ∧ r.size ≤ s.size ∧ DecSt s r out ∧ Below w.heap.size w w := ⟨s, [], rfl, rfl, Nat.le_refl _, DecSt.start s, hB0⟩
  go_enter Tryd.func19, Tryd.ntmps19
  go_wp2_with fail
  go_loopw [0, 3] (fun a b wr => ∃ (r : ByteArray) (out : List UInt8), a = .string r ∧ b = .string (tstr out) ∧ r.size ≤ s.size ∧ DecSt s r out ∧ Below w.heap.size w wr) (fun a _ _ => strSize a)
  case atStart => exact hrel0
  case round =>
    obtain ⟨r, out, rfl, rfl, hrs, hD, hB⟩ := hrel
    clear hrel0 hB0
    have hBs := hB.size
    have hlen := hD.2
    have hoz : (tstr out).size ≤ 8000 := by rw [tstr_size]; omega
    by_cases h0 : r.size = 0
    · have hres := Lib.hid (hD.all h0)
      have hpos : ¬ 0 < r.size := by omega
      clear hD hlen h0
      go_wp2_with fail
      go_ret
      exact ⟨retS (by rw [hres.out]), hB⟩
    · have hpos : 0 < r.size := by omega
      obtain ⟨g1, g2⟩ := Ent.next_le r.data.toList
      have g1' : (Ent.next r.data.toList).2 ≤ r.size := g1
      have hnx := rnext_any r wr (by omega)
      by_cases hn : (Ent.next r.data.toList).2 = 0
      · have hst := Lib.hid (hD.byte hpos hn)
        have hns := Lib.hid (show (r.extract 1 r.size).size < r.size by rw [ByteArray.size_extract]; omega)
        have hc1 : r.extract 0 1 = tstr [r[0]] := by
          have e := textract r 0 1
          rw [drop_get r 0 hpos] at e
          have e2 : (r.extract 0 1).data.toList = [r[0]] := e
          rw [← tstr_of (r.extract 0 1), e2]
        have sl1 : ∀ W : World, (Instr.slice 9 (.string r) none (some (.int .i64 1)) none).run Tryd.prog W = .ok (.string (tstr [r[0]])) W := fun W => by
          rw [run_slice_string_h (ht := Tryd.underlying9) (h0 := by omega) (h2 := by omega), ← hc1]; rfl
        have sl2 : ∀ W : World, (Instr.slice 9 (.string r) (some (.int .i64 1)) none none).run Tryd.prog W = .ok (.string (r.extract 1 r.size)) W := fun W => by
          rw [run_slice_string_l (ht := Tryd.underlying9) (h0 := by omega) (h1 := by omega)]; rfl
        rw [hn] at hnx
        obtain ⟨C, hC⟩ : ∃ C, tstr (Ent.next r.data.toList).1 = C := ⟨_, rfl⟩
        rw [hC] at hnx
        obtain ⟨Z, hZ⟩ : ∃ Z, r.extract 1 r.size = Z := ⟨_, rfl⟩
        rw [hZ] at sl2 hst hns
        have hcat : tstr out ++ tstr [r[0]] = tstr (out ++ [r[0]]) := tstr_append _ _
        have h1z : (tstr [r[0]]).size = 1 := tstr_size _
        obtain ⟨O, hO⟩ : ∃ O, tstr out = O := ⟨_, rfl⟩
        obtain ⟨Y, hY⟩ : ∃ Y, tstr [r[0]] = Y := ⟨_, rfl⟩
        rw [hO] at hoz hcat ⊢
        rw [hY] at sl1 hcat h1z
        have had : ∀ W : World, (Op.stringOp .add O Y).run Tryd.prog W = .ok (.string (O ++ Y)) W := fun W => run_string_add_sum W _ _ (by omega)
        have HC := Lib.hid hcat
        clear hD hlen h0 g1 g1' g2 hn hC hZ hc1 hcat hO hY h1z
        go_wp2_with fail
        refine hnx.mono ?_
        rintro e w2 ⟨rfl, hb2⟩
        have hB2 := hB.trans (hb2.mono hBs)
        clear hnx hb2
        go_wp2_with fail
        go_roundw
        case rel => exact ⟨Z, _, rfl, by rw [HC.out], by have := hns.out; omega, hst.out, hB2⟩
        case measure => exact hns.out
      · have hst := Lib.hid (hD.ref hn)
        obtain ⟨n, hnn⟩ : ∃ n, (Ent.next r.data.toList).2 = n := ⟨_, rfl⟩
        obtain ⟨c, hc⟩ : ∃ c, (Ent.next r.data.toList).1 = c := ⟨_, rfl⟩
        rw [hnn, hc] at hst hnx
        rw [hnn] at hn g1'
        rw [hc] at g2
        have hns := Lib.hid (show (r.extract n r.size).size < r.size by rw [ByteArray.size_extract]; omega)
        have sl2 : ∀ W : World, (Instr.slice 9 (.string r) (some (.int .i64 n)) none none).run Tryd.prog W = .ok (.string (r.extract n r.size)) W := fun W => by
          rw [run_slice_string_l (ht := Tryd.underlying9) (h0 := by omega) (h1 := by omega)]; rfl
        have hn1 : ((n : Int) == 0) = false := by rw [beq_eq_false_iff_ne]; omega
        obtain ⟨Z, hZ⟩ : ∃ Z, r.extract n r.size = Z := ⟨_, rfl⟩
        rw [hZ] at sl2 hst hns
        have hcat : tstr out ++ tstr c = tstr (out ++ c) := tstr_append _ _
        have h1z : (tstr c).size ≤ 4 := by rw [tstr_size]; exact g2
        obtain ⟨O, hO⟩ : ∃ O, tstr out = O := ⟨_, rfl⟩
        obtain ⟨Y, hY⟩ : ∃ Y, tstr c = Y := ⟨_, rfl⟩
        rw [hO] at hoz hcat ⊢
        rw [hY] at hnx hcat h1z
        have had : ∀ W : World, (Op.stringOp .add O Y).run Tryd.prog W = .ok (.string (O ++ Y)) W := fun W => run_string_add_sum W _ _ (by omega)
        have HC := Lib.hid hcat
        clear hD hlen h0 g1 g2 hn hnn hc hZ hcat hO hY
        go_wp2_with fail
        refine hnx.mono ?_
        rintro e w2 ⟨rfl, hb2⟩
        have hB2 := hB.trans (hb2.mono hBs)
        clear hnx hb2
        go_wp2_with fail
        go_roundw
        case rel => exact ⟨Z, _, rfl, by rw [HC.out], by have := hns.out; omega, hst.out, hB2⟩
        case measure => exact hns.out

set_option maxHeartbeats 400000 in
theorem decodes_walk (s : ByteArray) (w : World) (hT : Tab w) :
    Calls Tryd.prog 6 #[.string s] w fun e w' => e = .returned (.bool true) ∧ Below w.heap.size w w' := by
  by_cases hs : s.size ≤ 1000
  · have c1 := fun w (h : Tab w) => tdecode_any s w h (by omega)
    have r1 := fun w => rdecode_any s w (by omega)
    obtain ⟨X, hX⟩ : ∃ X, tstr (Ent.decode s.data.toList) = X := ⟨_, rfl⟩
    simp only [hX] at c1 r1
    have q1 := sameS X
    clear hX
    go_enter Tryd.func6, Tryd.ntmps6
    go_wp2_with fail
    refine (awake_any w hT).mono ?_
    rintro e w1 ⟨rfl, hb1⟩
    have hT1 := hT.below hb1
    go_wp2_with fail
    refine (c1 w1 hT1).mono ?_
    rintro e w2 ⟨rfl, hb2⟩
    go_wp2_with fail
    refine (r1 w2).mono ?_
    rintro e w3 ⟨rfl, hb3⟩
    go_wp2_with fail
    go_ret
    exact ⟨rfl, below_trans' (below_trans' hb1 hb2) hb3⟩
  · go_enter Tryd.func6, Tryd.ntmps6
    go_wp2_with fail
    refine (awake_any w hT).mono ?_
    rintro e w1 ⟨rfl, hb1⟩
    go_wp2_with fail
    refine (awake_any w1 (hT.below hb1)).mono ?_
    rintro e w2 ⟨rfl, hb2⟩
    go_wp2_with fail
    go_ret
    exact ⟨rfl, below_trans' hb1 hb2⟩

end Go.Proofs.YtmpdapjfndjicaaDoor
