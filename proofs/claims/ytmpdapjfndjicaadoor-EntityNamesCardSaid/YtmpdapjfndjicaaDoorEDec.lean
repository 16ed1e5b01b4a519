/- The program's Decode returns what the plain text says. -/
import Derived.Test.YtmpdapjfndjicaaDoorENxt
import Derived.Test.YtmpdapjfndjicaaDoorMem
import Derived.Lib.IndexLaws
import Derived.Lib.FrozenHead
import Derived.Outline
namespace Go.Proofs.YtmpdapjfndjicaaDoor
open Go Go.RowKit Go.Shelf

/-- What has been written, and what is left. -/
def DecSt (s0 s : ByteArray) (out : List UInt8) : Prop := Ent.decode s0.data.toList = out ++ Ent.decode s.data.toList ∧ out.length + 4 * s.size ≤ 4 * s0.size
theorem DecSt.start (s : ByteArray) : DecSt s s [] := ⟨rfl, by simp⟩
theorem DecSt.last {s0 s : ByteArray} {out : List UInt8} (h : DecSt s0 s out) (hn : Lib.indexByte s.data.toList 38 = -1) : Ent.decode s0.data.toList = out ++ s.data.toList := by
  rw [h.1, Ent.decode_same]
  intro c hc e
  obtain ⟨i, hi, rfl⟩ := List.getElem_of_mem hc
  exact Lib.indexByte_none hn i (by rw [List.getElem?_eq_getElem hi, e])
theorem take_extract (s : ByteArray) (i : Nat) : (s.extract 0 i).data.toList = s.data.toList.take i := by
  have := textract s 0 i
  rwa [Nat.zero_add, List.drop_zero] at this
theorem drop_extract (s : ByteArray) (i : Nat) : (s.extract i s.size).data.toList = s.data.toList.drop i := by
  by_cases h : i ≤ s.size
  · have := textract s i (s.size - i)
    rw [show i + (s.size - i) = s.size from by omega] at this
    rw [this, List.take_of_length_le]
    rw [List.length_drop]; exact Nat.le_refl _
  · rw [ByteArray.data_extract, Array.toList_extract, List.drop_of_length_le (by show s.size ≤ i; omega)]
    simp only [List.extract_eq_take_drop]
    rw [List.drop_of_length_le (by show s.size ≤ i; omega), List.take_nil]
theorem idx_parts {l : List UInt8} {i : Nat} (hi : Lib.indexByte l 38 = i) : i < l.length ∧ (∃ r, l.drop i = 38 :: r) ∧ ∀ c ∈ l.take i, c ≠ 38 := by
  obtain ⟨h1, h2⟩ := Lib.indexByte_some hi
  obtain ⟨hlt, hv⟩ := List.getElem?_eq_some_iff.1 h1
  refine ⟨hlt, ⟨_, by rw [List.drop_eq_getElem_cons hlt, hv]⟩, ?_⟩
  intro c hc e
  obtain ⟨k, hk, hk2⟩ := List.getElem_of_mem hc
  rw [List.length_take] at hk
  rw [List.getElem_take] at hk2
  exact h2 k (by omega) (by rw [List.getElem?_eq_getElem (by omega), hk2, e])
theorem DecSt.none {s0 s : ByteArray} {out : List UInt8} {i : Nat} (h : DecSt s0 s out) (hi : Lib.indexByte s.data.toList 38 = i) (hn : (Ent.next (s.data.toList.drop i)).2 = 0) : DecSt s0 (s.extract (i + 1) s.size) (out ++ s.data.toList.take i ++ [38]) := by
  obtain ⟨h1, ⟨r, hr⟩, h3⟩ := idx_parts hi
  have hd : s.data.toList.drop (i + 1) = r := by rw [← List.drop_drop, hr]; rfl
  have e : Ent.decode s.data.toList = s.data.toList.take i ++ (38 :: Ent.decode r) := by
    conv => lhs; rw [← List.take_append_drop i s.data.toList]
    rw [Ent.decode_run _ _ h3, hr, Ent.decode_zero (by rw [← hr]; exact hn)]
  refine ⟨?_, ?_⟩
  · rw [h.1, e, drop_extract, hd]; simp
  · have h2 := h.2
    have hs : (s.extract (i + 1) s.size).size = s.size - (i + 1) := by rw [ByteArray.size_extract]; omega
    have h1' : i < s.size := h1
    rw [hs]
    simp only [List.length_append, List.length_take, List.length_cons, List.length_nil]
    have : min i s.data.toList.length ≤ i := Nat.min_le_left _ _
    omega
theorem DecSt.some {s0 s : ByteArray} {out : List UInt8} {i : Nat} (h : DecSt s0 s out) (hi : Lib.indexByte s.data.toList 38 = i) (hn : (Ent.next (s.data.toList.drop i)).2 ≠ 0) : DecSt s0 (s.extract (i + (Ent.next (s.data.toList.drop i)).2) s.size) (out ++ s.data.toList.take i ++ (Ent.next (s.data.toList.drop i)).1) := by
  obtain ⟨h1, _, h3⟩ := idx_parts hi
  obtain ⟨g1, g2⟩ := Ent.next_le (s.data.toList.drop i)
  have e : Ent.decode s.data.toList = s.data.toList.take i ++ ((Ent.next (s.data.toList.drop i)).1 ++ Ent.decode (s.data.toList.drop (i + (Ent.next (s.data.toList.drop i)).2))) := by
    conv => lhs; rw [← List.take_append_drop i s.data.toList]
    rw [Ent.decode_run _ _ h3, Ent.decode_some hn, List.drop_drop]
  refine ⟨?_, ?_⟩
  · rw [h.1, e, drop_extract]; simp
  · have h2 := h.2
    have h1' : i < s.size := h1
    rw [List.length_drop] at g1
    have g1' : (Ent.next (s.data.toList.drop i)).2 ≤ s.size - i := g1
    have hs : (s.extract (i + (Ent.next (s.data.toList.drop i)).2) s.size).size = s.size - (i + (Ent.next (s.data.toList.drop i)).2) := by rw [ByteArray.size_extract]; omega
    rw [hs]
    simp only [List.length_append, List.length_take]
    have : min i s.data.toList.length ≤ i := Nat.min_le_left _ _
    omega
def strSize : Value → Nat
  | .string s => s.size
  | _ => 0

set_option maxRecDepth 100000 in
set_option maxHeartbeats 2000000 in
theorem tdecode_any (s : ByteArray) (w : World) (hT : Tab w) (hs : s.size ≤ 20000) :
    Calls Tryd.prog 18 #[.string s] w fun e w' => e = .returned (.string (tstr (Ent.decode s.data.toList))) ∧ Below w.heap.size w w' := by
  have hb0 := Lib.IsBuilderF.of (Lib.fresh_isBuilder 47 5 w)
  have hB0 : Below w.heap.size w (w.alloc (.cells #[.pointer none, .slice none 0 0] 47)) := (Below.refl _ _).alloc (Nat.le_refl _) _
  go_enter Tryd.func18, Tryd.ntmps18
  go_wp2_with fail
  go_loopw [0] (fun a wr => ∃ (r : ByteArray) (out : List UInt8), a = .string r ∧ r.size ≤ s.size ∧ DecSt s r out ∧ Lib.IsBuilderF 47 5 w.heap.size w.heap.size (Lib.byteCells out) wr ∧ Below w.heap.size w wr) (fun a _ => strSize a)
  case atStart => exact ⟨s, [], rfl, Nat.le_refl _, DecSt.start s, hb0, hB0⟩
  case round =>
    obtain ⟨r, out, rfl, hrs, hD, hbld, hB⟩ := hrel
    have hTr := hT.below hB
    have hBs := hB.size
    have hlen := hD.2
    have hbl : (Lib.byteCells out).length = out.length := by simp [Lib.byteCells]
    have hix := Tryd.indexByte r 38 wr
    rw [show (38 : Int).toNat.toUInt8 = 38 from rfl] at hix
    clear hb0 hB0
    by_cases hneg : Lib.indexByte r.data.toList 38 = -1
    · have hres := hD.last hneg
      rw [hneg] at hix
      have hq := Tryd.writeString w.heap.size w.heap.size (Lib.byteCells out) r wr hbld (by omega) (by omega)
      rw [Lib.strCells_eq, ← Lib.byteCells_append, ← hres] at hq
      have HB := Lib.hid hbl
      clear hneg hD hbld hres hbl
      go_wp2_with fail
      refine hix.mono ?_
      rintro e w1 ⟨rfl, rfl⟩
      go_wp2_with fail
      refine hq.mono ?_
      rintro e w2 ⟨rfl, hb2, hB2, _⟩
      have hq2 := Tryd.builderString w.heap.size w.heap.size _ w2 (.inr hb2) (by have := hB2.size; omega)
      go_wp2_with fail
      refine hq2.mono ?_
      rintro e w3 ⟨rfl, hb3, hB3, _⟩
      go_wp2_with fail
      go_ret
      exact ⟨rfl, (hB.trans hB2).trans hB3⟩
    · obtain ⟨i, hi⟩ : ∃ i : Nat, Lib.indexByte r.data.toList 38 = i := by
        have := Lib.indexByte_ge r.data.toList 38
        exact ⟨(Lib.indexByte r.data.toList 38).toNat, by omega⟩
      rw [hi] at hix
      have hil : i < r.size := (idx_parts hi).1
      obtain ⟨g1, g2⟩ := Ent.next_le (r.data.toList.drop i)
      rw [List.length_drop] at g1
      have g1' : (Ent.next (r.data.toList.drop i)).2 ≤ r.size - i := g1
      have hti : (r.data.toList.take i).length ≤ i := List.length_take_le _ _
      have sl1 : ∀ W : World, (Instr.slice 9 (.string r) (some (.int .i64 i)) none none).run Tryd.prog W = .ok (.string (r.extract i r.size)) W := fun W => by
        rw [run_slice_string_l (ht := Tryd.underlying9) (h0 := by omega) (h1 := by omega)]; rfl
      have sl2 : ∀ W : World, (Instr.slice 9 (.string r) none (some (.int .i64 i)) none).run Tryd.prog W = .ok (.string (r.extract 0 i)) W := fun W => by
        rw [run_slice_string_h (ht := Tryd.underlying9) (h0 := by omega) (h2 := by omega)]; rfl
      have hxs : (r.extract i r.size).size ≤ 20000 := by rw [ByteArray.size_extract]; omega
      have hnx := tnext_any (r.extract i r.size) wr hTr hxs
      have htl := take_extract r i
      have hts : (r.extract 0 i).size ≤ 20000 := by rw [ByteArray.size_extract]; omega
      rw [drop_extract] at hnx
      obtain ⟨X, hX⟩ : ∃ X, r.extract i r.size = X := ⟨_, rfl⟩
      obtain ⟨Y, hY⟩ : ∃ Y, r.extract 0 i = Y := ⟨_, rfl⟩
      rw [hX] at sl1 hnx
      rw [hY] at sl2 htl hts
      have hyl : Y.data.toList.length = Y.size := rfl
      have hq1 := Tryd.writeString w.heap.size w.heap.size (Lib.byteCells out) Y wr hbld (by omega) (by omega)
      rw [Lib.strCells_eq, ← Lib.byteCells_append, htl] at hq1
      have hbl2 : (Lib.byteCells (out ++ r.data.toList.take i)).length ≤ out.length + i := by
        simp only [Lib.byteCells, List.length_map, List.length_append]; omega
      by_cases hn : (Ent.next (r.data.toList.drop i)).2 = 0
      · have hst := Lib.hid (hD.none hi hn)
        have hns := Lib.hid (show (r.extract (i + 1) r.size).size < r.size by rw [ByteArray.size_extract]; omega)
        have sl3 : ∀ W : World, (Instr.slice 9 (.string r) (some (.int .i64 ((i : Int) + 1))) none none).run Tryd.prog W = .ok (.string (r.extract (i + 1) r.size)) W := fun W => by
          rw [run_slice_string_l (ht := Tryd.underlying9) (h0 := by omega) (h1 := by omega), show ((i : Int) + 1).toNat = i + 1 from by omega]
        have hq2 : ∀ w1 : World, Lib.BuilderAtF 47 5 w.heap.size w.heap.size (.pointer (some ⟨w.heap.size, 0, none⟩)) (Lib.byteCells (out ++ r.data.toList.take i)) w1 → w.heap.size ≤ w1.heap.size → _ :=
          fun w1 h h' => Tryd.writeString w.heap.size w.heap.size _ ⟨#[38]⟩ w1 (.inr h) (by show _ + 1 ≤ _; omega) h'
        rw [hn] at hnx
        obtain ⟨Z, hZ⟩ : ∃ Z, r.extract (i + 1) r.size = Z := ⟨_, rfl⟩
        rw [hZ] at hst hns sl3
        obtain ⟨C, hC⟩ : ∃ C, tstr (Ent.next (r.data.toList.drop i)).1 = C := ⟨_, rfl⟩
        rw [hC] at hnx
        clear hD hn g1 g1' g2 htl hbl hyl hneg hi hX hY hZ hC hbld
        go_wp2_with fail
        refine hix.mono ?_
        rintro e w1 ⟨rfl, rfl⟩
        go_wp2_with fail
        refine hnx.mono ?_
        rintro e w1 ⟨rfl, rfl⟩
        go_wp2_with fail
        refine hq1.mono ?_
        rintro e w2 ⟨rfl, hb2, hB2, _⟩
        have hq3 := hq2 w2 hb2 (by have := hB2.size; omega)
        rw [Lib.strCells_eq, ← Lib.byteCells_append] at hq3
        clear hq1 hnx hix
        go_wp2_with fail
        refine hq3.mono ?_
        rintro e w3 ⟨rfl, hb3, hB3, _⟩
        clear hq2 hq3
        have hB4 := (hB.trans hB2).trans hB3
        go_wp2_with fail
        go_roundw
        case rel => exact ⟨Z, _, rfl, by have := hns.out; omega, hst.out, .inr hb3, hB4⟩
        case measure => exact hns.out
      · have hst := Lib.hid (hD.some hi hn)
        obtain ⟨n, hnn⟩ : ∃ n, (Ent.next (r.data.toList.drop i)).2 = n := ⟨_, rfl⟩
        obtain ⟨c, hc⟩ : ∃ c, (Ent.next (r.data.toList.drop i)).1 = c := ⟨_, rfl⟩
        rw [hnn, hc] at hst
        rw [hnn] at hn g1'
        rw [hc] at g2
        rw [hnn, hc] at hnx
        have hns := Lib.hid (show (r.extract (i + n) r.size).size < r.size by rw [ByteArray.size_extract]; omega)
        have sl3 : ∀ W : World, (Instr.slice 9 (.string r) (some (.int .i64 ((i : Int) + n))) none none).run Tryd.prog W = .ok (.string (r.extract (i + n) r.size)) W := fun W => by
          rw [run_slice_string_l (ht := Tryd.underlying9) (h0 := by omega) (h1 := by omega), show ((i : Int) + (n : Int)).toNat = i + n from by omega]
        have hcs : (tstr c).size ≤ 4 := by rw [tstr_size]; exact g2
        have hq2 : ∀ w1 : World, Lib.BuilderAtF 47 5 w.heap.size w.heap.size (.pointer (some ⟨w.heap.size, 0, none⟩)) (Lib.byteCells (out ++ r.data.toList.take i)) w1 → w.heap.size ≤ w1.heap.size → _ :=
          fun w1 h h' => Tryd.writeString w.heap.size w.heap.size _ (tstr c) w1 (.inr h) (by omega) h'
        simp only [Lib.strCells_eq, tstr_data, ← Lib.byteCells_append] at hq2
        obtain ⟨Z, hZ⟩ : ∃ Z, r.extract (i + n) r.size = Z := ⟨_, rfl⟩
        rw [hZ] at hst hns sl3
        obtain ⟨C, hC⟩ : ∃ C, tstr c = C := ⟨_, rfl⟩
        rw [hC] at hnx hq2
        have hn1 : ((n : Int) == 0) = false := by rw [beq_eq_false_iff_ne]; omega
        clear hD hn g1 g2 htl hbl hyl hneg hi hX hY hZ hC hbld hnn hc hcs
        go_wp2_with fail
        refine hix.mono ?_
        rintro e w1 ⟨rfl, rfl⟩
        go_wp2_with fail
        refine hnx.mono ?_
        rintro e w1 ⟨rfl, rfl⟩
        go_wp2_with fail
        refine hq1.mono ?_
        rintro e w2 ⟨rfl, hb2, hB2, _⟩
        have hq3 := hq2 w2 hb2 (by have := hB2.size; omega)
        clear hq1 hnx hix
        go_wp2_with fail
        refine hq3.mono ?_
        rintro e w3 ⟨rfl, hb3, hB3, _⟩
        clear hq2 hq3
        have hB4 := (hB.trans hB2).trans hB3
        go_wp2_with fail
        go_roundw
        case rel => exact ⟨Z, _, rfl, by have := hns.out; omega, hst.out, .inr hb3, hB4⟩
        case measure => exact hns.out

end Go.Proofs.YtmpdapjfndjicaaDoor
