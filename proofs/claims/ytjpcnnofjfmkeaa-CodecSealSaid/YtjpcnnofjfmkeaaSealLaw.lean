/- The statement CodecSeal returns true for strings of at most 2^47 - 4096 bytes: its walk. -/
import Derived.Test.YtjpcnnofjfmkeaaSealWalk
import Derived.Lib.ConvBytes
import Derived.Laws.IdiomStrings
import Derived.Lib.MinMax
namespace Go.Proofs.Ytjpcnnofjfmkeaa
open Go.RowKit

theorem bytesWorld_below (w : World) (e : TypeId) (s : ByteArray) : Below w.heap.size w (Lib.bytesWorld w e s) := by
  refine ⟨?_, ?_, ?_, by rw [Lib.bytesWorld_size]; omega, fun k hk => Lib.bytesWorld_at_old w e s k hk⟩ <;>
  · unfold Lib.bytesWorld World.freeze
    split <;> rfl
theorem bytesWorld_free (w : World) (e : TypeId) (s : ByteArray) (j : Nat) (hj : j < s.size) : (Lib.bytesWorld w e s).frozen? ⟨w.heap.size, j, none⟩ = false := by
  have hn : s.size ≤ (Lib.bytesCells w e s).size := by
    unfold Lib.bytesCells; simp
  simp only [World.frozen?, Lib.bytesWorld_at_new]
  have : ¬ (Lib.bytesCells w e s).size ≤ j := by omega
  simp [this]

theorem add_none (b j : Nat) : (⟨b, 0, none⟩ : Addr).add j = ⟨b, j, none⟩ := by unfold Addr.add; split <;> simp_all

/-- The slice of a string's bytes, one of them written, made a string again. -/
theorem conv_set (w : World) (t : ByteArray) (i : Nat) (y : UInt8) (cap : Nat) (_hi : i < t.size) :
    (convert 26 9 (.slice (some ⟨w.heap.size, 0, none⟩) t.size cap)).run Try.prog ((Lib.bytesWorld w 5 t).setCell ⟨w.heap.size, i, none⟩ (.int .u8 y.toNat)) =
      .ok (.string (str (t.data.toList.set i y))) ((Lib.bytesWorld w 5 t).setCell ⟨w.heap.size, i, none⟩ (.int .u8 y.toNat)) := by
  have hl : (t.data.toList.set i y).length = t.size := by rw [List.length_set]; rfl
  rw [← hl]
  refine run_convert_bytes_back _ 26 9 5 ⟨w.heap.size, 0, none⟩ cap (t.data.toList.set i y) Try.underlying26 Try.underlying5 Try.underlying9 ?_
  intro j hj
  have hjt : j < t.data.toList.length := by rw [List.length_set] at hj; exact hj
  rw [add_none]
  have hcell := Lib.bytesWorld_cell w 5 t j hjt
  by_cases hij : i = j
  · subst hij
    rw [World.cell?_setCell_same _ _ _ hcell]
    simp
  · rw [World.cell?_setCell_other _ _ _ _ (by intro e; injection e with _ h2; exact hij h2), hcell, List.getElem_set_ne hij]
    rw [List.getD_eq_getElem?_getD, List.getElem?_eq_getElem hjt]; rfl

theorem i64_of (n : Int) (h : (Lit.int .i64 n).wf = true) : -9223372036854775808 ≤ n ∧ n ≤ 9223372036854775807 := by
  simpa [Lit.wf, IntKind.min, IntKind.max, IntKind.bits, IntKind.signed] using h
theorem byte_of (n : Int) (h : (Lit.int .u8 n).wf = true) : ∃ y : UInt8, n = y.toNat := by
  have : 0 ≤ n ∧ n ≤ 255 := by simpa [Lit.wf, IntKind.min, IntKind.max, IntKind.bits, IntKind.signed] using h
  exact ⟨UInt8.ofNat n.toNat, by simp; omega⟩

set_option maxRecDepth 100000 in
set_option maxHeartbeats 1000000 in
theorem seal_walk (s : ByteArray) (at' : Int) (y : UInt8) (w : World) (hs : s.size ≤ 140737488351232) (h1 : -9223372036854775808 ≤ at') (h2 : at' ≤ 9223372036854775807) :
    Calls Try.prog 10 #[.string s, .int .i64 at', .int .u8 y.toNat] w fun e w' => e = .returned (.bool true) ∧ Below w.heap.size w w' := by
  go_enter Try.func10, Try.ntmps10
  go_wp2_with fail
  refine (fit_any w).mono ?_
  rintro e w1 ⟨rfl, hb1⟩
  go_wp2_with fail
  refine (seal_any s w1 (by omega)).mono ?_
  rintro e w2 ⟨rfl, hb2⟩
  obtain ⟨t, ht⟩ : ∃ t, str (Crc.sealL s.data.toList) = t := ⟨_, rfl⟩
  have htl : t.data.toList = Crc.sealL s.data.toList := by rw [← ht]; rfl
  have hts : t.size = s.size + 4 := by
    have : t.size = t.data.toList.length := rfl
    rw [this, htl, Crc.sealL_length]; rfl
  rw [ht]
  clear ht
  have hop := open_any t w2 (by omega)
  unfold OpenPost at hop
  rw [htl, Crc.open_seal] at hop
  have HOP := Lib.hid hop
  have HTL := Lib.hid htl
  have hne : ((t.size : Int) != (s.size : Int) + 4) = false := by rw [bne_eq_false_iff_eq]; omega
  have HTS := Lib.hid hts
  have hge : 4 ≤ t.size := by omega
  clear hop htl hts
  go_wp2_with fail
  refine HOP.out.mono ?_
  rintro e w3 ⟨rfl, hb3⟩
  rw [show str (s.data.toList, (0 : Int)).1 = s from rfl]
  have hup : (t.size : Int) ≤ 140737488351236 := by have := HTS.out; omega
  have hcv := Lib.run_convert_string_bytes (P := Try.prog) w3 9 26 5 t Try.underlying9 Try.underlying26 Try.underlying5
  generalize grownCap w3 t.size 0 5 = cap at hcv
  obtain ⟨m, hm⟩ : ∃ m : Nat, m = (max at' 0).toNat := ⟨_, rfl⟩
  obtain ⟨i, hi⟩ : ∃ i : Nat, i = min m (t.size - 1) := ⟨_, rfl⟩
  have hmax : max at' 0 = (m : Int) := by omega
  have hmin : min (m : Int) ((t.size : Int) - 1) = (i : Int) := by omega
  have hit : i < t.size := by omega
  have hit1 : (i : Int) < (t.size : Int) := by omega
  clear hm hi
  have hcell : (Lib.bytesWorld w3 5 t).cell? ⟨w3.heap.size, i, none⟩ = some (.int .u8 (t[i].toNat : Int)) := by
    rw [Lib.bytesWorld_cell w3 5 t i hit, List.getD_eq_getElem?_getD, List.getElem?_eq_getElem (show i < t.data.toList.length from hit)]; rfl
  have hfree := bytesWorld_free w3 5 t i hit
  have hback := conv_set w3 t i y cap hit
  have hb4 := bytesWorld_below w3 5 t
  have hb5 : Below w3.heap.size w3 ((Lib.bytesWorld w3 5 t).setCell ⟨w3.heap.size, i, none⟩ (.int .u8 y.toNat)) := hb4.setCell (p := ⟨w3.heap.size, i, none⟩) (Nat.le_refl _) _
  have HB := Lib.hid hb5
  clear hb4 hb5
  have hL : (str (t.data.toList.set i y)).size ≤ 281474976710660 := by
    rw [str_size, List.length_set]
    have : t.data.toList.length = t.size := rfl
    omega
  have hop2 : ∀ W, Calls Try.prog 30 #[.string (str (t.data.toList.set i y))] W (OpenPost (str (t.data.toList.set i y)) W) := fun W => open_any _ W hL
  have hop3 : ∀ W, Calls Try.prog 30 #[.string s] W (OpenPost s W) := fun W => open_any _ W (by omega)
  unfold OpenPost at hop2 hop3
  rw [str_data] at hop2
  have hch : y ≠ t[i] → Crc.openR (t.data.toList.set i y) = ([], 12) := by
    intro hy
    have e1 : t[i] = t.data.toList[i]'(show i < t.data.toList.length from hit) := rfl
    have h3 : i < (Crc.sealL s.data.toList).length := by rw [← HTL.out]; exact hit
    have e2 : t.data.toList[i]'(show i < t.data.toList.length from hit) = (Crc.sealL s.data.toList)[i]'h3 := by
      simp only [HTL.out]
    rw [HTL.out]
    exact Crc.open_changed s.data.toList h3 (by rw [← e2, ← e1]; exact hy)
  generalize Crc.openR (t.data.toList.set i y) = r1 at hop2 hch
  obtain ⟨u, f⟩ := r1
  have hcs1 : y = t[i] ∨ (y ≠ t[i] ∧ u = [] ∧ f = 12) := by
    by_cases hy : y = t[i]
    · exact .inl hy
    · have := hch hy
      injection this with h1 h2
      exact .inr ⟨hy, h1, h2⟩
  have H2 := Lib.hid hop2
  clear hop2 hch
  have hll : s.data.toList.length = s.size := rfl
  have hcs2 : (s.size < 4 ∧ Crc.openR s.data.toList = ([], 3)) ∨ (4 ≤ s.size ∧ ∃ v, Crc.openR s.data.toList = (v, 0) ∧ Crc.sealL v = s.data.toList ∧ v.length ≤ s.size) ∨ (4 ≤ s.size ∧ Crc.openR s.data.toList = ([], 12) ∧ Crc.sealL (s.data.toList.take (s.size - 4)) ≠ s.data.toList) := by
    by_cases h4 : s.size < 4
    · exact .inl ⟨h4, Crc.open_short (by omega)⟩
    · by_cases h0 : (Crc.openR s.data.toList).2 = 0
      · have := Crc.open_ok (by omega) h0
        refine .inr (.inl ⟨by omega, (Crc.openR s.data.toList).1, ?_, this, ?_⟩)
        · rw [← h0]
        · have := congrArg List.length this
          rw [Crc.sealL_length] at this
          omega
      · have := Crc.open_bad (l := s.data.toList) (by omega) h0
        rw [hll] at this
        exact .inr (.inr ⟨by omega, this.1, this.2⟩)
  clear hll
  have hfin : ∀ W, Below w3.heap.size w3 W → Below w.heap.size w W := by
    intro W h
    have s1 := hb1.size
    have s2 := hb2.size
    have s3 := hb3.size
    exact ((hb1.trans (hb2.mono s1)).trans (hb3.mono (by omega))).trans (h.mono (by omega))
  have HF := Lib.hid hfin
  have hsz3 : w3.heap.size ≤ ((Lib.bytesWorld w3 5 t).setCell ⟨w3.heap.size, i, none⟩ (.int .u8 y.toNat)).heap.size := HB.out.size
  clear hfin hb1 hb2 hb3
  go_wp2_with fail
  refine (H2.out _).mono ?_
  rintro e w6 ⟨rfl, hb6⟩
  have hfin6 := HF.out w6 (HB.out.trans (hb6.mono hsz3))
  have HF6 := Lib.hid hfin6
  clear hfin6 hb6 hsz3
  have H3 := Lib.hid (hop3 w6)
  have he0 : (str []).toList = [] := Lib.toList_data _
  have HC := Lib.hid hcs2
  clear hop3 hcs2
  have hstart : ∀ K : World → Prop, (((y.toNat : Int) != (t[i].toNat : Int)) = false → K w6) → (((y.toNat : Int) != (t[i].toNat : Int)) = true → u = [] → f = 12 → K w6) → K w6 := by
    intro K h1 h2
    rcases hcs1 with hy | ⟨hy, h3, h4⟩
    · exact h1 (by rw [hy]; simp)
    · exact h2 (by rw [bne_iff_ne]; intro e; exact hy (UInt8.toNat_inj.1 (by omega))) h3 h4
  clear hcs1
  refine hstart (fun W => _) (fun hyb => ?_) (fun hyb hu hf => ?_)
  all_goals
    try subst hu
    try subst hf
    go_wp2_with fail
    rcases HC.out with ⟨h4, hr⟩ | ⟨h4, v, hr, hsv, hvl⟩ | ⟨h4, hr, hns⟩
    · rw [hr] at H3
      refine H3.out.mono ?_
      rintro e w7 ⟨rfl, hb7⟩
      go_wp2_with fail
      go_ret
      exact ⟨rfl, HF6.out.trans (hb7.mono HF6.out.size)⟩
    · rw [hr] at H3
      have hEq : ((str (Crc.sealL (str v).data.toList)).toList == s.toList) = true := by rw [Lib.toList_data, Lib.toList_data, str_data, str_data, hsv]; simp
      have HE := Lib.hid hsv
      clear hsv hr
      refine H3.out.mono ?_
      rintro e w7 ⟨rfl, hb7⟩
      have hb7' := HF6.out.trans (hb7.mono HF6.out.size)
      go_wp2_with fail
      refine (seal_any (str v) w7 (by rw [str_size]; omega)).mono ?_
      rintro e w8 ⟨rfl, hb8⟩
      go_wp2_with fail
      go_ret
      exact ⟨rfl, hb7'.trans (hb8.mono hb7'.size)⟩
    · rw [hr] at H3
      have hext : (s.extract 0 (s.size - 4)).data.toList = s.data.toList.take (s.size - 4) := by rw [Lib.extract_data]; simp
      have hNe : ((str (Crc.sealL (s.data.toList.take (s.size - 4)))).toList == s.toList) = false := by
        rw [Lib.toList_data, Lib.toList_data, str_data]
        exact beq_eq_false_iff_ne.2 hns
      have HE := Lib.hid hext
      clear hns hr hext
      refine H3.out.mono ?_
      rintro e w7 ⟨rfl, hb7⟩
      have hb7' := HF6.out.trans (hb7.mono HF6.out.size)
      go_wp2_with fail
      refine (seal_any (s.extract 0 (s.size - 4)) w7 (by simp; omega)).mono ?_
      rintro e w8 ⟨rfl, hb8⟩
      rw [HE.out]
      go_wp2_with fail
      go_ret
      exact ⟨rfl, hb7'.trans (hb8.mono hb7'.size)⟩

end Go.Proofs.Ytjpcnnofjfmkeaa
