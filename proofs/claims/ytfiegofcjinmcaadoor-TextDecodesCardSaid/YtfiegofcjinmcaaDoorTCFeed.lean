/- The program's Decoder: what Feed and End return and leave. -/
import Derived.Test.YtfiegofcjinmcaaDoorTCUnf
import Derived.Test.YtfiegofcjinmcaaDoorTCRep
import Derived.Test.YtfiegofcjinmcaaDoorShCln
import Derived.Test.YtfiegofcjinmcaaDoorMem
namespace Go.Proofs.YtfiegofcjinmcaaDoor
open Go.RowKit

/-- A decoder in a variable: block b, its one field. -/
def Dec (w : World) (b : Nat) (r : List UInt8) : Prop := Whole w b #[.string (tstr r)] 31

theorem tclone_any (s : ByteArray) (w : World) (hs : s.size ≤ 20000) :
    Calls Tryd.prog 26 #[.string s] w fun e w' => e = .returned (.string s) ∧ Below w.heap.size w w' := by
  have hR := Tryd.clone s w (by omega)
  go_enter Tryd.func26, Tryd.ntmps26
  go_wp2_with fail
  refine hR.mono ?_
  rintro e w2 ⟨rfl, hb⟩
  go_wp2_with fail
  go_ret
  exact ⟨rfl, hb⟩

/-- The decoder's block turned, and new blocks. -/
theorem grown_of {w w1 w2 : World} {b : Nat} {v : Value} (h1 : Below w.heap.size w w1) (hb : b < w.heap.size) (h2 : Below (w1.setCell ⟨b, 0, none⟩ v).heap.size (w1.setCell ⟨b, 0, none⟩ v) w2) : w.grownBy w2 (some b) := by
  have hs : (w1.setCell ⟨b, 0, none⟩ v).heap.size = w1.heap.size := by simp [World.setCell]
  have hsz1 := h1.size
  have hsz2 := h2.size
  refine ⟨h2.os.trans h1.os, h2.tape.trans h1.tape, h2.output.trans h1.output, by omega, fun k hk hkb => ?_⟩
  rw [h2.block k (by omega), heap_setCell_other _ ⟨b, 0, none⟩ k _ (fun e => hkb (by rw [e])), h1.block k hk]

set_option maxRecDepth 100000 in
set_option maxHeartbeats 1000000 in
theorem tfeed_any (b : Nat) (r : List UInt8) (s : ByteArray) (w : World) (hr : r.length ≤ 10) (hs : s.size ≤ 9000) (h : Dec w b r) (hT : Lit w) :
    Calls Tryd.prog 15 #[.pointer (some ⟨b, 0, none⟩), .string s] w fun e w' =>
      ∃ l1 l2, r ++ s.data.toList = l1 ++ l2 ∧ Txt.Cut l1 l2 ∧ e = .returned (.string (tstr (Txt.rep l1))) ∧ Dec w' b l2 ∧ w.grownBy w' (some b) := by
  have hbl : b < w.heap.size := Whole.lt h
  have hc : w.cell? ⟨b, 0, none⟩ = some (.string (tstr r)) := Whole.cell h 0
  have hfz : w.frozen? ⟨b, 0, none⟩ = false := Whole.free h 0
  obtain ⟨A, hA⟩ : ∃ A, tstr r ++ s = A := ⟨_, rfl⟩
  have hrs : (tstr r).size = r.length := tstr_size r
  have hAs : A.size ≤ 9010 := by rw [← hA, ByteArray.size_append, hrs]; omega
  have hAd : A.data.toList = r ++ s.data.toList := by rw [← hA, ByteArray.data_append, Array.toList_append, tstr_data]
  have had : ∀ W : World, (Op.stringOp .add (tstr r) s).run Tryd.prog W = .ok (.string A) W := fun W => by rw [run_string_add_sum W _ _ (by omega), hA]
  have hAll : A.data.toList.length = A.size := rfl
  have hU := tunfinished_any A w (by omega) hT
  have HAd := Lib.hid hAd
  clear hA hAd
  go_enter Tryd.func15, Tryd.ntmps15
  go_wp2_with fail
  refine hU.mono ?_
  rintro e w1 ⟨⟨k, hk, hk3, rfl, hcut⟩, hb1⟩
  have HC := Lib.hid hcut
  obtain ⟨e1, e2⟩ := suffix_str A k hk
  obtain ⟨B, hB⟩ : ∃ B, A.extract (A.size - k) A.size = B := ⟨_, rfl⟩
  obtain ⟨D, hD⟩ : ∃ D, A.extract 0 (A.size - k) = D := ⟨_, rfl⟩
  have hDd : D.data.toList = A.data.toList.take (A.size - k) := by
    rw [← hD]
    have := textract A 0 (A.size - k)
    rw [Nat.zero_add, List.drop_zero] at this
    exact this
  have hDs : D.size = A.size - k := by rw [← hD, ByteArray.size_extract]; omega
  have hsl1 : ∀ W : World, (Instr.slice 9 (.string A) (some (.int .i64 ((A.size : Int) - (k : Int)))) none none).run Tryd.prog W = .ok (.string B) W := by
    intro W
    rw [run_slice_string_l (ht := Tryd.underlying9) (h0 := by omega) (h1 := by omega), show ((A.size : Int) - (k : Int)).toNat = A.size - k from by omega, hB]
  have hsl2 : ∀ W : World, (Instr.slice 9 (.string A) none (some (.int .i64 ((A.size : Int) - (k : Int)))) none).run Tryd.prog W = .ok (.string D) W := by
    intro W
    rw [run_slice_string_h (ht := Tryd.underlying9) (h0 := by omega) (h2 := by omega), show ((A.size : Int) - (k : Int)).toNat = A.size - k from by omega, hD]
  rw [hB] at e1 e2
  have HB := Lib.hid e1
  have HD := Lib.hid hDd
  have hsz1 := hb1.size
  clear hcut e1 hB hD hDd hU
  have hd1 : Whole w1 b #[.string (tstr r)] 31 := Whole.below h hb1 hbl
  go_wp2_with fail
  refine (tclone_any B w1 (by omega)).mono ?_
  rintro e w2 ⟨rfl, hb2⟩
  have hd2 := hd1.below hb2 hd1.lt
  have hc2 : w2.cell? ⟨b, 0, none⟩ = some (.string (tstr r)) := hd2.cell 0
  have hf2 : w2.frozen? ⟨b, 0, none⟩ = false := hd2.free 0
  have hb12 : Below w.heap.size w w2 := hb1.trans (hb2.mono hsz1)
  have hT2 : Lit w2 := hT.below hb12
  have hT3 : Lit (w2.setCell ⟨b, 0, none⟩ (.string B)) := by
    have hbc : ∀ a v, w2.cell? a = some v → (∀ t, v ≠ .string t) → (w2.setCell ⟨b, 0, none⟩ (.string B)).cell? a = some v := by
      intro a v ha hv
      rw [World.cell?_setCell_other _ _ _ _ (fun e => by subst e; rw [hc2] at ha; exact hv _ (Option.some.inj ha).symm)]
      exact ha
    exact ⟨fun c hc => hbc _ _ (hT2.1 c hc) (fun t e => by cases e), fun i hi => ⟨hbc _ _ (hT2.2 i hi).1 (fun t e => by cases e), hbc _ _ (hT2.2 i hi).2 (fun t e => by cases e)⟩⟩
  have hd3 : Whole (w2.setCell ⟨b, 0, none⟩ (.string B)) b #[.string B] 31 := Whole.put hd2 0 (.string B)
  clear hc hfz
  go_wp2_with fail
  refine (trepair_any D _ (by omega) hT3).mono ?_
  rintro e w4 ⟨rfl, hb4⟩
  go_wp2_with fail
  go_ret
  refine ⟨A.data.toList.take (A.size - k), A.data.toList.drop (A.size - k), ?_, HC.out, ?_, ?_, grown_of hb12 hbl hb4⟩
  · rw [← HAd.out, List.take_append_drop]
  · rw [HD.out]; rfl
  · have := hd3.below hb4 hd3.lt
    rw [← tstr_of B, HB.out] at this
    exact this

set_option maxHeartbeats 1000000 in
theorem tend_any (b : Nat) (r : List UInt8) (w : World) (hr : r.length ≤ 10) (h : Dec w b r) (hT : Lit w) :
    Calls Tryd.prog 16 #[.pointer (some ⟨b, 0, none⟩)] w fun e w' => e = .returned (.string (tstr (Txt.rep r))) ∧ Dec w' b [] ∧ w.grownBy w' (some b) := by
  have hbl : b < w.heap.size := Whole.lt h
  have hc : w.cell? ⟨b, 0, none⟩ = some (.string (tstr r)) := Whole.cell h 0
  have hfz : w.frozen? ⟨b, 0, none⟩ = false := Whole.free h 0
  have hR := trepair_any (tstr r) w (by rw [tstr_size]; omega) hT
  rw [tstr_data] at hR
  go_enter Tryd.func16, Tryd.ntmps16
  go_wp2_with fail
  refine hR.mono ?_
  rintro e w2 ⟨rfl, hb2⟩
  have hd2 := Whole.below h hb2 hbl
  have hc2 : w2.cell? ⟨b, 0, none⟩ = some (.string (tstr r)) := Whole.cell hd2 0
  have hf2 : w2.frozen? ⟨b, 0, none⟩ = false := Whole.free hd2 0
  have hd3 : Whole (w2.setCell ⟨b, 0, none⟩ (.string ⟨#[]⟩)) b #[.string ⟨#[]⟩] 31 := Whole.put hd2 0 (.string ⟨#[]⟩)
  clear hc hfz
  go_wp2_with fail
  go_ret
  exact ⟨rfl, hd3, grown_of hb2 hbl (Below.refl _ _)⟩

end Go.Proofs.YtfiegofcjinmcaaDoor
