/- The program's readNormal returns what the plain text says. -/
import Derived.Lib.MinMax
import Derived.Test.YtckmlbcpldpkpaaGreatDoorKC
import Derived.Test.YtckmlbcpldpkpaaGreatDoorKE
namespace Go.Proofs.YtckmlbcpldpkpaaGreatDoor
open Go Go.RowKit
set_option linter.unusedVariables false

set_option maxRecDepth 100000 in
set_option maxHeartbeats 2000000 in
theorem knor_comment (s : ByteArray) (c : Bool) (w : World) (hE : Env w) (hs : s.size ≤ 20000) (hc : [60, 33, 45, 45].isPrefixOf s.data.toList = true) :
    Calls Tryz.prog 73 #[.string s, .bool c] w fun e w' => RdOk w' w.heap.size (Mk.upto [45, 45, 62] 4 4 c s.data.toList) e ∧ Below w.heap.size w w' := by
  have hW : Whole (w.alloc (.cells #[.int .i64 0, .string ⟨#[]⟩, .slice none 0 0, .bool false, .string ⟨#[]⟩] 30)) w.heap.size #[.int .i64 0, .string ⟨#[]⟩, .slice none 0 0, .bool false, .string ⟨#[]⟩] 30 := Whole.new _ _ _
  have hB : Below w.heap.size w (w.alloc (.cells #[.int .i64 0, .string ⟨#[]⟩, .slice none 0 0, .bool false, .string ⟨#[]⟩] 30)) := (Below.refl _ _).alloc (Nat.le_refl _) _
  generalize hW1 : w.alloc (.cells #[.int .i64 0, .string ⟨#[]⟩, .slice none 0 0, .bool false, .string ⟨#[]⟩] 30) = W1 at hW hB
  have hlen : 4 ≤ s.size := by have := (List.isPrefixOf_iff_prefix.1 hc).length_le; exact this
  obtain ⟨x9, hx9⟩ : ∃ x, Mk.upto [45, 45, 62] 4 4 c s.data.toList = x := ⟨_, rfl⟩
  have hfin : ∀ W : World, Below w.heap.size w W → Calls Tryz.prog 84 #[.string ⟨#[45, 45, 62]⟩, .int .i64 4, .string s, .int .i64 4, .bool c] W fun e w' => RdOk w' W.heap.size x9 e ∧ Below W.heap.size W w' := fun W hB => by
    rw [← hx9]; exact kupto_any ⟨#[45, 45, 62]⟩ 4 4 s c W (hE.below hB).max hs (by decide) hlen (by decide)
  rw [hx9]
  obtain ⟨o9, n9⟩ := x9
  clear hx9
  have hp1 : ∀ W : World, Calls Tryz.prog 83 #[.string s, .string ⟨#[60, 33, 45, 45]⟩] W fun e w' => e = .returned (.bool true) ∧ w' = W := fun W => by
    have := Tryz.hasPrefix s ⟨#[60, 33, 45, 45]⟩ W
    rw [show Lib.hasPrefix s.data.toList (⟨#[60, 33, 45, 45]⟩ : ByteArray).data.toList = [60, 33, 45, 45].isPrefixOf s.data.toList from rfl, hc] at this
    exact this
  clear hc
  go_enter Tryz.func73, Tryz.ntmps73
  go_wp2_with fail
  refine (hp1 _).mono ?_
  clear hp1
  rintro e w9 ⟨rfl, rfl⟩
  try clear hW1
  have hcall := hfin _ hB
  clear hfin
  go_wp2_with fail
  refine hcall.mono ?_
  clear hcall
  rintro e w2 ⟨⟨sl, hA, rfl⟩, hb2⟩
  have hW2 := hW.below hb2 hW.lt
  have hB2 := hB.trans (hb2.mono hB.size)
  have hA2 := hA.mono' (base' := w.heap.size) hB.size
  clear hW hB hb2 hA
  obtain ⟨T9, hT9⟩ : ∃ T, o9.getD Mk.zeroTok = T := ⟨_, rfl⟩
  rw [hT9] at hA2 ⊢
  have HT := Lib.hid hT9
  clear hT9
  unfold tokT
  obtain ⟨kd, nm9, ats, cl, tx⟩ := T9
  simp only at hA2 ⊢
  obtain ⟨A9, cp9, rfl⟩ := hA2.form
  obtain ⟨f0, f1, f2, f3, f4⟩ := tok_free hW2
  obtain ⟨d0, d1, d2, d3, d4⟩ := tok_cells hW2
  go_wp2_with fail
  obtain ⟨X9, hX9, r9, g9⟩ := box5 hW2 (.int .i64 kd) (.string (tstr nm9)) (.slice A9 ats.length cp9) (.bool cl) (.string (tstr tx))
  rw [hX9]
  obtain ⟨c0, c1, c2, c3, c4⟩ := tok_cells r9
  have hB9 := below_box hB2 g9 (Nat.le_refl _)
  have hA9 := hA2.grown g9 (.inr (hA2.apart hW2 (by decide)))
  clear d0 d1 d2 d3 d4 f0 f1 f2 f3 f4 hX9
  refine bodyPost_ret (v := .tuple #[.agg #[.int .i64 kd, .string (tstr nm9), .slice A9 ats.length cp9, .bool cl, .string (tstr tx)], .int .i64 n9]) ?_ rfl ⟨?_, hB9⟩
  · simp [results, Tryz.f73, go_sem, c0, c1, c2, c3, c4]
  · exact RdOk.mk _ n9 _ HT.out hA9 rfl

set_option maxRecDepth 100000 in
set_option maxHeartbeats 2000000 in
theorem knor_end (s : ByteArray) (c : Bool) (w : World) (hE : Env w) (hs : s.size ≤ 20000) (hc : [60, 33, 45, 45].isPrefixOf s.data.toList = false) (hdoc : ((s.data.toList.take 9).map Txt.lo == [60, 33, 100, 111, 99, 116, 121, 112, 101]) = false) (he : [60, 47].isPrefixOf s.data.toList = true) (h2 : 2 < s.size) (hL : Ent.isL s[2] = true) :
    Calls Tryz.prog 73 #[.string s, .bool c] w fun e w' => RdOk w' w.heap.size (Mk.rdEnd c s.data.toList) e ∧ Below w.heap.size w w' := by
  have hW : Whole (w.alloc (.cells #[.int .i64 0, .string ⟨#[]⟩, .slice none 0 0, .bool false, .string ⟨#[]⟩] 30)) w.heap.size #[.int .i64 0, .string ⟨#[]⟩, .slice none 0 0, .bool false, .string ⟨#[]⟩] 30 := Whole.new _ _ _
  have hB : Below w.heap.size w (w.alloc (.cells #[.int .i64 0, .string ⟨#[]⟩, .slice none 0 0, .bool false, .string ⟨#[]⟩] 30)) := (Below.refl _ _).alloc (Nat.le_refl _) _
  generalize hW1 : w.alloc (.cells #[.int .i64 0, .string ⟨#[]⟩, .slice none 0 0, .bool false, .string ⟨#[]⟩] 30) = W1 at hW hB
  obtain ⟨x9, hx9⟩ : ∃ x, Mk.rdEnd c s.data.toList = x := ⟨_, rfl⟩
  have hfin : ∀ W : World, Below w.heap.size w W → Calls Tryz.prog 81 #[.string s, .bool c] W fun e w' => RdOk w' W.heap.size x9 e ∧ Below W.heap.size W w' := fun W hB => by
    rw [← hx9]; exact kreadend_any s c W hs he
  rw [hx9]
  obtain ⟨o9, n9⟩ := x9
  clear hx9
  have hp1 : ∀ W : World, Calls Tryz.prog 83 #[.string s, .string ⟨#[60, 33, 45, 45]⟩] W fun e w' => e = .returned (.bool false) ∧ w' = W := fun W => by
    have := Tryz.hasPrefix s ⟨#[60, 33, 45, 45]⟩ W
    rw [show Lib.hasPrefix s.data.toList (⟨#[60, 33, 45, 45]⟩ : ByteArray).data.toList = [60, 33, 45, 45].isPrefixOf s.data.toList from rfl, hc] at this
    exact this
  clear hc
  have hlow := fun W => tlower_any (tstr (s.data.toList.take 9)) W (by rw [tstr_size, List.length_take]; omega)
  rw [tstr_data] at hlow
  have sl1 : ∀ V : World, (Instr.slice 9 (.string s) none (some (.int .i64 (min (s.size : Int) 9))) none).run Tryz.prog V = .ok (.string (tstr (s.data.toList.take 9))) V := fun V => by
    have hx : s.data.toList.take (min s.size 9) = s.data.toList.take 9 := by
      rw [List.take_eq_take_iff, show s.data.toList.length = s.size from rfl]; omega
    rw [run_slice_string_h (ht := Tryz.underlying9) (h0 := by omega) (h2 := by omega), show (min (s.size : Int) 9).toNat = min s.size 9 from by omega, str_take s (min s.size 9) (by omega), hx]
  have hdq : ((tstr ((s.data.toList.take 9).map Txt.lo)).toList == [60, 33, 100, 111, 99, 116, 121, 112, 101]) = false := by
    rw [Lib.toList_data, tstr_data]; exact hdoc
  generalize tstr (s.data.toList.take 9) = L9 at hlow sl1
  generalize tstr ((s.data.toList.take 9).map Txt.lo) = Q9 at hlow hdq
  clear hdoc
  have hp2 : ∀ W : World, Calls Tryz.prog 83 #[.string s, .string ⟨#[60, 47]⟩] W fun e w' => e = .returned (.bool true) ∧ w' = W := fun W => by
    have := Tryz.hasPrefix s ⟨#[60, 47]⟩ W
    rw [show Lib.hasPrefix s.data.toList (⟨#[60, 47]⟩ : ByteArray).data.toList = [60, 47].isPrefixOf s.data.toList from rfl, he] at this
    exact this
  have hle : ∀ W : World, Calls Tryz.prog 87 #[.int .u8 s[2].toNat] W fun e w' => e = .returned (.bool true) ∧ W = w' := fun W => by
    have := kletter_any s[2] W
    rw [hL] at this
    exact this
  have h2' : (2 : Int) < (s.size : Int) := by omega
  go_enter Tryz.func73, Tryz.ntmps73
  go_wp2_with fail
  refine (hp1 _).mono ?_
  clear hp1
  rintro e w9 ⟨rfl, rfl⟩
  go_wp2_with fail
  refine (hlow _).mono ?_
  clear hlow
  rintro e w2 ⟨rfl, hb1⟩
  clear hW1
  have hW1 := hW.below hb1 hW.lt
  have hB1 := hB.trans (hb1.mono hB.size)
  clear hW hB hb1 sl1
  have hW := hW1
  have hB := hB1
  clear hW1 hB1
  go_wp2_with fail
  refine (hp2 _).mono ?_
  clear hp2
  rintro e w9 ⟨rfl, rfl⟩
  go_wp2_with fail
  refine (hle _).mono ?_
  clear hle
  rintro e w9 ⟨rfl, rfl⟩
  try clear hW1
  have hcall := hfin _ hB
  clear hfin
  go_wp2_with fail
  refine hcall.mono ?_
  clear hcall
  rintro e w2 ⟨⟨sl, hA, rfl⟩, hb2⟩
  have hW2 := hW.below hb2 hW.lt
  have hB2 := hB.trans (hb2.mono hB.size)
  have hA2 := hA.mono' (base' := w.heap.size) hB.size
  clear hW hB hb2 hA
  obtain ⟨T9, hT9⟩ : ∃ T, o9.getD Mk.zeroTok = T := ⟨_, rfl⟩
  rw [hT9] at hA2 ⊢
  have HT := Lib.hid hT9
  clear hT9
  unfold tokT
  obtain ⟨kd, nm9, ats, cl, tx⟩ := T9
  simp only at hA2 ⊢
  obtain ⟨A9, cp9, rfl⟩ := hA2.form
  obtain ⟨f0, f1, f2, f3, f4⟩ := tok_free hW2
  obtain ⟨d0, d1, d2, d3, d4⟩ := tok_cells hW2
  go_wp2_with fail
  obtain ⟨X9, hX9, r9, g9⟩ := box5 hW2 (.int .i64 kd) (.string (tstr nm9)) (.slice A9 ats.length cp9) (.bool cl) (.string (tstr tx))
  rw [hX9]
  obtain ⟨c0, c1, c2, c3, c4⟩ := tok_cells r9
  have hB9 := below_box hB2 g9 (Nat.le_refl _)
  have hA9 := hA2.grown g9 (.inr (hA2.apart hW2 (by decide)))
  clear d0 d1 d2 d3 d4 f0 f1 f2 f3 f4 hX9
  refine bodyPost_ret (v := .tuple #[.agg #[.int .i64 kd, .string (tstr nm9), .slice A9 ats.length cp9, .bool cl, .string (tstr tx)], .int .i64 n9]) ?_ rfl ⟨?_, hB9⟩
  · simp [results, Tryz.f73, go_sem, c0, c1, c2, c3, c4]
  · exact RdOk.mk _ n9 _ HT.out hA9 rfl

set_option maxRecDepth 100000 in
set_option maxHeartbeats 2000000 in
theorem knor_none (s : ByteArray) (c : Bool) (w : World) (hE : Env w) (hs : s.size ≤ 20000) (hc : [60, 33, 45, 45].isPrefixOf s.data.toList = false) (hdoc : ((s.data.toList.take 9).map Txt.lo == [60, 33, 100, 111, 99, 116, 121, 112, 101]) = false) (he : [60, 47].isPrefixOf s.data.toList = true) (h2 : 2 < s.size) (hL : Ent.isL s[2] = false) (hg : [60, 47, 62].isPrefixOf s.data.toList = true) :
    Calls Tryz.prog 73 #[.string s, .bool c] w fun e w' => RdOk w' w.heap.size ((none, 3)) e ∧ Below w.heap.size w w' := by
  have hW : Whole (w.alloc (.cells #[.int .i64 0, .string ⟨#[]⟩, .slice none 0 0, .bool false, .string ⟨#[]⟩] 30)) w.heap.size #[.int .i64 0, .string ⟨#[]⟩, .slice none 0 0, .bool false, .string ⟨#[]⟩] 30 := Whole.new _ _ _
  have hB : Below w.heap.size w (w.alloc (.cells #[.int .i64 0, .string ⟨#[]⟩, .slice none 0 0, .bool false, .string ⟨#[]⟩] 30)) := (Below.refl _ _).alloc (Nat.le_refl _) _
  generalize hW1 : w.alloc (.cells #[.int .i64 0, .string ⟨#[]⟩, .slice none 0 0, .bool false, .string ⟨#[]⟩] 30) = W1 at hW hB
  have hp1 : ∀ W : World, Calls Tryz.prog 83 #[.string s, .string ⟨#[60, 33, 45, 45]⟩] W fun e w' => e = .returned (.bool false) ∧ w' = W := fun W => by
    have := Tryz.hasPrefix s ⟨#[60, 33, 45, 45]⟩ W
    rw [show Lib.hasPrefix s.data.toList (⟨#[60, 33, 45, 45]⟩ : ByteArray).data.toList = [60, 33, 45, 45].isPrefixOf s.data.toList from rfl, hc] at this
    exact this
  clear hc
  have hlow := fun W => tlower_any (tstr (s.data.toList.take 9)) W (by rw [tstr_size, List.length_take]; omega)
  rw [tstr_data] at hlow
  have sl1 : ∀ V : World, (Instr.slice 9 (.string s) none (some (.int .i64 (min (s.size : Int) 9))) none).run Tryz.prog V = .ok (.string (tstr (s.data.toList.take 9))) V := fun V => by
    have hx : s.data.toList.take (min s.size 9) = s.data.toList.take 9 := by
      rw [List.take_eq_take_iff, show s.data.toList.length = s.size from rfl]; omega
    rw [run_slice_string_h (ht := Tryz.underlying9) (h0 := by omega) (h2 := by omega), show (min (s.size : Int) 9).toNat = min s.size 9 from by omega, str_take s (min s.size 9) (by omega), hx]
  have hdq : ((tstr ((s.data.toList.take 9).map Txt.lo)).toList == [60, 33, 100, 111, 99, 116, 121, 112, 101]) = false := by
    rw [Lib.toList_data, tstr_data]; exact hdoc
  generalize tstr (s.data.toList.take 9) = L9 at hlow sl1
  generalize tstr ((s.data.toList.take 9).map Txt.lo) = Q9 at hlow hdq
  clear hdoc
  have hp2 : ∀ W : World, Calls Tryz.prog 83 #[.string s, .string ⟨#[60, 47]⟩] W fun e w' => e = .returned (.bool true) ∧ w' = W := fun W => by
    have := Tryz.hasPrefix s ⟨#[60, 47]⟩ W
    rw [show Lib.hasPrefix s.data.toList (⟨#[60, 47]⟩ : ByteArray).data.toList = [60, 47].isPrefixOf s.data.toList from rfl, he] at this
    exact this
  have hle : ∀ W : World, Calls Tryz.prog 87 #[.int .u8 s[2].toNat] W fun e w' => e = .returned (.bool false) ∧ W = w' := fun W => by
    have := kletter_any s[2] W
    rw [hL] at this
    exact this
  have h2' : (2 : Int) < (s.size : Int) := by omega
  have hp3 : ∀ W : World, Calls Tryz.prog 83 #[.string s, .string ⟨#[60, 47, 62]⟩] W fun e w' => e = .returned (.bool true) ∧ w' = W := fun W => by
    have := Tryz.hasPrefix s ⟨#[60, 47, 62]⟩ W
    rw [show Lib.hasPrefix s.data.toList (⟨#[60, 47, 62]⟩ : ByteArray).data.toList = [60, 47, 62].isPrefixOf s.data.toList from rfl, hg] at this
    exact this
  clear he hg hL
  go_enter Tryz.func73, Tryz.ntmps73
  go_wp2_with fail
  refine (hp1 _).mono ?_
  clear hp1
  rintro e w9 ⟨rfl, rfl⟩
  go_wp2_with fail
  refine (hlow _).mono ?_
  clear hlow
  rintro e w2 ⟨rfl, hb1⟩
  clear hW1
  have hW1 := hW.below hb1 hW.lt
  have hB1 := hB.trans (hb1.mono hB.size)
  clear hW hB hb1 sl1
  have hW := hW1
  have hB := hB1
  clear hW1 hB1
  go_wp2_with fail
  refine (hp2 _).mono ?_
  clear hp2
  rintro e w9 ⟨rfl, rfl⟩
  go_wp2_with fail
  refine (hle _).mono ?_
  clear hle
  rintro e w9 ⟨rfl, rfl⟩
  go_wp2_with fail
  refine (hp3 _).mono ?_
  clear hp3
  rintro e w9 ⟨rfl, rfl⟩
  obtain ⟨f0, f1, f2, f3, f4⟩ := tok_free hW
  obtain ⟨d0, d1, d2, d3, d4⟩ := tok_cells hW
  go_wp2_with fail
  obtain ⟨X9, hX9, r9, g9⟩ := box5 hW (.int .i64 0) (.string ⟨#[]⟩) (.slice none 0 0) (.bool false) (.string ⟨#[]⟩)
  rw [hX9]
  obtain ⟨c0, c1, c2, c3, c4⟩ := tok_cells r9
  have hB9 := below_box hB g9 (Nat.le_refl _)
  clear d0 d1 d2 d3 d4 f0 f1 f2 f3 f4 hX9
  refine bodyPost_ret (v := .tuple #[.agg #[.int .i64 0, .string ⟨#[]⟩, .slice none 0 0, .bool false, .string ⟨#[]⟩], .int .i64 3]) ?_ rfl ⟨?_, hB9⟩
  · simp [results, Tryz.f73, go_sem, c0, c1, c2, c3, c4]
  · exact RdOk.no 3 rfl rfl

set_option maxRecDepth 100000 in
set_option maxHeartbeats 2000000 in
theorem knor_slashA (s : ByteArray) (c : Bool) (w : World) (hE : Env w) (hs : s.size ≤ 20000) (hc : [60, 33, 45, 45].isPrefixOf s.data.toList = false) (hdoc : ((s.data.toList.take 9).map Txt.lo == [60, 33, 100, 111, 99, 116, 121, 112, 101]) = false) (he : [60, 47].isPrefixOf s.data.toList = true) (h2 : 2 < s.size) (hL : Ent.isL s[2] = false) (hg : [60, 47, 62].isPrefixOf s.data.toList = false) :
    Calls Tryz.prog 73 #[.string s, .bool c] w fun e w' => RdOk w' w.heap.size (Mk.upto [62] 4 2 c s.data.toList) e ∧ Below w.heap.size w w' := by
  have hW : Whole (w.alloc (.cells #[.int .i64 0, .string ⟨#[]⟩, .slice none 0 0, .bool false, .string ⟨#[]⟩] 30)) w.heap.size #[.int .i64 0, .string ⟨#[]⟩, .slice none 0 0, .bool false, .string ⟨#[]⟩] 30 := Whole.new _ _ _
  have hB : Below w.heap.size w (w.alloc (.cells #[.int .i64 0, .string ⟨#[]⟩, .slice none 0 0, .bool false, .string ⟨#[]⟩] 30)) := (Below.refl _ _).alloc (Nat.le_refl _) _
  generalize hW1 : w.alloc (.cells #[.int .i64 0, .string ⟨#[]⟩, .slice none 0 0, .bool false, .string ⟨#[]⟩] 30) = W1 at hW hB
  have hlen : 2 ≤ s.size := by have := (List.isPrefixOf_iff_prefix.1 he).length_le; exact this
  obtain ⟨x9, hx9⟩ : ∃ x, Mk.upto [62] 4 2 c s.data.toList = x := ⟨_, rfl⟩
  have hfin : ∀ W : World, Below w.heap.size w W → Calls Tryz.prog 84 #[.string ⟨#[62]⟩, .int .i64 4, .string s, .int .i64 2, .bool c] W fun e w' => RdOk w' W.heap.size x9 e ∧ Below W.heap.size W w' := fun W hB => by
    rw [← hx9]; exact kupto_any ⟨#[62]⟩ 4 2 s c W (hE.below hB).max hs (by decide) hlen (by decide)
  rw [hx9]
  obtain ⟨o9, n9⟩ := x9
  clear hx9
  have hp1 : ∀ W : World, Calls Tryz.prog 83 #[.string s, .string ⟨#[60, 33, 45, 45]⟩] W fun e w' => e = .returned (.bool false) ∧ w' = W := fun W => by
    have := Tryz.hasPrefix s ⟨#[60, 33, 45, 45]⟩ W
    rw [show Lib.hasPrefix s.data.toList (⟨#[60, 33, 45, 45]⟩ : ByteArray).data.toList = [60, 33, 45, 45].isPrefixOf s.data.toList from rfl, hc] at this
    exact this
  clear hc
  have hlow := fun W => tlower_any (tstr (s.data.toList.take 9)) W (by rw [tstr_size, List.length_take]; omega)
  rw [tstr_data] at hlow
  have sl1 : ∀ V : World, (Instr.slice 9 (.string s) none (some (.int .i64 (min (s.size : Int) 9))) none).run Tryz.prog V = .ok (.string (tstr (s.data.toList.take 9))) V := fun V => by
    have hx : s.data.toList.take (min s.size 9) = s.data.toList.take 9 := by
      rw [List.take_eq_take_iff, show s.data.toList.length = s.size from rfl]; omega
    rw [run_slice_string_h (ht := Tryz.underlying9) (h0 := by omega) (h2 := by omega), show (min (s.size : Int) 9).toNat = min s.size 9 from by omega, str_take s (min s.size 9) (by omega), hx]
  have hdq : ((tstr ((s.data.toList.take 9).map Txt.lo)).toList == [60, 33, 100, 111, 99, 116, 121, 112, 101]) = false := by
    rw [Lib.toList_data, tstr_data]; exact hdoc
  generalize tstr (s.data.toList.take 9) = L9 at hlow sl1
  generalize tstr ((s.data.toList.take 9).map Txt.lo) = Q9 at hlow hdq
  clear hdoc
  have hp2 : ∀ W : World, Calls Tryz.prog 83 #[.string s, .string ⟨#[60, 47]⟩] W fun e w' => e = .returned (.bool true) ∧ w' = W := fun W => by
    have := Tryz.hasPrefix s ⟨#[60, 47]⟩ W
    rw [show Lib.hasPrefix s.data.toList (⟨#[60, 47]⟩ : ByteArray).data.toList = [60, 47].isPrefixOf s.data.toList from rfl, he] at this
    exact this
  have hp4 : ∀ W : World, Calls Tryz.prog 83 #[.string s, .string ⟨#[60, 47]⟩] W fun e w' => e = .returned (.bool true) ∧ w' = W := fun W => by
    have := Tryz.hasPrefix s ⟨#[60, 47]⟩ W
    rw [show Lib.hasPrefix s.data.toList (⟨#[60, 47]⟩ : ByteArray).data.toList = [60, 47].isPrefixOf s.data.toList from rfl, he] at this
    exact this
  have hle : ∀ W : World, Calls Tryz.prog 87 #[.int .u8 s[2].toNat] W fun e w' => e = .returned (.bool false) ∧ W = w' := fun W => by
    have := kletter_any s[2] W
    rw [hL] at this
    exact this
  have h2' : (2 : Int) < (s.size : Int) := by omega
  have hp3 : ∀ W : World, Calls Tryz.prog 83 #[.string s, .string ⟨#[60, 47, 62]⟩] W fun e w' => e = .returned (.bool false) ∧ w' = W := fun W => by
    have := Tryz.hasPrefix s ⟨#[60, 47, 62]⟩ W
    rw [show Lib.hasPrefix s.data.toList (⟨#[60, 47, 62]⟩ : ByteArray).data.toList = [60, 47, 62].isPrefixOf s.data.toList from rfl, hg] at this
    exact this
  clear he hg hL
  go_enter Tryz.func73, Tryz.ntmps73
  go_wp2_with fail
  refine (hp1 _).mono ?_
  clear hp1
  rintro e w9 ⟨rfl, rfl⟩
  go_wp2_with fail
  refine (hlow _).mono ?_
  clear hlow
  rintro e w2 ⟨rfl, hb1⟩
  clear hW1
  have hW1 := hW.below hb1 hW.lt
  have hB1 := hB.trans (hb1.mono hB.size)
  clear hW hB hb1 sl1
  have hW := hW1
  have hB := hB1
  clear hW1 hB1
  go_wp2_with fail
  refine (hp2 _).mono ?_
  clear hp2
  rintro e w9 ⟨rfl, rfl⟩
  go_wp2_with fail
  refine (hle _).mono ?_
  clear hle
  rintro e w9 ⟨rfl, rfl⟩
  go_wp2_with fail
  refine (hp3 _).mono ?_
  clear hp3
  rintro e w9 ⟨rfl, rfl⟩
  go_wp2_with fail
  refine (hp4 _).mono ?_
  clear hp4
  rintro e w9 ⟨rfl, rfl⟩
  try clear hW1
  have hcall := hfin _ hB
  clear hfin
  go_wp2_with fail
  refine hcall.mono ?_
  clear hcall
  rintro e w2 ⟨⟨sl, hA, rfl⟩, hb2⟩
  have hW2 := hW.below hb2 hW.lt
  have hB2 := hB.trans (hb2.mono hB.size)
  have hA2 := hA.mono' (base' := w.heap.size) hB.size
  clear hW hB hb2 hA
  obtain ⟨T9, hT9⟩ : ∃ T, o9.getD Mk.zeroTok = T := ⟨_, rfl⟩
  rw [hT9] at hA2 ⊢
  have HT := Lib.hid hT9
  clear hT9
  unfold tokT
  obtain ⟨kd, nm9, ats, cl, tx⟩ := T9
  simp only at hA2 ⊢
  obtain ⟨A9, cp9, rfl⟩ := hA2.form
  obtain ⟨f0, f1, f2, f3, f4⟩ := tok_free hW2
  obtain ⟨d0, d1, d2, d3, d4⟩ := tok_cells hW2
  go_wp2_with fail
  obtain ⟨X9, hX9, r9, g9⟩ := box5 hW2 (.int .i64 kd) (.string (tstr nm9)) (.slice A9 ats.length cp9) (.bool cl) (.string (tstr tx))
  rw [hX9]
  obtain ⟨c0, c1, c2, c3, c4⟩ := tok_cells r9
  have hB9 := below_box hB2 g9 (Nat.le_refl _)
  have hA9 := hA2.grown g9 (.inr (hA2.apart hW2 (by decide)))
  clear d0 d1 d2 d3 d4 f0 f1 f2 f3 f4 hX9
  refine bodyPost_ret (v := .tuple #[.agg #[.int .i64 kd, .string (tstr nm9), .slice A9 ats.length cp9, .bool cl, .string (tstr tx)], .int .i64 n9]) ?_ rfl ⟨?_, hB9⟩
  · simp [results, Tryz.f73, go_sem, c0, c1, c2, c3, c4]
  · exact RdOk.mk _ n9 _ HT.out hA9 rfl

set_option maxRecDepth 100000 in
set_option maxHeartbeats 2000000 in
theorem knor_slashB (s : ByteArray) (c : Bool) (w : World) (hE : Env w) (hs : s.size ≤ 20000) (hc : [60, 33, 45, 45].isPrefixOf s.data.toList = false) (hdoc : ((s.data.toList.take 9).map Txt.lo == [60, 33, 100, 111, 99, 116, 121, 112, 101]) = false) (he : [60, 47].isPrefixOf s.data.toList = true) (h2 : ¬ 2 < s.size) (hg : [60, 47, 62].isPrefixOf s.data.toList = false) :
    Calls Tryz.prog 73 #[.string s, .bool c] w fun e w' => RdOk w' w.heap.size (Mk.upto [62] 4 2 c s.data.toList) e ∧ Below w.heap.size w w' := by
  have hW : Whole (w.alloc (.cells #[.int .i64 0, .string ⟨#[]⟩, .slice none 0 0, .bool false, .string ⟨#[]⟩] 30)) w.heap.size #[.int .i64 0, .string ⟨#[]⟩, .slice none 0 0, .bool false, .string ⟨#[]⟩] 30 := Whole.new _ _ _
  have hB : Below w.heap.size w (w.alloc (.cells #[.int .i64 0, .string ⟨#[]⟩, .slice none 0 0, .bool false, .string ⟨#[]⟩] 30)) := (Below.refl _ _).alloc (Nat.le_refl _) _
  generalize hW1 : w.alloc (.cells #[.int .i64 0, .string ⟨#[]⟩, .slice none 0 0, .bool false, .string ⟨#[]⟩] 30) = W1 at hW hB
  have hlen : 2 ≤ s.size := by have := (List.isPrefixOf_iff_prefix.1 he).length_le; exact this
  obtain ⟨x9, hx9⟩ : ∃ x, Mk.upto [62] 4 2 c s.data.toList = x := ⟨_, rfl⟩
  have hfin : ∀ W : World, Below w.heap.size w W → Calls Tryz.prog 84 #[.string ⟨#[62]⟩, .int .i64 4, .string s, .int .i64 2, .bool c] W fun e w' => RdOk w' W.heap.size x9 e ∧ Below W.heap.size W w' := fun W hB => by
    rw [← hx9]; exact kupto_any ⟨#[62]⟩ 4 2 s c W (hE.below hB).max hs (by decide) hlen (by decide)
  rw [hx9]
  obtain ⟨o9, n9⟩ := x9
  clear hx9
  have hp1 : ∀ W : World, Calls Tryz.prog 83 #[.string s, .string ⟨#[60, 33, 45, 45]⟩] W fun e w' => e = .returned (.bool false) ∧ w' = W := fun W => by
    have := Tryz.hasPrefix s ⟨#[60, 33, 45, 45]⟩ W
    rw [show Lib.hasPrefix s.data.toList (⟨#[60, 33, 45, 45]⟩ : ByteArray).data.toList = [60, 33, 45, 45].isPrefixOf s.data.toList from rfl, hc] at this
    exact this
  clear hc
  have hlow := fun W => tlower_any (tstr (s.data.toList.take 9)) W (by rw [tstr_size, List.length_take]; omega)
  rw [tstr_data] at hlow
  have sl1 : ∀ V : World, (Instr.slice 9 (.string s) none (some (.int .i64 (min (s.size : Int) 9))) none).run Tryz.prog V = .ok (.string (tstr (s.data.toList.take 9))) V := fun V => by
    have hx : s.data.toList.take (min s.size 9) = s.data.toList.take 9 := by
      rw [List.take_eq_take_iff, show s.data.toList.length = s.size from rfl]; omega
    rw [run_slice_string_h (ht := Tryz.underlying9) (h0 := by omega) (h2 := by omega), show (min (s.size : Int) 9).toNat = min s.size 9 from by omega, str_take s (min s.size 9) (by omega), hx]
  have hdq : ((tstr ((s.data.toList.take 9).map Txt.lo)).toList == [60, 33, 100, 111, 99, 116, 121, 112, 101]) = false := by
    rw [Lib.toList_data, tstr_data]; exact hdoc
  generalize tstr (s.data.toList.take 9) = L9 at hlow sl1
  generalize tstr ((s.data.toList.take 9).map Txt.lo) = Q9 at hlow hdq
  clear hdoc
  have hp2 : ∀ W : World, Calls Tryz.prog 83 #[.string s, .string ⟨#[60, 47]⟩] W fun e w' => e = .returned (.bool true) ∧ w' = W := fun W => by
    have := Tryz.hasPrefix s ⟨#[60, 47]⟩ W
    rw [show Lib.hasPrefix s.data.toList (⟨#[60, 47]⟩ : ByteArray).data.toList = [60, 47].isPrefixOf s.data.toList from rfl, he] at this
    exact this
  have hp4 : ∀ W : World, Calls Tryz.prog 83 #[.string s, .string ⟨#[60, 47]⟩] W fun e w' => e = .returned (.bool true) ∧ w' = W := fun W => by
    have := Tryz.hasPrefix s ⟨#[60, 47]⟩ W
    rw [show Lib.hasPrefix s.data.toList (⟨#[60, 47]⟩ : ByteArray).data.toList = [60, 47].isPrefixOf s.data.toList from rfl, he] at this
    exact this
  have h2' : ¬ (2 : Int) < (s.size : Int) := by omega
  have hp3 : ∀ W : World, Calls Tryz.prog 83 #[.string s, .string ⟨#[60, 47, 62]⟩] W fun e w' => e = .returned (.bool false) ∧ w' = W := fun W => by
    have := Tryz.hasPrefix s ⟨#[60, 47, 62]⟩ W
    rw [show Lib.hasPrefix s.data.toList (⟨#[60, 47, 62]⟩ : ByteArray).data.toList = [60, 47, 62].isPrefixOf s.data.toList from rfl, hg] at this
    exact this
  clear he hg
  go_enter Tryz.func73, Tryz.ntmps73
  go_wp2_with fail
  refine (hp1 _).mono ?_
  clear hp1
  rintro e w9 ⟨rfl, rfl⟩
  go_wp2_with fail
  refine (hlow _).mono ?_
  clear hlow
  rintro e w2 ⟨rfl, hb1⟩
  clear hW1
  have hW1 := hW.below hb1 hW.lt
  have hB1 := hB.trans (hb1.mono hB.size)
  clear hW hB hb1 sl1
  have hW := hW1
  have hB := hB1
  clear hW1 hB1
  go_wp2_with fail
  refine (hp2 _).mono ?_
  clear hp2
  rintro e w9 ⟨rfl, rfl⟩
  go_wp2_with fail
  refine (hp3 _).mono ?_
  clear hp3
  rintro e w9 ⟨rfl, rfl⟩
  go_wp2_with fail
  refine (hp4 _).mono ?_
  clear hp4
  rintro e w9 ⟨rfl, rfl⟩
  try clear hW1
  have hcall := hfin _ hB
  clear hfin
  go_wp2_with fail
  refine hcall.mono ?_
  clear hcall
  rintro e w2 ⟨⟨sl, hA, rfl⟩, hb2⟩
  have hW2 := hW.below hb2 hW.lt
  have hB2 := hB.trans (hb2.mono hB.size)
  have hA2 := hA.mono' (base' := w.heap.size) hB.size
  clear hW hB hb2 hA
  obtain ⟨T9, hT9⟩ : ∃ T, o9.getD Mk.zeroTok = T := ⟨_, rfl⟩
  rw [hT9] at hA2 ⊢
  have HT := Lib.hid hT9
  clear hT9
  unfold tokT
  obtain ⟨kd, nm9, ats, cl, tx⟩ := T9
  simp only at hA2 ⊢
  obtain ⟨A9, cp9, rfl⟩ := hA2.form
  obtain ⟨f0, f1, f2, f3, f4⟩ := tok_free hW2
  obtain ⟨d0, d1, d2, d3, d4⟩ := tok_cells hW2
  go_wp2_with fail
  obtain ⟨X9, hX9, r9, g9⟩ := box5 hW2 (.int .i64 kd) (.string (tstr nm9)) (.slice A9 ats.length cp9) (.bool cl) (.string (tstr tx))
  rw [hX9]
  obtain ⟨c0, c1, c2, c3, c4⟩ := tok_cells r9
  have hB9 := below_box hB2 g9 (Nat.le_refl _)
  have hA9 := hA2.grown g9 (.inr (hA2.apart hW2 (by decide)))
  clear d0 d1 d2 d3 d4 f0 f1 f2 f3 f4 hX9
  refine bodyPost_ret (v := .tuple #[.agg #[.int .i64 kd, .string (tstr nm9), .slice A9 ats.length cp9, .bool cl, .string (tstr tx)], .int .i64 n9]) ?_ rfl ⟨?_, hB9⟩
  · simp [results, Tryz.f73, go_sem, c0, c1, c2, c3, c4]
  · exact RdOk.mk _ n9 _ HT.out hA9 rfl

set_option maxRecDepth 100000 in
set_option maxHeartbeats 2000000 in
theorem knor_bang (s : ByteArray) (c : Bool) (w : World) (hE : Env w) (hs : s.size ≤ 20000) (hc : [60, 33, 45, 45].isPrefixOf s.data.toList = false) (hdoc : ((s.data.toList.take 9).map Txt.lo == [60, 33, 100, 111, 99, 116, 121, 112, 101]) = false) (he : [60, 47].isPrefixOf s.data.toList = false) (hg : [60, 47, 62].isPrefixOf s.data.toList = false) (hb : [60, 33].isPrefixOf s.data.toList = true) :
    Calls Tryz.prog 73 #[.string s, .bool c] w fun e w' => RdOk w' w.heap.size (Mk.upto [62] 4 2 c s.data.toList) e ∧ Below w.heap.size w w' := by
  have hW : Whole (w.alloc (.cells #[.int .i64 0, .string ⟨#[]⟩, .slice none 0 0, .bool false, .string ⟨#[]⟩] 30)) w.heap.size #[.int .i64 0, .string ⟨#[]⟩, .slice none 0 0, .bool false, .string ⟨#[]⟩] 30 := Whole.new _ _ _
  have hB : Below w.heap.size w (w.alloc (.cells #[.int .i64 0, .string ⟨#[]⟩, .slice none 0 0, .bool false, .string ⟨#[]⟩] 30)) := (Below.refl _ _).alloc (Nat.le_refl _) _
  generalize hW1 : w.alloc (.cells #[.int .i64 0, .string ⟨#[]⟩, .slice none 0 0, .bool false, .string ⟨#[]⟩] 30) = W1 at hW hB
  have hlen : 2 ≤ s.size := by have := (List.isPrefixOf_iff_prefix.1 hb).length_le; exact this
  obtain ⟨x9, hx9⟩ : ∃ x, Mk.upto [62] 4 2 c s.data.toList = x := ⟨_, rfl⟩
  have hfin : ∀ W : World, Below w.heap.size w W → Calls Tryz.prog 84 #[.string ⟨#[62]⟩, .int .i64 4, .string s, .int .i64 2, .bool c] W fun e w' => RdOk w' W.heap.size x9 e ∧ Below W.heap.size W w' := fun W hB => by
    rw [← hx9]; exact kupto_any ⟨#[62]⟩ 4 2 s c W (hE.below hB).max hs (by decide) hlen (by decide)
  rw [hx9]
  obtain ⟨o9, n9⟩ := x9
  clear hx9
  have hp1 : ∀ W : World, Calls Tryz.prog 83 #[.string s, .string ⟨#[60, 33, 45, 45]⟩] W fun e w' => e = .returned (.bool false) ∧ w' = W := fun W => by
    have := Tryz.hasPrefix s ⟨#[60, 33, 45, 45]⟩ W
    rw [show Lib.hasPrefix s.data.toList (⟨#[60, 33, 45, 45]⟩ : ByteArray).data.toList = [60, 33, 45, 45].isPrefixOf s.data.toList from rfl, hc] at this
    exact this
  clear hc
  have hlow := fun W => tlower_any (tstr (s.data.toList.take 9)) W (by rw [tstr_size, List.length_take]; omega)
  rw [tstr_data] at hlow
  have sl1 : ∀ V : World, (Instr.slice 9 (.string s) none (some (.int .i64 (min (s.size : Int) 9))) none).run Tryz.prog V = .ok (.string (tstr (s.data.toList.take 9))) V := fun V => by
    have hx : s.data.toList.take (min s.size 9) = s.data.toList.take 9 := by
      rw [List.take_eq_take_iff, show s.data.toList.length = s.size from rfl]; omega
    rw [run_slice_string_h (ht := Tryz.underlying9) (h0 := by omega) (h2 := by omega), show (min (s.size : Int) 9).toNat = min s.size 9 from by omega, str_take s (min s.size 9) (by omega), hx]
  have hdq : ((tstr ((s.data.toList.take 9).map Txt.lo)).toList == [60, 33, 100, 111, 99, 116, 121, 112, 101]) = false := by
    rw [Lib.toList_data, tstr_data]; exact hdoc
  generalize tstr (s.data.toList.take 9) = L9 at hlow sl1
  generalize tstr ((s.data.toList.take 9).map Txt.lo) = Q9 at hlow hdq
  clear hdoc
  have hp2 : ∀ W : World, Calls Tryz.prog 83 #[.string s, .string ⟨#[60, 47]⟩] W fun e w' => e = .returned (.bool false) ∧ w' = W := fun W => by
    have := Tryz.hasPrefix s ⟨#[60, 47]⟩ W
    rw [show Lib.hasPrefix s.data.toList (⟨#[60, 47]⟩ : ByteArray).data.toList = [60, 47].isPrefixOf s.data.toList from rfl, he] at this
    exact this
  have hp4 : ∀ W : World, Calls Tryz.prog 83 #[.string s, .string ⟨#[60, 47]⟩] W fun e w' => e = .returned (.bool false) ∧ w' = W := fun W => by
    have := Tryz.hasPrefix s ⟨#[60, 47]⟩ W
    rw [show Lib.hasPrefix s.data.toList (⟨#[60, 47]⟩ : ByteArray).data.toList = [60, 47].isPrefixOf s.data.toList from rfl, he] at this
    exact this
  have hp3 : ∀ W : World, Calls Tryz.prog 83 #[.string s, .string ⟨#[60, 47, 62]⟩] W fun e w' => e = .returned (.bool false) ∧ w' = W := fun W => by
    have := Tryz.hasPrefix s ⟨#[60, 47, 62]⟩ W
    rw [show Lib.hasPrefix s.data.toList (⟨#[60, 47, 62]⟩ : ByteArray).data.toList = [60, 47, 62].isPrefixOf s.data.toList from rfl, hg] at this
    exact this
  have hp5 : ∀ W : World, Calls Tryz.prog 83 #[.string s, .string ⟨#[60, 33]⟩] W fun e w' => e = .returned (.bool true) ∧ w' = W := fun W => by
    have := Tryz.hasPrefix s ⟨#[60, 33]⟩ W
    rw [show Lib.hasPrefix s.data.toList (⟨#[60, 33]⟩ : ByteArray).data.toList = [60, 33].isPrefixOf s.data.toList from rfl, hb] at this
    exact this
  clear he hg hb
  go_enter Tryz.func73, Tryz.ntmps73
  go_wp2_with fail
  refine (hp1 _).mono ?_
  clear hp1
  rintro e w9 ⟨rfl, rfl⟩
  go_wp2_with fail
  refine (hlow _).mono ?_
  clear hlow
  rintro e w2 ⟨rfl, hb1⟩
  clear hW1
  have hW1 := hW.below hb1 hW.lt
  have hB1 := hB.trans (hb1.mono hB.size)
  clear hW hB hb1 sl1
  have hW := hW1
  have hB := hB1
  clear hW1 hB1
  go_wp2_with fail
  refine (hp2 _).mono ?_
  clear hp2
  rintro e w9 ⟨rfl, rfl⟩
  go_wp2_with fail
  refine (hp3 _).mono ?_
  clear hp3
  rintro e w9 ⟨rfl, rfl⟩
  go_wp2_with fail
  refine (hp4 _).mono ?_
  clear hp4
  rintro e w9 ⟨rfl, rfl⟩
  go_wp2_with fail
  refine (hp5 _).mono ?_
  clear hp5
  rintro e w9 ⟨rfl, rfl⟩
  try clear hW1
  have hcall := hfin _ hB
  clear hfin
  go_wp2_with fail
  refine hcall.mono ?_
  clear hcall
  rintro e w2 ⟨⟨sl, hA, rfl⟩, hb2⟩
  have hW2 := hW.below hb2 hW.lt
  have hB2 := hB.trans (hb2.mono hB.size)
  have hA2 := hA.mono' (base' := w.heap.size) hB.size
  clear hW hB hb2 hA
  obtain ⟨T9, hT9⟩ : ∃ T, o9.getD Mk.zeroTok = T := ⟨_, rfl⟩
  rw [hT9] at hA2 ⊢
  have HT := Lib.hid hT9
  clear hT9
  unfold tokT
  obtain ⟨kd, nm9, ats, cl, tx⟩ := T9
  simp only at hA2 ⊢
  obtain ⟨A9, cp9, rfl⟩ := hA2.form
  obtain ⟨f0, f1, f2, f3, f4⟩ := tok_free hW2
  obtain ⟨d0, d1, d2, d3, d4⟩ := tok_cells hW2
  go_wp2_with fail
  obtain ⟨X9, hX9, r9, g9⟩ := box5 hW2 (.int .i64 kd) (.string (tstr nm9)) (.slice A9 ats.length cp9) (.bool cl) (.string (tstr tx))
  rw [hX9]
  obtain ⟨c0, c1, c2, c3, c4⟩ := tok_cells r9
  have hB9 := below_box hB2 g9 (Nat.le_refl _)
  have hA9 := hA2.grown g9 (.inr (hA2.apart hW2 (by decide)))
  clear d0 d1 d2 d3 d4 f0 f1 f2 f3 f4 hX9
  refine bodyPost_ret (v := .tuple #[.agg #[.int .i64 kd, .string (tstr nm9), .slice A9 ats.length cp9, .bool cl, .string (tstr tx)], .int .i64 n9]) ?_ rfl ⟨?_, hB9⟩
  · simp [results, Tryz.f73, go_sem, c0, c1, c2, c3, c4]
  · exact RdOk.mk _ n9 _ HT.out hA9 rfl

set_option maxRecDepth 100000 in
set_option maxHeartbeats 2000000 in
theorem knor_quest (s : ByteArray) (c : Bool) (w : World) (hE : Env w) (hs : s.size ≤ 20000) (hc : [60, 33, 45, 45].isPrefixOf s.data.toList = false) (hdoc : ((s.data.toList.take 9).map Txt.lo == [60, 33, 100, 111, 99, 116, 121, 112, 101]) = false) (he : [60, 47].isPrefixOf s.data.toList = false) (hg : [60, 47, 62].isPrefixOf s.data.toList = false) (hb : [60, 33].isPrefixOf s.data.toList = false) (hq : [60, 63].isPrefixOf s.data.toList = true) :
    Calls Tryz.prog 73 #[.string s, .bool c] w fun e w' => RdOk w' w.heap.size (Mk.upto [62] 4 2 c s.data.toList) e ∧ Below w.heap.size w w' := by
  have hW : Whole (w.alloc (.cells #[.int .i64 0, .string ⟨#[]⟩, .slice none 0 0, .bool false, .string ⟨#[]⟩] 30)) w.heap.size #[.int .i64 0, .string ⟨#[]⟩, .slice none 0 0, .bool false, .string ⟨#[]⟩] 30 := Whole.new _ _ _
  have hB : Below w.heap.size w (w.alloc (.cells #[.int .i64 0, .string ⟨#[]⟩, .slice none 0 0, .bool false, .string ⟨#[]⟩] 30)) := (Below.refl _ _).alloc (Nat.le_refl _) _
  generalize hW1 : w.alloc (.cells #[.int .i64 0, .string ⟨#[]⟩, .slice none 0 0, .bool false, .string ⟨#[]⟩] 30) = W1 at hW hB
  have hlen : 2 ≤ s.size := by have := (List.isPrefixOf_iff_prefix.1 hq).length_le; exact this
  obtain ⟨x9, hx9⟩ : ∃ x, Mk.upto [62] 4 2 c s.data.toList = x := ⟨_, rfl⟩
  have hfin : ∀ W : World, Below w.heap.size w W → Calls Tryz.prog 84 #[.string ⟨#[62]⟩, .int .i64 4, .string s, .int .i64 2, .bool c] W fun e w' => RdOk w' W.heap.size x9 e ∧ Below W.heap.size W w' := fun W hB => by
    rw [← hx9]; exact kupto_any ⟨#[62]⟩ 4 2 s c W (hE.below hB).max hs (by decide) hlen (by decide)
  rw [hx9]
  obtain ⟨o9, n9⟩ := x9
  clear hx9
  have hp1 : ∀ W : World, Calls Tryz.prog 83 #[.string s, .string ⟨#[60, 33, 45, 45]⟩] W fun e w' => e = .returned (.bool false) ∧ w' = W := fun W => by
    have := Tryz.hasPrefix s ⟨#[60, 33, 45, 45]⟩ W
    rw [show Lib.hasPrefix s.data.toList (⟨#[60, 33, 45, 45]⟩ : ByteArray).data.toList = [60, 33, 45, 45].isPrefixOf s.data.toList from rfl, hc] at this
    exact this
  clear hc
  have hlow := fun W => tlower_any (tstr (s.data.toList.take 9)) W (by rw [tstr_size, List.length_take]; omega)
  rw [tstr_data] at hlow
  have sl1 : ∀ V : World, (Instr.slice 9 (.string s) none (some (.int .i64 (min (s.size : Int) 9))) none).run Tryz.prog V = .ok (.string (tstr (s.data.toList.take 9))) V := fun V => by
    have hx : s.data.toList.take (min s.size 9) = s.data.toList.take 9 := by
      rw [List.take_eq_take_iff, show s.data.toList.length = s.size from rfl]; omega
    rw [run_slice_string_h (ht := Tryz.underlying9) (h0 := by omega) (h2 := by omega), show (min (s.size : Int) 9).toNat = min s.size 9 from by omega, str_take s (min s.size 9) (by omega), hx]
  have hdq : ((tstr ((s.data.toList.take 9).map Txt.lo)).toList == [60, 33, 100, 111, 99, 116, 121, 112, 101]) = false := by
    rw [Lib.toList_data, tstr_data]; exact hdoc
  generalize tstr (s.data.toList.take 9) = L9 at hlow sl1
  generalize tstr ((s.data.toList.take 9).map Txt.lo) = Q9 at hlow hdq
  clear hdoc
  have hp2 : ∀ W : World, Calls Tryz.prog 83 #[.string s, .string ⟨#[60, 47]⟩] W fun e w' => e = .returned (.bool false) ∧ w' = W := fun W => by
    have := Tryz.hasPrefix s ⟨#[60, 47]⟩ W
    rw [show Lib.hasPrefix s.data.toList (⟨#[60, 47]⟩ : ByteArray).data.toList = [60, 47].isPrefixOf s.data.toList from rfl, he] at this
    exact this
  have hp4 : ∀ W : World, Calls Tryz.prog 83 #[.string s, .string ⟨#[60, 47]⟩] W fun e w' => e = .returned (.bool false) ∧ w' = W := fun W => by
    have := Tryz.hasPrefix s ⟨#[60, 47]⟩ W
    rw [show Lib.hasPrefix s.data.toList (⟨#[60, 47]⟩ : ByteArray).data.toList = [60, 47].isPrefixOf s.data.toList from rfl, he] at this
    exact this
  have hp3 : ∀ W : World, Calls Tryz.prog 83 #[.string s, .string ⟨#[60, 47, 62]⟩] W fun e w' => e = .returned (.bool false) ∧ w' = W := fun W => by
    have := Tryz.hasPrefix s ⟨#[60, 47, 62]⟩ W
    rw [show Lib.hasPrefix s.data.toList (⟨#[60, 47, 62]⟩ : ByteArray).data.toList = [60, 47, 62].isPrefixOf s.data.toList from rfl, hg] at this
    exact this
  have hp5 : ∀ W : World, Calls Tryz.prog 83 #[.string s, .string ⟨#[60, 33]⟩] W fun e w' => e = .returned (.bool false) ∧ w' = W := fun W => by
    have := Tryz.hasPrefix s ⟨#[60, 33]⟩ W
    rw [show Lib.hasPrefix s.data.toList (⟨#[60, 33]⟩ : ByteArray).data.toList = [60, 33].isPrefixOf s.data.toList from rfl, hb] at this
    exact this
  have hp6 : ∀ W : World, Calls Tryz.prog 83 #[.string s, .string ⟨#[60, 63]⟩] W fun e w' => e = .returned (.bool true) ∧ w' = W := fun W => by
    have := Tryz.hasPrefix s ⟨#[60, 63]⟩ W
    rw [show Lib.hasPrefix s.data.toList (⟨#[60, 63]⟩ : ByteArray).data.toList = [60, 63].isPrefixOf s.data.toList from rfl, hq] at this
    exact this
  clear he hg hb hq
  go_enter Tryz.func73, Tryz.ntmps73
  go_wp2_with fail
  refine (hp1 _).mono ?_
  clear hp1
  rintro e w9 ⟨rfl, rfl⟩
  go_wp2_with fail
  refine (hlow _).mono ?_
  clear hlow
  rintro e w2 ⟨rfl, hb1⟩
  clear hW1
  have hW1 := hW.below hb1 hW.lt
  have hB1 := hB.trans (hb1.mono hB.size)
  clear hW hB hb1 sl1
  have hW := hW1
  have hB := hB1
  clear hW1 hB1
  go_wp2_with fail
  refine (hp2 _).mono ?_
  clear hp2
  rintro e w9 ⟨rfl, rfl⟩
  go_wp2_with fail
  refine (hp3 _).mono ?_
  clear hp3
  rintro e w9 ⟨rfl, rfl⟩
  go_wp2_with fail
  refine (hp4 _).mono ?_
  clear hp4
  rintro e w9 ⟨rfl, rfl⟩
  go_wp2_with fail
  refine (hp5 _).mono ?_
  clear hp5
  rintro e w9 ⟨rfl, rfl⟩
  go_wp2_with fail
  refine (hp6 _).mono ?_
  clear hp6
  rintro e w9 ⟨rfl, rfl⟩
  try clear hW1
  have hcall := hfin _ hB
  clear hfin
  go_wp2_with fail
  refine hcall.mono ?_
  clear hcall
  rintro e w2 ⟨⟨sl, hA, rfl⟩, hb2⟩
  have hW2 := hW.below hb2 hW.lt
  have hB2 := hB.trans (hb2.mono hB.size)
  have hA2 := hA.mono' (base' := w.heap.size) hB.size
  clear hW hB hb2 hA
  obtain ⟨T9, hT9⟩ : ∃ T, o9.getD Mk.zeroTok = T := ⟨_, rfl⟩
  rw [hT9] at hA2 ⊢
  have HT := Lib.hid hT9
  clear hT9
  unfold tokT
  obtain ⟨kd, nm9, ats, cl, tx⟩ := T9
  simp only at hA2 ⊢
  obtain ⟨A9, cp9, rfl⟩ := hA2.form
  obtain ⟨f0, f1, f2, f3, f4⟩ := tok_free hW2
  obtain ⟨d0, d1, d2, d3, d4⟩ := tok_cells hW2
  go_wp2_with fail
  obtain ⟨X9, hX9, r9, g9⟩ := box5 hW2 (.int .i64 kd) (.string (tstr nm9)) (.slice A9 ats.length cp9) (.bool cl) (.string (tstr tx))
  rw [hX9]
  obtain ⟨c0, c1, c2, c3, c4⟩ := tok_cells r9
  have hB9 := below_box hB2 g9 (Nat.le_refl _)
  have hA9 := hA2.grown g9 (.inr (hA2.apart hW2 (by decide)))
  clear d0 d1 d2 d3 d4 f0 f1 f2 f3 f4 hX9
  refine bodyPost_ret (v := .tuple #[.agg #[.int .i64 kd, .string (tstr nm9), .slice A9 ats.length cp9, .bool cl, .string (tstr tx)], .int .i64 n9]) ?_ rfl ⟨?_, hB9⟩
  · simp [results, Tryz.f73, go_sem, c0, c1, c2, c3, c4]
  · exact RdOk.mk _ n9 _ HT.out hA9 rfl

set_option maxRecDepth 100000 in
set_option maxHeartbeats 2000000 in
theorem knor_start (s : ByteArray) (c : Bool) (w : World) (hE : Env w) (hs : s.size ≤ 20000) (hc : [60, 33, 45, 45].isPrefixOf s.data.toList = false) (hdoc : ((s.data.toList.take 9).map Txt.lo == [60, 33, 100, 111, 99, 116, 121, 112, 101]) = false) (he : [60, 47].isPrefixOf s.data.toList = false) (hg : [60, 47, 62].isPrefixOf s.data.toList = false) (hb : [60, 33].isPrefixOf s.data.toList = false) (hq : [60, 63].isPrefixOf s.data.toList = false) (hn : Mk.begins s.data.toList = true) :
    Calls Tryz.prog 73 #[.string s, .bool c] w fun e w' => RdOk w' w.heap.size (Mk.rdStart c s.data.toList) e ∧ Below w.heap.size w w' := by
  have hW : Whole (w.alloc (.cells #[.int .i64 0, .string ⟨#[]⟩, .slice none 0 0, .bool false, .string ⟨#[]⟩] 30)) w.heap.size #[.int .i64 0, .string ⟨#[]⟩, .slice none 0 0, .bool false, .string ⟨#[]⟩] 30 := Whole.new _ _ _
  have hB : Below w.heap.size w (w.alloc (.cells #[.int .i64 0, .string ⟨#[]⟩, .slice none 0 0, .bool false, .string ⟨#[]⟩] 30)) := (Below.refl _ _).alloc (Nat.le_refl _) _
  generalize hW1 : w.alloc (.cells #[.int .i64 0, .string ⟨#[]⟩, .slice none 0 0, .bool false, .string ⟨#[]⟩] 30) = W1 at hW hB
  have hlen : 1 ≤ s.size := by have := Mk.begins_two hn; have h9 : s.data.toList.length = s.size := rfl; omega
  obtain ⟨x9, hx9⟩ : ∃ x, Mk.rdStart c s.data.toList = x := ⟨_, rfl⟩
  have hfin : ∀ W : World, Below w.heap.size w W → Calls Tryz.prog 89 #[.string s, .bool c] W fun e w' => RdOk w' W.heap.size x9 e ∧ Below W.heap.size W w' := fun W hB => by
    rw [← hx9]; exact kreadstart_any s c W (hE.below hB) hs hlen
  rw [hx9]
  obtain ⟨o9, n9⟩ := x9
  clear hx9
  have hp1 : ∀ W : World, Calls Tryz.prog 83 #[.string s, .string ⟨#[60, 33, 45, 45]⟩] W fun e w' => e = .returned (.bool false) ∧ w' = W := fun W => by
    have := Tryz.hasPrefix s ⟨#[60, 33, 45, 45]⟩ W
    rw [show Lib.hasPrefix s.data.toList (⟨#[60, 33, 45, 45]⟩ : ByteArray).data.toList = [60, 33, 45, 45].isPrefixOf s.data.toList from rfl, hc] at this
    exact this
  clear hc
  have hlow := fun W => tlower_any (tstr (s.data.toList.take 9)) W (by rw [tstr_size, List.length_take]; omega)
  rw [tstr_data] at hlow
  have sl1 : ∀ V : World, (Instr.slice 9 (.string s) none (some (.int .i64 (min (s.size : Int) 9))) none).run Tryz.prog V = .ok (.string (tstr (s.data.toList.take 9))) V := fun V => by
    have hx : s.data.toList.take (min s.size 9) = s.data.toList.take 9 := by
      rw [List.take_eq_take_iff, show s.data.toList.length = s.size from rfl]; omega
    rw [run_slice_string_h (ht := Tryz.underlying9) (h0 := by omega) (h2 := by omega), show (min (s.size : Int) 9).toNat = min s.size 9 from by omega, str_take s (min s.size 9) (by omega), hx]
  have hdq : ((tstr ((s.data.toList.take 9).map Txt.lo)).toList == [60, 33, 100, 111, 99, 116, 121, 112, 101]) = false := by
    rw [Lib.toList_data, tstr_data]; exact hdoc
  generalize tstr (s.data.toList.take 9) = L9 at hlow sl1
  generalize tstr ((s.data.toList.take 9).map Txt.lo) = Q9 at hlow hdq
  clear hdoc
  have hp2 : ∀ W : World, Calls Tryz.prog 83 #[.string s, .string ⟨#[60, 47]⟩] W fun e w' => e = .returned (.bool false) ∧ w' = W := fun W => by
    have := Tryz.hasPrefix s ⟨#[60, 47]⟩ W
    rw [show Lib.hasPrefix s.data.toList (⟨#[60, 47]⟩ : ByteArray).data.toList = [60, 47].isPrefixOf s.data.toList from rfl, he] at this
    exact this
  have hp4 : ∀ W : World, Calls Tryz.prog 83 #[.string s, .string ⟨#[60, 47]⟩] W fun e w' => e = .returned (.bool false) ∧ w' = W := fun W => by
    have := Tryz.hasPrefix s ⟨#[60, 47]⟩ W
    rw [show Lib.hasPrefix s.data.toList (⟨#[60, 47]⟩ : ByteArray).data.toList = [60, 47].isPrefixOf s.data.toList from rfl, he] at this
    exact this
  have hp3 : ∀ W : World, Calls Tryz.prog 83 #[.string s, .string ⟨#[60, 47, 62]⟩] W fun e w' => e = .returned (.bool false) ∧ w' = W := fun W => by
    have := Tryz.hasPrefix s ⟨#[60, 47, 62]⟩ W
    rw [show Lib.hasPrefix s.data.toList (⟨#[60, 47, 62]⟩ : ByteArray).data.toList = [60, 47, 62].isPrefixOf s.data.toList from rfl, hg] at this
    exact this
  have hp5 : ∀ W : World, Calls Tryz.prog 83 #[.string s, .string ⟨#[60, 33]⟩] W fun e w' => e = .returned (.bool false) ∧ w' = W := fun W => by
    have := Tryz.hasPrefix s ⟨#[60, 33]⟩ W
    rw [show Lib.hasPrefix s.data.toList (⟨#[60, 33]⟩ : ByteArray).data.toList = [60, 33].isPrefixOf s.data.toList from rfl, hb] at this
    exact this
  have hp6 : ∀ W : World, Calls Tryz.prog 83 #[.string s, .string ⟨#[60, 63]⟩] W fun e w' => e = .returned (.bool false) ∧ w' = W := fun W => by
    have := Tryz.hasPrefix s ⟨#[60, 63]⟩ W
    rw [show Lib.hasPrefix s.data.toList (⟨#[60, 63]⟩ : ByteArray).data.toList = [60, 63].isPrefixOf s.data.toList from rfl, hq] at this
    exact this
  have hbg := fun W => kbegins_any s W hs
  rw [hn] at hbg
  clear he hg hb hq hn
  go_enter Tryz.func73, Tryz.ntmps73
  go_wp2_with fail
  refine (hp1 _).mono ?_
  clear hp1
  rintro e w9 ⟨rfl, rfl⟩
  go_wp2_with fail
  refine (hlow _).mono ?_
  clear hlow
  rintro e w2 ⟨rfl, hb1⟩
  clear hW1
  have hW1 := hW.below hb1 hW.lt
  have hB1 := hB.trans (hb1.mono hB.size)
  clear hW hB hb1 sl1
  have hW := hW1
  have hB := hB1
  clear hW1 hB1
  go_wp2_with fail
  refine (hp2 _).mono ?_
  clear hp2
  rintro e w9 ⟨rfl, rfl⟩
  go_wp2_with fail
  refine (hp3 _).mono ?_
  clear hp3
  rintro e w9 ⟨rfl, rfl⟩
  go_wp2_with fail
  refine (hp4 _).mono ?_
  clear hp4
  rintro e w9 ⟨rfl, rfl⟩
  go_wp2_with fail
  refine (hp5 _).mono ?_
  clear hp5
  rintro e w9 ⟨rfl, rfl⟩
  go_wp2_with fail
  refine (hp6 _).mono ?_
  clear hp6
  rintro e w9 ⟨rfl, rfl⟩
  go_wp2_with fail
  refine (hbg _).mono ?_
  clear hbg
  rintro e w9 ⟨rfl, rfl⟩
  try clear hW1
  have hcall := hfin _ hB
  clear hfin
  go_wp2_with fail
  refine hcall.mono ?_
  clear hcall
  rintro e w2 ⟨⟨sl, hA, rfl⟩, hb2⟩
  have hW2 := hW.below hb2 hW.lt
  have hB2 := hB.trans (hb2.mono hB.size)
  have hA2 := hA.mono' (base' := w.heap.size) hB.size
  clear hW hB hb2 hA
  obtain ⟨T9, hT9⟩ : ∃ T, o9.getD Mk.zeroTok = T := ⟨_, rfl⟩
  rw [hT9] at hA2 ⊢
  have HT := Lib.hid hT9
  clear hT9
  unfold tokT
  obtain ⟨kd, nm9, ats, cl, tx⟩ := T9
  simp only at hA2 ⊢
  obtain ⟨A9, cp9, rfl⟩ := hA2.form
  obtain ⟨f0, f1, f2, f3, f4⟩ := tok_free hW2
  obtain ⟨d0, d1, d2, d3, d4⟩ := tok_cells hW2
  go_wp2_with fail
  obtain ⟨X9, hX9, r9, g9⟩ := box5 hW2 (.int .i64 kd) (.string (tstr nm9)) (.slice A9 ats.length cp9) (.bool cl) (.string (tstr tx))
  rw [hX9]
  obtain ⟨c0, c1, c2, c3, c4⟩ := tok_cells r9
  have hB9 := below_box hB2 g9 (Nat.le_refl _)
  have hA9 := hA2.grown g9 (.inr (hA2.apart hW2 (by decide)))
  clear d0 d1 d2 d3 d4 f0 f1 f2 f3 f4 hX9
  refine bodyPost_ret (v := .tuple #[.agg #[.int .i64 kd, .string (tstr nm9), .slice A9 ats.length cp9, .bool cl, .string (tstr tx)], .int .i64 n9]) ?_ rfl ⟨?_, hB9⟩
  · simp [results, Tryz.f73, go_sem, c0, c1, c2, c3, c4]
  · exact RdOk.mk _ n9 _ HT.out hA9 rfl

set_option maxRecDepth 100000 in
set_option maxHeartbeats 2000000 in
theorem knor_text (s : ByteArray) (c : Bool) (w : World) (hE : Env w) (hs : s.size ≤ 20000) (hc : [60, 33, 45, 45].isPrefixOf s.data.toList = false) (hdoc : ((s.data.toList.take 9).map Txt.lo == [60, 33, 100, 111, 99, 116, 121, 112, 101]) = false) (he : [60, 47].isPrefixOf s.data.toList = false) (hg : [60, 47, 62].isPrefixOf s.data.toList = false) (hb : [60, 33].isPrefixOf s.data.toList = false) (hq : [60, 63].isPrefixOf s.data.toList = false) (hn : Mk.begins s.data.toList = false) :
    Calls Tryz.prog 73 #[.string s, .bool c] w fun e w' => RdOk w' w.heap.size (Mk.rdText c s.data.toList) e ∧ Below w.heap.size w w' := by
  have hW : Whole (w.alloc (.cells #[.int .i64 0, .string ⟨#[]⟩, .slice none 0 0, .bool false, .string ⟨#[]⟩] 30)) w.heap.size #[.int .i64 0, .string ⟨#[]⟩, .slice none 0 0, .bool false, .string ⟨#[]⟩] 30 := Whole.new _ _ _
  have hB : Below w.heap.size w (w.alloc (.cells #[.int .i64 0, .string ⟨#[]⟩, .slice none 0 0, .bool false, .string ⟨#[]⟩] 30)) := (Below.refl _ _).alloc (Nat.le_refl _) _
  generalize hW1 : w.alloc (.cells #[.int .i64 0, .string ⟨#[]⟩, .slice none 0 0, .bool false, .string ⟨#[]⟩] 30) = W1 at hW hB
  obtain ⟨x9, hx9⟩ : ∃ x, Mk.rdText c s.data.toList = x := ⟨_, rfl⟩
  have hfin : ∀ W : World, Below w.heap.size w W → Calls Tryz.prog 90 #[.string s, .bool c] W fun e w' => RdOk w' W.heap.size x9 e ∧ Below W.heap.size W w' := fun W hB => by
    rw [← hx9]; exact kreadtext_any s c W (hE.below hB).tab hs
  rw [hx9]
  obtain ⟨o9, n9⟩ := x9
  clear hx9
  have hp1 : ∀ W : World, Calls Tryz.prog 83 #[.string s, .string ⟨#[60, 33, 45, 45]⟩] W fun e w' => e = .returned (.bool false) ∧ w' = W := fun W => by
    have := Tryz.hasPrefix s ⟨#[60, 33, 45, 45]⟩ W
    rw [show Lib.hasPrefix s.data.toList (⟨#[60, 33, 45, 45]⟩ : ByteArray).data.toList = [60, 33, 45, 45].isPrefixOf s.data.toList from rfl, hc] at this
    exact this
  clear hc
  have hlow := fun W => tlower_any (tstr (s.data.toList.take 9)) W (by rw [tstr_size, List.length_take]; omega)
  rw [tstr_data] at hlow
  have sl1 : ∀ V : World, (Instr.slice 9 (.string s) none (some (.int .i64 (min (s.size : Int) 9))) none).run Tryz.prog V = .ok (.string (tstr (s.data.toList.take 9))) V := fun V => by
    have hx : s.data.toList.take (min s.size 9) = s.data.toList.take 9 := by
      rw [List.take_eq_take_iff, show s.data.toList.length = s.size from rfl]; omega
    rw [run_slice_string_h (ht := Tryz.underlying9) (h0 := by omega) (h2 := by omega), show (min (s.size : Int) 9).toNat = min s.size 9 from by omega, str_take s (min s.size 9) (by omega), hx]
  have hdq : ((tstr ((s.data.toList.take 9).map Txt.lo)).toList == [60, 33, 100, 111, 99, 116, 121, 112, 101]) = false := by
    rw [Lib.toList_data, tstr_data]; exact hdoc
  generalize tstr (s.data.toList.take 9) = L9 at hlow sl1
  generalize tstr ((s.data.toList.take 9).map Txt.lo) = Q9 at hlow hdq
  clear hdoc
  have hp2 : ∀ W : World, Calls Tryz.prog 83 #[.string s, .string ⟨#[60, 47]⟩] W fun e w' => e = .returned (.bool false) ∧ w' = W := fun W => by
    have := Tryz.hasPrefix s ⟨#[60, 47]⟩ W
    rw [show Lib.hasPrefix s.data.toList (⟨#[60, 47]⟩ : ByteArray).data.toList = [60, 47].isPrefixOf s.data.toList from rfl, he] at this
    exact this
  have hp4 : ∀ W : World, Calls Tryz.prog 83 #[.string s, .string ⟨#[60, 47]⟩] W fun e w' => e = .returned (.bool false) ∧ w' = W := fun W => by
    have := Tryz.hasPrefix s ⟨#[60, 47]⟩ W
    rw [show Lib.hasPrefix s.data.toList (⟨#[60, 47]⟩ : ByteArray).data.toList = [60, 47].isPrefixOf s.data.toList from rfl, he] at this
    exact this
  have hp3 : ∀ W : World, Calls Tryz.prog 83 #[.string s, .string ⟨#[60, 47, 62]⟩] W fun e w' => e = .returned (.bool false) ∧ w' = W := fun W => by
    have := Tryz.hasPrefix s ⟨#[60, 47, 62]⟩ W
    rw [show Lib.hasPrefix s.data.toList (⟨#[60, 47, 62]⟩ : ByteArray).data.toList = [60, 47, 62].isPrefixOf s.data.toList from rfl, hg] at this
    exact this
  have hp5 : ∀ W : World, Calls Tryz.prog 83 #[.string s, .string ⟨#[60, 33]⟩] W fun e w' => e = .returned (.bool false) ∧ w' = W := fun W => by
    have := Tryz.hasPrefix s ⟨#[60, 33]⟩ W
    rw [show Lib.hasPrefix s.data.toList (⟨#[60, 33]⟩ : ByteArray).data.toList = [60, 33].isPrefixOf s.data.toList from rfl, hb] at this
    exact this
  have hp6 : ∀ W : World, Calls Tryz.prog 83 #[.string s, .string ⟨#[60, 63]⟩] W fun e w' => e = .returned (.bool false) ∧ w' = W := fun W => by
    have := Tryz.hasPrefix s ⟨#[60, 63]⟩ W
    rw [show Lib.hasPrefix s.data.toList (⟨#[60, 63]⟩ : ByteArray).data.toList = [60, 63].isPrefixOf s.data.toList from rfl, hq] at this
    exact this
  have hbg := fun W => kbegins_any s W hs
  rw [hn] at hbg
  clear he hg hb hq hn
  go_enter Tryz.func73, Tryz.ntmps73
  go_wp2_with fail
  refine (hp1 _).mono ?_
  clear hp1
  rintro e w9 ⟨rfl, rfl⟩
  go_wp2_with fail
  refine (hlow _).mono ?_
  clear hlow
  rintro e w2 ⟨rfl, hb1⟩
  clear hW1
  have hW1 := hW.below hb1 hW.lt
  have hB1 := hB.trans (hb1.mono hB.size)
  clear hW hB hb1 sl1
  have hW := hW1
  have hB := hB1
  clear hW1 hB1
  go_wp2_with fail
  refine (hp2 _).mono ?_
  clear hp2
  rintro e w9 ⟨rfl, rfl⟩
  go_wp2_with fail
  refine (hp3 _).mono ?_
  clear hp3
  rintro e w9 ⟨rfl, rfl⟩
  go_wp2_with fail
  refine (hp4 _).mono ?_
  clear hp4
  rintro e w9 ⟨rfl, rfl⟩
  go_wp2_with fail
  refine (hp5 _).mono ?_
  clear hp5
  rintro e w9 ⟨rfl, rfl⟩
  go_wp2_with fail
  refine (hp6 _).mono ?_
  clear hp6
  rintro e w9 ⟨rfl, rfl⟩
  go_wp2_with fail
  refine (hbg _).mono ?_
  clear hbg
  rintro e w9 ⟨rfl, rfl⟩
  try clear hW1
  have hcall := hfin _ hB
  clear hfin
  go_wp2_with fail
  refine hcall.mono ?_
  clear hcall
  rintro e w2 ⟨⟨sl, hA, rfl⟩, hb2⟩
  have hW2 := hW.below hb2 hW.lt
  have hB2 := hB.trans (hb2.mono hB.size)
  have hA2 := hA.mono' (base' := w.heap.size) hB.size
  clear hW hB hb2 hA
  obtain ⟨T9, hT9⟩ : ∃ T, o9.getD Mk.zeroTok = T := ⟨_, rfl⟩
  rw [hT9] at hA2 ⊢
  have HT := Lib.hid hT9
  clear hT9
  unfold tokT
  obtain ⟨kd, nm9, ats, cl, tx⟩ := T9
  simp only at hA2 ⊢
  obtain ⟨A9, cp9, rfl⟩ := hA2.form
  obtain ⟨f0, f1, f2, f3, f4⟩ := tok_free hW2
  obtain ⟨d0, d1, d2, d3, d4⟩ := tok_cells hW2
  go_wp2_with fail
  obtain ⟨X9, hX9, r9, g9⟩ := box5 hW2 (.int .i64 kd) (.string (tstr nm9)) (.slice A9 ats.length cp9) (.bool cl) (.string (tstr tx))
  rw [hX9]
  obtain ⟨c0, c1, c2, c3, c4⟩ := tok_cells r9
  have hB9 := below_box hB2 g9 (Nat.le_refl _)
  have hA9 := hA2.grown g9 (.inr (hA2.apart hW2 (by decide)))
  clear d0 d1 d2 d3 d4 f0 f1 f2 f3 f4 hX9
  refine bodyPost_ret (v := .tuple #[.agg #[.int .i64 kd, .string (tstr nm9), .slice A9 ats.length cp9, .bool cl, .string (tstr tx)], .int .i64 n9]) ?_ rfl ⟨?_, hB9⟩
  · simp [results, Tryz.f73, go_sem, c0, c1, c2, c3, c4]
  · exact RdOk.mk _ n9 _ HT.out hA9 rfl

end Go.Proofs.YtckmlbcpldpkpaaGreatDoor

/- The program's readNormal returns what the plain text says, in all. -/
namespace Go.Proofs.YtckmlbcpldpkpaaGreatDoor
open Go Go.RowKit
set_option linter.unusedVariables false

theorem upto_text (p : List UInt8) (k st : Nat) (c : Bool) (s : List UInt8) : ((Mk.upto p k st c s).1.getD Mk.zeroTok).text.length ≤ s.length := by
  unfold Mk.upto
  cases Mk.find p (s.drop st) with
  | none =>
    cases c with
    | false => exact Nat.zero_le _
    | true => show (s.drop st).length ≤ _; rw [List.length_drop]; omega
  | some k => show ((s.drop st).take k).length ≤ _; rw [List.length_take, List.length_drop]; omega
theorem trim_getD (o : Option Mk.Tok) : (o.map Mk.trimTok).getD Mk.zeroTok = Mk.trimTok (o.getD Mk.zeroTok) := by
  cases o <;> rfl

set_option maxRecDepth 100000 in
set_option maxHeartbeats 2000000 in
theorem knor_doc (s : ByteArray) (c : Bool) (w : World) (hE : Env w) (hs : s.size ≤ 20000) (hc : [60, 33, 45, 45].isPrefixOf s.data.toList = false) (hdoc : ((s.data.toList.take 9).map Txt.lo == [60, 33, 100, 111, 99, 116, 121, 112, 101]) = true) :
    Calls Tryz.prog 73 #[.string s, .bool c] w fun e w' => RdOk w' w.heap.size (((Mk.upto [62] 5 9 c s.data.toList).1.map Mk.trimTok, (Mk.upto [62] 5 9 c s.data.toList).2)) e ∧ Below w.heap.size w w' := by
  have hW : Whole (w.alloc (.cells #[.int .i64 0, .string ⟨#[]⟩, .slice none 0 0, .bool false, .string ⟨#[]⟩] 30)) w.heap.size #[.int .i64 0, .string ⟨#[]⟩, .slice none 0 0, .bool false, .string ⟨#[]⟩] 30 := Whole.new _ _ _
  have hB : Below w.heap.size w (w.alloc (.cells #[.int .i64 0, .string ⟨#[]⟩, .slice none 0 0, .bool false, .string ⟨#[]⟩] 30)) := (Below.refl _ _).alloc (Nat.le_refl _) _
  generalize hW1 : w.alloc (.cells #[.int .i64 0, .string ⟨#[]⟩, .slice none 0 0, .bool false, .string ⟨#[]⟩] 30) = W1 at hW hB
  have hlen : 9 ≤ s.size := Mk.doc_len hdoc
  obtain ⟨x9, hx9⟩ : ∃ x, Mk.upto [62] 5 9 c s.data.toList = x := ⟨_, rfl⟩
  have hfin : ∀ W : World, Below w.heap.size w W → Calls Tryz.prog 84 #[.string ⟨#[62]⟩, .int .i64 5, .string s, .int .i64 9, .bool c] W fun e w' => RdOk w' W.heap.size x9 e ∧ Below W.heap.size W w' := fun W hB => by
    rw [← hx9]; exact kupto_any ⟨#[62]⟩ 5 9 s c W (hE.below hB).max hs (by decide) hlen (by decide)
  have htx := upto_text [62] 5 9 c s.data.toList
  rw [hx9] at htx ⊢
  have hs9 : s.data.toList.length = s.size := rfl
  rw [hs9] at htx
  obtain ⟨o9, n9⟩ := x9
  clear hx9 hs9
  simp only at htx ⊢
  have hp1 : ∀ W : World, Calls Tryz.prog 83 #[.string s, .string ⟨#[60, 33, 45, 45]⟩] W fun e w' => e = .returned (.bool false) ∧ w' = W := fun W => by
    have := Tryz.hasPrefix s ⟨#[60, 33, 45, 45]⟩ W
    rw [show Lib.hasPrefix s.data.toList (⟨#[60, 33, 45, 45]⟩ : ByteArray).data.toList = [60, 33, 45, 45].isPrefixOf s.data.toList from rfl, hc] at this
    exact this
  clear hc
  have hlow := fun W => tlower_any (tstr (s.data.toList.take 9)) W (by rw [tstr_size, List.length_take]; omega)
  rw [tstr_data] at hlow
  have sl1 : ∀ V : World, (Instr.slice 9 (.string s) none (some (.int .i64 (min (s.size : Int) 9))) none).run Tryz.prog V = .ok (.string (tstr (s.data.toList.take 9))) V := fun V => by
    have hx : s.data.toList.take (min s.size 9) = s.data.toList.take 9 := by
      rw [List.take_eq_take_iff, show s.data.toList.length = s.size from rfl]; omega
    rw [run_slice_string_h (ht := Tryz.underlying9) (h0 := by omega) (h2 := by omega), show (min (s.size : Int) 9).toNat = min s.size 9 from by omega, str_take s (min s.size 9) (by omega), hx]
  have hdq : ((tstr ((s.data.toList.take 9).map Txt.lo)).toList == [60, 33, 100, 111, 99, 116, 121, 112, 101]) = true := by
    rw [Lib.toList_data, tstr_data]; exact hdoc
  generalize tstr (s.data.toList.take 9) = L9 at hlow sl1
  generalize tstr ((s.data.toList.take 9).map Txt.lo) = Q9 at hlow hdq
  clear hdoc
  go_enter Tryz.func73, Tryz.ntmps73
  go_wp2_with fail
  refine (hp1 _).mono ?_
  clear hp1
  rintro e w9 ⟨rfl, rfl⟩
  go_wp2_with fail
  refine (hlow _).mono ?_
  clear hlow
  rintro e w2 ⟨rfl, hb1⟩
  clear hW1
  have hW1 := hW.below hb1 hW.lt
  have hB1 := hB.trans (hb1.mono hB.size)
  clear hW hB hb1 sl1
  have hW := hW1
  have hB := hB1
  clear hW1 hB1
  try clear hW1
  have hcall := hfin _ hB
  clear hfin
  go_wp2_with fail
  refine hcall.mono ?_
  clear hcall
  rintro e w2 ⟨⟨sl, hA, rfl⟩, hb2⟩
  have hW2 := hW.below hb2 hW.lt
  have hB2 := hB.trans (hb2.mono hB.size)
  have hA2 := hA.mono' (base' := w.heap.size) hB.size
  clear hW hB hb2 hA
  obtain ⟨T9, hT9⟩ : ∃ T, o9.getD Mk.zeroTok = T := ⟨_, rfl⟩
  rw [hT9] at hA2 htx ⊢
  have HT := Lib.hid hT9
  clear hT9
  unfold tokT
  obtain ⟨kd, nm9, ats, cl, tx⟩ := T9
  simp only at hA2 htx ⊢
  obtain ⟨A9, cp9, rfl⟩ := hA2.form
  have htrim := fun W => ctrim_any (tstr tx) W (by rw [tstr_size]; omega)
  simp only [tstr_data] at htrim
  have hW3 := hW2.alloc (.cells #[.int .i64 kd, .string (tstr nm9), .slice A9 ats.length cp9, .bool cl, .string (tstr (Txt.trim tx))] 30)
  have hB3 := hB2.alloc hB2.size (.cells #[.int .i64 kd, .string (tstr nm9), .slice A9 ats.length cp9, .bool cl, .string (tstr (Txt.trim tx))] 30)
  have hA3 := hA2.alloc (.cells #[.int .i64 kd, .string (tstr nm9), .slice A9 ats.length cp9, .bool cl, .string (tstr (Txt.trim tx))] 30)
  obtain ⟨f0, f1, f2, f3, f4⟩ := tok_free hW3
  obtain ⟨d0, d1, d2, d3, d4⟩ := tok_cells hW3
  go_wp2_with fail
  refine (htrim _).mono ?_
  clear htrim
  rintro e w9 ⟨rfl, rfl⟩
  go_wp2_with fail
  obtain ⟨X9, hX9, r9, g9⟩ := box5 hW3 (.int .i64 kd) (.string (tstr nm9)) (.slice A9 ats.length cp9) (.bool cl) (.string (tstr (Txt.trim tx)))
  rw [hX9]
  obtain ⟨c0, c1, c2, c3, c4⟩ := tok_cells r9
  have hB9 := below_box hB3 g9 (Nat.le_refl _)
  have hA9 := hA3.grown g9 (.inr (hA3.apart hW3 (by decide)))
  clear d0 d1 d2 d3 d4 f0 f1 f2 f3 f4 hX9
  refine bodyPost_ret (v := .tuple #[.agg #[.int .i64 kd, .string (tstr nm9), .slice A9 ats.length cp9, .bool cl, .string (tstr (Txt.trim tx))], .int .i64 n9]) ?_ rfl ⟨?_, hB9⟩
  · simp [results, Tryz.f73, go_sem, c0, c1, c2, c3, c4]
  · exact RdOk.mk _ n9 (Mk.trimTok ⟨kd, nm9, ats, cl, tx⟩) (by rw [trim_getD, HT.out]) hA9 rfl

theorem g_of_e {l : List UInt8} (h : [60, 47].isPrefixOf l = false) : [60, 47, 62].isPrefixOf l = false := by
  rw [Bool.eq_false_iff] at h ⊢
  intro e
  apply h
  rw [List.isPrefixOf_iff_prefix] at e ⊢
  exact List.IsPrefix.trans (show ([60, 47] : List UInt8) <+: [60, 47, 62] from ⟨[62], rfl⟩) e
theorem letter_at (s : ByteArray) : Mk.letter (s.data.toList.drop 2) = if h : 2 < s.size then Ent.isL s[2] else false := by
  by_cases h : 2 < s.size
  · rw [dif_pos h, drop_get s 2 h]; rfl
  · rw [dif_neg h, drop_end s 2 h]; rfl

theorem knormal_any (s : ByteArray) (c : Bool) (w : World) (hE : Env w) (hs : s.size ≤ 20000) :
    Calls Tryz.prog 73 #[.string s, .bool c] w fun e w' => RdOk w' w.heap.size (Mk.rdNormal c s.data.toList) e ∧ Below w.heap.size w w' := by
  unfold Mk.rdNormal
  cases hc : [60, 33, 45, 45].isPrefixOf s.data.toList with
  | true => rw [if_pos rfl]; exact knor_comment s c w hE hs hc
  | false =>
  rw [if_neg Bool.false_ne_true]
  cases hd : ((s.data.toList.take 9).map Txt.lo == Mk.doctype) with
  | true => rw [if_pos rfl]; exact knor_doc s c w hE hs hc hd
  | false =>
  rw [if_neg Bool.false_ne_true, letter_at]
  cases he : [60, 47].isPrefixOf s.data.toList with
  | true =>
    rw [Bool.true_and]
    cases hg : [60, 47, 62].isPrefixOf s.data.toList with
    | true =>
      have h2 : 2 < s.size := (List.isPrefixOf_iff_prefix.1 hg).length_le
      rw [dif_pos h2]
      have hL : Ent.isL s[2] = false := by
        obtain ⟨t, ht⟩ := List.isPrefixOf_iff_prefix.1 hg
        have h3 := drop_get s 2 h2
        rw [← ht] at h3
        have h4 : (62 : UInt8) = s[2] := (List.cons.inj h3).1
        rw [← h4]; rfl
      rw [hL, if_neg Bool.false_ne_true, if_pos rfl]
      exact knor_none s c w hE hs hc hd he h2 hL hg
    | false =>
      by_cases h2 : 2 < s.size
      · rw [dif_pos h2]
        cases hL : Ent.isL s[2] with
        | true => rw [if_pos rfl]; exact knor_end s c w hE hs hc hd he h2 hL
        | false =>
          rw [if_neg Bool.false_ne_true, if_neg Bool.false_ne_true, if_pos (by rfl)]
          exact knor_slashA s c w hE hs hc hd he h2 hL hg
      · rw [dif_neg h2, if_neg Bool.false_ne_true, if_neg Bool.false_ne_true, if_pos (by rfl)]
        exact knor_slashB s c w hE hs hc hd he h2 hg
  | false =>
    have hg := g_of_e he
    rw [Bool.false_and, if_neg Bool.false_ne_true, hg, if_neg Bool.false_ne_true, Bool.false_or]
    cases hb : [60, 33].isPrefixOf s.data.toList with
    | true => rw [if_pos (by rfl)]; exact knor_bang s c w hE hs hc hd he hg hb
    | false =>
      rw [Bool.false_or]
      cases hq : [60, 63].isPrefixOf s.data.toList with
      | true => rw [if_pos rfl]; exact knor_quest s c w hE hs hc hd he hg hb hq
      | false =>
        rw [if_neg Bool.false_ne_true]
        cases hn : Mk.begins s.data.toList with
        | true => rw [if_pos rfl]; exact knor_start s c w hE hs hc hd he hg hb hq hn
        | false => rw [if_neg Bool.false_ne_true]; exact knor_text s c w hE hs hc hd he hg hb hq hn

end Go.Proofs.YtckmlbcpldpkpaaGreatDoor

/- The program's read returns what the plain text says. -/
namespace Go.Proofs.YtckmlbcpldpkpaaGreatDoor
open Go Go.RowKit
set_option linter.unusedVariables false

/-- A tokenizer in a variable: what the decoder keeps, the rest of the text, the raw element, the carriage return. -/
def TZ (w : World) (b : Nat) (d rest raw : List UInt8) (ret : Bool) : Prop := Whole w b #[.string (tstr d), .string (tstr rest), .string (tstr raw), .bool ret] 47
theorem TZ.cells {w : World} {b : Nat} {d rest raw : List UInt8} {ret : Bool} (h : TZ w b d rest raw ret) : w.cell? ⟨b, 0, none⟩ = some (.string (tstr d)) ∧ w.cell? ⟨b, 1, none⟩ = some (.string (tstr rest)) ∧ w.cell? ⟨b, 2, none⟩ = some (.string (tstr raw)) ∧ w.cell? ⟨b, 3, none⟩ = some (.bool ret) :=
  ⟨Whole.cell h 0, Whole.cell h 1, Whole.cell h 2, Whole.cell h 3⟩
theorem TZ.frees {w : World} {b : Nat} {d rest raw : List UInt8} {ret : Bool} (h : TZ w b d rest raw ret) : w.frozen? ⟨b, 0, none⟩ = false ∧ w.frozen? ⟨b, 1, none⟩ = false ∧ w.frozen? ⟨b, 2, none⟩ = false ∧ w.frozen? ⟨b, 3, none⟩ = false :=
  ⟨Whole.free h 0, Whole.free h 1, Whole.free h 2, Whole.free h 3⟩
theorem TZ.below {w w' : World} {b : Nat} {d rest raw : List UInt8} {ret : Bool} (h : TZ w b d rest raw ret) (hb : Below w.heap.size w w') : TZ w' b d rest raw ret := Whole.below h hb (Whole.lt h)

set_option maxRecDepth 100000 in
set_option maxHeartbeats 2000000 in
theorem kread_any (b : Nat) (d rest raw : List UInt8) (ret c : Bool) (w : World) (hE : Env w) (h : TZ w b d rest raw ret) (hs : rest.length ≤ 20000) (hr : raw.length ≤ 100) :
    Calls Tryz.prog 60 #[.pointer (some ⟨b, 0, none⟩), .bool c] w fun e w' => RdOk w' w.heap.size (Mk.rd raw c rest) e ∧ Below w.heap.size w w' := by
  have hW : Whole (w.alloc (.cells #[.int .i64 0, .string ⟨#[]⟩, .slice none 0 0, .bool false, .string ⟨#[]⟩] 30)) w.heap.size #[.int .i64 0, .string ⟨#[]⟩, .slice none 0 0, .bool false, .string ⟨#[]⟩] 30 := Whole.new _ _ _
  have hB : Below w.heap.size w (w.alloc (.cells #[.int .i64 0, .string ⟨#[]⟩, .slice none 0 0, .bool false, .string ⟨#[]⟩] 30)) := (Below.refl _ _).alloc (Nat.le_refl _) _
  generalize hW1 : w.alloc (.cells #[.int .i64 0, .string ⟨#[]⟩, .slice none 0 0, .bool false, .string ⟨#[]⟩] 30) = W1 at hW hB
  have h1 := h.below hB
  obtain ⟨z0, z1, z2, z3⟩ := h1.cells
  have hss : (tstr rest).size ≤ 20000 := by rw [tstr_size]; exact hs
  have hrs : (tstr raw).size ≤ 100 := by rw [tstr_size]; exact hr
  unfold Mk.rd
  by_cases hz : raw = []
  · subst hz
    rw [if_pos rfl]
    have hne : (!(tstr []).toList.isEmpty) = false := tstr_none.2
    have hfin : ∀ W : World, Below w.heap.size w W → Calls Tryz.prog 73 #[.string (tstr rest), .bool c] W fun e w' => RdOk w' W.heap.size (Mk.rdNormal c rest) e ∧ Below W.heap.size W w' := fun W hB => by
      have := knormal_any (tstr rest) c W (hE.below hB) hss
      rw [tstr_data] at this
      exact this
    generalize Mk.rdNormal c rest = x9 at hfin ⊢
    obtain ⟨o9, n9⟩ := x9
    have hemp := tstr_none.1
    clear h1 z0 z3
    generalize tstr rest = R at z1 hfin
    generalize tstr [] = P at z2 hne hemp
    go_enter Tryz.func60, Tryz.ntmps60
    go_wp2_with fail
    clear hW1 z1 z2
    have hcall := hfin _ hB
    clear hfin
    go_wp2_with fail
    refine hcall.mono ?_
    clear hcall
    rintro e w2 ⟨⟨sl, hA, rfl⟩, hb2⟩
    have hW2 := hW.below hb2 hW.lt
    have hB2 := hB.trans (hb2.mono hB.size)
    have hA2 := hA.mono' (base' := w.heap.size) hB.size
    clear hW hB hb2 hA
    obtain ⟨T9, hT9⟩ : ∃ T, o9.getD Mk.zeroTok = T := ⟨_, rfl⟩
    rw [hT9] at hA2 ⊢
    have HT := Lib.hid hT9
    clear hT9
    unfold tokT
    obtain ⟨kd, nm9, ats, cl, tx⟩ := T9
    simp only at hA2 ⊢
    obtain ⟨A9, cp9, rfl⟩ := hA2.form
    obtain ⟨f0, f1, f2, f3, f4⟩ := tok_free hW2
    obtain ⟨d0, d1, d2, d3, d4⟩ := tok_cells hW2
    go_wp2_with fail
    obtain ⟨X9, hX9, r9, g9⟩ := box5 hW2 (.int .i64 kd) (.string (tstr nm9)) (.slice A9 ats.length cp9) (.bool cl) (.string (tstr tx))
    rw [hX9]
    obtain ⟨c0, c1, c2, c3, c4⟩ := tok_cells r9
    have hB9 := below_box hB2 g9 (Nat.le_refl _)
    have hA9 := hA2.grown g9 (.inr (hA2.apart hW2 (by decide)))
    clear d0 d1 d2 d3 d4 f0 f1 f2 f3 f4 hX9
    refine bodyPost_ret (v := .tuple #[.agg #[.int .i64 kd, .string (tstr nm9), .slice A9 ats.length cp9, .bool cl, .string (tstr tx)], .int .i64 n9]) ?_ rfl ⟨?_, hB9⟩
    · simp [results, Tryz.f60, go_sem, c0, c1, c2, c3, c4]
    · exact RdOk.mk _ n9 _ HT.out hA9 rfl
  · rw [if_neg hz]
    obtain ⟨hem, hne⟩ := tstr_some hz
    have hfin : ∀ W : World, Below w.heap.size w W → Calls Tryz.prog 72 #[.string (tstr rest), .string (tstr raw), .bool c] W fun e w' => RdOk w' W.heap.size (Mk.rdRaw raw c rest) e ∧ Below W.heap.size W w' := fun W hB => by
      have := kreadraw_any (tstr rest) (tstr raw) c W (hE.below hB) hss hrs
      rw [tstr_data, tstr_data] at this
      exact this
    generalize Mk.rdRaw raw c rest = x9 at hfin ⊢
    obtain ⟨o9, n9⟩ := x9
    clear h1 z0 z3
    generalize tstr rest = R at z1 hfin
    generalize tstr raw = P at z2 hne hem hfin
    have hBd : Below w.heap.size w W1.drew := ⟨hB.os, hB.tape, hB.output, hB.size, hB.block⟩
    have hcall := hfin _ hBd
    have hWd := hW.drew
    have HALL : Hid (∀ (w2 : World) (sl : Value) , Below W1.drew.heap.size W1.drew w2 → ARow 39 w2 W1.drew.heap.size sl (o9.getD Mk.zeroTok).attrs → Whole w2 w.heap.size #[.int .i64 0, .string ⟨#[]⟩, .slice none 0 0, .bool false, .string ⟨#[]⟩] 30 ∧ Below w.heap.size w w2 ∧ ARow 39 w2 w.heap.size sl (o9.getD Mk.zeroTok).attrs) :=
      Lib.hid fun w2 sl hb2 hA => ⟨hWd.below hb2 hWd.lt, hBd.trans (hb2.mono hBd.size), hA.mono' hBd.size⟩
    clear hBd hWd hfin hE hz
    go_enter Tryz.func60, Tryz.ntmps60
    go_wp2_with fail
    go_region_with (first
      | (go_at_call 72; refine hcall.mono ?_; rintro e w2 ⟨⟨sl, hA, rfl⟩, hb2⟩; obtain ⟨hW2, hB2, hA2⟩ := HALL.out w2 sl hb2 hA; clear hA hb2; obtain ⟨T9, hT9⟩ : ∃ T, o9.getD Mk.zeroTok = T := ⟨_, rfl⟩; rw [hT9] at hA2 ⊢; have HT := Lib.hid hT9; clear hT9; unfold tokT; obtain ⟨kd, nm9, ats, cl, tx⟩ := T9; simp only at hA2 ⊢; obtain ⟨A9, cp9, rfl⟩ := hA2.form; obtain ⟨f0, f1, f2, f3, f4⟩ := tok_free hW2; obtain ⟨d0, d1, d2, d3, d4⟩ := tok_cells hW2))
    all_goals
      obtain ⟨X9, hX9, r9, g9⟩ := box5 hW2 (.int .i64 kd) (.string (tstr nm9)) (.slice A9 ats.length cp9) (.bool cl) (.string (tstr tx))
      first | rw [hX9] | skip
      obtain ⟨c0, c1, c2, c3, c4⟩ := tok_cells r9
      have hB9 := below_box hB2 g9 (Nat.le_refl _)
      have hA9 := hA2.grown g9 (.inr (hA2.apart hW2 (by decide)))
      clear d0 d1 d2 d3 d4 f0 f1 f2 f3 f4 hX9
      go_wp2_with fail
      refine bodyPost_ret (v := .tuple #[.agg #[.int .i64 kd, .string (tstr nm9), .slice A9 ats.length cp9, .bool cl, .string (tstr tx)], .int .i64 n9]) ?_ rfl ⟨?_, hB9⟩
      · simp [results, Tryz.f60, go_sem, c0, c1, c2, c3, c4]
      · exact RdOk.mk _ n9 _ HT.out hA9 rfl

end Go.Proofs.YtckmlbcpldpkpaaGreatDoor

/- The program's next returns what the plain text says. -/
namespace Go.Proofs.YtckmlbcpldpkpaaGreatDoor
open Go Go.RowKit
set_option linter.unusedVariables false

/-- A block that is new, and what turned it. -/
theorem gb_new_row {w W X : World} {row : Option Nat} (h : w.grownBy W row) (hg : W.grownBy X (some w.heap.size)) : w.grownBy X row :=
  ⟨hg.os.trans h.os, hg.tape.trans h.tape, hg.output.trans h.output, Nat.le_trans h.size hg.size, fun k hk hn => (hg.block k (Nat.lt_of_lt_of_le hk h.size) (by intro e; injection e with e; omega)).trans (h.block k hk hn)⟩
theorem gb_put_row {w W : World} {b : Nat} (h : w.grownBy W (some b)) (i : Nat) (v : Value) : w.grownBy (W.setCell ⟨b, i, none⟩ v) (some b) := gb_put h i v
theorem rd_kind {raw s : List UInt8} {c : Bool} {t : Mk.Tok} (h : (Mk.rd raw c s).1 = some t) : 1 ≤ t.kind ∧ t.kind ≤ 5 := by
  have hup : ∀ (p : List UInt8) (k st : Nat) (t : Mk.Tok), (Mk.upto p k st c s).1 = some t → t.kind = k := fun p k st t h => by
    unfold Mk.upto at h
    cases hf : Mk.find p (s.drop st) with
    | none =>
      rw [hf] at h
      cases c with
      | false => cases h
      | true => rw [← Option.some.inj h]
    | some j => rw [hf] at h; rw [← Option.some.inj h]
  have hen : ∀ (t : Mk.Tok), (Mk.rdEnd c s).1 = some t → t.kind = 2 := fun t h => by
    unfold Mk.rdEnd Mk.lacks at h
    cases hf : Mk.find [62] s with
    | none => rw [hf] at h; cases h
    | some j => rw [hf] at h; rw [← Option.some.inj h]
  unfold Mk.rd at h
  split at h
  · unfold Mk.rdNormal at h
    repeat' split at h
    · have := hup _ _ _ _ h; omega
    · obtain ⟨u, hu, rfl⟩ := Option.map_eq_some_iff.1 h
      have := hup _ _ _ _ hu
      show 1 ≤ u.kind ∧ u.kind ≤ 5
      omega
    · have := hen _ h; omega
    · cases h
    · have := hup _ _ _ _ h; omega
    · unfold Mk.rdStart Mk.lacks at h
      cases hs : Mk.start (s.drop 1) with
      | none => rw [hs] at h; cases h
      | some p =>
        rw [hs] at h
        rw [← Option.some.inj h, (Mk.start_kind hs).1]
        omega
    · unfold Mk.rdText at h
      cases hn : Mk.nextC s with
      | none =>
        rw [hn] at h
        cases c with
        | false => cases h
        | true => rw [← Option.some.inj h]; show 1 ≤ 3 ∧ 3 ≤ 5; omega
      | some j => rw [hn] at h; rw [← Option.some.inj h]; show 1 ≤ 3 ∧ 3 ≤ 5; omega
  · unfold Mk.rdRaw at h
    cases hr : Mk.rawEnd raw s with
    | none =>
      rw [hr] at h
      cases c with
      | false => cases h
      | true => rw [← Option.some.inj h]; show 1 ≤ 3 ∧ 3 ≤ 5; omega
    | some k =>
      rw [hr] at h
      cases k with
      | zero => have := hen _ h; omega
      | succ k => rw [← Option.some.inj h]; show 1 ≤ 3 ∧ 3 ≤ 5; omega
/-- What next answers and leaves. -/
def NxOk (w' : World) (base b : Nat) (d : List UInt8) (ret : Bool) (x : Option Mk.Tok × List UInt8 × List UInt8) (e : Value) : Prop :=
  ∃ sl, ARow 39 w' base sl (x.1.getD Mk.zeroTok).attrs ∧ TZ w' b d x.2.2 x.2.1 ret ∧ e = .tuple #[tokT (x.1.getD Mk.zeroTok) sl, .bool x.1.isSome]
theorem NxOk.no {w' : World} {base b : Nat} {d raw rest : List UInt8} {ret : Bool} (h : TZ w' b d rest raw ret) : NxOk w' base b d ret (none, raw, rest) (.tuple #[.agg #[.int .i64 0, .string ⟨#[]⟩, .slice none 0 0, .bool false, .string ⟨#[]⟩], .bool false]) :=
  ⟨.slice none 0 0, ARow.nil _ _ _, h, rfl⟩
theorem NxOk.yes {w' : World} {base b kd : Nat} {d raw rest nm9 tx : List UInt8} {ats : List (List UInt8 × List UInt8)} {sl : Value} {ret cl : Bool} (h : TZ w' b d rest raw ret) (hA : ARow 39 w' base sl ats) :
    NxOk w' base b d ret (some ⟨kd, nm9, ats, cl, tx⟩, raw, rest) (.tuple #[.agg #[.int .i64 kd, .string (tstr nm9), sl, .bool cl, .string (tstr tx)], .bool true]) := ⟨sl, hA, h, rfl⟩
/-- What a step of next works with. -/
structure NxS (W : World) (base b br bt : Nat) (d rest raw : List UInt8) (ret : Bool) (kd : Nat) (nm9 : List UInt8) (sl : Value) (ats : List (List UInt8 × List UInt8)) (cl : Bool) (tx : List UInt8) : Prop where
  tz : TZ W b d rest raw ret
  res : Whole W br #[.int .i64 0, .string ⟨#[]⟩, .slice none 0 0, .bool false, .string ⟨#[]⟩] 30
  tok : Whole W bt #[.int .i64 kd, .string (tstr nm9), sl, .bool cl, .string (tstr tx)] 30
  row : ARow 39 W base sl ats
section
variable {W W' : World} {base b br bt kd : Nat} {d rest raw nm9 tx : List UInt8} {ret cl : Bool} {sl : Value} {ats : List (List UInt8 × List UInt8)}
theorem NxS.put1 (h : NxS W base b br bt d rest raw ret kd nm9 sl ats cl tx) (r : List UInt8) : NxS (W.setCell ⟨b, 1, none⟩ (.string (tstr r))) base b br bt d r raw ret kd nm9 sl ats cl tx :=
  have hz : Whole W b #[.string (tstr d), .string (tstr rest), .string (tstr raw), .bool ret] 47 := h.tz
  ⟨whole_put hz 1 _ rfl, h.res.other (h.res.unlike hz (by decide)) _, h.tok.other (h.tok.unlike hz (by decide)) _, h.row.other hz (by decide) 1 _⟩
theorem NxS.put2 (h : NxS W base b br bt d rest raw ret kd nm9 sl ats cl tx) (r : List UInt8) : NxS (W.setCell ⟨b, 2, none⟩ (.string (tstr r))) base b br bt d rest r ret kd nm9 sl ats cl tx :=
  have hz : Whole W b #[.string (tstr d), .string (tstr rest), .string (tstr raw), .bool ret] 47 := h.tz
  ⟨whole_put hz 2 _ rfl, h.res.other (h.res.unlike hz (by decide)) _, h.tok.other (h.tok.unlike hz (by decide)) _, h.row.other hz (by decide) 2 _⟩
end
theorem rawish_len {tag : List UInt8} (h : Mk.Rawish tag) : tag.length ≤ 8 := by
  rcases Mk.rawish_of h with rfl | rfl | rfl | rfl <;> decide

set_option maxRecDepth 100000 in
set_option maxHeartbeats 4000000 in
theorem knext_any (b : Nat) (d rest raw : List UInt8) (ret c : Bool) (w : World) (hE : ∀ w', w.grownBy w' (some b) → Env w') (h : TZ w b d rest raw ret) (hs : rest.length ≤ 20000) (hr : raw.length ≤ 100) :
    Calls Tryz.prog 42 #[.pointer (some ⟨b, 0, none⟩), .bool c] w fun e w' => ∃ v, e = .returned v ∧ NxOk w' w.heap.size b d ret (Mk.nxt c raw rest) v ∧ w.grownBy w' (some b) := by
  have hW : Whole (w.alloc (.cells #[.int .i64 0, .string ⟨#[]⟩, .slice none 0 0, .bool false, .string ⟨#[]⟩] 30)) w.heap.size #[.int .i64 0, .string ⟨#[]⟩, .slice none 0 0, .bool false, .string ⟨#[]⟩] 30 := Whole.new _ _ _
  have hG : w.grownBy (w.alloc (.cells #[.int .i64 0, .string ⟨#[]⟩, .slice none 0 0, .bool false, .string ⟨#[]⟩] 30)) (some b) := World.grownBy_alloc _ _ _
  have h1 : TZ (w.alloc (.cells #[.int .i64 0, .string ⟨#[]⟩, .slice none 0 0, .bool false, .string ⟨#[]⟩] 30)) b d rest raw ret := Whole.alloc h _
  have HNB := Lib.hid (show b ≠ w.heap.size by have := Whole.lt h; omega)
  have HE := Lib.hid hE
  have hbl := Whole.lt h
  clear hE h
  generalize hW1 : w.alloc (.cells #[.int .i64 0, .string ⟨#[]⟩, .slice none 0 0, .bool false, .string ⟨#[]⟩] 30) = W1 at hW hG h1
  have H0 := Lib.hid (And.intro hW (And.intro hG h1))
  clear hW hG h1
  go_enter Tryz.func42, Tryz.ntmps42
  go_wp2_with fail
  clear hW1
  go_loopg [] rest.length (fun gg wr => ∃ r : List UInt8, r.length ≤ rest.length ∧ r.length ≤ gg ∧ TZ wr b d r raw ret ∧ Whole wr w.heap.size #[.int .i64 0, .string ⟨#[]⟩, .slice none 0 0, .bool false, .string ⟨#[]⟩] 30 ∧ w.grownBy wr (some b) ∧ Mk.nxt c raw rest = Mk.nxt c raw r)
  case atStart => exact ⟨rest, Nat.le_refl _, Nat.le_refl _, H0.out.2.2, H0.out.1, H0.out.2.1, rfl⟩
  case round =>
    clear H0
    obtain ⟨r, hr1, hr2, hT, hW, hG, hnx⟩ := hrel
    obtain ⟨y0, y1, y2, y3⟩ := hT.cells
    by_cases hz : r = []
    · subst hz
      have HNX := Lib.hid (hnx.trans (Mk.nxt_stop (.inl rfl)))
      have HT0 := Lib.hid hT
      have hne := tstr_none.2
      have hem := tstr_none.1
      clear y0 y2 y3 hnx hT
      generalize tstr [] = R at y1 hne hem
      have hg9z := hG
      obtain ⟨f0, f1, f2, f3, f4⟩ := tok_free hW
      obtain ⟨d0, d1, d2, d3, d4⟩ := tok_cells hW
      go_wp2_with fail
      obtain ⟨X9, hX9, r9, g9⟩ := box5 hW (.int .i64 0) (.string ⟨#[]⟩) (.slice none 0 0) (.bool false) (.string ⟨#[]⟩)
      rw [hX9]
      obtain ⟨c0, c1, c2, c3, c4⟩ := tok_cells r9
      have hT9 := Whole.grown HT0.out g9 (by intro e; injection e with e; exact HNB.out e)
      have hG9 := gb_new_row hg9z g9
      clear d0 d1 d2 d3 d4 f0 f1 f2 f3 f4 hX9
      refine bodyPost_ret (v := .tuple #[.agg #[.int .i64 0, .string ⟨#[]⟩, .slice none 0 0, .bool false, .string ⟨#[]⟩], .bool false]) ?_ rfl ⟨_, rfl, ?_, hG9⟩
      · simp [results, Tryz.f42, go_sem, c0, c1, c2, c3, c4]
      · rw [HNX.out]
        exact NxOk.no hT9
    · obtain ⟨hem, hne⟩ := tstr_some hz
      have hrd := kread_any b d r raw ret c wr (HE.out wr hG) hT (by omega) hr
      have hle := Mk.rd_le raw c r
      have HNX := Lib.hid hnx
      have HZ := Lib.hid hz
      have hkd : ∀ t, (Mk.rd raw c r).1 = some t → 1 ≤ t.kind ∧ t.kind ≤ 5 := fun t ht => rd_kind ht
      have hst0 : (Mk.rd raw c r).2 = 0 → Mk.nxt c raw rest = (none, raw, r) := fun h => hnx.trans (Mk.nxt_stop (.inr h))
      have hst1 : (Mk.rd raw c r).2 ≠ 0 → (Mk.rd raw c r).1 = none → Mk.nxt c raw rest = Mk.nxt c raw (r.drop (Mk.rd raw c r).2) := fun h h1 => hnx.trans (Mk.nxt_none hz h h1)
      have hst2 : ∀ t, (Mk.rd raw c r).2 ≠ 0 → (Mk.rd raw c r).1 = some t → Mk.nxt c raw rest = (some t, Mk.adv raw t, r.drop (Mk.rd raw c r).2) := fun t h h1 => hnx.trans (Mk.nxt_some hz h h1)
      generalize Mk.rd raw c r = x9 at hrd hle hkd hst0 hst1 hst2
      obtain ⟨o9, n9⟩ := x9
      simp only at hle hkd hst0 hst1 hst2
      have HS := Lib.hid (And.intro hkd (And.intro hst0 (And.intro hst1 hst2)))
      have HRR := Lib.hid (Eq.refl (tstr r))
      clear y0 y2 y3 hnx hz hkd hst0 hst1 hst2
      have HT0 := Lib.hid (And.intro hT (And.intro hW hG))
      clear hT hW hG
      generalize hR : tstr r = R at y1 hne hem
      have HR := Lib.hid hR
      clear hR HRR
      go_wp2_with fail
      refine hrd.mono ?_
      clear hrd
      rintro e w2 ⟨⟨sl, hA, rfl⟩, hb2⟩
      have hT2 := HT0.out.1.below hb2
      have hW2 := HT0.out.2.1.below hb2 HT0.out.2.1.lt
      have hG2 := gb_trans HT0.out.2.2 (gb_of_below hb2 (some b))
      have hA2 := hA.mono' (base' := w.heap.size) HT0.out.2.2.size
      obtain ⟨T9, hT9⟩ : ∃ T, o9.getD Mk.zeroTok = T := ⟨_, rfl⟩
      rw [hT9] at hA2 ⊢
      have HT := Lib.hid hT9
      clear hT9 hA hb2 HT0 y1
      unfold tokT
      obtain ⟨kd, nm9, ats, cl, tx⟩ := T9
      simp only at hA2 ⊢
      obtain ⟨A9, cp9, rfl⟩ := hA2.form
      have hS3 : NxS (w2.alloc (.cells #[.int .i64 kd, .string (tstr nm9), .slice A9 ats.length cp9, .bool cl, .string (tstr tx)] 30)) w.heap.size b w.heap.size w2.heap.size d r raw ret kd nm9 (.slice A9 ats.length cp9) ats cl tx :=
        ⟨Whole.alloc hT2 _, hW2.alloc _, Whole.new _ _ _, hA2.alloc _⟩
      have hG3 := gb_alloc hG2 (.cells #[.int .i64 kd, .string (tstr nm9), .slice A9 ats.length cp9, .bool cl, .string (tstr tx)] 30)
      by_cases hn0 : n9 = 0
      · subst hn0
        have HNX0 := Lib.hid (HS.out.2.1 rfl)
        have HS3 := Lib.hid hS3
        clear hT2 hW2 hG2 hA2 hS3
        have hg9z := hG3
        obtain ⟨f0, f1, f2, f3, f4⟩ := tok_free HS3.out.res
        obtain ⟨d0, d1, d2, d3, d4⟩ := tok_cells HS3.out.res
        go_wp2_with fail
        obtain ⟨X9, hX9, r9, g9⟩ := box5 HS3.out.res (.int .i64 0) (.string ⟨#[]⟩) (.slice none 0 0) (.bool false) (.string ⟨#[]⟩)
        rw [hX9]
        obtain ⟨c0, c1, c2, c3, c4⟩ := tok_cells r9
        have hT9 := Whole.grown HS3.out.tz g9 (by intro e; injection e with e; exact HNB.out e)
        have hG9 := gb_new_row hg9z g9
        clear d0 d1 d2 d3 d4 f0 f1 f2 f3 f4 hX9
        refine bodyPost_ret (v := .tuple #[.agg #[.int .i64 0, .string ⟨#[]⟩, .slice none 0 0, .bool false, .string ⟨#[]⟩], .bool false]) ?_ rfl ⟨_, rfl, ?_, hG9⟩
        · simp [results, Tryz.f42, go_sem, c0, c1, c2, c3, c4]
        · rw [HNX0.out]
          exact NxOk.no hT9
      · have hn1 : ((n9 : Int) == 0) = false := by rw [beq_eq_false_iff_ne]; omega
        have hRs : R.size = r.length := by rw [← HR.out, tstr_size]
        obtain ⟨r2, hr2e⟩ : ∃ r2, r.drop n9 = r2 := ⟨_, rfl⟩
        have hr2l : r2.length = r.length - n9 := by rw [← hr2e, List.length_drop]
        have sl1 : ∀ W : World, (Instr.slice 9 (.string R) (some (.int .i64 n9)) none none).run Tryz.prog W = .ok (.string (tstr r2)) W := fun W => by
          rw [run_slice_string_l (ht := Tryz.underlying9) (h0 := by omega) (h1 := by rw [hRs]; omega), Int.toNat_natCast]
          have := drop_extract R n9
          rw [← HR.out, tstr_data, hr2e] at this
          rw [← HR.out, str_of_list this]
        have hS4 := hS3.put1 r2
        have hG4 := gb_put hG3 1 (.string (tstr r2))
        obtain ⟨y0, y1, y2, y3⟩ := hS3.tz.cells
        obtain ⟨x0, x1, x2, x3⟩ := hS3.tz.frees
        rw [HR.out] at y1
        obtain ⟨e0, e1, e2, e3, e4⟩ := tok_cells hS4.tok
        have HS4 := Lib.hid hS4
        have HG := Lib.hid hG4
        have HR2 := Lib.hid (And.intro hr2e hr2l)
        clear hT2 hW2 hG2 hA2 hS3 hS4 hG3 hG4 hr2e hr2l hRs
        cases o9 with
        | none =>
          have hk0 : kd = 0 := by
            have := congrArg Mk.Tok.kind HT.out
            exact this.symm
          have kk0 : ((kd : Int) == 0) = true := by rw [hk0]; rfl
          clear hk0
          have HNX1 := Lib.hid (HS.out.2.2.1 (by omega) rfl)
          go_wp2_with fail
          go_roundg r2.length
          case rel => exact ⟨r2, by have := HR2.out.2; omega, Nat.le_refl _, HS4.out.tz, HS4.out.res, HG.out, by rw [← HR2.out.1]; exact HNX1.out⟩
          case measure => have := HR2.out.2; omega
        | some t9 =>
          obtain rfl : t9 = ⟨kd, nm9, ats, cl, tx⟩ := HT.out
          have hkk := HS.out.1 _ rfl
          simp only at hkk
          have HNX2 := HS.out.2.2.2 _ (by simpa using hn0) rfl
          rw [HR2.out.1] at HNX2
          have HNX3 := Lib.hid HNX2
          clear HNX2
          have hk0 : ((kd : Int) == 0) = false := by rw [beq_eq_false_iff_ne]; omega
          have hraw := fun W => kisraw_any (tstr nm9) W
          have hpla := fun W => kisplain_any (tstr nm9) W
          simp only [tstr_data] at hraw hpla
          by_cases hk1 : kd = 1
          · have kk1 : ((kd : Int) == 1) = true := by rw [hk1]; rfl
            have HK1 := Lib.hid hk1
            clear hk1 hkk
            by_cases hraw1 : Mk.rawName nm9 = true
            · have HAD := Lib.hid (show Mk.adv raw ⟨kd, nm9, ats, cl, tx⟩ = nm9 by
                rw [Mk.adv_start HK1.out]; show (if (Mk.rawName nm9 || Mk.plainName nm9) = true then nm9 else raw) = nm9; rw [hraw1]; rfl)
              rw [hraw1] at hraw
              have HS5 := Lib.hid (HS4.out.put2 nm9)
              have HG := Lib.hid (gb_put HG.out 2 (.string (tstr nm9)))
              obtain ⟨f0, f1, f2, f3, f4⟩ := tok_free HS4.out.res
              obtain ⟨d0, d1, d2, d3, d4⟩ := tok_cells HS4.out.res
              obtain ⟨e0, e1, e2, e3, e4⟩ := tok_cells HS4.out.tok
              obtain ⟨y0, y1, y2, y3⟩ := HS4.out.tz.cells
              obtain ⟨x0, x1, x2, x3⟩ := HS4.out.tz.frees
              obtain ⟨f0, f1, f2, f3, f4⟩ := tok_free HS5.out.res
              obtain ⟨d0, d1, d2, d3, d4⟩ := tok_cells HS5.out.res
              obtain ⟨e0', e1', e2', e3', e4'⟩ := tok_cells HS5.out.tok
              clear hpla hraw1
              go_wp2_with fail
              refine (hraw _).mono ?_
              clear hraw
              rintro e w9 ⟨rfl, rfl⟩
              go_wp2_with fail
              obtain ⟨X9, hX9, r9, g9⟩ := box5 HS5.out.res (.int .i64 kd) (.string (tstr nm9)) (.slice A9 ats.length cp9) (.bool cl) (.string (tstr tx))
              rw [hX9]
              obtain ⟨c0, c1, c2, c3, c4⟩ := tok_cells r9
              have hT9 := Whole.grown HS5.out.tz g9 (by intro e; injection e with e; exact HNB.out e)
              have hG9 := gb_new_row HG.out g9
              have hA9 := HS5.out.row.grown g9 (.inr (HS5.out.row.apart HS5.out.res (by decide)))
              clear hX9
              refine bodyPost_ret (v := .tuple #[.agg #[.int .i64 kd, .string (tstr nm9), .slice A9 ats.length cp9, .bool cl, .string (tstr tx)], .bool true]) ?_ rfl ⟨_, rfl, ?_, hG9⟩
              · simp [results, Tryz.f42, go_sem, c0, c1, c2, c3, c4]
              · rw [HNX3.out, HAD.out]
                exact NxOk.yes hT9 hA9
            · have hraw1 := Bool.eq_false_iff.2 hraw1
              rw [hraw1] at hraw
              by_cases hpla1 : Mk.plainName nm9 = true
              · have HAD := Lib.hid (show Mk.adv raw ⟨kd, nm9, ats, cl, tx⟩ = nm9 by
                  rw [Mk.adv_start HK1.out]; show (if (Mk.rawName nm9 || Mk.plainName nm9) = true then nm9 else raw) = nm9; rw [hraw1, hpla1]; rfl)
                rw [hpla1] at hpla
                have HS5 := Lib.hid (HS4.out.put2 nm9)
                have HG := Lib.hid (gb_put HG.out 2 (.string (tstr nm9)))
                obtain ⟨f0, f1, f2, f3, f4⟩ := tok_free HS4.out.res
                obtain ⟨d0, d1, d2, d3, d4⟩ := tok_cells HS4.out.res
                obtain ⟨e0, e1, e2, e3, e4⟩ := tok_cells HS4.out.tok
                obtain ⟨y0, y1, y2, y3⟩ := HS4.out.tz.cells
                obtain ⟨x0, x1, x2, x3⟩ := HS4.out.tz.frees
                obtain ⟨f0, f1, f2, f3, f4⟩ := tok_free HS5.out.res
                obtain ⟨d0, d1, d2, d3, d4⟩ := tok_cells HS5.out.res
                obtain ⟨e0', e1', e2', e3', e4'⟩ := tok_cells HS5.out.tok
                clear hraw1 hpla1
                go_wp2_with fail
                refine (hraw _).mono ?_
                clear hraw
                rintro e w9 ⟨rfl, rfl⟩
                go_wp2_with fail
                refine (hpla _).mono ?_
                clear hpla
                rintro e w9 ⟨rfl, rfl⟩
                go_wp2_with fail
                obtain ⟨X9, hX9, r9, g9⟩ := box5 HS5.out.res (.int .i64 kd) (.string (tstr nm9)) (.slice A9 ats.length cp9) (.bool cl) (.string (tstr tx))
                rw [hX9]
                obtain ⟨c0, c1, c2, c3, c4⟩ := tok_cells r9
                have hT9 := Whole.grown HS5.out.tz g9 (by intro e; injection e with e; exact HNB.out e)
                have hG9 := gb_new_row HG.out g9
                have hA9 := HS5.out.row.grown g9 (.inr (HS5.out.row.apart HS5.out.res (by decide)))
                clear hX9
                refine bodyPost_ret (v := .tuple #[.agg #[.int .i64 kd, .string (tstr nm9), .slice A9 ats.length cp9, .bool cl, .string (tstr tx)], .bool true]) ?_ rfl ⟨_, rfl, ?_, hG9⟩
                · simp [results, Tryz.f42, go_sem, c0, c1, c2, c3, c4]
                · rw [HNX3.out, HAD.out]
                  exact NxOk.yes hT9 hA9
              · have hpla1 := Bool.eq_false_iff.2 hpla1
                rw [hpla1] at hpla
                have HAD := Lib.hid (show Mk.adv raw ⟨kd, nm9, ats, cl, tx⟩ = raw by
                  rw [Mk.adv_start HK1.out]; show (if (Mk.rawName nm9 || Mk.plainName nm9) = true then nm9 else raw) = raw; rw [hraw1, hpla1]; rfl)
                obtain ⟨f0, f1, f2, f3, f4⟩ := tok_free HS4.out.res
                obtain ⟨d0, d1, d2, d3, d4⟩ := tok_cells HS4.out.res
                obtain ⟨e0, e1, e2, e3, e4⟩ := tok_cells HS4.out.tok
                obtain ⟨y0, y1, y2, y3⟩ := HS4.out.tz.cells
                obtain ⟨x0, x1, x2, x3⟩ := HS4.out.tz.frees
                clear hraw1 hpla1
                go_wp2_with fail
                refine (hraw _).mono ?_
                clear hraw
                rintro e w9 ⟨rfl, rfl⟩
                go_wp2_with fail
                refine (hpla _).mono ?_
                clear hpla
                rintro e w9 ⟨rfl, rfl⟩
                go_wp2_with fail
                obtain ⟨X9, hX9, r9, g9⟩ := box5 HS4.out.res (.int .i64 kd) (.string (tstr nm9)) (.slice A9 ats.length cp9) (.bool cl) (.string (tstr tx))
                rw [hX9]
                obtain ⟨c0, c1, c2, c3, c4⟩ := tok_cells r9
                have hT9 := Whole.grown HS4.out.tz g9 (by intro e; injection e with e; exact HNB.out e)
                have hG9 := gb_new_row HG.out g9
                have hA9 := HS4.out.row.grown g9 (.inr (HS4.out.row.apart HS4.out.res (by decide)))
                clear hX9
                refine bodyPost_ret (v := .tuple #[.agg #[.int .i64 kd, .string (tstr nm9), .slice A9 ats.length cp9, .bool cl, .string (tstr tx)], .bool true]) ?_ rfl ⟨_, rfl, ?_, hG9⟩
                · simp [results, Tryz.f42, go_sem, c0, c1, c2, c3, c4]
                · rw [HNX3.out, HAD.out]
                  exact NxOk.yes hT9 hA9
          · have hk1' : ((kd : Int) == 1) = false := by rw [beq_eq_false_iff_ne]; omega
            by_cases hk2 : kd = 2
            · have kk2 : ((kd : Int) == 2) = true := by rw [hk2]; rfl
              have HK2 := Lib.hid hk2
              clear hk2 hkk
              have HAD := Lib.hid (show Mk.adv raw ⟨kd, nm9, ats, cl, tx⟩ = [] from Mk.adv_end HK2.out)
              have HS5 := Lib.hid (show NxS ((w2.alloc (.cells #[.int .i64 kd, .string (tstr nm9), .slice A9 ats.length cp9, .bool cl, .string (tstr tx)] 30)).setCell ⟨b, 1, none⟩ (.string (tstr r2)) |>.setCell ⟨b, 2, none⟩ (.string ⟨#[]⟩)) w.heap.size b w.heap.size w2.heap.size d r2 [] ret kd nm9 (.slice A9 ats.length cp9) ats cl tx from HS4.out.put2 [])
              have HG := Lib.hid (show w.grownBy ((w2.alloc (.cells #[.int .i64 kd, .string (tstr nm9), .slice A9 ats.length cp9, .bool cl, .string (tstr tx)] 30)).setCell ⟨b, 1, none⟩ (.string (tstr r2)) |>.setCell ⟨b, 2, none⟩ (.string ⟨#[]⟩)) (some b) from gb_put HG.out 2 (.string (tstr [])))
              obtain ⟨f0, f1, f2, f3, f4⟩ := tok_free HS4.out.res
              obtain ⟨d0, d1, d2, d3, d4⟩ := tok_cells HS4.out.res
              obtain ⟨e0, e1, e2, e3, e4⟩ := tok_cells HS4.out.tok
              obtain ⟨y0, y1, y2, y3⟩ := HS4.out.tz.cells
              obtain ⟨x0, x1, x2, x3⟩ := HS4.out.tz.frees
              obtain ⟨f0, f1, f2, f3, f4⟩ := tok_free HS5.out.res
              obtain ⟨d0, d1, d2, d3, d4⟩ := tok_cells HS5.out.res
              obtain ⟨e0', e1', e2', e3', e4'⟩ := tok_cells HS5.out.tok
              clear hraw hpla
              go_wp2_with fail
              obtain ⟨X9, hX9, r9, g9⟩ := box5 HS5.out.res (.int .i64 kd) (.string (tstr nm9)) (.slice A9 ats.length cp9) (.bool cl) (.string (tstr tx))
              rw [hX9]
              obtain ⟨c0, c1, c2, c3, c4⟩ := tok_cells r9
              have hT9 := Whole.grown HS5.out.tz g9 (by intro e; injection e with e; exact HNB.out e)
              have hG9 := gb_new_row HG.out g9
              have hA9 := HS5.out.row.grown g9 (.inr (HS5.out.row.apart HS5.out.res (by decide)))
              clear hX9
              refine bodyPost_ret (v := .tuple #[.agg #[.int .i64 kd, .string (tstr nm9), .slice A9 ats.length cp9, .bool cl, .string (tstr tx)], .bool true]) ?_ rfl ⟨_, rfl, ?_, hG9⟩
              · simp [results, Tryz.f42, go_sem, c0, c1, c2, c3, c4]
              · rw [HNX3.out, HAD.out]
                exact NxOk.yes hT9 hA9
            · have hk2' : ((kd : Int) == 2) = false := by rw [beq_eq_false_iff_ne]; omega
              have HAD := Lib.hid (show Mk.adv raw ⟨kd, nm9, ats, cl, tx⟩ = raw from Mk.adv_else hk1 hk2)
              obtain ⟨f0, f1, f2, f3, f4⟩ := tok_free HS4.out.res
              obtain ⟨d0, d1, d2, d3, d4⟩ := tok_cells HS4.out.res
              obtain ⟨e0, e1, e2, e3, e4⟩ := tok_cells HS4.out.tok
              obtain ⟨y0, y1, y2, y3⟩ := HS4.out.tz.cells
              obtain ⟨x0, x1, x2, x3⟩ := HS4.out.tz.frees
              clear hraw hpla
              go_wp2_with fail
              obtain ⟨X9, hX9, r9, g9⟩ := box5 HS4.out.res (.int .i64 kd) (.string (tstr nm9)) (.slice A9 ats.length cp9) (.bool cl) (.string (tstr tx))
              rw [hX9]
              obtain ⟨c0, c1, c2, c3, c4⟩ := tok_cells r9
              have hT9 := Whole.grown HS4.out.tz g9 (by intro e; injection e with e; exact HNB.out e)
              have hG9 := gb_new_row HG.out g9
              have hA9 := HS4.out.row.grown g9 (.inr (HS4.out.row.apart HS4.out.res (by decide)))
              clear hX9
              refine bodyPost_ret (v := .tuple #[.agg #[.int .i64 kd, .string (tstr nm9), .slice A9 ats.length cp9, .bool cl, .string (tstr tx)], .bool true]) ?_ rfl ⟨_, rfl, ?_, hG9⟩
              · simp [results, Tryz.f42, go_sem, c0, c1, c2, c3, c4]
              · rw [HNX3.out, HAD.out]
                exact NxOk.yes hT9 hA9

end Go.Proofs.YtckmlbcpldpkpaaGreatDoor
