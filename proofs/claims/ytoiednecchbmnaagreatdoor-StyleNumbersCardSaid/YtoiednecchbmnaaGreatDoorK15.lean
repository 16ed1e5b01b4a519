/- The walk of StyleNumbers. -/
import Derived.Test.YtoiednecchbmnaaGreatDoorK13
import Derived.Test.YtoiednecchbmnaaGreatDoorK14
namespace Go.Proofs.YtoiednecchbmnaaGreatDoor
open Go Go.RowKit
set_option linter.unusedVariables false
theorem fmt35 (n : Int) (u : List UInt8) (hu : St.Pl u) : St.skip [35] (Txt.trim ((St.fmtNum n ++ u).map Txt.lo)) = false := by
  have hp := (St.pl_fmt n).app hu
  rw [hp.lower, hp.trim]
  unfold St.skip
  unfold St.fmtNum
  by_cases h : n < 0
  · rw [if_pos h]; rfl
  · rw [if_neg h]
    obtain ⟨c, t, e, hd⟩ := St.fracU_cons n.natAbs
    rw [e, List.cons_append]
    exact St.pre1 (by intro e; subst e; cases hd)
theorem tmod_lt (n : Int) : -1048576000 < n.tmod 1048576000 ∧ n.tmod 1048576000 < 1048576000 := by
  by_cases h : 0 ≤ n
  · rw [Int.tmod_eq_emod_of_nonneg h]; omega
  · have h1 : n = -(-n) := by omega
    rw [h1, Int.neg_tmod, Int.tmod_eq_emod_of_nonneg (by omega)]; omega
theorem tdm (m : Int) : (m.tdiv 1000 * 1000).tmod 1000 = 0 ∧ (m.natAbs < 1048576000 → -1048576000 ≤ m.tdiv 1000 * 1000 ∧ m.tdiv 1000 * 1000 ≤ 1048576000) := by
  constructor
  · exact Int.mul_tmod_left ..
  · intro h
    by_cases h0 : 0 ≤ m
    · rw [Int.tdiv_eq_ediv_of_nonneg h0]; omega
    · have h1 : m = -(-m) := by omega
      rw [h1, Int.neg_tdiv, Int.tdiv_eq_ediv_of_nonneg (by omega)]; omega
set_option maxHeartbeats 8000000 in
theorem numbers_walk (n : Int) (k : Nat) (w : World) (hn1 : -9223372036854775808 ≤ n) (hn2 : n ≤ 9223372036854775807) (hk : k < 256) (hT : Lit w) (hM : MaxLen w) (hP : Pow w) :
    Calls Tryz.prog 4 #[.int .i64 n, .int .u8 k] w fun e w' => e = .returned (.bool true) ∧ Below w.heap.size w w' := by
  have haw := yawake_any w hT hM
  obtain ⟨m, hm⟩ : ∃ m, n.tmod 1048576000 = m := ⟨_, rfl⟩
  have hb := tmod_lt n
  rw [hm] at hb
  have hfm := fun (κ : Int) (x : Int) (w : World) h1 h2 h3 h4 => yfmt_any κ x [] w h1 h2 h3 h4
  have hpv := fun (name s : List UInt8) (w : World) h1 h2 h3 => yparse_any name s w h1 h2 h3
  have HM := Lib.hid hM
  have HP := Lib.hid hP
  clear hT hM hP
  have h4 : k % 4 = 0 ∨ k % 4 = 1 ∨ k % 4 = 2 ∨ k % 4 = 3 := by omega
  rcases h4 with h4 | h4 | h4 | h4
  · have hki : (k : Int) % 4 = 0 := by omega
    have hkj : k % 4 = 0 := by omega
    have htd := tdm m
    obtain ⟨x, hx⟩ : ∃ x, m.tdiv 1000 * 1000 = x := ⟨_, rfl⟩
    rw [hx] at htd
    have hx1 := htd.2 (by omega)
    have hx0 := htd.1
    have HBK := Lib.hid (St.back_int hx1.1 hx1.2 hx0)
    have hf : ∀ w, Pow w → Calls Tryz.prog 10 #[.agg #[.int .i64 2, .int .i64 x, .string ⟨#[]⟩]] w _ := fun w h => hfm 2 x w (by decide) hx1.1 hx1.2 h
    have h35 := fmt35 x [] (by intro c hc; revert c; decide)
    have hlen : (St.fmt ⟨2, x, []⟩).length ≤ 20000 := by
      have := fmtNum_len (n := x) hx1.1 hx1.2
      show (St.fmtNum x).length ≤ 20000
      first | (rw [List.length_append]; simp only [List.length_cons, List.length_nil]; omega) | omega
    have hp : ∀ w, MaxLen w → Calls Tryz.prog 9 #[.string (tstr St.pZ), .string (tstr (St.fmt ⟨2, x, []⟩))] w fun e w' => e = .returned (.tuple #[.agg #[.int .i64 2, .int .i64 x, .string ⟨#[]⟩], .int .i64 0]) ∧ Below w.heap.size w w' := fun w h => by have := hpv St.pZ (St.fmt ⟨2, x, []⟩) w h hlen (by have := h35; rw [List.append_nil] at this; exact this); rw [HBK.out] at this; exact this
    clear hfm hpv h35 hlen HBK
    go_enter Tryz.func4, Tryz.ntmps4
    go_wp2_with fail
    refine haw.mono ?_
    clear haw
    rintro e w2 ⟨rfl, hb2⟩
    have HB2 := Lib.hid hb2
    have HM2 := Lib.hid (HM.out.below hb2)
    have HP2 := Lib.hid (HP.out.below hb2)
    clear hb2
    go_wp2_with fail
    have hB3 := ((Below.refl w2.heap.size w2).alloc (Nat.le_refl _) (.cells #[.int .i64 2, .int .i64 x, .string ⟨#[]⟩] 30)).alloc (by rw [World.size_alloc]; omega) (.cells #[.string ⟨#[122, 45, 105, 110, 100, 101, 120]⟩, .string ⟨#[108, 101, 102, 116]⟩, .string ⟨#[108, 101, 102, 116]⟩, .string ⟨#[108, 101, 102, 116]⟩] 9)
    have hV3 : Whole ((w2.alloc (.cells #[.int .i64 2, .int .i64 x, .string ⟨#[]⟩] 30)).alloc (.cells #[.string ⟨#[122, 45, 105, 110, 100, 101, 120]⟩, .string ⟨#[108, 101, 102, 116]⟩, .string ⟨#[108, 101, 102, 116]⟩, .string ⟨#[108, 101, 102, 116]⟩] 9)) w2.heap.size #[.int .i64 2, .int .i64 x, .string ⟨#[]⟩] 30 := (Whole.new _ _ _).alloc _
    refine (hf _ (HP2.out.below hB3)).mono ?_
    clear hf
    rintro e w5 ⟨rfl, hb5⟩
    have HV5 := Lib.hid (hV3.below hb5 hV3.lt)
    have hB5 := hB3.trans (hb5.mono hB3.size)
    have HB5 := Lib.hid (ybt HB2.out hB5)
    have hpp := hp w5 (HM2.out.below hB5)
    clear hB3 hV3 hb5 hB5 hp
    go_wp2_with fail
    refine hpp.mono ?_
    clear hpp
    rintro e w6 ⟨rfl, hb6⟩
    have hV6 := HV5.out.below hb6 HV5.out.lt
    obtain ⟨d0, d1, d2⟩ := cells3 (hV6.alloc (.cells #[.int .i64 2, .int .i64 x, .string ⟨#[]⟩] 30))
    have HB6 := Lib.hid (ybt HB5.out hb6)
    clear hV6 hb6
    go_wp2_with fail
    go_ret
    exact ⟨rfl, HB6.out.alloc HB6.out.size _⟩
  · have hki : (k : Int) % 4 = 1 := by omega
    have hkj : k % 4 = 1 := by omega
    have HBK := Lib.hid (St.back_len (n := m) (by omega) (by omega)).1
    have hf : ∀ w, Pow w → Calls Tryz.prog 10 #[.agg #[.int .i64 3, .int .i64 m, .string ⟨#[]⟩]] w _ := fun w h => hfm 3 m w (by decide) (by omega) (by omega) h
    have h35 := fmt35 m [112, 120] (by intro c hc; revert c; decide)
    have hlen : (St.fmt ⟨3, m, []⟩).length ≤ 20000 := by
      have := fmtNum_len (n := m) (by omega) (by omega)
      show (St.fmtNum m ++ [112, 120]).length ≤ 20000
      first | (rw [List.length_append]; simp only [List.length_cons, List.length_nil]; omega) | omega
    have hp : ∀ w, MaxLen w → Calls Tryz.prog 9 #[.string (tstr St.pL), .string (tstr (St.fmt ⟨3, m, []⟩))] w fun e w' => e = .returned (.tuple #[.agg #[.int .i64 3, .int .i64 m, .string ⟨#[]⟩], .int .i64 0]) ∧ Below w.heap.size w w' := fun w h => by have := hpv St.pL (St.fmt ⟨3, m, []⟩) w h hlen (h35); rw [HBK.out] at this; exact this
    clear hfm hpv h35 hlen HBK
    go_enter Tryz.func4, Tryz.ntmps4
    go_wp2_with fail
    refine haw.mono ?_
    clear haw
    rintro e w2 ⟨rfl, hb2⟩
    have HB2 := Lib.hid hb2
    have HM2 := Lib.hid (HM.out.below hb2)
    have HP2 := Lib.hid (HP.out.below hb2)
    clear hb2
    go_wp2_with fail
    have hB3 := ((Below.refl w2.heap.size w2).alloc (Nat.le_refl _) (.cells #[.int .i64 3, .int .i64 m, .string ⟨#[]⟩] 30)).alloc (by rw [World.size_alloc]; omega) (.cells #[.string ⟨#[122, 45, 105, 110, 100, 101, 120]⟩, .string ⟨#[108, 101, 102, 116]⟩, .string ⟨#[108, 101, 102, 116]⟩, .string ⟨#[108, 101, 102, 116]⟩] 9)
    have hV3 : Whole ((w2.alloc (.cells #[.int .i64 3, .int .i64 m, .string ⟨#[]⟩] 30)).alloc (.cells #[.string ⟨#[122, 45, 105, 110, 100, 101, 120]⟩, .string ⟨#[108, 101, 102, 116]⟩, .string ⟨#[108, 101, 102, 116]⟩, .string ⟨#[108, 101, 102, 116]⟩] 9)) w2.heap.size #[.int .i64 3, .int .i64 m, .string ⟨#[]⟩] 30 := (Whole.new _ _ _).alloc _
    refine (hf _ (HP2.out.below hB3)).mono ?_
    clear hf
    rintro e w5 ⟨rfl, hb5⟩
    have HV5 := Lib.hid (hV3.below hb5 hV3.lt)
    have hB5 := hB3.trans (hb5.mono hB3.size)
    have HB5 := Lib.hid (ybt HB2.out hB5)
    have hpp := hp w5 (HM2.out.below hB5)
    clear hB3 hV3 hb5 hB5 hp
    go_wp2_with fail
    refine hpp.mono ?_
    clear hpp
    rintro e w6 ⟨rfl, hb6⟩
    have hV6 := HV5.out.below hb6 HV5.out.lt
    obtain ⟨d0, d1, d2⟩ := cells3 (hV6.alloc (.cells #[.int .i64 3, .int .i64 m, .string ⟨#[]⟩] 30))
    have HB6 := Lib.hid (ybt HB5.out hb6)
    clear hV6 hb6
    go_wp2_with fail
    go_ret
    exact ⟨rfl, HB6.out.alloc HB6.out.size _⟩
  · have hki : (k : Int) % 4 = 2 := by omega
    have hkj : k % 4 = 2 := by omega
    have HBK := Lib.hid (St.back_len (n := m) (by omega) (by omega)).2.1
    have hf : ∀ w, Pow w → Calls Tryz.prog 10 #[.agg #[.int .i64 4, .int .i64 m, .string ⟨#[]⟩]] w _ := fun w h => hfm 4 m w (by decide) (by omega) (by omega) h
    have h35 := fmt35 m [101, 109] (by intro c hc; revert c; decide)
    have hlen : (St.fmt ⟨4, m, []⟩).length ≤ 20000 := by
      have := fmtNum_len (n := m) (by omega) (by omega)
      show (St.fmtNum m ++ [101, 109]).length ≤ 20000
      first | (rw [List.length_append]; simp only [List.length_cons, List.length_nil]; omega) | omega
    have hp : ∀ w, MaxLen w → Calls Tryz.prog 9 #[.string (tstr St.pL), .string (tstr (St.fmt ⟨4, m, []⟩))] w fun e w' => e = .returned (.tuple #[.agg #[.int .i64 4, .int .i64 m, .string ⟨#[]⟩], .int .i64 0]) ∧ Below w.heap.size w w' := fun w h => by have := hpv St.pL (St.fmt ⟨4, m, []⟩) w h hlen (h35); rw [HBK.out] at this; exact this
    clear hfm hpv h35 hlen HBK
    go_enter Tryz.func4, Tryz.ntmps4
    go_wp2_with fail
    refine haw.mono ?_
    clear haw
    rintro e w2 ⟨rfl, hb2⟩
    have HB2 := Lib.hid hb2
    have HM2 := Lib.hid (HM.out.below hb2)
    have HP2 := Lib.hid (HP.out.below hb2)
    clear hb2
    go_wp2_with fail
    have hB3 := ((Below.refl w2.heap.size w2).alloc (Nat.le_refl _) (.cells #[.int .i64 4, .int .i64 m, .string ⟨#[]⟩] 30)).alloc (by rw [World.size_alloc]; omega) (.cells #[.string ⟨#[122, 45, 105, 110, 100, 101, 120]⟩, .string ⟨#[108, 101, 102, 116]⟩, .string ⟨#[108, 101, 102, 116]⟩, .string ⟨#[108, 101, 102, 116]⟩] 9)
    have hV3 : Whole ((w2.alloc (.cells #[.int .i64 4, .int .i64 m, .string ⟨#[]⟩] 30)).alloc (.cells #[.string ⟨#[122, 45, 105, 110, 100, 101, 120]⟩, .string ⟨#[108, 101, 102, 116]⟩, .string ⟨#[108, 101, 102, 116]⟩, .string ⟨#[108, 101, 102, 116]⟩] 9)) w2.heap.size #[.int .i64 4, .int .i64 m, .string ⟨#[]⟩] 30 := (Whole.new _ _ _).alloc _
    refine (hf _ (HP2.out.below hB3)).mono ?_
    clear hf
    rintro e w5 ⟨rfl, hb5⟩
    have HV5 := Lib.hid (hV3.below hb5 hV3.lt)
    have hB5 := hB3.trans (hb5.mono hB3.size)
    have HB5 := Lib.hid (ybt HB2.out hB5)
    have hpp := hp w5 (HM2.out.below hB5)
    clear hB3 hV3 hb5 hB5 hp
    go_wp2_with fail
    refine hpp.mono ?_
    clear hpp
    rintro e w6 ⟨rfl, hb6⟩
    have hV6 := HV5.out.below hb6 HV5.out.lt
    obtain ⟨d0, d1, d2⟩ := cells3 (hV6.alloc (.cells #[.int .i64 4, .int .i64 m, .string ⟨#[]⟩] 30))
    have HB6 := Lib.hid (ybt HB5.out hb6)
    clear hV6 hb6
    go_wp2_with fail
    go_ret
    exact ⟨rfl, HB6.out.alloc HB6.out.size _⟩
  · have hki : (k : Int) % 4 = 3 := by omega
    have hkj : k % 4 = 3 := by omega
    have HBK := Lib.hid (St.back_len (n := m) (by omega) (by omega)).2.2
    have hf : ∀ w, Pow w → Calls Tryz.prog 10 #[.agg #[.int .i64 5, .int .i64 m, .string ⟨#[]⟩]] w _ := fun w h => hfm 5 m w (by decide) (by omega) (by omega) h
    have h35 := fmt35 m [37] (by intro c hc; revert c; decide)
    have hlen : (St.fmt ⟨5, m, []⟩).length ≤ 20000 := by
      have := fmtNum_len (n := m) (by omega) (by omega)
      show (St.fmtNum m ++ [37]).length ≤ 20000
      first | (rw [List.length_append]; simp only [List.length_cons, List.length_nil]; omega) | omega
    have hp : ∀ w, MaxLen w → Calls Tryz.prog 9 #[.string (tstr St.pL), .string (tstr (St.fmt ⟨5, m, []⟩))] w fun e w' => e = .returned (.tuple #[.agg #[.int .i64 5, .int .i64 m, .string ⟨#[]⟩], .int .i64 0]) ∧ Below w.heap.size w w' := fun w h => by have := hpv St.pL (St.fmt ⟨5, m, []⟩) w h hlen (h35); rw [HBK.out] at this; exact this
    clear hfm hpv h35 hlen HBK
    go_enter Tryz.func4, Tryz.ntmps4
    go_wp2_with fail
    refine haw.mono ?_
    clear haw
    rintro e w2 ⟨rfl, hb2⟩
    have HB2 := Lib.hid hb2
    have HM2 := Lib.hid (HM.out.below hb2)
    have HP2 := Lib.hid (HP.out.below hb2)
    clear hb2
    go_wp2_with fail
    have hB3 := ((Below.refl w2.heap.size w2).alloc (Nat.le_refl _) (.cells #[.int .i64 5, .int .i64 m, .string ⟨#[]⟩] 30)).alloc (by rw [World.size_alloc]; omega) (.cells #[.string ⟨#[122, 45, 105, 110, 100, 101, 120]⟩, .string ⟨#[108, 101, 102, 116]⟩, .string ⟨#[108, 101, 102, 116]⟩, .string ⟨#[108, 101, 102, 116]⟩] 9)
    have hV3 : Whole ((w2.alloc (.cells #[.int .i64 5, .int .i64 m, .string ⟨#[]⟩] 30)).alloc (.cells #[.string ⟨#[122, 45, 105, 110, 100, 101, 120]⟩, .string ⟨#[108, 101, 102, 116]⟩, .string ⟨#[108, 101, 102, 116]⟩, .string ⟨#[108, 101, 102, 116]⟩] 9)) w2.heap.size #[.int .i64 5, .int .i64 m, .string ⟨#[]⟩] 30 := (Whole.new _ _ _).alloc _
    refine (hf _ (HP2.out.below hB3)).mono ?_
    clear hf
    rintro e w5 ⟨rfl, hb5⟩
    have HV5 := Lib.hid (hV3.below hb5 hV3.lt)
    have hB5 := hB3.trans (hb5.mono hB3.size)
    have HB5 := Lib.hid (ybt HB2.out hB5)
    have hpp := hp w5 (HM2.out.below hB5)
    clear hB3 hV3 hb5 hB5 hp
    go_wp2_with fail
    refine hpp.mono ?_
    clear hpp
    rintro e w6 ⟨rfl, hb6⟩
    have hV6 := HV5.out.below hb6 HV5.out.lt
    obtain ⟨d0, d1, d2⟩ := cells3 (hV6.alloc (.cells #[.int .i64 5, .int .i64 m, .string ⟨#[]⟩] 30))
    have HB6 := Lib.hid (ybt HB5.out hb6)
    clear hV6 hb6
    go_wp2_with fail
    go_ret
    exact ⟨rfl, HB6.out.alloc HB6.out.size _⟩
end Go.Proofs.YtoiednecchbmnaaGreatDoor
