/- The program's Trim and Blank return what the plain texts say. -/
import Derived.Test.YtfiegofcjinmcaaTTrim
import Derived.Test.YtfiegofcjinmcaaTFld
import Derived.Test.YtfiegofcjinmcaaTCIss
namespace Go.Proofs.Ytfiegofcjinmcaa
open Go.RowKit

theorem str_some {t : ByteArray} (h : 0 < t.size) : t.toList.isEmpty = false ∧ (!t.toList.isEmpty) = true := by
  have : t.data.toList ≠ [] := fun e => by have h2 : t.data.toList.length = t.size := rfl; rw [e] at h2; simp at h2; omega
  have h3 := tstr_some this
  rwa [tstr_of] at h3
theorem str_none {t : ByteArray} (h : ¬ 0 < t.size) : t.toList.isEmpty = true ∧ (!t.toList.isEmpty) = false := by
  have : t.data.toList = [] := List.eq_nil_of_length_eq_zero (by show t.size = 0; omega)
  have h3 := tstr_none
  rw [← this, tstr_of] at h3
  exact h3

set_option maxHeartbeats 400000 in
theorem ctrim_any (s : ByteArray) (w : World) (hs : s.size ≤ 10000) :
    Calls Try.prog 24 #[.string s] w fun e w' => e = .returned (.string (tstr (Txt.trim s.data.toList))) ∧ w = w' := by
  go_enter Try.func24, Try.ntmps24
  go_wp2_with fail
  go_loop [0] (fun v => ∃ t : ByteArray, v = .string t ∧ t.size ≤ 10000 ∧ Txt.trimL t.data.toList = Txt.trimL s.data.toList) (fun v => lenOf v)
  case atStart => exact ⟨s, rfl, hs, rfl⟩
  case round =>
    obtain ⟨t, rfl, ht, hL⟩ := hrel
    have hway : (∃ h : 0 < t.size, Txt.sp t[0] = true) ∨ (∃ h : 0 < t.size, Txt.sp t[0] = false ∧ t.data.toList = Txt.trimL s.data.toList) ∨ (¬ 0 < t.size ∧ t.data.toList = Txt.trimL s.data.toList) := by
      by_cases hz : 0 < t.size
      · have hd := drop_at t 0 hz
        rw [List.drop_zero] at hd
        cases hsp : Txt.sp t[0] with
        | true => exact .inl ⟨hz, hsp⟩
        | false => exact .inr (.inl ⟨hz, hsp, by rw [← hL, hd, Txt.trimL, if_neg (by rw [hsp]; simp)]⟩)
      · have hd := drop_end t 0 hz
        rw [List.drop_zero] at hd
        exact .inr (.inr ⟨hz, by rw [← hL, hd]; rfl⟩)
    rcases hway with ⟨hz, hsp⟩ | ⟨hz, hsp, hfin⟩ | ⟨hz, hfin⟩
    · obtain ⟨hq1, hq2⟩ := str_some hz
      have hd := drop_at t 0 hz
      rw [List.drop_zero] at hd
      obtain ⟨h1, h2⟩ := tail_str t hz
      have hst : Txt.trimL (t.extract 1 t.size).data.toList = Txt.trimL s.data.toList := by
        rw [← hL, hd, Txt.trimL, if_pos hsp, h1]
      have HS := Lib.hid hst
      have HP := Lib.hid hsp
      clear hst hsp hL hd h1
      go_wp2_with fail
      refine (cspace_any t[0] w).mono ?_
      rintro e w2 ⟨rfl, rfl⟩
      rw [HP.out]
      go_wp2_with fail
      go_round
      case rel => exact ⟨t.extract 1 t.size, rfl, by omega, HS.out⟩
      case measure =>
        show (t.extract 1 t.size).size < t.size
        omega
    case' inr.inl =>
      obtain ⟨hq1, hq2⟩ := str_some hz
      have HS := Lib.hid hfin
      have HP := Lib.hid hsp
      clear hL hfin hsp
      go_wp2_with fail
      refine (cspace_any t[0] w).mono ?_
      rintro e w2 ⟨rfl, rfl⟩
      rw [HP.out]
      go_wp2_with fail
    case' inr.inr =>
      obtain ⟨hq1, hq2⟩ := str_none hz
      have HS := Lib.hid hfin
      clear hL hfin
      go_wp2_with fail
    all_goals
      go_loop [0] (fun v => ∃ u : ByteArray, v = .string u ∧ u.size ≤ 10000 ∧ Txt.trimR u.data.toList = Txt.trimR t.data.toList) (fun v => lenOf v)
      case atStart => exact ⟨t, rfl, ht, rfl⟩
      case round =>
        obtain ⟨u, rfl, hu, hR⟩ := hrel
        by_cases hzu : 0 < u.size
        · obtain ⟨hr1, hr2⟩ := str_some hzu
          obtain ⟨h1, h2⟩ := init_str u hzu
          have hzi : u.size - 1 < u.size := by omega
          cases hsp : Txt.sp u[u.size - 1] with
          | true =>
            have hst : Txt.trimR (u.extract 0 (u.size - 1)).data.toList = Txt.trimR t.data.toList := by
              rw [← hR]
              conv => rhs; rw [h1, Txt.trimR_snoc, if_pos hsp]
            have HT := Lib.hid hst
            have HP := Lib.hid hsp
            clear hst hsp hR h1
            go_wp2_with fail
            refine (cspace_any u[u.size - 1] w).mono ?_
            rintro e w2 ⟨rfl, rfl⟩
            rw [HP.out]
            go_wp2_with fail
            go_round
            case rel => exact ⟨u.extract 0 (u.size - 1), rfl, by omega, HT.out⟩
            case measure =>
              show (u.extract 0 (u.size - 1)).size < u.size
              omega
          | false =>
            have hst : u.data.toList = Txt.trimR t.data.toList := by
              rw [← hR]
              conv => rhs; rw [h1, Txt.trimR_snoc, if_neg (by rw [hsp]; simp)]
              exact h1
            have HT := Lib.hid hst
            have HP := Lib.hid hsp
            clear hst hsp hR h1
            go_wp2_with fail
            refine (cspace_any u[u.size - 1] w).mono ?_
            rintro e w2 ⟨rfl, rfl⟩
            rw [HP.out]
            go_wp2_with fail
            go_ret
            exact ⟨retS (by rw [← tstr_of u, HT.out, HS.out]; rfl), rfl⟩
        · obtain ⟨hr1, hr2⟩ := str_none hzu
          have hd := drop_end u 0 hzu
          rw [List.drop_zero] at hd
          have hst : u.data.toList = Txt.trimR t.data.toList := by rw [← hR, hd]; rfl
          have HT := Lib.hid hst
          clear hst hR hd
          go_wp2_with fail
          go_ret
          exact ⟨retS (by rw [← tstr_of u, HT.out, HS.out]; rfl), rfl⟩

theorem ttrim_any (s : ByteArray) (w : World) (hs : s.size ≤ 10000) :
    Calls Try.prog 24 #[.string s] w fun e w' => e = .returned (.string (tstr (Txt.trim s.data.toList))) ∧ Below w.heap.size w w' := by
  refine (ctrim_any s w hs).mono ?_
  rintro e w2 ⟨rfl, rfl⟩
  exact ⟨rfl, Below.refl _ _⟩

/-- Nothing is left of white space alone, and there are no parts. -/
theorem trimL_nil (l : List UInt8) : Txt.trimL l = [] ↔ ∀ c ∈ l, Txt.sp c = true := by
  induction l with
  | nil => simp [Txt.trimL]
  | cons a r ih =>
    unfold Txt.trimL
    cases h : Txt.sp a with
    | true => simp [ih, h]
    | false => simp [h]
theorem fields_nil (l : List UInt8) : Txt.fields [] l = [] ↔ ∀ c ∈ l, Txt.sp c = true := by
  have hp : ∀ (r p : List UInt8), p ≠ [] → Txt.fields p r ≠ [] := by
    intro r
    induction r with
    | nil => intro p h; unfold Txt.fields; rw [if_neg h]; simp
    | cons a r ih =>
      intro p h
      unfold Txt.fields
      split
      · simp
      · exact ih _ (by simp)
  induction l with
  | nil => simp [Txt.fields]
  | cons a r ih =>
    unfold Txt.fields
    cases h : Txt.sp a with
    | true => simp [ih, h]
    | false =>
      have := hp r [a] (by simp)
      simp [h, this]
theorem trimL_some {l : List UInt8} (h : Txt.trimL l ≠ []) : ∃ c r, Txt.trimL l = c :: r ∧ Txt.sp c = false := by
  induction l with
  | nil => exact absurd rfl h
  | cons a r ih =>
    unfold Txt.trimL at h ⊢
    cases hs : Txt.sp a with
    | true =>
      rw [hs] at h
      exact ih h
    | false => exact ⟨a, r, by simp, hs⟩
theorem trim_nil (l : List UInt8) : Txt.trim l = [] ↔ Txt.fields [] l = [] := by
  rw [fields_nil, ← trimL_nil]
  constructor
  · intro h
    by_cases he : Txt.trimL l = []
    · exact he
    · obtain ⟨c, r, h1, h2⟩ := trimL_some he
      unfold Txt.trim Txt.trimR at h
      rw [List.reverse_eq_nil_iff, trimL_nil] at h
      have := h c (by rw [h1]; simp)
      rw [h2] at this
      cases this
  · intro h
    unfold Txt.trim
    rw [h]
    rfl

set_option maxHeartbeats 400000 in
theorem tblank_any (s : ByteArray) (w : World) (hs : s.size ≤ 10000) :
    Calls Try.prog 23 #[.string s] w fun e w' => e = .returned (.bool (decide (Txt.fields [] s.data.toList = []))) ∧ Below w.heap.size w w' := by
  have hb : (tstr (Txt.trim s.data.toList)).toList.isEmpty = decide (Txt.fields [] s.data.toList = []) := by
    rw [Lib.toList_data, tstr_data, Bool.eq_iff_iff, decide_eq_true_iff, ← trim_nil]
    simp
  go_enter Try.func23, Try.ntmps23
  go_wp2_with fail
  refine (ctrim_any s w hs).mono ?_
  rintro e w2 ⟨rfl, rfl⟩
  go_wp2_with fail
  go_ret
  exact ⟨rfl, Below.refl _ _⟩

end Go.Proofs.Ytfiegofcjinmcaa
