/- The program's Lower and Upper return what the plain texts say. -/
import Derived.Test.YtoiednecchbmnaaDoorK08
import Derived.Test.YtoiednecchbmnaaDoorK01
import Derived.Laws.IdiomStrings
import Derived.Lib.Strings
namespace Go.Proofs.YtoiednecchbmnaaDoor
open Go.RowKit

set_option maxRecDepth 100000 in
set_option maxHeartbeats 400000 in
theorem recase_any (s : ByteArray) (fr tu : Nat) (f : UInt8 → UInt8) (w : World) (hs : s.size ≤ 20000) (hfr : fr ≤ 128) (hto : tu ≤ 128)
    (hf1 : ∀ c : UInt8, fr ≤ c.toNat → c.toNat < fr + 26 → (f c).toNat = c.toNat - fr + tu) (hf2 : ∀ c : UInt8, ¬ (fr ≤ c.toNat ∧ c.toNat < fr + 26) → f c = c) :
    Calls Tryd.prog 29 #[.string s, .int .u8 fr, .int .u8 tu] w fun e w' => e = .returned (.string (tstr (s.data.toList.map f))) ∧ Below w.heap.size w w' := by
  have hcv := Lib.run_convert_string_bytes (P := Tryd.prog) w 9 53 5 s Tryd.underlying9 Tryd.underlying53 Tryd.underlying5
  generalize grownCap w s.size 0 5 = cap at hcv
  have hll : s.data.toList.length = s.size := rfl
  go_enter Tryd.func29, Tryd.ntmps29
  go_wp2_with fail
  go_loopw [14] (fun i wr => ∃ k : Nat, k ≤ s.size ∧ i = .int .i64 k ∧ BRow wr w.heap.size (part f s.data.toList k) ∧ Below w.heap.size w wr) (fun i _ => s.size - (intOf i).toNat)
  case atStart => exact ⟨0, Nat.zero_le _, rfl, by rw [part_zero]; exact BRow.new w s, tbytesWorld_below w _ s⟩
  case round =>
    obtain ⟨k, hk, rfl, hrow, hbel⟩ := hrel
    by_cases hlt : k < s.size
    · have hkl : k < s.data.toList.length := hlt
      obtain ⟨hc, hf⟩ := hrow k (by rw [part_len]; exact hkl)
      rw [part_get _ _ k hkl] at hc
      have hst := part_step f s.data.toList k hkl
      have hsm := part_same f s.data.toList k hkl
      obtain ⟨c, hcc⟩ : ∃ c, s.data.toList[k] = c := ⟨_, rfl⟩
      rw [hcc] at hc hst hsm
      have hc256 := c.toNat_lt
      have hsz := hbel.size
      by_cases hup : fr ≤ c.toNat ∧ c.toNat < fr + 26
      · obtain ⟨h1, h2⟩ := hup
        have hnum := hf1 c h1 h2
        have hset := hrow.set k (f c)
        rw [hst, hnum, show ((c.toNat - fr + tu : Nat) : Int) = (c.toNat : Int) - fr + tu from by omega] at hset
        have HS := Lib.hid hset
        clear hset hst hsm hnum hcc hrow hf1 hf2
        go_wp2_with fail
        go_roundw
        case rel => exact ⟨k + 1, by omega, by go_num, HS.out, hbel.setCell (p := ⟨w.heap.size, k, none⟩) (Nat.le_refl _) _⟩
        case measure => simp [intOf]; omega
      · have hp : part f s.data.toList (k + 1) = part f s.data.toList k := hsm (hf2 c hup)
        rw [← hp] at hrow
        have HR := Lib.hid hrow
        clear hst hsm hcc hp hrow hf1 hf2
        by_cases h65 : fr ≤ c.toNat
        · have h90 : ¬ c.toNat < fr + 26 := fun h => hup ⟨h65, h⟩
          clear hup
          go_wp2_with fail
          go_roundw
          case rel => exact ⟨k + 1, by omega, by go_num, HR.out, hbel⟩
          case measure => simp [intOf]; omega
        · clear hup
          go_wp2_with fail
          go_roundw
          case rel => exact ⟨k + 1, by omega, by go_num, HR.out, hbel⟩
          case measure => simp [intOf]; omega
    · have ek : k = s.size := by omega
      subst ek
      rw [← hll, part_all] at hrow
      have hl2 : (s.data.toList.map f).length = s.size := by rw [List.length_map]; rfl
      have hconv := hrow.conv (cap := cap)
      rw [hl2] at hconv
      go_wp2_with fail
      go_ret
      exact ⟨rfl, hbel⟩

set_option maxHeartbeats 400000 in
theorem tlower_any (s : ByteArray) (w : World) (hs : s.size ≤ 20000) :
    Calls Tryd.prog 16 #[.string s] w fun e w' => e = .returned (.string (tstr (s.data.toList.map Txt.lo))) ∧ Below w.heap.size w w' := by
  have hR := recase_any s 65 97 Txt.lo w hs (by omega) (by omega) (fun c h1 h2 => by rw [Txt.lo_num, if_pos (by omega)]; omega) (fun c h => by unfold Txt.lo; rw [if_neg (by omega)])
  go_enter Tryd.func16, Tryd.ntmps16
  go_wp2_with fail
  refine hR.mono ?_
  rintro e w2 ⟨rfl, hb⟩
  go_wp2_with fail
  go_ret
  exact ⟨rfl, hb⟩

end Go.Proofs.YtoiednecchbmnaaDoor
/- The reference's Space returns what the plain text says. -/
namespace Go.Proofs.YtoiednecchbmnaaDoor
open Go.RowKit

set_option maxHeartbeats 400000 in
theorem space_any (c : UInt8) (w : World) :
    Calls Tryd.prog 24 #[.int .u8 c.toNat] w fun e w' => e = .returned (.bool (Txt.sp c)) ∧ w = w' := by
  go_enter Tryd.func24, Tryd.ntmps24
  go_wp2
  all_goals go_ret
  all_goals refine ⟨retB ?_, rfl⟩
  all_goals unfold Txt.sp
  all_goals rw [Bool.eq_iff_iff]
  all_goals simp
  all_goals omega

end Go.Proofs.YtoiednecchbmnaaDoor
/- A byte cut out of a string. -/
namespace Go.Proofs.YtoiednecchbmnaaDoor
open Go.RowKit

theorem extract_one (s : ByteArray) (k : Nat) (h : k < s.size) : s.extract k (k + 1) = tstr [s[k]] := by
  rw [← tstr_of (s.extract k (k + 1)), textract, drop_at s k h]; rfl
theorem slice1 (s : ByteArray) (k : Nat) (i j : Int) (hi : i = k) (hj : j = (k : Int) + 1) (h : k < s.size) (W : World) :
    (Instr.slice 9 (.string s) (some (.int .i64 i)) (some (.int .i64 j)) none).run Tryd.prog W = .ok (.string (tstr [s[k]])) W := by
  subst hi hj
  rw [run_slice_string W _ s _ _ _ _ Tryd.underlying9 (by omega) (by omega) (by omega), ← extract_one s k h]; rfl

/-- There is white space before. -/
def prevAt (s : ByteArray) : Nat → Bool
  | 0 => false
  | k + 1 => if h : k < s.size then Txt.sp s[k] else false
theorem prevAt_succ (s : ByteArray) (k : Nat) (h : k < s.size) : prevAt s (k + 1) = Txt.sp s[k] := dif_pos h

end Go.Proofs.YtoiednecchbmnaaDoor
/- The reference's Trim and Fields return what the plain texts say. -/
namespace Go.Proofs.YtoiednecchbmnaaDoor
open Go.RowKit

/-- How long a string in a slot is. -/
def lenOf : Value → Nat
  | .string t => t.size
  | _ => 0
theorem tail_str (t : ByteArray) (h : 0 < t.size) : (t.extract 1 t.size).data.toList = t.data.toList.drop 1 ∧ (t.extract 1 t.size).size = t.size - 1 := by
  refine ⟨?_, by rw [ByteArray.size_extract]; omega⟩
  have := textract t 1 (t.size - 1)
  rw [show 1 + (t.size - 1) = t.size from by omega] at this
  rw [this, List.take_of_length_le]
  rw [List.length_drop]; exact Nat.le_refl _
theorem init_str (t : ByteArray) (h : 0 < t.size) : t.data.toList = (t.extract 0 (t.size - 1)).data.toList ++ [t[t.size - 1]] ∧ (t.extract 0 (t.size - 1)).size = t.size - 1 := by
  refine ⟨?_, by rw [ByteArray.size_extract]; omega⟩
  have h1 := textract t 0 (t.size - 1)
  rw [Nat.zero_add] at h1
  rw [h1, List.drop_zero]
  have h2 := List.take_append_drop (t.size - 1) t.data.toList
  rw [drop_at t (t.size - 1) (by omega), drop_end t _ (by omega)] at h2
  exact h2.symm

set_option maxHeartbeats 400000 in
theorem rtrim_any (s : ByteArray) (w : World) (hs : s.size ≤ 10000) :
    Calls Tryd.prog 12 #[.string s] w fun e w' => e = .returned (.string (tstr (Txt.trim s.data.toList))) ∧ w = w' := by
  go_enter Tryd.func12, Tryd.ntmps12
  go_wp2_with fail
  go_loop [0] (fun v => ∃ t : ByteArray, v = .string t ∧ t.size ≤ 10000 ∧ Txt.trimL t.data.toList = Txt.trimL s.data.toList) (fun v => lenOf v)
  case atStart => exact ⟨s, rfl, hs, rfl⟩
  case round =>
    obtain ⟨t, rfl, ht, hL⟩ := hrel
    have hway : (∃ h : 0 < t.size, Txt.sp t[0] = true) ∨ (∃ h : 0 < t.size, Txt.sp t[0] = false ∧ t.data.toList = Txt.trimL s.data.toList) ∨ (¬ 0 < t.size ∧ t.data.toList = Txt.trimL s.data.toList) := by
      by_cases hz : 0 < t.size
      · have hd := drop_at t 0 hz
        rw [List.drop_zero] at hd
        cases hsp : Txt.sp t[0] with
        | true => exact .inl ⟨hz, hsp⟩
        | false => exact .inr (.inl ⟨hz, hsp, by rw [← hL, hd, Txt.trimL, if_neg (by rw [hsp]; simp)]⟩)
      · have hd := drop_end t 0 hz
        rw [List.drop_zero] at hd
        exact .inr (.inr ⟨hz, by rw [← hL, hd]; rfl⟩)
    rcases hway with ⟨hz, hsp⟩ | ⟨hz, hsp, hfin⟩ | ⟨hz, hfin⟩
    · have hd := drop_at t 0 hz
      rw [List.drop_zero] at hd
      obtain ⟨h1, h2⟩ := tail_str t hz
      have hst : Txt.trimL (t.extract 1 t.size).data.toList = Txt.trimL s.data.toList := by
        rw [← hL, hd, Txt.trimL, if_pos hsp, h1]
      have HS := Lib.hid hst
      have HP := Lib.hid hsp
      clear hst hsp hL hd h1
      go_wp2_with fail
      refine (space_any t[0] w).mono ?_
      rintro e w2 ⟨rfl, rfl⟩
      rw [HP.out]
      go_wp2_with fail
      go_round
      case rel => exact ⟨t.extract 1 t.size, rfl, by omega, HS.out⟩
      case measure =>
        show (t.extract 1 t.size).size < t.size
        omega
    case' inr.inl =>
      have HS := Lib.hid hfin
      have HP := Lib.hid hsp
      clear hL hfin hsp
      go_wp2_with fail
      refine (space_any t[0] w).mono ?_
      rintro e w2 ⟨rfl, rfl⟩
      rw [HP.out]
      go_wp2_with fail
    case' inr.inr =>
      have HS := Lib.hid hfin
      clear hL hfin
      go_wp2_with fail
    all_goals
      go_loop [0] (fun v => ∃ u : ByteArray, v = .string u ∧ u.size ≤ 10000 ∧ Txt.trimR u.data.toList = Txt.trimR t.data.toList) (fun v => lenOf v)
      case atStart => exact ⟨t, rfl, ht, rfl⟩
      case round =>
        obtain ⟨u, rfl, hu, hR⟩ := hrel
        by_cases hzu : 0 < u.size
        · obtain ⟨h1, h2⟩ := init_str u hzu
          have hzi : u.size - 1 < u.size := by omega
          cases hsp : Txt.sp u[u.size - 1] with
          | true =>
            have hst : Txt.trimR (u.extract 0 (u.size - 1)).data.toList = Txt.trimR t.data.toList := by
              rw [← hR]
              conv => rhs; rw [h1, Txt.trimR_snoc, if_pos hsp]
            have HT := Lib.hid hst
            have HP := Lib.hid hsp
            clear hst hsp hR h1
            go_wp2_with fail
            refine (space_any u[u.size - 1] w).mono ?_
            rintro e w2 ⟨rfl, rfl⟩
            rw [HP.out]
            go_wp2_with fail
            go_round
            case rel => exact ⟨u.extract 0 (u.size - 1), rfl, by omega, HT.out⟩
            case measure =>
              show (u.extract 0 (u.size - 1)).size < u.size
              omega
          | false =>
            have hst : u.data.toList = Txt.trimR t.data.toList := by
              rw [← hR]
              conv => rhs; rw [h1, Txt.trimR_snoc, if_neg (by rw [hsp]; simp)]
              exact h1
            have HT := Lib.hid hst
            have HP := Lib.hid hsp
            clear hst hsp hR h1
            go_wp2_with fail
            refine (space_any u[u.size - 1] w).mono ?_
            rintro e w2 ⟨rfl, rfl⟩
            rw [HP.out]
            go_wp2_with fail
            go_ret
            exact ⟨retS (by rw [← tstr_of u, HT.out, HS.out]; rfl), rfl⟩
        · have hd := drop_end u 0 hzu
          rw [List.drop_zero] at hd
          have hst : u.data.toList = Txt.trimR t.data.toList := by rw [← hR, hd]; rfl
          have HT := Lib.hid hst
          clear hst hR hd
          go_wp2_with fail
          go_ret
          exact ⟨retS (by rw [← tstr_of u, HT.out, HS.out]; rfl), rfl⟩

end Go.Proofs.YtoiednecchbmnaaDoor
/- A string that is empty, and one that is not. -/
namespace Go.Proofs.YtoiednecchbmnaaDoor
open Go.RowKit

theorem tstr_none : (tstr []).toList.isEmpty = true ∧ (!(tstr []).toList.isEmpty) = false := by
  constructor <;> rw [Lib.toList_data, tstr_data] <;> rfl
theorem tstr_some {l : List UInt8} (h : l ≠ []) : (tstr l).toList.isEmpty = false ∧ (!(tstr l).toList.isEmpty) = true := by
  rw [Lib.toList_data, tstr_data]
  cases l with
  | nil => exact absurd rfl h
  | cons a r => exact ⟨rfl, rfl⟩

end Go.Proofs.YtoiednecchbmnaaDoor
/- The program's Trim returns what the plain texts say. -/
namespace Go.Proofs.YtoiednecchbmnaaDoor
open Go.RowKit

theorem str_some {t : ByteArray} (h : 0 < t.size) : t.toList.isEmpty = false ∧ (!t.toList.isEmpty) = true := by
  have : t.data.toList ≠ [] := fun e => by have h2 : t.data.toList.length = t.size := rfl; rw [e] at h2; simp at h2; omega
  have h3 := tstr_some this
  rwa [tstr_of] at h3
theorem str_none {t : ByteArray} (h : ¬ 0 < t.size) : t.toList.isEmpty = true ∧ (!t.toList.isEmpty) = false := by
  have : t.data.toList = [] := List.eq_nil_of_length_eq_zero (by show t.size = 0; omega)
  have h3 := tstr_none
  rw [← this, tstr_of] at h3
  exact h3

set_option maxHeartbeats 400000 in
theorem ctrim_any (s : ByteArray) (w : World) (hs : s.size ≤ 20000) :
    Calls Tryd.prog 15 #[.string s] w fun e w' => e = .returned (.string (tstr (Txt.trim s.data.toList))) ∧ w = w' := by
  go_enter Tryd.func15, Tryd.ntmps15
  go_wp2_with fail
  go_loop [0] (fun v => ∃ t : ByteArray, v = .string t ∧ t.size ≤ 20000 ∧ Txt.trimL t.data.toList = Txt.trimL s.data.toList) (fun v => lenOf v)
  case atStart => exact ⟨s, rfl, hs, rfl⟩
  case round =>
    obtain ⟨t, rfl, ht, hL⟩ := hrel
    have hway : (∃ h : 0 < t.size, Txt.sp t[0] = true) ∨ (∃ h : 0 < t.size, Txt.sp t[0] = false ∧ t.data.toList = Txt.trimL s.data.toList) ∨ (¬ 0 < t.size ∧ t.data.toList = Txt.trimL s.data.toList) := by
      by_cases hz : 0 < t.size
      · have hd := drop_at t 0 hz
        rw [List.drop_zero] at hd
        cases hsp : Txt.sp t[0] with
        | true => exact .inl ⟨hz, hsp⟩
        | false => exact .inr (.inl ⟨hz, hsp, by rw [← hL, hd, Txt.trimL, if_neg (by rw [hsp]; simp)]⟩)
      · have hd := drop_end t 0 hz
        rw [List.drop_zero] at hd
        exact .inr (.inr ⟨hz, by rw [← hL, hd]; rfl⟩)
    rcases hway with ⟨hz, hsp⟩ | ⟨hz, hsp, hfin⟩ | ⟨hz, hfin⟩
    · obtain ⟨hq1, hq2⟩ := str_some hz
      have hd := drop_at t 0 hz
      rw [List.drop_zero] at hd
      obtain ⟨h1, h2⟩ := tail_str t hz
      have hst : Txt.trimL (t.extract 1 t.size).data.toList = Txt.trimL s.data.toList := by
        rw [← hL, hd, Txt.trimL, if_pos hsp, h1]
      have HS := Lib.hid hst
      have HP := Lib.hid hsp
      clear hst hsp hL hd h1
      go_wp2_with fail
      refine (cspace_any t[0] w).mono ?_
      rintro e w2 ⟨rfl, rfl⟩
      rw [HP.out]
      go_wp2_with fail
      go_round
      case rel => exact ⟨t.extract 1 t.size, rfl, by omega, HS.out⟩
      case measure =>
        show (t.extract 1 t.size).size < t.size
        omega
    case' inr.inl =>
      obtain ⟨hq1, hq2⟩ := str_some hz
      have HS := Lib.hid hfin
      have HP := Lib.hid hsp
      clear hL hfin hsp
      go_wp2_with fail
      refine (cspace_any t[0] w).mono ?_
      rintro e w2 ⟨rfl, rfl⟩
      rw [HP.out]
      go_wp2_with fail
    case' inr.inr =>
      obtain ⟨hq1, hq2⟩ := str_none hz
      have HS := Lib.hid hfin
      clear hL hfin
      go_wp2_with fail
    all_goals
      go_loop [0] (fun v => ∃ u : ByteArray, v = .string u ∧ u.size ≤ 20000 ∧ Txt.trimR u.data.toList = Txt.trimR t.data.toList) (fun v => lenOf v)
      case atStart => exact ⟨t, rfl, ht, rfl⟩
      case round =>
        obtain ⟨u, rfl, hu, hR⟩ := hrel
        by_cases hzu : 0 < u.size
        · obtain ⟨hr1, hr2⟩ := str_some hzu
          obtain ⟨h1, h2⟩ := init_str u hzu
          have hzi : u.size - 1 < u.size := by omega
          cases hsp : Txt.sp u[u.size - 1] with
          | true =>
            have hst : Txt.trimR (u.extract 0 (u.size - 1)).data.toList = Txt.trimR t.data.toList := by
              rw [← hR]
              conv => rhs; rw [h1, Txt.trimR_snoc, if_pos hsp]
            have HT := Lib.hid hst
            have HP := Lib.hid hsp
            clear hst hsp hR h1
            go_wp2_with fail
            refine (cspace_any u[u.size - 1] w).mono ?_
            rintro e w2 ⟨rfl, rfl⟩
            rw [HP.out]
            go_wp2_with fail
            go_round
            case rel => exact ⟨u.extract 0 (u.size - 1), rfl, by omega, HT.out⟩
            case measure =>
              show (u.extract 0 (u.size - 1)).size < u.size
              omega
          | false =>
            have hst : u.data.toList = Txt.trimR t.data.toList := by
              rw [← hR]
              conv => rhs; rw [h1, Txt.trimR_snoc, if_neg (by rw [hsp]; simp)]
              exact h1
            have HT := Lib.hid hst
            have HP := Lib.hid hsp
            clear hst hsp hR h1
            go_wp2_with fail
            refine (cspace_any u[u.size - 1] w).mono ?_
            rintro e w2 ⟨rfl, rfl⟩
            rw [HP.out]
            go_wp2_with fail
            go_ret
            exact ⟨retS (by rw [← tstr_of u, HT.out, HS.out]; rfl), rfl⟩
        · obtain ⟨hr1, hr2⟩ := str_none hzu
          have hd := drop_end u 0 hzu
          rw [List.drop_zero] at hd
          have hst : u.data.toList = Txt.trimR t.data.toList := by rw [← hR, hd]; rfl
          have HT := Lib.hid hst
          clear hst hR hd
          go_wp2_with fail
          go_ret
          exact ⟨retS (by rw [← tstr_of u, HT.out, HS.out]; rfl), rfl⟩

theorem ttrim_any (s : ByteArray) (w : World) (hs : s.size ≤ 20000) :
    Calls Tryd.prog 15 #[.string s] w fun e w' => e = .returned (.string (tstr (Txt.trim s.data.toList))) ∧ Below w.heap.size w w' := by
  refine (ctrim_any s w hs).mono ?_
  rintro e w2 ⟨rfl, rfl⟩
  exact ⟨rfl, Below.refl _ _⟩

end Go.Proofs.YtoiednecchbmnaaDoor
