/- The reference's Fields returns what the plain text says. -/
import Derived.Test.YtfiegofcjinmcaaTPts
import Derived.Test.YtfiegofcjinmcaaTColl
import Derived.Laws.IdiomStrings
import Derived.Lib.Strings
namespace Go.Proofs.Ytfiegofcjinmcaa
open Go.RowKit

theorem tstr_none : (tstr []).toList.isEmpty = true ∧ (!(tstr []).toList.isEmpty) = false := by
  constructor <;> rw [Lib.toList_data, tstr_data] <;> rfl
theorem tstr_some {l : List UInt8} (h : l ≠ []) : (tstr l).toList.isEmpty = false ∧ (!(tstr l).toList.isEmpty) = true := by
  rw [Lib.toList_data, tstr_data]
  cases l with
  | nil => exact absurd rfl h
  | cons a r => exact ⟨rfl, rfl⟩
theorem fields_count (p l : List UInt8) : (Txt.fields p l).length ≤ p.length + l.length := by
  induction l generalizing p with
  | nil =>
    unfold Txt.fields
    split
    · simp
    · rename_i h
      have : 0 < p.length := List.length_pos_iff.2 h
      simp only [List.length_cons, List.length_nil]; omega
  | cons c r ih =>
    unfold Txt.fields
    split
    · split
      · have := ih []; simp only [List.length_cons, List.length_nil] at this ⊢; omega
      · rename_i h
        have h1 : 0 < p.length := List.length_pos_iff.2 h
        have := ih []
        simp only [List.length_cons, List.length_nil] at this ⊢; omega
    · have := ih (p ++ [c])
      simp only [List.length_cons, List.length_append, List.length_nil] at this ⊢; omega

set_option maxRecDepth 100000 in
set_option maxHeartbeats 400000 in
theorem rfields_any (s : ByteArray) (w : World) (hs : s.size ≤ 10000) :
    Calls Try.prog 20 #[.string s] w fun e w' => ∃ v, e = .returned v ∧ w'.ownsRow w.heap.size 9 1 v (Txt.fields [] s.data.toList).length (scells (Txt.fields [] s.data.toList)) ∧ Below w.heap.size w w' := by
  obtain ⟨i0, hi, hz0, hz1, hz2⟩ := info_parts strInfo
  have hct := fields_count [] s.data.toList
  have hll : s.data.toList.length = s.size := rfl
  rw [hll, List.length_nil, Nat.zero_add] at hct
  obtain ⟨hn1, hn2⟩ := tstr_none
  go_enter Try.func20, Try.ntmps20
  go_wp2_with fail
  go_loopw [3, 4, 5] (fun v p i wr => ∃ (k : Nat) (D : List (List UInt8)) (P : List UInt8), k ≤ s.size ∧ i = .int .i64 k ∧ p = .string (tstr P) ∧ P.length ≤ k ∧ wr.ownsRow w.heap.size 9 1 v D.length (scells D) ∧ D ++ Txt.fields P (s.data.toList.drop k) = Txt.fields [] s.data.toList ∧ Below w.heap.size w wr) (fun _ _ i _ => s.size - (intOf i).toNat)
  case atStart => exact ⟨0, [], [], Nat.zero_le _, rfl, rfl, Nat.le_refl _, World.ownsRow_nil _ _ _ _, rfl, Below.refl _ _⟩
  case round =>
    obtain ⟨k, D, P, hk, rfl, rfl, hPk, hown, hL, hbel⟩ := hrel
    obtain ⟨A, cp, rfl⟩ := own_form hown
    have hDl : D.length ≤ 10000 := by have := congrArg List.length hL; rw [List.length_append] at this; omega
    have hPs : (tstr P).size ≤ 10000 := by rw [tstr_size]; omega
    by_cases hlt : k < s.size
    · rw [drop_at s k hlt, Txt.fields] at hL
      cases hsp : Txt.sp s[k] with
      | false =>
        rw [if_neg (by rw [hsp]; simp)] at hL
        have h1s : ∀ c : UInt8, (tstr [c]).size = 1 := fun c => tstr_size _
        have had : ∀ (c : UInt8) (W : World), (Op.stringOp .add (tstr P) (tstr [c])).run Try.prog W = .ok (.string (tstr P ++ tstr [c])) W := fun c W => run_string_add_sum W _ _ (by rw [h1s]; omega)
        have hsl := slice1 s k k ((k : Int) + 1) rfl rfl hlt
        have HL := Lib.hid hL
        have HP := Lib.hid hsp
        clear hsp hL
        go_wp2_with fail
        refine (space_any s[k] wr).mono ?_
        rintro e w2 ⟨rfl, rfl⟩
        rw [HP.out]
        go_wp2_with fail
        go_roundw
        case rel => exact ⟨k + 1, D, P ++ [s[k]], by omega, by go_num, by rw [tstr_append], by simp; omega, hown, HL.out, hbel⟩
        case measure => simp [intOf]; omega
      | true =>
        rw [if_pos hsp] at hL
        by_cases hP : P = []
        · rw [if_pos hP] at hL
          subst hP
          have HL := Lib.hid hL
          have HP := Lib.hid hsp
          clear hsp hL
          go_wp2_with fail
          refine (space_any s[k] wr).mono ?_
          rintro e w2 ⟨rfl, rfl⟩
          rw [HP.out]
          go_wp2_with fail
          go_roundw
          case rel => exact ⟨k + 1, D, [], by omega, by go_num, rfl, Nat.zero_le _, hown, HL.out, hbel⟩
          case measure => simp [intOf]; omega
        · rw [if_neg hP] at hL
          obtain ⟨hq1, hq2⟩ := tstr_some hP
          have HL : Hid ((D ++ [P]) ++ Txt.fields [] (s.data.toList.drop (k + 1)) = Txt.fields [] s.data.toList) := by
            have : (D ++ [P]) ++ Txt.fields [] (s.data.toList.drop (k + 1)) = Txt.fields [] s.data.toList := by rw [← hL, List.append_assoc]; rfl
            exact Lib.hid this
          have HP := Lib.hid hsp
          clear hsp hL
          go_wp2_with fail
          refine (space_any s[k] wr).mono ?_
          rintro e w2 ⟨rfl, rfl⟩
          rw [HP.out]
          go_wp2_with (at_builtin; refine wpList_append_own _ rfl (.tmp 26) (.tmp 28) 23 rfl w.heap.size 9 i0 (.string ByteArray.empty) 1 16 Try.underlying23 hi hz0 hz1 hz2 rfl (by decide) _ D.length (scells D) rfl (hown.alloc _) ⟨wr.heap.size, 0, none⟩ 1 1 (scells [P]) rfl rfl ?c1 ?c2 ?c3 ?c4 ?c5 ?_)
          case c1 => intro j u hj; match j, hj with | 0, hj => simp [scells] at hj; subst hj; simp [Addr.add]
          case c2 => intro u hu; simp [scells] at hu; subst hu; rfl
          case c3 => unfold maxLen; omega
          case c4 => omega
          case c5 => have := hbel.size; simp; omega
          intro v2 w2 ho2 hg2 _
          have hb2 : Below w.heap.size w w2 := (hbel.alloc hbel.size _).grown hg2 (by have := hbel.size; simp; omega) (fun j hj => (hown.lt j hj).1)
          rw [← scells_append] at ho2
          have HB := Lib.hid hb2
          have HO := Lib.hid ho2
          clear ho2 hg2 hb2
          go_wp2_with fail
          go_roundw
          case rel => exact ⟨k + 1, D ++ [P], [], by omega, by go_num, rfl, Nat.zero_le _, by rw [List.length_append]; exact HO.out, HL.out, HB.out⟩
          case measure => simp [intOf]; omega
    · have ek : k = s.size := by omega
      subst ek
      rw [drop_end s _ hlt, Txt.fields] at hL
      by_cases hP : P = []
      · rw [if_pos hP, List.append_nil] at hL
        subst hP
        have HL := Lib.hid hL
        clear hL
        go_wp2_with fail
        go_ret
        exact ⟨_, rfl, by rw [← HL.out]; exact hown, hbel⟩
      · rw [if_neg hP] at hL
        obtain ⟨hq1, hq2⟩ := tstr_some hP
        have HL := Lib.hid hL
        clear hL
        go_wp2_with (at_builtin; refine wpList_append_own _ rfl (.tmp 32) (.tmp 34) 23 rfl w.heap.size 9 i0 (.string ByteArray.empty) 1 16 Try.underlying23 hi hz0 hz1 hz2 rfl (by decide) _ D.length (scells D) rfl (hown.alloc _) ⟨wr.heap.size, 0, none⟩ 1 1 (scells [P]) rfl rfl ?c1 ?c2 ?c3 ?c4 ?c5 ?_)
        case c1 => intro j u hj; match j, hj with | 0, hj => simp [scells] at hj; subst hj; simp [Addr.add]
        case c2 => intro u hu; simp [scells] at hu; subst hu; rfl
        case c3 => unfold maxLen; omega
        case c4 => omega
        case c5 => have := hbel.size; simp; omega
        intro v2 w2 ho2 hg2 _
        have hb2 : Below w.heap.size w w2 := (hbel.alloc hbel.size _).grown hg2 (by have := hbel.size; simp; omega) (fun j hj => (hown.lt j hj).1)
        rw [← scells_append] at ho2
        have HB := Lib.hid hb2
        have HO := Lib.hid ho2
        clear ho2 hg2 hb2
        go_wp2_with fail
        go_ret
        exact ⟨_, rfl, by rw [← HL.out, List.length_append]; exact HO.out, HB.out⟩

end Go.Proofs.Ytfiegofcjinmcaa
