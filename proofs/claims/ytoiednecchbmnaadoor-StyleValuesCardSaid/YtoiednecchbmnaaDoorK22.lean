/- The walk of StyleValues. -/
import Derived.Test.YtoiednecchbmnaaDoorK14
import Derived.Test.YtoiednecchbmnaaDoorK15
import Derived.Test.YtoiednecchbmnaaDoorK21
import Derived.Test.YtoiednecchbmnaaDoorK17
namespace Go.Proofs.YtoiednecchbmnaaDoor
open Go Go.RowKit
set_option linter.unusedVariables false
theorem nm_kinds : NM = St.kinds.map (·.1) := by decide +kernel
theorem words_of : ∀ x ∈ St.kinds, St.wordsOf x.1 = some (St.wsOf x.2.1 x.2.2) := by
  have : (St.kinds.all fun x => decide (St.wordsOf x.1 = some (St.wsOf x.2.1 x.2.2))) = true := by decide +kernel
  exact fun x hx => of_decide_eq_true (List.all_eq_true.1 this x hx)
theorem parse_known {x : St.Bs × List St.Bs × Nat} (hx : x ∈ St.kinds) (s : List UInt8) : St.parse x.1 s = if (St.rparse x.2.1 x.2.2 (Txt.trim (s.map Txt.lo))).2 then ((St.rparse x.2.1 x.2.2 (Txt.trim (s.map Txt.lo))).1, 0) else (St.vnil, 4) := by
  have hw := words_of x hx
  have hp := St.pv_eq hx (Txt.trim (s.map Txt.lo))
  unfold St.parse
  rw [hw]
  generalize Txt.trim (s.map Txt.lo) = t at hp ⊢
  unfold St.pv at hp
  simp only
  by_cases h1 : (St.valueOf (St.wsOf x.2.1 x.2.2) t).2 = true
  · rw [if_pos h1] at hp ⊢
    by_cases h3 : (St.rparse x.2.1 x.2.2 t).2 = true
    · rw [if_pos h3] at hp ⊢; injection hp with hp _; rw [hp]
    · rw [if_neg h3] at hp; injection hp with _ hp; cases hp
  · rw [if_neg h1] at hp ⊢
    by_cases h2 : (St.valueOf St.everyW t).2 = true
    · rw [if_pos h2] at hp ⊢
      by_cases h3 : (St.rparse x.2.1 x.2.2 t).2 = true
      · rw [if_pos h3] at hp ⊢; injection hp with hp _; rw [hp]
      · rw [if_neg h3] at hp; injection hp with _ hp; cases hp
    · rw [if_neg h2] at hp ⊢
      by_cases h3 : (St.rparse x.2.1 x.2.2 t).2 = true
      · rw [if_pos h3] at hp; injection hp with _ hp; cases hp
      · rw [if_neg h3]
theorem parse_unknown {p : List UInt8} (h : ¬ p ∈ NM) (s : List UInt8) : St.parse p s = (St.vnil, 6) := by
  have hw : St.wordsOf p = none := by
    unfold St.wordsOf
    cases e : St.longs.find? fun x => decide (x.1 = p) with
    | none => rfl
    | some x =>
      exfalso
      have h1 := List.mem_of_find?_eq_some e
      have h2 := List.find?_some e
      apply h
      unfold NM St.longT
      rw [List.map_map]
      exact List.mem_map.2 ⟨x, h1, of_decide_eq_true h2⟩
  unfold St.parse
  rw [hw]
theorem nm_len : NM.length = 37 := by decide +kernel
set_option maxHeartbeats 40000000 in
set_option maxRecDepth 200000 in
theorem yproperties_any (w : World) (hM : MaxLen w) : Calls Tryd.prog 7 #[] w fun e w' => ∃ v, e = .returned v ∧ w'.ownsRow w.heap.size 9 1 v 37 (scells NM) ∧ Below w.heap.size w w' := by
  have hn := ynames_any w hM
  clear hM
  go_enter Tryd.func7, Tryd.ntmps7
  go_wp2_with fail
  refine (calls_cast1 (by kernel_rfl) hn).mono ?_
  clear hn
  rintro e w2 ⟨v, rfl, hr, hb⟩
  have HR := Lib.hid hr
  have HB := Lib.hid hb
  clear hr hb
  go_wp2_with fail
  go_ret
  exact ⟨_, rfl, HR.out, HB.out⟩
set_option maxHeartbeats 16000000 in
theorem values_walk (p s : List UInt8) (w : World) (hT : Lit w) (hM : MaxLen w) :
    Calls Tryd.prog 3 #[.string (tstr p), .string (tstr s)] w fun e w' => e = .returned (.bool true) ∧ Below w.heap.size w w' := by
  have haw := yawake_any w hT hM
  have HM := Lib.hid hM
  have HT := Lib.hid hT
  clear hM hT
  by_cases hlen : s.length ≤ 1000
  · have hs1 : (tstr s).size ≤ 1000 := by rw [tsize]; exact hlen
    have hs2 : ((tstr s).size : Int) ≤ 1000 := by omega
    clear HT
    by_cases hyes : p ∈ NM
    · obtain ⟨x, hx, rfl⟩ : ∃ x ∈ St.kinds, x.1 = p := by rw [nm_kinds] at hyes; exact List.mem_map.1 hyes
      have HV := Lib.hid (parse_known hx s)
      have hr : ∀ w, Calls Tryd.prog 8 #[.string (tstr x.1), .string (tstr s)] w _ := fun w => rparse_any x hx s w (by omega)
      generalize St.rparse x.2.1 x.2.2 (Txt.trim (s.map Txt.lo)) = R at HV hr
      obtain ⟨⟨v0, v1, v2⟩, vb⟩ := R
      unfold rvaV at hr
      simp only at hr
      obtain ⟨p, hp⟩ : ∃ p, x.1 = p := ⟨_, rfl⟩
      rw [hp] at hyes HV hr ⊢
      clear hx hp
      cases vb with
      | true =>
        have HV := Lib.hid (show St.parse p s = (⟨v0, v1, v2⟩, 0) from HV.out)
        have hpv : ∀ w, MaxLen w → Calls Tryd.prog 6 #[.string (tstr p), .string (tstr s)] w fun e w' => e = .returned (.tuple #[.agg #[.int .i64 v0, .int .i64 v1, .string (tstr v2)], .int .i64 0]) ∧ Below w.heap.size w w' := fun w h => by have := yparse_any p s w h (by omega); rw [HV.out] at this; exact this
        clear HV
        go_enter Tryd.func3, Tryd.ntmps3
        go_wp2_with fail
        refine haw.mono ?_
        clear haw
        rintro e w2 ⟨rfl, hb⟩
        have HB2 := Lib.hid hb
        have hp2 := hpv w2 (HM.out.below hb)
        have HM2 := Lib.hid (HM.out.below hb)
        clear hb hpv
        go_wp2_with fail
        refine hp2.mono ?_
        clear hp2
        rintro e w3 ⟨rfl, hb⟩
        have hB3 := ybt HB2.out hb
        have hW4 : Whole (w3.alloc (.cells #[.int .i64 v0, .int .i64 v1, .string (tstr v2)] 24)) w3.heap.size #[.int .i64 v0, .int .i64 v1, .string (tstr v2)] 24 := Whole.new _ _ _
        have hB4 := hB3.alloc hB3.size (.cells #[.int .i64 v0, .int .i64 v1, .string (tstr v2)] 24)
        have hM4 := (HM2.out.below hb).below ((Below.refl w3.heap.size w3).alloc (Nat.le_refl _) (.cells #[.int .i64 v0, .int .i64 v1, .string (tstr v2)] 24))
        have HW4 := Lib.hid hW4
        have HB4 := Lib.hid hB4
        have hprop := yproperties_any _ hM4
        clear hb hB3 hW4 hB4 hM4
        go_wp2_with fail
        refine hprop.mono ?_
        clear hprop
        rintro e w5 ⟨v, rfl, hrow, hb⟩
        obtain ⟨A, c, rfl⟩ := srow_form hrow
        have HB5 := Lib.hid (HB4.out.trans (hb.mono HB4.out.size))
        have HW5 := Lib.hid (HW4.out.below hb HW4.out.lt)
        have HROW := Lib.hid hrow
        clear hrow hb
        go_wp2_with fail
        go_loopg [8, 9] 37 (fun gg u8 u9 wr => ∃ i : Nat, u9 = .int .i64 (i : Int) ∧ u8 = .bool (decide (p ∈ NM.take i)) ∧ i ≤ 37 ∧ 37 - i ≤ gg ∧ wr = w5)
        case atStart => exact ⟨0, rfl, rfl, by omega, by omega, rfl⟩
        case round =>
          obtain ⟨i, rfl, rfl, hi, hgg, rfl⟩ := hrel
          by_cases hlt : i < 37
          · have hlt' : (i : Int) < 37 := by omega
            have hif : i < NM.length := by rw [nm_len]; exact hlt
            obtain ⟨g, rfl, hcell, hcap⟩ := srow_at HROW.out hif nm_len.symm
            have HT1 := Lib.hid (show NM.take (i + 1) = NM.take i ++ [NM[i]] from List.take_succ_eq_append_getElem hif)
            by_cases hin : p ∈ NM.take i
            · have HD := Lib.hid (show decide (p ∈ NM.take (i + 1)) = true from decide_eq_true (by rw [HT1.out]; exact List.mem_append.2 (.inl hin)))
              rw [decide_eq_true hin]
              clear hin
              go_wp2_with fail
              go_roundg (37 - (i + 1))
              case rel => exact ⟨i + 1, by go_num, by rw [HD.out], by omega, by omega, rfl⟩
              case measure => omega
            · rw [decide_eq_false hin]
              by_cases he : NM[i] = p
              · have hsb : ((tstr NM[i]).toList == (tstr p).toList) = true := by rw [he]; exact beq_self_eq_true _
                have HD := Lib.hid (show decide (p ∈ NM.take (i + 1)) = true from decide_eq_true (by rw [HT1.out, he]; simp))
                clear hin he
                go_wp2_with fail
                go_roundg (37 - (i + 1))
                case rel => exact ⟨i + 1, by go_num, by rw [HD.out], by omega, by omega, rfl⟩
                case measure => omega
              · have hsb : ((tstr NM[i]).toList == (tstr p).toList) = false := by rw [ttl, ttl]; exact beq_eq_false_iff_ne.2 he
                have HD := Lib.hid (show decide (p ∈ NM.take (i + 1)) = false from decide_eq_false (by
                  rw [HT1.out, List.mem_append, List.mem_singleton]
                  rintro (h | h)
                  · exact hin h
                  · exact he h.symm))
                clear hin he
                go_wp2_with fail
                go_roundg (37 - (i + 1))
                case rel => exact ⟨i + 1, by go_num, by rw [HD.out], by omega, by omega, rfl⟩
                case measure => omega
          · have hlt' : ¬ (i : Int) < 37 := by omega
            obtain rfl : i = 37 := by omega
            obtain ⟨d0, d1, d2⟩ := cells3 HW5.out
            have HN := Lib.hid (show decide (p ∈ NM.take 37) = true from decide_eq_true (by rw [List.take_of_length_le (by rw [nm_len]; exact Nat.le_refl _)]; exact hyes))
            rw [HN.out]
            clear hyes
            have hrp := hr wr
            clear hr
            go_wp2_with fail
            refine hrp.mono ?_
            clear hrp
            rintro e w6 ⟨rfl, hb⟩
            have hW6 := HW5.out.below hb HW5.out.lt
            have hB6 := HB5.out.trans (hb.mono HB5.out.size)
            obtain ⟨e0, e1, e2⟩ := cells3 (hW6.alloc (.cells #[.int .i64 v0, .int .i64 v1, .string (tstr v2), .bool true] 31))
            have HB7 := Lib.hid (hB6.alloc hB6.size (.cells #[.int .i64 v0, .int .i64 v1, .string (tstr v2), .bool true] 31))
            clear hb hW6 hB6 d0 d1 d2
            go_wp2_with fail
            go_ret
            exact ⟨rfl, HB7.out⟩
      | false =>
        have HV := Lib.hid (show St.parse p s = (St.vnil, 4) from HV.out)
        have hpv : ∀ w, MaxLen w → Calls Tryd.prog 6 #[.string (tstr p), .string (tstr s)] w fun e w' => e = .returned (.tuple #[.agg #[.int .i64 0, .int .i64 0, .string ⟨#[]⟩], .int .i64 4]) ∧ Below w.heap.size w w' := fun w h => by have := yparse_any p s w h (by omega); rw [HV.out] at this; exact this
        clear HV
        go_enter Tryd.func3, Tryd.ntmps3
        go_wp2_with fail
        refine haw.mono ?_
        clear haw
        rintro e w2 ⟨rfl, hb⟩
        have HB2 := Lib.hid hb
        have hp2 := hpv w2 (HM.out.below hb)
        have HM2 := Lib.hid (HM.out.below hb)
        clear hb hpv
        go_wp2_with fail
        refine hp2.mono ?_
        clear hp2
        rintro e w3 ⟨rfl, hb⟩
        have hB3 := ybt HB2.out hb
        have hW4 : Whole (w3.alloc (.cells #[.int .i64 0, .int .i64 0, .string ⟨#[]⟩] 24)) w3.heap.size #[.int .i64 0, .int .i64 0, .string ⟨#[]⟩] 24 := Whole.new _ _ _
        have hB4 := hB3.alloc hB3.size (.cells #[.int .i64 0, .int .i64 0, .string ⟨#[]⟩] 24)
        have hM4 := (HM2.out.below hb).below ((Below.refl w3.heap.size w3).alloc (Nat.le_refl _) (.cells #[.int .i64 0, .int .i64 0, .string ⟨#[]⟩] 24))
        have HW4 := Lib.hid hW4
        have HB4 := Lib.hid hB4
        have hprop := yproperties_any _ hM4
        clear hb hB3 hW4 hB4 hM4
        go_wp2_with fail
        refine hprop.mono ?_
        clear hprop
        rintro e w5 ⟨v, rfl, hrow, hb⟩
        obtain ⟨A, c, rfl⟩ := srow_form hrow
        have HB5 := Lib.hid (HB4.out.trans (hb.mono HB4.out.size))
        have HW5 := Lib.hid (HW4.out.below hb HW4.out.lt)
        have HROW := Lib.hid hrow
        clear hrow hb
        go_wp2_with fail
        go_loopg [8, 9] 37 (fun gg u8 u9 wr => ∃ i : Nat, u9 = .int .i64 (i : Int) ∧ u8 = .bool (decide (p ∈ NM.take i)) ∧ i ≤ 37 ∧ 37 - i ≤ gg ∧ wr = w5)
        case atStart => exact ⟨0, rfl, rfl, by omega, by omega, rfl⟩
        case round =>
          obtain ⟨i, rfl, rfl, hi, hgg, rfl⟩ := hrel
          by_cases hlt : i < 37
          · have hlt' : (i : Int) < 37 := by omega
            have hif : i < NM.length := by rw [nm_len]; exact hlt
            obtain ⟨g, rfl, hcell, hcap⟩ := srow_at HROW.out hif nm_len.symm
            have HT1 := Lib.hid (show NM.take (i + 1) = NM.take i ++ [NM[i]] from List.take_succ_eq_append_getElem hif)
            by_cases hin : p ∈ NM.take i
            · have HD := Lib.hid (show decide (p ∈ NM.take (i + 1)) = true from decide_eq_true (by rw [HT1.out]; exact List.mem_append.2 (.inl hin)))
              rw [decide_eq_true hin]
              clear hin
              go_wp2_with fail
              go_roundg (37 - (i + 1))
              case rel => exact ⟨i + 1, by go_num, by rw [HD.out], by omega, by omega, rfl⟩
              case measure => omega
            · rw [decide_eq_false hin]
              by_cases he : NM[i] = p
              · have hsb : ((tstr NM[i]).toList == (tstr p).toList) = true := by rw [he]; exact beq_self_eq_true _
                have HD := Lib.hid (show decide (p ∈ NM.take (i + 1)) = true from decide_eq_true (by rw [HT1.out, he]; simp))
                clear hin he
                go_wp2_with fail
                go_roundg (37 - (i + 1))
                case rel => exact ⟨i + 1, by go_num, by rw [HD.out], by omega, by omega, rfl⟩
                case measure => omega
              · have hsb : ((tstr NM[i]).toList == (tstr p).toList) = false := by rw [ttl, ttl]; exact beq_eq_false_iff_ne.2 he
                have HD := Lib.hid (show decide (p ∈ NM.take (i + 1)) = false from decide_eq_false (by
                  rw [HT1.out, List.mem_append, List.mem_singleton]
                  rintro (h | h)
                  · exact hin h
                  · exact he h.symm))
                clear hin he
                go_wp2_with fail
                go_roundg (37 - (i + 1))
                case rel => exact ⟨i + 1, by go_num, by rw [HD.out], by omega, by omega, rfl⟩
                case measure => omega
          · have hlt' : ¬ (i : Int) < 37 := by omega
            obtain rfl : i = 37 := by omega
            obtain ⟨d0, d1, d2⟩ := cells3 HW5.out
            have HN := Lib.hid (show decide (p ∈ NM.take 37) = true from decide_eq_true (by rw [List.take_of_length_le (by rw [nm_len]; exact Nat.le_refl _)]; exact hyes))
            rw [HN.out]
            clear hyes
            have hrp := hr wr
            clear hr
            go_wp2_with fail
            refine hrp.mono ?_
            clear hrp
            rintro e w6 ⟨rfl, hb⟩
            have hW6 := HW5.out.below hb HW5.out.lt
            have hB6 := HB5.out.trans (hb.mono HB5.out.size)
            obtain ⟨e0, e1, e2⟩ := cells3 (hW6.alloc (.cells #[.int .i64 v0, .int .i64 v1, .string (tstr v2), .bool false] 31))
            have HB7 := Lib.hid (hB6.alloc hB6.size (.cells #[.int .i64 v0, .int .i64 v1, .string (tstr v2), .bool false] 31))
            clear hb hW6 hB6 d0 d1 d2
            go_wp2_with fail
            go_ret
            exact ⟨rfl, HB7.out⟩
    · have HV := Lib.hid (parse_unknown hyes s)
      have hno := hyes
      clear hyes
      have hpv : ∀ w, MaxLen w → Calls Tryd.prog 6 #[.string (tstr p), .string (tstr s)] w fun e w' => e = .returned (.tuple #[.agg #[.int .i64 0, .int .i64 0, .string ⟨#[]⟩], .int .i64 6]) ∧ Below w.heap.size w w' := fun w h => by have := yparse_any p s w h (by omega); rw [HV.out] at this; exact this
      clear HV
      go_enter Tryd.func3, Tryd.ntmps3
      go_wp2_with fail
      refine haw.mono ?_
      clear haw
      rintro e w2 ⟨rfl, hb⟩
      have HB2 := Lib.hid hb
      have hp2 := hpv w2 (HM.out.below hb)
      have HM2 := Lib.hid (HM.out.below hb)
      clear hb hpv
      go_wp2_with fail
      refine hp2.mono ?_
      clear hp2
      rintro e w3 ⟨rfl, hb⟩
      have hB3 := ybt HB2.out hb
      have hW4 : Whole (w3.alloc (.cells #[.int .i64 0, .int .i64 0, .string ⟨#[]⟩] 24)) w3.heap.size #[.int .i64 0, .int .i64 0, .string ⟨#[]⟩] 24 := Whole.new _ _ _
      have hB4 := hB3.alloc hB3.size (.cells #[.int .i64 0, .int .i64 0, .string ⟨#[]⟩] 24)
      have hM4 := (HM2.out.below hb).below ((Below.refl w3.heap.size w3).alloc (Nat.le_refl _) (.cells #[.int .i64 0, .int .i64 0, .string ⟨#[]⟩] 24))
      have HW4 := Lib.hid hW4
      have HB4 := Lib.hid hB4
      have hprop := yproperties_any _ hM4
      clear hb hB3 hW4 hB4 hM4
      go_wp2_with fail
      refine hprop.mono ?_
      clear hprop
      rintro e w5 ⟨v, rfl, hrow, hb⟩
      obtain ⟨A, c, rfl⟩ := srow_form hrow
      have HB5 := Lib.hid (HB4.out.trans (hb.mono HB4.out.size))
      have HW5 := Lib.hid (HW4.out.below hb HW4.out.lt)
      have HROW := Lib.hid hrow
      clear hrow hb
      go_wp2_with fail
      go_loopg [8, 9] 37 (fun gg u8 u9 wr => ∃ i : Nat, u9 = .int .i64 (i : Int) ∧ u8 = .bool (decide (p ∈ NM.take i)) ∧ i ≤ 37 ∧ 37 - i ≤ gg ∧ wr = w5)
      case atStart => exact ⟨0, rfl, rfl, by omega, by omega, rfl⟩
      case round =>
        obtain ⟨i, rfl, rfl, hi, hgg, rfl⟩ := hrel
        by_cases hlt : i < 37
        · have hlt' : (i : Int) < 37 := by omega
          have hif : i < NM.length := by rw [nm_len]; exact hlt
          obtain ⟨g, rfl, hcell, hcap⟩ := srow_at HROW.out hif nm_len.symm
          have HT1 := Lib.hid (show NM.take (i + 1) = NM.take i ++ [NM[i]] from List.take_succ_eq_append_getElem hif)
          by_cases hin : p ∈ NM.take i
          · have HD := Lib.hid (show decide (p ∈ NM.take (i + 1)) = true from decide_eq_true (by rw [HT1.out]; exact List.mem_append.2 (.inl hin)))
            rw [decide_eq_true hin]
            clear hin
            go_wp2_with fail
            go_roundg (37 - (i + 1))
            case rel => exact ⟨i + 1, by go_num, by rw [HD.out], by omega, by omega, rfl⟩
            case measure => omega
          · rw [decide_eq_false hin]
            by_cases he : NM[i] = p
            · have hsb : ((tstr NM[i]).toList == (tstr p).toList) = true := by rw [he]; exact beq_self_eq_true _
              have HD := Lib.hid (show decide (p ∈ NM.take (i + 1)) = true from decide_eq_true (by rw [HT1.out, he]; simp))
              clear hin he
              go_wp2_with fail
              go_roundg (37 - (i + 1))
              case rel => exact ⟨i + 1, by go_num, by rw [HD.out], by omega, by omega, rfl⟩
              case measure => omega
            · have hsb : ((tstr NM[i]).toList == (tstr p).toList) = false := by rw [ttl, ttl]; exact beq_eq_false_iff_ne.2 he
              have HD := Lib.hid (show decide (p ∈ NM.take (i + 1)) = false from decide_eq_false (by
                rw [HT1.out, List.mem_append, List.mem_singleton]
                rintro (h | h)
                · exact hin h
                · exact he h.symm))
              clear hin he
              go_wp2_with fail
              go_roundg (37 - (i + 1))
              case rel => exact ⟨i + 1, by go_num, by rw [HD.out], by omega, by omega, rfl⟩
              case measure => omega
        · have hlt' : ¬ (i : Int) < 37 := by omega
          obtain rfl : i = 37 := by omega
          obtain ⟨d0, d1, d2⟩ := cells3 HW5.out
          have HN := Lib.hid (show decide (p ∈ NM.take 37) = false from decide_eq_false (by rw [List.take_of_length_le (by rw [nm_len]; exact Nat.le_refl _)]; exact hno))
          rw [HN.out]
          clear hno
          go_wp2_with fail
          go_ret
          exact ⟨rfl, HB5.out⟩
  · have hs1 : ¬ (tstr s).size ≤ 1000 := by rw [tsize]; exact hlen
    have hs2 : (1000 : Int) < ((tstr s).size : Int) := by omega
    clear hlen
    go_enter Tryd.func3, Tryd.ntmps3
    go_wp2_with fail
    refine haw.mono ?_
    clear haw
    rintro e w2 ⟨rfl, hb⟩
    have HB2 := Lib.hid hb
    have haw2 := yawake_any w2 (HT.out.below hb) (HM.out.below hb)
    clear hb
    go_wp2_with fail
    refine haw2.mono ?_
    clear haw2
    rintro e w3 ⟨rfl, hb⟩
    have HB3 := Lib.hid (ybt HB2.out hb)
    clear hb
    go_wp2_with fail
    go_ret
    exact ⟨rfl, HB3.out⟩
end Go.Proofs.YtoiednecchbmnaaDoor
