/- A round of the reference's Tokens: text2. -/
import Derived.Test.YtckmlbcpldpkpaaGreatDoorWMRTd
namespace Go.Proofs.YtckmlbcpldpkpaaGreatDoor
open Go Go.RowKit
set_option linter.unusedVariables false

set_option maxRecDepth 1000000 in
set_option maxHeartbeats 8000000 in
theorem rtk_text2 (w wr : World) (doc R S : ByteArray) (hss : S.size ≤ 4500) (A : Option Addr) (c I : Nat) (l : List (Mk.Tok × Value)) (hI : I ≤ S.size) (hK : RkS w wr (.slice A l.length c) l) (hT : RkT S l I) (hlt : I < S.size) (h0 : [60, 33, 45, 45].isPrefixOf (S.data.toList.drop I) = false) (h1 : [60, 47].isPrefixOf (S.data.toList.drop I) = false) (h4 : [60, 33].isPrefixOf (S.data.toList.drop I) = false) (h5 : [60, 63].isPrefixOf (S.data.toList.drop I) = false) (h7 : [60].isPrefixOf (S.data.toList.drop I) = false)
    (Q0 : Exit → Act → World → Prop) (hret : RtkRet w S Q0) (hexit : ∀ a' w'', RtkWX w doc R S a' w'' → Q0 (.exit 0) a' w'') (u2 u6 u7 u8 u9 u10 u11 u12 u13 u14 u15 u19 u20 u21 u22 u23 u24 u25 u26 u27 u28 u29 u30 u31 u32 u33 u34 u35 u36 u37 u38 u39 u40 u41 u42 u43 u44 u45 u46 u47 u48 u49 u50 u51 u52 u53 u54 u55 u56 u57 u58 u59 u60 u61 u62 u63 u64 u65 u66 u67 u68 u69 u70 u71 u72 u73 u74 u75 u76 u77 u78 u79 u80 u81 u82 u83 u84 u85 u86 u87 u88 u89 u90 u91 u92 u93 u94 u95 u96 u97 u98 u99 u100 u101 u102 u103 u104 u105 u106 u107 u108 u109 u110 u111 u112 u113 u114 u115 u116 u117 u118 u119 u120 u121 u122 u123 u124 u125 u126 u127 u128 u129 u130 u131 u132 u133 u134 u135 u136 u137 u138 u139 u140 u141 u142 u143 u144 u145 u146 u147 u148 u149 u150 u151 u152 u153 u154 u155 u156 u157 u158 u159 u160 u161 u162 u163 u164 u165 u166 u167 u168 u169 u170 u171 u172 u173 u174 u175 u176 u177 u178 u179 u180 u181 u182 u183 u184 u185 u186 u187 u188 u189 u190 u191 u192 u193 u194 u195 u196 u197 u198 u199 u200 u201 : Value) :
    Code.wp Tryz.prog rtkBody (Exit.then (fun a' w'' => RtkWI w doc R S a' w'' ∧ RtkMu S a' w'' < RtkMu S ⟨#[.string doc, undef, u2, .string S, (.slice A l.length c), (.int .i64 (I : Int)), u6, u7, u8, u9, u10, u11, u12, u13, u14, u15, .string doc, .string R, .string S, u19, u20, u21, u22, u23, u24, u25, u26, u27, u28, u29, u30, u31, u32, u33, u34, u35, u36, u37, u38, u39, u40, u41, u42, u43, u44, u45, u46, u47, u48, u49, u50, u51, u52, u53, u54, u55, u56, u57, u58, u59, u60, u61, u62, u63, u64, u65, u66, u67, u68, u69, u70, u71, u72, u73, u74, u75, u76, u77, u78, u79, u80, u81, u82, u83, u84, u85, u86, u87, u88, u89, u90, u91, u92, u93, u94, u95, u96, u97, u98, u99, u100, u101, u102, u103, u104, u105, u106, u107, u108, u109, u110, u111, u112, u113, u114, u115, u116, u117, u118, u119, u120, u121, u122, u123, u124, u125, u126, u127, u128, u129, u130, u131, u132, u133, u134, u135, u136, u137, u138, u139, u140, u141, u142, u143, u144, u145, u146, u147, u148, u149, u150, u151, u152, u153, u154, u155, u156, u157, u158, u159, u160, u161, u162, u163, u164, u165, u166, u167, u168, u169, u170, u171, u172, u173, u174, u175, u176, u177, u178, u179, u180, u181, u182, u183, u184, u185, u186, u187, u188, u189, u190, u191, u192, u193, u194, u195, u196, u197, u198, u199, u200, u201, undef], []⟩ wr) Q0) ⟨#[.string doc, undef, u2, .string S, (.slice A l.length c), (.int .i64 (I : Int)), u6, u7, u8, u9, u10, u11, u12, u13, u14, u15, .string doc, .string R, .string S, u19, u20, u21, u22, u23, u24, u25, u26, u27, u28, u29, u30, u31, u32, u33, u34, u35, u36, u37, u38, u39, u40, u41, u42, u43, u44, u45, u46, u47, u48, u49, u50, u51, u52, u53, u54, u55, u56, u57, u58, u59, u60, u61, u62, u63, u64, u65, u66, u67, u68, u69, u70, u71, u72, u73, u74, u75, u76, u77, u78, u79, u80, u81, u82, u83, u84, u85, u86, u87, u88, u89, u90, u91, u92, u93, u94, u95, u96, u97, u98, u99, u100, u101, u102, u103, u104, u105, u106, u107, u108, u109, u110, u111, u112, u113, u114, u115, u116, u117, u118, u119, u120, u121, u122, u123, u124, u125, u126, u127, u128, u129, u130, u131, u132, u133, u134, u135, u136, u137, u138, u139, u140, u141, u142, u143, u144, u145, u146, u147, u148, u149, u150, u151, u152, u153, u154, u155, u156, u157, u158, u159, u160, u161, u162, u163, u164, u165, u166, u167, u168, u169, u170, u171, u172, u173, u174, u175, u176, u177, u178, u179, u180, u181, u182, u183, u184, u185, u186, u187, u188, u189, u190, u191, u192, u193, u194, u195, u196, u197, u198, u199, u200, u201, undef], []⟩ wr := by
  obtain ⟨i0, hi0, hz0, hz1, hz2⟩ := info_parts rtokInfo
  have HRET := Lib.hid hret
  clear hret
  conv => arg 2; whnf
  have hll := hT.len
  have hltI : (I : Int) < (S.size : Int) := by omega
  have hbs := hK.bel.size
  have a0 := fun W => mat_any S ⟨#[60, 33, 45, 45]⟩ I W (by omega) (by decide) (by omega) (by decide)
  have a1 := fun W => mat_any S ⟨#[60, 47]⟩ I W (by omega) (by decide) (by omega) (by decide)
  have a2 := fun W => mat_any S ⟨#[60, 47, 62]⟩ I W (by omega) (by decide) (by omega) (by decide)
  have a3 := fun W => mat_any S ⟨#[60, 33]⟩ I W (by omega) (by decide) (by omega) (by decide)
  have a4 := fun W => mat_any S ⟨#[60, 63]⟩ I W (by omega) (by decide) (by omega) (by decide)
  have a5 := fun W => mat_any S ⟨#[60]⟩ I W (by omega) (by decide) (by omega) (by decide)
  have b1 := fun W => mletter_any S (I + 1) W (by omega) (by omega)
  have b2 := fun W => mletter_any S (I + 2) W (by omega) (by omega)
  rw [show ((I + 1 : Nat) : Int) = (I : Int) + 1 from by omega] at b1
  rw [show ((I + 2 : Nat) : Int) = (I : Int) + 2 from by omega] at b2
  dsimp only at a0 a1 a2 a3 a4 a5
  have HK := Lib.hid hK
  have HT := Lib.hid hT
  clear hK hT
  clear hexit
  rw [h0] at a0
  rw [h1] at a1
  have hq : ([60, 47].isPrefixOf (S.data.toList.drop I) && Mk.letter ((S.data.toList.drop I).drop 2)) = false := by rw [h1, Bool.false_and]
  have h3 : [60, 47, 62].isPrefixOf (S.data.toList.drop I) = false := by
    rw [Bool.eq_false_iff] at h1 ⊢
    intro e
    apply h1
    rw [List.isPrefixOf_iff_prefix] at e ⊢
    exact (show ([60, 47] : List UInt8) <+: [60, 47, 62] from ⟨[62], rfl⟩).trans e
  rw [h3] at a2
  rw [h4] at a3
  rw [h5] at a4
  have h6 : ([60, 47].isPrefixOf (S.data.toList.drop I) || [60, 33].isPrefixOf (S.data.toList.drop I) || [60, 63].isPrefixOf (S.data.toList.drop I)) = false := by rw [h1, h4, h5]; rfl
  rw [h7] at a5
  have hst := step_text h0 hq h3 h6 (by rw [h7]; rfl)
  clear h0 hq h1 h3 h4 h5 h6 h7 
  go_wp2_with (first | (go_at_call 28; (first | with_reducible refine (a0 _).mono ?_ | with_reducible refine (a1 _).mono ?_ | with_reducible refine (a2 _).mono ?_ | with_reducible refine (a3 _).mono ?_ | with_reducible refine (a4 _).mono ?_ | with_reducible refine (a5 _).mono ?_); rintro e w' ⟨rfl, rfl⟩) | (go_at_call 30; (first | with_reducible refine (b1 _).mono ?_ | with_reducible refine (b2 _).mono ?_); rintro e w' ⟨rfl, rfl⟩))
  obtain ⟨wo, hwo⟩ : ∃ wo : World, wo = wr := ⟨_, rfl⟩
  subst hwo
  go_loop [15] (fun a => ∃ k : Nat, a = .int .i64 ((I + 1 + k : Nat) : Int) ∧ I + 1 + k ≤ S.size ∧ Mk.run (S.data.toList.drop (I + 1)) = k + Mk.run (S.data.toList.drop (I + 1 + k))) (fun a => S.size - (intOf a).toNat)
  case atStart => exact ⟨0, by go_num, by omega, (Nat.zero_add _).symm⟩
  case round =>
    obtain ⟨k, rfl, hk, hF⟩ := hrel
    by_cases hkl : I + 1 + k < S.size
    · have hklI : (I : Int) + 1 + (k : Int) < (S.size : Int) := by omega
      have hbe := fun W => mbegins_any S (I + 1 + k) W (by omega) (by omega)
      rw [show ((I + 1 + k : Nat) : Int) = (I : Int) + 1 + (k : Int) from by omega] at hbe
      cases hbg : Mk.begins (S.data.toList.drop (I + 1 + k)) with
      | true =>
        rw [hbg] at hbe
        have hz : Mk.run (S.data.toList.drop (I + 1 + k)) = 0 := by
          rw [drop_get S _ hkl] at hbg ⊢
          unfold Mk.run; rw [if_pos hbg]
        clear hbg
        have hrun : Mk.run (S.data.toList.drop (I + 1)) = k := by rw [hF, hz, Nat.add_zero]
        rw [List.drop_drop, hrun, List.drop_drop] at hst
        have hx : S.extract I (I + (k + 1)) = tstr ((S.data.toList.drop I).take (k + 1)) := str_of_list (textract S I (k + 1))
        have hsl : ∀ W : World, (Instr.slice 9 (.string S) (some (.int .i64 I)) (some (.int .i64 ((I : Int) + 1 + (k : Int)))) none).run Tryz.prog W = .ok (.string (tstr ((S.data.toList.drop I).take (k + 1)))) W := fun W => by
          rw [run_slice_string W _ S _ _ _ _ Tryz.underlying9 (by omega) (by omega) (by omega)]
          rw [show ((I : Int) + 1 + (k : Int)).toNat = I + (k + 1) from by omega, ← hx]; rfl
        have hdc := fun W => rdecode_any (tstr ((S.data.toList.drop I).take (k + 1))) W (by rw [tstr_size, List.length_take, List.length_drop, show S.data.toList.length = S.size from rfl]; omega)
        simp only [tstr_data] at hdc
        have HD := Lib.hid (HT.out.go hlt hst (j := I + (k + 1)) rfl)
        generalize Ent.decode ((S.data.toList.drop I).take (k + 1)) = tx at hdc HD
        generalize tstr ((S.data.toList.drop I).take (k + 1)) = X at hsl hdc
        clear hst hx hF hz hrun
        go_wp2_with (go_at_call 35; refine (hbe _).mono ?_; rintro e w' ⟨rfl, rfl⟩)
        refine (hdc _).mono ?_
        clear hdc
        rintro e w5 ⟨rfl, hb5⟩
        have HK5 := Lib.hid (HK.out.below hb5)
        clear hb5
        have hlit := Whole.new w5 #[.int .i64 3, .string (tstr []), .slice none 0 0, .bool false, .string (tstr tx)] 33
        have hown := HK5.out.row.1
        have hbs9 := HK5.out.bel.size
        have HL := Lib.hid hlit
        clear hlit
        go_wp2_with (at_builtin; refine wpList_append_own _ rfl (.tmp 192) (.tmp 199) 25 rfl w.heap.size 33 i0 (.agg #[.int .i64 0, .string ByteArray.empty, .slice none 0 0, .bool false, .string ByteArray.empty]) 5 72 Tryz.underlying25 hi0 hz0 hz1 hz2 rfl (by decide) _ l.length (tcells l) rfl (hown.alloc _) ⟨w5.heap.size, 0, none⟩ 1 1 (tcells [((⟨3, [], [], false, tx⟩ : Mk.Tok), .slice none 0 0)]) rfl rfl ?c1 ?c2 ?c3 ?c4 ?c5 ?_)
        case c1 =>
          intro j u hj
          match j, hj with
          | 0, hj => simp [tcells] at hj; subst hj; exact HL.out.cell 0
          | 1, hj => simp [tcells] at hj; subst hj; exact HL.out.cell 1
          | 2, hj => simp [tcells] at hj; subst hj; exact HL.out.cell 2
          | 3, hj => simp [tcells] at hj; subst hj; exact HL.out.cell 3
          | 4, hj => simp [tcells] at hj; subst hj; exact HL.out.cell 4
        case c2 => intro u hu; simp [tcells] at hu; rcases hu with rfl | rfl | rfl | rfl | rfl <;> rfl
        case c3 => unfold maxLen; omega
        case c4 => omega
        case c5 => simp; omega
        intro v2 w9 ho9 hg9 _
        have hK9 := HK5.out.push (T := (⟨3, [], [], false, tx⟩ : Mk.Tok)) (ARow.nil _ _ _) ho9 hg9
        obtain ⟨A9, c9, rfl⟩ := hK9.row.form
        clear ho9 hg9 hown
        have HK9 := Lib.hid hK9
        clear hK9
        go_wp2_with fail
        refine ⟨?_, by simp [RtkMu, intOf]; omega⟩
        unfold RtkWI
        refine ⟨_, _, _, _, _, _, _, _, _, _, _, _, _, _, _, _, _, _, _, _, _, _, _, _, _, _, _, _, _, _, _, _, _, _, _, _, _, _, _, _, _, _, _, _, _, _, _, _, _, _, _, _, _, _, _, _, _, _, _, _, _, _, _, _, _, _, _, _, _, _, _, _, _, _, _, _, _, _, _, _, _, _, _, _, _, _, _, _, _, _, _, _, _, _, _, _, _, _, _, _, _, _, _, _, _, _, _, _, _, _, _, _, _, _, _, _, _, _, _, _, _, _, _, _, _, _, _, _, _, _, _, _, _, _, _, _, _, _, _, _, _, _, _, _, _, _, _, _, _, _, _, _, _, _, _, _, _, _, _, _, _, _, _, _, _, _, _, _, _, _, _, _, _, _, _, _, _, _, _, _, _, _, _, _, _, _, _, _, _, _, _, _, _, _, _, _, ?_, rfl⟩
        exact ⟨I + (k + 1), _, by go_num, by omega, HK9.out, HD.out _ rfl⟩
      | false =>
        rw [hbg] at hbe
        have HF := Lib.hid (show Mk.run (S.data.toList.drop (I + 1)) = k + 1 + Mk.run (S.data.toList.drop (I + 1 + (k + 1))) by
          rw [hF, drop_get S _ hkl]
          rw [drop_get S _ hkl] at hbg
          conv => lhs; unfold Mk.run
          rw [if_neg (by rw [hbg]; exact Bool.false_ne_true), show I + 1 + (k + 1) = I + 1 + k + 1 from rfl]
          omega)
        clear hF hbg hst
        go_wp2_with (go_at_call 35; refine (hbe _).mono ?_; rintro e w' ⟨rfl, rfl⟩)
        go_round
        case rel => exact ⟨k + 1, by go_num, by omega, HF.out⟩
        case measure => simp [intOf]; omega
    · have hklI : ¬ (I : Int) + 1 + (k : Int) < (S.size : Int) := by omega
      have hz : Mk.run (S.data.toList.drop (I + 1 + k)) = 0 := by rw [drop_end S _ hkl]; rfl
      have hrun : Mk.run (S.data.toList.drop (I + 1)) = k := by rw [hF, hz, Nat.add_zero]
      rw [List.drop_drop, hrun, List.drop_drop] at hst
      have hx : S.extract I (I + (k + 1)) = tstr ((S.data.toList.drop I).take (k + 1)) := str_of_list (textract S I (k + 1))
      have hsl : ∀ W : World, (Instr.slice 9 (.string S) (some (.int .i64 I)) (some (.int .i64 ((I : Int) + 1 + (k : Int)))) none).run Tryz.prog W = .ok (.string (tstr ((S.data.toList.drop I).take (k + 1)))) W := fun W => by
        rw [run_slice_string W _ S _ _ _ _ Tryz.underlying9 (by omega) (by omega) (by omega)]
        rw [show ((I : Int) + 1 + (k : Int)).toNat = I + (k + 1) from by omega, ← hx]; rfl
      have hdc := fun W => rdecode_any (tstr ((S.data.toList.drop I).take (k + 1))) W (by rw [tstr_size, List.length_take, List.length_drop, show S.data.toList.length = S.size from rfl]; omega)
      simp only [tstr_data] at hdc
      have HD := Lib.hid (HT.out.go hlt hst (j := I + (k + 1)) rfl)
      generalize Ent.decode ((S.data.toList.drop I).take (k + 1)) = tx at hdc HD
      generalize tstr ((S.data.toList.drop I).take (k + 1)) = X at hsl hdc
      clear hst hx hF hz hrun
      go_wp2_with fail
      refine (hdc _).mono ?_
      clear hdc
      rintro e w5 ⟨rfl, hb5⟩
      have HK5 := Lib.hid (HK.out.below hb5)
      clear hb5
      have hlit := Whole.new w5 #[.int .i64 3, .string (tstr []), .slice none 0 0, .bool false, .string (tstr tx)] 33
      have hown := HK5.out.row.1
      have hbs9 := HK5.out.bel.size
      have HL := Lib.hid hlit
      clear hlit
      go_wp2_with (at_builtin; refine wpList_append_own _ rfl (.tmp 192) (.tmp 199) 25 rfl w.heap.size 33 i0 (.agg #[.int .i64 0, .string ByteArray.empty, .slice none 0 0, .bool false, .string ByteArray.empty]) 5 72 Tryz.underlying25 hi0 hz0 hz1 hz2 rfl (by decide) _ l.length (tcells l) rfl (hown.alloc _) ⟨w5.heap.size, 0, none⟩ 1 1 (tcells [((⟨3, [], [], false, tx⟩ : Mk.Tok), .slice none 0 0)]) rfl rfl ?c1 ?c2 ?c3 ?c4 ?c5 ?_)
      case c1 =>
        intro j u hj
        match j, hj with
        | 0, hj => simp [tcells] at hj; subst hj; exact HL.out.cell 0
        | 1, hj => simp [tcells] at hj; subst hj; exact HL.out.cell 1
        | 2, hj => simp [tcells] at hj; subst hj; exact HL.out.cell 2
        | 3, hj => simp [tcells] at hj; subst hj; exact HL.out.cell 3
        | 4, hj => simp [tcells] at hj; subst hj; exact HL.out.cell 4
      case c2 => intro u hu; simp [tcells] at hu; rcases hu with rfl | rfl | rfl | rfl | rfl <;> rfl
      case c3 => unfold maxLen; omega
      case c4 => omega
      case c5 => simp; omega
      intro v2 w9 ho9 hg9 _
      have hK9 := HK5.out.push (T := (⟨3, [], [], false, tx⟩ : Mk.Tok)) (ARow.nil _ _ _) ho9 hg9
      obtain ⟨A9, c9, rfl⟩ := hK9.row.form
      clear ho9 hg9 hown
      have HK9 := Lib.hid hK9
      clear hK9
      go_wp2_with fail
      refine ⟨?_, by simp [RtkMu, intOf]; omega⟩
      unfold RtkWI
      refine ⟨_, _, _, _, _, _, _, _, _, _, _, _, _, _, _, _, _, _, _, _, _, _, _, _, _, _, _, _, _, _, _, _, _, _, _, _, _, _, _, _, _, _, _, _, _, _, _, _, _, _, _, _, _, _, _, _, _, _, _, _, _, _, _, _, _, _, _, _, _, _, _, _, _, _, _, _, _, _, _, _, _, _, _, _, _, _, _, _, _, _, _, _, _, _, _, _, _, _, _, _, _, _, _, _, _, _, _, _, _, _, _, _, _, _, _, _, _, _, _, _, _, _, _, _, _, _, _, _, _, _, _, _, _, _, _, _, _, _, _, _, _, _, _, _, _, _, _, _, _, _, _, _, _, _, _, _, _, _, _, _, _, _, _, _, _, _, _, _, _, _, _, _, _, _, _, _, _, _, _, _, _, _, _, _, _, _, _, _, _, _, _, _, _, _, _, _, ?_, rfl⟩
      exact ⟨I + (k + 1), _, by go_num, by omega, HK9.out, HD.out _ rfl⟩

end Go.Proofs.YtckmlbcpldpkpaaGreatDoor
