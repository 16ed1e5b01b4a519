/- A round of the reference's Tokens: start. -/
import Derived.Test.YtckmlbcpldpkpaaGreatDoorWMRTd
namespace Go.Proofs.YtckmlbcpldpkpaaGreatDoor
open Go Go.RowKit
set_option linter.unusedVariables false

set_option maxRecDepth 1000000 in
set_option maxHeartbeats 8000000 in
theorem rtk_start (w wr : World) (doc R S : ByteArray) (hss : S.size ≤ 4500) (A : Option Addr) (c I : Nat) (l : List (Mk.Tok × Value)) (hI : I ≤ S.size) (hK : RkS w wr (.slice A l.length c) l) (hT : RkT S l I) (hlt : I < S.size) (h0 : [60, 33, 45, 45].isPrefixOf (S.data.toList.drop I) = false) (h1 : [60, 47].isPrefixOf (S.data.toList.drop I) = false) (h4 : [60, 33].isPrefixOf (S.data.toList.drop I) = false) (h5 : [60, 63].isPrefixOf (S.data.toList.drop I) = false) (h7 : [60].isPrefixOf (S.data.toList.drop I) = true) (h8 : Mk.letter (S.data.toList.drop (I + 1)) = true)
    (Q0 : Exit → Act → World → Prop) (hret : RtkRet w S Q0) (hexit : ∀ a' w'', RtkWX w doc R S a' w'' → Q0 (.exit 0) a' w'') (u2 u6 u7 u8 u9 u10 u11 u12 u13 u14 u15 u19 u20 u21 u22 u23 u24 u25 u26 u27 u28 u29 u30 u31 u32 u33 u34 u35 u36 u37 u38 u39 u40 u41 u42 u43 u44 u45 u46 u47 u48 u49 u50 u51 u52 u53 u54 u55 u56 u57 u58 u59 u60 u61 u62 u63 u64 u65 u66 u67 u68 u69 u70 u71 u72 u73 u74 u75 u76 u77 u78 u79 u80 u81 u82 u83 u84 u85 u86 u87 u88 u89 u90 u91 u92 u93 u94 u95 u96 u97 u98 u99 u100 u101 u102 u103 u104 u105 u106 u107 u108 u109 u110 u111 u112 u113 u114 u115 u116 u117 u118 u119 u120 u121 u122 u123 u124 u125 u126 u127 u128 u129 u130 u131 u132 u133 u134 u135 u136 u137 u138 u139 u140 u141 u142 u143 u144 u145 u146 u147 u148 u149 u150 u151 u152 u153 u154 u155 u156 u157 u158 u159 u160 u161 u162 u163 u164 u165 u166 u167 u168 u169 u170 u171 u172 u173 u174 u175 u176 u177 u178 u179 u180 u181 u182 u183 u184 u185 u186 u187 u188 u189 u190 u191 u192 u193 u194 u195 u196 u197 u198 u199 u200 u201 : Value) :
    Code.wp Tryz.prog rtkBody (Exit.then (fun a' w'' => RtkWI w doc R S a' w'' ∧ RtkMu S a' w'' < RtkMu S ⟨#[.string doc, undef, u2, .string S, (.slice A l.length c), (.int .i64 (I : Int)), u6, u7, u8, u9, u10, u11, u12, u13, u14, u15, .string doc, .string R, .string S, u19, u20, u21, u22, u23, u24, u25, u26, u27, u28, u29, u30, u31, u32, u33, u34, u35, u36, u37, u38, u39, u40, u41, u42, u43, u44, u45, u46, u47, u48, u49, u50, u51, u52, u53, u54, u55, u56, u57, u58, u59, u60, u61, u62, u63, u64, u65, u66, u67, u68, u69, u70, u71, u72, u73, u74, u75, u76, u77, u78, u79, u80, u81, u82, u83, u84, u85, u86, u87, u88, u89, u90, u91, u92, u93, u94, u95, u96, u97, u98, u99, u100, u101, u102, u103, u104, u105, u106, u107, u108, u109, u110, u111, u112, u113, u114, u115, u116, u117, u118, u119, u120, u121, u122, u123, u124, u125, u126, u127, u128, u129, u130, u131, u132, u133, u134, u135, u136, u137, u138, u139, u140, u141, u142, u143, u144, u145, u146, u147, u148, u149, u150, u151, u152, u153, u154, u155, u156, u157, u158, u159, u160, u161, u162, u163, u164, u165, u166, u167, u168, u169, u170, u171, u172, u173, u174, u175, u176, u177, u178, u179, u180, u181, u182, u183, u184, u185, u186, u187, u188, u189, u190, u191, u192, u193, u194, u195, u196, u197, u198, u199, u200, u201, undef], []⟩ wr) Q0) ⟨#[.string doc, undef, u2, .string S, (.slice A l.length c), (.int .i64 (I : Int)), u6, u7, u8, u9, u10, u11, u12, u13, u14, u15, .string doc, .string R, .string S, u19, u20, u21, u22, u23, u24, u25, u26, u27, u28, u29, u30, u31, u32, u33, u34, u35, u36, u37, u38, u39, u40, u41, u42, u43, u44, u45, u46, u47, u48, u49, u50, u51, u52, u53, u54, u55, u56, u57, u58, u59, u60, u61, u62, u63, u64, u65, u66, u67, u68, u69, u70, u71, u72, u73, u74, u75, u76, u77, u78, u79, u80, u81, u82, u83, u84, u85, u86, u87, u88, u89, u90, u91, u92, u93, u94, u95, u96, u97, u98, u99, u100, u101, u102, u103, u104, u105, u106, u107, u108, u109, u110, u111, u112, u113, u114, u115, u116, u117, u118, u119, u120, u121, u122, u123, u124, u125, u126, u127, u128, u129, u130, u131, u132, u133, u134, u135, u136, u137, u138, u139, u140, u141, u142, u143, u144, u145, u146, u147, u148, u149, u150, u151, u152, u153, u154, u155, u156, u157, u158, u159, u160, u161, u162, u163, u164, u165, u166, u167, u168, u169, u170, u171, u172, u173, u174, u175, u176, u177, u178, u179, u180, u181, u182, u183, u184, u185, u186, u187, u188, u189, u190, u191, u192, u193, u194, u195, u196, u197, u198, u199, u200, u201, undef], []⟩ wr := by
  obtain ⟨i0, hi0, hz0, hz1, hz2⟩ := info_parts rtokInfo
  have HRET := Lib.hid hret
  clear hret
  conv => arg 2; whnf
  have hll := hT.len
  have hltI : (I : Int) < (S.size : Int) := by omega
  have hbs := hK.bel.size
  have a0 := fun W => mat_any S ⟨#[60, 33, 45, 45]⟩ I W (by omega) (by decide) (by omega) (by decide)
  have a1 := fun W => mat_any S ⟨#[60, 47]⟩ I W (by omega) (by decide) (by omega) (by decide)
  have a2 := fun W => mat_any S ⟨#[60, 47, 62]⟩ I W (by omega) (by decide) (by omega) (by decide)
  have a3 := fun W => mat_any S ⟨#[60, 33]⟩ I W (by omega) (by decide) (by omega) (by decide)
  have a4 := fun W => mat_any S ⟨#[60, 63]⟩ I W (by omega) (by decide) (by omega) (by decide)
  have a5 := fun W => mat_any S ⟨#[60]⟩ I W (by omega) (by decide) (by omega) (by decide)
  have b1 := fun W => mletter_any S (I + 1) W (by omega) (by omega)
  have b2 := fun W => mletter_any S (I + 2) W (by omega) (by omega)
  rw [show ((I + 1 : Nat) : Int) = (I : Int) + 1 from by omega] at b1
  rw [show ((I + 2 : Nat) : Int) = (I : Int) + 2 from by omega] at b2
  dsimp only at a0 a1 a2 a3 a4 a5
  have HK := Lib.hid hK
  have HT := Lib.hid hT
  clear hK hT
  clear hexit
  rw [h0] at a0
  rw [h1] at a1
  have hq : ([60, 47].isPrefixOf (S.data.toList.drop I) && Mk.letter ((S.data.toList.drop I).drop 2)) = false := by rw [h1, Bool.false_and]
  have h3 : [60, 47, 62].isPrefixOf (S.data.toList.drop I) = false := by
    rw [Bool.eq_false_iff] at h1 ⊢
    intro e
    apply h1
    rw [List.isPrefixOf_iff_prefix] at e ⊢
    exact (show ([60, 47] : List UInt8) <+: [60, 47, 62] from ⟨[62], rfl⟩).trans e
  rw [h3] at a2
  rw [h4] at a3
  rw [h5] at a4
  have h6 : ([60, 47].isPrefixOf (S.data.toList.drop I) || [60, 33].isPrefixOf (S.data.toList.drop I) || [60, 63].isPrefixOf (S.data.toList.drop I)) = false := by rw [h1, h4, h5]; rfl
  rw [h7] at a5
  rw [h8] at b1
  have hst := step_start h0 hq h3 h6 (by rw [h7, List.drop_drop, h8]; rfl)
  have hso := rstart_any S (I + 1) wr (by omega) (by omega)
  rw [show ((I + 1 : Nat) : Int) = (I : Int) + 1 from by omega] at hso
  rw [List.drop_drop] at hst
  clear h0 h1 h3 h4 h5 h6 h7 h8 hq
  cases hsc : Mk.start (S.data.toList.drop (I + 1)) with
  | none =>
    rw [hsc] at hso hst
    have hdn := HT.out.stop hst
    have HDN := Lib.hid hdn
    clear hst hdn hsc
    go_wp2_with (first | (go_at_call 28; (first | with_reducible refine (a0 _).mono ?_ | with_reducible refine (a1 _).mono ?_ | with_reducible refine (a2 _).mono ?_ | with_reducible refine (a3 _).mono ?_ | with_reducible refine (a4 _).mono ?_ | with_reducible refine (a5 _).mono ?_); rintro e w' ⟨rfl, rfl⟩) | (go_at_call 30; (first | with_reducible refine (b1 _).mono ?_ | with_reducible refine (b2 _).mono ?_); rintro e w' ⟨rfl, rfl⟩))
    refine hso.mono ?_
    clear hso
    rintro e w4 ⟨h, hb4⟩
    obtain ⟨N, A2, n2, c2, rfl⟩ := h
    have HK4 := Lib.hid (HK.out.below hb4)
    clear hb4
    go_wp2_with fail
    exact HRET.out _ _ _ l rfl rfl HDN.out (HK4.out.alloc _)
  | some p =>
    obtain ⟨tok, r⟩ := p
    have hkd := Mk.start_kind hsc
    rw [hsc] at hso hst
    rw [Option.map_some] at hst
    obtain ⟨kd, nm, ats, cl, tx0⟩ := tok
    simp only at hkd hst
    obtain ⟨rfl, hnm, rfl⟩ := hkd
    clear hsc hnm
    go_wp2_with (first | (go_at_call 28; (first | with_reducible refine (a0 _).mono ?_ | with_reducible refine (a1 _).mono ?_ | with_reducible refine (a2 _).mono ?_ | with_reducible refine (a3 _).mono ?_ | with_reducible refine (a4 _).mono ?_ | with_reducible refine (a5 _).mono ?_); rintro e w' ⟨rfl, rfl⟩) | (go_at_call 30; (first | with_reducible refine (b1 _).mono ?_ | with_reducible refine (b2 _).mono ?_); rintro e w' ⟨rfl, rfl⟩))
    refine hso.mono ?_
    clear hso
    rintro e w4 ⟨h, hb4⟩
    obtain ⟨sl, j, rfl, hA, hd, hIj, hj⟩ := h
    simp only at hA
    obtain ⟨As, cs, rfl⟩ := hA.form
    have hj0 : ¬ (j : Int) < 0 := by omega
    have HK4 := Lib.hid (HK.out.below hb4)
    have hA4 := hA.mono' (base' := w.heap.size) HK.out.bel.size
    have HK5 := Lib.hid (HK4.out.alloc (.cells #[.int .i64 1, .string (tstr nm), .slice As ats.length cs, .bool cl, .string ⟨#[]⟩] 33))
    have HA5 := Lib.hid (hA4.alloc (.cells #[.int .i64 1, .string (tstr nm), .slice As ats.length cs, .bool cl, .string ⟨#[]⟩] 33))
    have hX5 := Whole.new w4 #[.int .i64 1, .string (tstr nm), .slice As ats.length cs, .bool cl, .string ⟨#[]⟩] 33
    clear hA hA4 hb4 hbs
    have hlit := Whole.new (w4.alloc (.cells #[.int .i64 1, .string (tstr nm), .slice As ats.length cs, .bool cl, .string ⟨#[]⟩] 33)) #[.int .i64 1, .string (tstr nm), .slice As ats.length cs, .bool cl, .string (tstr [])] 33
    have hown := HK5.out.row.1
    have hbs9 := HK5.out.bel.size
    rw [World.size_alloc] at hlit
    rw [World.size_alloc] at hbs9
    have HL := Lib.hid hlit
    clear hlit
    go_wp2_with (at_builtin; refine wpList_append_own _ rfl (.tmp 143) (.tmp 145) 25 rfl w.heap.size 33 i0 (.agg #[.int .i64 0, .string ByteArray.empty, .slice none 0 0, .bool false, .string ByteArray.empty]) 5 72 Tryz.underlying25 hi0 hz0 hz1 hz2 rfl (by decide) _ l.length (tcells l) rfl (hown.alloc _) ⟨w4.heap.size + 1, 0, none⟩ 1 1 (tcells [((⟨1, nm, ats, cl, []⟩ : Mk.Tok), .slice As ats.length cs)]) rfl rfl ?c1 ?c2 ?c3 ?c4 ?c5 ?_)
    case c1 =>
      intro j u hj
      match j, hj with
      | 0, hj => simp [tcells] at hj; subst hj; exact HL.out.cell 0
      | 1, hj => simp [tcells] at hj; subst hj; exact HL.out.cell 1
      | 2, hj => simp [tcells] at hj; subst hj; exact HL.out.cell 2
      | 3, hj => simp [tcells] at hj; subst hj; exact HL.out.cell 3
      | 4, hj => simp [tcells] at hj; subst hj; exact HL.out.cell 4
    case c2 => intro u hu; simp [tcells] at hu; rcases hu with rfl | rfl | rfl | rfl | rfl <;> rfl
    case c3 => unfold maxLen; omega
    case c4 => omega
    case c5 => simp; omega
    intro v2 w9 ho9 hg9 _
    have hK9 := HK5.out.push (T := (⟨1, nm, ats, cl, []⟩ : Mk.Tok)) HA5.out ho9 hg9
    obtain ⟨A9, c9, rfl⟩ := hK9.row.form
    rw [List.length_append, List.length_singleton] at hK9
    have hX9 := (hX5.alloc (.cells #[.int .i64 1, .string (tstr nm), .slice As ats.length cs, .bool cl, .string (tstr [])] 33)).grown hg9 (fun e => by have := (HK4.out.row.lt _ e.symm).2; omega)
    clear ho9 hg9 hown
    have hra := fun W => mraw_any (tstr nm) W
    have hpa := fun W => mplain_any (tstr nm) W
    simp only [tstr_data] at hra hpa
    have hbs := hK9.bel.size
    clear hX5 HK4 HK5 HA5 HL hbs9
    cases hraw : Mk.raw nm with
    | true =>
      have hpl : Mk.plain nm = false := by
        unfold Mk.raw at hraw
        simp only [Bool.or_eq_true, beq_iff_eq] at hraw
        rcases hraw with rfl | rfl <;> decide
      rw [hraw] at hra
      rw [hpl] at hpa
      have hrw : Mk.Rawish nm := by unfold Mk.Rawish; rw [show Mk.rawName nm = true from hraw]; rfl
      have hn8 := rawish_len hrw
      have haf := Mk.after_raw (t := ⟨1, nm, ats, cl, []⟩) hrw r
      rw [haf] at hst
      obtain ⟨k, hk⟩ : ∃ k, Mk.closing nm r = k := ⟨_, rfl⟩
      have hkl : j + k ≤ S.size := by
        have h9 := Mk.closing_le nm r
        rw [hk, ← hd, List.length_drop, show S.data.toList.length = S.size from rfl] at h9
        omega
      have hcl := fun W => mclosing_any S (tstr nm) j W (by omega) (by rw [tstr_size]; omega) hj
      simp only [tstr_data] at hcl
      rw [hd, hk, show ((j + k : Nat) : Int) = (j : Int) + (k : Int) from by omega] at hcl
      have hx : S.extract j (j + k) = tstr (r.take k) := str_of_list (by rw [← hd]; exact textract S j k)
      have hsl : ∀ W : World, (Instr.slice 9 (.string S) (some (.int .i64 j)) (some (.int .i64 ((j : Int) + (k : Int)))) none).run Tryz.prog W = .ok (.string (tstr (r.take k))) W := fun W => by
        rw [run_slice_string W _ S _ _ _ _ Tryz.underlying9 (by omega) (by omega) (by omega)]
        rw [show ((j : Int) + (k : Int)).toNat = j + k from by omega, ← hx]; rfl
      have hrp : Mk.rawPart nm r = if r.take k = [] then [] else [Mk.txt (r.take k)] := by
        have hrt : ∀ y, Mk.rawTxt nm y = y := fun y => by
          unfold Mk.rawTxt
          rw [show Mk.plainName nm = false from hpl]
          simp only [Bool.false_eq_true, if_false]
        unfold Mk.rawPart
        simp only [hk, hrt]
      have hlk : (r.take k).length ≤ 4500 := by
        rw [← hd, List.length_take, List.length_drop, show S.data.toList.length = S.size from rfl]; omega
      have HD := Lib.hid (HT.out.go hlt hst (j := j + k) (by rw [← List.drop_drop, hd, hk]))
      have HRP := Lib.hid hrp
      clear hst haf hx hrp hk hrw hd
      
      obtain ⟨c0, c1x, c2, c3, c4⟩ := tok_cells hX9
      go_wp2_with (first | (go_at_call 23; refine (hra _).mono ?_; rintro e w' ⟨rfl, rfl⟩) | (go_at_call 25; refine (hpa _).mono ?_; rintro e w' ⟨rfl, rfl⟩))
      refine (hcl _).mono ?_
      clear hcl
      rintro e w10 ⟨rfl, hb10⟩
      have hK10 := hK9.below hb10
      have hX10 := hX9.below hb10 hX9.lt
      obtain ⟨g0, g1, g2, g3, g4⟩ := tok_cells hX10
      have HK10 := Lib.hid hK10
      have hbz := hK10.bel.size
      clear hK9 hX9 c0 c1x c2 c3 c4 hK10 hb10
      
      by_cases hx0 : r.take k = []
      · have HDZ := Lib.hid (HD.out [((⟨1, nm, ats, cl, []⟩ : Mk.Tok), .slice As ats.length cs)] (by rw [HRP.out, if_pos hx0]; rfl))
        have hem : ((tstr (r.take k)).toList == []) = true := by rw [hx0, Lib.toList_data, tstr_data]; rfl
        have hem2 : (!(tstr (r.take k)).toList.isEmpty) = false := by rw [hx0]; exact tstr_none.2
        have hem3 : ((tstr (r.take k)).toList != []) = false := by rw [bne, hem]; rfl
        clear hx0 HD HRP
        generalize tstr (r.take k) = XX at *
        go_wp2_with (go_at_call 25; refine (hpa _).mono ?_; rintro e w' ⟨rfl, rfl⟩)
        refine ⟨?_, by simp [RtkMu, intOf]; omega⟩
        unfold RtkWI
        refine ⟨_, _, _, _, _, _, _, _, _, _, _, _, _, _, _, _, _, _, _, _, _, _, _, _, _, _, _, _, _, _, _, _, _, _, _, _, _, _, _, _, _, _, _, _, _, _, _, _, _, _, _, _, _, _, _, _, _, _, _, _, _, _, _, _, _, _, _, _, _, _, _, _, _, _, _, _, _, _, _, _, _, _, _, _, _, _, _, _, _, _, _, _, _, _, _, _, _, _, _, _, _, _, _, _, _, _, _, _, _, _, _, _, _, _, _, _, _, _, _, _, _, _, _, _, _, _, _, _, _, _, _, _, _, _, _, _, _, _, _, _, _, _, _, _, _, _, _, _, _, _, _, _, _, _, _, _, _, _, _, _, _, _, _, _, _, _, _, _, _, _, _, _, _, _, _, _, _, _, _, _, _, _, _, _, _, _, _, _, _, _, _, _, _, _, _, _, ?_, rfl⟩
        exact ⟨j + k, _, by go_num, by omega, HK10.out, HDZ.out⟩
      · have HDZ := Lib.hid (HD.out [((⟨1, nm, ats, cl, []⟩ : Mk.Tok), .slice As ats.length cs), (Mk.txt (r.take k), .slice none 0 0)] (by rw [HRP.out, if_neg hx0]; rfl))
        obtain ⟨hem, hem2⟩ := tstr_some hx0
        have hem3 : ((tstr (r.take k)).toList == []) = false := by rw [Lib.toList_data, tstr_data, beq_eq_false_iff_ne]; exact hx0
        have hem4 : ((tstr (r.take k)).toList != []) = true := by rw [bne, hem3]; rfl
        clear hx0 HD HRP
        generalize r.take k = tx at *
        go_wp2_with fail
        refine (hpa _).mono ?_
        rintro e w' ⟨rfl, rfl⟩
        
        have hlit := Whole.new w10 #[.int .i64 3, .string (tstr []), .slice none 0 0, .bool false, .string (tstr tx)] 33
        have hown := HK10.out.row.1
        rw [List.length_append, List.length_singleton] at hown
        have hbs9 := HK10.out.bel.size
        have HL := Lib.hid hlit
        clear hlit
        go_wp2_with (at_builtin; refine wpList_append_own _ rfl (.tmp 172) (.tmp 175) 25 rfl w.heap.size 33 i0 (.agg #[.int .i64 0, .string ByteArray.empty, .slice none 0 0, .bool false, .string ByteArray.empty]) 5 72 Tryz.underlying25 hi0 hz0 hz1 hz2 rfl (by decide) _ (l.length + 1) (tcells (l ++ [((⟨1, nm, ats, cl, []⟩ : Mk.Tok), Value.slice As ats.length cs)])) rfl (hown.alloc _) ⟨w10.heap.size, 0, none⟩ 1 1 (tcells [((⟨3, [], [], false, tx⟩ : Mk.Tok), .slice none 0 0)]) rfl rfl ?c1 ?c2 ?c3 ?c4 ?c5 ?_)
        case c1 =>
          intro j u hj
          match j, hj with
          | 0, hj => simp [tcells] at hj; subst hj; exact HL.out.cell 0
          | 1, hj => simp [tcells] at hj; subst hj; exact HL.out.cell 1
          | 2, hj => simp [tcells] at hj; subst hj; exact HL.out.cell 2
          | 3, hj => simp [tcells] at hj; subst hj; exact HL.out.cell 3
          | 4, hj => simp [tcells] at hj; subst hj; exact HL.out.cell 4
        case c2 => intro u hu; simp [tcells] at hu; rcases hu with rfl | rfl | rfl | rfl | rfl <;> rfl
        case c3 => unfold maxLen; omega
        case c4 => omega
        case c5 => simp; omega
        intro v2 w9 ho9 hg9 _
        have hK9 := HK10.out.push (T := (⟨3, [], [], false, tx⟩ : Mk.Tok)) (ARow.nil _ _ _) (by rw [List.length_append, List.length_singleton]; exact ho9) hg9
        obtain ⟨A9, c9, rfl⟩ := hK9.row.form
        clear ho9 hg9 hown
        have HK9 := Lib.hid hK9
        clear hK9
        go_wp2_with fail
        refine ⟨?_, by simp [RtkMu, intOf]; omega⟩
        unfold RtkWI
        refine ⟨_, _, _, _, _, _, _, _, _, _, _, _, _, _, _, _, _, _, _, _, _, _, _, _, _, _, _, _, _, _, _, _, _, _, _, _, _, _, _, _, _, _, _, _, _, _, _, _, _, _, _, _, _, _, _, _, _, _, _, _, _, _, _, _, _, _, _, _, _, _, _, _, _, _, _, _, _, _, _, _, _, _, _, _, _, _, _, _, _, _, _, _, _, _, _, _, _, _, _, _, _, _, _, _, _, _, _, _, _, _, _, _, _, _, _, _, _, _, _, _, _, _, _, _, _, _, _, _, _, _, _, _, _, _, _, _, _, _, _, _, _, _, _, _, _, _, _, _, _, _, _, _, _, _, _, _, _, _, _, _, _, _, _, _, _, _, _, _, _, _, _, _, _, _, _, _, _, _, _, _, _, _, _, _, _, _, _, _, _, _, _, _, _, _, _, _, ?_, rfl⟩
        exact ⟨j + k, _, by go_num, by omega, HK9.out, by have := HDZ.out; rwa [List.append_cons] at this⟩
    | false =>
      rw [hraw] at hra
      cases hpl : Mk.plain nm with
      | true =>
        rw [hpl] at hpa
        have hrw : Mk.Rawish nm := by unfold Mk.Rawish; rw [show Mk.plainName nm = true from hpl, Bool.or_true]
        have hn8 := rawish_len hrw
        have haf := Mk.after_raw (t := ⟨1, nm, ats, cl, []⟩) hrw r
        rw [haf] at hst
        obtain ⟨k, hk⟩ : ∃ k, Mk.closing nm r = k := ⟨_, rfl⟩
        have hkl : j + k ≤ S.size := by
          have h9 := Mk.closing_le nm r
          rw [hk, ← hd, List.length_drop, show S.data.toList.length = S.size from rfl] at h9
          omega
        have hcl := fun W => mclosing_any S (tstr nm) j W (by omega) (by rw [tstr_size]; omega) hj
        simp only [tstr_data] at hcl
        rw [hd, hk, show ((j + k : Nat) : Int) = (j : Int) + (k : Int) from by omega] at hcl
        have hx : S.extract j (j + k) = tstr (r.take k) := str_of_list (by rw [← hd]; exact textract S j k)
        have hsl : ∀ W : World, (Instr.slice 9 (.string S) (some (.int .i64 j)) (some (.int .i64 ((j : Int) + (k : Int)))) none).run Tryz.prog W = .ok (.string (tstr (r.take k))) W := fun W => by
          rw [run_slice_string W _ S _ _ _ _ Tryz.underlying9 (by omega) (by omega) (by omega)]
          rw [show ((j : Int) + (k : Int)).toNat = j + k from by omega, ← hx]; rfl
        have hrp : Mk.rawPart nm r = if Ent.decode (r.take k) = [] then [] else [Mk.txt (Ent.decode (r.take k))] := by
          have hrt : ∀ y, Mk.rawTxt nm y = Ent.decode y := fun y => by
            unfold Mk.rawTxt
            rw [show Mk.plainName nm = true from hpl]
            simp only [if_true]
          unfold Mk.rawPart
          simp only [hk, hrt]
        have hlk : (r.take k).length ≤ 4500 := by
          rw [← hd, List.length_take, List.length_drop, show S.data.toList.length = S.size from rfl]; omega
        have HD := Lib.hid (HT.out.go hlt hst (j := j + k) (by rw [← List.drop_drop, hd, hk]))
        have HRP := Lib.hid hrp
        clear hst haf hx hrp hk hrw hd
        have hdc := fun W => rdecode_any (tstr (r.take k)) W (by rw [tstr_size]; omega)
        simp only [tstr_data] at hdc
        generalize tstr (r.take k) = XR at hsl hdc
        obtain ⟨c0, c1x, c2, c3, c4⟩ := tok_cells hX9
        go_wp2_with (first | (go_at_call 23; refine (hra _).mono ?_; rintro e w' ⟨rfl, rfl⟩) | (go_at_call 25; refine (hpa _).mono ?_; rintro e w' ⟨rfl, rfl⟩))
        refine (hcl _).mono ?_
        clear hcl
        rintro e w10 ⟨rfl, hb10⟩
        have hK10 := hK9.below hb10
        have hX10 := hX9.below hb10 hX9.lt
        obtain ⟨g0, g1, g2, g3, g4⟩ := tok_cells hX10
        have HK10 := Lib.hid hK10
        have hbz := hK10.bel.size
        clear hK9 hX9 c0 c1x c2 c3 c4 hK10 hb10
        go_wp2_with (go_at_call 25; refine (hpa _).mono ?_; rintro e w' ⟨rfl, rfl⟩)
        refine (hdc _).mono ?_
        clear hdc
        rintro e w11 ⟨rfl, hb11⟩
        have HK11 := Lib.hid (HK10.out.below hb11)
        have hbz2 := HK11.out.bel.size
        clear hb11 g0 g1 g2 g3 g4 hX10
        by_cases hx0 : Ent.decode (r.take k) = []
        · have HDZ := Lib.hid (HD.out [((⟨1, nm, ats, cl, []⟩ : Mk.Tok), .slice As ats.length cs)] (by rw [HRP.out, if_pos hx0]; rfl))
          have hem : ((tstr (Ent.decode (r.take k))).toList == []) = true := by rw [hx0, Lib.toList_data, tstr_data]; rfl
          have hem2 : (!(tstr (Ent.decode (r.take k))).toList.isEmpty) = false := by rw [hx0]; exact tstr_none.2
          have hem3 : ((tstr (Ent.decode (r.take k))).toList != []) = false := by rw [bne, hem]; rfl
          clear hx0 HD HRP
          generalize tstr (Ent.decode (r.take k)) = XX at *
          go_wp2_with fail
          refine ⟨?_, by simp [RtkMu, intOf]; omega⟩
          unfold RtkWI
          refine ⟨_, _, _, _, _, _, _, _, _, _, _, _, _, _, _, _, _, _, _, _, _, _, _, _, _, _, _, _, _, _, _, _, _, _, _, _, _, _, _, _, _, _, _, _, _, _, _, _, _, _, _, _, _, _, _, _, _, _, _, _, _, _, _, _, _, _, _, _, _, _, _, _, _, _, _, _, _, _, _, _, _, _, _, _, _, _, _, _, _, _, _, _, _, _, _, _, _, _, _, _, _, _, _, _, _, _, _, _, _, _, _, _, _, _, _, _, _, _, _, _, _, _, _, _, _, _, _, _, _, _, _, _, _, _, _, _, _, _, _, _, _, _, _, _, _, _, _, _, _, _, _, _, _, _, _, _, _, _, _, _, _, _, _, _, _, _, _, _, _, _, _, _, _, _, _, _, _, _, _, _, _, _, _, _, _, _, _, _, _, _, _, _, _, _, _, _, ?_, rfl⟩
          exact ⟨j + k, _, by go_num, by omega, HK11.out, HDZ.out⟩
        · have HDZ := Lib.hid (HD.out [((⟨1, nm, ats, cl, []⟩ : Mk.Tok), .slice As ats.length cs), (Mk.txt (Ent.decode (r.take k)), .slice none 0 0)] (by rw [HRP.out, if_neg hx0]; rfl))
          obtain ⟨hem, hem2⟩ := tstr_some hx0
          have hem3 : ((tstr (Ent.decode (r.take k))).toList == []) = false := by rw [Lib.toList_data, tstr_data, beq_eq_false_iff_ne]; exact hx0
          have hem4 : ((tstr (Ent.decode (r.take k))).toList != []) = true := by rw [bne, hem3]; rfl
          clear hx0 HD HRP
          generalize Ent.decode (r.take k) = tx at *
          have hlit := Whole.new w11 #[.int .i64 3, .string (tstr []), .slice none 0 0, .bool false, .string (tstr tx)] 33
          have hown := HK11.out.row.1
          rw [List.length_append, List.length_singleton] at hown
          have hbs9 := HK11.out.bel.size
          have HL := Lib.hid hlit
          clear hlit
          go_wp2_with (at_builtin; refine wpList_append_own _ rfl (.tmp 172) (.tmp 175) 25 rfl w.heap.size 33 i0 (.agg #[.int .i64 0, .string ByteArray.empty, .slice none 0 0, .bool false, .string ByteArray.empty]) 5 72 Tryz.underlying25 hi0 hz0 hz1 hz2 rfl (by decide) _ (l.length + 1) (tcells (l ++ [((⟨1, nm, ats, cl, []⟩ : Mk.Tok), Value.slice As ats.length cs)])) rfl (hown.alloc _) ⟨w11.heap.size, 0, none⟩ 1 1 (tcells [((⟨3, [], [], false, tx⟩ : Mk.Tok), .slice none 0 0)]) rfl rfl ?c1 ?c2 ?c3 ?c4 ?c5 ?_)
          case c1 =>
            intro j u hj
            match j, hj with
            | 0, hj => simp [tcells] at hj; subst hj; exact HL.out.cell 0
            | 1, hj => simp [tcells] at hj; subst hj; exact HL.out.cell 1
            | 2, hj => simp [tcells] at hj; subst hj; exact HL.out.cell 2
            | 3, hj => simp [tcells] at hj; subst hj; exact HL.out.cell 3
            | 4, hj => simp [tcells] at hj; subst hj; exact HL.out.cell 4
          case c2 => intro u hu; simp [tcells] at hu; rcases hu with rfl | rfl | rfl | rfl | rfl <;> rfl
          case c3 => unfold maxLen; omega
          case c4 => omega
          case c5 => simp; omega
          intro v2 w9 ho9 hg9 _
          have hK9 := HK11.out.push (T := (⟨3, [], [], false, tx⟩ : Mk.Tok)) (ARow.nil _ _ _) (by rw [List.length_append, List.length_singleton]; exact ho9) hg9
          obtain ⟨A9, c9, rfl⟩ := hK9.row.form
          clear ho9 hg9 hown
          have HK9 := Lib.hid hK9
          clear hK9
          go_wp2_with fail
          refine ⟨?_, by simp [RtkMu, intOf]; omega⟩
          unfold RtkWI
          refine ⟨_, _, _, _, _, _, _, _, _, _, _, _, _, _, _, _, _, _, _, _, _, _, _, _, _, _, _, _, _, _, _, _, _, _, _, _, _, _, _, _, _, _, _, _, _, _, _, _, _, _, _, _, _, _, _, _, _, _, _, _, _, _, _, _, _, _, _, _, _, _, _, _, _, _, _, _, _, _, _, _, _, _, _, _, _, _, _, _, _, _, _, _, _, _, _, _, _, _, _, _, _, _, _, _, _, _, _, _, _, _, _, _, _, _, _, _, _, _, _, _, _, _, _, _, _, _, _, _, _, _, _, _, _, _, _, _, _, _, _, _, _, _, _, _, _, _, _, _, _, _, _, _, _, _, _, _, _, _, _, _, _, _, _, _, _, _, _, _, _, _, _, _, _, _, _, _, _, _, _, _, _, _, _, _, _, _, _, _, _, _, _, _, _, _, _, _, ?_, rfl⟩
          exact ⟨j + k, _, by go_num, by omega, HK9.out, by have := HDZ.out; rwa [List.append_cons] at this⟩
      | false =>
        rw [hpl] at hpa
        have haf := Mk.after_not (t := ⟨1, nm, ats, cl, []⟩) (show ¬ Mk.Rawish nm by unfold Mk.Rawish; rw [show Mk.rawName nm = false from hraw, show Mk.plainName nm = false from hpl]; decide) r
        rw [haf] at hst
        have HD := Lib.hid (HT.out.go hlt hst (j := j) hd)
        obtain ⟨c0, c1x, c2, c3, c4⟩ := tok_cells hX9
        have HK9 := Lib.hid hK9
        clear hst haf hd hK9 hX9
        go_wp2_with (first | (go_at_call 23; refine (hra _).mono ?_; rintro e w' ⟨rfl, rfl⟩) | (go_at_call 25; refine (hpa _).mono ?_; rintro e w' ⟨rfl, rfl⟩))
        refine ⟨?_, by simp [RtkMu, intOf]; omega⟩
        unfold RtkWI
        refine ⟨_, _, _, _, _, _, _, _, _, _, _, _, _, _, _, _, _, _, _, _, _, _, _, _, _, _, _, _, _, _, _, _, _, _, _, _, _, _, _, _, _, _, _, _, _, _, _, _, _, _, _, _, _, _, _, _, _, _, _, _, _, _, _, _, _, _, _, _, _, _, _, _, _, _, _, _, _, _, _, _, _, _, _, _, _, _, _, _, _, _, _, _, _, _, _, _, _, _, _, _, _, _, _, _, _, _, _, _, _, _, _, _, _, _, _, _, _, _, _, _, _, _, _, _, _, _, _, _, _, _, _, _, _, _, _, _, _, _, _, _, _, _, _, _, _, _, _, _, _, _, _, _, _, _, _, _, _, _, _, _, _, _, _, _, _, _, _, _, _, _, _, _, _, _, _, _, _, _, _, _, _, _, _, _, _, _, _, _, _, _, _, _, _, _, _, _, ?_, rfl⟩
        exact ⟨j, _, rfl, hj, HK9.out, HD.out _ rfl⟩

end Go.Proofs.YtckmlbcpldpkpaaGreatDoor
