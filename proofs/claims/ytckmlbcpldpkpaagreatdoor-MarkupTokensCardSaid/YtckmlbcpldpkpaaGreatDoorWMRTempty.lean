/- A round of the reference's Tokens: empty. -/
import Derived.Test.YtckmlbcpldpkpaaGreatDoorWMRTd
namespace Go.Proofs.YtckmlbcpldpkpaaGreatDoor
open Go Go.RowKit
set_option linter.unusedVariables false

set_option maxRecDepth 1000000 in
set_option maxHeartbeats 8000000 in
theorem rtk_empty (w wr : World) (doc R S : ByteArray) (hss : S.size ≤ 4500) (A : Option Addr) (c I : Nat) (l : List (Mk.Tok × Value)) (hI : I ≤ S.size) (hK : RkS w wr (.slice A l.length c) l) (hT : RkT S l I) (hlt : I < S.size) (h0 : [60, 33, 45, 45].isPrefixOf (S.data.toList.drop I) = false) (h1 : [60, 47].isPrefixOf (S.data.toList.drop I) = true) (h2 : Mk.letter (S.data.toList.drop (I + 2)) = false) (h3 : [60, 47, 62].isPrefixOf (S.data.toList.drop I) = true)
    (Q0 : Exit → Act → World → Prop) (hret : RtkRet w S Q0) (hexit : ∀ a' w'', RtkWX w doc R S a' w'' → Q0 (.exit 0) a' w'') (u2 u6 u7 u8 u9 u10 u11 u12 u13 u14 u15 u19 u20 u21 u22 u23 u24 u25 u26 u27 u28 u29 u30 u31 u32 u33 u34 u35 u36 u37 u38 u39 u40 u41 u42 u43 u44 u45 u46 u47 u48 u49 u50 u51 u52 u53 u54 u55 u56 u57 u58 u59 u60 u61 u62 u63 u64 u65 u66 u67 u68 u69 u70 u71 u72 u73 u74 u75 u76 u77 u78 u79 u80 u81 u82 u83 u84 u85 u86 u87 u88 u89 u90 u91 u92 u93 u94 u95 u96 u97 u98 u99 u100 u101 u102 u103 u104 u105 u106 u107 u108 u109 u110 u111 u112 u113 u114 u115 u116 u117 u118 u119 u120 u121 u122 u123 u124 u125 u126 u127 u128 u129 u130 u131 u132 u133 u134 u135 u136 u137 u138 u139 u140 u141 u142 u143 u144 u145 u146 u147 u148 u149 u150 u151 u152 u153 u154 u155 u156 u157 u158 u159 u160 u161 u162 u163 u164 u165 u166 u167 u168 u169 u170 u171 u172 u173 u174 u175 u176 u177 u178 u179 u180 u181 u182 u183 u184 u185 u186 u187 u188 u189 u190 u191 u192 u193 u194 u195 u196 u197 u198 u199 u200 u201 : Value) :
    Code.wp Tryz.prog rtkBody (Exit.then (fun a' w'' => RtkWI w doc R S a' w'' ∧ RtkMu S a' w'' < RtkMu S ⟨#[.string doc, undef, u2, .string S, (.slice A l.length c), (.int .i64 (I : Int)), u6, u7, u8, u9, u10, u11, u12, u13, u14, u15, .string doc, .string R, .string S, u19, u20, u21, u22, u23, u24, u25, u26, u27, u28, u29, u30, u31, u32, u33, u34, u35, u36, u37, u38, u39, u40, u41, u42, u43, u44, u45, u46, u47, u48, u49, u50, u51, u52, u53, u54, u55, u56, u57, u58, u59, u60, u61, u62, u63, u64, u65, u66, u67, u68, u69, u70, u71, u72, u73, u74, u75, u76, u77, u78, u79, u80, u81, u82, u83, u84, u85, u86, u87, u88, u89, u90, u91, u92, u93, u94, u95, u96, u97, u98, u99, u100, u101, u102, u103, u104, u105, u106, u107, u108, u109, u110, u111, u112, u113, u114, u115, u116, u117, u118, u119, u120, u121, u122, u123, u124, u125, u126, u127, u128, u129, u130, u131, u132, u133, u134, u135, u136, u137, u138, u139, u140, u141, u142, u143, u144, u145, u146, u147, u148, u149, u150, u151, u152, u153, u154, u155, u156, u157, u158, u159, u160, u161, u162, u163, u164, u165, u166, u167, u168, u169, u170, u171, u172, u173, u174, u175, u176, u177, u178, u179, u180, u181, u182, u183, u184, u185, u186, u187, u188, u189, u190, u191, u192, u193, u194, u195, u196, u197, u198, u199, u200, u201, undef], []⟩ wr) Q0) ⟨#[.string doc, undef, u2, .string S, (.slice A l.length c), (.int .i64 (I : Int)), u6, u7, u8, u9, u10, u11, u12, u13, u14, u15, .string doc, .string R, .string S, u19, u20, u21, u22, u23, u24, u25, u26, u27, u28, u29, u30, u31, u32, u33, u34, u35, u36, u37, u38, u39, u40, u41, u42, u43, u44, u45, u46, u47, u48, u49, u50, u51, u52, u53, u54, u55, u56, u57, u58, u59, u60, u61, u62, u63, u64, u65, u66, u67, u68, u69, u70, u71, u72, u73, u74, u75, u76, u77, u78, u79, u80, u81, u82, u83, u84, u85, u86, u87, u88, u89, u90, u91, u92, u93, u94, u95, u96, u97, u98, u99, u100, u101, u102, u103, u104, u105, u106, u107, u108, u109, u110, u111, u112, u113, u114, u115, u116, u117, u118, u119, u120, u121, u122, u123, u124, u125, u126, u127, u128, u129, u130, u131, u132, u133, u134, u135, u136, u137, u138, u139, u140, u141, u142, u143, u144, u145, u146, u147, u148, u149, u150, u151, u152, u153, u154, u155, u156, u157, u158, u159, u160, u161, u162, u163, u164, u165, u166, u167, u168, u169, u170, u171, u172, u173, u174, u175, u176, u177, u178, u179, u180, u181, u182, u183, u184, u185, u186, u187, u188, u189, u190, u191, u192, u193, u194, u195, u196, u197, u198, u199, u200, u201, undef], []⟩ wr := by
  obtain ⟨i0, hi0, hz0, hz1, hz2⟩ := info_parts rtokInfo
  have HRET := Lib.hid hret
  clear hret
  conv => arg 2; whnf
  have hll := hT.len
  have hltI : (I : Int) < (S.size : Int) := by omega
  have hbs := hK.bel.size
  have a0 := fun W => mat_any S ⟨#[60, 33, 45, 45]⟩ I W (by omega) (by decide) (by omega) (by decide)
  have a1 := fun W => mat_any S ⟨#[60, 47]⟩ I W (by omega) (by decide) (by omega) (by decide)
  have a2 := fun W => mat_any S ⟨#[60, 47, 62]⟩ I W (by omega) (by decide) (by omega) (by decide)
  have a3 := fun W => mat_any S ⟨#[60, 33]⟩ I W (by omega) (by decide) (by omega) (by decide)
  have a4 := fun W => mat_any S ⟨#[60, 63]⟩ I W (by omega) (by decide) (by omega) (by decide)
  have a5 := fun W => mat_any S ⟨#[60]⟩ I W (by omega) (by decide) (by omega) (by decide)
  have b1 := fun W => mletter_any S (I + 1) W (by omega) (by omega)
  have b2 := fun W => mletter_any S (I + 2) W (by omega) (by omega)
  rw [show ((I + 1 : Nat) : Int) = (I : Int) + 1 from by omega] at b1
  rw [show ((I + 2 : Nat) : Int) = (I : Int) + 2 from by omega] at b2
  dsimp only at a0 a1 a2 a3 a4 a5
  have HK := Lib.hid hK
  have HT := Lib.hid hT
  clear hK hT
  clear hexit
  rw [h0] at a0
  rw [h1] at a1
  rw [h2] at b2
  have hq : ([60, 47].isPrefixOf (S.data.toList.drop I) && Mk.letter ((S.data.toList.drop I).drop 2)) = false := by rw [List.drop_drop, h2, Bool.and_false]
  rw [h3] at a2
  have hp3 := pre_len h3
  simp only [List.length_cons, List.length_nil] at hp3
  have hst := step_empty h0 hq h3
  rw [List.drop_drop] at hst
  have HD := Lib.hid (HT.out.go hlt hst (j := I + 3) rfl [] rfl)
  clear h0 h1 h2 h3 hq hst
  go_wp2_with (first | (go_at_call 28; (first | with_reducible refine (a0 _).mono ?_ | with_reducible refine (a1 _).mono ?_ | with_reducible refine (a2 _).mono ?_ | with_reducible refine (a3 _).mono ?_ | with_reducible refine (a4 _).mono ?_ | with_reducible refine (a5 _).mono ?_); rintro e w' ⟨rfl, rfl⟩) | (go_at_call 30; (first | with_reducible refine (b1 _).mono ?_ | with_reducible refine (b2 _).mono ?_); rintro e w' ⟨rfl, rfl⟩))
  refine ⟨?_, by simp [RtkMu, intOf]; omega⟩
  unfold RtkWI
  refine ⟨_, _, _, _, _, _, _, _, _, _, _, _, _, _, _, _, _, _, _, _, _, _, _, _, _, _, _, _, _, _, _, _, _, _, _, _, _, _, _, _, _, _, _, _, _, _, _, _, _, _, _, _, _, _, _, _, _, _, _, _, _, _, _, _, _, _, _, _, _, _, _, _, _, _, _, _, _, _, _, _, _, _, _, _, _, _, _, _, _, _, _, _, _, _, _, _, _, _, _, _, _, _, _, _, _, _, _, _, _, _, _, _, _, _, _, _, _, _, _, _, _, _, _, _, _, _, _, _, _, _, _, _, _, _, _, _, _, _, _, _, _, _, _, _, _, _, _, _, _, _, _, _, _, _, _, _, _, _, _, _, _, _, _, _, _, _, _, _, _, _, _, _, _, _, _, _, _, _, _, _, _, _, _, _, _, _, _, _, _, _, _, _, _, _, _, _, ?_, rfl⟩
  exact ⟨I + 3, l, by go_num, by omega, HK.out, by have := HD.out; rwa [List.append_nil] at this⟩

end Go.Proofs.YtckmlbcpldpkpaaGreatDoor
