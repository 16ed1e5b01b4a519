/- The reference's Tokens returns what the plain text says. -/
import Derived.Test.YtckmlbcpldpkpaaGreatDoorWMRSt
import Derived.Test.YtckmlbcpldpkpaaGreatDoorWMKinP
import Derived.Test.YtckmlbcpldpkpaaGreatDoorKB
import Derived.Test.YtckmlbcpldpkpaaGreatDoorKG
namespace Go.Proofs.YtckmlbcpldpkpaaGreatDoor
open Go Go.RowKit
set_option linter.unusedVariables false

/-- A row of the reference's tokens of the call's own, and their rows of attributes. -/
def RTRow (w : World) (base : Nat) (v : Value) (l : List (Mk.Tok × Value)) : Prop :=
  w.ownsRow base 33 5 v l.length (tcells l) ∧ ∀ p ∈ l, ARow 57 w base p.2 p.1.attrs
section
variable {w w' : World} {base : Nat} {v : Value} {l : List (Mk.Tok × Value)}
theorem RTRow.nil (w : World) (base : Nat) : RTRow w base (.slice none 0 0) [] := ⟨World.ownsRow_nil _ _ _ _, fun p hp => by cases hp⟩
theorem RTRow.form (h : RTRow w base v l) : ∃ A c, v = .slice A l.length c := by
  rcases h.1.2 with ⟨rfl, hn⟩ | ⟨g, cap, cur, rfl, _⟩
  · exact ⟨none, 0, by rw [hn]⟩
  · exact ⟨_, _, rfl⟩
theorem RTRow.below (h : RTRow w base v l) (hb : Below w.heap.size w w') : RTRow w' base v l := by
  refine ⟨⟨h.1.1, ?_⟩, fun p hp => (h.2 p hp).below hb⟩
  rcases h.1.2 with hn | ⟨g, cap, cur, rfl, h1, hg, rest⟩
  · exact .inl hn
  · exact .inr ⟨g, cap, cur, rfl, h1, (hb.block g (lt_of_block hg)).trans hg, rest⟩
theorem RTRow.lt (h : RTRow w base v l) (b : Nat) (hb : v.ownBlock = some b) : base ≤ b ∧ b < w.heap.size := World.ownsRow.lt h.1 b hb
theorem RTRow.at (h : RTRow w base v l) (i : Nat) (hi : i < l.length) : ∃ g c, v = .slice (some ⟨g, 0, none⟩) l.length c ∧ base ≤ g ∧ g < w.heap.size ∧
    w.cell? ⟨g, i * 5, none⟩ = some (.int .i64 l[i].1.kind) ∧ w.cell? ⟨g, i * 5 + 1, none⟩ = some (.string (tstr l[i].1.name)) ∧ w.cell? ⟨g, i * 5 + 2, none⟩ = some l[i].2 ∧ w.cell? ⟨g, i * 5 + 3, none⟩ = some (.bool l[i].1.closed) ∧ w.cell? ⟨g, i * 5 + 4, none⟩ = some (.string (tstr l[i].1.text)) := by
  have h1 := h.1
  rcases h1.2 with ⟨_, hn⟩ | ⟨g, cap, cur, rfl, hb, hg, _⟩
  · omega
  · obtain ⟨e1, e2, e3, e4, e5⟩ := tcells_get l i hi
    have hc : ∀ j u, (tcells l)[j]? = some u → w.cell? ⟨g, j, none⟩ = some u := fun j u hj => by
      have := World.ownsRow.cells (g := g) h1 rfl j u hj
      rwa [Addr.add_lit, Nat.zero_add] at this
    exact ⟨g, cap, rfl, hb, lt_of_block hg, hc _ _ e1, hc _ _ e2, hc _ _ e3, hc _ _ e4, hc _ _ e5⟩
theorem RTRow.mono {base' : Nat} (h : RTRow w base v l) (hb : base' ≤ base) : RTRow w base' v l := by
  refine ⟨⟨h.1.1, ?_⟩, fun p hp => (h.2 p hp).mono' hb⟩
  rcases h.1.2 with hn | ⟨g, cap, cur, rfl, h1, rest⟩
  · exact .inl hn
  · exact .inr ⟨g, cap, cur, rfl, Nat.le_trans hb h1, rest⟩
end
theorem rtokInfo : (Tryz.prog.info? 33).map (fun i => (i.zero, i.size, i.bytes)) = some (some (.agg #[.int .i64 0, .string ByteArray.empty, .slice none 0 0, .bool false, .string ByteArray.empty]), 5, 72) := by kernel_rfl
/-- What the loop over a document works with. -/
structure RkS (w W : World) (v : Value) (l : List (Mk.Tok × Value)) : Prop where
  row : RTRow W w.heap.size v l
  bel : Below w.heap.size w W
section
variable {w W W' W5 : World} {v v2 sl : Value} {l : List (Mk.Tok × Value)} {T : Mk.Tok} {o : Obj}
theorem RkS.below (h : RkS w W v l) (hb : Below W.heap.size W W') : RkS w W' v l := ⟨h.row.below hb, h.bel.trans (hb.mono h.bel.size)⟩
theorem RkS.alloc (h : RkS w W v l) (o : Obj) : RkS w (W.alloc o) v l := h.below ((Below.refl _ _).alloc (Nat.le_refl _) o)
theorem RkS.push (h : RkS w W v l) (ha : ARow 57 W w.heap.size sl T.attrs) (ho : W5.ownsRow w.heap.size 33 5 v2 (l.length + 1) (tcells l ++ tcells [(T, sl)])) (hg : (W.alloc o).grownBy W5 v.ownBlock) : RkS w W5 v2 (l ++ [(T, sl)]) := by
  have hb := h.bel.alloc h.bel.size o
  refine ⟨⟨by rw [List.length_append, tcells_append]; exact ho, fun p hp => ?_⟩, hb.grown hg hb.size (fun j hj => (h.row.lt j hj).1)⟩
  have hrow := World.ownsRow.alloc h.row.1 o
  rcases List.mem_append.1 hp with hp | hp
  · have h1 := (h.row.2 p hp).alloc o
    exact h1.grown hg (h1.unrow hrow (by decide))
  · obtain rfl : p = (T, sl) := by simpa using hp
    have h1 := ha.alloc o
    exact h1.grown hg (h1.unrow hrow (by decide))
end
/-- What has been told, and what is to be told. -/
def RkT (S : ByteArray) (l : List (Mk.Tok × Value)) (I : Nat) : Prop := Mk.tokens S.data.toList = l.map Prod.fst ++ Mk.tokens (S.data.toList.drop I)
theorem RkT.go {S : ByteArray} {l : List (Mk.Tok × Value)} {I j : Nat} {ts : List Mk.Tok} {r : List UInt8} (h : RkT S l I) (hI : I < S.size) (hs : Mk.step (S.data.toList.drop I) = some (ts, r)) (hr : S.data.toList.drop j = r) (l2 : List (Mk.Tok × Value)) (hl : l2.map Prod.fst = ts) : RkT S (l ++ l2) j := by
  unfold RkT at h ⊢
  have hne : S.data.toList.drop I ≠ [] := by
    rw [drop_get S I hI]; exact List.cons_ne_nil _ _
  rw [h, Mk.tokens_some hne hs, hr, List.map_append, hl, List.append_assoc]
theorem RkT.len {S : ByteArray} {l : List (Mk.Tok × Value)} {I : Nat} (h : RkT S l I) : l.length ≤ S.size := by
  have h1 := congrArg List.length h
  have h2 := Mk.tokens_len S.data.toList
  rw [List.length_append, List.length_map] at h1
  have h3 : S.data.toList.length = S.size := rfl
  omega
theorem RkT.stop {S : ByteArray} {l : List (Mk.Tok × Value)} {I : Nat} (h : RkT S l I) (hs : Mk.step (S.data.toList.drop I) = none) : l.map Prod.fst = Mk.tokens S.data.toList := by
  unfold RkT at h
  rw [h, Mk.tokens_none hs, List.append_nil]
theorem RkT.done {S : ByteArray} {l : List (Mk.Tok × Value)} {I : Nat} (h : RkT S l I) (hI : ¬ I < S.size) : l.map Prod.fst = Mk.tokens S.data.toList := by
  unfold RkT at h
  rw [h, drop_end S I hI, Mk.tokens_nil, List.append_nil]
/-- The steps, arm by arm. -/
theorem step_comment {l : List UInt8} (h : [60, 33, 45, 45].isPrefixOf l = true) : Mk.step l = some ([⟨4, [], [], false, (Mk.cut (l.drop 4) (Mk.find [45, 45, 62] (l.drop 4)) 3).1⟩], (Mk.cut (l.drop 4) (Mk.find [45, 45, 62] (l.drop 4)) 3).2) := by
  unfold Mk.step; rw [if_pos h]
theorem step_endtag {l : List UInt8} (h0 : [60, 33, 45, 45].isPrefixOf l = false) (h1 : [60, 47].isPrefixOf l = true) (h2 : Mk.letter (l.drop 2) = true) : Mk.step l = (Mk.find [62] l).map fun k => ([⟨2, Mk.name (l.drop 2), [], false, []⟩], l.drop (k + 1)) := by
  unfold Mk.step; rw [if_neg (by rw [h0]; decide), if_pos (by rw [h1, h2]; rfl)]
theorem step_empty {l : List UInt8} (h0 : [60, 33, 45, 45].isPrefixOf l = false) (h1 : ([60, 47].isPrefixOf l && Mk.letter (l.drop 2)) = false) (h2 : [60, 47, 62].isPrefixOf l = true) : Mk.step l = some ([], l.drop 3) := by
  unfold Mk.step; rw [if_neg (by rw [h0]; decide), if_neg (by rw [h1]; decide), if_pos h2]
theorem step_bogus {l : List UInt8} (h0 : [60, 33, 45, 45].isPrefixOf l = false) (h1 : ([60, 47].isPrefixOf l && Mk.letter (l.drop 2)) = false) (h2 : [60, 47, 62].isPrefixOf l = false) (h3 : ([60, 47].isPrefixOf l || [60, 33].isPrefixOf l || [60, 63].isPrefixOf l) = true) :
    Mk.step l = some ([Mk.bogus ([60, 33].isPrefixOf l) (Mk.cut (l.drop 2) (Mk.find [62] (l.drop 2)) 1).1], (Mk.cut (l.drop 2) (Mk.find [62] (l.drop 2)) 1).2) := by
  unfold Mk.step; rw [if_neg (by rw [h0]; decide), if_neg (by rw [h1]; decide), if_neg (by rw [h2]; decide), if_pos h3]
theorem step_start {l : List UInt8} (h0 : [60, 33, 45, 45].isPrefixOf l = false) (h1 : ([60, 47].isPrefixOf l && Mk.letter (l.drop 2)) = false) (h2 : [60, 47, 62].isPrefixOf l = false) (h3 : ([60, 47].isPrefixOf l || [60, 33].isPrefixOf l || [60, 63].isPrefixOf l) = false) (h4 : ([60].isPrefixOf l && Mk.letter (l.drop 1)) = true) :
    Mk.step l = (Mk.start (l.drop 1)).map fun p => (p.1 :: (Mk.after p.1 p.2).1, (Mk.after p.1 p.2).2) := by
  unfold Mk.step; rw [if_neg (by rw [h0]; decide), if_neg (by rw [h1]; decide), if_neg (by rw [h2]; decide), if_neg (by rw [h3]; decide), if_pos h4]
theorem step_text {l : List UInt8} (h0 : [60, 33, 45, 45].isPrefixOf l = false) (h1 : ([60, 47].isPrefixOf l && Mk.letter (l.drop 2)) = false) (h2 : [60, 47, 62].isPrefixOf l = false) (h3 : ([60, 47].isPrefixOf l || [60, 33].isPrefixOf l || [60, 63].isPrefixOf l) = false) (h4 : ([60].isPrefixOf l && Mk.letter (l.drop 1)) = false) :
    Mk.step l = some ([Mk.txt (Ent.decode (l.take (Mk.run (l.drop 1) + 1)))], l.drop (Mk.run (l.drop 1) + 1)) := by
  unfold Mk.step; rw [if_neg (by rw [h0]; decide), if_neg (by rw [h1]; decide), if_neg (by rw [h2]; decide), if_neg (by rw [h3]; decide), if_neg (by rw [h4]; decide)]
theorem pre_len {p : List UInt8} {S : ByteArray} {I : Nat} (h : p.isPrefixOf (S.data.toList.drop I) = true) : p.length ≤ S.size - I := by
  have := (List.isPrefixOf_iff_prefix.1 h).length_le
  rw [List.length_drop] at this
  exact this
theorem letter_lt {S : ByteArray} {I : Nat} (h : Mk.letter (S.data.toList.drop I) = true) : I < S.size := by
  apply Nat.lt_of_not_le; intro e
  rw [drop_end S I (Nat.not_lt.2 e)] at h; cases h

/-- The body of the loop of Tokens. -/
def rtkLoop : Code → Option Code
  | .loop c => some c
  | .seq a b => match rtkLoop a with
    | some c => some c
    | none => rtkLoop b
  | .block _ c => rtkLoop c
  | .scope c => rtkLoop c
  | .cond _ a b => match rtkLoop a with
    | some c => some c
    | none => rtkLoop b
  | _ => none
noncomputable def rtkBody : Code := ((Tryz.f10.body.bind rtkLoop).getD .skip)
set_option maxRecDepth 1000000 in
/-- What lies there at the beginning of a round. -/
def RtkWI (w : World) (doc R S : ByteArray) (a : Act) (w' : World) : Prop := ∃ u2 vo vi u6 u7 u8 u9 u10 u11 u12 u13 u14 u15 u19 u20 u21 u22 u23 u24 u25 u26 u27 u28 u29 u30 u31 u32 u33 u34 u35 u36 u37 u38 u39 u40 u41 u42 u43 u44 u45 u46 u47 u48 u49 u50 u51 u52 u53 u54 u55 u56 u57 u58 u59 u60 u61 u62 u63 u64 u65 u66 u67 u68 u69 u70 u71 u72 u73 u74 u75 u76 u77 u78 u79 u80 u81 u82 u83 u84 u85 u86 u87 u88 u89 u90 u91 u92 u93 u94 u95 u96 u97 u98 u99 u100 u101 u102 u103 u104 u105 u106 u107 u108 u109 u110 u111 u112 u113 u114 u115 u116 u117 u118 u119 u120 u121 u122 u123 u124 u125 u126 u127 u128 u129 u130 u131 u132 u133 u134 u135 u136 u137 u138 u139 u140 u141 u142 u143 u144 u145 u146 u147 u148 u149 u150 u151 u152 u153 u154 u155 u156 u157 u158 u159 u160 u161 u162 u163 u164 u165 u166 u167 u168 u169 u170 u171 u172 u173 u174 u175 u176 u177 u178 u179 u180 u181 u182 u183 u184 u185 u186 u187 u188 u189 u190 u191 u192 u193 u194 u195 u196 u197 u198 u199 u200 u201 : Value, (∃ (I : Nat) (l : List (Mk.Tok × Value)), vi = .int .i64 (I : Int) ∧ I ≤ S.size ∧ RkS w w' vo l ∧ RkT S l I) ∧ a = ⟨#[.string doc, undef, u2, .string S, vo, vi, u6, u7, u8, u9, u10, u11, u12, u13, u14, u15, .string doc, .string R, .string S, u19, u20, u21, u22, u23, u24, u25, u26, u27, u28, u29, u30, u31, u32, u33, u34, u35, u36, u37, u38, u39, u40, u41, u42, u43, u44, u45, u46, u47, u48, u49, u50, u51, u52, u53, u54, u55, u56, u57, u58, u59, u60, u61, u62, u63, u64, u65, u66, u67, u68, u69, u70, u71, u72, u73, u74, u75, u76, u77, u78, u79, u80, u81, u82, u83, u84, u85, u86, u87, u88, u89, u90, u91, u92, u93, u94, u95, u96, u97, u98, u99, u100, u101, u102, u103, u104, u105, u106, u107, u108, u109, u110, u111, u112, u113, u114, u115, u116, u117, u118, u119, u120, u121, u122, u123, u124, u125, u126, u127, u128, u129, u130, u131, u132, u133, u134, u135, u136, u137, u138, u139, u140, u141, u142, u143, u144, u145, u146, u147, u148, u149, u150, u151, u152, u153, u154, u155, u156, u157, u158, u159, u160, u161, u162, u163, u164, u165, u166, u167, u168, u169, u170, u171, u172, u173, u174, u175, u176, u177, u178, u179, u180, u181, u182, u183, u184, u185, u186, u187, u188, u189, u190, u191, u192, u193, u194, u195, u196, u197, u198, u199, u200, u201, undef], []⟩
set_option maxRecDepth 1000000 in
/-- What lies there behind the loop. -/
def RtkWX (w : World) (doc R S : ByteArray) (a : Act) (w' : World) : Prop := ∃ u2 vo vi u6 u7 u8 u9 u10 u11 u12 u13 u14 u15 u19 u20 u21 u22 u23 u24 u25 u26 u27 u28 u29 u30 u31 u32 u33 u34 u35 u36 u37 u38 u39 u40 u41 u42 u43 u44 u45 u46 u47 u48 u49 u50 u51 u52 u53 u54 u55 u56 u57 u58 u59 u60 u61 u62 u63 u64 u65 u66 u67 u68 u69 u70 u71 u72 u73 u74 u75 u76 u77 u78 u79 u80 u81 u82 u83 u84 u85 u86 u87 u88 u89 u90 u91 u92 u93 u94 u95 u96 u97 u98 u99 u100 u101 u102 u103 u104 u105 u106 u107 u108 u109 u110 u111 u112 u113 u114 u115 u116 u117 u118 u119 u120 u121 u122 u123 u124 u125 u126 u127 u128 u129 u130 u131 u132 u133 u134 u135 u136 u137 u138 u139 u140 u141 u142 u143 u144 u145 u146 u147 u148 u149 u150 u151 u152 u153 u154 u155 u156 u157 u158 u159 u160 u161 u162 u163 u164 u165 u166 u167 u168 u169 u170 u171 u172 u173 u174 u175 u176 u177 u178 u179 u180 u181 u182 u183 u184 u185 u186 u187 u188 u189 u190 u191 u192 u193 u194 u195 u196 u197 u198 u199 u200 u201 : Value, (∃ l : List (Mk.Tok × Value), l.map Prod.fst = Mk.tokens S.data.toList ∧ RkS w w' vo l) ∧ a = ⟨#[.string doc, undef, u2, .string S, vo, vi, u6, u7, u8, u9, u10, u11, u12, u13, u14, u15, .string doc, .string R, .string S, u19, u20, u21, u22, u23, u24, u25, u26, u27, u28, u29, u30, u31, u32, u33, u34, u35, u36, u37, u38, u39, u40, u41, u42, u43, u44, u45, u46, u47, u48, u49, u50, u51, u52, u53, u54, u55, u56, u57, u58, u59, u60, u61, u62, u63, u64, u65, u66, u67, u68, u69, u70, u71, u72, u73, u74, u75, u76, u77, u78, u79, u80, u81, u82, u83, u84, u85, u86, u87, u88, u89, u90, u91, u92, u93, u94, u95, u96, u97, u98, u99, u100, u101, u102, u103, u104, u105, u106, u107, u108, u109, u110, u111, u112, u113, u114, u115, u116, u117, u118, u119, u120, u121, u122, u123, u124, u125, u126, u127, u128, u129, u130, u131, u132, u133, u134, u135, u136, u137, u138, u139, u140, u141, u142, u143, u144, u145, u146, u147, u148, u149, u150, u151, u152, u153, u154, u155, u156, u157, u158, u159, u160, u161, u162, u163, u164, u165, u166, u167, u168, u169, u170, u171, u172, u173, u174, u175, u176, u177, u178, u179, u180, u181, u182, u183, u184, u185, u186, u187, u188, u189, u190, u191, u192, u193, u194, u195, u196, u197, u198, u199, u200, u201, undef], []⟩
def RtkMu (S : ByteArray) (a : Act) (_ : World) : Nat := S.size - (intOf (a.tmps.getD 5 undef)).toNat
/-- What a return hands back. -/
def RtkRet (w : World) (S : ByteArray) (Q0 : Exit → Act → World → Prop) : Prop := ∀ (a' : Act) (w'' : World) (v : Value) (l : List (Mk.Tok × Value)), a'.defers = [] → a'.tmps.getD 2 undef = v → l.map Prod.fst = Mk.tokens S.data.toList → RkS w w'' v l → Q0 .ret a' w''

end Go.Proofs.YtckmlbcpldpkpaaGreatDoor
