/- What the library says of FormatUint's parts, over this program. -/
import Derived.Test.YtoiednecchbmnaaGreatDoorK02
import Derived.Test.YtoiednecchbmnaaGreatDoorK03
import Derived.Test.YtoiednecchbmnaaGreatDoorK09
import Derived.Test.YtoiednecchbmnaaGreatDoorProg
import Derived.Shelf.Strconv.Itoa3
import Derived.Lib.AppendIntMem
import Derived.WalkSmall
namespace Go.Proofs
open Go.Shelf
def Tryz.lays283_ren : Go.Shelf.Ren := ⟨fun | 283 => 86 | n => n, fun | 3 => 3 | 4 => 4 | 9 => 9 | n => n, fun | n => n⟩
theorem Tryz.lays283 : Go.Proofs.Lays.n283 Tryz.prog Tryz.lays283_ren := {
  mixed := by kernel_rfl
  f283 := Tryz.func86.trans (congrArg some (by kernel_rfl))
  t3 := Tryz.underlying3
  a3 := Tryz.isAgg3
  z3 := Tryz.sizeOf3
  v3 := Tryz.zeroValue3
  t4 := Tryz.underlying4
  a4 := Tryz.isAgg4
  z4 := Tryz.sizeOf4
  v4 := Tryz.zeroValue4
  t9 := Tryz.underlying9
  a9 := Tryz.isAgg9
  z9 := Tryz.sizeOf9
  v9 := Tryz.zeroValue9 }
def Tryz.lays284_ren : Go.Shelf.Ren := ⟨fun | 129 => 115 | 284 => 87 | 317 => 114 | 318 => 116 | n => n, fun | 0 => 0 | 3 => 3 | 4 => 4 | 5 => 5 | 9 => 9 | 46 => 118 | 53 => 60 | 212 => 134 | n => n, fun | 17 => 3 | n => n⟩
theorem Tryz.lays284 : Go.Proofs.Lays.n284 Tryz.prog Tryz.lays284_ren := {
  mixed := by kernel_rfl
  f129 := Tryz.func115.trans (congrArg some (by kernel_rfl))
  f284 := Tryz.func87.trans (congrArg some (by kernel_rfl))
  f317 := Tryz.func114.trans (congrArg some (by kernel_rfl))
  f318 := Tryz.func116.trans (congrArg some (by kernel_rfl))
  t0 := Tryz.underlying0
  a0 := Tryz.isAgg0
  z0 := Tryz.sizeOf0
  v0 := Tryz.zeroValue0
  t3 := Tryz.underlying3
  a3 := Tryz.isAgg3
  z3 := Tryz.sizeOf3
  v3 := Tryz.zeroValue3
  t4 := Tryz.underlying4
  a4 := Tryz.isAgg4
  z4 := Tryz.sizeOf4
  v4 := Tryz.zeroValue4
  t5 := Tryz.underlying5
  a5 := Tryz.isAgg5
  z5 := Tryz.sizeOf5
  v5 := Tryz.zeroValue5
  t9 := Tryz.underlying9
  a9 := Tryz.isAgg9
  z9 := Tryz.sizeOf9
  v9 := Tryz.zeroValue9
  t46 := Tryz.underlying118
  a46 := Tryz.isAgg118
  z46 := Tryz.sizeOf118
  v46 := Tryz.zeroValue118
  t53 := Tryz.underlying60
  a53 := Tryz.isAgg60
  z53 := Tryz.sizeOf60
  v53 := Tryz.zeroValue60
  t212 := Tryz.underlying134
  a212 := Tryz.isAgg134
  z212 := Tryz.sizeOf134
  v212 := Tryz.zeroValue134
  g17 := by kernel_rfl }
def Tryz.lays285_ren : Go.Shelf.Ren := ⟨fun | 285 => 88 | n => n, fun | 0 => 0 | 3 => 3 | 4 => 4 | 5 => 5 | 9 => 9 | 37 => 64 | 51 => 121 | 53 => 60 | n => n, fun | n => n⟩
theorem Tryz.lays285 : Go.Proofs.Lays.n285 Tryz.prog Tryz.lays285_ren := {
  mixed := by kernel_rfl
  f285 := Tryz.func88.trans (congrArg some (by kernel_rfl))
  t0 := Tryz.underlying0
  a0 := Tryz.isAgg0
  z0 := Tryz.sizeOf0
  v0 := Tryz.zeroValue0
  t3 := Tryz.underlying3
  a3 := Tryz.isAgg3
  z3 := Tryz.sizeOf3
  v3 := Tryz.zeroValue3
  t4 := Tryz.underlying4
  a4 := Tryz.isAgg4
  z4 := Tryz.sizeOf4
  v4 := Tryz.zeroValue4
  t5 := Tryz.underlying5
  a5 := Tryz.isAgg5
  z5 := Tryz.sizeOf5
  v5 := Tryz.zeroValue5
  t9 := Tryz.underlying9
  a9 := Tryz.isAgg9
  z9 := Tryz.sizeOf9
  v9 := Tryz.zeroValue9
  t37 := Tryz.underlying64
  a37 := Tryz.isAgg64
  z37 := Tryz.sizeOf64
  v37 := Tryz.zeroValue64
  t51 := Tryz.underlying121
  a51 := Tryz.isAgg121
  z51 := Tryz.sizeOf121
  v51 := Tryz.zeroValue121
  t53 := Tryz.underlying60
  a53 := Tryz.isAgg60
  z53 := Tryz.sizeOf60
  v53 := Tryz.zeroValue60 }
theorem Tryz.laysM284 : Go.Proofs.LaysM.n284 Tryz.prog Tryz.lays284_ren := { Tryz.lays284 with
  i0 := by kernel_rfl
  i3 := by kernel_rfl
  i4 := by kernel_rfl
  i5 := by kernel_rfl
  i9 := by kernel_rfl
  i46 := by kernel_rfl
  i53 := by kernel_rfl
  i212 := by kernel_rfl
  m17 := by kernel_rfl }
end Go.Proofs
/- FormatUint at base 10, and TrimRight at one byte. -/
namespace Go.Proofs.YtoiednecchbmnaaGreatDoor
open Go Go.RowKit Go.Sort
set_option linter.unusedVariables false
def Pow (w : World) : Prop := Lib.TabIs Tryz.prog w "internal/strconv.uint64pow10" .u64 Lib.pow10Tab
set_option maxHeartbeats 6400000 in
set_option maxRecDepth 100000 in
theorem yfui_any (u : Nat) (w : World) (hu64 : u < 18446744073709551616) (ht : Pow w) :
    Calls Tryz.prog 59 #[.int .u64 u, .int .i64 10] w fun e w' => e = .returned (.string (tstr (Lib.decDigits u))) ∧ Below w.heap.size w w' := by
  by_cases hs : u < 100
  · have hc := Any.internal_strconv_small Tryz.lays283 u hs w
    have hi : (u : Int) < 100 := by omega
    go_enter Tryz.func59, Tryz.ntmps59
    go_wp2_with fail
    refine hc.mono ?_
    rintro e w' ⟨rfl, rfl⟩
    go_wp2_with fail
    go_ret
    exact ⟨rfl, Below.refl _ _⟩
  · have hu1 : 1 ≤ u := by omega
    have hi : ¬ (u : Int) < 100 := by omega
    have hnd20 : Lib.nDigits u ≤ 20 := by have := Lib.numDigits_eq u hu1 hu64; split at this <;> omega
    have hal : Tryz.prog.arrayLen 105 = 24 := by kernel_rfl
    have hel := Tryz.underlying105
    have hsl : ∀ W, (Instr.sliceAt 105 (.pointer (some ⟨w.heap.size, 0, none⟩)) none (some (.int .i64 (Lib.nDigits u : Int))) none).run Tryz.prog W = .ok (.slice (some ⟨w.heap.size, 0, none⟩) (Lib.nDigits u) 24) W := fun W => by
      rw [run_sliceAt_array_h W 105 ⟨w.heap.size, 0, none⟩ (by simp [Program.arrayLen, Program.elem, hel]) .i64 (Lib.nDigits u : Int) (by omega) (by rw [hal]; omega)]
      go_simp
    have hnum := Any.internal_strconv_numDigits Tryz.laysM284 u hu1 hu64 (w.alloc (.cells Lib.zeros24 5)) (Lib.tabIs_alloc ht _)
    have hH0 := Lib.holds_zero0 w 105 (Lib.nDigits u) (by omega)
    have hfmt := Any.internal_strconv_formatBase10 Tryz.lays285 w.heap.size 0 24 u (Array.replicate (Lib.nDigits u) 0) (w.alloc (.cells Lib.zeros24 105)) hH0 (by rw [Array.size_replicate]; exact Lib.lt_pow_nDigits u) hu64 (by rw [Array.size_replicate]; omega)
    rw [Array.size_replicate] at hfmt
    have HH0 := Lib.hid hH0
    clear hH0 hal
    go_enter Tryz.func59, Tryz.ntmps59
    go_wp2_with fail
    refine (Any.internal_strconv_numDigits Tryz.laysM284 u hu1 hu64 _ (Lib.tabIs_alloc ht _)).mono ?_
    rintro e w' ⟨rfl, rfl⟩
    go_wp2_with fail
    refine hfmt.mono ?_
    rintro e w' ⟨rfl, k, v', dk, rfl, hF⟩
    have hcv : (convert 64 9 (.slice (some ⟨w.heap.size, 0, none⟩) (Lib.nDigits u) 24)).run Tryz.prog ((putRow (fun (b : UInt8) => Value.int .u8 (b.toNat : Int)) (w.alloc (.cells Lib.zeros24 105)) w.heap.size 0 dk).drewN k) = .ok (.string ⟨(Lib.decDigits u).toArray⟩) ((putRow (fun (b : UInt8) => Value.int .u8 (b.toNat : Int)) (w.alloc (.cells Lib.zeros24 105)) w.heap.size 0 dk).drewN k) := by
      have h := run_convert_bytes_back (P := Tryz.prog) ((putRow (fun (b : UInt8) => Value.int .u8 (b.toNat : Int)) (w.alloc (.cells Lib.zeros24 105)) w.heap.size 0 dk).drewN k) 64 9 5 ⟨w.heap.size, 0, none⟩ 24 (Lib.decDigits u) Tryz.underlying64 Tryz.underlying5 Tryz.underlying9 (fun j hj => by
        rw [Lib.row_is_numeral hF j hj, Lib.add_plain, World.cell?_drewN]
        exact cell?_putRow (fun (b : UInt8) => Value.int .u8 (b.toNat : Int)) _ w.heap.size 0 _ dk HH0.out (by rw [hF.size, Array.size_replicate]) j (by rw [hF.size]; rw [Lib.decDigits_length] at hj; exact hj))
      rw [Lib.decDigits_length] at h
      exact h
    go_wp2_with fail
    go_ret
    obtain ⟨os, eo⟩ := Lib.fin_at w (.cells Lib.zeros24 105) dk k 0
    refine ⟨rfl, ?_⟩
    rw [eo]
    exact Lib.below_grow _ _ (Nat.le_refl _) _ _
set_option maxHeartbeats 400000 in
theorem yfu_any (u : Nat) (w : World) (hu64 : u < 18446744073709551616) (ht : Pow w) :
    Calls Tryz.prog 33 #[.int .u64 u, .int .i64 10] w fun e w' => e = .returned (.string (tstr (Lib.decDigits u))) ∧ Below w.heap.size w w' := by
  have hh := yfui_any u w hu64 ht
  go_enter Tryz.func33, Tryz.ntmps33
  go_wp2_with fail
  refine hh.mono ?_
  rintro e w' ⟨rfl, hb⟩
  have HB := Lib.hid hb
  clear hb hh
  go_wp2_with fail
  go_ret
  exact ⟨rfl, HB.out⟩
theorem trimZ_snoc (l : List UInt8) (c : UInt8) : St.trimZ (l ++ [c]) = if c = 48 then St.trimZ l else l ++ [c] := by
  unfold St.trimZ
  rw [List.reverse_append, List.reverse_singleton, List.singleton_append, List.dropWhile_cons]
  by_cases h : c = 48
  · rw [if_pos h, if_pos (by rw [h]; rfl)]
  · rw [if_neg h, if_neg (by simpa using h), List.reverse_cons, List.reverse_reverse]
set_option maxHeartbeats 4000000 in
theorem ytrb_any (l : List UInt8) (w : World) (hl : l.length ≤ 20000) :
    Calls Tryz.prog 60 #[.string (tstr l), .int .u8 48] w fun e w' => e = .returned (.string (tstr (St.trimZ l))) ∧ w = w' := by
  go_enter Tryz.func60, Tryz.ntmps60
  go_wp2_with fail
  go_loopg [0] (l.length) (fun gg u0 wr => ∃ m : List UInt8, u0 = .string (tstr m) ∧ m.length ≤ gg ∧ m.length ≤ 20000 ∧ St.trimZ m = St.trimZ l ∧ wr = w)
  case atStart => exact ⟨l, rfl, Nat.le_refl _, hl, rfl, rfl⟩
  case round =>
    obtain ⟨m, rfl, hgg, hml, hm, rfl⟩ := hrel
    rcases List.eq_nil_or_concat m with e | ⟨t, c, e⟩
    · subst e
      have hz : (tstr []).size = 0 := rfl
      have HM := Lib.hid hm
      clear hm
      go_wp2_with fail
      go_ret
      rw [← HM.out]
      exact ⟨rfl, rfl⟩
    · rw [List.concat_eq_append] at e
      subst e
      have hsz : (tstr (t ++ [c])).size = t.length + 1 := by rw [tsize, List.length_append]; rfl
      have hi1 : (0 : Int) < ((tstr (t ++ [c])).size : Int) := by omega
      have hi2 : 0 < (tstr (t ++ [c])).size := by omega
      have hi3 : (0 : Int) ≤ ((tstr (t ++ [c])).size : Int) - 1 := by omega
      have hlast : ∀ h, (tstr (t ++ [c]))[t.length]'h = c := fun h => by
        have h1 : (tstr (t ++ [c]))[t.length]'h = (t ++ [c])[t.length]'(by simp) := rfl
        rw [h1]; simp
      have hex : (tstr (t ++ [c])).extract 0 t.length = tstr t := by rw [textr_head, List.take_left]
      have HM := Lib.hid hm
      have hgg' : t.length + 1 ≤ gk := by simpa using hgg
      have hml' : t.length + 1 ≤ 20000 := by simpa using hml
      clear hm hgg hml
      by_cases hc : c = 48
      · subst hc
        have HN := Lib.hid (show St.trimZ t = St.trimZ l by rw [← HM.out, trimZ_snoc, if_pos rfl])
        clear HM
        go_wp2_with fail
        go_roundg (t.length)
        case rel => exact ⟨t, by first | rfl | rw [hex], Nat.le_refl _, by omega, HN.out, rfl⟩
        case measure => omega
      · have hcn : ¬ c.toNat = 48 := fun h => hc (UInt8.toNat_inj.1 h)
        have hcn2 : ¬ (c.toNat : Int) = 48 := by omega
        have HN := Lib.hid (show t ++ [c] = St.trimZ l by rw [← HM.out, trimZ_snoc, if_neg hc])
        clear HM hc
        go_wp2_with fail
        go_ret
        rw [← HN.out]
        exact ⟨rfl, rfl⟩
set_option maxHeartbeats 4000000 in
theorem ytrimr_any (l : List UInt8) (w : World) (hl : l.length ≤ 20000) :
    Calls Tryz.prog 34 #[.string (tstr l), .string ⟨#[48]⟩] w fun e w' => e = .returned (.string (tstr (St.trimZ l))) ∧ w = w' := by
  have hh := ytrb_any l w hl
  by_cases hz : l = []
  · subst hz
    have hzb : (tstr []).toList.isEmpty = true := by rw [ttl]; rfl
    go_enter Tryz.func34, Tryz.ntmps34
    go_wp2_with fail
    go_ret
    exact ⟨rfl, rfl⟩
  · have hzb : (tstr l).toList.isEmpty = false := by rw [ttl]; cases l with | nil => exact absurd rfl hz | cons a t => rfl
    have h1 : (⟨#[48]⟩ : ByteArray).size = 1 := rfl
    have h2 : (⟨#[48]⟩ : ByteArray)[0] = 48 := rfl
    clear hz
    go_enter Tryz.func34, Tryz.ntmps34
    go_wp2_with fail
    refine hh.mono ?_
    rintro e w' ⟨rfl, rfl⟩
    go_wp2_with fail
    go_ret
    exact ⟨rfl, rfl⟩
end Go.Proofs.YtoiednecchbmnaaGreatDoor
/- What FormatValue writes. -/
namespace Go.Proofs.YtoiednecchbmnaaGreatDoor
open Go Go.RowKit
set_option linter.unusedVariables false
theorem lt_of_pow {w : World} (h : Pow w) : 3 < w.heap.size := by
  have := Lib.TabIs.cell h (show Tryz.prog.globalNamed "internal/strconv.uint64pow10" = some 3 by kernel_rfl) 0 (by decide)
  exact World.block_lt_of_cell? w _ this
theorem Pow.below {w w' : World} (h : Pow w) (hb : Below w.heap.size w w') : Pow w' := var?_below hb (show Tryz.prog.globalNamed "internal/strconv.uint64pow10" = some 3 by kernel_rfl) (lt_of_pow h) h
theorem calls_castI {P : Program} {f : Nat} {k : IntKind} {x y : Int} {a : Value} {w : World} {Q : Ending → World → Prop} (h : x = y) (hc : Calls P f #[.int k y, a] w Q) : Calls P f #[.int k x, a] w Q := by rw [h]; exact hc
theorem lenD (u : Nat) (h : u < 18446744073709551616) : (Lib.decDigits u).length ≤ 20 := St.decD_len 19 u (by omega)
set_option maxHeartbeats 4000000 in
theorem yfrac_any (n : Int) (w : World) (h1 : -1048576000 ≤ n) (h2 : n ≤ 1048576000) (hP : Pow w) :
    Calls Tryz.prog 19 #[.int .i64 n] w fun e w' => e = .returned (.string (tstr (St.fmtNum n))) ∧ Below w.heap.size w w' := by
  have hfu := fun (k : Nat) (hk : k < 18446744073709551616) (w : World) (hp : Pow w) => yfu_any k w hk hp
  have HP := Lib.hid hP
  clear hP
  by_cases hn : n < 0
  · obtain ⟨u, rfl⟩ : ∃ u : Nat, n = -(u : Int) := ⟨n.natAbs, by omega⟩
    have hu : u ≤ 1048576000 := by omega
    have hu1 : 1 ≤ u := by omega
    have hlt : -(u : Int) < 0 := by omega
    have hwr : IntKind.u64.wrap (-IntKind.u64.wrap (-(u : Int))) = (u : Int) := by rw [IntKind.wrap_u64, IntKind.wrap_u64]; omega
    have HF := Lib.hid (show St.fmtNum (-(u : Int)) = 45 :: St.fracU u by unfold St.fmtNum; rw [if_pos hlt]; congr 2; omega)
    have hq : (u : Int).tdiv 1000 = ((u / 1000 : Nat) : Int) := by rw [Int.tdiv_eq_ediv_of_nonneg (by omega)]; omega
    have hr : (u : Int).tmod 1000 = ((u % 1000 : Nat) : Int) := by rw [Int.tmod_eq_emod_of_nonneg (by omega)]; omega
    have hf1 := hfu (u / 1000) (by omega)
    have hf2 := hfu (1000 + u % 1000) (by omega)
    have hl1 : (tstr (Lib.decDigits (u / 1000))).size ≤ 20 := by rw [tsize]; exact lenD _ (by omega)
    have hl2 : (tstr (Lib.decDigits (1000 + u % 1000))).size ≤ 20 := by rw [tsize]; exact lenD _ (by omega)
    have hl3 : (tstr (Lib.decDigits (1000 + u % 1000))).size = 4 := by
      have h := St.dec3 (show u % 1000 < 1000 by omega)
      obtain ⟨c, t, e, _⟩ := St.decD_cons (1000 + u % 1000)
      rw [tsize]
      rw [e] at h ⊢
      simp at h
      rw [h]
      rfl
    have hl3i : (1 : Int) ≤ ((tstr (Lib.decDigits (1000 + u % 1000))).size : Int) := by omega
    have hx : (tstr (Lib.decDigits (1000 + u % 1000))).extract 1 (tstr (Lib.decDigits (1000 + u % 1000))).size = tstr (Lib.decDigits (1000 + u % 1000)).tail := by rw [← List.drop_one]; exact textr_end _ 1
    have hx4 : (tstr (Lib.decDigits (1000 + u % 1000))).extract 1 4 = tstr (Lib.decDigits (1000 + u % 1000)).tail := by rw [← hl3]; exact hx
    have hdl : (Lib.decDigits (1000 + u % 1000)).tail.length ≤ 20000 := by rw [List.length_tail]; have := lenD (1000 + u % 1000) (by omega); omega
    have hzl : (St.trimZ (Lib.decDigits (1000 + u % 1000)).tail).length ≤ 20 := by
      unfold St.trimZ
      rw [List.length_reverse]
      refine Nat.le_trans (List.dropWhile_sublist _).length_le ?_
      rw [List.length_reverse, List.length_tail]; have := lenD (1000 + u % 1000) (by omega); omega
    clear hfu h1 h2 hx
    by_cases hm : u % 1000 = 0
    · have HU := Lib.hid (show St.fracU u = Lib.decDigits (u / 1000) by unfold St.fracU; rw [if_pos hm])
      have hmi : ((u % 1000 : Nat) : Int) = 0 := by omega
      have hmj : (u : Int) % 1000 = 0 := by omega
      go_enter Tryz.func19, Tryz.ntmps19
      go_wp2_with fail
      refine (hf1 _ HP.out).mono ?_
      rintro e w2 ⟨rfl, hb⟩
      have HB := Lib.hid hb
      clear hf1 hb
      go_wp2_with fail
      go_ret
      rw [HF.out, HU.out]
      refine ⟨?_, HB.out⟩
      rw [show (⟨#[45]⟩ : ByteArray) = tstr [45] from rfl, tapp]
      rfl
    · have HU := Lib.hid (show St.fracU u = Lib.decDigits (u / 1000) ++ 46 :: St.trimZ (Lib.decDigits (1000 + u % 1000)).tail by unfold St.fracU; rw [if_neg hm]; rw [List.drop_one])
      have hmi : ¬ ((u % 1000 : Nat) : Int) = 0 := by omega
      have hmj : ¬ (u : Int) % 1000 = 0 := by omega
      go_enter Tryz.func19, Tryz.ntmps19
      go_wp2_with fail
      refine (hf1 _ HP.out).mono ?_
      rintro e w2 ⟨rfl, hb⟩
      have HB := Lib.hid hb
      clear hf1 hb
      go_wp2_with fail
      refine (calls_castI (by omega) (hf2 _ (HP.out.below HB.out))).mono ?_
      rintro e w3 ⟨rfl, hb⟩
      have HB3 := Lib.hid (ybt HB.out hb)
      have hlz : (tstr (St.trimZ (Lib.decDigits (1000 + u % 1000)).tail)).size ≤ 20 := by rw [tsize]; exact hzl
      clear hf2 hb
      go_wp2_with fail
      have ht := ytrimr_any _ w3 hdl
      refine ht.mono ?_
      clear ht
      rintro e w4 ⟨rfl, rfl⟩
      go_wp2_with fail
      go_ret
      rw [HF.out, HU.out]
      refine ⟨?_, HB3.out⟩
      rw [show (⟨#[45]⟩ : ByteArray) = tstr [45] from rfl, show (⟨#[46]⟩ : ByteArray) = tstr [46] from rfl, tapp, tapp, tapp]
      show Ending.returned (Value.string (tstr _)) = _
      rw [List.append_assoc, List.append_assoc]
      rfl
  · obtain ⟨u, rfl⟩ : ∃ u : Nat, n = (u : Int) := ⟨n.toNat, by omega⟩
    have hu : u ≤ 1048576000 := by omega
    have hlt : ¬ (u : Int) < 0 := by omega
    have hwr : IntKind.u64.wrap (u : Int) = (u : Int) := by rw [IntKind.wrap_u64]; omega
    have HF := Lib.hid (show St.fmtNum (u : Int) = St.fracU u by unfold St.fmtNum; rw [if_neg hlt]; rfl)
    have hq : (u : Int).tdiv 1000 = ((u / 1000 : Nat) : Int) := by rw [Int.tdiv_eq_ediv_of_nonneg (by omega)]; omega
    have hr : (u : Int).tmod 1000 = ((u % 1000 : Nat) : Int) := by rw [Int.tmod_eq_emod_of_nonneg (by omega)]; omega
    have hf1 := hfu (u / 1000) (by omega)
    have hf2 := hfu (1000 + u % 1000) (by omega)
    have hl1 : (tstr (Lib.decDigits (u / 1000))).size ≤ 20 := by rw [tsize]; exact lenD _ (by omega)
    have hl2 : (tstr (Lib.decDigits (1000 + u % 1000))).size ≤ 20 := by rw [tsize]; exact lenD _ (by omega)
    have hl3 : (tstr (Lib.decDigits (1000 + u % 1000))).size = 4 := by
      have h := St.dec3 (show u % 1000 < 1000 by omega)
      obtain ⟨c, t, e, _⟩ := St.decD_cons (1000 + u % 1000)
      rw [tsize]
      rw [e] at h ⊢
      simp at h
      rw [h]
      rfl
    have hl3i : (1 : Int) ≤ ((tstr (Lib.decDigits (1000 + u % 1000))).size : Int) := by omega
    have hx : (tstr (Lib.decDigits (1000 + u % 1000))).extract 1 (tstr (Lib.decDigits (1000 + u % 1000))).size = tstr (Lib.decDigits (1000 + u % 1000)).tail := by rw [← List.drop_one]; exact textr_end _ 1
    have hx4 : (tstr (Lib.decDigits (1000 + u % 1000))).extract 1 4 = tstr (Lib.decDigits (1000 + u % 1000)).tail := by rw [← hl3]; exact hx
    have hdl : (Lib.decDigits (1000 + u % 1000)).tail.length ≤ 20000 := by rw [List.length_tail]; have := lenD (1000 + u % 1000) (by omega); omega
    have hzl : (St.trimZ (Lib.decDigits (1000 + u % 1000)).tail).length ≤ 20 := by
      unfold St.trimZ
      rw [List.length_reverse]
      refine Nat.le_trans (List.dropWhile_sublist _).length_le ?_
      rw [List.length_reverse, List.length_tail]; have := lenD (1000 + u % 1000) (by omega); omega
    clear hfu h1 h2 hx
    by_cases hm : u % 1000 = 0
    · have HU := Lib.hid (show St.fracU u = Lib.decDigits (u / 1000) by unfold St.fracU; rw [if_pos hm])
      have hmi : ((u % 1000 : Nat) : Int) = 0 := by omega
      have hmj : (u : Int) % 1000 = 0 := by omega
      go_enter Tryz.func19, Tryz.ntmps19
      go_wp2_with fail
      refine (hf1 _ HP.out).mono ?_
      rintro e w2 ⟨rfl, hb⟩
      have HB := Lib.hid hb
      clear hf1 hb
      go_wp2_with fail
      go_ret
      rw [HF.out, HU.out]
      refine ⟨?_, HB.out⟩
      rw [show (⟨#[]⟩ : ByteArray) = tstr [] from rfl, tapp]
      rfl
    · have HU := Lib.hid (show St.fracU u = Lib.decDigits (u / 1000) ++ 46 :: St.trimZ (Lib.decDigits (1000 + u % 1000)).tail by unfold St.fracU; rw [if_neg hm]; rw [List.drop_one])
      have hmi : ¬ ((u % 1000 : Nat) : Int) = 0 := by omega
      have hmj : ¬ (u : Int) % 1000 = 0 := by omega
      go_enter Tryz.func19, Tryz.ntmps19
      go_wp2_with fail
      refine (hf1 _ HP.out).mono ?_
      rintro e w2 ⟨rfl, hb⟩
      have HB := Lib.hid hb
      clear hf1 hb
      go_wp2_with fail
      refine (calls_castI (by omega) (hf2 _ (HP.out.below HB.out))).mono ?_
      rintro e w3 ⟨rfl, hb⟩
      have HB3 := Lib.hid (ybt HB.out hb)
      have hlz : (tstr (St.trimZ (Lib.decDigits (1000 + u % 1000)).tail)).size ≤ 20 := by rw [tsize]; exact hzl
      clear hf2 hb
      go_wp2_with fail
      have ht := ytrimr_any _ w3 hdl
      refine ht.mono ?_
      clear ht
      rintro e w4 ⟨rfl, rfl⟩
      go_wp2_with fail
      go_ret
      rw [HF.out, HU.out]
      refine ⟨?_, HB3.out⟩
      rw [show (⟨#[46]⟩ : ByteArray) = tstr [46] from rfl, show (⟨#[]⟩ : ByteArray) = tstr [] from rfl, tapp, tapp, tapp]
      show Ending.returned (Value.string (tstr _)) = _
      rw [List.nil_append, List.append_assoc]
      rfl
end Go.Proofs.YtoiednecchbmnaaGreatDoor
/- FormatValue. -/
namespace Go.Proofs.YtoiednecchbmnaaGreatDoor
open Go Go.RowKit
set_option linter.unusedVariables false
theorem fmtNum_len {n : Int} (h1 : -1048576000 ≤ n) (h2 : n ≤ 1048576000) : (St.fmtNum n).length ≤ 100 := by
  have hf : ∀ u : Nat, u ≤ 1048576000 → (St.fracU u).length ≤ 60 := fun u hu => by
    unfold St.fracU
    have := lenD (u / 1000) (by omega)
    have h3 := lenD (1000 + u % 1000) (by omega)
    split
    · omega
    · have h4 : (St.trimZ ((Lib.decDigits (1000 + u % 1000)).drop 1)).length ≤ 20 := by
        unfold St.trimZ
        rw [List.length_reverse]
        refine Nat.le_trans (List.dropWhile_sublist _).length_le ?_
        rw [List.length_reverse, List.length_drop]; omega
      rw [List.length_append, List.length_cons]
      omega
  have := hf n.natAbs (by omega)
  unfold St.fmtNum
  split
  · rw [List.length_cons]; omega
  · omega
set_option maxHeartbeats 4000000 in
theorem yfmt_any (k : Int) (n : Int) (x : List UInt8) (w : World) (hk : k = 2 ∨ k = 3 ∨ k = 4 ∨ k = 5) (h1 : -1048576000 ≤ n) (h2 : n ≤ 1048576000) (hP : Pow w) :
    Calls Tryz.prog 10 #[.agg #[.int .i64 k, .int .i64 n, .string (tstr x)]] w fun e w' => e = .returned (.string (tstr (St.fmt ⟨k, n, x⟩))) ∧ Below w.heap.size w w' := by
  have hA : Whole (w.alloc (.cells #[.int .i64 k, .int .i64 n, .string (tstr x)] 30)) w.heap.size #[.int .i64 k, .int .i64 n, .string (tstr x)] 30 := Whole.new _ _ _
  have hB0 : Below w.heap.size w (w.alloc (.cells #[.int .i64 k, .int .i64 n, .string (tstr x)] 30)) := (Below.refl _ _).alloc (Nat.le_refl _) _
  have hl := fmtNum_len h1 h2
  have hs : (tstr (St.fmtNum n)).size ≤ 100 := by rw [tsize]; exact hl
  rcases hk with rfl | rfl | rfl | rfl
  · obtain ⟨W1, hW1⟩ : ∃ W1, w.alloc (.cells #[.int .i64 2, .int .i64 n, .string (tstr x)] 30) = W1 := ⟨_, rfl⟩
    rw [hW1] at hA hB0
    obtain ⟨d0, d1, d2⟩ := cells3 hA
    have hf := yfrac_any n W1 h1 h2 (hP.below hB0)
    have HB := Lib.hid hB0
    have HT := Lib.hid (show St.fmt ⟨2, n, x⟩ = St.fmtNum n by rfl)
    clear hA hB0 hP h1 h2 hl
    go_enter Tryz.func10, Tryz.ntmps10
    go_wp2_with fail
    try rw [hW1]
    try go_wp2_with fail
    refine hf.mono ?_
    clear hf
    rintro e w2 ⟨rfl, hb⟩
    have HB2 := Lib.hid (HB.out.trans (hb.mono HB.out.size))
    clear hb
    go_wp2_with fail
    go_ret
    rw [HT.out]
    refine ⟨?_, HB2.out⟩
    rfl
  · obtain ⟨W1, hW1⟩ : ∃ W1, w.alloc (.cells #[.int .i64 3, .int .i64 n, .string (tstr x)] 30) = W1 := ⟨_, rfl⟩
    rw [hW1] at hA hB0
    obtain ⟨d0, d1, d2⟩ := cells3 hA
    have hf := yfrac_any n W1 h1 h2 (hP.below hB0)
    have HB := Lib.hid hB0
    have HT := Lib.hid (show St.fmt ⟨3, n, x⟩ = St.fmtNum n ++ [112, 120] by rfl)
    clear hA hB0 hP h1 h2 hl
    go_enter Tryz.func10, Tryz.ntmps10
    go_wp2_with fail
    try rw [hW1]
    try go_wp2_with fail
    refine hf.mono ?_
    clear hf
    rintro e w2 ⟨rfl, hb⟩
    have HB2 := Lib.hid (HB.out.trans (hb.mono HB.out.size))
    clear hb
    go_wp2_with fail
    go_ret
    rw [HT.out]
    refine ⟨?_, HB2.out⟩
    rw [show (⟨#[112, 120]⟩ : ByteArray) = tstr [112, 120] from rfl, tapp]
    rfl
  · obtain ⟨W1, hW1⟩ : ∃ W1, w.alloc (.cells #[.int .i64 4, .int .i64 n, .string (tstr x)] 30) = W1 := ⟨_, rfl⟩
    rw [hW1] at hA hB0
    obtain ⟨d0, d1, d2⟩ := cells3 hA
    have hf := yfrac_any n W1 h1 h2 (hP.below hB0)
    have HB := Lib.hid hB0
    have HT := Lib.hid (show St.fmt ⟨4, n, x⟩ = St.fmtNum n ++ [101, 109] by rfl)
    clear hA hB0 hP h1 h2 hl
    go_enter Tryz.func10, Tryz.ntmps10
    go_wp2_with fail
    try rw [hW1]
    try go_wp2_with fail
    refine hf.mono ?_
    clear hf
    rintro e w2 ⟨rfl, hb⟩
    have HB2 := Lib.hid (HB.out.trans (hb.mono HB.out.size))
    clear hb
    go_wp2_with fail
    go_ret
    rw [HT.out]
    refine ⟨?_, HB2.out⟩
    rw [show (⟨#[101, 109]⟩ : ByteArray) = tstr [101, 109] from rfl, tapp]
    rfl
  · obtain ⟨W1, hW1⟩ : ∃ W1, w.alloc (.cells #[.int .i64 5, .int .i64 n, .string (tstr x)] 30) = W1 := ⟨_, rfl⟩
    rw [hW1] at hA hB0
    obtain ⟨d0, d1, d2⟩ := cells3 hA
    have hf := yfrac_any n W1 h1 h2 (hP.below hB0)
    have HB := Lib.hid hB0
    have HT := Lib.hid (show St.fmt ⟨5, n, x⟩ = St.fmtNum n ++ [37] by rfl)
    clear hA hB0 hP h1 h2 hl
    go_enter Tryz.func10, Tryz.ntmps10
    go_wp2_with fail
    try rw [hW1]
    try go_wp2_with fail
    refine hf.mono ?_
    clear hf
    rintro e w2 ⟨rfl, hb⟩
    have HB2 := Lib.hid (HB.out.trans (hb.mono HB.out.size))
    clear hb
    go_wp2_with fail
    go_ret
    rw [HT.out]
    refine ⟨?_, HB2.out⟩
    rw [show (⟨#[37]⟩ : ByteArray) = tstr [37] from rfl, tapp]
    rfl
end Go.Proofs.YtoiednecchbmnaaGreatDoor
