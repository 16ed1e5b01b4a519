/- The statement ArenaAt returns true: its walk. -/
import Derived.Test.YtccdhfpifohhjaaAFilL
import Derived.Deep.DeepCutAuto
namespace Go.Proofs.Ytccdhfpifohhjaa
open Go.RowKit

theorem Ar.get_set {b s h v : Int} {cs : List (Option Int)} {i : Nat} (e : Ar.has b s cs h = some i) : Ar.get b s (Ar.set b s cs h v) h = some v := by
  obtain ⟨h1, h2, u, h3⟩ := Ar.has_some e
  have hset : Ar.set b s cs h v = cs.set i (some v) := by unfold Ar.set; rw [e]
  have hh : Ar.has b s (cs.set i (some v)) h = some i := by
    unfold Ar.has
    rw [h1, if_pos (by omega), Int.toNat_natCast]
    simp [h2]
  rw [hset]
  unfold Ar.get
  rw [hh]
  simp [h2]

theorem Row.pushs {T St E' E : TypeId} {n base B len live : Nat} {w w' : World} {v v' : Value} {l ys : List Int} {F : Nat → Prop} {b s : Int} {xs : List Value} {fr : List Nat} (hA : AM T St E' n base w B b s len xs fr live F) (h : Row E base w v l F)
    (ho : w'.ownsRow base E 1 v' (l.length + ys.length) (ints l ++ ints ys)) (hg : w.grownBy w' v.ownBlock) (hf : Fresh w v v') :
    AM T St E' n base w' B b s len xs fr live F ∧ Row E base w' v' (l ++ ys) F ∧ Turns (fun k => v.ownBlock = some k) w w' := by
  have ht : Turns (fun k => v.ownBlock = some k) w w' := .of_grown hg (fun k hk => hk)
  refine ⟨hA.turns ht (fun k hk hv => h.2 k hv hk), ⟨?_, fun k hk hF => ?_⟩, ht⟩
  · rw [ints_append, List.length_append]; exact ho
  · rcases hf with e | e
    · exact h.2 k (e ▸ hk) hF
    · have h1 := e k hk
      have h2 := (hA.lt k hF).2
      omega

set_option maxRecDepth 100000 in
set_option maxHeartbeats 2000000 in
theorem at_walk (b s : Int) (A : Option Addr) (cp : Nat) (l : List Int) (h0 h1 h2 : Int) (w : World) (hb : I64 b) (hs : I64 s) (hl : Nums .i16 w A l) (hl2 : ∀ x ∈ l, -32768 ≤ x ∧ x ≤ 32767) (hh0 : I64 h0) (hh1 : I64 h1) (hh2 : I64 h2) :
    Calls Try.prog 8 #[saltV b s, .slice A l.length cp, .agg #[.int .i64 h0, .int .i64 h1, .int .i64 h2]] w fun e w' => e = .returned (.bool true) ∧ Below w.heap.size w w' := by
  obtain ⟨i0, hi0, hz0, hz1, hz2⟩ := info_parts intInfo
  obtain ⟨n, hn⟩ : ∃ n, l.length = n := ⟨_, rfl⟩
  rw [hn]
  have HN := Lib.hid hn
  clear hn
  go_enter Try.func8, Try.ntmps8
  go_wp2_with fail
  refine (aawake_any _).mono ?_
  rintro e w1 ⟨rfl, hb1⟩
  have hS1 : Whole w1 w.heap.size #[.int .i64 b, .int .i64 s] 23 := Whole.below ((Whole.new w _ _).alloc _) hb1 (by simp; omega)
  have hH1 : Whole w1 (w.heap.size + 1) #[.int .i64 h0, .int .i64 h1, .int .i64 h2] 68 := by
    have h := Whole.new (w.alloc (.cells #[.int .i64 b, .int .i64 s] 23)) #[.int .i64 h0, .int .i64 h1, .int .i64 h2] 68
    rw [World.size_alloc] at h
    exact h.below hb1 h.lt
  have c1 : w1.cell? ⟨w.heap.size, 0, none⟩ = some (.int .i64 b) := hS1.cell 0
  have c2 : w1.cell? ⟨w.heap.size, 1, none⟩ = some (.int .i64 s) := hS1.cell 1
  have hB1 : Below w.heap.size w w1 := (((Below.refl _ w).alloc (Nat.le_refl _) _).alloc (by simp) _).trans (hb1.mono (by simp; omega))
  clear hb1
  by_cases hbig : 100 < n
  · have hbig' : (100 : Int) < (n : Int) := by omega
    go_wp2_with fail
    refine (aawake_any _).mono ?_
    rintro e w2 ⟨rfl, hb2⟩
    go_wp2_with fail
    go_ret
    exact ⟨rfl, hB1.trans (hb2.mono hB1.size)⟩
  · have hbig' : ¬ (100 : Int) < (n : Int) := by omega
    have hl1 := hl.below hB1
    clear hl
    go_wp2_with fail
    have hB2 : Below w1.heap.size w1 (w1.alloc (.cells #[.int .u8 3, .int .u8 1, .int .u8 200] 5)) := (Below.refl _ w1).alloc (Nat.le_refl _) _
    have hd2 : Nums .u8 (w1.alloc (.cells #[.int .u8 3, .int .u8 1, .int .u8 200] 5)) (some ⟨w1.heap.size, 0, none⟩) [3, 1, 200] := by
      intro i x hi
      have hW := Whole.new w1 #[.int .u8 3, .int .u8 1, .int .u8 200] 5
      match i, hi with
      | 0, hi => simp at hi; subst hi; exact ⟨_, _, rfl, hW.cell 0⟩
      | 1, hi => simp at hi; subst hi; exact ⟨_, _, rfl, hW.cell 1⟩
      | 2, hi => simp at hi; subst hi; exact ⟨_, _, rfl, hW.cell 2⟩
      | i + 3, hi => simp at hi
    have hfil := filled_any b s A (some ⟨w1.heap.size, 0, none⟩) cp 3 l [3, 1, 200] _ hb hs (hl1.below hB2) hd2 (by rw [HN.out]; omega) (by simp) hl2 (by intro x hx; simp at hx; omega)
    rw [HN.out] at hfil
    have hH2 := (hH1.below hB2 hH1.lt)
    obtain ⟨w2, hw2⟩ : ∃ w2, w1.alloc (.cells #[.int .u8 3, .int .u8 1, .int .u8 200] 5) = w2 := ⟨_, rfl⟩
    rw [hw2] at hfil hB2 hH2 ⊢
    have hB12 : Below w.heap.size w w2 := hB1.trans (hB2.mono hB1.size)
    have hok0 : Ar.Ok (l.map some) [] := ⟨List.nodup_nil, fun _ h => by simp at h⟩
    have hfok := Ar.filAt_ok n [3, 1, 200] (l.map some, []) hok0
    rw [List.length_map, HN.out] at hfok
    clear hl1 hd2 hw2 hB2 hB1 hok0 hS1 hH1 c1 c2
    refine hfil.mono ?_
    rintro e w3 ⟨vs, vf, vg, rfl, hF, hb3⟩
    obtain ⟨cs, hcs⟩ : ∃ cs, (Ar.filAt n [3, 1, 200] (l.map some, [])).1 = cs := ⟨_, rfl⟩
    obtain ⟨fr, hfr⟩ : ∃ fr, (Ar.filAt n [3, 1, 200] (l.map some, [])).2 = fr := ⟨_, rfl⟩
    rw [hcs, hfr] at hF hfok
    rw [hcs]
    obtain ⟨A1, k1, A2, k2, Ag, cg, rfl, rfl, rfl⟩ := hF.slices
    obtain ⟨hA4, hR4⟩ := hF.laid hb3.size
    have hb4 : Below w2.heap.size w2 _ := hb3.alloc hb3.size (.cells #[.int .i64 b, .int .i64 s, .slice A1 cs.length k1, .slice A2 fr.length k2, .int .i64 (Ar.live cs : Nat)] 29)
    obtain ⟨w4, hw4⟩ : ∃ w4, w3.alloc (.cells #[.int .i64 b, .int .i64 s, .slice A1 cs.length k1, .slice A2 fr.length k2, .int .i64 (Ar.live cs : Nat)] 29) = w4 := ⟨_, rfl⟩
    rw [hw4] at hA4 hR4 hb4
    have HFO := Lib.hid hfok
    have hH4 := hH2.below hb4 hH2.lt
    have y0 : w4.cell? ⟨w.heap.size + 1, 0, none⟩ = some (.int .i64 h0) := hH4.cell 0
    have y1 : w4.cell? ⟨w.heap.size + 1, 1, none⟩ = some (.int .i64 h1) := hH4.cell 1
    have y2 : w4.cell? ⟨w.heap.size + 1, 2, none⟩ = some (.int .i64 h2) := hH4.cell 2
    have HA4 := Lib.hid hA4
    have HR4 := Lib.hid hR4
    have HB4 := Lib.hid hb4
    have hlen : cs.length ≤ 100 ∧ fr.length ≤ 100 := by have := hfok.1.len; omega
    have s5 : (w4.alloc (.cells #[.int .i64 h0, .int .i64 h1, .int .i64 h2, .int .i64 0, .int .i64 (-1)] 3)).ownsRow 0 3 1 (.slice (some ⟨w4.heap.size, 0, none⟩) 5 5) 5 (ints [h0, h1, h2, 0, -1]) := World.ownsRow_lit (base := 0) (e := 3) (size := 1) w4 #[.int .i64 h0, .int .i64 h1, .int .i64 h2, .int .i64 0, .int .i64 (-1)] 5 (by simp) (by unfold maxLen; omega) rfl
    have hb5 := (Below.refl _ w4).alloc (Nat.le_refl _) (.cells #[.int .i64 h0, .int .i64 h1, .int .i64 h2, .int .i64 0, .int .i64 (-1)] 3)
    have hA5 := hA4.below hb5
    have hR5 := hR4.below hb5
    have hB5 := hb4.trans (hb5.mono hb4.size)
    obtain ⟨w5, hw5⟩ : ∃ w5, w4.alloc (.cells #[.int .i64 h0, .int .i64 h1, .int .i64 h2, .int .i64 0, .int .i64 (-1)] 3) = w5 := ⟨_, rfl⟩
    rw [hw5] at s5 hA5 hR5 hB5
    have hbs5 := hB5.size
    have HA5 := Lib.hid hA5
    have HR5 := Lib.hid hR5
    have HO5 := Lib.hid hR5.1
    have HB5 := Lib.hid hB5
    have HS5 := Lib.hid s5
    clear hA4 hR4 hF hfil hb4 hb3 hH2 hcs hfr hH4 hfok HA4 HR4 HB4 s5 hA5 hR5 hB5 hb5
    go_wp2_with (at_builtin; refine wpList_append_src rfl _ _ 27 rfl w2.heap.size 0 3 i0 (.int .i64 0) 1 8 Try.underlying27 hi0 hz0 hz1 hz2 rfl (by decide) _ (Ar.tab n fun j => Ar.hdl b s j).length (ints (Ar.tab n fun j => Ar.hdl b s j)) rfl HO5.out _ 5 (ints [h0, h1, h2, 0, -1]) rfl HS5.out (ints_one _) ?c3 ?c4 hbs5 ?_)
    case c3 => rw [Ar.tab_len]; unfold maxLen; omega
    case c4 => rw [Ar.tab_len]; omega
    intro v6 w6 o6 g6 f6
    obtain ⟨hA6, hR6, ht6⟩ := HR5.out.pushs (ys := [h0, h1, h2, 0, -1]) HA5.out o6 g6 f6
    have hB6 : Below w2.heap.size w2 w6 := HB5.out.trans (ht6.below hbs5 fun j hj => (HO5.out.lt j hj).1)
    have hgi : ∀ x ∈ (Ar.tab n fun j => Ar.hdl b s j) ++ [h0, h1, h2, 0, -1], I64 x := by
      intro x hx
      rcases List.mem_append.1 hx with hx | hx
      · obtain ⟨j, hj, rfl⟩ := List.mem_map.1 hx
        exact hdl_i64 b s j (by have := List.mem_range.1 hj; omega)
      · simp at hx
        rcases hx with rfl | rfl | rfl | rfl | rfl
        · exact hh0
        · exact hh1
        · exact hh2
        · constructor <;> omega
        · constructor <;> omega
    have hgl : ((Ar.tab n fun j => Ar.hdl b s j) ++ [h0, h1, h2, 0, -1]).length = n + 5 := by rw [List.length_append, Ar.tab_len]; rfl
    obtain ⟨gl, hgle⟩ : ∃ gl, (Ar.tab n fun j => Ar.hdl b s j) ++ [h0, h1, h2, 0, -1] = gl := ⟨_, rfl⟩
    rw [hgle] at hR6 hgi hgl
    obtain ⟨N, hN⟩ : ∃ N, gl.length = N := ⟨_, rfl⟩
    have hNb : N ≤ 105 := by omega
    obtain ⟨A6, c6, rfl⟩ := hR6.slice
    rw [hN] at hR6 ⊢
    have HN6 := Lib.hid hN
    have HA6 := Lib.hid hA6
    have HR6 := Lib.hid hR6
    have HB6 := Lib.hid hB6
    clear hA6 hR6 hB6 o6 g6 f6 ht6 HA5 HR5 HO5 HB5 HS5 hw5 y0 y1 y2 hgl hgle hN
    go_wp2_with fail
    obtain ⟨B, hBB⟩ : ∃ B, w3.heap.size = B := ⟨_, rfl⟩
    obtain ⟨F, hF⟩ : ∃ F, Foot w3.heap.size (.slice A1 cs.length k1) (.slice A2 fr.length k2) = F := ⟨_, rfl⟩
    have hA6 := HA6.out
    have hR6 := HR6.out
    rw [hF] at hA6 hR6
    rw [hBB] at hA6 ⊢
    have HA := Lib.hid hA6
    have HR := Lib.hid hR6
    clear HA6 HR6 hF hBB hA6 hR6 hw4
    go_loopw [41] (fun i wr => ∃ (k : Nat) (cs : List (Option Int)), k ≤ N ∧ i = .int .i64 k ∧ AI w2.heap.size wr B b s cs fr F ∧ Row 3 w2.heap.size wr (.slice A6 N c6) gl F ∧ cs.length ≤ 100 ∧ Below w2.heap.size w2 wr) (fun i _ => N - (intOf i).toNat)
    case atStart => exact ⟨0, cs, Nat.zero_le _, rfl, HA.out, HR.out, hlen.1, HB6.out⟩
    case round =>
      clear HFO hlen HA HR HB6
      obtain ⟨k, cs, hk, rfl, hA, hR, hcl, hbel⟩ := hrel
      by_cases hlt : k < N
      · obtain ⟨h, hx⟩ : ∃ h, gl[k]? = some h := ⟨_, List.getElem?_eq_getElem (by rw [HN6.out]; exact hlt)⟩
        have hhi := hgi h (List.mem_of_getElem? hx)
        obtain ⟨gg, hgg, hc⟩ := hR.cell hx
        subst hgg
        have q0 : (0 : Int) ≤ (k : Int) := by omega
        have q1 : (k : Int) < (N : Int) := by omega
        obtain ⟨Aa, ca, Ab, cb, hM, hFe⟩ := hA.opened (by decide) (by decide) (by decide)
        have hMv : AMv 29 57 3 2 w2.heap.size wr B b s (.slice Aa cs.length ca) cs.length (Ar.rows Ar.slot cs) (.slice Ab fr.length cb) fr (Ar.live cs) := hM
        have HM := Lib.hid hMv
        have HR := Lib.hid hR
        have HX := Lib.hid hx
        have HB := Lib.hid hbel
        have hbs := hbel.size
        have HF := Lib.hid hFe
        clear hA hR hx hM hMv hbel hFe
        go_wp2_with fail
        refine (aat_anyI w2.heap.size B b s h (Ar.live cs) cs fr _ _ wr HM.out hhi (by omega)).mono ?_
        rintro e w7 ⟨rfl, hb7⟩
        have hM7 := HM.out.below hb7
        have hR7 := HR.out.below hb7
        have hc7 := acell hc hb7
        have hB7 := HB.out.trans (hb7.mono hbs)
        have HM7 := Lib.hid hM7
        have HR7 := Lib.hid hR7
        have HB7 := Lib.hid hB7
        have hbs7 := hB7.size
        clear hM7 hR7 hB7 hb7 hc HM HR HB
        rcases hasI_cases b s cs h with ⟨i, e1, _, e3⟩ | ⟨e1, _⟩
        · rw [e1]
          obtain ⟨x, hgx, hcx⟩ := Ar.get_of_has e1
          obtain ⟨g, hgA, hgB, hcell⟩ := HM7.out.slot (by omega)
          subst hgA
          have hpt : slotPtr 2 (.slice (some ⟨g, 0, none⟩) cs.length ca) (some i) = some ⟨g, i * 2 + 1, none⟩ := rfl
          have t1 : w7.cell? ⟨g, i * 2 + 1, none⟩ = some (.int .i64 x) := by rw [(hcell (i * 2 + 1) (by omega)).1]; exact (Ar.rows_get slotLenI hcx (by omega : 1 < 2)).trans rfl
          rw [hpt]
          have HE := Lib.hid e1
          have HG := Lib.hid hgx
          have HC := Lib.hid hcx
          clear hpt hcell e1 hgx hcx
          go_wp2_with fail
          refine (aget_any w2.heap.size B b s h cs fr _ w7 HM7.out.am hhi (by omega)).mono ?_
          rintro e w8 ⟨rfl, hb8⟩
          rw [HG.out]
          have hM8 := HM7.out.below hb8
          have hR8 := HR7.out.below hb8
          have hc8 := acell hc7 hb8
          have hB8 := HB7.out.trans (hb8.mono hbs7)
          have t2 := acell t1 hb8
          obtain ⟨g', hgA', _, hcell⟩ := hM8.slot (by omega)
          have e9 : g = g' := by injection hgA' with h1; injection h1
          subst e9
          have f2 := (hcell (i * 2 + 1) (by omega)).2
          have hput := AI.put (v := 1000 + (k : Int)) hM8 HE.out
          obtain ⟨w9, hw9⟩ : ∃ w9, w8.setCell ⟨g, i * 2 + 1, none⟩ (.int .i64 (1000 + (k : Int))) = w9 := ⟨_, rfl⟩
          rw [hw9] at hput
          obtain ⟨hA9, st9⟩ := hput
          rw [← HF.out] at hA9 st9
          have hR9 := hR8.step st9
          have hc9 := hR9.cell' HX.out
          have hB9 := hB8.trans (st9.1.below hB8.size fun j hj => (hA9.lt j hj).1)
          have hbs9 := hB9.size
          have hgs := Ar.get_set (v := 1000 + (k : Int)) HE.out
          have hsl := Ar.set_len b s h (1000 + (k : Int)) cs
          have HA9 := Lib.hid hA9
          have HR9 := Lib.hid hR9
          have HB9 := Lib.hid hB9
          have HGS := Lib.hid hgs
          have HSL := Lib.hid hsl
          clear hA9 hR9 hB9 hM8 hR8 hB8 hcell hgA' hc7 hb8 st9 hgs hsl
          go_wp2_with fail
          refine (aget_any w2.heap.size B b s h _ fr F w9 HA9.out hhi (by rw [HSL.out]; omega)).mono ?_
          rintro e w10 ⟨rfl, hb10⟩
          rw [HGS.out]
          have hA10 := HA9.out.below hb10
          have hR10 := HR9.out.below hb10
          have hB10 := HB9.out.trans (hb10.mono hbs9)
          have HA10 := Lib.hid hA10
          have HR10 := Lib.hid hR10
          clear hA10 hR10
          go_wp2_with fail
          go_roundw
          case rel => exact ⟨k + 1, _, by omega, by go_num, HA10.out, HR10.out, by rw [HSL.out]; omega, hB10⟩
          case measure => simp [intOf]; omega
        · rw [e1]
          have hgx := Ar.get_of_none e1
          have hpt : slotPtr 2 (.slice Aa cs.length ca) none = none := rfl
          rw [hpt]
          have HG := Lib.hid hgx
          clear hpt e1 hgx
          go_wp2_with fail
          refine (aget_any w2.heap.size B b s h cs fr _ w7 HM7.out.am hhi (by omega)).mono ?_
          rintro e w8 ⟨rfl, hb8⟩
          rw [HG.out]
          have hM8 := HM7.out.below hb8
          have hR8 := HR7.out.below hb8
          have hB8 := HB7.out.trans (hb8.mono hbs7)
          have HA8 := Lib.hid hM8.am
          have HR8 := Lib.hid hR8
          clear hM8 hR8
          go_wp2_with fail
          go_roundw
          case rel => exact ⟨k + 1, cs, by omega, by go_num, by rw [HF.out]; exact HA8.out, HR8.out, hcl, hB8⟩
          case measure => simp [intOf]; omega
      · go_wp2_with fail
        go_ret
        exact ⟨rfl, hB12.trans (hbel.mono hB12.size)⟩
end Go.Proofs.Ytccdhfpifohhjaa
