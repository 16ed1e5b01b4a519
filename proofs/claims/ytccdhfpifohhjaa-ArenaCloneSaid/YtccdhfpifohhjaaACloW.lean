/- The statement ArenaClone returns true: its walk. -/
import Derived.Test.YtccdhfpifohhjaaAClo
import Derived.Test.YtccdhfpifohhjaaAFilL
import Derived.Test.YtccdhfpifohhjaaASlSt
import Derived.Deep.DeepCutAuto
namespace Go.Proofs.Ytccdhfpifohhjaa
open Go.RowKit

theorem whole_next (w : World) (c d : Array Value) (t u : TypeId) : Whole ((w.alloc (.cells c t)).alloc (.cells d u)) (w.heap.size + 1) d u := by
  have h := Whole.new (w.alloc (.cells c t)) d u
  rw [World.size_alloc] at h
  exact h

theorem own_same {w w' : World} {base size n : Nat} {e : TypeId} {v : Value} {xs : List Value} (h : w.ownsRow base e size v n xs) (hs : ∀ k, v.ownBlock = some k → w'.heap[k]? = w.heap[k]?) : w'.ownsRow base e size v n xs := by
  refine ⟨h.1, ?_⟩
  rcases h.2 with hv | ⟨g, cap, cur, rfl, hb, hg, hr⟩
  · exact .inl hv
  · exact .inr ⟨g, cap, cur, rfl, hb, (hs g (by simp [Value.ownBlock])).trans hg, hr⟩

set_option maxRecDepth 100000 in
set_option maxHeartbeats 4000000 in
theorem clone_walk (b s : Int) (A D : Option Addr) (cp dp : Nat) (l ds : List Int) (w : World) (hb : I64 b) (hs : I64 s) (hl : Nums .i16 w A l) (hd : Nums .u8 w D ds) (hl2 : ∀ x ∈ l, -32768 ≤ x ∧ x ≤ 32767) (hd2 : ∀ x ∈ ds, 0 ≤ x ∧ x ≤ 255) :
    Calls Try.prog 7 #[saltV b s, .slice A l.length cp, .slice D ds.length dp] w fun e w' => e = .returned (.bool true) ∧ Below w.heap.size w w' := by
  obtain ⟨n, hn⟩ : ∃ n, l.length = n := ⟨_, rfl⟩
  obtain ⟨q, hq⟩ : ∃ q, ds.length = q := ⟨_, rfl⟩
  rw [hn, hq]
  have HN := Lib.hid hn
  have HQ := Lib.hid hq
  clear hn hq
  go_enter Try.func7, Try.ntmps7
  go_wp2_with fail
  refine (aawake_any _).mono ?_
  rintro e w1 ⟨rfl, hb1⟩
  have hS1 : Whole w1 w.heap.size #[.int .i64 b, .int .i64 s] 23 := Whole.below (Whole.new w _ _) hb1 (by simp)
  have c1 : w1.cell? ⟨w.heap.size, 0, none⟩ = some (.int .i64 b) := hS1.cell 0
  have c2 : w1.cell? ⟨w.heap.size, 1, none⟩ = some (.int .i64 s) := hS1.cell 1
  have hB1 : Below w.heap.size w w1 := ((Below.refl _ w).alloc (Nat.le_refl _) _).trans (hb1.mono (by simp))
  clear hb1
  by_cases hbig : 100 < n ∨ 100 < q
  · rcases hbig with h | h
    · have hbig' : (100 : Int) < (n : Int) := by omega
      go_wp2_with fail
      refine (aawake_any _).mono ?_
      rintro e w2 ⟨rfl, hb2⟩
      go_wp2_with fail
      go_ret
      exact ⟨rfl, abelow_trans hB1 hb2⟩
    · by_cases hbig1 : (100 : Int) < (n : Int)
      · go_wp2_with fail
        refine (aawake_any _).mono ?_
        rintro e w2 ⟨rfl, hb2⟩
        go_wp2_with fail
        go_ret
        exact ⟨rfl, abelow_trans hB1 hb2⟩
      · have hbig' : (100 : Int) < (q : Int) := by omega
        go_wp2_with fail
        refine (aawake_any _).mono ?_
        rintro e w2 ⟨rfl, hb2⟩
        go_wp2_with fail
        go_ret
        exact ⟨rfl, abelow_trans hB1 hb2⟩
  · have hbig1 : ¬ (100 : Int) < (n : Int) := by omega
    have hbig2 : ¬ (100 : Int) < (q : Int) := by omega
    have hl1 := hl.below hB1
    have hd1 := hd.below hB1
    have HFIL := Lib.hid (fun (w : World) (h1 : Nums .i16 w A l) (h2 : Nums .u8 w D ds) => filled_any b s A D cp dp l ds w hb hs h1 h2 (by rw [HN.out]; omega) (by rw [HQ.out]; omega) hl2 hd2)
    have HOK := Lib.hid (Ar.filAt_ok n ds (l.map some, []) ⟨List.nodup_nil, fun _ h => by simp at h⟩)
    have HS1 := Lib.hid hS1
    have HL1 := Lib.hid hl1
    have HD1 := Lib.hid hd1
    clear hl hd hl1 hd1
    go_wp2_with fail
    have hfil := HFIL.out w1 HL1.out HD1.out
    rw [HN.out, HQ.out] at hfil
    refine hfil.mono ?_
    rintro e w3 ⟨vs, vf, vg, rfl, hF, hb3⟩
    obtain ⟨cs, hcs⟩ : ∃ cs, (Ar.filAt n ds (l.map some, [])).1 = cs := ⟨_, rfl⟩
    obtain ⟨fr, hfr⟩ : ∃ fr, (Ar.filAt n ds (l.map some, [])).2 = fr := ⟨_, rfl⟩
    have hfok := HOK.out
    rw [hcs, hfr, List.length_map, HN.out] at hfok
    rw [hcs, hfr] at hF
    rw [hcs]
    have hfl := hfok.1.len
    obtain ⟨A1, k1, A2, k2, Ag, cg, rfl, rfl, rfl⟩ := hF.slices
    obtain ⟨hA4, hR4⟩ := hF.laid hb3.size
    have hb4 : Below w1.heap.size w1 _ := hb3.alloc hb3.size (.cells #[.int .i64 b, .int .i64 s, .slice A1 cs.length k1, .slice A2 fr.length k2, .int .i64 (Ar.live cs : Nat)] 29)
    have hs3 := hb3.size
    have hlen : cs.length ≤ 100 ∧ fr.length ≤ 100 := by omega
    have HFO := Lib.hid hfok
    have HCS := Lib.hid hcs
    have HFR := Lib.hid hfr
    clear hfok hcs hfr hF hfil hb3 hfl
    obtain ⟨w4, hw4⟩ : ∃ w4, w3.alloc (.cells #[.int .i64 b, .int .i64 s, .slice A1 cs.length k1, .slice A2 fr.length k2, .int .i64 (Ar.live cs : Nat)] 29) = w4 := ⟨_, rfl⟩
    rw [hw4] at hA4 hR4 hb4
    have hs4 := hb4.size
    have HA4 := Lib.hid hA4
    have HR4 := Lib.hid hR4
    have HB4 := Lib.hid hb4
    clear hA4 hR4 hb4 hS1
    go_wp2_with fail
    refine (aclone_any w1.heap.size w3.heap.size b s cs fr _ w4 HA4.out (by omega) (by omega)).mono ?_
    rintro e w5 ⟨vs5, vf5, rfl, o5, u5, hb5⟩
    obtain ⟨A5, k5, rfl⟩ := own_slice (own_zero o5)
    obtain ⟨E5, e5, rfl⟩ := own_slice (own_zero u5)
    have HA5 := Lib.hid (HA4.out.below hb5)
    have HR5 := Lib.hid (HR4.out.below hb5)
    have HB5 := Lib.hid (HB4.out.trans (hb5.mono hs4))
    have hs5 := HB5.out.size
    have HO5 := Lib.hid o5
    have HU5 := Lib.hid u5
    clear o5 u5 hw4
    go_wp2_with fail
    refine (aclone_any w1.heap.size w3.heap.size b s cs fr _ w5 HA5.out (by omega) (by omega)).mono ?_
    rintro e w6 ⟨vs6, vf6, rfl, o6, u6, hb6⟩
    obtain ⟨A6, k6, rfl⟩ := own_slice (own_zero o6)
    obtain ⟨E6, e6, rfl⟩ := own_slice (own_zero u6)
    have HA6 := Lib.hid (HA5.out.below hb6)
    have HR6 := Lib.hid (HR5.out.below hb6)
    have HB6 := Lib.hid (HB5.out.trans (hb6.mono hs5))
    have hs6 := HB6.out.size
    have HO6 := Lib.hid o6
    have HU6 := Lib.hid u6
    have HO5' := Lib.hid (own_turns (S := fun _ => False) HO5.out (.of_below hb6) (fun _ _ => id))
    have HU5' := Lib.hid (own_turns (S := fun _ => False) HU5.out (.of_below hb6) (fun _ _ => id))
    have hF4 : ∀ k, Foot w3.heap.size (.slice A1 cs.length k1) (.slice A2 fr.length k2) k → k < w4.heap.size := fun k hk => (HA4.out.lt k hk).2
    clear o6 u6 HR4 HB4 HA5 HR5 HO5 HU5
    have hb8 : Below w6.heap.size w6 ((w6.alloc (.cells #[.int .i64 b, .int .i64 s, .slice A5 cs.length k5, .slice E5 fr.length e5, .int .i64 (Ar.live cs : Nat)] 29)).alloc (.cells #[.int .i64 b, .int .i64 s, .slice A6 cs.length k6, .slice E6 fr.length e6, .int .i64 (Ar.live cs : Nat)] 29)) := ((Below.refl _ w6).alloc (Nat.le_refl _) _).alloc (by simp) _
    have hWb : Whole ((w6.alloc (.cells #[.int .i64 b, .int .i64 s, .slice A5 cs.length k5, .slice E5 fr.length e5, .int .i64 (Ar.live cs : Nat)] 29)).alloc (.cells #[.int .i64 b, .int .i64 s, .slice A6 cs.length k6, .slice E6 fr.length e6, .int .i64 (Ar.live cs : Nat)] 29)) w6.heap.size _ _ := (Whole.new w6 _ _).alloc _
    have hWc : Whole ((w6.alloc (.cells #[.int .i64 b, .int .i64 s, .slice A5 cs.length k5, .slice E5 fr.length e5, .int .i64 (Ar.live cs : Nat)] 29)).alloc (.cells #[.int .i64 b, .int .i64 s, .slice A6 cs.length k6, .slice E6 fr.length e6, .int .i64 (Ar.live cs : Nat)] 29)) (w6.heap.size + 1) _ _ := whole_next w6 _ _ _ _
    have hA8 := HA6.out.below hb8
    have hR8 := HR6.out.below hb8
    have hB8 := HB6.out.trans (hb8.mono hs6)
    have hO8 := own_turns (S := fun _ => False) HO6.out (.of_below hb8) (fun _ _ => id)
    have hU8 := own_turns (S := fun _ => False) HU6.out (.of_below hb8) (fun _ _ => id)
    have hO8' := own_turns (S := fun _ => False) HO5'.out (.of_below hb8) (fun _ _ => id)
    have hU8' := own_turns (S := fun _ => False) HU5'.out (.of_below hb8) (fun _ _ => id)
    have hsz8 : ((w6.alloc (.cells #[.int .i64 b, .int .i64 s, .slice A5 cs.length k5, .slice E5 fr.length e5, .int .i64 (Ar.live cs : Nat)] 29)).alloc (.cells #[.int .i64 b, .int .i64 s, .slice A6 cs.length k6, .slice E6 fr.length e6, .int .i64 (Ar.live cs : Nat)] 29)).heap.size = w6.heap.size + 2 := by simp
    have hs45 := hb5.size
    have hs56 := hb6.size
    go_wp2_with fail
    obtain ⟨w8, hw8⟩ : ∃ w8, (w6.alloc (.cells #[.int .i64 b, .int .i64 s, .slice A5 cs.length k5, .slice E5 fr.length e5, .int .i64 (Ar.live cs : Nat)] 29)).alloc (.cells #[.int .i64 b, .int .i64 s, .slice A6 cs.length k6, .slice E6 fr.length e6, .int .i64 (Ar.live cs : Nat)] 29) = w8 := ⟨_, rfl⟩
    rw [hw8] at hb8 hWb hWc hA8 hR8 hB8 hO8 hU8 hO8' hU8' hsz8 ⊢
    obtain ⟨Bb, hBb⟩ : ∃ Bb, w6.heap.size = Bb := ⟨_, rfl⟩
    obtain ⟨B, hBB⟩ : ∃ B, w3.heap.size = B := ⟨_, rfl⟩
    obtain ⟨F, hFe⟩ : ∃ F, Foot w3.heap.size (.slice A1 cs.length k1) (.slice A2 fr.length k2) = F := ⟨_, rfl⟩
    rw [hFe] at hF4 hA8 hR8
    rw [hBb] at hWb hWc hsz8 hs56 ⊢
    rw [hBB] at hA8 ⊢
    have hGF : ∀ k, w4.heap.size ≤ k → k < w8.heap.size → ¬ F k := fun k h1 _ h2 => by have := hF4 k h2; omega
    have h4b : w4.heap.size ≤ Bb := by omega
    have HA8 := Lib.hid hA8
    have HR8 := Lib.hid hR8
    have HB8 := Lib.hid hB8
    have HGF := Lib.hid hGF
    have HZ := Lib.hid hsz8
    have HWb := Lib.hid hWb
    have HWc := Lib.hid hWc
    have HO8 := Lib.hid hO8
    have HU8 := Lib.hid hU8
    have HO8' := Lib.hid hO8'
    have HU8' := Lib.hid hU8'
    clear hA8 hR8 hB8 hGF hsz8 hWb hWc hO8 hU8 hO8' hU8' hw8 hb8 hBb hBB hFe hF4 HA6 HR6 HB6 HO6 HU6 HO5' HU5' HA4 hb5 hb6
    go_loopw [41] (fun i wr => ∃ (k : Nat) (ct : List (Option Int)) (ft : List Nat) (F : Nat → Prop), k ≤ n ∧ i = .int .i64 k ∧ AI w1.heap.size wr B b s ct ft F ∧ Row 3 w1.heap.size wr (.slice Ag n cg) (Ar.tab n fun j => Ar.hdl b s j) F ∧ Ar.Ok ct ft ∧ ct.length ≤ 100 ∧ (∀ k, w4.heap.size ≤ k → k < w8.heap.size → ¬ F k) ∧ (∀ k, w4.heap.size ≤ k → k < w8.heap.size → wr.heap[k]? = w8.heap[k]?) ∧ w8.heap.size ≤ wr.heap.size ∧ Below w1.heap.size w1 wr) (fun i _ => n - (intOf i).toNat)
    case atStart => exact ⟨0, cs, fr, F, Nat.zero_le _, rfl, HA8.out, HR8.out, HFO.out.1, hlen.1, HGF.out, fun _ _ _ => rfl, Nat.le_refl _, HB8.out⟩
    case round =>
      clear HA8 HR8 HB8 HGF
      obtain ⟨k, ct, ft, F, hk, rfl, hA, hR, hok, hcl, hGF, hsame, hz8, hbel⟩ := hrel
      by_cases hlt : k < n
      · obtain ⟨gg, hgg, hc⟩ := hR.cell (Ar.tab_get (f := fun j => Ar.hdl b s j) hlt)
        subst hgg
        have hji := hdl_i64 b s k (by omega)
        have q0 : (0 : Int) ≤ (k : Int) := by omega
        have q1 : (k : Int) < (n : Int) := by omega
        have hbs := hbel.size
        have HA := Lib.hid hA
        have HR := Lib.hid hR
        have HB := Lib.hid hbel
        have HG := Lib.hid hGF
        have HSM := Lib.hid hsame
        clear hA hR hbel hGF hsame
        by_cases hev : (k : Int) % 2 = 0
        · have hev' : (k : Int).tmod 2 = 0 := by rw [Int.tmod_eq_emod_of_nonneg q0]; exact hev
          go_wp2_with fail
          refine (adrop_any w1.heap.size B b s (Ar.hdl b s k) ct ft F wr HA.out hbs hok hji (by omega)).mono ?_
          rintro e w9 ⟨F9, rfl, hA9, hst⟩
          have hz9 := hst.1.size
          have hGF9 : ∀ k, w4.heap.size ≤ k → k < w8.heap.size → ¬ F9 k := fun k h1 h2 h3 => HG.out k h1 h2 (hst.2 k (by omega) h3)
          have hsame9 : ∀ k, w4.heap.size ≤ k → k < w8.heap.size → w9.heap[k]? = w8.heap[k]? := fun k h1 h2 => (hst.1.block k (by omega) (HG.out k h1 h2)).trans (HSM.out k h1 h2)
          have hb9 := HB.out.trans (hst.1.below hbs fun j hj => (HA.out.lt j hj).1)
          have HA9 := Lib.hid hA9
          have HR9 := Lib.hid (HR.out.step hst)
          have hl9 := Ar.drop_len b s (Ar.hdl b s k) ct ft
          have HL9 := Lib.hid hl9
          clear hA9 hst hl9 hc
          go_wp2_with fail
          go_roundw
          case rel => exact ⟨k + 1, _, _, F9, by omega, by go_num, HA9.out, HR9.out, Ar.drop_ok hok, by rw [HL9.out]; exact hcl, hGF9, hsame9, by omega, hb9⟩
          case measure => simp [intOf]; omega
        · have hev' : ¬ (k : Int).tmod 2 = 0 := by rw [Int.tmod_eq_emod_of_nonneg q0]; exact hev
          go_wp2_with fail
          refine (aset_any w1.heap.size B b s (Ar.hdl b s k) 99 ct ft F wr HA.out hbs hji (by omega)).mono ?_
          rintro e w9 ⟨rfl, hA9, ht9⟩
          have hst : AStep wr w9 F F := .of_turns ht9
          have hz9 := hst.1.size
          have hGF9 : ∀ k, w4.heap.size ≤ k → k < w8.heap.size → ¬ F k := fun k h1 h2 h3 => HG.out k h1 h2 (hst.2 k (by omega) h3)
          have hsame9 : ∀ k, w4.heap.size ≤ k → k < w8.heap.size → w9.heap[k]? = w8.heap[k]? := fun k h1 h2 => (hst.1.block k (by omega) (HG.out k h1 h2)).trans (HSM.out k h1 h2)
          have hb9 := HB.out.trans (hst.1.below hbs fun j hj => (HA.out.lt j hj).1)
          have HA9 := Lib.hid hA9
          have HR9 := Lib.hid (HR.out.step hst)
          have hl9 := Ar.set_len b s (Ar.hdl b s k) 99 ct
          have HL9 := Lib.hid hl9
          clear hA9 hst hl9 hc ht9
          go_wp2_with fail
          go_roundw
          case rel => exact ⟨k + 1, _, ft, F, by omega, by go_num, HA9.out, HR9.out, Ar.set_ok hok 99, by rw [HL9.out]; exact hcl, hGF9, hsame9, by omega, hb9⟩
          case measure => simp [intOf]; omega
      · have hbs := hbel.size
        have HA := Lib.hid hA
        have HG := Lib.hid hGF
        have HSM := Lib.hid hsame
        have HB := Lib.hid hbel
        clear hA hR hGF hsame hbel
        go_wp2_with fail
        refine (aadd_any w1.heap.size B b s 5 ct ft F wr HA.out hbs hok (by omega)).mono ?_
        rintro e w9 ⟨F9, rfl, hA9, hst⟩
        have hz9 := hst.1.size
        have hGF9 : ∀ k, w4.heap.size ≤ k → k < w8.heap.size → ¬ F9 k := fun k h1 h2 h3 => HG.out k h1 h2 (hst.2 k (by omega) h3)
        have hsame9 : ∀ k, w4.heap.size ≤ k → k < w8.heap.size → w9.heap[k]? = w8.heap[k]? := fun k h1 h2 => (hst.1.block k (by omega) (HG.out k h1 h2)).trans (HSM.out k h1 h2)
        have hb9 := HB.out.trans (hst.1.below hbs fun j hj => (HA.out.lt j hj).1)
        have hok9 := Ar.add_ok hok 5
        have hl9 := Ar.add_len ct ft 5
        have HA9 := Lib.hid hA9
        have HG9 := Lib.hid hGF9
        have HSM9 := Lib.hid hsame9
        have HB9 := Lib.hid hb9
        clear hbs
        have hbs := hb9.size
        clear hA9 hst hGF9 hsame9 hb9
        go_wp2_with fail
        refine (aadd_any w1.heap.size B b s 6 _ _ F9 w9 HA9.out hbs hok9 (by omega)).mono ?_
        rintro e w10 ⟨F10, rfl, hA10, hst⟩
        have hz10 := hst.1.size
        have hGF10 : ∀ k, w4.heap.size ≤ k → k < w8.heap.size → ¬ F10 k := fun k h1 h2 h3 => HG9.out k h1 h2 (hst.2 k (by omega) h3)
        have hsame10 : ∀ k, w4.heap.size ≤ k → k < w8.heap.size → w10.heap[k]? = w8.heap[k]? := fun k h1 h2 => (hst.1.block k (by omega) (HG9.out k h1 h2)).trans (HSM9.out k h1 h2)
        have hb10 := HB9.out.trans (hst.1.below hbs fun j hj => (HA9.out.lt j hj).1)
        have hBb : Whole w10 Bb _ _ := (hsame10 Bb h4b (by have := HZ.out; omega)).trans HWb.out
        have hBc : Whole w10 (Bb + 1) _ _ := (hsame10 (Bb + 1) (by omega) (by have := HZ.out; omega)).trans HWc.out
        have hS10 := HS1.out.below hb10 HS1.out.lt
        have xb0 : w10.cell? ⟨Bb, 0, none⟩ = some (.int .i64 b) := hBb.cell 0
        have xb1 : w10.cell? ⟨Bb, 1, none⟩ = some (.int .i64 s) := hBb.cell 1
        have xb2 : w10.cell? ⟨Bb, 2, none⟩ = some (.slice A5 cs.length k5) := hBb.cell 2
        have xb3 : w10.cell? ⟨Bb, 3, none⟩ = some (.slice E5 fr.length e5) := hBb.cell 3
        have xb4 : w10.cell? ⟨Bb, 4, none⟩ = some (.int .i64 (Ar.live cs : Nat)) := hBb.cell 4
        have xc2 : w10.cell? ⟨Bb + 1, 2, none⟩ = some (.slice A6 cs.length k6) := hBc.cell 2
        have xc3 : w10.cell? ⟨Bb + 1, 3, none⟩ = some (.slice E6 fr.length e6) := hBc.cell 3
        have xc4 : w10.cell? ⟨Bb + 1, 4, none⟩ = some (.int .i64 (Ar.live cs : Nat)) := hBc.cell 4
        have s0 : w10.cell? ⟨w.heap.size, 0, none⟩ = some (.int .i64 b) := hS10.cell 0
        have s1 : w10.cell? ⟨w.heap.size, 1, none⟩ = some (.int .i64 s) := hS10.cell 1
        have HSM10 := Lib.hid hsame10
        have HB10 := Lib.hid hb10
        have hbs10 := hb10.size
        clear hA10 hst hGF10 hb10 hS10 HA HG HSM HB HA9 HG9 HSM9 HB9 hok hok9 hcl hl9 hbs
        have hO1 := own_zero (own_same HO8'.out (fun k hk => hsame10 k (HO8'.out.lt k hk).1 (HO8'.out.lt k hk).2))
        have hO2 := own_zero (own_same HO8.out (fun k hk => hsame10 k (by have := (HO8.out.lt k hk).1; omega) (HO8.out.lt k hk).2))
        have hU1 := own_zero (own_same HU8'.out (fun k hk => hsame10 k (HU8'.out.lt k hk).1 (HU8'.out.lt k hk).2))
        have HO1 := Lib.hid hO1
        have HO2 := Lib.hid hO2
        have HU1 := Lib.hid hU1
        have HBb := Lib.hid hBb
        clear hO1 hO2 hU1 hsame10 hBb hBc
        go_wp2_with fail
        go_loopw [92] (fun i wr => ∃ k : Nat, k ≤ cs.length ∧ i = .int .i64 k ∧ Below w10.heap.size w10 wr) (fun i _ => cs.length - (intOf i).toNat)
        case atStart => exact ⟨0, Nat.zero_le _, rfl, Below.refl _ _⟩
        case round =>
          obtain ⟨k, hk, rfl, hbw⟩ := hrel
          by_cases hlt : k < cs.length
          · obtain ⟨f, hfk⟩ : ∃ f, cs[k]? = some f := ⟨_, List.getElem?_eq_getElem hlt⟩
            obtain ⟨g2, hg2, _, hc2⟩ := own_cells (own_below HO1.out hbw) (by omega)
            obtain ⟨g4, hg4, _, hc4⟩ := own_cells (own_below HO2.out hbw) (by omega)
            obtain ⟨p1, p2⟩ := Ar.slots_get cs k f hfk
            have d2 := hc2 _ _ p1
            have d2' := hc2 _ _ p2
            have d4 := hc4 _ _ p1
            have d4' := hc4 _ _ p2
            have a3 := acell xb2 hbw
            have b3 := acell xc2 hbw
            have HBW := Lib.hid hbw
            subst hg2 hg4
            obtain ⟨u, hu⟩ : ∃ u, f.isSome = u := ⟨_, rfl⟩
            obtain ⟨z, hz⟩ : ∃ z, f.getD 0 = z := ⟨_, rfl⟩
            rw [hu] at d2 d4
            rw [hz] at d2' d4'
            have q0 : (0 : Int) ≤ (k : Int) := by omega
            have q1 : (k : Int) < (cs.length : Int) := by omega
            clear hc2 hc4 hfk hbw p1 p2 hu hz
            go_wp2_with fail
            go_quiet (fail)
            go_wp2_with fail
            go_roundw
            case rel => exact ⟨k + 1, by omega, by go_num, Below.trans HBW.out ⟨rfl, rfl, rfl, Nat.le_refl _, fun _ _ => rfl⟩⟩
            case measure => simp [intOf]; omega
          · have hb1w := HB10.out.trans (hbw.mono hbs10)
            have s0' := acell s0 hbw
            have s1' := acell s1 hbw
            have hfil := HFIL.out wr (HL1.out.below hb1w) (HD1.out.below hb1w)
            rw [HN.out, HQ.out] at hfil
            have HFI := Lib.hid hfil
            have HBW := Lib.hid hbw
            have HB1W := Lib.hid hb1w
            have hsw := hbw.size
            have hsw1 := hb1w.size
            clear hfil hbw hb1w
            go_wp2_with fail
            refine HFI.out.mono ?_
            rintro e w12 ⟨vs, vf, vg, rfl, hF, hb12⟩
            rw [HCS.out, HFR.out] at hF
            rw [HCS.out]
            obtain ⟨A7, k7, E7, e7, Ag7, cg7, rfl, rfl, rfl⟩ := hF.slices
            have hD13 := Whole.new w12 #[.int .i64 b, .int .i64 s, .slice A7 cs.length k7, .slice E7 fr.length e7, .int .i64 (Ar.live cs : Nat)] 29
            have hO7 := own_zero (hF.1.alloc (.cells #[.int .i64 b, .int .i64 s, .slice A7 cs.length k7, .slice E7 fr.length e7, .int .i64 (Ar.live cs : Nat)] 29))
            have hU7 := own_zero (hF.2.1.alloc (.cells #[.int .i64 b, .int .i64 s, .slice A7 cs.length k7, .slice E7 fr.length e7, .int .i64 (Ar.live cs : Nat)] 29))
            have hb13 := hb12.alloc hb12.size (.cells #[.int .i64 b, .int .i64 s, .slice A7 cs.length k7, .slice E7 fr.length e7, .int .i64 (Ar.live cs : Nat)] 29)
            obtain ⟨w13, hw13⟩ : ∃ w13, w12.alloc (.cells #[.int .i64 b, .int .i64 s, .slice A7 cs.length k7, .slice E7 fr.length e7, .int .i64 (Ar.live cs : Nat)] 29) = w13 := ⟨_, rfl⟩
            rw [hw13] at hD13 hO7 hU7 hb13
            have hb10 := HBW.out.trans (hb13.mono hsw)
            have yd2 : w13.cell? ⟨w12.heap.size, 2, none⟩ = some (.slice A7 cs.length k7) := hD13.cell 2
            have yd3 : w13.cell? ⟨w12.heap.size, 3, none⟩ = some (.slice E7 fr.length e7) := hD13.cell 3
            have yb2 := acell xb2 hb10
            have yb3 := acell xb3 hb10
            have HO7 := Lib.hid hO7
            have HU7 := Lib.hid hU7
            have HO9 := Lib.hid (own_below HO1.out hb10)
            have HU9 := Lib.hid (own_below HU1.out hb10)
            have HB13 := Lib.hid (HB1W.out.trans (hb13.mono hsw1))
            have hs13 := HB13.out.size
            clear hO7 hU7 hF hb12 hb13 hb10 xb0 xb1 xb2 xb3 xb4 xc2 xc3 xc4 s0 s1 s0' s1' hD13
            go_wp2_with fail
            go_loopw [117] (fun i wx => ∃ k : Nat, k ≤ fr.length ∧ i = .int .i64 k ∧ Below w13.heap.size w13 wx) (fun i _ => fr.length - (intOf i).toNat)
            case atStart => exact ⟨0, Nat.zero_le _, rfl, Below.refl _ _⟩
            case round =>
              obtain ⟨X2, HX2⟩ : ∃ wo : World, Hid (wo = wr) := ⟨_, Lib.hid rfl⟩
              obtain ⟨k, hk, rfl, hbw⟩ := hrel
              by_cases hlt : k < fr.length
              · obtain ⟨f, hfk⟩ : ∃ f, fr[k]? = some f := ⟨_, List.getElem?_eq_getElem hlt⟩
                obtain ⟨g2, hg2, _, hc2⟩ := own_cells (own_below HU9.out hbw) (by omega)
                obtain ⟨g4, hg4, _, hc4⟩ := own_cells (own_below HU7.out hbw) (by omega)
                have d2 := hc2 k (.int .i64 (f : Int)) (by simp [Ar.nums, hfk])
                have d4 := hc4 k (.int .i64 (f : Int)) (by simp [Ar.nums, hfk])
                have a3 := acell yb3 hbw
                have b3 := acell yd3 hbw
                have HBX := Lib.hid hbw
                subst hg2 hg4
                have q0 : (0 : Int) ≤ (k : Int) := by omega
                have q1 : (k : Int) < (fr.length : Int) := by omega
                clear hc2 hc4 hfk hbw
                go_wp2_with fail
                go_quiet (fail)
                go_wp2_with fail
                go_roundw
                case rel => exact ⟨k + 1, by omega, by go_num, Below.trans HBX.out ⟨rfl, rfl, rfl, Nat.le_refl _, fun _ _ => rfl⟩⟩
                case measure => simp [intOf]; omega
              · have HBX := Lib.hid hbw
                have b2 := acell yd2 hbw
                clear hbw
                go_wp2_with fail
                go_loopw [135] (fun i wx' => ∃ k : Nat, k ≤ cs.length ∧ i = .int .i64 k ∧ Below w13.heap.size w13 wx') (fun i _ => cs.length - (intOf i).toNat)
                case atStart => exact ⟨0, Nat.zero_le _, rfl, HBX.out⟩
                case round =>
                  clear b2
                  obtain ⟨k, hk, rfl, hbw⟩ := hrel
                  by_cases hlt : k < cs.length
                  · obtain ⟨f, hfk⟩ : ∃ f, cs[k]? = some f := ⟨_, List.getElem?_eq_getElem hlt⟩
                    obtain ⟨g2, hg2, _, hc2⟩ := own_cells (own_below HO9.out hbw) (by omega)
                    obtain ⟨g4, hg4, _, hc4⟩ := own_cells (own_below HO7.out hbw) (by omega)
                    obtain ⟨p1, p2⟩ := Ar.slots_get cs k f hfk
                    have d2 := hc2 _ _ p1
                    have d2' := hc2 _ _ p2
                    have d4 := hc4 _ _ p1
                    have d4' := hc4 _ _ p2
                    have a3 := acell yb2 hbw
                    have b3 := acell yd2 hbw
                    have HBX' := Lib.hid hbw
                    subst hg2 hg4
                    obtain ⟨u, hu⟩ : ∃ u, f.isSome = u := ⟨_, rfl⟩
                    obtain ⟨z, hz⟩ : ∃ z, f.getD 0 = z := ⟨_, rfl⟩
                    rw [hu] at d2 d4
                    rw [hz] at d2' d4'
                    have q0 : (0 : Int) ≤ (k : Int) := by omega
                    have q1 : (k : Int) < (cs.length : Int) := by omega
                    clear hc2 hc4 hfk hbw p1 p2 hu hz
                    go_wp2_with fail
                    go_quiet (fail)
                    go_wp2_with fail
                    go_roundw
                    case rel => exact ⟨k + 1, by omega, by go_num, Below.trans HBX'.out ⟨rfl, rfl, rfl, Nat.le_refl _, fun _ _ => rfl⟩⟩
                    case measure => simp [intOf]; omega
                  · have a2 := acell yb2 hbw
                    have a3 := acell yb3 hbw
                    have b2 := acell yd2 hbw
                    have b3 := acell yd3 hbw
                    have HBX' := Lib.hid hbw
                    clear hbw
                    go_wp2_with fail
                    go_ret
                    exact ⟨rfl, hB1.trans ((HB13.out.trans (HBX'.out.mono hs13)).mono hB1.size)⟩
end Go.Proofs.Ytccdhfpifohhjaa
