/- The function of the law that fills an arena: its contract, over those of package arena. -/
import Derived.Test.YthocodmniofioaaACodeG
import Derived.Test.YthocodmniofioaaAFil
import Derived.Test.YthocodmniofioaaAFreshW
import Derived.Test.YthocodmniofioaaASet
namespace Go.Proofs.Ythocodmniofioaa
open Go.RowKit

/-- A variable of five cells that is given an arena. -/
theorem box5 {W : World} {B : Nat} {x0 x1 x2 x3 x4 : Value} {T : TypeId} (r : Whole W B #[x0, x1, x2, x3, x4] T) (y0 y1 y2 y3 y4 : Value) :
    ∃ W', ((((W.setCell ⟨B, 0, none⟩ y0).setCell ⟨B, 1, none⟩ y1).setCell ⟨B, 2, none⟩ y2).setCell ⟨B, 3, none⟩ y3).setCell ⟨B, 4, none⟩ y4 = W' ∧ Whole W' B #[y0, y1, y2, y3, y4] T ∧ W.grownBy W' (some B) :=
  ⟨_, rfl, ((((r.put 0 y0).put 1 y1).put 2 y2).put 3 y3).put 4 y4, gb_put (gb_put (gb_put (gb_put (gb_put (gb_of_below (Below.refl W.heap.size W) (some B)) 0 y0) 1 y1) 2 y2) 3 y3) 4 y4⟩
theorem own_base {w : World} {B B' : Nat} {e : TypeId} {size : Nat} {v : Value} {n : Nat} {xs : List Value} (h : w.ownsRow B e size v n xs) (hB : B' ≤ B) : w.ownsRow B' e size v n xs := by
  refine ⟨h.1, ?_⟩
  rcases h.2 with hn | ⟨g, cap, cur, hv, hb, hr⟩
  · exact .inl hn
  · exact .inr ⟨g, cap, cur, hv, Nat.le_trans hB hb, hr⟩

/-- What it leaves: the arena's value and the row of the handles. -/
def Filled (base : Nat) (w : World) (b s : Int) (n : Nat) (cs : List (Option Int)) (fr : List Nat) (vs vf vg : Value) : Prop :=
  w.ownsRow base 57 2 vs cs.length (Ar.slots cs) ∧ w.ownsRow base 3 1 vf fr.length (Ar.nums fr) ∧ w.ownsRow base 3 1 vg n (ints (Ar.tab n fun j => Ar.hdl b s j)) ∧ (∀ k, vg.ownBlock = some k → vf.ownBlock ≠ some k) ∧ (∀ k, vg.ownBlock = some k → vs.ownBlock ≠ some k)

set_option maxRecDepth 100000 in
set_option maxHeartbeats 1000000 in
theorem filled_any (b s : Int) (A D : Option Addr) (cp dp : Nat) (l ds : List Int) (w : World) (_hb : I64 b) (_hs : I64 s) (hl : Nums .i16 w A l) (hd : Nums .u8 w D ds)
    (hl1 : l.length ≤ 100) (hd1 : ds.length ≤ 100) (hl2 : ∀ x ∈ l, -32768 ≤ x ∧ x ≤ 32767) (hd2 : ∀ x ∈ ds, 0 ≤ x ∧ x ≤ 255) :
    Calls Try.prog 30 #[saltV b s, .slice A l.length cp, .slice D ds.length dp] w fun e w' => ∃ vs vf vg,
      e = .returned (.tuple #[arenaV b s vs vf (Ar.live (Ar.filAt l.length ds (l.map some, [])).1 : Nat), vg]) ∧ Filled w.heap.size w' b s l.length (Ar.filAt l.length ds (l.map some, [])).1 (Ar.filAt l.length ds (l.map some, [])).2 vs vf vg ∧ Below w.heap.size w w' := by
  obtain ⟨i0, hi0, hz0, hz1, hz2⟩ := info_parts intInfo
  obtain ⟨n, hn⟩ : ∃ n, l.length = n := ⟨_, rfl⟩
  obtain ⟨q, hq⟩ : ∃ q, ds.length = q := ⟨_, rfl⟩
  rw [hn] at hl1 ⊢
  rw [hq] at hd1 ⊢
  have HN := Lib.hid hn
  have HQ := Lib.hid hq
  clear hn hq
  go_enter Try.func30, Try.ntmps30
  go_wp2_with fail
  refine (anew_any b s _).mono ?_
  rintro e w2 ⟨rfl, hb2⟩
  have hB1 : Below w.heap.size w ((w.alloc (.cells #[.int .i64 b, .int .i64 s] 23)).alloc (.cells #[.int .i64 0, .int .i64 0, .slice none 0 0, .slice none 0 0, .int .i64 0] 29)) :=
    ((Below.refl _ w).alloc (Nat.le_refl _) _).alloc (by simp) _
  have r1 : Whole ((w.alloc (.cells #[.int .i64 b, .int .i64 s] 23)).alloc (.cells #[.int .i64 0, .int .i64 0, .slice none 0 0, .slice none 0 0, .int .i64 0] 29)) (w.heap.size + 1) #[.int .i64 0, .int .i64 0, .slice none 0 0, .slice none 0 0, .int .i64 0] 29 := by
    have h := Whole.new (w.alloc (.cells #[.int .i64 b, .int .i64 s] 23)) #[.int .i64 0, .int .i64 0, .slice none 0 0, .slice none 0 0, .int .i64 0] 29
    rw [World.size_alloc] at h
    exact h
  have hs1 : ((w.alloc (.cells #[.int .i64 b, .int .i64 s] 23)).alloc (.cells #[.int .i64 0, .int .i64 0, .slice none 0 0, .slice none 0 0, .int .i64 0] 29)).heap.size = w.heap.size + 2 := by simp
  obtain ⟨W1, hW1⟩ : ∃ W1, (w.alloc (.cells #[.int .i64 b, .int .i64 s] 23)).alloc (.cells #[.int .i64 0, .int .i64 0, .slice none 0 0, .slice none 0 0, .int .i64 0] 29) = W1 := ⟨_, rfl⟩
  rw [hW1] at hB1 r1 hs1 hb2
  clear hW1
  obtain ⟨N, hN⟩ : ∃ N, W1.heap.size = N := ⟨_, rfl⟩
  rw [hN] at hb2 hs1
  have hs2 := hb2.size
  rw [hN] at hs2
  have HN1 := Lib.hid hN
  have hl1' := hl.below hB1
  have hd1' := hd.below hB1
  have HB1 := Lib.hid hB1
  have HR1 := Lib.hid r1
  have HS1 := Lib.hid hs1
  clear hl hd hN hB1 r1 hs1
  have hB3 := hb2.alloc hs2 (.cells #[.int .i64 b, .int .i64 s, .slice none 0 0, .slice none 0 0, .int .i64 0] 29)
  have hA3 : AI N (w2.alloc (.cells #[.int .i64 b, .int .i64 s, .slice none 0 0, .slice none 0 0, .int .i64 0] 29)) w2.heap.size b s ((l.take 0).map some) [] (Foot w2.heap.size (.slice none 0 0) (.slice none 0 0)) :=
    ⟨_, _, Whole.new w2 _ _, hs2, World.ownsRow_nil _ _ _ _, World.ownsRow_nil _ _ _ _, rfl⟩
  clear hb2
  go_wp2_with fail
  obtain ⟨w3, hw3⟩ : ∃ w3, w2.alloc (.cells #[.int .i64 b, .int .i64 s, .slice none 0 0, .slice none 0 0, .int .i64 0] 29) = w3 := ⟨_, rfl⟩
  rw [hw3] at hB3 hA3 ⊢
  obtain ⟨B, hBB⟩ : ∃ B, w2.heap.size = B := ⟨_, rfl⟩
  rw [hBB] at hA3 hs2 ⊢
  clear hw3 hBB
  go_loopw [9, 16] (fun g i wr => ∃ (k : Nat) (F : Nat → Prop), k ≤ n ∧ i = .int .i64 k ∧ AI N wr B b s ((l.take k).map some) [] F ∧ Row 3 N wr g (Ar.tab k fun j => Ar.hdl b s j) F ∧ Below N W1 wr) (fun _ i _ => n - (intOf i).toNat)
  case atStart => exact ⟨0, _, Nat.zero_le _, rfl, hA3, Row.nil _ _ _ _, hB3⟩
  case round =>
    obtain ⟨k, F, hk, rfl, hA, hR, hbel⟩ := hrel
    obtain ⟨Ag, cg, hg⟩ := hR.slice
    rw [Ar.tab_len] at hg
    subst hg
    have hbs := hbel.size
    rw [HN1.out] at hbs
    by_cases hlt : k < n
    · obtain ⟨x, hx⟩ : ∃ x, l[k]? = some x := ⟨_, List.getElem?_eq_getElem (by rw [HN.out]; exact hlt)⟩
      have hxb := hl2 x (List.mem_of_getElem? hx)
      obtain ⟨bl, ol, rfl, hcl⟩ := hl1'.below (HN1.out ▸ hbel) k x hx
      have hE := Ar.add_take hx
      have HE := Lib.hid hE
      have HA := Lib.hid hA
      have HR := Lib.hid hR
      have HL := Lib.hid hl1'
      clear hA hR hA3 hB3 hE hx hl1'
      go_wp2_with fail
      refine (aadd_any N B b s x ((l.take k).map some) [] F _ HA.out hbs ⟨List.nodup_nil, fun _ h => by simp at h⟩ (by rw [List.length_map, List.length_take]; omega)).mono ?_
      rintro e w4 ⟨F4, rfl, hA4, hst⟩
      rw [HE.out] at hA4 ⊢
      have hR4 := HR.out.step hst
      have hb4 : Below N W1 w4 := hbel.trans (hst.1.below hbs fun j hj => (HA.out.lt j hj).1)
      have hA5 := hA4.below ((Below.refl _ w4).alloc (Nat.le_refl _) (.cells #[.int .i64 (Ar.hdl b s k)] 3))
      have hR5 := hR4.below ((Below.refl _ w4).alloc (Nat.le_refl _) (.cells #[.int .i64 (Ar.hdl b s k)] 3))
      have s5 := row_one w4 3 (Ar.hdl b s k)
      have hbs4 := hb4.size
      rw [HN1.out] at hbs4
      have hb5 := hb4.alloc hbs4 (.cells #[.int .i64 (Ar.hdl b s k)] 3)
      obtain ⟨w5, hw5⟩ : ∃ w5, w4.alloc (.cells #[.int .i64 (Ar.hdl b s k)] 3) = w5 := ⟨_, rfl⟩
      rw [hw5] at hA5 hR5 s5 hb5
      have hbs5 := hb5.size
      rw [HN1.out] at hbs5
      clear hA4 hR4 HA HR hst hcl
      go_wp2_with (at_builtin; refine wpList_append_src rfl _ _ 27 rfl N 0 3 i0 (.int .i64 0) 1 8 Try.underlying27 hi0 hz0 hz1 hz2 rfl (by decide) _ _ _ rfl hR5.1 _ 1 (ints [Ar.hdl b s k]) rfl s5 (ints_one _) ?c3 ?c4 ?c5 ?_)
      case c3 => rw [Ar.tab_len]; unfold maxLen; omega
      case c4 => rw [Ar.tab_len]; omega
      case c5 => exact hbs5
      intro v6 w6 o6 g6 f6
      obtain ⟨hA6, hR6, ht6⟩ := hR5.push hA5 o6 g6 f6
      have hb6 : Below N W1 w6 := hb5.trans (ht6.below hbs5 fun j hj => (hR5.1.lt j hj).1)
      clear hA5 hR5 s5 hb5 hw5
      go_wp2_with fail
      go_roundw
      case rel => exact ⟨k + 1, F4, by omega, by go_num, hA6, by rw [Ar.tab_succ]; exact hR6, hb6⟩
      case measure => simp [intOf]; omega
    · have ek : k = n := by omega
      subst ek
      rw [List.take_of_length_le (by rw [HN.out]; exact Nat.le_refl _)] at hA
      have HA := Lib.hid hA
      have HR := Lib.hid hR
      clear hA hR hA3 hB3
      have hok0 : Ar.Ok (l.map some) [] := ⟨List.nodup_nil, fun _ h => by simp at h⟩
      go_wp2_with fail
      go_loopw [31] (fun i wr => ∃ (j : Nat) (F : Nat → Prop), j ≤ q ∧ i = .int .i64 j ∧ AI N wr B b s (Ar.filAt k (ds.take j) (l.map some, [])).1 (Ar.filAt k (ds.take j) (l.map some, [])).2 F ∧ Row 3 N wr (.slice Ag k cg) (Ar.tab k fun j => Ar.hdl b s j) F ∧ Below N W1 wr) (fun i _ => q - (intOf i).toNat)
      case atStart => exact ⟨0, _, Nat.zero_le _, rfl, HA.out, HR.out, hbel⟩
      case round =>
        clear HA HR hbel hbs
        obtain ⟨j, F, hj, rfl, hA, hR, hbel⟩ := hrel
        have hbs := hbel.size
        rw [HN1.out] at hbs
        have hoj := Ar.filAt_ok k (ds.take j) (l.map some, []) hok0
        rw [List.length_map, HN.out] at hoj
        by_cases hlj : j < q
        · obtain ⟨x, hx⟩ : ∃ x, ds[j]? = some x := ⟨_, List.getElem?_eq_getElem (by rw [HQ.out]; exact hlj)⟩
          have hxb := hd2 x (List.mem_of_getElem? hx)
          obtain ⟨bd, od, rfl, hcd⟩ := hd1'.below (HN1.out ▸ hbel) j x hx
          have hE := Ar.filAt_take (n := k) (p := (l.map some, [])) hx
          by_cases hk0 : k = 0
          · rw [Ar.filStep, if_pos hk0] at hE
            have HE := Lib.hid hE
            have HA := Lib.hid hA
            have HR := Lib.hid hR
            have HD := Lib.hid hd1'
            clear hA hR hE hd1' hx hcd
            have hk0' : ¬ (0 : Int) < (k : Int) := by omega
            go_wp2_with fail
            go_roundw
            case rel => exact ⟨j + 1, F, by omega, by go_num, by rw [HE.out]; exact HA.out, HR.out, hbel⟩
            case measure => simp [intOf]; omega
          · rw [Ar.filStep, if_neg hk0] at hE
            have hxk : x.toNat % k < k := Nat.mod_lt _ (by omega)
            obtain ⟨z, hz⟩ : ∃ z : Nat, x.toNat % k = z := ⟨_, rfl⟩
            rw [hz] at hE hxk
            have htm : Int.tmod x (k : Int) = (z : Int) := by
              rw [Int.tmod_eq_emod_of_nonneg hxb.1, ← hz, Int.natCast_emod, Int.toNat_of_nonneg hxb.1]
            obtain ⟨g, hAg, hc⟩ := hR.cell (i := z) (Ar.tab_get (f := fun j => Ar.hdl b s j) hxk)
            subst hAg
            have hdr := Ar.drop_hdl b s (cs := (Ar.filAt k (ds.take j) (l.map some, [])).1) (fr := (Ar.filAt k (ds.take j) (l.map some, [])).2) (j := z) (by rw [hoj.2]; exact hxk) (by rw [hoj.2]; omega)
            have HE := Lib.hid hE
            have HA := Lib.hid hA
            have HR := Lib.hid hR
            have HD := Lib.hid hd1'
            have HO := Lib.hid hoj
            have HDR := Lib.hid hdr
            clear hA hR hE hd1' hx hoj hz hdr
            go_wp2_with fail
            refine (adrop_any N B b s (Ar.hdl b s z) _ _ F _ HA.out hbs HO.out.1 (hdl_i64 b s z (by omega)) (by rw [HO.out.2]; omega)).mono ?_
            rintro e w4 ⟨F4, rfl, hA4, hst⟩
            rw [HDR.out] at hA4
            have hR4 := HR.out.step hst
            have hb4 : Below N W1 w4 := hbel.trans (hst.1.below hbs fun j hj => (HA.out.lt j hj).1)
            have HA4 := Lib.hid hA4
            have HR4 := Lib.hid hR4
            clear hA4 hR4 HA HR hst hc hcd
            go_wp2_with fail
            go_roundw
            case rel => exact ⟨j + 1, F4, by omega, by go_num, by rw [HE.out]; exact HA4.out, HR4.out, hb4⟩
            case measure => simp [intOf]; omega
        · have ej : j = q := by omega
          subst ej
          rw [List.take_of_length_le (by rw [HQ.out]; exact Nat.le_refl _)] at hA
          obtain ⟨p, hp⟩ : ∃ p, Ar.filAt k ds (l.map some, []) = p := ⟨_, rfl⟩
          rw [hp] at hA
          have HP := Lib.hid hp
          clear hp
          obtain ⟨vs, vf, hW, _, hvs, hvf, rfl⟩ := hA
          obtain ⟨A1, c1, rfl⟩ := own_slice (own_zero hvs)
          obtain ⟨A2, c2, rfl⟩ := own_slice (own_zero hvf)
          have k0 : wr.cell? ⟨B, 0, none⟩ = some (.int .i64 b) := hW.cell 0
          have k1 : wr.cell? ⟨B, 1, none⟩ = some (.int .i64 s) := hW.cell 1
          have k2 : wr.cell? ⟨B, 2, none⟩ = some (.slice A1 p.1.length c1) := hW.cell 2
          have k3 : wr.cell? ⟨B, 3, none⟩ = some (.slice A2 p.2.length c2) := hW.cell 3
          have k4 : wr.cell? ⟨B, 4, none⟩ = some (.int .i64 (Ar.live p.1 : Nat)) := hW.cell 4
          have r4 := HR1.out.below hbel (by rw [HS1.out]; omega)
          have z0 : wr.cell? ⟨w.heap.size + 1, 0, none⟩ = some (.int .i64 0) := r4.cell 0
          have z1 : wr.cell? ⟨w.heap.size + 1, 1, none⟩ = some (.int .i64 0) := r4.cell 1
          have z2 : wr.cell? ⟨w.heap.size + 1, 2, none⟩ = some (.slice none 0 0) := r4.cell 2
          have z3 : wr.cell? ⟨w.heap.size + 1, 3, none⟩ = some (.slice none 0 0) := r4.cell 3
          have z4 : wr.cell? ⟨w.heap.size + 1, 4, none⟩ = some (.int .i64 0) := r4.cell 4
          have f0 := r4.free 0
          have f1 := r4.free 1
          have f2 := r4.free 2
          have f3 := r4.free 3
          have f4 := r4.free 4
          have HV := Lib.hid hvs
          have HU := Lib.hid hvf
          have HR := Lib.hid hR
          have HW := Lib.hid hW
          clear hvs hvf hR hW
          go_wp2_with fail
          obtain ⟨W5, hW5, r5, g5⟩ := box5 r4 (.int .i64 b) (.int .i64 s) (.slice A1 p.1.length c1) (.slice A2 p.2.length c2) (.int .i64 (Ar.live p.1 : Nat))
          rw [hW5]
          have c50 : W5.cell? ⟨w.heap.size + 1, 0, none⟩ = some (.int .i64 b) := r5.cell 0
          have c51 : W5.cell? ⟨w.heap.size + 1, 1, none⟩ = some (.int .i64 s) := r5.cell 1
          have c52 : W5.cell? ⟨w.heap.size + 1, 2, none⟩ = some (.slice A1 p.1.length c1) := r5.cell 2
          have c53 : W5.cell? ⟨w.heap.size + 1, 3, none⟩ = some (.slice A2 p.2.length c2) := r5.cell 3
          have c54 : W5.cell? ⟨w.heap.size + 1, 4, none⟩ = some (.int .i64 (Ar.live p.1 : Nat)) := r5.cell 4
          have hB5 : Below w.heap.size w wr := HB1.out.trans (hbel.mono (by rw [HS1.out]; omega))
          have hB6 : Below w.heap.size w W5 := hB5.grown g5 hB5.size (fun j hj => by simp at hj; omega)
          refine bodyPost_ret (v := .tuple #[arenaV b s (.slice A1 p.1.length c1) (.slice A2 p.2.length c2) (Ar.live p.1 : Nat), .slice Ag k cg]) ?_ rfl ⟨_, _, _, by rw [HP.out], ?_, hB6⟩
          · simp [results, Try.f30, go_sem, c50, c51, c52, c53, c54]
          · rw [HP.out]
            have hle : w.heap.size ≤ N := by rw [HS1.out]; omega
            refine ⟨own_base (HV.out.kept g5 (.inr (own_unlike HV.out r4 (by decide)))) hle, own_base (HU.out.kept g5 (.inr (own_unlike HU.out r4 (by decide)))) hle, ?_, ?_, ?_⟩
            · have h := own_base (HR.out.1.kept g5 (.inr (own_unlike HR.out.1 r4 (by decide)))) hle
              rw [Ar.tab_len] at h
              exact h
            · exact fun x hx hy => HR.out.2 x hx (.inr (.inr hy))
            · exact fun x hx hy => HR.out.2 x hx (.inr (.inl hy))
end Go.Proofs.Ythocodmniofioaa
