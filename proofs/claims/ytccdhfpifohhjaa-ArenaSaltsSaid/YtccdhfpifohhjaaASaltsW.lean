/- The statement ArenaSalts returns true: its walk. -/
import Derived.Test.YtccdhfpifohhjaaASlSt
import Derived.Test.YtccdhfpifohhjaaAFilL
import Derived.Test.YtccdhfpifohhjaaAOps
import Derived.Deep.DeepCutAuto
namespace Go.Proofs.Ytccdhfpifohhjaa
open Go.RowKit

set_option maxHeartbeats 1000000 in
theorem anew_exact (b s : Int) (w : World) :
    Calls Try.prog 12 #[saltV b s] w fun e w' => e = .returned (arenaV b s (.slice none 0 0) (.slice none 0 0) 0) ∧ w' = (w.alloc (.cells #[.int .i64 b, .int .i64 s] 23)).alloc (.cells #[.int .i64 b, .int .i64 s, .slice none 0 0, .slice none 0 0, .int .i64 0] 29) := by
  go_enter Try.func12, Try.ntmps12
  go_wp2_with fail
  refine bodyPost_ret (v := .agg #[.int .i64 b, .int .i64 s, .slice none 0 0, .slice none 0 0, .int .i64 0]) ?_ rfl ⟨rfl, rfl⟩
  simp [results, Try.f12, go_sem]

theorem S_al {W : World} {B : Nat} {b s b' s' : Int} (o : Obj) (h : W.cell? ⟨B, 0, none⟩ = some (.int .i64 b) ∧ W.cell? ⟨B, 1, none⟩ = some (.int .i64 s) ∧ W.cell? ⟨B + 1, 0, none⟩ = some (.int .i64 b') ∧ W.cell? ⟨B + 1, 1, none⟩ = some (.int .i64 s') ∧ B + 2 ≤ W.heap.size) :
    (W.alloc o).cell? ⟨B, 0, none⟩ = some (.int .i64 b) ∧ (W.alloc o).cell? ⟨B, 1, none⟩ = some (.int .i64 s) ∧ (W.alloc o).cell? ⟨B + 1, 0, none⟩ = some (.int .i64 b') ∧ (W.alloc o).cell? ⟨B + 1, 1, none⟩ = some (.int .i64 s') ∧ B + 2 ≤ (W.alloc o).heap.size := by
  obtain ⟨h0, h1, h2, h3, h4⟩ := h
  exact ⟨(World.cell?_alloc_lt W o _ (by show B < _; omega)).trans h0, (World.cell?_alloc_lt W o _ (by show B < _; omega)).trans h1, (World.cell?_alloc_lt W o _ (by show B + 1 < _; omega)).trans h2, (World.cell?_alloc_lt W o _ (by show B + 1 < _; omega)).trans h3, by simp; omega⟩
theorem below_al {W0 W : World} (o : Obj) (h : Below W0.heap.size W0 W) : Below W0.heap.size W0 (W.alloc o) := h.alloc h.size o
theorem below_drew {W0 W : World} (h : Below W0.heap.size W0 W) : Below W0.heap.size W0 W.drew := h.trans ⟨rfl, rfl, rfl, Nat.le_refl _, fun _ _ => rfl⟩
theorem whole_at (w : World) (c : Array Value) (t : TypeId) (k : Nat) (h : w.heap.size = k) : Whole (w.alloc (.cells c t)) k c t := by subst h; exact Whole.new w c t

set_option maxRecDepth 100000 in
set_option maxHeartbeats 40000000 in
theorem salts_walk (b s b' s' : Int) (A : Option Addr) (cp : Nat) (l : List (Int × Int × Bool × Int)) (w : World) (_hb : I64 b) (_hs : I64 s) (_hb' : I64 b') (_hs' : I64 s') (hl : Ops w A l) (hbd : ∀ x ∈ l, OpOk x) :
    Calls Try.prog 5 #[saltV b s, saltV b' s', .slice A l.length cp] w fun e w' => e = .returned (.bool true) ∧ Below w.heap.size w w' := by
  obtain ⟨i0, hi0, hz0, hz1, hz2⟩ := info_parts intInfo
  obtain ⟨n, hn⟩ : ∃ n, l.length = n := ⟨_, rfl⟩
  rw [hn]
  have HN := Lib.hid hn
  clear hn
  go_enter Try.func5, Try.ntmps5
  go_wp2_with fail
  refine (aawake_any _).mono ?_
  rintro e w1 ⟨rfl, hb1⟩
  have hS1 : Whole w1 w.heap.size #[.int .i64 b, .int .i64 s] 23 := Whole.below ((Whole.new w _ _).alloc _) hb1 (by simp; omega)
  have hT1 : Whole w1 (w.heap.size + 1) #[.int .i64 b', .int .i64 s'] 23 := by
    have h := Whole.new (w.alloc (.cells #[.int .i64 b, .int .i64 s] 23)) #[.int .i64 b', .int .i64 s'] 23
    rw [World.size_alloc] at h
    exact h.below hb1 h.lt
  have hs1 : w.heap.size + 2 ≤ w1.heap.size := by have := hb1.size; simp at this; omega
  have hB1 : Below w.heap.size w w1 := (((Below.refl _ w).alloc (Nat.le_refl _) _).alloc (by simp) _).trans (hb1.mono (by simp; omega))
  have hS0 : w1.cell? ⟨w.heap.size, 0, none⟩ = some (.int .i64 b) ∧ w1.cell? ⟨w.heap.size, 1, none⟩ = some (.int .i64 s) ∧ w1.cell? ⟨w.heap.size + 1, 0, none⟩ = some (.int .i64 b') ∧ w1.cell? ⟨w.heap.size + 1, 1, none⟩ = some (.int .i64 s') ∧ w.heap.size + 2 ≤ w1.heap.size := ⟨hS1.cell 0, hS1.cell 1, hT1.cell 0, hT1.cell 1, hs1⟩
  clear hb1 hS1 hT1
  by_cases hbig : 150 < n
  · have hbig' : (150 : Int) < (n : Int) := by omega
    go_wp2_with fail
    refine (aawake_any _).mono ?_
    rintro e w2 ⟨rfl, hb2⟩
    go_wp2_with fail
    go_ret
    exact ⟨rfl, hB1.trans (hb2.mono hB1.size)⟩
  · have hbig' : ¬ (150 : Int) < (n : Int) := by omega
    have hl1 := hl.below hB1
    have HS0 := Lib.hid hS0
    clear hl hS0
    go_upto_region 3 with fail
    go_cut [7, 8] (fun s5 s6 wx => ∃ B M : Nat, s5 = .pointer (some ⟨B, 0, none⟩) ∧ s6 = .pointer (some ⟨M, 0, none⟩) ∧ B ≠ M ∧ w1.heap.size ≤ B ∧ w1.heap.size ≤ M ∧ Whole wx B #[.int .i64 b, .int .i64 s, .slice none 0 0, .slice none 0 0, .int .i64 0] 29 ∧ Whole wx M #[.int .i64 b', .int .i64 s', .slice none 0 0, .slice none 0 0, .int .i64 0] 29 ∧ Below w1.heap.size w1 wx)
    case first =>
      go_region_held3 (fun W => W.cell? ⟨w.heap.size, 0, none⟩ = some (.int .i64 b) ∧ W.cell? ⟨w.heap.size, 1, none⟩ = some (.int .i64 s) ∧ W.cell? ⟨w.heap.size + 1, 0, none⟩ = some (.int .i64 b') ∧ W.cell? ⟨w.heap.size + 1, 1, none⟩ = some (.int .i64 s') ∧ w.heap.size + 2 ≤ W.heap.size)
        (first | exact HS0.out | (exact S_al _ (by assumption)) | (repeat (first | exact HS0.out | apply S_al)))
        (first | (go_at_call 12; refine (anew_exact b s _).mono ?_; rintro e w2 ⟨rfl, rfl⟩) | (go_at_call 12; refine (anew_exact b' s' _).mono ?_; rintro e w2 ⟨rfl, rfl⟩))
      all_goals (go_wp2_with fail; go_meet)
      all_goals refine ⟨_, _, rfl, rfl, ?_, ?_, ?_, Whole.drew ?_, Whole.drew ?_, below_drew ?_⟩
      all_goals first
        | omega
        | ((repeat (first | (refine whole_at _ _ _ _ ?_; simp only [World.size_alloc]; done) | (refine whole_at _ _ _ _ ?_; simp only [World.size_alloc]; omega) | apply Whole.alloc)); done)
        | ((repeat (first | exact Below.refl _ _ | apply below_al)); done)
    case rest =>
      obtain ⟨B1, B2, rfl, rfl, hBne, hBb, hMb, hA, hM, hB2⟩ := hcut
      have hP : SS w1 wc B1 B2 b s b' s' [] [] [] [] (Foot B1 (.slice none 0 0) (.slice none 0 0)) (Foot B2 (.slice none 0 0) (.slice none 0 0)) (.slice none 0 0) (.slice none 0 0) [] [] :=
        ⟨⟨_, _, hA, hBb, World.ownsRow_nil _ _ _ _, World.ownsRow_nil _ _ _ _, rfl⟩, ⟨_, _, hM, hMb, World.ownsRow_nil _ _ _ _, World.ownsRow_nil _ _ _ _, rfl⟩, World.ownsRow_nil _ _ _ _, World.ownsRow_nil _ _ _ _,
          fun k h1 h2 => by simp [Foot, Value.ownBlock] at h1 h2; exact hBne (h1.symm.trans h2), fun k hk => by simp [Value.ownBlock] at hk, fun k hk => by simp [Value.ownBlock] at hk, fun k hk => by simp [Value.ownBlock] at hk, fun k hk => by simp [Value.ownBlock] at hk, fun k hk => by simp [Value.ownBlock] at hk, hB2⟩
      have HP := Lib.hid hP
      have HL := Lib.hid hl1
      have HB1 := Lib.hid hB1
      clear hP hl1 hB1 hA hM hB2 HS0
      go_wp2_with fail
      go_loopw [9, 10, 33] (fun g1 g2 i wr => ∃ (k : Nat) (cs : List (Option Int)) (fr : List Nat) (F1 F2 : Nat → Prop) (sl : List Nat), k ≤ n ∧ i = .int .i64 k ∧ SS w1 wr B1 B2 b s b' s' cs fr cs fr F1 F2 g1 g2 (Ar.hdls b s sl) (Ar.hdls b' s' sl) ∧ Ar.Ok cs fr ∧ cs.length ≤ k ∧ sl.length ≤ k ∧ ∀ j ∈ sl, j < cs.length) (fun _ _ i _ => n - (intOf i).toNat)
      case atStart => exact ⟨0, [], [], _, _, [], Nat.zero_le _, rfl, HP.out, Ar.Ok.nil, Nat.le_refl _, Nat.le_refl _, fun _ h => by simp at h⟩
      case round =>
       clear HP
       obtain ⟨k, cs, fr, F1, F2, sl, hk, rfl, hP, hok, hcl, hsk, hsl⟩ := hrel
       obtain ⟨Ax, cx, hgx⟩ := own_slice (own_zero hP.x)
       obtain ⟨Ay, cy, hgy⟩ := own_slice (own_zero hP.y)
       obtain ⟨m, hm⟩ : ∃ m, sl.length = m := ⟨_, rfl⟩
       have hE1 : (Ar.hdls b s sl).length = m := by rw [Ar.hdls_len]; exact hm
       have hE2 : (Ar.hdls b' s' sl).length = m := by rw [Ar.hdls_len]; exact hm
       rw [hE1] at hgx
       rw [hE2] at hgy
       subst hgx hgy
       rw [hm] at hsk
       have HM := Lib.hid hm
       have HE1 := Lib.hid hE1
       have HE2 := Lib.hid hE2
       clear hm hE1 hE2
       by_cases hlt : k < n
       · obtain ⟨⟨kd, pk, raw, v⟩, hx⟩ : ∃ x, l[k]? = some x := ⟨_, List.getElem?_eq_getElem (by rw [HN.out]; exact hlt)⟩
         obtain ⟨hk0, hk1, hp0, hp1, hv0, hv1⟩ := hbd _ (List.mem_of_getElem? hx)
         obtain ⟨bl, ol, rfl, y0, y1, y2, y3⟩ := HL.out.below hP.bel k _ hx
         have q1 : (k : Int) < (n : Int) := by omega
         have q0 : (0 : Int) ≤ (k : Int) := by omega
         simp only at hk0 hk1 hp0 hp1 hv0 hv1
         have hwv := w64i (x := v) (by omega) (by omega)
         have HP0 := Lib.hid hP
         have HX := Lib.hid hx
         clear hP hx
         have htm : kd.tmod 5 = kd % 5 := Int.tmod_eq_emod_of_nonneg hk0
         have hc5 : 0 ≤ kd % 5 ∧ kd % 5 < 5 := by omega
         obtain ⟨c, hc⟩ : ∃ c, kd % 5 = c := ⟨_, rfl⟩
         rw [hc] at htm hc5
         have HC := Lib.hid hc
         by_cases ha : c < 2
         · have ha' : ¬ 2 ≤ c := by omega
           go_wp2_with fail
           refine (aadd_any w1.heap.size B1 b s v cs fr _ _ HP0.out.a1 HP0.out.bel.size hok (by omega)).mono ?_
           rintro e wa1 ⟨Fa1, rfl, hAa, hst⟩
           have hPa := HP0.out.step hAa hst
           obtain ⟨Y1, hY1⟩ : ∃ Y : Int, Ar.hdl b s (Ar.add cs fr v).2.2 = Y := ⟨_, rfl⟩
           rw [hY1]
           have hPb := hPa.below ((Below.refl _ wa1).alloc (Nat.le_refl _) (.cells #[.int .i64 Y1] 3))
           have s8 := row_one wa1 3 Y1
           obtain ⟨wb1, hwb1⟩ : ∃ w, wa1.alloc (.cells #[.int .i64 Y1] 3) = w := ⟨_, rfl⟩
           rw [hwb1] at hPb s8
           have HPb1 := Lib.hid hPb
           have HS81 := Lib.hid s8
           have HX1 := Lib.hid hPb.x
           have hbs1 := hPb.bel.size
           have HY1 := Lib.hid hY1
           clear hPa hPb hAa hst s8 hY1
           rw [HE1.out] at HX1
           go_wp2_with (at_builtin; refine wpList_append_src rfl _ _ 27 rfl w1.heap.size 0 3 i0 (.int .i64 0) 1 8 Try.underlying27 hi0 hz0 hz1 hz2 rfl (by decide) _ m _ rfl HX1.out _ 1 (ints [Y1]) rfl HS81.out (ints_one _) ?c3 ?c4 hbs1 ?_)
           case c3 => unfold maxLen; omega
           case c4 => omega
           intro v9 w91 o9 g9 f9
           have o9' : w91.ownsRow w1.heap.size 3 1 v9 ((Ar.hdls b s sl).length + 1) (ints (Ar.hdls b s sl) ++ ints [Y1]) := by rw [HE1.out]; exact o9
           have hP9 := HPb1.out.push o9' g9 f9
           obtain ⟨A91, c91, rfl⟩ := own_slice (own_zero o9)
           have HP3 := Lib.hid hP9
           clear hP9 o9 o9' g9 f9 hwb1
           go_wp2_with fail
           refine (aadd_any w1.heap.size B2 b' s' v cs fr _ _ HP3.out.a2 HP3.out.bel.size hok (by omega)).mono ?_
           rintro e wa2 ⟨Fa2, rfl, hAa, hst⟩
           have hPa := HP3.out.swap.step hAa hst
           obtain ⟨Y2, hY2⟩ : ∃ Y : Int, Ar.hdl b' s' (Ar.add cs fr v).2.2 = Y := ⟨_, rfl⟩
           rw [hY2]
           have hPb := hPa.below ((Below.refl _ wa2).alloc (Nat.le_refl _) (.cells #[.int .i64 Y2] 3))
           have s8 := row_one wa2 3 Y2
           obtain ⟨wb2, hwb2⟩ : ∃ w, wa2.alloc (.cells #[.int .i64 Y2] 3) = w := ⟨_, rfl⟩
           rw [hwb2] at hPb s8
           have HPb2 := Lib.hid hPb
           have HS82 := Lib.hid s8
           have HX2 := Lib.hid hPb.x
           have hbs2 := hPb.bel.size
           have HY2 := Lib.hid hY2
           clear hPa hPb hAa hst s8 hY2
           rw [HE2.out] at HX2
           go_wp2_with (at_builtin; refine wpList_append_src rfl _ _ 27 rfl w1.heap.size 0 3 i0 (.int .i64 0) 1 8 Try.underlying27 hi0 hz0 hz1 hz2 rfl (by decide) _ m _ rfl HX2.out _ 1 (ints [Y2]) rfl HS82.out (ints_one _) ?c3 ?c4 hbs2 ?_)
           case c3 => unfold maxLen; omega
           case c4 => omega
           intro v9 w92 o9 g9 f9
           have o9' : w92.ownsRow w1.heap.size 3 1 v9 ((Ar.hdls b' s' sl).length + 1) (ints (Ar.hdls b' s' sl) ++ ints [Y2]) := by rw [HE2.out]; exact o9
           have hP9 := HPb2.out.push o9' g9 f9
           obtain ⟨A92, c92, rfl⟩ := own_slice (own_zero o9)
           have HP6 := Lib.hid hP9.swap
           clear hP9 o9 o9' g9 f9 hwb2
           have hok' := Ar.add_ok hok v
           have hcl' := Ar.add_len cs fr v
           have hlt' := Ar.add_lt hok v
           go_wp2_with fail
           go_roundw
           case rel =>
             refine ⟨k + 1, (Ar.add cs fr v).1, (Ar.add cs fr v).2.1, Fa1, Fa2, sl ++ [(Ar.add cs fr v).2.2], by omega, by go_num, ?_, hok', by omega, by rw [List.length_append, HM.out]; simp <;> omega, fun j hj => ?_⟩
             · rw [Ar.hdls_append, Ar.hdls_append]
               rw [HY1.out, HY2.out]
               exact HP6.out
             · rcases List.mem_append.1 hj with hj | hj
               · have := hsl j hj; omega
               · rw [List.mem_singleton.1 hj]; exact hlt'.1
           case measure => simp [intOf]; omega
         · have ha' : 2 ≤ c := by omega
           by_cases hm0 : m = 0
           · subst hm0
             go_wp2_with fail
             refine (aadd_any w1.heap.size B1 b s v cs fr _ _ HP0.out.a1 HP0.out.bel.size hok (by omega)).mono ?_
             rintro e wa1 ⟨Fa1, rfl, hAa, hst⟩
             have hPa := HP0.out.step hAa hst
             obtain ⟨Y1, hY1⟩ : ∃ Y : Int, Ar.hdl b s (Ar.add cs fr v).2.2 = Y := ⟨_, rfl⟩
             rw [hY1]
             have hPb := hPa.below ((Below.refl _ wa1).alloc (Nat.le_refl _) (.cells #[.int .i64 Y1] 3))
             have s8 := row_one wa1 3 Y1
             obtain ⟨wb1, hwb1⟩ : ∃ w, wa1.alloc (.cells #[.int .i64 Y1] 3) = w := ⟨_, rfl⟩
             rw [hwb1] at hPb s8
             have HPb1 := Lib.hid hPb
             have HS81 := Lib.hid s8
             have HX1 := Lib.hid hPb.x
             have hbs1 := hPb.bel.size
             have HY1 := Lib.hid hY1
             clear hPa hPb hAa hst s8 hY1
             rw [HE1.out] at HX1
             go_wp2_with (at_builtin; refine wpList_append_src rfl _ _ 27 rfl w1.heap.size 0 3 i0 (.int .i64 0) 1 8 Try.underlying27 hi0 hz0 hz1 hz2 rfl (by decide) _ 0 _ rfl HX1.out _ 1 (ints [Y1]) rfl HS81.out (ints_one _) ?c3 ?c4 hbs1 ?_)
             case c3 => unfold maxLen; omega
             case c4 => omega
             intro v9 w91 o9 g9 f9
             have o9' : w91.ownsRow w1.heap.size 3 1 v9 ((Ar.hdls b s sl).length + 1) (ints (Ar.hdls b s sl) ++ ints [Y1]) := by rw [HE1.out]; exact o9
             have hP9 := HPb1.out.push o9' g9 f9
             obtain ⟨A91, c91, rfl⟩ := own_slice (own_zero o9)
             have HP3 := Lib.hid hP9
             clear hP9 o9 o9' g9 f9 hwb1
             go_wp2_with fail
             refine (aadd_any w1.heap.size B2 b' s' v cs fr _ _ HP3.out.a2 HP3.out.bel.size hok (by omega)).mono ?_
             rintro e wa2 ⟨Fa2, rfl, hAa, hst⟩
             have hPa := HP3.out.swap.step hAa hst
             obtain ⟨Y2, hY2⟩ : ∃ Y : Int, Ar.hdl b' s' (Ar.add cs fr v).2.2 = Y := ⟨_, rfl⟩
             rw [hY2]
             have hPb := hPa.below ((Below.refl _ wa2).alloc (Nat.le_refl _) (.cells #[.int .i64 Y2] 3))
             have s8 := row_one wa2 3 Y2
             obtain ⟨wb2, hwb2⟩ : ∃ w, wa2.alloc (.cells #[.int .i64 Y2] 3) = w := ⟨_, rfl⟩
             rw [hwb2] at hPb s8
             have HPb2 := Lib.hid hPb
             have HS82 := Lib.hid s8
             have HX2 := Lib.hid hPb.x
             have hbs2 := hPb.bel.size
             have HY2 := Lib.hid hY2
             clear hPa hPb hAa hst s8 hY2
             rw [HE2.out] at HX2
             go_wp2_with (at_builtin; refine wpList_append_src rfl _ _ 27 rfl w1.heap.size 0 3 i0 (.int .i64 0) 1 8 Try.underlying27 hi0 hz0 hz1 hz2 rfl (by decide) _ 0 _ rfl HX2.out _ 1 (ints [Y2]) rfl HS82.out (ints_one _) ?c3 ?c4 hbs2 ?_)
             case c3 => unfold maxLen; omega
             case c4 => omega
             intro v9 w92 o9 g9 f9
             have o9' : w92.ownsRow w1.heap.size 3 1 v9 ((Ar.hdls b' s' sl).length + 1) (ints (Ar.hdls b' s' sl) ++ ints [Y2]) := by rw [HE2.out]; exact o9
             have hP9 := HPb2.out.push o9' g9 f9
             obtain ⟨A92, c92, rfl⟩ := own_slice (own_zero o9)
             have HP6 := Lib.hid hP9.swap
             clear hP9 o9 o9' g9 f9 hwb2
             have hok' := Ar.add_ok hok v
             have hcl' := Ar.add_len cs fr v
             have hlt' := Ar.add_lt hok v
             go_wp2_with fail
             go_roundw
             case rel =>
               refine ⟨k + 1, (Ar.add cs fr v).1, (Ar.add cs fr v).2.1, Fa1, Fa2, sl ++ [(Ar.add cs fr v).2.2], by omega, by go_num, ?_, hok', by omega, by rw [List.length_append, HM.out]; simp <;> omega, fun j hj => ?_⟩
               · rw [Ar.hdls_append, Ar.hdls_append]
                 rw [HY1.out, HY2.out]
                 exact HP6.out
               · rcases List.mem_append.1 hj with hj | hj
                 · have := hsl j hj; omega
                 · rw [List.mem_singleton.1 hj]; exact hlt'.1
             case measure => simp [intOf]; omega
           · have hm0' : ¬ (m : Int) = 0 := by omega
             have hm1 : 0 < m := Nat.pos_of_ne_zero hm0
             have hzm : pk.toNat % m < m := Nat.mod_lt _ hm1
             obtain ⟨z, hz⟩ : ∃ z : Nat, pk.toNat % m = z := ⟨_, rfl⟩
             rw [hz] at hzm
             have htz : Int.tmod pk (m : Int) = (z : Int) := by
               rw [Int.tmod_eq_emod_of_nonneg hp0, ← hz, Int.natCast_emod, Int.toNat_of_nonneg hp0]
             have htz' : pk % (m : Int) = (z : Int) := by
               rw [← hz, Int.natCast_emod, Int.toNat_of_nonneg hp0]
             obtain ⟨j, hj⟩ : ∃ j, sl[z]? = some j := ⟨_, List.getElem?_eq_getElem (by rw [HM.out]; exact hzm)⟩
             have hjl := hsl j (List.mem_of_getElem? hj)
             have hlx := HP0.out.x
             have hly := HP0.out.y
             rw [HE1.out] at hlx
             rw [HE2.out] at hly
             obtain ⟨gx, hgx, _, _⟩ := own_cells (own_zero hlx) hm1
             obtain ⟨gy, hgy, _, _⟩ := own_cells (own_zero hly) hm1
             subst hgx hgy
             have hS : ∀ (W : World) (c1 c2 : List (Option Int)) (f1 f2 : List Nat) (G1 G2 : Nat → Prop), SS w1 W B1 B2 b s b' s' c1 f1 c2 f2 G1 G2 (.slice (some ⟨gx, 0, none⟩) m cx) (.slice (some ⟨gy, 0, none⟩) m cy) (Ar.hdls b s sl) (Ar.hdls b' s' sl) →
                 W.cell? ⟨bl, ol + k * 4, none⟩ = some (.int .u8 kd) ∧ W.cell? ⟨gx, z, none⟩ = some (.int .i64 (Ar.hdl b s j)) ∧ W.cell? ⟨gy, z, none⟩ = some (.int .i64 (Ar.hdl b' s' j)) := by
               intro W c1 c2 f1 f2 G1 G2 hP
               have hlx := hP.x
               have hly := hP.y
               rw [HE1.out] at hlx
               rw [HE2.out] at hly
               obtain ⟨gx', hgx, _, hcx⟩ := own_cells (own_zero hlx) hm1
               obtain ⟨gy', hgy, _, hcy⟩ := own_cells (own_zero hly) hm1
               have e1 : gx = gx' := by injection hgx with h1; injection h1
               have e2 : gy = gy' := by injection hgy with h1; injection h1
               subst e1 e2
               obtain ⟨bl', ol', he, y0', _⟩ := HL.out.below hP.bel k _ HX.out
               have e3 : bl = bl' ∧ ol = ol' := by injection he with h1; injection h1 with h1 h2 _; exact ⟨h1, h2⟩
               obtain ⟨rfl, rfl⟩ := e3
               exact ⟨y0', hcx z _ (ints_get (Ar.hdls_get hj)), hcy z _ (ints_get (Ar.hdls_get hj))⟩
             have hji := hdl_i64 b s j (by omega)
             have hji' := hdl_i64 b' s' j (by omega)
             have HS := Lib.hid hS
             have HJ := Lib.hid hj
             have qz0 : (0 : Int) ≤ (z : Int) := by omega
             have qz1 : (z : Int) < (m : Int) := by omega
             have hd : Below wr.heap.size wr wr.drew := ⟨rfl, rfl, rfl, Nat.le_refl _, fun _ _ => rfl⟩
             obtain ⟨S00, S01, S02⟩ := hS _ _ _ _ _ _ _ HP0.out
             have HP0d := Lib.hid (HP0.out.below hd)
             have S0 := hS _ _ _ _ _ _ _ HP0d.out
             clear hS hj hlx hly hz
             obtain ⟨u, hu⟩ : ∃ u, (Ar.hasAt cs j).isSome = u := ⟨_, rfl⟩
             have hhas : (Ar.has b s cs (Ar.hdl b s j)).isSome = u := by rw [Ar.has_at hjl (by omega)]; exact hu
             have hhas' : (Ar.has b' s' cs (Ar.hdl b' s' j)).isSome = u := by rw [Ar.has_at hjl (by omega)]; exact hu
             have huu : (u != u) = false := by cases u <;> rfl
             have HH := Lib.hid hhas
             have HH' := Lib.hid hhas'
             clear hhas hhas' hu
             rcases (by omega : c = 2 ∨ c = 3 ∨ c = 4) with rfl | rfl | rfl
             · go_wp2_with fail
               refine wp_region_noPanic ?_
               refine wp_region_held_drew (S := (fun W => W.cell? ⟨bl, ol + k * 4, none⟩ = some (.int .u8 kd) ∧ W.cell? ⟨gx, z, none⟩ = some (.int .i64 (Ar.hdl b s j)) ∧ W.cell? ⟨gy, z, none⟩ = some (.int .i64 (Ar.hdl b' s' j)))) (by kernel_rfl) ?_ (fun hHeld => ?_)
               · exact S0
               refine wpAnyH_take (i := 0) (oi := { dst := some 73, op := Op.move (Operand.tmp 2), type := 24, pos := "law.go:110", after := #[], guard := none }) (v := ?_) rfl (by kernel_rfl) (by kernel_rfl) (by kernel_rfl) (fun _ _ _ h => h) (Or.inl ⟨by rfl, ?_⟩) (by assumption) ?_
               rotate_left 1
               · (intro w' hSw; (try dsimp only at hSw); go_simp <;> with_reducible rfl)
               try simp only [Act.put, List.setIfInBounds_toArray, List.set_cons_zero, List.set_cons_succ]
               refine wpAnyH_take (i := 1) (oi := { dst := some 74, op := Op.move (Operand.tmp 11), type := 3, pos := "law.go:110", after := #[], guard := none }) (v := ?_) rfl (by kernel_rfl) (by kernel_rfl) (by kernel_rfl) (fun _ _ _ h => h) (Or.inl ⟨by rfl, ?_⟩) (by assumption) ?_
               rotate_left 1
               · (intro w' hSw; (try dsimp only at hSw); go_simp <;> with_reducible rfl)
               try simp only [Act.put, List.setIfInBounds_toArray, List.set_cons_zero, List.set_cons_succ]
               refine wpAnyH_take (i := 2) (oi := { dst := some 75, op := Op.indexAddr 24 (Operand.tmp 73) (Operand.tmp 74), type := 0, pos := "law.go:110", after := #[{ on := 0, ground := Ground.data }, { on := 1, ground := Ground.data }], guard := none }) (v := ?_) rfl (by kernel_rfl) (by kernel_rfl) (by kernel_rfl) (fun _ _ _ h => h) (Or.inl ⟨by rfl, ?_⟩) (by assumption) ?_
               rotate_left 1
               · (intro w' hSw; (try dsimp only at hSw); go_simp <;> with_reducible rfl)
               try simp only [Act.put, List.setIfInBounds_toArray, List.set_cons_zero, List.set_cons_succ]
               refine wpAnyH_take (i := 3) (oi := { dst := some 76, op := Op.fieldAddr 36 (Operand.tmp 75) 0, type := 0, pos := "law.go:110", after := #[{ on := 2, ground := Ground.data }], guard := none }) (v := ?_) rfl (by kernel_rfl) (by kernel_rfl) (by kernel_rfl) (fun _ _ _ h => h) (Or.inl ⟨by rfl, ?_⟩) (by assumption) ?_
               rotate_left 1
               · (intro w' hSw; (try dsimp only at hSw); go_simp <;> with_reducible rfl)
               try simp only [Act.put, List.setIfInBounds_toArray, List.set_cons_zero, List.set_cons_succ]
               refine wpAnyH_take (i := 4) (oi := { dst := some 77, op := Op.load 5 (Operand.tmp 76), type := 5, pos := "law.go:110", after := #[{ on := 3, ground := Ground.data }], guard := none }) (v := ?_) rfl (by kernel_rfl) (by kernel_rfl) (by kernel_rfl) (fun _ _ _ h => h) (Or.inl ⟨by rfl, ?_⟩) (by assumption) ?_
               rotate_left 1
               · (intro w' hSw; (try dsimp only at hSw); go_simp <;> with_reducible rfl)
               try simp only [Act.put, List.setIfInBounds_toArray, List.set_cons_zero, List.set_cons_succ]
               refine wpAnyH_take (i := 5) (oi := { dst := some 78, op := Op.binOp BinOp.rem 5 (Operand.tmp 77) (Operand.const (Value.int IntKind.u8 5)) 5, type := 5, pos := "law.go:110", after := #[{ on := 4, ground := Ground.data }], guard := none }) (v := ?_) rfl (by kernel_rfl) (by kernel_rfl) (by kernel_rfl) (fun _ _ _ h => h) (Or.inl ⟨by rfl, ?_⟩) (by assumption) ?_
               rotate_left 1
               · (intro w' hSw; (try dsimp only at hSw); go_simp <;> with_reducible rfl)
               try simp only [Act.put, List.setIfInBounds_toArray, List.set_cons_zero, List.set_cons_succ]
               refine wpAnyH_take (i := 6) (oi := { dst := some 79, op := Op.binOp BinOp.eql 5 (Operand.tmp 78) (Operand.const (Value.int IntKind.u8 2)) 5, type := 4, pos := "law.go:110", after := #[{ on := 5, ground := Ground.data }], guard := none }) (v := ?_) rfl (by kernel_rfl) (by kernel_rfl) (by kernel_rfl) (fun _ _ _ h => h) (Or.inl ⟨by rfl, ?_⟩) (by assumption) ?_
               rotate_left 1
               · (intro w' hSw; (try dsimp only at hSw); go_simp <;> with_reducible rfl)
               try simp only [Act.put, List.setIfInBounds_toArray, List.set_cons_zero, List.set_cons_succ]
               refine wpAnyH_take (i := 7) (oi := { dst := some 80, op := Op.move (Operand.tmp 79), type := 4, pos := "law.go:110", after := #[{ on := 6, ground := Ground.data }], guard := none }) (v := ?_) rfl (by kernel_rfl) (by kernel_rfl) (by kernel_rfl) (fun _ _ _ h => h) (Or.inl ⟨by rfl, ?_⟩) (by assumption) ?_
               rotate_left 1
               · (intro w' hSw; (try dsimp only at hSw); go_simp <;> with_reducible rfl)
               try simp only [Act.put, List.setIfInBounds_toArray, List.set_cons_zero, List.set_cons_succ]
               refine wpAnyH_take (i := 8) (oi := { dst := some 81, op := Op.move (Operand.tmp 9), type := 27, pos := "law.go:110", after := #[{ on := 7, ground := Ground.guard }], guard := some (7, true) }) (v := ?_) rfl (by kernel_rfl) (by kernel_rfl) (by kernel_rfl) (fun _ _ _ h => h) (Or.inl ⟨by rfl, ?_⟩) (by assumption) ?_
               rotate_left 1
               · (intro w' hSw; (try dsimp only at hSw); go_simp <;> with_reducible rfl)
               try simp only [Act.put, List.setIfInBounds_toArray, List.set_cons_zero, List.set_cons_succ]
               refine wpAnyH_take (i := 9) (oi := { dst := some 82, op := Op.move (Operand.tmp 13), type := 3, pos := "law.go:110", after := #[{ on := 7, ground := Ground.guard }], guard := some (7, true) }) (v := ?_) rfl (by kernel_rfl) (by kernel_rfl) (by kernel_rfl) (fun _ _ _ h => h) (Or.inl ⟨by rfl, ?_⟩) (by assumption) ?_
               rotate_left 1
               · (intro w' hSw; (try dsimp only at hSw); go_simp <;> with_reducible rfl)
               try simp only [Act.put, List.setIfInBounds_toArray, List.set_cons_zero, List.set_cons_succ]
               refine wpAnyH_take (i := 10) (oi := { dst := some 83, op := Op.indexAddr 27 (Operand.tmp 81) (Operand.tmp 82), type := 0, pos := "law.go:110", after := #[{ on := 8, ground := Ground.data }, { on := 9, ground := Ground.data }, { on := 7, ground := Ground.guard }], guard := some (7, true) }) (v := ?_) rfl (by kernel_rfl) (by kernel_rfl) (by kernel_rfl) (fun _ _ _ h => h) (Or.inl ⟨by rfl, ?_⟩) (by assumption) ?_
               rotate_left 1
               · (intro w' hSw; (try dsimp only at hSw); go_simp <;> with_reducible rfl)
               try simp only [Act.put, List.setIfInBounds_toArray, List.set_cons_zero, List.set_cons_succ]
               refine wpAnyH_take (i := 11) (oi := { dst := some 84, op := Op.load 3 (Operand.tmp 83), type := 3, pos := "law.go:110", after := #[{ on := 10, ground := Ground.data }, { on := 7, ground := Ground.guard }], guard := some (7, true) }) (v := ?_) rfl (by kernel_rfl) (by kernel_rfl) (by kernel_rfl) (fun _ _ _ h => h) (Or.inl ⟨by rfl, ?_⟩) (by assumption) ?_
               rotate_left 1
               · (intro w' hSw; (try dsimp only at hSw); go_simp <;> with_reducible rfl)
               try simp only [Act.put, List.setIfInBounds_toArray, List.set_cons_zero, List.set_cons_succ]
               refine wpAnyH_take (i := 12) (oi := { dst := some 85, op := Op.move (Operand.tmp 12), type := 3, pos := "law.go:110", after := #[{ on := 7, ground := Ground.guard }], guard := some (7, true) }) (v := ?_) rfl (by kernel_rfl) (by kernel_rfl) (by kernel_rfl) (fun _ _ _ h => h) (Or.inl ⟨by rfl, ?_⟩) (by assumption) ?_
               rotate_left 1
               · (intro w' hSw; (try dsimp only at hSw); go_simp <;> with_reducible rfl)
               try simp only [Act.put, List.setIfInBounds_toArray, List.set_cons_zero, List.set_cons_succ]
               refine wpAnyH_take (i := 14) (oi := { dst := some 87, op := Op.move (Operand.tmp 10), type := 27, pos := "law.go:110", after := #[{ on := 7, ground := Ground.guard }], guard := some (7, true) }) (v := ?_) rfl (by kernel_rfl) (by kernel_rfl) (by kernel_rfl) (fun _ _ _ h => h) (Or.inl ⟨by rfl, ?_⟩) (by assumption) ?_
               rotate_left 1
               · (intro w' hSw; (try dsimp only at hSw); go_simp <;> with_reducible rfl)
               try simp only [Act.put, List.setIfInBounds_toArray, List.set_cons_zero, List.set_cons_succ]
               refine wpAnyH_take (i := 15) (oi := { dst := some 88, op := Op.move (Operand.tmp 13), type := 3, pos := "law.go:110", after := #[{ on := 7, ground := Ground.guard }], guard := some (7, true) }) (v := ?_) rfl (by kernel_rfl) (by kernel_rfl) (by kernel_rfl) (fun _ _ _ h => h) (Or.inl ⟨by rfl, ?_⟩) (by assumption) ?_
               rotate_left 1
               · (intro w' hSw; (try dsimp only at hSw); go_simp <;> with_reducible rfl)
               try simp only [Act.put, List.setIfInBounds_toArray, List.set_cons_zero, List.set_cons_succ]
               refine wpAnyH_take (i := 16) (oi := { dst := some 89, op := Op.indexAddr 27 (Operand.tmp 87) (Operand.tmp 88), type := 0, pos := "law.go:110", after := #[{ on := 14, ground := Ground.data }, { on := 15, ground := Ground.data }, { on := 7, ground := Ground.guard }], guard := some (7, true) }) (v := ?_) rfl (by kernel_rfl) (by kernel_rfl) (by kernel_rfl) (fun _ _ _ h => h) (Or.inl ⟨by rfl, ?_⟩) (by assumption) ?_
               rotate_left 1
               · (intro w' hSw; (try dsimp only at hSw); go_simp <;> with_reducible rfl)
               try simp only [Act.put, List.setIfInBounds_toArray, List.set_cons_zero, List.set_cons_succ]
               refine wpAnyH_take (i := 17) (oi := { dst := some 90, op := Op.load 3 (Operand.tmp 89), type := 3, pos := "law.go:110", after := #[{ on := 16, ground := Ground.data }, { on := 7, ground := Ground.guard }], guard := some (7, true) }) (v := ?_) rfl (by kernel_rfl) (by kernel_rfl) (by kernel_rfl) (fun _ _ _ h => h) (Or.inl ⟨by rfl, ?_⟩) (by assumption) ?_
               rotate_left 1
               · (intro w' hSw; (try dsimp only at hSw); go_simp <;> with_reducible rfl)
               try simp only [Act.put, List.setIfInBounds_toArray, List.set_cons_zero, List.set_cons_succ]
               refine wpAnyH_take (i := 18) (oi := { dst := some 91, op := Op.move (Operand.tmp 12), type := 3, pos := "law.go:110", after := #[{ on := 7, ground := Ground.guard }], guard := some (7, true) }) (v := ?_) rfl (by kernel_rfl) (by kernel_rfl) (by kernel_rfl) (fun _ _ _ h => h) (Or.inl ⟨by rfl, ?_⟩) (by assumption) ?_
               rotate_left 1
               · (intro w' hSw; (try dsimp only at hSw); go_simp <;> with_reducible rfl)
               try simp only [Act.put, List.setIfInBounds_toArray, List.set_cons_zero, List.set_cons_succ]
               refine wpAnyH_ready (rs := [13]) (by kernel_rfl) (by simp) ?_
               refine AllReadyH.cons (o := { dst := some 86, op := Op.call { callee := Callee.value (Operand.func 17), args := #[Operand.tmp 7, Operand.tmp 84, Operand.tmp 85], argTypes := #[29, 3, 3] }, type := 4, pos := "law.go:110", after := #[{ on := 11, ground := Ground.data }, { on := 12, ground := Ground.data }, { on := 7, ground := Ground.chain }, { on := 7, ground := Ground.guard }], guard := some (7, true) }) rfl (fun K hK => ?_) AllReadyH.nil
               go_simp
               refine (aset_any w1.heap.size B1 b s (Ar.hdl b s j) v cs fr F1 wr.drew HP0d.out.a1 HP0d.out.bel.size hji (by omega)).mono ?_
               rintro e w4 ⟨rfl, hA4, ht4⟩
               rw [HH.out]
               rw [Ar.set_at hjl (by omega)] at hA4
               have hP4 := HP0d.out.step hA4 (.of_turns ht4)
               have S4 := HS.out _ _ _ _ _ _ _ hP4
               clear hA4 ht4
               go_wp2_with fail
               refine hK.out _ _ ?_ (fun hHeld => ?_)
               · exact S4
               clear hK K
               try simp only [Act.put, List.setIfInBounds_toArray, List.set_cons_zero, List.set_cons_succ]
               refine wpAnyH_ready (rs := [19]) (by kernel_rfl) (by simp) ?_
               refine AllReadyH.cons (o := { dst := some 92, op := Op.call { callee := Callee.value (Operand.func 17), args := #[Operand.tmp 8, Operand.tmp 90, Operand.tmp 91], argTypes := #[29, 3, 3] }, type := 4, pos := "law.go:110", after := #[{ on := 17, ground := Ground.data }, { on := 18, ground := Ground.data }, { on := 13, ground := Ground.chain }, { on := 7, ground := Ground.guard }], guard := some (7, true) }) rfl (fun K hK => ?_) AllReadyH.nil
               go_simp
               refine (aset_any w1.heap.size B2 b' s' (Ar.hdl b' s' j) v cs fr F2 w4 hP4.a2 hP4.bel.size hji' (by omega)).mono ?_
               rintro e w5 ⟨rfl, hA5, ht5⟩
               rw [HH'.out]
               rw [Ar.set_at hjl (by omega)] at hA5
               have hP5 := (hP4.swap.step hA5 (.of_turns ht5)).swap
               have S5 := HS.out _ _ _ _ _ _ _ hP5
               clear hA5 ht5
               go_wp2_with fail
               refine hK.out _ _ ?_ (fun hHeld => ?_)
               · exact S5
               clear hK K
               try simp only [Act.put, List.setIfInBounds_toArray, List.set_cons_zero, List.set_cons_succ]
               refine wpAnyH_take (i := 20) (oi := { dst := some 93, op := Op.binOp BinOp.neq 4 (Operand.tmp 86) (Operand.tmp 92) 4, type := 4, pos := "law.go:110", after := #[{ on := 13, ground := Ground.data }, { on := 19, ground := Ground.data }, { on := 7, ground := Ground.guard }], guard := some (7, true) }) (v := ?_) rfl (by kernel_rfl) (by kernel_rfl) (by kernel_rfl) (fun _ _ _ h => h) (Or.inl ⟨by rfl, ?_⟩) (by assumption) ?_
               rotate_left 1
               · (intro w' hSw; (try dsimp only at hSw); go_simp <;> with_reducible rfl)
               try simp only [Act.put, List.setIfInBounds_toArray, List.set_cons_zero, List.set_cons_succ]
               refine wpAnyH_take (i := 21) (oi := { dst := some 94, op := Op.pick (Operand.tmp 80) (Operand.tmp 93) (Operand.const (Value.bool false)), type := 4, pos := "law.go:110", after := #[{ on := 7, ground := Ground.data }, { on := 20, ground := Ground.data }], guard := none }) (v := ?_) rfl (by kernel_rfl) (by kernel_rfl) (by kernel_rfl) (fun _ _ _ h => h) (Or.inl ⟨by rfl, ?_⟩) (by assumption) ?_
               rotate_left 1
               · (intro w' hSw; (try dsimp only at hSw); go_simp <;> with_reducible rfl)
               try simp only [Act.put, List.setIfInBounds_toArray, List.set_cons_zero, List.set_cons_succ]
               refine wpAnyH_take (i := 22) (oi := { dst := some 95, op := Op.move (Operand.tmp 94), type := 4, pos := "law.go:110", after := #[{ on := 21, ground := Ground.data }, { on := 19, ground := Ground.chain }], guard := none }) (v := ?_) rfl (by kernel_rfl) (by kernel_rfl) (by kernel_rfl) (fun _ _ _ h => h) (Or.inl ⟨by rfl, ?_⟩) (by assumption) ?_
               rotate_left 1
               · (intro w' hSw; (try dsimp only at hSw); go_simp <;> with_reducible rfl)
               try simp only [Act.put, List.setIfInBounds_toArray, List.set_cons_zero, List.set_cons_succ]
               refine wpAnyH_take (i := 23) (oi := { dst := some 96, op := Op.move (Operand.tmp 2), type := 24, pos := "law.go:110", after := #[{ on := 22, ground := Ground.guard }], guard := some (22, false) }) (v := ?_) rfl (by kernel_rfl) (by kernel_rfl) (by kernel_rfl) (fun _ _ _ h => h) (Or.inl ⟨by rfl, ?_⟩) (by assumption) ?_
               rotate_left 1
               · (intro w' hSw; (try dsimp only at hSw); go_simp <;> with_reducible rfl)
               try simp only [Act.put, List.setIfInBounds_toArray, List.set_cons_zero, List.set_cons_succ]
               refine wpAnyH_take (i := 24) (oi := { dst := some 97, op := Op.move (Operand.tmp 11), type := 3, pos := "law.go:110", after := #[{ on := 22, ground := Ground.guard }], guard := some (22, false) }) (v := ?_) rfl (by kernel_rfl) (by kernel_rfl) (by kernel_rfl) (fun _ _ _ h => h) (Or.inl ⟨by rfl, ?_⟩) (by assumption) ?_
               rotate_left 1
               · (intro w' hSw; (try dsimp only at hSw); go_simp <;> with_reducible rfl)
               try simp only [Act.put, List.setIfInBounds_toArray, List.set_cons_zero, List.set_cons_succ]
               refine wpAnyH_take (i := 25) (oi := { dst := some 98, op := Op.indexAddr 24 (Operand.tmp 96) (Operand.tmp 97), type := 0, pos := "law.go:110", after := #[{ on := 23, ground := Ground.data }, { on := 24, ground := Ground.data }, { on := 22, ground := Ground.guard }], guard := some (22, false) }) (v := ?_) rfl (by kernel_rfl) (by kernel_rfl) (by kernel_rfl) (fun _ _ _ h => h) (Or.inl ⟨by rfl, ?_⟩) (by assumption) ?_
               rotate_left 1
               · (intro w' hSw; (try dsimp only at hSw); go_simp <;> with_reducible rfl)
               try simp only [Act.put, List.setIfInBounds_toArray, List.set_cons_zero, List.set_cons_succ]
               refine wpAnyH_take (i := 26) (oi := { dst := some 99, op := Op.fieldAddr 36 (Operand.tmp 98) 0, type := 0, pos := "law.go:110", after := #[{ on := 25, ground := Ground.data }, { on := 22, ground := Ground.guard }], guard := some (22, false) }) (v := ?_) rfl (by kernel_rfl) (by kernel_rfl) (by kernel_rfl) (fun _ _ _ h => h) (Or.inl ⟨by rfl, ?_⟩) (by assumption) ?_
               rotate_left 1
               · (intro w' hSw; (try dsimp only at hSw); go_simp <;> with_reducible rfl)
               try simp only [Act.put, List.setIfInBounds_toArray, List.set_cons_zero, List.set_cons_succ]
               refine wpAnyH_take (i := 27) (oi := { dst := some 100, op := Op.load 5 (Operand.tmp 99), type := 5, pos := "law.go:110", after := #[{ on := 26, ground := Ground.data }, { on := 22, ground := Ground.guard }], guard := some (22, false) }) (v := ?_) rfl (by kernel_rfl) (by kernel_rfl) (by kernel_rfl) (fun _ _ _ h => h) (Or.inl ⟨by rfl, ?_⟩) (by assumption) ?_
               rotate_left 1
               · (intro w' hSw; (try dsimp only at hSw); go_simp <;> with_reducible rfl)
               try simp only [Act.put, List.setIfInBounds_toArray, List.set_cons_zero, List.set_cons_succ]
               refine wpAnyH_take (i := 28) (oi := { dst := some 101, op := Op.binOp BinOp.rem 5 (Operand.tmp 100) (Operand.const (Value.int IntKind.u8 5)) 5, type := 5, pos := "law.go:110", after := #[{ on := 27, ground := Ground.data }, { on := 22, ground := Ground.guard }], guard := some (22, false) }) (v := ?_) rfl (by kernel_rfl) (by kernel_rfl) (by kernel_rfl) (fun _ _ _ h => h) (Or.inl ⟨by rfl, ?_⟩) (by assumption) ?_
               rotate_left 1
               · (intro w' hSw; (try dsimp only at hSw); go_simp <;> with_reducible rfl)
               try simp only [Act.put, List.setIfInBounds_toArray, List.set_cons_zero, List.set_cons_succ]
               refine wpAnyH_take (i := 29) (oi := { dst := some 102, op := Op.binOp BinOp.eql 5 (Operand.tmp 101) (Operand.const (Value.int IntKind.u8 3)) 5, type := 4, pos := "law.go:110", after := #[{ on := 28, ground := Ground.data }, { on := 22, ground := Ground.guard }], guard := some (22, false) }) (v := ?_) rfl (by kernel_rfl) (by kernel_rfl) (by kernel_rfl) (fun _ _ _ h => h) (Or.inl ⟨by rfl, ?_⟩) (by assumption) ?_
               rotate_left 1
               · (intro w' hSw; (try dsimp only at hSw); go_simp <;> with_reducible rfl)
               try simp only [Act.put, List.setIfInBounds_toArray, List.set_cons_zero, List.set_cons_succ]
               refine wpAnyH_take (i := 30) (oi := { dst := some 103, op := Op.move (Operand.tmp 102), type := 4, pos := "law.go:110", after := #[{ on := 29, ground := Ground.data }, { on := 22, ground := Ground.chain }, { on := 22, ground := Ground.guard }], guard := some (22, false) }) (v := ?_) rfl (by kernel_rfl) (by kernel_rfl) (by kernel_rfl) (fun _ _ _ h => h) (Or.inl ⟨by rfl, ?_⟩) (by assumption) ?_
               rotate_left 1
               · (intro w' hSw; (try dsimp only at hSw); go_simp <;> with_reducible rfl)
               try simp only [Act.put, List.setIfInBounds_toArray, List.set_cons_zero, List.set_cons_succ]
               refine wpAnyH_take (i := 31) (oi := { dst := some 104, op := Op.move (Operand.tmp 9), type := 27, pos := "law.go:110", after := #[{ on := 30, ground := Ground.guard }], guard := some (30, true) }) (v := undef) rfl (by kernel_rfl) (by kernel_rfl) (by kernel_rfl) (fun _ _ _ h => h) (Or.inr ⟨by rfl, rfl⟩) (by assumption) ?_
               try simp only [Act.put, List.setIfInBounds_toArray, List.set_cons_zero, List.set_cons_succ]
               refine wpAnyH_take (i := 32) (oi := { dst := some 105, op := Op.move (Operand.tmp 13), type := 3, pos := "law.go:110", after := #[{ on := 30, ground := Ground.guard }], guard := some (30, true) }) (v := undef) rfl (by kernel_rfl) (by kernel_rfl) (by kernel_rfl) (fun _ _ _ h => h) (Or.inr ⟨by rfl, rfl⟩) (by assumption) ?_
               try simp only [Act.put, List.setIfInBounds_toArray, List.set_cons_zero, List.set_cons_succ]
               refine wpAnyH_take (i := 33) (oi := { dst := some 106, op := Op.indexAddr 27 (Operand.tmp 104) (Operand.tmp 105), type := 0, pos := "law.go:110", after := #[{ on := 31, ground := Ground.data }, { on := 32, ground := Ground.data }, { on := 30, ground := Ground.guard }], guard := some (30, true) }) (v := undef) rfl (by kernel_rfl) (by kernel_rfl) (by kernel_rfl) (fun _ _ _ h => h) (Or.inr ⟨by rfl, rfl⟩) (by assumption) ?_
               try simp only [Act.put, List.setIfInBounds_toArray, List.set_cons_zero, List.set_cons_succ]
               refine wpAnyH_take (i := 34) (oi := { dst := some 107, op := Op.load 3 (Operand.tmp 106), type := 3, pos := "law.go:110", after := #[{ on := 33, ground := Ground.data }, { on := 30, ground := Ground.guard }], guard := some (30, true) }) (v := undef) rfl (by kernel_rfl) (by kernel_rfl) (by kernel_rfl) (fun _ _ _ h => h) (Or.inr ⟨by rfl, rfl⟩) (by assumption) ?_
               try simp only [Act.put, List.setIfInBounds_toArray, List.set_cons_zero, List.set_cons_succ]
               refine wpAnyH_take (i := 35) (oi := { dst := some 108, op := Op.call { callee := Callee.value (Operand.func 19), args := #[Operand.tmp 7, Operand.tmp 107], argTypes := #[29, 3] }, type := 4, pos := "law.go:110", after := #[{ on := 34, ground := Ground.data }, { on := 30, ground := Ground.chain }, { on := 30, ground := Ground.guard }], guard := some (30, true) }) (v := undef) rfl (by kernel_rfl) (by kernel_rfl) (by kernel_rfl) (fun _ _ _ h => h) (Or.inr ⟨by rfl, rfl⟩) (by assumption) ?_
               try simp only [Act.put, List.setIfInBounds_toArray, List.set_cons_zero, List.set_cons_succ]
               refine wpAnyH_take (i := 36) (oi := { dst := some 109, op := Op.move (Operand.tmp 10), type := 27, pos := "law.go:110", after := #[{ on := 30, ground := Ground.guard }], guard := some (30, true) }) (v := undef) rfl (by kernel_rfl) (by kernel_rfl) (by kernel_rfl) (fun _ _ _ h => h) (Or.inr ⟨by rfl, rfl⟩) (by assumption) ?_
               try simp only [Act.put, List.setIfInBounds_toArray, List.set_cons_zero, List.set_cons_succ]
               refine wpAnyH_take (i := 37) (oi := { dst := some 110, op := Op.move (Operand.tmp 13), type := 3, pos := "law.go:110", after := #[{ on := 30, ground := Ground.guard }], guard := some (30, true) }) (v := undef) rfl (by kernel_rfl) (by kernel_rfl) (by kernel_rfl) (fun _ _ _ h => h) (Or.inr ⟨by rfl, rfl⟩) (by assumption) ?_
               try simp only [Act.put, List.setIfInBounds_toArray, List.set_cons_zero, List.set_cons_succ]
               refine wpAnyH_take (i := 38) (oi := { dst := some 111, op := Op.indexAddr 27 (Operand.tmp 109) (Operand.tmp 110), type := 0, pos := "law.go:110", after := #[{ on := 36, ground := Ground.data }, { on := 37, ground := Ground.data }, { on := 30, ground := Ground.guard }], guard := some (30, true) }) (v := undef) rfl (by kernel_rfl) (by kernel_rfl) (by kernel_rfl) (fun _ _ _ h => h) (Or.inr ⟨by rfl, rfl⟩) (by assumption) ?_
               try simp only [Act.put, List.setIfInBounds_toArray, List.set_cons_zero, List.set_cons_succ]
               refine wpAnyH_take (i := 39) (oi := { dst := some 112, op := Op.load 3 (Operand.tmp 111), type := 3, pos := "law.go:110", after := #[{ on := 38, ground := Ground.data }, { on := 30, ground := Ground.guard }], guard := some (30, true) }) (v := undef) rfl (by kernel_rfl) (by kernel_rfl) (by kernel_rfl) (fun _ _ _ h => h) (Or.inr ⟨by rfl, rfl⟩) (by assumption) ?_
               try simp only [Act.put, List.setIfInBounds_toArray, List.set_cons_zero, List.set_cons_succ]
               refine wpAnyH_take (i := 40) (oi := { dst := some 113, op := Op.call { callee := Callee.value (Operand.func 19), args := #[Operand.tmp 8, Operand.tmp 112], argTypes := #[29, 3] }, type := 4, pos := "law.go:110", after := #[{ on := 39, ground := Ground.data }, { on := 35, ground := Ground.chain }, { on := 30, ground := Ground.guard }], guard := some (30, true) }) (v := undef) rfl (by kernel_rfl) (by kernel_rfl) (by kernel_rfl) (fun _ _ _ h => h) (Or.inr ⟨by rfl, rfl⟩) (by assumption) ?_
               try simp only [Act.put, List.setIfInBounds_toArray, List.set_cons_zero, List.set_cons_succ]
               refine wpAnyH_take (i := 41) (oi := { dst := some 114, op := Op.binOp BinOp.neq 4 (Operand.tmp 108) (Operand.tmp 113) 4, type := 4, pos := "law.go:110", after := #[{ on := 35, ground := Ground.data }, { on := 40, ground := Ground.data }, { on := 30, ground := Ground.guard }], guard := some (30, true) }) (v := undef) rfl (by kernel_rfl) (by kernel_rfl) (by kernel_rfl) (fun _ _ _ h => h) (Or.inr ⟨by rfl, rfl⟩) (by assumption) ?_
               try simp only [Act.put, List.setIfInBounds_toArray, List.set_cons_zero, List.set_cons_succ]
               refine wpAnyH_take (i := 42) (oi := { dst := some 115, op := Op.pick (Operand.tmp 103) (Operand.tmp 114) (Operand.const (Value.bool false)), type := 4, pos := "law.go:110", after := #[{ on := 30, ground := Ground.data }, { on := 41, ground := Ground.data }, { on := 22, ground := Ground.guard }], guard := some (22, false) }) (v := ?_) rfl (by kernel_rfl) (by kernel_rfl) (by kernel_rfl) (fun _ _ _ h => h) (Or.inl ⟨by rfl, ?_⟩) (by assumption) ?_
               rotate_left 1
               · (intro w' hSw; (try dsimp only at hSw); go_simp <;> with_reducible rfl)
               try simp only [Act.put, List.setIfInBounds_toArray, List.set_cons_zero, List.set_cons_succ]
               refine wpAnyH_take (i := 43) (oi := { dst := some 116, op := Op.pick (Operand.tmp 95) (Operand.const (Value.bool true)) (Operand.tmp 115), type := 4, pos := "law.go:110", after := #[{ on := 22, ground := Ground.data }, { on := 42, ground := Ground.data }], guard := none }) (v := ?_) rfl (by kernel_rfl) (by kernel_rfl) (by kernel_rfl) (fun _ _ _ h => h) (Or.inl ⟨by rfl, ?_⟩) (by assumption) ?_
               rotate_left 1
               · (intro w' hSw; (try dsimp only at hSw); go_simp <;> with_reducible rfl)
               try simp only [Act.put, List.setIfInBounds_toArray, List.set_cons_zero, List.set_cons_succ]
               refine wpAnyH_done (by kernel_rfl) ?_ _
               refine NoPanic.normal ?_
               obtain ⟨S50, S51, S52⟩ := S5
               have hct := (Ar.setAt_ok (j := j) (v := v) hok).2
               have hco := (Ar.setAt_ok (j := j) (v := v) hok).1
               have HP5 := Lib.hid hP5
               have HCT := Lib.hid hct
               clear hct hP5 HP0d HP0 S0 S00 S01 S02 y0 y1 y2 y3 S4 hP4
               go_wp2_with fail
               refine (aget_any w1.heap.size B1 b s (Ar.hdl b s j) _ _ _ w5 HP5.out.a1 hji (by rw [HCT.out]; omega)).mono ?_
               rintro e w6 ⟨rfl, hb6⟩
               have hP6 := HP5.out.below hb6
               obtain ⟨S60, S61, S62⟩ := HS.out _ _ _ _ _ _ _ hP6
               rw [Ar.get_at (by rw [HCT.out]; exact hjl) (by rw [HCT.out]; omega)]
               obtain ⟨G, hG⟩ : ∃ G, Ar.getAt (Ar.setAt cs j v) j = G := ⟨_, rfl⟩
               rw [hG]
               have HG := Lib.hid hG
               have HP6 := Lib.hid hP6
               clear hP6 hb6 hG S50 S51 S52
               go_wp2_with fail
               refine (aget_any w1.heap.size B2 b' s' (Ar.hdl b' s' j) _ _ _ w6 HP6.out.a2 hji' (by rw [HCT.out]; omega)).mono ?_
               rintro e w7 ⟨rfl, hb7⟩
               rw [Ar.get_at (by rw [HCT.out]; exact hjl) (by rw [HCT.out]; omega), HG.out]
               have HP7 := Lib.hid (HP6.out.below hb7)
               have hgg : (G.isSome != G.isSome) = false := by cases G <;> rfl
               clear hb7 S60 S61 S62
               go_wp2_with fail
               go_roundw
               case rel => exact ⟨k + 1, (Ar.setAt cs j v), fr, _, _, sl, by omega, by go_num, HP7.out, hco, by rw [HCT.out]; omega, by rw [HM.out]; omega, fun j hj => by rw [HCT.out]; exact hsl j hj⟩
               case measure => simp [intOf]; omega
             · go_wp2_with fail
               refine wp_region_noPanic ?_
               refine wp_region_held_drew (S := (fun W => W.cell? ⟨bl, ol + k * 4, none⟩ = some (.int .u8 kd) ∧ W.cell? ⟨gx, z, none⟩ = some (.int .i64 (Ar.hdl b s j)) ∧ W.cell? ⟨gy, z, none⟩ = some (.int .i64 (Ar.hdl b' s' j)))) (by kernel_rfl) ?_ (fun hHeld => ?_)
               · exact S0
               refine wpAnyH_take (i := 0) (oi := { dst := some 73, op := Op.move (Operand.tmp 2), type := 24, pos := "law.go:110", after := #[], guard := none }) (v := ?_) rfl (by kernel_rfl) (by kernel_rfl) (by kernel_rfl) (fun _ _ _ h => h) (Or.inl ⟨by rfl, ?_⟩) (by assumption) ?_
               rotate_left 1
               · (intro w' hSw; (try dsimp only at hSw); go_simp <;> with_reducible rfl)
               try simp only [Act.put, List.setIfInBounds_toArray, List.set_cons_zero, List.set_cons_succ]
               refine wpAnyH_take (i := 1) (oi := { dst := some 74, op := Op.move (Operand.tmp 11), type := 3, pos := "law.go:110", after := #[], guard := none }) (v := ?_) rfl (by kernel_rfl) (by kernel_rfl) (by kernel_rfl) (fun _ _ _ h => h) (Or.inl ⟨by rfl, ?_⟩) (by assumption) ?_
               rotate_left 1
               · (intro w' hSw; (try dsimp only at hSw); go_simp <;> with_reducible rfl)
               try simp only [Act.put, List.setIfInBounds_toArray, List.set_cons_zero, List.set_cons_succ]
               refine wpAnyH_take (i := 2) (oi := { dst := some 75, op := Op.indexAddr 24 (Operand.tmp 73) (Operand.tmp 74), type := 0, pos := "law.go:110", after := #[{ on := 0, ground := Ground.data }, { on := 1, ground := Ground.data }], guard := none }) (v := ?_) rfl (by kernel_rfl) (by kernel_rfl) (by kernel_rfl) (fun _ _ _ h => h) (Or.inl ⟨by rfl, ?_⟩) (by assumption) ?_
               rotate_left 1
               · (intro w' hSw; (try dsimp only at hSw); go_simp <;> with_reducible rfl)
               try simp only [Act.put, List.setIfInBounds_toArray, List.set_cons_zero, List.set_cons_succ]
               refine wpAnyH_take (i := 3) (oi := { dst := some 76, op := Op.fieldAddr 36 (Operand.tmp 75) 0, type := 0, pos := "law.go:110", after := #[{ on := 2, ground := Ground.data }], guard := none }) (v := ?_) rfl (by kernel_rfl) (by kernel_rfl) (by kernel_rfl) (fun _ _ _ h => h) (Or.inl ⟨by rfl, ?_⟩) (by assumption) ?_
               rotate_left 1
               · (intro w' hSw; (try dsimp only at hSw); go_simp <;> with_reducible rfl)
               try simp only [Act.put, List.setIfInBounds_toArray, List.set_cons_zero, List.set_cons_succ]
               refine wpAnyH_take (i := 4) (oi := { dst := some 77, op := Op.load 5 (Operand.tmp 76), type := 5, pos := "law.go:110", after := #[{ on := 3, ground := Ground.data }], guard := none }) (v := ?_) rfl (by kernel_rfl) (by kernel_rfl) (by kernel_rfl) (fun _ _ _ h => h) (Or.inl ⟨by rfl, ?_⟩) (by assumption) ?_
               rotate_left 1
               · (intro w' hSw; (try dsimp only at hSw); go_simp <;> with_reducible rfl)
               try simp only [Act.put, List.setIfInBounds_toArray, List.set_cons_zero, List.set_cons_succ]
               refine wpAnyH_take (i := 5) (oi := { dst := some 78, op := Op.binOp BinOp.rem 5 (Operand.tmp 77) (Operand.const (Value.int IntKind.u8 5)) 5, type := 5, pos := "law.go:110", after := #[{ on := 4, ground := Ground.data }], guard := none }) (v := ?_) rfl (by kernel_rfl) (by kernel_rfl) (by kernel_rfl) (fun _ _ _ h => h) (Or.inl ⟨by rfl, ?_⟩) (by assumption) ?_
               rotate_left 1
               · (intro w' hSw; (try dsimp only at hSw); go_simp <;> with_reducible rfl)
               try simp only [Act.put, List.setIfInBounds_toArray, List.set_cons_zero, List.set_cons_succ]
               refine wpAnyH_take (i := 6) (oi := { dst := some 79, op := Op.binOp BinOp.eql 5 (Operand.tmp 78) (Operand.const (Value.int IntKind.u8 2)) 5, type := 4, pos := "law.go:110", after := #[{ on := 5, ground := Ground.data }], guard := none }) (v := ?_) rfl (by kernel_rfl) (by kernel_rfl) (by kernel_rfl) (fun _ _ _ h => h) (Or.inl ⟨by rfl, ?_⟩) (by assumption) ?_
               rotate_left 1
               · (intro w' hSw; (try dsimp only at hSw); go_simp <;> with_reducible rfl)
               try simp only [Act.put, List.setIfInBounds_toArray, List.set_cons_zero, List.set_cons_succ]
               refine wpAnyH_take (i := 7) (oi := { dst := some 80, op := Op.move (Operand.tmp 79), type := 4, pos := "law.go:110", after := #[{ on := 6, ground := Ground.data }], guard := none }) (v := ?_) rfl (by kernel_rfl) (by kernel_rfl) (by kernel_rfl) (fun _ _ _ h => h) (Or.inl ⟨by rfl, ?_⟩) (by assumption) ?_
               rotate_left 1
               · (intro w' hSw; (try dsimp only at hSw); go_simp <;> with_reducible rfl)
               try simp only [Act.put, List.setIfInBounds_toArray, List.set_cons_zero, List.set_cons_succ]
               refine wpAnyH_take (i := 8) (oi := { dst := some 81, op := Op.move (Operand.tmp 9), type := 27, pos := "law.go:110", after := #[{ on := 7, ground := Ground.guard }], guard := some (7, true) }) (v := undef) rfl (by kernel_rfl) (by kernel_rfl) (by kernel_rfl) (fun _ _ _ h => h) (Or.inr ⟨by rfl, rfl⟩) (by assumption) ?_
               try simp only [Act.put, List.setIfInBounds_toArray, List.set_cons_zero, List.set_cons_succ]
               refine wpAnyH_take (i := 9) (oi := { dst := some 82, op := Op.move (Operand.tmp 13), type := 3, pos := "law.go:110", after := #[{ on := 7, ground := Ground.guard }], guard := some (7, true) }) (v := undef) rfl (by kernel_rfl) (by kernel_rfl) (by kernel_rfl) (fun _ _ _ h => h) (Or.inr ⟨by rfl, rfl⟩) (by assumption) ?_
               try simp only [Act.put, List.setIfInBounds_toArray, List.set_cons_zero, List.set_cons_succ]
               refine wpAnyH_take (i := 10) (oi := { dst := some 83, op := Op.indexAddr 27 (Operand.tmp 81) (Operand.tmp 82), type := 0, pos := "law.go:110", after := #[{ on := 8, ground := Ground.data }, { on := 9, ground := Ground.data }, { on := 7, ground := Ground.guard }], guard := some (7, true) }) (v := undef) rfl (by kernel_rfl) (by kernel_rfl) (by kernel_rfl) (fun _ _ _ h => h) (Or.inr ⟨by rfl, rfl⟩) (by assumption) ?_
               try simp only [Act.put, List.setIfInBounds_toArray, List.set_cons_zero, List.set_cons_succ]
               refine wpAnyH_take (i := 11) (oi := { dst := some 84, op := Op.load 3 (Operand.tmp 83), type := 3, pos := "law.go:110", after := #[{ on := 10, ground := Ground.data }, { on := 7, ground := Ground.guard }], guard := some (7, true) }) (v := undef) rfl (by kernel_rfl) (by kernel_rfl) (by kernel_rfl) (fun _ _ _ h => h) (Or.inr ⟨by rfl, rfl⟩) (by assumption) ?_
               try simp only [Act.put, List.setIfInBounds_toArray, List.set_cons_zero, List.set_cons_succ]
               refine wpAnyH_take (i := 12) (oi := { dst := some 85, op := Op.move (Operand.tmp 12), type := 3, pos := "law.go:110", after := #[{ on := 7, ground := Ground.guard }], guard := some (7, true) }) (v := undef) rfl (by kernel_rfl) (by kernel_rfl) (by kernel_rfl) (fun _ _ _ h => h) (Or.inr ⟨by rfl, rfl⟩) (by assumption) ?_
               try simp only [Act.put, List.setIfInBounds_toArray, List.set_cons_zero, List.set_cons_succ]
               refine wpAnyH_take (i := 13) (oi := { dst := some 86, op := Op.call { callee := Callee.value (Operand.func 17), args := #[Operand.tmp 7, Operand.tmp 84, Operand.tmp 85], argTypes := #[29, 3, 3] }, type := 4, pos := "law.go:110", after := #[{ on := 11, ground := Ground.data }, { on := 12, ground := Ground.data }, { on := 7, ground := Ground.chain }, { on := 7, ground := Ground.guard }], guard := some (7, true) }) (v := undef) rfl (by kernel_rfl) (by kernel_rfl) (by kernel_rfl) (fun _ _ _ h => h) (Or.inr ⟨by rfl, rfl⟩) (by assumption) ?_
               try simp only [Act.put, List.setIfInBounds_toArray, List.set_cons_zero, List.set_cons_succ]
               refine wpAnyH_take (i := 14) (oi := { dst := some 87, op := Op.move (Operand.tmp 10), type := 27, pos := "law.go:110", after := #[{ on := 7, ground := Ground.guard }], guard := some (7, true) }) (v := undef) rfl (by kernel_rfl) (by kernel_rfl) (by kernel_rfl) (fun _ _ _ h => h) (Or.inr ⟨by rfl, rfl⟩) (by assumption) ?_
               try simp only [Act.put, List.setIfInBounds_toArray, List.set_cons_zero, List.set_cons_succ]
               refine wpAnyH_take (i := 15) (oi := { dst := some 88, op := Op.move (Operand.tmp 13), type := 3, pos := "law.go:110", after := #[{ on := 7, ground := Ground.guard }], guard := some (7, true) }) (v := undef) rfl (by kernel_rfl) (by kernel_rfl) (by kernel_rfl) (fun _ _ _ h => h) (Or.inr ⟨by rfl, rfl⟩) (by assumption) ?_
               try simp only [Act.put, List.setIfInBounds_toArray, List.set_cons_zero, List.set_cons_succ]
               refine wpAnyH_take (i := 16) (oi := { dst := some 89, op := Op.indexAddr 27 (Operand.tmp 87) (Operand.tmp 88), type := 0, pos := "law.go:110", after := #[{ on := 14, ground := Ground.data }, { on := 15, ground := Ground.data }, { on := 7, ground := Ground.guard }], guard := some (7, true) }) (v := undef) rfl (by kernel_rfl) (by kernel_rfl) (by kernel_rfl) (fun _ _ _ h => h) (Or.inr ⟨by rfl, rfl⟩) (by assumption) ?_
               try simp only [Act.put, List.setIfInBounds_toArray, List.set_cons_zero, List.set_cons_succ]
               refine wpAnyH_take (i := 17) (oi := { dst := some 90, op := Op.load 3 (Operand.tmp 89), type := 3, pos := "law.go:110", after := #[{ on := 16, ground := Ground.data }, { on := 7, ground := Ground.guard }], guard := some (7, true) }) (v := undef) rfl (by kernel_rfl) (by kernel_rfl) (by kernel_rfl) (fun _ _ _ h => h) (Or.inr ⟨by rfl, rfl⟩) (by assumption) ?_
               try simp only [Act.put, List.setIfInBounds_toArray, List.set_cons_zero, List.set_cons_succ]
               refine wpAnyH_take (i := 18) (oi := { dst := some 91, op := Op.move (Operand.tmp 12), type := 3, pos := "law.go:110", after := #[{ on := 7, ground := Ground.guard }], guard := some (7, true) }) (v := undef) rfl (by kernel_rfl) (by kernel_rfl) (by kernel_rfl) (fun _ _ _ h => h) (Or.inr ⟨by rfl, rfl⟩) (by assumption) ?_
               try simp only [Act.put, List.setIfInBounds_toArray, List.set_cons_zero, List.set_cons_succ]
               refine wpAnyH_take (i := 19) (oi := { dst := some 92, op := Op.call { callee := Callee.value (Operand.func 17), args := #[Operand.tmp 8, Operand.tmp 90, Operand.tmp 91], argTypes := #[29, 3, 3] }, type := 4, pos := "law.go:110", after := #[{ on := 17, ground := Ground.data }, { on := 18, ground := Ground.data }, { on := 13, ground := Ground.chain }, { on := 7, ground := Ground.guard }], guard := some (7, true) }) (v := undef) rfl (by kernel_rfl) (by kernel_rfl) (by kernel_rfl) (fun _ _ _ h => h) (Or.inr ⟨by rfl, rfl⟩) (by assumption) ?_
               try simp only [Act.put, List.setIfInBounds_toArray, List.set_cons_zero, List.set_cons_succ]
               refine wpAnyH_take (i := 20) (oi := { dst := some 93, op := Op.binOp BinOp.neq 4 (Operand.tmp 86) (Operand.tmp 92) 4, type := 4, pos := "law.go:110", after := #[{ on := 13, ground := Ground.data }, { on := 19, ground := Ground.data }, { on := 7, ground := Ground.guard }], guard := some (7, true) }) (v := undef) rfl (by kernel_rfl) (by kernel_rfl) (by kernel_rfl) (fun _ _ _ h => h) (Or.inr ⟨by rfl, rfl⟩) (by assumption) ?_
               try simp only [Act.put, List.setIfInBounds_toArray, List.set_cons_zero, List.set_cons_succ]
               refine wpAnyH_take (i := 21) (oi := { dst := some 94, op := Op.pick (Operand.tmp 80) (Operand.tmp 93) (Operand.const (Value.bool false)), type := 4, pos := "law.go:110", after := #[{ on := 7, ground := Ground.data }, { on := 20, ground := Ground.data }], guard := none }) (v := ?_) rfl (by kernel_rfl) (by kernel_rfl) (by kernel_rfl) (fun _ _ _ h => h) (Or.inl ⟨by rfl, ?_⟩) (by assumption) ?_
               rotate_left 1
               · (intro w' hSw; (try dsimp only at hSw); go_simp <;> with_reducible rfl)
               try simp only [Act.put, List.setIfInBounds_toArray, List.set_cons_zero, List.set_cons_succ]
               refine wpAnyH_take (i := 22) (oi := { dst := some 95, op := Op.move (Operand.tmp 94), type := 4, pos := "law.go:110", after := #[{ on := 21, ground := Ground.data }, { on := 19, ground := Ground.chain }], guard := none }) (v := ?_) rfl (by kernel_rfl) (by kernel_rfl) (by kernel_rfl) (fun _ _ _ h => h) (Or.inl ⟨by rfl, ?_⟩) (by assumption) ?_
               rotate_left 1
               · (intro w' hSw; (try dsimp only at hSw); go_simp <;> with_reducible rfl)
               try simp only [Act.put, List.setIfInBounds_toArray, List.set_cons_zero, List.set_cons_succ]
               refine wpAnyH_take (i := 23) (oi := { dst := some 96, op := Op.move (Operand.tmp 2), type := 24, pos := "law.go:110", after := #[{ on := 22, ground := Ground.guard }], guard := some (22, false) }) (v := ?_) rfl (by kernel_rfl) (by kernel_rfl) (by kernel_rfl) (fun _ _ _ h => h) (Or.inl ⟨by rfl, ?_⟩) (by assumption) ?_
               rotate_left 1
               · (intro w' hSw; (try dsimp only at hSw); go_simp <;> with_reducible rfl)
               try simp only [Act.put, List.setIfInBounds_toArray, List.set_cons_zero, List.set_cons_succ]
               refine wpAnyH_take (i := 24) (oi := { dst := some 97, op := Op.move (Operand.tmp 11), type := 3, pos := "law.go:110", after := #[{ on := 22, ground := Ground.guard }], guard := some (22, false) }) (v := ?_) rfl (by kernel_rfl) (by kernel_rfl) (by kernel_rfl) (fun _ _ _ h => h) (Or.inl ⟨by rfl, ?_⟩) (by assumption) ?_
               rotate_left 1
               · (intro w' hSw; (try dsimp only at hSw); go_simp <;> with_reducible rfl)
               try simp only [Act.put, List.setIfInBounds_toArray, List.set_cons_zero, List.set_cons_succ]
               refine wpAnyH_take (i := 25) (oi := { dst := some 98, op := Op.indexAddr 24 (Operand.tmp 96) (Operand.tmp 97), type := 0, pos := "law.go:110", after := #[{ on := 23, ground := Ground.data }, { on := 24, ground := Ground.data }, { on := 22, ground := Ground.guard }], guard := some (22, false) }) (v := ?_) rfl (by kernel_rfl) (by kernel_rfl) (by kernel_rfl) (fun _ _ _ h => h) (Or.inl ⟨by rfl, ?_⟩) (by assumption) ?_
               rotate_left 1
               · (intro w' hSw; (try dsimp only at hSw); go_simp <;> with_reducible rfl)
               try simp only [Act.put, List.setIfInBounds_toArray, List.set_cons_zero, List.set_cons_succ]
               refine wpAnyH_take (i := 26) (oi := { dst := some 99, op := Op.fieldAddr 36 (Operand.tmp 98) 0, type := 0, pos := "law.go:110", after := #[{ on := 25, ground := Ground.data }, { on := 22, ground := Ground.guard }], guard := some (22, false) }) (v := ?_) rfl (by kernel_rfl) (by kernel_rfl) (by kernel_rfl) (fun _ _ _ h => h) (Or.inl ⟨by rfl, ?_⟩) (by assumption) ?_
               rotate_left 1
               · (intro w' hSw; (try dsimp only at hSw); go_simp <;> with_reducible rfl)
               try simp only [Act.put, List.setIfInBounds_toArray, List.set_cons_zero, List.set_cons_succ]
               refine wpAnyH_take (i := 27) (oi := { dst := some 100, op := Op.load 5 (Operand.tmp 99), type := 5, pos := "law.go:110", after := #[{ on := 26, ground := Ground.data }, { on := 22, ground := Ground.guard }], guard := some (22, false) }) (v := ?_) rfl (by kernel_rfl) (by kernel_rfl) (by kernel_rfl) (fun _ _ _ h => h) (Or.inl ⟨by rfl, ?_⟩) (by assumption) ?_
               rotate_left 1
               · (intro w' hSw; (try dsimp only at hSw); go_simp <;> with_reducible rfl)
               try simp only [Act.put, List.setIfInBounds_toArray, List.set_cons_zero, List.set_cons_succ]
               refine wpAnyH_take (i := 28) (oi := { dst := some 101, op := Op.binOp BinOp.rem 5 (Operand.tmp 100) (Operand.const (Value.int IntKind.u8 5)) 5, type := 5, pos := "law.go:110", after := #[{ on := 27, ground := Ground.data }, { on := 22, ground := Ground.guard }], guard := some (22, false) }) (v := ?_) rfl (by kernel_rfl) (by kernel_rfl) (by kernel_rfl) (fun _ _ _ h => h) (Or.inl ⟨by rfl, ?_⟩) (by assumption) ?_
               rotate_left 1
               · (intro w' hSw; (try dsimp only at hSw); go_simp <;> with_reducible rfl)
               try simp only [Act.put, List.setIfInBounds_toArray, List.set_cons_zero, List.set_cons_succ]
               refine wpAnyH_take (i := 29) (oi := { dst := some 102, op := Op.binOp BinOp.eql 5 (Operand.tmp 101) (Operand.const (Value.int IntKind.u8 3)) 5, type := 4, pos := "law.go:110", after := #[{ on := 28, ground := Ground.data }, { on := 22, ground := Ground.guard }], guard := some (22, false) }) (v := ?_) rfl (by kernel_rfl) (by kernel_rfl) (by kernel_rfl) (fun _ _ _ h => h) (Or.inl ⟨by rfl, ?_⟩) (by assumption) ?_
               rotate_left 1
               · (intro w' hSw; (try dsimp only at hSw); go_simp <;> with_reducible rfl)
               try simp only [Act.put, List.setIfInBounds_toArray, List.set_cons_zero, List.set_cons_succ]
               refine wpAnyH_take (i := 30) (oi := { dst := some 103, op := Op.move (Operand.tmp 102), type := 4, pos := "law.go:110", after := #[{ on := 29, ground := Ground.data }, { on := 22, ground := Ground.chain }, { on := 22, ground := Ground.guard }], guard := some (22, false) }) (v := ?_) rfl (by kernel_rfl) (by kernel_rfl) (by kernel_rfl) (fun _ _ _ h => h) (Or.inl ⟨by rfl, ?_⟩) (by assumption) ?_
               rotate_left 1
               · (intro w' hSw; (try dsimp only at hSw); go_simp <;> with_reducible rfl)
               try simp only [Act.put, List.setIfInBounds_toArray, List.set_cons_zero, List.set_cons_succ]
               refine wpAnyH_take (i := 31) (oi := { dst := some 104, op := Op.move (Operand.tmp 9), type := 27, pos := "law.go:110", after := #[{ on := 30, ground := Ground.guard }], guard := some (30, true) }) (v := ?_) rfl (by kernel_rfl) (by kernel_rfl) (by kernel_rfl) (fun _ _ _ h => h) (Or.inl ⟨by rfl, ?_⟩) (by assumption) ?_
               rotate_left 1
               · (intro w' hSw; (try dsimp only at hSw); go_simp <;> with_reducible rfl)
               try simp only [Act.put, List.setIfInBounds_toArray, List.set_cons_zero, List.set_cons_succ]
               refine wpAnyH_take (i := 32) (oi := { dst := some 105, op := Op.move (Operand.tmp 13), type := 3, pos := "law.go:110", after := #[{ on := 30, ground := Ground.guard }], guard := some (30, true) }) (v := ?_) rfl (by kernel_rfl) (by kernel_rfl) (by kernel_rfl) (fun _ _ _ h => h) (Or.inl ⟨by rfl, ?_⟩) (by assumption) ?_
               rotate_left 1
               · (intro w' hSw; (try dsimp only at hSw); go_simp <;> with_reducible rfl)
               try simp only [Act.put, List.setIfInBounds_toArray, List.set_cons_zero, List.set_cons_succ]
               refine wpAnyH_take (i := 33) (oi := { dst := some 106, op := Op.indexAddr 27 (Operand.tmp 104) (Operand.tmp 105), type := 0, pos := "law.go:110", after := #[{ on := 31, ground := Ground.data }, { on := 32, ground := Ground.data }, { on := 30, ground := Ground.guard }], guard := some (30, true) }) (v := ?_) rfl (by kernel_rfl) (by kernel_rfl) (by kernel_rfl) (fun _ _ _ h => h) (Or.inl ⟨by rfl, ?_⟩) (by assumption) ?_
               rotate_left 1
               · (intro w' hSw; (try dsimp only at hSw); go_simp <;> with_reducible rfl)
               try simp only [Act.put, List.setIfInBounds_toArray, List.set_cons_zero, List.set_cons_succ]
               refine wpAnyH_take (i := 34) (oi := { dst := some 107, op := Op.load 3 (Operand.tmp 106), type := 3, pos := "law.go:110", after := #[{ on := 33, ground := Ground.data }, { on := 30, ground := Ground.guard }], guard := some (30, true) }) (v := ?_) rfl (by kernel_rfl) (by kernel_rfl) (by kernel_rfl) (fun _ _ _ h => h) (Or.inl ⟨by rfl, ?_⟩) (by assumption) ?_
               rotate_left 1
               · (intro w' hSw; (try dsimp only at hSw); go_simp <;> with_reducible rfl)
               try simp only [Act.put, List.setIfInBounds_toArray, List.set_cons_zero, List.set_cons_succ]
               refine wpAnyH_take (i := 36) (oi := { dst := some 109, op := Op.move (Operand.tmp 10), type := 27, pos := "law.go:110", after := #[{ on := 30, ground := Ground.guard }], guard := some (30, true) }) (v := ?_) rfl (by kernel_rfl) (by kernel_rfl) (by kernel_rfl) (fun _ _ _ h => h) (Or.inl ⟨by rfl, ?_⟩) (by assumption) ?_
               rotate_left 1
               · (intro w' hSw; (try dsimp only at hSw); go_simp <;> with_reducible rfl)
               try simp only [Act.put, List.setIfInBounds_toArray, List.set_cons_zero, List.set_cons_succ]
               refine wpAnyH_take (i := 37) (oi := { dst := some 110, op := Op.move (Operand.tmp 13), type := 3, pos := "law.go:110", after := #[{ on := 30, ground := Ground.guard }], guard := some (30, true) }) (v := ?_) rfl (by kernel_rfl) (by kernel_rfl) (by kernel_rfl) (fun _ _ _ h => h) (Or.inl ⟨by rfl, ?_⟩) (by assumption) ?_
               rotate_left 1
               · (intro w' hSw; (try dsimp only at hSw); go_simp <;> with_reducible rfl)
               try simp only [Act.put, List.setIfInBounds_toArray, List.set_cons_zero, List.set_cons_succ]
               refine wpAnyH_take (i := 38) (oi := { dst := some 111, op := Op.indexAddr 27 (Operand.tmp 109) (Operand.tmp 110), type := 0, pos := "law.go:110", after := #[{ on := 36, ground := Ground.data }, { on := 37, ground := Ground.data }, { on := 30, ground := Ground.guard }], guard := some (30, true) }) (v := ?_) rfl (by kernel_rfl) (by kernel_rfl) (by kernel_rfl) (fun _ _ _ h => h) (Or.inl ⟨by rfl, ?_⟩) (by assumption) ?_
               rotate_left 1
               · (intro w' hSw; (try dsimp only at hSw); go_simp <;> with_reducible rfl)
               try simp only [Act.put, List.setIfInBounds_toArray, List.set_cons_zero, List.set_cons_succ]
               refine wpAnyH_take (i := 39) (oi := { dst := some 112, op := Op.load 3 (Operand.tmp 111), type := 3, pos := "law.go:110", after := #[{ on := 38, ground := Ground.data }, { on := 30, ground := Ground.guard }], guard := some (30, true) }) (v := ?_) rfl (by kernel_rfl) (by kernel_rfl) (by kernel_rfl) (fun _ _ _ h => h) (Or.inl ⟨by rfl, ?_⟩) (by assumption) ?_
               rotate_left 1
               · (intro w' hSw; (try dsimp only at hSw); go_simp <;> with_reducible rfl)
               try simp only [Act.put, List.setIfInBounds_toArray, List.set_cons_zero, List.set_cons_succ]
               refine wpAnyH_ready (rs := [35]) (by kernel_rfl) (by simp) ?_
               refine AllReadyH.cons (o := { dst := some 108, op := Op.call { callee := Callee.value (Operand.func 19), args := #[Operand.tmp 7, Operand.tmp 107], argTypes := #[29, 3] }, type := 4, pos := "law.go:110", after := #[{ on := 34, ground := Ground.data }, { on := 30, ground := Ground.chain }, { on := 30, ground := Ground.guard }], guard := some (30, true) }) rfl (fun K hK => ?_) AllReadyH.nil
               go_simp
               refine (adrop_any w1.heap.size B1 b s (Ar.hdl b s j) cs fr F1 wr.drew HP0d.out.a1 HP0d.out.bel.size hok hji (by omega)).mono ?_
               rintro e w4 ⟨F4, rfl, hA4, hst4⟩
               rw [HH.out]
               rw [Ar.drop_at hjl (by omega)] at hA4
               have hP4 := HP0d.out.step hA4 hst4
               have S4 := HS.out _ _ _ _ _ _ _ hP4
               clear hA4 hst4
               go_wp2_with fail
               refine hK.out _ _ ?_ (fun hHeld => ?_)
               · exact S4
               clear hK K
               try simp only [Act.put, List.setIfInBounds_toArray, List.set_cons_zero, List.set_cons_succ]
               refine wpAnyH_ready (rs := [40]) (by kernel_rfl) (by simp) ?_
               refine AllReadyH.cons (o := { dst := some 113, op := Op.call { callee := Callee.value (Operand.func 19), args := #[Operand.tmp 8, Operand.tmp 112], argTypes := #[29, 3] }, type := 4, pos := "law.go:110", after := #[{ on := 39, ground := Ground.data }, { on := 35, ground := Ground.chain }, { on := 30, ground := Ground.guard }], guard := some (30, true) }) rfl (fun K hK => ?_) AllReadyH.nil
               go_simp
               refine (adrop_any w1.heap.size B2 b' s' (Ar.hdl b' s' j) cs fr F2 w4 hP4.a2 hP4.bel.size hok hji' (by omega)).mono ?_
               rintro e w5 ⟨F5, rfl, hA5, hst5⟩
               rw [HH'.out]
               rw [Ar.drop_at hjl (by omega)] at hA5
               have hP5 := (hP4.swap.step hA5 hst5).swap
               have S5 := HS.out _ _ _ _ _ _ _ hP5
               clear hA5 hst5
               go_wp2_with fail
               refine hK.out _ _ ?_ (fun hHeld => ?_)
               · exact S5
               clear hK K
               try simp only [Act.put, List.setIfInBounds_toArray, List.set_cons_zero, List.set_cons_succ]
               refine wpAnyH_take (i := 41) (oi := { dst := some 114, op := Op.binOp BinOp.neq 4 (Operand.tmp 108) (Operand.tmp 113) 4, type := 4, pos := "law.go:110", after := #[{ on := 35, ground := Ground.data }, { on := 40, ground := Ground.data }, { on := 30, ground := Ground.guard }], guard := some (30, true) }) (v := ?_) rfl (by kernel_rfl) (by kernel_rfl) (by kernel_rfl) (fun _ _ _ h => h) (Or.inl ⟨by rfl, ?_⟩) (by assumption) ?_
               rotate_left 1
               · (intro w' hSw; (try dsimp only at hSw); go_simp <;> with_reducible rfl)
               try simp only [Act.put, List.setIfInBounds_toArray, List.set_cons_zero, List.set_cons_succ]
               refine wpAnyH_take (i := 42) (oi := { dst := some 115, op := Op.pick (Operand.tmp 103) (Operand.tmp 114) (Operand.const (Value.bool false)), type := 4, pos := "law.go:110", after := #[{ on := 30, ground := Ground.data }, { on := 41, ground := Ground.data }, { on := 22, ground := Ground.guard }], guard := some (22, false) }) (v := ?_) rfl (by kernel_rfl) (by kernel_rfl) (by kernel_rfl) (fun _ _ _ h => h) (Or.inl ⟨by rfl, ?_⟩) (by assumption) ?_
               rotate_left 1
               · (intro w' hSw; (try dsimp only at hSw); go_simp <;> with_reducible rfl)
               try simp only [Act.put, List.setIfInBounds_toArray, List.set_cons_zero, List.set_cons_succ]
               refine wpAnyH_take (i := 43) (oi := { dst := some 116, op := Op.pick (Operand.tmp 95) (Operand.const (Value.bool true)) (Operand.tmp 115), type := 4, pos := "law.go:110", after := #[{ on := 22, ground := Ground.data }, { on := 42, ground := Ground.data }], guard := none }) (v := ?_) rfl (by kernel_rfl) (by kernel_rfl) (by kernel_rfl) (fun _ _ _ h => h) (Or.inl ⟨by rfl, ?_⟩) (by assumption) ?_
               rotate_left 1
               · (intro w' hSw; (try dsimp only at hSw); go_simp <;> with_reducible rfl)
               try simp only [Act.put, List.setIfInBounds_toArray, List.set_cons_zero, List.set_cons_succ]
               refine wpAnyH_done (by kernel_rfl) ?_ _
               refine NoPanic.normal ?_
               obtain ⟨S50, S51, S52⟩ := S5
               have hct := (Ar.dropAt_len (cs, fr) j).1
               have hco := (Ar.dropAt_ok (p := (cs, fr)) hok j)
               have HP5 := Lib.hid hP5
               have HCT := Lib.hid hct
               clear hct hP5 HP0d HP0 S0 S00 S01 S02 y0 y1 y2 y3 S4 hP4
               go_wp2_with fail
               refine (aget_any w1.heap.size B1 b s (Ar.hdl b s j) _ _ _ w5 HP5.out.a1 hji (by rw [HCT.out]; omega)).mono ?_
               rintro e w6 ⟨rfl, hb6⟩
               have hP6 := HP5.out.below hb6
               obtain ⟨S60, S61, S62⟩ := HS.out _ _ _ _ _ _ _ hP6
               rw [Ar.get_at (by rw [HCT.out]; exact hjl) (by rw [HCT.out]; omega)]
               obtain ⟨G, hG⟩ : ∃ G, Ar.getAt (Ar.dropAt (cs, fr) j).1 j = G := ⟨_, rfl⟩
               rw [hG]
               have HG := Lib.hid hG
               have HP6 := Lib.hid hP6
               clear hP6 hb6 hG S50 S51 S52
               go_wp2_with fail
               refine (aget_any w1.heap.size B2 b' s' (Ar.hdl b' s' j) _ _ _ w6 HP6.out.a2 hji' (by rw [HCT.out]; omega)).mono ?_
               rintro e w7 ⟨rfl, hb7⟩
               rw [Ar.get_at (by rw [HCT.out]; exact hjl) (by rw [HCT.out]; omega), HG.out]
               have HP7 := Lib.hid (HP6.out.below hb7)
               have hgg : (G.isSome != G.isSome) = false := by cases G <;> rfl
               clear hb7 S60 S61 S62
               go_wp2_with fail
               go_roundw
               case rel => exact ⟨k + 1, (Ar.dropAt (cs, fr) j).1, (Ar.dropAt (cs, fr) j).2, _, _, sl, by omega, by go_num, HP7.out, hco, by rw [HCT.out]; omega, by rw [HM.out]; omega, fun j hj => by rw [HCT.out]; exact hsl j hj⟩
               case measure => simp [intOf]; omega
             · go_wp2_with fail
               refine wp_region_noPanic ?_
               refine wp_region_held_drew (S := (fun W => W.cell? ⟨bl, ol + k * 4, none⟩ = some (.int .u8 kd) ∧ W.cell? ⟨gx, z, none⟩ = some (.int .i64 (Ar.hdl b s j)) ∧ W.cell? ⟨gy, z, none⟩ = some (.int .i64 (Ar.hdl b' s' j)))) (by kernel_rfl) ?_ (fun hHeld => ?_)
               · exact S0
               refine wpAnyH_take (i := 0) (oi := { dst := some 73, op := Op.move (Operand.tmp 2), type := 24, pos := "law.go:110", after := #[], guard := none }) (v := ?_) rfl (by kernel_rfl) (by kernel_rfl) (by kernel_rfl) (fun _ _ _ h => h) (Or.inl ⟨by rfl, ?_⟩) (by assumption) ?_
               rotate_left 1
               · (intro w' hSw; (try dsimp only at hSw); go_simp <;> with_reducible rfl)
               try simp only [Act.put, List.setIfInBounds_toArray, List.set_cons_zero, List.set_cons_succ]
               refine wpAnyH_take (i := 1) (oi := { dst := some 74, op := Op.move (Operand.tmp 11), type := 3, pos := "law.go:110", after := #[], guard := none }) (v := ?_) rfl (by kernel_rfl) (by kernel_rfl) (by kernel_rfl) (fun _ _ _ h => h) (Or.inl ⟨by rfl, ?_⟩) (by assumption) ?_
               rotate_left 1
               · (intro w' hSw; (try dsimp only at hSw); go_simp <;> with_reducible rfl)
               try simp only [Act.put, List.setIfInBounds_toArray, List.set_cons_zero, List.set_cons_succ]
               refine wpAnyH_take (i := 2) (oi := { dst := some 75, op := Op.indexAddr 24 (Operand.tmp 73) (Operand.tmp 74), type := 0, pos := "law.go:110", after := #[{ on := 0, ground := Ground.data }, { on := 1, ground := Ground.data }], guard := none }) (v := ?_) rfl (by kernel_rfl) (by kernel_rfl) (by kernel_rfl) (fun _ _ _ h => h) (Or.inl ⟨by rfl, ?_⟩) (by assumption) ?_
               rotate_left 1
               · (intro w' hSw; (try dsimp only at hSw); go_simp <;> with_reducible rfl)
               try simp only [Act.put, List.setIfInBounds_toArray, List.set_cons_zero, List.set_cons_succ]
               refine wpAnyH_take (i := 3) (oi := { dst := some 76, op := Op.fieldAddr 36 (Operand.tmp 75) 0, type := 0, pos := "law.go:110", after := #[{ on := 2, ground := Ground.data }], guard := none }) (v := ?_) rfl (by kernel_rfl) (by kernel_rfl) (by kernel_rfl) (fun _ _ _ h => h) (Or.inl ⟨by rfl, ?_⟩) (by assumption) ?_
               rotate_left 1
               · (intro w' hSw; (try dsimp only at hSw); go_simp <;> with_reducible rfl)
               try simp only [Act.put, List.setIfInBounds_toArray, List.set_cons_zero, List.set_cons_succ]
               refine wpAnyH_take (i := 4) (oi := { dst := some 77, op := Op.load 5 (Operand.tmp 76), type := 5, pos := "law.go:110", after := #[{ on := 3, ground := Ground.data }], guard := none }) (v := ?_) rfl (by kernel_rfl) (by kernel_rfl) (by kernel_rfl) (fun _ _ _ h => h) (Or.inl ⟨by rfl, ?_⟩) (by assumption) ?_
               rotate_left 1
               · (intro w' hSw; (try dsimp only at hSw); go_simp <;> with_reducible rfl)
               try simp only [Act.put, List.setIfInBounds_toArray, List.set_cons_zero, List.set_cons_succ]
               refine wpAnyH_take (i := 5) (oi := { dst := some 78, op := Op.binOp BinOp.rem 5 (Operand.tmp 77) (Operand.const (Value.int IntKind.u8 5)) 5, type := 5, pos := "law.go:110", after := #[{ on := 4, ground := Ground.data }], guard := none }) (v := ?_) rfl (by kernel_rfl) (by kernel_rfl) (by kernel_rfl) (fun _ _ _ h => h) (Or.inl ⟨by rfl, ?_⟩) (by assumption) ?_
               rotate_left 1
               · (intro w' hSw; (try dsimp only at hSw); go_simp <;> with_reducible rfl)
               try simp only [Act.put, List.setIfInBounds_toArray, List.set_cons_zero, List.set_cons_succ]
               refine wpAnyH_take (i := 6) (oi := { dst := some 79, op := Op.binOp BinOp.eql 5 (Operand.tmp 78) (Operand.const (Value.int IntKind.u8 2)) 5, type := 4, pos := "law.go:110", after := #[{ on := 5, ground := Ground.data }], guard := none }) (v := ?_) rfl (by kernel_rfl) (by kernel_rfl) (by kernel_rfl) (fun _ _ _ h => h) (Or.inl ⟨by rfl, ?_⟩) (by assumption) ?_
               rotate_left 1
               · (intro w' hSw; (try dsimp only at hSw); go_simp <;> with_reducible rfl)
               try simp only [Act.put, List.setIfInBounds_toArray, List.set_cons_zero, List.set_cons_succ]
               refine wpAnyH_take (i := 7) (oi := { dst := some 80, op := Op.move (Operand.tmp 79), type := 4, pos := "law.go:110", after := #[{ on := 6, ground := Ground.data }], guard := none }) (v := ?_) rfl (by kernel_rfl) (by kernel_rfl) (by kernel_rfl) (fun _ _ _ h => h) (Or.inl ⟨by rfl, ?_⟩) (by assumption) ?_
               rotate_left 1
               · (intro w' hSw; (try dsimp only at hSw); go_simp <;> with_reducible rfl)
               try simp only [Act.put, List.setIfInBounds_toArray, List.set_cons_zero, List.set_cons_succ]
               refine wpAnyH_take (i := 8) (oi := { dst := some 81, op := Op.move (Operand.tmp 9), type := 27, pos := "law.go:110", after := #[{ on := 7, ground := Ground.guard }], guard := some (7, true) }) (v := undef) rfl (by kernel_rfl) (by kernel_rfl) (by kernel_rfl) (fun _ _ _ h => h) (Or.inr ⟨by rfl, rfl⟩) (by assumption) ?_
               try simp only [Act.put, List.setIfInBounds_toArray, List.set_cons_zero, List.set_cons_succ]
               refine wpAnyH_take (i := 9) (oi := { dst := some 82, op := Op.move (Operand.tmp 13), type := 3, pos := "law.go:110", after := #[{ on := 7, ground := Ground.guard }], guard := some (7, true) }) (v := undef) rfl (by kernel_rfl) (by kernel_rfl) (by kernel_rfl) (fun _ _ _ h => h) (Or.inr ⟨by rfl, rfl⟩) (by assumption) ?_
               try simp only [Act.put, List.setIfInBounds_toArray, List.set_cons_zero, List.set_cons_succ]
               refine wpAnyH_take (i := 10) (oi := { dst := some 83, op := Op.indexAddr 27 (Operand.tmp 81) (Operand.tmp 82), type := 0, pos := "law.go:110", after := #[{ on := 8, ground := Ground.data }, { on := 9, ground := Ground.data }, { on := 7, ground := Ground.guard }], guard := some (7, true) }) (v := undef) rfl (by kernel_rfl) (by kernel_rfl) (by kernel_rfl) (fun _ _ _ h => h) (Or.inr ⟨by rfl, rfl⟩) (by assumption) ?_
               try simp only [Act.put, List.setIfInBounds_toArray, List.set_cons_zero, List.set_cons_succ]
               refine wpAnyH_take (i := 11) (oi := { dst := some 84, op := Op.load 3 (Operand.tmp 83), type := 3, pos := "law.go:110", after := #[{ on := 10, ground := Ground.data }, { on := 7, ground := Ground.guard }], guard := some (7, true) }) (v := undef) rfl (by kernel_rfl) (by kernel_rfl) (by kernel_rfl) (fun _ _ _ h => h) (Or.inr ⟨by rfl, rfl⟩) (by assumption) ?_
               try simp only [Act.put, List.setIfInBounds_toArray, List.set_cons_zero, List.set_cons_succ]
               refine wpAnyH_take (i := 12) (oi := { dst := some 85, op := Op.move (Operand.tmp 12), type := 3, pos := "law.go:110", after := #[{ on := 7, ground := Ground.guard }], guard := some (7, true) }) (v := undef) rfl (by kernel_rfl) (by kernel_rfl) (by kernel_rfl) (fun _ _ _ h => h) (Or.inr ⟨by rfl, rfl⟩) (by assumption) ?_
               try simp only [Act.put, List.setIfInBounds_toArray, List.set_cons_zero, List.set_cons_succ]
               refine wpAnyH_take (i := 13) (oi := { dst := some 86, op := Op.call { callee := Callee.value (Operand.func 17), args := #[Operand.tmp 7, Operand.tmp 84, Operand.tmp 85], argTypes := #[29, 3, 3] }, type := 4, pos := "law.go:110", after := #[{ on := 11, ground := Ground.data }, { on := 12, ground := Ground.data }, { on := 7, ground := Ground.chain }, { on := 7, ground := Ground.guard }], guard := some (7, true) }) (v := undef) rfl (by kernel_rfl) (by kernel_rfl) (by kernel_rfl) (fun _ _ _ h => h) (Or.inr ⟨by rfl, rfl⟩) (by assumption) ?_
               try simp only [Act.put, List.setIfInBounds_toArray, List.set_cons_zero, List.set_cons_succ]
               refine wpAnyH_take (i := 14) (oi := { dst := some 87, op := Op.move (Operand.tmp 10), type := 27, pos := "law.go:110", after := #[{ on := 7, ground := Ground.guard }], guard := some (7, true) }) (v := undef) rfl (by kernel_rfl) (by kernel_rfl) (by kernel_rfl) (fun _ _ _ h => h) (Or.inr ⟨by rfl, rfl⟩) (by assumption) ?_
               try simp only [Act.put, List.setIfInBounds_toArray, List.set_cons_zero, List.set_cons_succ]
               refine wpAnyH_take (i := 15) (oi := { dst := some 88, op := Op.move (Operand.tmp 13), type := 3, pos := "law.go:110", after := #[{ on := 7, ground := Ground.guard }], guard := some (7, true) }) (v := undef) rfl (by kernel_rfl) (by kernel_rfl) (by kernel_rfl) (fun _ _ _ h => h) (Or.inr ⟨by rfl, rfl⟩) (by assumption) ?_
               try simp only [Act.put, List.setIfInBounds_toArray, List.set_cons_zero, List.set_cons_succ]
               refine wpAnyH_take (i := 16) (oi := { dst := some 89, op := Op.indexAddr 27 (Operand.tmp 87) (Operand.tmp 88), type := 0, pos := "law.go:110", after := #[{ on := 14, ground := Ground.data }, { on := 15, ground := Ground.data }, { on := 7, ground := Ground.guard }], guard := some (7, true) }) (v := undef) rfl (by kernel_rfl) (by kernel_rfl) (by kernel_rfl) (fun _ _ _ h => h) (Or.inr ⟨by rfl, rfl⟩) (by assumption) ?_
               try simp only [Act.put, List.setIfInBounds_toArray, List.set_cons_zero, List.set_cons_succ]
               refine wpAnyH_take (i := 17) (oi := { dst := some 90, op := Op.load 3 (Operand.tmp 89), type := 3, pos := "law.go:110", after := #[{ on := 16, ground := Ground.data }, { on := 7, ground := Ground.guard }], guard := some (7, true) }) (v := undef) rfl (by kernel_rfl) (by kernel_rfl) (by kernel_rfl) (fun _ _ _ h => h) (Or.inr ⟨by rfl, rfl⟩) (by assumption) ?_
               try simp only [Act.put, List.setIfInBounds_toArray, List.set_cons_zero, List.set_cons_succ]
               refine wpAnyH_take (i := 18) (oi := { dst := some 91, op := Op.move (Operand.tmp 12), type := 3, pos := "law.go:110", after := #[{ on := 7, ground := Ground.guard }], guard := some (7, true) }) (v := undef) rfl (by kernel_rfl) (by kernel_rfl) (by kernel_rfl) (fun _ _ _ h => h) (Or.inr ⟨by rfl, rfl⟩) (by assumption) ?_
               try simp only [Act.put, List.setIfInBounds_toArray, List.set_cons_zero, List.set_cons_succ]
               refine wpAnyH_take (i := 19) (oi := { dst := some 92, op := Op.call { callee := Callee.value (Operand.func 17), args := #[Operand.tmp 8, Operand.tmp 90, Operand.tmp 91], argTypes := #[29, 3, 3] }, type := 4, pos := "law.go:110", after := #[{ on := 17, ground := Ground.data }, { on := 18, ground := Ground.data }, { on := 13, ground := Ground.chain }, { on := 7, ground := Ground.guard }], guard := some (7, true) }) (v := undef) rfl (by kernel_rfl) (by kernel_rfl) (by kernel_rfl) (fun _ _ _ h => h) (Or.inr ⟨by rfl, rfl⟩) (by assumption) ?_
               try simp only [Act.put, List.setIfInBounds_toArray, List.set_cons_zero, List.set_cons_succ]
               refine wpAnyH_take (i := 20) (oi := { dst := some 93, op := Op.binOp BinOp.neq 4 (Operand.tmp 86) (Operand.tmp 92) 4, type := 4, pos := "law.go:110", after := #[{ on := 13, ground := Ground.data }, { on := 19, ground := Ground.data }, { on := 7, ground := Ground.guard }], guard := some (7, true) }) (v := undef) rfl (by kernel_rfl) (by kernel_rfl) (by kernel_rfl) (fun _ _ _ h => h) (Or.inr ⟨by rfl, rfl⟩) (by assumption) ?_
               try simp only [Act.put, List.setIfInBounds_toArray, List.set_cons_zero, List.set_cons_succ]
               refine wpAnyH_take (i := 21) (oi := { dst := some 94, op := Op.pick (Operand.tmp 80) (Operand.tmp 93) (Operand.const (Value.bool false)), type := 4, pos := "law.go:110", after := #[{ on := 7, ground := Ground.data }, { on := 20, ground := Ground.data }], guard := none }) (v := ?_) rfl (by kernel_rfl) (by kernel_rfl) (by kernel_rfl) (fun _ _ _ h => h) (Or.inl ⟨by rfl, ?_⟩) (by assumption) ?_
               rotate_left 1
               · (intro w' hSw; (try dsimp only at hSw); go_simp <;> with_reducible rfl)
               try simp only [Act.put, List.setIfInBounds_toArray, List.set_cons_zero, List.set_cons_succ]
               refine wpAnyH_take (i := 22) (oi := { dst := some 95, op := Op.move (Operand.tmp 94), type := 4, pos := "law.go:110", after := #[{ on := 21, ground := Ground.data }, { on := 19, ground := Ground.chain }], guard := none }) (v := ?_) rfl (by kernel_rfl) (by kernel_rfl) (by kernel_rfl) (fun _ _ _ h => h) (Or.inl ⟨by rfl, ?_⟩) (by assumption) ?_
               rotate_left 1
               · (intro w' hSw; (try dsimp only at hSw); go_simp <;> with_reducible rfl)
               try simp only [Act.put, List.setIfInBounds_toArray, List.set_cons_zero, List.set_cons_succ]
               refine wpAnyH_take (i := 23) (oi := { dst := some 96, op := Op.move (Operand.tmp 2), type := 24, pos := "law.go:110", after := #[{ on := 22, ground := Ground.guard }], guard := some (22, false) }) (v := ?_) rfl (by kernel_rfl) (by kernel_rfl) (by kernel_rfl) (fun _ _ _ h => h) (Or.inl ⟨by rfl, ?_⟩) (by assumption) ?_
               rotate_left 1
               · (intro w' hSw; (try dsimp only at hSw); go_simp <;> with_reducible rfl)
               try simp only [Act.put, List.setIfInBounds_toArray, List.set_cons_zero, List.set_cons_succ]
               refine wpAnyH_take (i := 24) (oi := { dst := some 97, op := Op.move (Operand.tmp 11), type := 3, pos := "law.go:110", after := #[{ on := 22, ground := Ground.guard }], guard := some (22, false) }) (v := ?_) rfl (by kernel_rfl) (by kernel_rfl) (by kernel_rfl) (fun _ _ _ h => h) (Or.inl ⟨by rfl, ?_⟩) (by assumption) ?_
               rotate_left 1
               · (intro w' hSw; (try dsimp only at hSw); go_simp <;> with_reducible rfl)
               try simp only [Act.put, List.setIfInBounds_toArray, List.set_cons_zero, List.set_cons_succ]
               refine wpAnyH_take (i := 25) (oi := { dst := some 98, op := Op.indexAddr 24 (Operand.tmp 96) (Operand.tmp 97), type := 0, pos := "law.go:110", after := #[{ on := 23, ground := Ground.data }, { on := 24, ground := Ground.data }, { on := 22, ground := Ground.guard }], guard := some (22, false) }) (v := ?_) rfl (by kernel_rfl) (by kernel_rfl) (by kernel_rfl) (fun _ _ _ h => h) (Or.inl ⟨by rfl, ?_⟩) (by assumption) ?_
               rotate_left 1
               · (intro w' hSw; (try dsimp only at hSw); go_simp <;> with_reducible rfl)
               try simp only [Act.put, List.setIfInBounds_toArray, List.set_cons_zero, List.set_cons_succ]
               refine wpAnyH_take (i := 26) (oi := { dst := some 99, op := Op.fieldAddr 36 (Operand.tmp 98) 0, type := 0, pos := "law.go:110", after := #[{ on := 25, ground := Ground.data }, { on := 22, ground := Ground.guard }], guard := some (22, false) }) (v := ?_) rfl (by kernel_rfl) (by kernel_rfl) (by kernel_rfl) (fun _ _ _ h => h) (Or.inl ⟨by rfl, ?_⟩) (by assumption) ?_
               rotate_left 1
               · (intro w' hSw; (try dsimp only at hSw); go_simp <;> with_reducible rfl)
               try simp only [Act.put, List.setIfInBounds_toArray, List.set_cons_zero, List.set_cons_succ]
               refine wpAnyH_take (i := 27) (oi := { dst := some 100, op := Op.load 5 (Operand.tmp 99), type := 5, pos := "law.go:110", after := #[{ on := 26, ground := Ground.data }, { on := 22, ground := Ground.guard }], guard := some (22, false) }) (v := ?_) rfl (by kernel_rfl) (by kernel_rfl) (by kernel_rfl) (fun _ _ _ h => h) (Or.inl ⟨by rfl, ?_⟩) (by assumption) ?_
               rotate_left 1
               · (intro w' hSw; (try dsimp only at hSw); go_simp <;> with_reducible rfl)
               try simp only [Act.put, List.setIfInBounds_toArray, List.set_cons_zero, List.set_cons_succ]
               refine wpAnyH_take (i := 28) (oi := { dst := some 101, op := Op.binOp BinOp.rem 5 (Operand.tmp 100) (Operand.const (Value.int IntKind.u8 5)) 5, type := 5, pos := "law.go:110", after := #[{ on := 27, ground := Ground.data }, { on := 22, ground := Ground.guard }], guard := some (22, false) }) (v := ?_) rfl (by kernel_rfl) (by kernel_rfl) (by kernel_rfl) (fun _ _ _ h => h) (Or.inl ⟨by rfl, ?_⟩) (by assumption) ?_
               rotate_left 1
               · (intro w' hSw; (try dsimp only at hSw); go_simp <;> with_reducible rfl)
               try simp only [Act.put, List.setIfInBounds_toArray, List.set_cons_zero, List.set_cons_succ]
               refine wpAnyH_take (i := 29) (oi := { dst := some 102, op := Op.binOp BinOp.eql 5 (Operand.tmp 101) (Operand.const (Value.int IntKind.u8 3)) 5, type := 4, pos := "law.go:110", after := #[{ on := 28, ground := Ground.data }, { on := 22, ground := Ground.guard }], guard := some (22, false) }) (v := ?_) rfl (by kernel_rfl) (by kernel_rfl) (by kernel_rfl) (fun _ _ _ h => h) (Or.inl ⟨by rfl, ?_⟩) (by assumption) ?_
               rotate_left 1
               · (intro w' hSw; (try dsimp only at hSw); go_simp <;> with_reducible rfl)
               try simp only [Act.put, List.setIfInBounds_toArray, List.set_cons_zero, List.set_cons_succ]
               refine wpAnyH_take (i := 30) (oi := { dst := some 103, op := Op.move (Operand.tmp 102), type := 4, pos := "law.go:110", after := #[{ on := 29, ground := Ground.data }, { on := 22, ground := Ground.chain }, { on := 22, ground := Ground.guard }], guard := some (22, false) }) (v := ?_) rfl (by kernel_rfl) (by kernel_rfl) (by kernel_rfl) (fun _ _ _ h => h) (Or.inl ⟨by rfl, ?_⟩) (by assumption) ?_
               rotate_left 1
               · (intro w' hSw; (try dsimp only at hSw); go_simp <;> with_reducible rfl)
               try simp only [Act.put, List.setIfInBounds_toArray, List.set_cons_zero, List.set_cons_succ]
               refine wpAnyH_take (i := 31) (oi := { dst := some 104, op := Op.move (Operand.tmp 9), type := 27, pos := "law.go:110", after := #[{ on := 30, ground := Ground.guard }], guard := some (30, true) }) (v := undef) rfl (by kernel_rfl) (by kernel_rfl) (by kernel_rfl) (fun _ _ _ h => h) (Or.inr ⟨by rfl, rfl⟩) (by assumption) ?_
               try simp only [Act.put, List.setIfInBounds_toArray, List.set_cons_zero, List.set_cons_succ]
               refine wpAnyH_take (i := 32) (oi := { dst := some 105, op := Op.move (Operand.tmp 13), type := 3, pos := "law.go:110", after := #[{ on := 30, ground := Ground.guard }], guard := some (30, true) }) (v := undef) rfl (by kernel_rfl) (by kernel_rfl) (by kernel_rfl) (fun _ _ _ h => h) (Or.inr ⟨by rfl, rfl⟩) (by assumption) ?_
               try simp only [Act.put, List.setIfInBounds_toArray, List.set_cons_zero, List.set_cons_succ]
               refine wpAnyH_take (i := 33) (oi := { dst := some 106, op := Op.indexAddr 27 (Operand.tmp 104) (Operand.tmp 105), type := 0, pos := "law.go:110", after := #[{ on := 31, ground := Ground.data }, { on := 32, ground := Ground.data }, { on := 30, ground := Ground.guard }], guard := some (30, true) }) (v := undef) rfl (by kernel_rfl) (by kernel_rfl) (by kernel_rfl) (fun _ _ _ h => h) (Or.inr ⟨by rfl, rfl⟩) (by assumption) ?_
               try simp only [Act.put, List.setIfInBounds_toArray, List.set_cons_zero, List.set_cons_succ]
               refine wpAnyH_take (i := 34) (oi := { dst := some 107, op := Op.load 3 (Operand.tmp 106), type := 3, pos := "law.go:110", after := #[{ on := 33, ground := Ground.data }, { on := 30, ground := Ground.guard }], guard := some (30, true) }) (v := undef) rfl (by kernel_rfl) (by kernel_rfl) (by kernel_rfl) (fun _ _ _ h => h) (Or.inr ⟨by rfl, rfl⟩) (by assumption) ?_
               try simp only [Act.put, List.setIfInBounds_toArray, List.set_cons_zero, List.set_cons_succ]
               refine wpAnyH_take (i := 35) (oi := { dst := some 108, op := Op.call { callee := Callee.value (Operand.func 19), args := #[Operand.tmp 7, Operand.tmp 107], argTypes := #[29, 3] }, type := 4, pos := "law.go:110", after := #[{ on := 34, ground := Ground.data }, { on := 30, ground := Ground.chain }, { on := 30, ground := Ground.guard }], guard := some (30, true) }) (v := undef) rfl (by kernel_rfl) (by kernel_rfl) (by kernel_rfl) (fun _ _ _ h => h) (Or.inr ⟨by rfl, rfl⟩) (by assumption) ?_
               try simp only [Act.put, List.setIfInBounds_toArray, List.set_cons_zero, List.set_cons_succ]
               refine wpAnyH_take (i := 36) (oi := { dst := some 109, op := Op.move (Operand.tmp 10), type := 27, pos := "law.go:110", after := #[{ on := 30, ground := Ground.guard }], guard := some (30, true) }) (v := undef) rfl (by kernel_rfl) (by kernel_rfl) (by kernel_rfl) (fun _ _ _ h => h) (Or.inr ⟨by rfl, rfl⟩) (by assumption) ?_
               try simp only [Act.put, List.setIfInBounds_toArray, List.set_cons_zero, List.set_cons_succ]
               refine wpAnyH_take (i := 37) (oi := { dst := some 110, op := Op.move (Operand.tmp 13), type := 3, pos := "law.go:110", after := #[{ on := 30, ground := Ground.guard }], guard := some (30, true) }) (v := undef) rfl (by kernel_rfl) (by kernel_rfl) (by kernel_rfl) (fun _ _ _ h => h) (Or.inr ⟨by rfl, rfl⟩) (by assumption) ?_
               try simp only [Act.put, List.setIfInBounds_toArray, List.set_cons_zero, List.set_cons_succ]
               refine wpAnyH_take (i := 38) (oi := { dst := some 111, op := Op.indexAddr 27 (Operand.tmp 109) (Operand.tmp 110), type := 0, pos := "law.go:110", after := #[{ on := 36, ground := Ground.data }, { on := 37, ground := Ground.data }, { on := 30, ground := Ground.guard }], guard := some (30, true) }) (v := undef) rfl (by kernel_rfl) (by kernel_rfl) (by kernel_rfl) (fun _ _ _ h => h) (Or.inr ⟨by rfl, rfl⟩) (by assumption) ?_
               try simp only [Act.put, List.setIfInBounds_toArray, List.set_cons_zero, List.set_cons_succ]
               refine wpAnyH_take (i := 39) (oi := { dst := some 112, op := Op.load 3 (Operand.tmp 111), type := 3, pos := "law.go:110", after := #[{ on := 38, ground := Ground.data }, { on := 30, ground := Ground.guard }], guard := some (30, true) }) (v := undef) rfl (by kernel_rfl) (by kernel_rfl) (by kernel_rfl) (fun _ _ _ h => h) (Or.inr ⟨by rfl, rfl⟩) (by assumption) ?_
               try simp only [Act.put, List.setIfInBounds_toArray, List.set_cons_zero, List.set_cons_succ]
               refine wpAnyH_take (i := 40) (oi := { dst := some 113, op := Op.call { callee := Callee.value (Operand.func 19), args := #[Operand.tmp 8, Operand.tmp 112], argTypes := #[29, 3] }, type := 4, pos := "law.go:110", after := #[{ on := 39, ground := Ground.data }, { on := 35, ground := Ground.chain }, { on := 30, ground := Ground.guard }], guard := some (30, true) }) (v := undef) rfl (by kernel_rfl) (by kernel_rfl) (by kernel_rfl) (fun _ _ _ h => h) (Or.inr ⟨by rfl, rfl⟩) (by assumption) ?_
               try simp only [Act.put, List.setIfInBounds_toArray, List.set_cons_zero, List.set_cons_succ]
               refine wpAnyH_take (i := 41) (oi := { dst := some 114, op := Op.binOp BinOp.neq 4 (Operand.tmp 108) (Operand.tmp 113) 4, type := 4, pos := "law.go:110", after := #[{ on := 35, ground := Ground.data }, { on := 40, ground := Ground.data }, { on := 30, ground := Ground.guard }], guard := some (30, true) }) (v := undef) rfl (by kernel_rfl) (by kernel_rfl) (by kernel_rfl) (fun _ _ _ h => h) (Or.inr ⟨by rfl, rfl⟩) (by assumption) ?_
               try simp only [Act.put, List.setIfInBounds_toArray, List.set_cons_zero, List.set_cons_succ]
               refine wpAnyH_take (i := 42) (oi := { dst := some 115, op := Op.pick (Operand.tmp 103) (Operand.tmp 114) (Operand.const (Value.bool false)), type := 4, pos := "law.go:110", after := #[{ on := 30, ground := Ground.data }, { on := 41, ground := Ground.data }, { on := 22, ground := Ground.guard }], guard := some (22, false) }) (v := ?_) rfl (by kernel_rfl) (by kernel_rfl) (by kernel_rfl) (fun _ _ _ h => h) (Or.inl ⟨by rfl, ?_⟩) (by assumption) ?_
               rotate_left 1
               · (intro w' hSw; (try dsimp only at hSw); go_simp <;> with_reducible rfl)
               try simp only [Act.put, List.setIfInBounds_toArray, List.set_cons_zero, List.set_cons_succ]
               refine wpAnyH_take (i := 43) (oi := { dst := some 116, op := Op.pick (Operand.tmp 95) (Operand.const (Value.bool true)) (Operand.tmp 115), type := 4, pos := "law.go:110", after := #[{ on := 22, ground := Ground.data }, { on := 42, ground := Ground.data }], guard := none }) (v := ?_) rfl (by kernel_rfl) (by kernel_rfl) (by kernel_rfl) (fun _ _ _ h => h) (Or.inl ⟨by rfl, ?_⟩) (by assumption) ?_
               rotate_left 1
               · (intro w' hSw; (try dsimp only at hSw); go_simp <;> with_reducible rfl)
               try simp only [Act.put, List.setIfInBounds_toArray, List.set_cons_zero, List.set_cons_succ]
               refine wpAnyH_done (by kernel_rfl) ?_ _
               refine NoPanic.normal ?_
               have S5 := S0
               have hP5 := HP0d.out
               obtain ⟨S50, S51, S52⟩ := S5
               have hco := hok
               have HP5 := Lib.hid hP5
               clear hP5 HP0d HP0 S0 y1 y2 y3
               go_wp2_with fail
               refine (aget_any w1.heap.size B1 b s (Ar.hdl b s j) _ _ _ wr.drew HP5.out.a1 hji (by omega)).mono ?_
               rintro e w6 ⟨rfl, hb6⟩
               have hP6 := HP5.out.below hb6
               obtain ⟨S60, S61, S62⟩ := HS.out _ _ _ _ _ _ _ hP6
               rw [Ar.get_at hjl (by omega)]
               obtain ⟨G, hG⟩ : ∃ G, Ar.getAt cs j = G := ⟨_, rfl⟩
               rw [hG]
               have HG := Lib.hid hG
               have HP6 := Lib.hid hP6
               clear hP6 hb6 hG S50 S51 S52
               go_wp2_with fail
               refine (aget_any w1.heap.size B2 b' s' (Ar.hdl b' s' j) _ _ _ w6 HP6.out.a2 hji' (by omega)).mono ?_
               rintro e w7 ⟨rfl, hb7⟩
               rw [Ar.get_at hjl (by omega), HG.out]
               have HP7 := Lib.hid (HP6.out.below hb7)
               have hgg : (G.isSome != G.isSome) = false := by cases G <;> rfl
               clear hb7 S60 S61 S62
               go_wp2_with fail
               go_roundw
               case rel => exact ⟨k + 1, cs, fr, _, _, sl, by omega, by go_num, HP7.out, hco, by omega, by rw [HM.out]; omega, hsl⟩
               case measure => simp [intOf]; omega
       · obtain ⟨As, ks, Af, kf, hM1, hFe1⟩ := hP.a1.opened (by decide) (by decide) (by decide)
         obtain ⟨At, kt, Ag, kg, hM2, hFe2⟩ := hP.a2.opened (by decide) (by decide) (by decide)
         have e2 := hM1.cells.2.2.1
         have e3 := hM2.cells.2.2.1
         have HM1 := Lib.hid hM1
         have HM2 := Lib.hid hM2
         have HP0 := Lib.hid hP
         clear hM1 hM2 hFe1 hFe2 hP
         go_wp2_with fail
         refine (alen_any w1.heap.size B1 b s cs fr F1 wr HP0.out.a1).mono ?_
         rintro e w4 ⟨rfl, hb4⟩
         have HP4 := Lib.hid (HP0.out.below hb4)
         have HM14 := Lib.hid (HM1.out.below hb4)
         have HM24 := Lib.hid (HM2.out.below hb4)
         clear hb4
         go_wp2_with fail
         refine (alen_any w1.heap.size B2 b' s' cs fr F2 w4 HP4.out.a2).mono ?_
         rintro e w5 ⟨rfl, hb5⟩
         have HP5 := Lib.hid (HP4.out.below hb5)
         have hM15 := HM14.out.below hb5
         have hM25 := HM24.out.below hb5
         have x2 := hM15.cells.2.2.1
         have x3 := hM25.cells.2.2.1
         have HO1 := Lib.hid (own_zero hM15.2.2.1)
         have HO2 := Lib.hid (own_zero hM25.2.2.1)
         clear hb5 hM15 hM25 e2 e3
         go_wp2_with fail
         go_loopw [157] (fun i wx => ∃ k : Nat, k ≤ cs.length ∧ i = .int .i64 k ∧ Below w5.heap.size w5 wx) (fun i _ => cs.length - (intOf i).toNat)
         case atStart => exact ⟨0, Nat.zero_le _, rfl, Below.refl _ _⟩
         case round =>
           obtain ⟨k, hk, rfl, hbw⟩ := hrel
           by_cases hlt : k < cs.length
           · obtain ⟨f, hfk⟩ : ∃ f, cs[k]? = some f := ⟨_, List.getElem?_eq_getElem hlt⟩
             obtain ⟨g2, hg2, _, hc2⟩ := own_cells (own_below HO1.out hbw) (by omega)
             obtain ⟨g4, hg4, _, hc4⟩ := own_cells (own_below HO2.out hbw) (by omega)
             obtain ⟨p1, p2⟩ := Ar.slots_get cs k f hfk
             have d2 := hc2 _ _ p1
             have d2' := hc2 _ _ p2
             have d4 := hc4 _ _ p1
             have d4' := hc4 _ _ p2
             have a3 := acell x2 hbw
             have b3 := acell x3 hbw
             have HBW := Lib.hid hbw
             subst hg2 hg4
             obtain ⟨u, hu⟩ : ∃ u, f.isSome = u := ⟨_, rfl⟩
             obtain ⟨z, hz⟩ : ∃ z, f.getD 0 = z := ⟨_, rfl⟩
             rw [hu] at d2 d4
             rw [hz] at d2' d4'
             have q0 : (0 : Int) ≤ (k : Int) := by omega
             have q1 : (k : Int) < (cs.length : Int) := by omega
             clear hc2 hc4 hfk hbw p1 p2 hu hz
             go_wp2_with fail
             go_quiet (fail)
             go_wp2_with fail
             go_roundw
             case rel => exact ⟨k + 1, by omega, by go_num, Below.trans HBW.out ⟨rfl, rfl, rfl, Nat.le_refl _, fun _ _ => rfl⟩⟩
             case measure => simp [intOf]; omega
           · have hbf := HB1.out.trans ((HP5.out.bel.trans (hbw.mono HP5.out.bel.size)).mono HB1.out.size)
             have HBF := Lib.hid hbf
             clear hbf hbw
             go_wp2_with fail
             go_ret
             exact ⟨rfl, HBF.out⟩
end Go.Proofs.Ytccdhfpifohhjaa
