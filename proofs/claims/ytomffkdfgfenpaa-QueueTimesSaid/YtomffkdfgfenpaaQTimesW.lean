/- The statement QueueTimes returns true: its walk. -/
import Derived.Test.YtomffkdfgfenpaaQTimS
import Derived.BigQuiet
import Derived.Deep.RegionHeld3
import Derived.Deep.LoopGhost
namespace Go.Proofs.Ytomffkdfgfenpaa
open Go Go.RowKit

set_option maxRecDepth 100000 in
set_option maxHeartbeats 4000000 in
theorem qtimes_walk (A : Option Addr) (cp : Nat) (l0 : List T3) (w : World) (hl : Ops w A l0) (hbd : ∀ x ∈ l0, OpOk x) :
    Calls Try.prog 7 #[.slice A l0.length cp] w fun e w' => e = .returned (.bool true) ∧ Below w.heap.size w w' := by
  obtain ⟨n, hn⟩ : ∃ n, l0.length = n := ⟨_, rfl⟩
  rw [hn]
  have HN := Lib.hid hn
  have HL := Lib.hid hl
  have HD := Lib.hid hbd
  clear hn hl hbd
  go_enter Try.func7, Try.ntmps7
  go_wp2_with fail
  refine (qawake_any _).mono ?_
  rintro e w1 ⟨rfl, hb1⟩
  by_cases hbig : 80 < n
  · have hbig' : (80 : Int) < (n : Int) := by omega
    go_wp2_with fail
    refine (qawake_any _).mono ?_
    rintro e w2 ⟨rfl, hb2⟩
    go_wp2_with fail
    go_ret
    exact ⟨rfl, hb1.trans (hb2.mono hb1.size)⟩
  · have hbig' : ¬ (80 : Int) < (n : Int) := by omega
    have hs1 := hb1.size
    have hT := TM.new w1 w.heap.size hs1
    have hB2 := hb1.alloc hs1 (.cells #[.slice none 0 0, .int .i64 0] 55)
    obtain ⟨Q, hQQ⟩ : ∃ Q, w1.heap.size = Q := ⟨_, rfl⟩
    obtain ⟨w2, hw2⟩ : ∃ w2, w1.alloc (.cells #[.slice none 0 0, .int .i64 0] 55) = w2 := ⟨_, rfl⟩
    rw [hw2, hQQ] at hT
    rw [hw2] at hB2
    have hT3 := hT.below ((Below.refl _ w2).alloc (Nat.le_refl _) (.cells #[.slice none 0 0, .int .i64 0] 58))
    have hR3 := Whole.new w2 #[.slice none 0 0, .int .i64 0] 58
    have hB3 := hB2.alloc hB2.size (.cells #[.slice none 0 0, .int .i64 0] 58)
    have hs2 := hB2.size
    obtain ⟨R, hRR⟩ : ∃ R, w2.heap.size = R := ⟨_, rfl⟩
    obtain ⟨w3, hw3⟩ : ∃ w3, w2.alloc (.cells #[.slice none 0 0, .int .i64 0] 58) = w3 := ⟨_, rfl⟩
    rw [hw3] at hT3 hR3 hB3
    rw [hRR] at hR3 hs2
    have hTB : TB w.heap.size w3 Q (.slice none 0 0) [] 0 R (.slice none 0 0) [] 0 := ⟨hT3, hR3, TR.nil _ _ _ _, hs2⟩
    clear hT hB2 hT3 hR3
    go_wp2_with fail
    clear hQQ hw2 hb1 hs1 hRR hw3 hs2
    go_loopw [31] (fun i wr => ∃ (k : Nat) (q : Value) (L : List T3) (nx : Int) (rv : Value) (l : List T3), k ≤ n ∧ i = .int .i64 k ∧ TB w.heap.size wr Q q L nx R rv l nx ∧ MD L l nx k ∧ Below w.heap.size w wr) (fun i _ => n - (intOf i).toNat)
    case atStart => exact ⟨0, _, [], 0, _, [], Nat.zero_le _, rfl, hTB, ⟨List.Perm.refl _, List.Pairwise.nil, List.Pairwise.nil, fun x hx => by simp at hx, Int.le_refl _, Int.le_refl _, Nat.le_refl _⟩, hB3⟩
    case round =>
      clear hTB hB3
      obtain ⟨k, q, L, nx, rv, l, hk, rfl, hT, hM, hB⟩ := hrel
      have hbs := hB.size
      by_cases hlt : k < n
      · obtain ⟨⟨kd, id, due⟩, hx⟩ : ∃ x, l0[k]? = some x := ⟨l0[k]'(by rw [HN.out]; exact hlt), by simp⟩
        obtain ⟨hk0, hk1, hi0, hi1, hd0, hd1⟩ := HD.out _ (List.mem_of_getElem? hx)
        obtain ⟨bl, ol, rfl, y0, y1, y2⟩ := (HL.out.below hB) k _ hx
        simp only at hk0 hk1 hi0 hi1 hd0 hd1 y0 y1 y2
        have q1 : (k : Int) < (n : Int) := by omega
        have q0 : (0 : Int) ≤ (k : Int) := by omega
        have hwi : IntKind.i64.wrap id = id := by rw [IntKind.wrap_i64]; omega
        have hwd : IntKind.i64.wrap due = due := by rw [IntKind.wrap_i64]; omega
        have hnx0 := hM.n0
        have hnx1 := hM.n1
        have hLk := hM.len
        have hll : l.length ≤ 80 := by rw [hM.perm.length_eq]; omega
        have hrd : ∀ nq, TB w.heap.size (wr.drewN nq) Q q L nx R rv l nx ∧ Below w.heap.size w (wr.drewN nq) := fun nq => by
          have hdr : Below wr.heap.size wr (wr.drewN nq) := ⟨rfl, rfl, rfl, Nat.le_refl _, fun _ _ => rfl⟩
          exact ⟨hT.below hdr, hB.trans (hdr.mono hbs)⟩
        have HRD := Lib.hid hrd
        have HM := Lib.hid hM
        have hk6 := six hk0
        clear hx hM hT hB hrd hbs
        go_wp2_with fail
        go_quiet (fail)
        obtain ⟨hT, hB⟩ := HRD.out nq
        have z0 : (wr.drewN nq).cell? ⟨bl, ol + k * 3, none⟩ = some (.int .u8 kd) := y0
        obtain ⟨ws, hws⟩ : ∃ ws, wr.drewN nq = ws := ⟨_, rfl⟩
        rw [hws] at hT hB z0 ⊢
        clear HRD y0 y1 y2 hws
        have hbs := hB.size
        obtain ⟨Ar, cr, rfl⟩ := hT.r.form
        obtain ⟨r0, r1, f0, f1⟩ := hT.cells
        have HT := Lib.hid hT
        clear hT
        rcases hk6 with ⟨e1, e2⟩ | ⟨e1, e2⟩ | ⟨e1, e2⟩ | ⟨e1, e2⟩ | ⟨e1, e2⟩ | ⟨e1, e2⟩
        · go_wp2_with fail
          refine (radd_any Ar cr l nx due ws HT.out.r (by omega) ⟨by omega, by omega⟩).mono ?_
          rintro e w4 ⟨v4, rfl, hv4, hb4⟩
          obtain ⟨A4, m4, c4, rfl⟩ := RV.form3 hv4
          have h4 := HT.out.below hb4
          have hB4 := hB.trans (hb4.mono hbs)
          obtain ⟨p0, p1, g0, g1⟩ := h4.cells
          obtain ⟨X, hX, hTX, gX⟩ := h4.put hv4 (nx + 1)
          have hBX := hB4.grown gX hB4.size (fun j hj => by simp at hj; have := HT.out.low; omega)
          have HTX := Lib.hid hTX
          have hbx := hBX.size
          have x0 : X.cell? ⟨R, 0, none⟩ = some (.slice A4 m4 c4) := hTX.b.cell 0
          have x1 : X.cell? ⟨R, 1, none⟩ = some (.int .i64 (nx + 1)) := hTX.b.cell 1
          have HDX := Lib.hid (hTX.below (w' := X.drew) ⟨rfl, rfl, rfl, Nat.le_refl _, fun _ _ => rfl⟩)
          have HMA := Lib.hid (HM.out.add due)
          clear hv4 hb4 h4 gX hTX r0 r1 f0 f1 HT hB4
          go_wp2_with fail
          go_region_held3 (fun W => W.cell? ⟨R, 1, none⟩ = some (.int .i64 (nx + 1))) (first | exact x1 | assumption) (first | (go_at_call 24; refine (tadd_any w.heap.size Q q L nx due X.drew HDX.out.t hbx HM.out.lx.srt (by omega) ⟨by omega, by omega⟩).mono ?_; rintro e w5 ⟨rfl, q5, ht5, hst5⟩; have h5 := HDX.out.code ht5 hst5; have y1 := h5.cells.2.1))
          have HT5 := Lib.hid h5
          have hBD : Below w.heap.size w X.drew := hBX.trans ⟨rfl, rfl, rfl, Nat.le_refl _, fun _ _ => rfl⟩
          have hB5 := hBD.trans (hst5.1.below hbx fun k hk => (HDX.out.t.lt k hk).1)
          clear ht5 hst5 h5 y1 p0 p1 g0 g1 hX x0 x1 HTX HDX hB hBX
          obtain ⟨r0, r1, _, _⟩ := HT5.out.cells
          have hlk := HMA.out.len
          have HSM := Lib.hid (same_any w.heap.size Q q5 (.slice A4 m4 c4) (l ++ [(nx + 1, due, nx + 1)]) (ins (nx + 1, due, nx + 1) L) (nx + 1) w5 HT5.out.t HT5.out.r (by rw [HMA.out.perm.length_eq]; omega) HMA.out.perm HMA.out.lx HMA.out.idn)
          go_wp2_with fail
          refine HSM.out.mono ?_
          rintro e wz ⟨rfl, hbz⟩
          have HF := Lib.hid (And.intro (HT5.out.below hbz) (hB5.trans (hbz.mono hB5.size)))
          clear HSM hbz r0 r1
          go_wp2_with fail
          go_roundw
          case rel => exact ⟨k + 1, _, (ins (nx + 1, due, nx + 1) L), (nx + 1), (.slice A4 m4 c4), (l ++ [(nx + 1, due, nx + 1)]), by omega, by go_num, HF.out.1, HMA.out, HF.out.2⟩
          case measure => simp [intOf]; omega
        · go_wp2_with fail
          refine (radd_any Ar cr l nx due ws HT.out.r (by omega) ⟨by omega, by omega⟩).mono ?_
          rintro e w4 ⟨v4, rfl, hv4, hb4⟩
          obtain ⟨A4, m4, c4, rfl⟩ := RV.form3 hv4
          have h4 := HT.out.below hb4
          have hB4 := hB.trans (hb4.mono hbs)
          obtain ⟨p0, p1, g0, g1⟩ := h4.cells
          obtain ⟨X, hX, hTX, gX⟩ := h4.put hv4 (nx + 1)
          have hBX := hB4.grown gX hB4.size (fun j hj => by simp at hj; have := HT.out.low; omega)
          have HTX := Lib.hid hTX
          have hbx := hBX.size
          have x0 : X.cell? ⟨R, 0, none⟩ = some (.slice A4 m4 c4) := hTX.b.cell 0
          have x1 : X.cell? ⟨R, 1, none⟩ = some (.int .i64 (nx + 1)) := hTX.b.cell 1
          have HDX := Lib.hid (hTX.below (w' := X.drew) ⟨rfl, rfl, rfl, Nat.le_refl _, fun _ _ => rfl⟩)
          have HMA := Lib.hid (HM.out.add due)
          clear hv4 hb4 h4 gX hTX r0 r1 f0 f1 HT hB4
          go_wp2_with fail
          go_region_held3 (fun W => W.cell? ⟨R, 1, none⟩ = some (.int .i64 (nx + 1))) (first | exact x1 | assumption) (first | (go_at_call 24; refine (tadd_any w.heap.size Q q L nx due X.drew HDX.out.t hbx HM.out.lx.srt (by omega) ⟨by omega, by omega⟩).mono ?_; rintro e w5 ⟨rfl, q5, ht5, hst5⟩; have h5 := HDX.out.code ht5 hst5; have y1 := h5.cells.2.1))
          have HT5 := Lib.hid h5
          have hBD : Below w.heap.size w X.drew := hBX.trans ⟨rfl, rfl, rfl, Nat.le_refl _, fun _ _ => rfl⟩
          have hB5 := hBD.trans (hst5.1.below hbx fun k hk => (HDX.out.t.lt k hk).1)
          clear ht5 hst5 h5 y1 p0 p1 g0 g1 hX x0 x1 HTX HDX hB hBX
          obtain ⟨r0, r1, _, _⟩ := HT5.out.cells
          have hlk := HMA.out.len
          have HSM := Lib.hid (same_any w.heap.size Q q5 (.slice A4 m4 c4) (l ++ [(nx + 1, due, nx + 1)]) (ins (nx + 1, due, nx + 1) L) (nx + 1) w5 HT5.out.t HT5.out.r (by rw [HMA.out.perm.length_eq]; omega) HMA.out.perm HMA.out.lx HMA.out.idn)
          go_wp2_with fail
          refine HSM.out.mono ?_
          rintro e wz ⟨rfl, hbz⟩
          have HF := Lib.hid (And.intro (HT5.out.below hbz) (hB5.trans (hbz.mono hB5.size)))
          clear HSM hbz r0 r1
          go_wp2_with fail
          go_roundw
          case rel => exact ⟨k + 1, _, (ins (nx + 1, due, nx + 1) L), (nx + 1), (.slice A4 m4 c4), (l ++ [(nx + 1, due, nx + 1)]), by omega, by go_num, HF.out.1, HMA.out, HF.out.2⟩
          case measure => simp [intOf]; omega
        · by_cases hy : 1 ≤ id ∧ id ≤ nx ∧ fnd id l = none
          · go_wp2_with fail
            refine (ragain_yes Ar cr l nx id due ws HT.out.r (by omega) ⟨by omega, by omega⟩ hy.1 hy.2.1 hy.2.2).mono ?_
            rintro e w4 ⟨v4, rfl, hv4, hb4⟩
            obtain ⟨A4, m4, c4, rfl⟩ := RV.form3 hv4
            have haw5 := (Below.refl _ w4).alloc (Nat.le_refl _) (.cells #[(.slice A4 m4 c4), .int .i64 (nx + 1)] 58)
            have hNw5 := Whole.new w4 #[(.slice A4 m4 c4), .int .i64 (nx + 1)] 58
            have hsw5 : (w4.alloc (.cells #[(.slice A4 m4 c4), .int .i64 (nx + 1)] 58)).heap.size = w4.heap.size + 1 := by simp
            obtain ⟨w5, hww5⟩ : ∃ W, w4.alloc (.cells #[(.slice A4 m4 c4), .int .i64 (nx + 1)] 58) = W := ⟨_, rfl⟩
            rw [hww5] at haw5 hNw5 hsw5
            have n0 := hNw5.cell 0
            have n1 := hNw5.cell 1
            have hb5 := hb4.trans (haw5.mono hb4.size)
            have hv5 := hv4.below haw5
            have h4 := HT.out.below hb5
            have hB4 := hB.trans (hb5.mono hbs)
            obtain ⟨p0, p1, g0, g1⟩ := h4.cells
            obtain ⟨X, hX, hTX, gX⟩ := h4.put hv5 (nx + 1)
            have hBX := hB4.grown gX hB4.size (fun j hj => by simp at hj; have := HT.out.low; omega)
            have HTX := Lib.hid hTX
            have hbx := hBX.size
            have x0 : X.cell? ⟨R, 0, none⟩ = some (.slice A4 m4 c4) := hTX.b.cell 0
            have x1 : X.cell? ⟨R, 1, none⟩ = some (.int .i64 (nx + 1)) := hTX.b.cell 1
            have HDX := Lib.hid (hTX.below (w' := X.drew) ⟨rfl, rfl, rfl, Nat.le_refl _, fun _ _ => rfl⟩)
            have HMA := Lib.hid (HM.out.again due hy.2.1 ((fnd_iff HM.out.perm).1 hy.2.2))
            have hfL := (fnd_iff HM.out.perm).1 hy.2.2
            have HY := Lib.hid (And.intro hy.1 (And.intro hy.2.1 hfL))
            clear hv4 hv5 hb4 hb5 h4 gX hTX r0 r1 f0 f1 HT hB4 haw5 hNw5 hsw5 hfL hy hB
            go_wp2_with fail
            refine (tagain_yes w.heap.size Q q L nx id due X HTX.out.t hbx HM.out.lx.srt (by omega) ⟨by omega, by omega⟩ HY.out.1 HY.out.2.1 HY.out.2.2).mono ?_
            rintro e w6 ⟨rfl, q6, ht6, hst6⟩
            have HT6 := Lib.hid (HTX.out.code ht6 hst6)
            have hB6 := hBX.trans (hst6.1.below hbx fun k hk => (HTX.out.t.lt k hk).1)
            clear ht6 hst6 p0 p1 g0 g1 hX x0 x1 HTX HDX hBX n0 n1 hww5
            obtain ⟨r0, r1, _, _⟩ := HT6.out.cells
            have hlk := HMA.out.len
            have HSM := Lib.hid (same_any w.heap.size Q q6 (.slice A4 m4 c4) (l ++ [(id, due, nx + 1)]) (ins (id, due, nx + 1) L) (nx + 1) w6 HT6.out.t HT6.out.r (by rw [HMA.out.perm.length_eq]; omega) HMA.out.perm HMA.out.lx HMA.out.idn)
            go_wp2_with fail
            refine HSM.out.mono ?_
            rintro e wz ⟨rfl, hbz⟩
            have HF := Lib.hid (And.intro (HT6.out.below hbz) (hB6.trans (hbz.mono hB6.size)))
            clear HSM hbz r0 r1
            go_wp2_with fail
            go_roundw
            case rel => exact ⟨k + 1, _, (ins (id, due, nx + 1) L), (nx + 1), (.slice A4 m4 c4), (l ++ [(id, due, nx + 1)]), by omega, by go_num, HF.out.1, HMA.out, HF.out.2⟩
            case measure => simp [intOf]; omega
          · go_wp2_with fail
            refine (ragain_no Ar cr l nx id due ws HT.out.r (by omega) hy).mono ?_
            rintro e w4 ⟨rfl, hb4⟩
            have hv4 := HT.out.r.below hb4
            have haw5 := (Below.refl _ w4).alloc (Nat.le_refl _) (.cells #[(.slice Ar l.length cr), .int .i64 (nx)] 58)
            have hNw5 := Whole.new w4 #[(.slice Ar l.length cr), .int .i64 (nx)] 58
            have hsw5 : (w4.alloc (.cells #[(.slice Ar l.length cr), .int .i64 (nx)] 58)).heap.size = w4.heap.size + 1 := by simp
            obtain ⟨w5, hww5⟩ : ∃ W, w4.alloc (.cells #[(.slice Ar l.length cr), .int .i64 (nx)] 58) = W := ⟨_, rfl⟩
            rw [hww5] at haw5 hNw5 hsw5
            have n0 := hNw5.cell 0
            have n1 := hNw5.cell 1
            have hb5 := hb4.trans (haw5.mono hb4.size)
            have hv5 := hv4.below haw5
            have h4 := HT.out.below hb5
            have hB4 := hB.trans (hb5.mono hbs)
            obtain ⟨p0, p1, g0, g1⟩ := h4.cells
            obtain ⟨X, hX, hTX, gX⟩ := h4.put hv5 (nx)
            have hBX := hB4.grown gX hB4.size (fun j hj => by simp at hj; have := HT.out.low; omega)
            have HTX := Lib.hid hTX
            have hbx := hBX.size
            have x0 : X.cell? ⟨R, 0, none⟩ = some (.slice Ar l.length cr) := hTX.b.cell 0
            have x1 : X.cell? ⟨R, 1, none⟩ = some (.int .i64 (nx)) := hTX.b.cell 1
            have HDX := Lib.hid (hTX.below (w' := X.drew) ⟨rfl, rfl, rfl, Nat.le_refl _, fun _ _ => rfl⟩)
            have HMA := Lib.hid HM.out.same
            have HY := Lib.hid (show ¬ (1 ≤ id ∧ id ≤ nx ∧ fnd id L = none) from fun h => hy ⟨h.1, h.2.1, (fnd_iff HM.out.perm).2 h.2.2⟩)
            clear hv4 hv5 hb4 hb5 h4 gX hTX r0 r1 f0 f1 HT hB4 haw5 hNw5 hsw5 hy hB
            go_wp2_with fail
            refine (tagain_no w.heap.size Q q L nx id due X HTX.out.t (by omega) HY.out).mono ?_
            rintro e w6 ⟨rfl, hb6⟩
            have HT6 := Lib.hid (HTX.out.below hb6)
            have hB6 := hBX.trans (hb6.mono hbx)
            clear hb6 p0 p1 g0 g1 hX x0 x1 HTX HDX hBX n0 n1 hww5
            obtain ⟨r0, r1, _, _⟩ := HT6.out.cells
            have hlk := HMA.out.len
            have HSM := Lib.hid (same_any w.heap.size Q q (.slice Ar l.length cr) l L nx w6 HT6.out.t HT6.out.r (by rw [HMA.out.perm.length_eq]; omega) HMA.out.perm HMA.out.lx HMA.out.idn)
            go_wp2_with fail
            refine HSM.out.mono ?_
            rintro e wz ⟨rfl, hbz⟩
            have HF := Lib.hid (And.intro (HT6.out.below hbz) (hB6.trans (hbz.mono hB6.size)))
            clear HSM hbz r0 r1
            go_wp2_with fail
            go_roundw
            case rel => exact ⟨k + 1, _, L, nx, (.slice Ar l.length cr), l, by omega, by go_num, HF.out.1, HMA.out, HF.out.2⟩
            case measure => simp [intOf]; omega
        · cases hf : fnd id l with
          | some i =>
            go_wp2_with fail
            refine (rremove_yes Ar cr l nx id i ws HT.out.r (by omega) hf).mono ?_
            rintro e w4 ⟨v4, rfl, hv40, hb4⟩
            have hv4 : RV w4 v4 (del id l) := hv40.lower (Nat.zero_le _)
            clear hv40
            obtain ⟨A4, m4, c4, rfl⟩ := RV.form3 hv4
            have haw5 := (Below.refl _ w4).alloc (Nat.le_refl _) (.cells #[(.slice A4 m4 c4), .int .i64 (nx)] 58)
            have hNw5 := Whole.new w4 #[(.slice A4 m4 c4), .int .i64 (nx)] 58
            have hsw5 : (w4.alloc (.cells #[(.slice A4 m4 c4), .int .i64 (nx)] 58)).heap.size = w4.heap.size + 1 := by simp
            obtain ⟨w5, hww5⟩ : ∃ W, w4.alloc (.cells #[(.slice A4 m4 c4), .int .i64 (nx)] 58) = W := ⟨_, rfl⟩
            rw [hww5] at haw5 hNw5 hsw5
            have n0 := hNw5.cell 0
            have n1 := hNw5.cell 1
            have hb5 := hb4.trans (haw5.mono hb4.size)
            have hv5 := hv4.below haw5
            have h4 := HT.out.below hb5
            have hB4 := hB.trans (hb5.mono hbs)
            obtain ⟨p0, p1, g0, g1⟩ := h4.cells
            obtain ⟨X, hX, hTX, gX⟩ := h4.put hv5 (nx)
            have hBX := hB4.grown gX hB4.size (fun j hj => by simp at hj; have := HT.out.low; omega)
            have HTX := Lib.hid hTX
            have hbx := hBX.size
            have x0 : X.cell? ⟨R, 0, none⟩ = some (.slice A4 m4 c4) := hTX.b.cell 0
            have x1 : X.cell? ⟨R, 1, none⟩ = some (.int .i64 (nx)) := hTX.b.cell 1
            have HDX := Lib.hid (hTX.below (w' := X.drew) ⟨rfl, rfl, rfl, Nat.le_refl _, fun _ _ => rfl⟩)
            obtain ⟨j, hj⟩ : ∃ j, fnd id L = some j := by
              cases hj : fnd id L with
              | none => rw [(fnd_iff HM.out.perm).2 hj] at hf; cases hf
              | some j => exact ⟨j, rfl⟩
            have HMA := Lib.hid (HM.out.rem hj)
            have HREM := Lib.hid (tremove_any w.heap.size Q q L nx id X HTX.out.t (by omega))
            rw [hj] at HREM
            clear hv4 hv5 hb4 hb5 h4 gX hTX r0 r1 f0 f1 HT hB4 haw5 hNw5 hsw5 hf hj hB
            go_wp2_with fail
            refine HREM.out.mono ?_
            rintro e w6 ⟨rfl, q6, ht6, hst6⟩
            have HT6 := Lib.hid (HTX.out.code ht6 hst6)
            have hB6 := hBX.trans (hst6.1.below hbx fun k hk => (HTX.out.t.lt k hk).1)
            clear ht6 hst6 p0 p1 g0 g1 hX x0 x1 HTX HDX hBX n0 n1 hww5 HREM
            obtain ⟨r0, r1, _, _⟩ := HT6.out.cells
            have hlk := HMA.out.len
            have HSM := Lib.hid (same_any w.heap.size Q q6 (.slice A4 m4 c4) (del id l) (del id L) nx w6 HT6.out.t HT6.out.r (by rw [HMA.out.perm.length_eq]; omega) HMA.out.perm HMA.out.lx HMA.out.idn)
            go_wp2_with fail
            refine HSM.out.mono ?_
            rintro e wz ⟨rfl, hbz⟩
            have HF := Lib.hid (And.intro (HT6.out.below hbz) (hB6.trans (hbz.mono hB6.size)))
            clear HSM hbz r0 r1
            go_wp2_with fail
            go_roundw
            case rel => exact ⟨k + 1, _, (del id L), nx, (.slice A4 m4 c4), (del id l), by omega, by go_num, HF.out.1, HMA.out, HF.out.2⟩
            case measure => simp [intOf]; omega
          | none =>
            go_wp2_with fail
            refine (rremove_no Ar cr l nx id ws HT.out.r (by omega) hf).mono ?_
            rintro e w4 ⟨rfl, hb4⟩
            have hv4 := HT.out.r.below hb4
            have haw5 := (Below.refl _ w4).alloc (Nat.le_refl _) (.cells #[(.slice Ar l.length cr), .int .i64 (nx)] 58)
            have hNw5 := Whole.new w4 #[(.slice Ar l.length cr), .int .i64 (nx)] 58
            have hsw5 : (w4.alloc (.cells #[(.slice Ar l.length cr), .int .i64 (nx)] 58)).heap.size = w4.heap.size + 1 := by simp
            obtain ⟨w5, hww5⟩ : ∃ W, w4.alloc (.cells #[(.slice Ar l.length cr), .int .i64 (nx)] 58) = W := ⟨_, rfl⟩
            rw [hww5] at haw5 hNw5 hsw5
            have n0 := hNw5.cell 0
            have n1 := hNw5.cell 1
            have hb5 := hb4.trans (haw5.mono hb4.size)
            have hv5 := hv4.below haw5
            have h4 := HT.out.below hb5
            have hB4 := hB.trans (hb5.mono hbs)
            obtain ⟨p0, p1, g0, g1⟩ := h4.cells
            obtain ⟨X, hX, hTX, gX⟩ := h4.put hv5 (nx)
            have hBX := hB4.grown gX hB4.size (fun j hj => by simp at hj; have := HT.out.low; omega)
            have HTX := Lib.hid hTX
            have hbx := hBX.size
            have x0 : X.cell? ⟨R, 0, none⟩ = some (.slice Ar l.length cr) := hTX.b.cell 0
            have x1 : X.cell? ⟨R, 1, none⟩ = some (.int .i64 (nx)) := hTX.b.cell 1
            have HDX := Lib.hid (hTX.below (w' := X.drew) ⟨rfl, rfl, rfl, Nat.le_refl _, fun _ _ => rfl⟩)
            have hj := (fnd_iff HM.out.perm).1 hf
            have HMA := Lib.hid HM.out.same
            have HREM := Lib.hid (tremove_any w.heap.size Q q L nx id X HTX.out.t (by omega))
            rw [hj] at HREM
            rw [del_none hj] at HREM
            clear hv4 hv5 hb4 hb5 h4 gX hTX r0 r1 f0 f1 HT hB4 haw5 hNw5 hsw5 hf hj hB
            go_wp2_with fail
            refine HREM.out.mono ?_
            rintro e w6 ⟨rfl, q6, ht6, hst6⟩
            have HT6 := Lib.hid (HTX.out.code ht6 hst6)
            have hB6 := hBX.trans (hst6.1.below hbx fun k hk => (HTX.out.t.lt k hk).1)
            clear ht6 hst6 p0 p1 g0 g1 hX x0 x1 HTX HDX hBX n0 n1 hww5 HREM
            obtain ⟨r0, r1, _, _⟩ := HT6.out.cells
            have hlk := HMA.out.len
            have HSM := Lib.hid (same_any w.heap.size Q q6 (.slice Ar l.length cr) l L nx w6 HT6.out.t HT6.out.r (by rw [HMA.out.perm.length_eq]; omega) HMA.out.perm HMA.out.lx HMA.out.idn)
            go_wp2_with fail
            refine HSM.out.mono ?_
            rintro e wz ⟨rfl, hbz⟩
            have HF := Lib.hid (And.intro (HT6.out.below hbz) (hB6.trans (hbz.mono hB6.size)))
            clear HSM hbz r0 r1
            go_wp2_with fail
            go_roundw
            case rel => exact ⟨k + 1, _, L, nx, (.slice Ar l.length cr), l, by omega, by go_num, HF.out.1, HMA.out, HF.out.2⟩
            case measure => simp [intOf]; omega
        · cases L with
          | nil =>
            go_wp2_with fail
            refine (rpop_nil Ar cr l nx due ws HT.out.r (by omega) HM.out.perm.eq_nil).mono ?_
            rintro e w4 ⟨rfl, hb4⟩
            have hv4 := HT.out.r.below hb4
            have haw5 := (Below.refl _ w4).alloc (Nat.le_refl _) (.cells #[(.slice Ar l.length cr), .int .i64 (nx)] 58)
            have hNw5 := Whole.new w4 #[(.slice Ar l.length cr), .int .i64 (nx)] 58
            have hsw5 : (w4.alloc (.cells #[(.slice Ar l.length cr), .int .i64 (nx)] 58)).heap.size = w4.heap.size + 1 := by simp
            obtain ⟨w5, hww5⟩ : ∃ W, w4.alloc (.cells #[(.slice Ar l.length cr), .int .i64 (nx)] 58) = W := ⟨_, rfl⟩
            rw [hww5] at haw5 hNw5 hsw5
            have haw6a := (Below.refl _ w5).alloc (Nat.le_refl _) (.cells #[.int .i64 0, .int .i64 0, .int .i64 0] 69)
            have hNw6a := Whole.new w5 #[.int .i64 0, .int .i64 0, .int .i64 0] 69
            have hsw6a : (w5.alloc (.cells #[.int .i64 0, .int .i64 0, .int .i64 0] 69)).heap.size = w5.heap.size + 1 := by simp
            obtain ⟨w6a, hww6a⟩ : ∃ W, w5.alloc (.cells #[.int .i64 0, .int .i64 0, .int .i64 0] 69) = W := ⟨_, rfl⟩
            rw [hww6a] at haw6a hNw6a hsw6a
            rw [hsw5] at hNw6a
            have cw6a0 := hNw6a.cell 0
            have cw6a1 := hNw6a.cell 1
            have cw6a2 := hNw6a.cell 2
            have iw6a0 := hNw6a.free 0
            have iw6a1 := hNw6a.free 1
            have iw6a2 := hNw6a.free 2
            obtain ⟨w6, hww6, hNw6, ggw6⟩ := box3 hNw6a (.int .i64 0) (.int .i64 0) (.int .i64 0)
            have haw6 : Below w5.heap.size w5 w6 := haw6a.grown ggw6 haw6a.size (fun j hj => by simp at hj; omega)
            have hsw6 : w6.heap.size = w5.heap.size + 1 := by rw [← hww6]; simp [hsw6a]
            have cw60 := hNw6.cell 0
            have cw61 := hNw6.cell 1
            have cw62 := hNw6.cell 2
            have hNb := hNw5.below haw6 hNw5.lt
            have n0 := hNb.cell 0
            have n1 := hNb.cell 1
            have hb5 := hb4.trans (haw5.mono hb4.size)
            have hb6 := hb5.trans (haw6.mono hb5.size)
            have hv6 := (hv4.below haw5).below haw6
            have h4 := HT.out.below hb6
            have hB4 := hB.trans (hb6.mono hbs)
            obtain ⟨p0, p1, g0, g1⟩ := h4.cells
            obtain ⟨X, hX, hTX, gX⟩ := h4.put hv6 (nx)
            have hBX := hB4.grown gX hB4.size (fun j hj => by simp at hj; have := HT.out.low; omega)
            have HTX := Lib.hid hTX
            have hbx := hBX.size
            have x0 : X.cell? ⟨R, 0, none⟩ = some (.slice Ar l.length cr) := hTX.b.cell 0
            have x1 : X.cell? ⟨R, 1, none⟩ = some (.int .i64 (nx)) := hTX.b.cell 1
            have HDX := Lib.hid (hTX.below (w' := X.drew) ⟨rfl, rfl, rfl, Nat.le_refl _, fun _ _ => rfl⟩)
            have hRl := HT.out.b.lt
            have hb4s := hb4.size
            have hXs := gX.size
            have hNX := hNw6.grown gX (fun e => by simp at e; omega)
            have HPOP := Lib.hid (tpop_none w.heap.size Q q nx due X HTX.out.t)
            have HMA := Lib.hid HM.out.same
            have HNX := Lib.hid hNX
            clear hv4 hv6 hb4 hb5 hb6 h4 gX hTX r0 r1 f0 f1 HT hB4 haw5 hNw5 hsw5 hNb hRl hb4s hXs hNX hB haw6 hNw6 hsw6 haw6a hNw6a hsw6a ggw6
            go_wp2_with fail
            refine HPOP.out.mono ?_
            rintro e w7 ⟨rfl, hb7⟩
            have h7 := HTX.out.below hb7
            have hN7 := HNX.out.below hb7 HNX.out.lt
            have hB7 := hBX.trans (hb7.mono hbx)
            clear p0 p1 g0 g1 hX x0 x1 HTX HDX hBX n0 n1 hww5 HPOP HNX hww6 hww6a cw60 cw61 cw62 cw6a0 cw6a1 cw6a2 iw6a0 iw6a1 iw6a2 hb7
            have haw8a := (Below.refl _ w7).alloc (Nat.le_refl _) (.cells #[.int .i64 0, .int .i64 0, .int .i64 0] 72)
            have hNw8a := Whole.new w7 #[.int .i64 0, .int .i64 0, .int .i64 0] 72
            have hsw8a : (w7.alloc (.cells #[.int .i64 0, .int .i64 0, .int .i64 0] 72)).heap.size = w7.heap.size + 1 := by simp
            obtain ⟨w8a, hww8a⟩ : ∃ W, w7.alloc (.cells #[.int .i64 0, .int .i64 0, .int .i64 0] 72) = W := ⟨_, rfl⟩
            rw [hww8a] at haw8a hNw8a hsw8a
            have cw8a0 := hNw8a.cell 0
            have cw8a1 := hNw8a.cell 1
            have cw8a2 := hNw8a.cell 2
            have iw8a0 := hNw8a.free 0
            have iw8a1 := hNw8a.free 1
            have iw8a2 := hNw8a.free 2
            obtain ⟨w8, hww8, hNw8, ggw8⟩ := box3 hNw8a (.int .i64 0) (.int .i64 0) (.int .i64 0)
            have haw8 : Below w7.heap.size w7 w8 := haw8a.grown ggw8 haw8a.size (fun j hj => by simp at hj; omega)
            have hsw8 : w8.heap.size = w7.heap.size + 1 := by rw [← hww8]; simp [hsw8a]
            have cw80 := hNw8.cell 0
            have cw81 := hNw8.cell 1
            have cw82 := hNw8.cell 2
            have HT8 := Lib.hid (h7.below haw8)
            have hN8 := hN7.below haw8 hN7.lt
            have hB8 := hB7.trans (haw8.mono hB7.size)
            have d0 := hN8.cell 0
            have d1 := hN8.cell 1
            have d2 := hN8.cell 2
            clear h7 hN7 hB7 hN8 haw8 hNw8 hsw8 haw8a hNw8a hsw8a ggw8
            obtain ⟨r0, r1, _, _⟩ := HT8.out.cells
            have hlk := HMA.out.len
            have HSM := Lib.hid (same_any w.heap.size Q q (.slice Ar l.length cr) l [] nx w8 HT8.out.t HT8.out.r (by rw [HMA.out.perm.length_eq]; omega) HMA.out.perm HMA.out.lx HMA.out.idn)
            go_wp2_with fail
            refine HSM.out.mono ?_
            rintro e wz ⟨rfl, hbz⟩
            have HF := Lib.hid (And.intro (HT8.out.below hbz) (hB8.trans (hbz.mono hB8.size)))
            clear HSM hbz r0 r1
            go_wp2_with fail
            go_roundw
            case rel => exact ⟨k + 1, _, [], nx, (.slice Ar l.length cr), l, by omega, by go_num, HF.out.1, HMA.out, HF.out.2⟩
            case measure => simp [intOf]; omega
          | cons x r =>
            by_cases hdue : due < x.2.1
            · have HDUE := Lib.hid hdue
              clear hdue
              go_wp2_with fail
              refine (rpop_late Ar cr l r x nx due ws HT.out.r (by omega) HM.out.perm HM.out.lx HDUE.out).mono ?_
              rintro e w4 ⟨rfl, hb4⟩
              have hv4 := HT.out.r.below hb4
              have haw5 := (Below.refl _ w4).alloc (Nat.le_refl _) (.cells #[(.slice Ar l.length cr), .int .i64 (nx)] 58)
              have hNw5 := Whole.new w4 #[(.slice Ar l.length cr), .int .i64 (nx)] 58
              have hsw5 : (w4.alloc (.cells #[(.slice Ar l.length cr), .int .i64 (nx)] 58)).heap.size = w4.heap.size + 1 := by simp
              obtain ⟨w5, hww5⟩ : ∃ W, w4.alloc (.cells #[(.slice Ar l.length cr), .int .i64 (nx)] 58) = W := ⟨_, rfl⟩
              rw [hww5] at haw5 hNw5 hsw5
              have haw6a := (Below.refl _ w5).alloc (Nat.le_refl _) (.cells #[.int .i64 0, .int .i64 0, .int .i64 0] 69)
              have hNw6a := Whole.new w5 #[.int .i64 0, .int .i64 0, .int .i64 0] 69
              have hsw6a : (w5.alloc (.cells #[.int .i64 0, .int .i64 0, .int .i64 0] 69)).heap.size = w5.heap.size + 1 := by simp
              obtain ⟨w6a, hww6a⟩ : ∃ W, w5.alloc (.cells #[.int .i64 0, .int .i64 0, .int .i64 0] 69) = W := ⟨_, rfl⟩
              rw [hww6a] at haw6a hNw6a hsw6a
              rw [hsw5] at hNw6a
              have cw6a0 := hNw6a.cell 0
              have cw6a1 := hNw6a.cell 1
              have cw6a2 := hNw6a.cell 2
              have iw6a0 := hNw6a.free 0
              have iw6a1 := hNw6a.free 1
              have iw6a2 := hNw6a.free 2
              obtain ⟨w6, hww6, hNw6, ggw6⟩ := box3 hNw6a (.int .i64 0) (.int .i64 0) (.int .i64 0)
              have haw6 : Below w5.heap.size w5 w6 := haw6a.grown ggw6 haw6a.size (fun j hj => by simp at hj; omega)
              have hsw6 : w6.heap.size = w5.heap.size + 1 := by rw [← hww6]; simp [hsw6a]
              have cw60 := hNw6.cell 0
              have cw61 := hNw6.cell 1
              have cw62 := hNw6.cell 2
              have hNb := hNw5.below haw6 hNw5.lt
              have n0 := hNb.cell 0
              have n1 := hNb.cell 1
              have hb5 := hb4.trans (haw5.mono hb4.size)
              have hb6 := hb5.trans (haw6.mono hb5.size)
              have hv6 := (hv4.below haw5).below haw6
              have h4 := HT.out.below hb6
              have hB4 := hB.trans (hb6.mono hbs)
              obtain ⟨p0, p1, g0, g1⟩ := h4.cells
              obtain ⟨X, hX, hTX, gX⟩ := h4.put hv6 (nx)
              have hBX := hB4.grown gX hB4.size (fun j hj => by simp at hj; have := HT.out.low; omega)
              have HTX := Lib.hid hTX
              have hbx := hBX.size
              have x0 : X.cell? ⟨R, 0, none⟩ = some (.slice Ar l.length cr) := hTX.b.cell 0
              have x1 : X.cell? ⟨R, 1, none⟩ = some (.int .i64 (nx)) := hTX.b.cell 1
              have HDX := Lib.hid (hTX.below (w' := X.drew) ⟨rfl, rfl, rfl, Nat.le_refl _, fun _ _ => rfl⟩)
              have hRl := HT.out.b.lt
              have hb4s := hb4.size
              have hXs := gX.size
              have hNX := hNw6.grown gX (fun e => by simp at e; omega)
              have HPOP := Lib.hid (tpop_late w.heap.size Q q x r nx due X HTX.out.t (by simp at hLk; omega) HDUE.out)
              have HMA := Lib.hid HM.out.same
              have HNX := Lib.hid hNX
              clear hv4 hv6 hb4 hb5 hb6 h4 gX hTX r0 r1 f0 f1 HT hB4 haw5 hNw5 hsw5 hNb hRl hb4s hXs hNX hB haw6 hNw6 hsw6 haw6a hNw6a hsw6a ggw6
              go_wp2_with fail
              refine HPOP.out.mono ?_
              rintro e w7 ⟨rfl, hb7⟩
              have h7 := HTX.out.below hb7
              have hN7 := HNX.out.below hb7 HNX.out.lt
              have hB7 := hBX.trans (hb7.mono hbx)
              clear p0 p1 g0 g1 hX x0 x1 HTX HDX hBX n0 n1 hww5 HPOP HNX hww6 hww6a cw60 cw61 cw62 cw6a0 cw6a1 cw6a2 iw6a0 iw6a1 iw6a2 hb7
              have haw8a := (Below.refl _ w7).alloc (Nat.le_refl _) (.cells #[.int .i64 0, .int .i64 0, .int .i64 0] 72)
              have hNw8a := Whole.new w7 #[.int .i64 0, .int .i64 0, .int .i64 0] 72
              have hsw8a : (w7.alloc (.cells #[.int .i64 0, .int .i64 0, .int .i64 0] 72)).heap.size = w7.heap.size + 1 := by simp
              obtain ⟨w8a, hww8a⟩ : ∃ W, w7.alloc (.cells #[.int .i64 0, .int .i64 0, .int .i64 0] 72) = W := ⟨_, rfl⟩
              rw [hww8a] at haw8a hNw8a hsw8a
              have cw8a0 := hNw8a.cell 0
              have cw8a1 := hNw8a.cell 1
              have cw8a2 := hNw8a.cell 2
              have iw8a0 := hNw8a.free 0
              have iw8a1 := hNw8a.free 1
              have iw8a2 := hNw8a.free 2
              obtain ⟨w8, hww8, hNw8, ggw8⟩ := box3 hNw8a (.int .i64 0) (.int .i64 0) (.int .i64 0)
              have haw8 : Below w7.heap.size w7 w8 := haw8a.grown ggw8 haw8a.size (fun j hj => by simp at hj; omega)
              have hsw8 : w8.heap.size = w7.heap.size + 1 := by rw [← hww8]; simp [hsw8a]
              have cw80 := hNw8.cell 0
              have cw81 := hNw8.cell 1
              have cw82 := hNw8.cell 2
              have HT8 := Lib.hid (h7.below haw8)
              have hN8 := hN7.below haw8 hN7.lt
              have hB8 := hB7.trans (haw8.mono hB7.size)
              have d0 := hN8.cell 0
              have d1 := hN8.cell 1
              have d2 := hN8.cell 2
              clear h7 hN7 hB7 hN8 haw8 hNw8 hsw8 haw8a hNw8a hsw8a ggw8
              obtain ⟨r0, r1, _, _⟩ := HT8.out.cells
              have hlk := HMA.out.len
              have HSM := Lib.hid (same_any w.heap.size Q q (.slice Ar l.length cr) l (x :: r) nx w8 HT8.out.t HT8.out.r (by rw [HMA.out.perm.length_eq]; omega) HMA.out.perm HMA.out.lx HMA.out.idn)
              go_wp2_with fail
              refine HSM.out.mono ?_
              rintro e wz ⟨rfl, hbz⟩
              have HF := Lib.hid (And.intro (HT8.out.below hbz) (hB8.trans (hbz.mono hB8.size)))
              clear HSM hbz r0 r1
              go_wp2_with fail
              go_roundw
              case rel => exact ⟨k + 1, _, (x :: r), nx, (.slice Ar l.length cr), l, by omega, by go_num, HF.out.1, HMA.out, HF.out.2⟩
              case measure => simp [intOf]; omega
            · have HDUE := Lib.hid (show x.2.1 ≤ due by omega)
              clear hdue
              go_wp2_with fail
              refine (rpop_due Ar cr l r x nx due ws HT.out.r (by omega) HM.out.perm HM.out.lx HDUE.out).mono ?_
              rintro e w4 ⟨v4, rfl, hv4, hb4⟩
              obtain ⟨A4, m4, c4, rfl⟩ := RV.form3 hv4
              have haw5 := (Below.refl _ w4).alloc (Nat.le_refl _) (.cells #[(.slice A4 m4 c4), .int .i64 (nx)] 58)
              have hNw5 := Whole.new w4 #[(.slice A4 m4 c4), .int .i64 (nx)] 58
              have hsw5 : (w4.alloc (.cells #[(.slice A4 m4 c4), .int .i64 (nx)] 58)).heap.size = w4.heap.size + 1 := by simp
              obtain ⟨w5, hww5⟩ : ∃ W, w4.alloc (.cells #[(.slice A4 m4 c4), .int .i64 (nx)] 58) = W := ⟨_, rfl⟩
              rw [hww5] at haw5 hNw5 hsw5
              have haw6a := (Below.refl _ w5).alloc (Nat.le_refl _) (.cells #[.int .i64 0, .int .i64 0, .int .i64 0] 69)
              have hNw6a := Whole.new w5 #[.int .i64 0, .int .i64 0, .int .i64 0] 69
              have hsw6a : (w5.alloc (.cells #[.int .i64 0, .int .i64 0, .int .i64 0] 69)).heap.size = w5.heap.size + 1 := by simp
              obtain ⟨w6a, hww6a⟩ : ∃ W, w5.alloc (.cells #[.int .i64 0, .int .i64 0, .int .i64 0] 69) = W := ⟨_, rfl⟩
              rw [hww6a] at haw6a hNw6a hsw6a
              rw [hsw5] at hNw6a
              have cw6a0 := hNw6a.cell 0
              have cw6a1 := hNw6a.cell 1
              have cw6a2 := hNw6a.cell 2
              have iw6a0 := hNw6a.free 0
              have iw6a1 := hNw6a.free 1
              have iw6a2 := hNw6a.free 2
              obtain ⟨w6, hww6, hNw6, ggw6⟩ := box3 hNw6a (.int .i64 x.1) (.int .i64 x.2.1) (.int .i64 x.2.2)
              have haw6 : Below w5.heap.size w5 w6 := haw6a.grown ggw6 haw6a.size (fun j hj => by simp at hj; omega)
              have hsw6 : w6.heap.size = w5.heap.size + 1 := by rw [← hww6]; simp [hsw6a]
              have cw60 := hNw6.cell 0
              have cw61 := hNw6.cell 1
              have cw62 := hNw6.cell 2
              have hNb := hNw5.below haw6 hNw5.lt
              have n0 := hNb.cell 0
              have n1 := hNb.cell 1
              have hb5 := hb4.trans (haw5.mono hb4.size)
              have hb6 := hb5.trans (haw6.mono hb5.size)
              have hv6 := (hv4.below haw5).below haw6
              have h4 := HT.out.below hb6
              have hB4 := hB.trans (hb6.mono hbs)
              obtain ⟨p0, p1, g0, g1⟩ := h4.cells
              obtain ⟨X, hX, hTX, gX⟩ := h4.put hv6 (nx)
              have hBX := hB4.grown gX hB4.size (fun j hj => by simp at hj; have := HT.out.low; omega)
              have HTX := Lib.hid hTX
              have hbx := hBX.size
              have x0 : X.cell? ⟨R, 0, none⟩ = some (.slice A4 m4 c4) := hTX.b.cell 0
              have x1 : X.cell? ⟨R, 1, none⟩ = some (.int .i64 (nx)) := hTX.b.cell 1
              have HDX := Lib.hid (hTX.below (w' := X.drew) ⟨rfl, rfl, rfl, Nat.le_refl _, fun _ _ => rfl⟩)
              have hRl := HT.out.b.lt
              have hb4s := hb4.size
              have hXs := gX.size
              have hNX := hNw6.grown gX (fun e => by simp at e; omega)
              have HPOP := Lib.hid (tpop_due w.heap.size Q q x r nx due X HTX.out.t (by simp at hLk; omega) HDUE.out)
              have HMA := Lib.hid HM.out.pop
              have HNX := Lib.hid hNX
              clear hv4 hv6 hb4 hb5 hb6 h4 gX hTX r0 r1 f0 f1 HT hB4 haw5 hNw5 hsw5 hNb hRl hb4s hXs hNX hB haw6 hNw6 hsw6 haw6a hNw6a hsw6a ggw6
              go_wp2_with fail
              refine HPOP.out.mono ?_
              rintro e w7 ⟨rfl, ht7, hst7⟩
              have h7 := HTX.out.code ht7 hst7
              have hN7 := HNX.out.turns hst7.1 (HTX.out.t.unlike HNX.out (by decide) (by decide))
              have hB7 := hBX.trans (hst7.1.below hbx fun k hk => (HTX.out.t.lt k hk).1)
              clear p0 p1 g0 g1 hX x0 x1 HTX HDX hBX n0 n1 hww5 HPOP HNX hww6 hww6a cw60 cw61 cw62 cw6a0 cw6a1 cw6a2 iw6a0 iw6a1 iw6a2 ht7 hst7
              have haw8 := (Below.refl _ w7).alloc (Nat.le_refl _) (.cells #[.int .i64 x.1, .int .i64 x.2.1, .int .i64 x.2.2] 72)
              have hNw8 := Whole.new w7 #[.int .i64 x.1, .int .i64 x.2.1, .int .i64 x.2.2] 72
              have hsw8 : (w7.alloc (.cells #[.int .i64 x.1, .int .i64 x.2.1, .int .i64 x.2.2] 72)).heap.size = w7.heap.size + 1 := by simp
              obtain ⟨w8, hww8⟩ : ∃ W, w7.alloc (.cells #[.int .i64 x.1, .int .i64 x.2.1, .int .i64 x.2.2] 72) = W := ⟨_, rfl⟩
              rw [hww8] at haw8 hNw8 hsw8
              have cw80 := hNw8.cell 0
              have cw81 := hNw8.cell 1
              have cw82 := hNw8.cell 2
              have HT8 := Lib.hid (h7.below haw8)
              have hN8 := hN7.below haw8 hN7.lt
              have hB8 := hB7.trans (haw8.mono hB7.size)
              have d0 := hN8.cell 0
              have d1 := hN8.cell 1
              have d2 := hN8.cell 2
              have b1 : (x.1 != x.1) = false := by simp
              have b2 : (x.2.1 != x.2.1) = false := by simp
              have b3 : (x.2.2 != x.2.2) = false := by simp
              clear h7 hN7 hB7 hN8 haw8 hNw8 hsw8
              obtain ⟨r0, r1, _, _⟩ := HT8.out.cells
              have hlk := HMA.out.len
              have HSM := Lib.hid (same_any w.heap.size Q (tailV q 1 3) (.slice A4 m4 c4) (del x.1 l) r nx w8 HT8.out.t HT8.out.r (by rw [HMA.out.perm.length_eq]; omega) HMA.out.perm HMA.out.lx HMA.out.idn)
              go_wp2_with fail
              refine HSM.out.mono ?_
              rintro e wz ⟨rfl, hbz⟩
              have HF := Lib.hid (And.intro (HT8.out.below hbz) (hB8.trans (hbz.mono hB8.size)))
              clear HSM hbz r0 r1
              go_wp2_with fail
              go_roundw
              case rel => exact ⟨k + 1, _, r, nx, (.slice A4 m4 c4), (del x.1 l), by omega, by go_num, HF.out.1, HMA.out, HF.out.2⟩
              case measure => simp [intOf]; omega
        · cases L with
          | nil =>
            have hl0 : l.length = 0 := by rw [HM.out.perm.eq_nil]; rfl
            have HFI : Hid (Calls Try.prog 31 #[rval (.slice Ar l.length cr) nx] ws fun e w' => e = .returned (.tuple #[.agg #[.int .i64 0, .int .i64 0, .int .i64 0], .bool false]) ∧ Below ws.heap.size ws w') := Lib.hid (by rw [hl0]; exact rfirst_nil Ar cr nx ws)
            clear hl0
            go_wp2_with fail
            refine HFI.out.mono ?_
            rintro e w4 ⟨rfl, hb4⟩
            have haw5a := (Below.refl _ w4).alloc (Nat.le_refl _) (.cells #[.int .i64 0, .int .i64 0, .int .i64 0] 69)
            have hNw5a := Whole.new w4 #[.int .i64 0, .int .i64 0, .int .i64 0] 69
            have hsw5a : (w4.alloc (.cells #[.int .i64 0, .int .i64 0, .int .i64 0] 69)).heap.size = w4.heap.size + 1 := by simp
            obtain ⟨w5a, hww5a⟩ : ∃ W, w4.alloc (.cells #[.int .i64 0, .int .i64 0, .int .i64 0] 69) = W := ⟨_, rfl⟩
            rw [hww5a] at haw5a hNw5a hsw5a
            have cw5a0 := hNw5a.cell 0
            have cw5a1 := hNw5a.cell 1
            have cw5a2 := hNw5a.cell 2
            have iw5a0 := hNw5a.free 0
            have iw5a1 := hNw5a.free 1
            have iw5a2 := hNw5a.free 2
            obtain ⟨w5, hww5, hNw5, ggw5⟩ := box3 hNw5a (.int .i64 0) (.int .i64 0) (.int .i64 0)
            have haw5 : Below w4.heap.size w4 w5 := haw5a.grown ggw5 haw5a.size (fun j hj => by simp at hj; omega)
            have hsw5 : w5.heap.size = w4.heap.size + 1 := by rw [← hww5]; simp [hsw5a]
            have cw50 := hNw5.cell 0
            have cw51 := hNw5.cell 1
            have cw52 := hNw5.cell 2
            have hb5 := hb4.trans (haw5.mono hb4.size)
            have hT5 := HT.out.below hb5
            have HT5 := Lib.hid hT5
            have hB5 := hB.trans (hb5.mono hbs)
            have HN5 := Lib.hid hNw5
            have HMA := Lib.hid HM.out.same
            have HFC := Lib.hid (tfirst0 w.heap.size Q q nx w5 hT5.t)
            clear hb4 hb5 hT5 r0 r1 f0 f1 HT hB haw5 hNw5 hsw5 haw5a hNw5a hsw5a ggw5
            go_wp2_with fail
            refine HFC.out.mono ?_
            rintro e w6 ⟨rfl, hb6⟩
            have hN6 := HN5.out.below hb6 HN5.out.lt
            have h6 := HT5.out.below hb6
            have hB6 := hB5.trans (hb6.mono hB5.size)
            clear HFC HFI HN5 HT5 hb6 hww5 hww5a cw50 cw51 cw52 cw5a0 cw5a1 cw5a2 iw5a0 iw5a1 iw5a2
            have haw7a := (Below.refl _ w6).alloc (Nat.le_refl _) (.cells #[.int .i64 0, .int .i64 0, .int .i64 0] 72)
            have hNw7a := Whole.new w6 #[.int .i64 0, .int .i64 0, .int .i64 0] 72
            have hsw7a : (w6.alloc (.cells #[.int .i64 0, .int .i64 0, .int .i64 0] 72)).heap.size = w6.heap.size + 1 := by simp
            obtain ⟨w7a, hww7a⟩ : ∃ W, w6.alloc (.cells #[.int .i64 0, .int .i64 0, .int .i64 0] 72) = W := ⟨_, rfl⟩
            rw [hww7a] at haw7a hNw7a hsw7a
            have cw7a0 := hNw7a.cell 0
            have cw7a1 := hNw7a.cell 1
            have cw7a2 := hNw7a.cell 2
            have iw7a0 := hNw7a.free 0
            have iw7a1 := hNw7a.free 1
            have iw7a2 := hNw7a.free 2
            obtain ⟨w7, hww7, hNw7, ggw7⟩ := box3 hNw7a (.int .i64 0) (.int .i64 0) (.int .i64 0)
            have haw7 : Below w6.heap.size w6 w7 := haw7a.grown ggw7 haw7a.size (fun j hj => by simp at hj; omega)
            have hsw7 : w7.heap.size = w6.heap.size + 1 := by rw [← hww7]; simp [hsw7a]
            have cw70 := hNw7.cell 0
            have cw71 := hNw7.cell 1
            have cw72 := hNw7.cell 2
            have HT7 := Lib.hid (h6.below haw7)
            have hN7 := hN6.below haw7 hN6.lt
            have hB7 := hB6.trans (haw7.mono hB6.size)
            have d0 := hN7.cell 0
            have d1 := hN7.cell 1
            have d2 := hN7.cell 2
            clear h6 hN6 hB6 hN7 haw7 hNw7 hsw7 haw7a hNw7a hsw7a ggw7
            obtain ⟨r0, r1, _, _⟩ := HT7.out.cells
            have hlk := HMA.out.len
            have HSM := Lib.hid (same_any w.heap.size Q q (.slice Ar l.length cr) l [] nx w7 HT7.out.t HT7.out.r (by rw [HMA.out.perm.length_eq]; omega) HMA.out.perm HMA.out.lx HMA.out.idn)
            go_wp2_with fail
            refine HSM.out.mono ?_
            rintro e wz ⟨rfl, hbz⟩
            have HF := Lib.hid (And.intro (HT7.out.below hbz) (hB7.trans (hbz.mono hB7.size)))
            clear HSM hbz r0 r1
            go_wp2_with fail
            go_roundw
            case rel => exact ⟨k + 1, _, [], nx, (.slice Ar l.length cr), l, by omega, by go_num, HF.out.1, HMA.out, HF.out.2⟩
            case measure => simp [intOf]; omega
          | cons x r =>
            have HFI := Lib.hid (rfirst_any Ar cr l r x nx ws HT.out.r (by omega) HM.out.perm HM.out.lx)
            go_wp2_with fail
            refine HFI.out.mono ?_
            rintro e w4 ⟨rfl, hb4⟩
            have haw5 := (Below.refl _ w4).alloc (Nat.le_refl _) (.cells #[.int .i64 x.1, .int .i64 x.2.1, .int .i64 x.2.2] 69)
            have hNw5 := Whole.new w4 #[.int .i64 x.1, .int .i64 x.2.1, .int .i64 x.2.2] 69
            have hsw5 : (w4.alloc (.cells #[.int .i64 x.1, .int .i64 x.2.1, .int .i64 x.2.2] 69)).heap.size = w4.heap.size + 1 := by simp
            obtain ⟨w5, hww5⟩ : ∃ W, w4.alloc (.cells #[.int .i64 x.1, .int .i64 x.2.1, .int .i64 x.2.2] 69) = W := ⟨_, rfl⟩
            rw [hww5] at haw5 hNw5 hsw5
            have cw50 := hNw5.cell 0
            have cw51 := hNw5.cell 1
            have cw52 := hNw5.cell 2
            have hb5 := hb4.trans (haw5.mono hb4.size)
            have hT5 := HT.out.below hb5
            have HT5 := Lib.hid hT5
            have hB5 := hB.trans (hb5.mono hbs)
            have HN5 := Lib.hid hNw5
            have HMA := Lib.hid HM.out.same
            have HFC := Lib.hid (tfirst1 w.heap.size Q q x r nx w5 hT5.t (by simp at hLk; omega))
            clear hb4 hb5 hT5 r0 r1 f0 f1 HT hB haw5 hNw5 hsw5
            go_wp2_with fail
            refine HFC.out.mono ?_
            rintro e w6 ⟨rfl, hb6⟩
            have hN6 := HN5.out.below hb6 HN5.out.lt
            have h6 := HT5.out.below hb6
            have hB6 := hB5.trans (hb6.mono hB5.size)
            clear HFC HFI HN5 HT5 hb6 hww5 cw50 cw51 cw52
            have haw7 := (Below.refl _ w6).alloc (Nat.le_refl _) (.cells #[.int .i64 x.1, .int .i64 x.2.1, .int .i64 x.2.2] 72)
            have hNw7 := Whole.new w6 #[.int .i64 x.1, .int .i64 x.2.1, .int .i64 x.2.2] 72
            have hsw7 : (w6.alloc (.cells #[.int .i64 x.1, .int .i64 x.2.1, .int .i64 x.2.2] 72)).heap.size = w6.heap.size + 1 := by simp
            obtain ⟨w7, hww7⟩ : ∃ W, w6.alloc (.cells #[.int .i64 x.1, .int .i64 x.2.1, .int .i64 x.2.2] 72) = W := ⟨_, rfl⟩
            rw [hww7] at haw7 hNw7 hsw7
            have cw70 := hNw7.cell 0
            have cw71 := hNw7.cell 1
            have cw72 := hNw7.cell 2
            have HT7 := Lib.hid (h6.below haw7)
            have hN7 := hN6.below haw7 hN6.lt
            have hB7 := hB6.trans (haw7.mono hB6.size)
            have d0 := hN7.cell 0
            have d1 := hN7.cell 1
            have d2 := hN7.cell 2
            have b1 : (x.1 != x.1) = false := by simp
            have b2 : (x.2.1 != x.2.1) = false := by simp
            have b3 : (x.2.2 != x.2.2) = false := by simp
            clear h6 hN6 hB6 hN7 haw7 hNw7 hsw7
            obtain ⟨r0, r1, _, _⟩ := HT7.out.cells
            have hlk := HMA.out.len
            have HSM := Lib.hid (same_any w.heap.size Q q (.slice Ar l.length cr) l (x :: r) nx w7 HT7.out.t HT7.out.r (by rw [HMA.out.perm.length_eq]; omega) HMA.out.perm HMA.out.lx HMA.out.idn)
            go_wp2_with fail
            refine HSM.out.mono ?_
            rintro e wz ⟨rfl, hbz⟩
            have HF := Lib.hid (And.intro (HT7.out.below hbz) (hB7.trans (hbz.mono hB7.size)))
            clear HSM hbz r0 r1
            go_wp2_with fail
            go_roundw
            case rel => exact ⟨k + 1, _, (x :: r), nx, (.slice Ar l.length cr), l, by omega, by go_num, HF.out.1, HMA.out, HF.out.2⟩
            case measure => simp [intOf]; omega
      · have ek : n = k := by omega
        subst ek
        clear hT hM
        go_wp2_with fail
        go_ret
        exact ⟨rfl, hB⟩
end Go.Proofs.Ytomffkdfgfenpaa
