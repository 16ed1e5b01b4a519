/- place: the record of a node's place. -/
import Derived.Lib.SliceRun
import Derived.Test.YtelncgfeojfafaaDoorKB
import Derived.Test.YtelncgfeojfafaaDoorKC
import Derived.Test.YtelncgfeojfafaaDoorKD
namespace Go.Proofs.YtelncgfeojfafaaDoor
open Go.RowKit
set_option linter.unusedVariables false
set_option linter.unusedSimpArgs false

theorem NP.drew {w : World} {g o : Nat} {d : Tr.Nd} (h : NP w g o d) : NP w.drew g o d := h
theorem NP.far {w w' : World} {g o : Nat} {d : Tr.Nd} (h : NP w g o d) (hb : Below w.heap.size w w') :
    w'.cell? ⟨g, o + 4, none⟩ = some (.int .i64 d.pa) ∧ w'.cell? ⟨g, o + 7, none⟩ = some (.int .i64 d.pr) ∧ w'.cell? ⟨g, o + 8, none⟩ = some (.int .i64 d.ne) := by
  obtain ⟨_, _, _, _, a, _, _, b, c⟩ := (h.below hb).cells
  exact ⟨a, b, c⟩
theorem PtrTo.foot {b s : Int} {vs vf : Value} {n g o B : Nat} {h : Int} (hp : PtrTo b s vs n g o h) : Foot B vs vf g := by
  obtain ⟨_, _, _, _, _, _, rfl⟩ := hp
  exact .inr (.inl rfl)
theorem cell_kept1 {W W' : World} {gb o B : Nat} {v : Value} (h : W.cell? ⟨gb, o, none⟩ = some v) (g : W.grownBy W' (some B)) (hn : gb ≠ B) : W'.cell? ⟨gb, o, none⟩ = some v := by
  rw [← h]
  have := g.block gb (World.block_lt_of_cell? W _ h) (fun e => hn (by injection e))
  unfold World.cell?
  simp only [this]
/-- A variable of eleven cells that is given a record. -/
theorem box11 {W : World} {B : Nat} {x0 x1 x2 x3 x4 x5 x6 x7 x8 x9 x10 : Value} {T : TypeId} (r : Whole W B #[x0, x1, x2, x3, x4, x5, x6, x7, x8, x9, x10] T) (y0 y1 y2 y3 y4 y5 y6 y7 y8 y9 y10 : Value) :
    ∃ W', ((((((((((W.setCell ⟨B, 0, none⟩ y0).setCell ⟨B, 1, none⟩ y1).setCell ⟨B, 2, none⟩ y2).setCell ⟨B, 3, none⟩ y3).setCell ⟨B, 4, none⟩ y4).setCell ⟨B, 5, none⟩ y5).setCell ⟨B, 6, none⟩ y6).setCell ⟨B, 7, none⟩ y7).setCell ⟨B, 8, none⟩ y8).setCell ⟨B, 9, none⟩ y9).setCell ⟨B, 10, none⟩ y10 = W' ∧ Whole W' B #[y0, y1, y2, y3, y4, y5, y6, y7, y8, y9, y10] T ∧ W.grownBy W' (some B) := by
  have r0 : Whole _ B #[y0, x1, x2, x3, x4, x5, x6, x7, x8, x9, x10] T := r.put 0 y0
  have r1 : Whole _ B #[y0, y1, x2, x3, x4, x5, x6, x7, x8, x9, x10] T := r0.put 1 y1
  have r2 : Whole _ B #[y0, y1, y2, x3, x4, x5, x6, x7, x8, x9, x10] T := r1.put 2 y2
  have r3 : Whole _ B #[y0, y1, y2, y3, x4, x5, x6, x7, x8, x9, x10] T := r2.put 3 y3
  have r4 : Whole _ B #[y0, y1, y2, y3, y4, x5, x6, x7, x8, x9, x10] T := r3.put 4 y4
  have r5 : Whole _ B #[y0, y1, y2, y3, y4, y5, x6, x7, x8, x9, x10] T := r4.put 5 y5
  have r6 : Whole _ B #[y0, y1, y2, y3, y4, y5, y6, x7, x8, x9, x10] T := r5.put 6 y6
  have r7 : Whole _ B #[y0, y1, y2, y3, y4, y5, y6, y7, x8, x9, x10] T := r6.put 7 y7
  have r8 : Whole _ B #[y0, y1, y2, y3, y4, y5, y6, y7, y8, x9, x10] T := r7.put 8 y8
  have r9 : Whole _ B #[y0, y1, y2, y3, y4, y5, y6, y7, y8, y9, x10] T := r8.put 9 y9
  have r10 : Whole _ B #[y0, y1, y2, y3, y4, y5, y6, y7, y8, y9, y10] T := r9.put 10 y10
  exact ⟨_, rfl, r10, gb_put (gb_put (gb_put (gb_put (gb_put (gb_put (gb_put (gb_put (gb_put (gb_put (gb_put (gb_of_below (Below.refl W.heap.size W) (some B)) 0 y0) 1 y1) 2 y2) 3 y3) 4 y4) 5 y5) 6 y6) 7 y7) 8 y8) 9 y9) 10 y10⟩

set_option maxRecDepth 100000 in
set_option maxHeartbeats 4000000 in
theorem place_any (base B : Nat) (b s root kind h : Int) (live n : Nat) (g : Tr.G) (av : Int → Tr.Sl) (fr : List Nat) (vs vf : Value) (nd : Tr.GN) (w : World) (hm : TV base w B b s vs n (Tr.raw g av) vf fr live root) (hS : Sound b s n (Tr.raw g av) fr live) (hw : Tr.WF 0 g) (eg : g h = some nd) :
    Calls Tryd.prog 24 #[.pointer (some ⟨B, 0, none⟩), .int .i64 kind, .int .i64 h] w fun e w' => e = .returned (rcV (Tr.placeG g kind h)) ∧ Below w.heap.size w w' := by
  have hh := (tmem_i64 hS (h := h) (by rw [raw_isSome, eg]; rfl)).1
  have hr : Tr.placeG g kind h = ⟨kind, nd.pa, h, Tr.prv (Tr.kidsOf g nd.pa) h, Tr.nxt (Tr.kidsOf g nd.pa) h, Tr.indexG g h, ⟨#[]⟩, ⟨#[]⟩, false, 0, 0⟩ := by unfold Tr.placeG; rw [Tr.paOf_some eg]
  obtain ⟨X, hX⟩ : ∃ X, Tr.indexG g h = X := ⟨_, rfl⟩
  obtain ⟨pr, hpr⟩ : ∃ X, Tr.prv (Tr.kidsOf g nd.pa) h = X := ⟨_, rfl⟩
  obtain ⟨ne, hne⟩ : ∃ X, Tr.nxt (Tr.kidsOf g nd.pa) h = X := ⟨_, rfl⟩
  obtain ⟨pa, hpa⟩ : ∃ X, nd.pa = X := ⟨_, rfl⟩
  have hd4 : (Tr.raw1 g av h nd).pa = pa := hpa
  have hd7 : (Tr.raw1 g av h nd).pr = pr := hpr
  have hd8 : (Tr.raw1 g av h nd).ne = ne := hne
  rw [hr, hX, hpr, hne, hpa]
  have hb1 := (Below.refl _ w).alloc (Nat.le_refl _) (.cells #[.int .i64 0, .int .i64 0, .int .i64 0, .int .i64 0, .int .i64 0, .int .i64 0, .string ⟨#[]⟩, .string ⟨#[]⟩, .bool false, .int .i64 0, .int .i64 0] 41)
  have hY := Whole.new w #[.int .i64 0, .int .i64 0, .int .i64 0, .int .i64 0, .int .i64 0, .int .i64 0, .string ⟨#[]⟩, .string ⟨#[]⟩, .bool false, .int .i64 0, .int .i64 0] 41
  have hm1 := hm.below hb1
  have HH := Lib.hid (And.intro hr (And.intro hpr (And.intro hne hpa)))
  clear hr hpr hne hpa
  go_enter Tryd.func24, Tryd.ntmps24
  go_wp2_with fail
  refine (at_tv base B b s root h live n _ fr vs vf (Tr.raw1 g av h nd) _ hm1 hS (Tr.raw_some eg)).mono ?_
  rintro e w2 ⟨gb, o, rfl, hpt, hb2⟩
  have hm2 := hm1.below hb2
  have hnp := hm2.np hpt (Tr.raw_some eg)
  have hne0 : gb ≠ w.heap.size := by
    have := (hm.lt gb (hpt.foot)).2
    omega
  have hY2 := hY.below hb2 hY.lt
  have hb02 : Below w.heap.size w w2 := hb1.trans (hb2.mono hb1.size)
  obtain ⟨_, _, _, _, t4, _, _, t7, t8⟩ := hnp.cells
  rw [hd4] at t4
  rw [hd7] at t7
  rw [hd8] at t8
  have kf := fun (W : World) (hb : Below w2.heap.size w2 W) => hnp.far hb
  rw [hd4, hd7, hd8] at kf
  have kY := fun (W : World) (hb : Below w2.heap.size w2 W) => hY2.below hb hY2.lt
  have kI := fun (W : World) (hb : Below w2.heap.size w2 W) => index_any base B b s root h live n g av fr vs vf W (hm2.below hb) hS hw hh
  rw [hX] at kI
  have hbd : Below w2.heap.size w2 w2.drew := ⟨rfl, rfl, rfl, Nat.le_refl _, fun _ _ => rfl⟩
  have KF := Lib.hid kf
  have KY := Lib.hid kY
  have KI := Lib.hid (kI _ hbd)
  have HBD := Lib.hid hbd
  have HB02 := Lib.hid hb02
  have HY2 := Lib.hid hY2
  clear hm hm1 hm2 hS hnp hY hb1 hb2 hY2 hX eg kf kY kI hbd hb02 hd4 hd7 hd8
  have hS0 : w2.drew.cell? ⟨gb, o + 4, none⟩ = some (.int .i64 pa) ∧ w2.drew.cell? ⟨gb, o + 7, none⟩ = some (.int .i64 pr) ∧ w2.drew.cell? ⟨gb, o + 8, none⟩ = some (.int .i64 ne) := KF.out _ HBD.out
  go_wp2_with fail
  go_region_held3 (fun W => W.cell? ⟨gb, o + 4, none⟩ = some (.int .i64 pa) ∧ W.cell? ⟨gb, o + 7, none⟩ = some (.int .i64 pr) ∧ W.cell? ⟨gb, o + 8, none⟩ = some (.int .i64 ne)) (first | exact hS0 | assumption) (first | (go_at_call 44; refine KI.out.mono ?_; rintro e w5 ⟨rfl, hb5⟩; have hb25 := HBD.out.trans (hb5.mono HBD.out.size); have hS5 := KF.out w5 hb25; have hY5 := KY.out w5 hb25; have q0 : w5.cell? ⟨w.heap.size, 0, none⟩ = some (.int .i64 0) := hY5.cell 0; have z0 := hY5.free 0 ; have q1 : w5.cell? ⟨w.heap.size, 1, none⟩ = some (.int .i64 0) := hY5.cell 1; have z1 := hY5.free 1 ; have q2 : w5.cell? ⟨w.heap.size, 2, none⟩ = some (.int .i64 0) := hY5.cell 2; have z2 := hY5.free 2 ; have q3 : w5.cell? ⟨w.heap.size, 3, none⟩ = some (.int .i64 0) := hY5.cell 3; have z3 := hY5.free 3 ; have q4 : w5.cell? ⟨w.heap.size, 4, none⟩ = some (.int .i64 0) := hY5.cell 4; have z4 := hY5.free 4 ; have q5 : w5.cell? ⟨w.heap.size, 5, none⟩ = some (.int .i64 0) := hY5.cell 5; have z5 := hY5.free 5 ; have q6 : w5.cell? ⟨w.heap.size, 6, none⟩ = some (.string ⟨#[]⟩) := hY5.cell 6; have z6 := hY5.free 6 ; have q7 : w5.cell? ⟨w.heap.size, 7, none⟩ = some (.string ⟨#[]⟩) := hY5.cell 7; have z7 := hY5.free 7 ; have q8 : w5.cell? ⟨w.heap.size, 8, none⟩ = some (.bool false) := hY5.cell 8; have z8 := hY5.free 8 ; have q9 : w5.cell? ⟨w.heap.size, 9, none⟩ = some (.int .i64 0) := hY5.cell 9; have z9 := hY5.free 9 ; have q10 : w5.cell? ⟨w.heap.size, 10, none⟩ = some (.int .i64 0) := hY5.cell 10; have z10 := hY5.free 10; obtain ⟨w6, hw6, hY6, g6⟩ := box11 hY5 (.int .i64 kind) (.int .i64 pa) (.int .i64 h) (.int .i64 pr) (.int .i64 ne) (.int .i64 X) (.string ⟨#[]⟩) (.string ⟨#[]⟩) (.bool false) (.int .i64 0) (.int .i64 0); have y0 : w6.cell? ⟨w.heap.size, 0, none⟩ = some (.int .i64 kind) := hY6.cell 0 ; have y1 : w6.cell? ⟨w.heap.size, 1, none⟩ = some (.int .i64 pa) := hY6.cell 1 ; have y2 : w6.cell? ⟨w.heap.size, 2, none⟩ = some (.int .i64 h) := hY6.cell 2 ; have y3 : w6.cell? ⟨w.heap.size, 3, none⟩ = some (.int .i64 pr) := hY6.cell 3 ; have y4 : w6.cell? ⟨w.heap.size, 4, none⟩ = some (.int .i64 ne) := hY6.cell 4 ; have y5 : w6.cell? ⟨w.heap.size, 5, none⟩ = some (.int .i64 X) := hY6.cell 5 ; have y6 : w6.cell? ⟨w.heap.size, 6, none⟩ = some (.string ⟨#[]⟩) := hY6.cell 6 ; have y7 : w6.cell? ⟨w.heap.size, 7, none⟩ = some (.string ⟨#[]⟩) := hY6.cell 7 ; have y8 : w6.cell? ⟨w.heap.size, 8, none⟩ = some (.bool false) := hY6.cell 8 ; have y9 : w6.cell? ⟨w.heap.size, 9, none⟩ = some (.int .i64 0) := hY6.cell 9 ; have y10 : w6.cell? ⟨w.heap.size, 10, none⟩ = some (.int .i64 0) := hY6.cell 10; have hb6 := Lib.hid ((HB02.out.trans (hb25.mono HB02.out.size)).grown g6 (HB02.out.trans (hb25.mono HB02.out.size)).size (fun j hj => by simp at hj; omega)); have hS6 : w6.cell? ⟨gb, o + 4, none⟩ = some (.int .i64 pa) ∧ w6.cell? ⟨gb, o + 7, none⟩ = some (.int .i64 pr) ∧ w6.cell? ⟨gb, o + 8, none⟩ = some (.int .i64 ne) := ⟨(cell_kept1 hS5.1 g6 hne0), (cell_kept1 hS5.2.1 g6 hne0), (cell_kept1 hS5.2.2 g6 hne0)⟩; clear hY5 hY6 g6 hb25 hb5))
  go_wp2_with fail
  refine bodyPost_ret (v := rcV ⟨kind, pa, h, pr, ne, X, ⟨#[]⟩, ⟨#[]⟩, false, 0, 0⟩) ?_ rfl ⟨rfl, hb6.out⟩
  simp [results, Tryd.f24, go_sem, y0, y1, y2, y3, y4, y5, y6, y7, y8, y9, y10]
end Go.Proofs.YtelncgfeojfafaaDoor

/- A node is cut off: what the program writes, and the record. -/
namespace Go.Proofs.YtelncgfeojfafaaDoor
open Go.RowKit
set_option linter.unusedVariables false
set_option linter.unusedSimpArgs false

theorem cutR_is (R : Int → Option Tr.Nd) (h pa pr ne : Int) : Tr.cutR R h pa pr ne = Tr.upd (backR (forthR R pa pr ne) pa ne pr) h fun n => { n with pa := 0, pr := 0, ne := 0 } := by
  unfold Tr.cutR backR forthR; rfl
theorem Sound.cutR {b s : Int} {n live : Nat} {R : Int → Option Tr.Nd} {fr : List Nat} {h pa pr ne : Int} (hS : Sound b s n R fr live) : Sound b s n (Tr.cutR R h pa pr ne) fr live := by
  rw [cutR_is]; exact hS.forth.back.upd
theorem forthR_ne {R : Int → Option Tr.Nd} {p c v x : Int} (h1 : x ≠ p) (h2 : c ≠ 0 → x ≠ c) : forthR R p c v x = R x := by
  unfold forthR; split
  · exact Tr.upd_ne h1
  · rename_i e; exact Tr.upd_ne (h2 e)
theorem backR_ne {R : Int → Option Tr.Nd} {p c v x : Int} (h1 : x ≠ p) (h2 : c ≠ 0 → x ≠ c) : backR R p c v x = R x := by
  unfold backR; split
  · exact Tr.upd_ne h1
  · rename_i e; exact Tr.upd_ne (h2 e)
theorem some_or {R : Int → Option Tr.Nd} {c : Int} (h : c ≠ 0 → ∃ d, R c = some d) : ∃ d, c ≠ 0 → R c = some d := by
  by_cases e : c = 0
  · exact ⟨Tr.zNd, fun x => absurd e x⟩
  · obtain ⟨d, hd⟩ := h e; exact ⟨d, fun _ => hd⟩
theorem rec_row (w : World) (r : Tr.Rec) (base : Nat) (hb : base ≤ w.heap.size) : RecRow base (w.alloc (.cells #[.int .i64 r.kind, .int .i64 r.target, .int .i64 r.node, .int .i64 r.prev, .int .i64 r.next, .int .i64 r.index, .string r.name, .string r.old, .bool r.had, .int .i64 r.count, .int .i64 r.size] 41)) (.slice (some ⟨w.heap.size, 0, none⟩) 1 1) [r] :=
  World.ownsRow_lit (base := base) (e := 41) (size := 11) w #[.int .i64 r.kind, .int .i64 r.target, .int .i64 r.node, .int .i64 r.prev, .int .i64 r.next, .int .i64 r.index, .string r.name, .string r.old, .bool r.had, .int .i64 r.count, .int .i64 r.size] 1 hb (by unfold maxLen; omega) rfl

set_option maxRecDepth 100000 in
set_option maxHeartbeats 1000000 in
theorem cut_none (base B : Nat) (b s root h : Int) (live n : Nat) (g : Tr.G) (av : Int → Tr.Sl) (fr : List Nat) (vs vf : Value) (nd : Tr.GN) (w : World) (hm : TV base w B b s vs n (Tr.raw g av) vf fr live root) (hS : Sound b s n (Tr.raw g av) fr live) (eg : g h = some nd) (hp : nd.pa = 0) :
    Calls Tryd.prog 22 #[.pointer (some ⟨B, 0, none⟩), .int .i64 h] w fun e w' => e = .returned (.slice none 0 0) ∧ Below w.heap.size w w' := by
  go_enter Tryd.func22, Tryd.ntmps22
  go_wp2_with fail
  refine (at_tv base B b s root h live n _ fr vs vf (Tr.raw1 g av h nd) _ hm hS (Tr.raw_some eg)).mono ?_
  rintro e w2 ⟨gb, o, rfl, hpt, hb2⟩
  have hnp := (hm.below hb2).np hpt (Tr.raw_some eg)
  obtain ⟨_, _, _, _, t4, _⟩ := hnp.cells
  have t4' : w2.cell? ⟨gb, o + 4, none⟩ = some (.int .i64 0) := by rw [t4]; show some (Value.int .i64 nd.pa) = _; rw [hp]
  clear hm hS hnp t4 hp eg hpt
  go_wp2_with fail
  go_ret
  exact ⟨rfl, hb2⟩

set_option maxRecDepth 100000 in
set_option maxHeartbeats 4000000 in
theorem cut_some (base B : Nat) (b s root h : Int) (live n : Nat) (g : Tr.G) (av : Int → Tr.Sl) (fr : List Nat) (vs vf : Value) (nd : Tr.GN) (w : World) (hm : TV base w B b s vs n (Tr.raw g av) vf fr live root) (hS : Sound b s n (Tr.raw g av) fr live) (hw : Tr.WF 0 g) (eg : g h = some nd) (hp : nd.pa ≠ 0) :
    Calls Tryd.prog 22 #[.pointer (some ⟨B, 0, none⟩), .int .i64 h] w fun e w' => ∃ v, e = .returned v ∧ RecRow w.heap.size w' v [Tr.placeG g 2 h] ∧ TV base w' B b s vs n (Tr.raw (Tr.cutG g h) av) vf fr live root ∧ AStep w w' (Foot B vs vf) (Foot B vs vf) := by
  rw [Tr.cut_raw hw eg hp, cutR_is]
  obtain ⟨r, hr⟩ : ∃ r, Tr.placeG g 2 h = r := ⟨_, rfl⟩
  obtain ⟨q, ep, hk⟩ := hw.up h nd eg hp
  have hkz := hw.kid_not_zero ep
  have hps : h ≠ nd.pa := fun e => hw.not_self eg e.symm
  have hkq := Tr.kidsOf_some ep
  have hprz : Tr.prv (Tr.kidsOf g nd.pa) h ≠ 0 → h ≠ Tr.prv (Tr.kidsOf g nd.pa) h ∧ ∃ d, Tr.raw g av (Tr.prv (Tr.kidsOf g nd.pa) h) = some d := fun e => by
    have hm1 := Tr.prv_mem e
    obtain ⟨m, e1, _⟩ := hw.kidsOf_mem hm1
    refine ⟨fun e2 => ?_, _, Tr.raw_some e1⟩
    rw [hkq] at e2 e
    obtain ⟨l1, l2, e3⟩ := List.append_of_mem hk
    have hnd := hw.nodup _ q ep
    rw [e3] at hnd e2 e
    have h2 : h ∉ l2 := (List.nodup_cons.1 (List.nodup_append.1 hnd).2.1).1
    rw [Tr.prv_split h2] at e2 e
    exact (List.nodup_append.1 hnd).2.2 _ (Tr.lst_mem e) h (by simp) e2.symm
  have hnez : Tr.nxt (Tr.kidsOf g nd.pa) h ≠ 0 → h ≠ Tr.nxt (Tr.kidsOf g nd.pa) h ∧ ∃ d, Tr.raw g av (Tr.nxt (Tr.kidsOf g nd.pa) h) = some d := fun e => by
    have hm1 := Tr.nxt_mem e
    obtain ⟨m, e1, _⟩ := hw.kidsOf_mem hm1
    refine ⟨fun e2 => ?_, _, Tr.raw_some e1⟩
    rw [hkq] at e2 e
    obtain ⟨l1, l2, e3⟩ := List.append_of_mem hk
    have hnd := hw.nodup _ q ep
    rw [e3] at hnd e2 e
    have h1 : h ∉ l1 := fun hx => (List.nodup_append.1 hnd).2.2 h hx h (by simp) rfl
    have h2 : h ∉ l2 := (List.nodup_cons.1 (List.nodup_append.1 hnd).2.1).1
    rw [Tr.nxt_split h1] at e2 e
    exact h2 (by rw [e2]; exact Tr.fs_mem e)
  have er := Tr.raw_some (av := av) eg
  have erp := Tr.raw_some (av := av) ep
  obtain ⟨R, hR⟩ : ∃ R, Tr.raw g av = R := ⟨_, rfl⟩
  have hd4 : (Tr.raw1 g av h nd).pa = nd.pa := rfl
  have hd7 : (Tr.raw1 g av h nd).pr = Tr.prv (Tr.kidsOf g nd.pa) h := rfl
  have hd8 : (Tr.raw1 g av h nd).ne = Tr.nxt (Tr.kidsOf g nd.pa) h := rfl
  have kP := fun (W : World) (hb : Below w.heap.size w W) => place_any base B b s root 2 h live n g av fr vs vf nd W (hm.below hb) hS hw eg
  rw [hr] at kP
  obtain ⟨dh, hdh⟩ : ∃ d, Tr.raw1 g av h nd = d := ⟨_, rfl⟩
  rw [hdh] at er hd4 hd7 hd8
  obtain ⟨pr, hpr⟩ : ∃ X, Tr.prv (Tr.kidsOf g nd.pa) h = X := ⟨_, rfl⟩
  obtain ⟨ne, hne⟩ : ∃ X, Tr.nxt (Tr.kidsOf g nd.pa) h = X := ⟨_, rfl⟩
  obtain ⟨pa, hpa⟩ : ∃ X, nd.pa = X := ⟨_, rfl⟩
  rw [hpa] at hpr hne
  simp only [hpa, hpr, hne] at hprz hnez hd4 hd7 hd8 hps erp hp ⊢
  rw [hR] at hm hS er erp hprz hnez ⊢
  rw [hr]
  have HKP := Lib.hid kP
  clear kP hk hkz hkq hpr hne hpa hr hdh hR eg ep hw
  obtain ⟨dv, hv⟩ := some_or (R := R) (c := pr) (fun e => (hprz e).2)
  obtain ⟨dn, hn⟩ := some_or (R := R) (c := ne) (fun e => (hnez e).2)
  obtain ⟨R1, hR1⟩ : ∃ R1, forthR R pa pr ne = R1 := ⟨_, rfl⟩
  have hS1 : Sound b s n R1 fr live := by rw [← hR1]; exact hS.forth
  have e1h : R1 h = some dh := by rw [← hR1, forthR_ne hps (fun e => (hprz e).1)]; exact er
  obtain ⟨d1p, e1p⟩ : ∃ d, R1 pa = some d := by rw [← hR1]; exact forthR_isSome (by rw [erp]; rfl)
  obtain ⟨d1n, e1n⟩ := some_or (R := R1) (c := ne) (fun e => by rw [← hR1]; exact forthR_isSome (by rw [hn e]; rfl))
  obtain ⟨R2, hR2⟩ : ∃ R2, backR R1 pa ne pr = R2 := ⟨_, rfl⟩
  have e2h : R2 h = some dh := by rw [← hR2, backR_ne hps (fun e => (hnez e).1)]; exact e1h
  rw [hR1, hR2]
  have HQ := Lib.hid (And.intro hprz hnez)
  clear hprz hnez
  have hc0 : (pa == 0) = false := by simpa using hp
  go_enter Tryd.func22, Tryd.ntmps22
  go_wp2_with fail
  refine (at_tv base B b s root h live n _ fr vs vf dh _ hm hS er).mono ?_
  rintro e w2 ⟨gb, o, rfl, hpt, hb2⟩
  have hm2 := hm.below hb2
  obtain ⟨_, _, _, _, t4, _, _, _, _⟩ := (hm2.np hpt er).cells
  rw [hd4] at t4
  go_wp2_with fail
  refine (HKP.out w2 hb2).mono ?_
  rintro e w3 ⟨rfl, hb3⟩
  obtain ⟨w4, hw4⟩ : ∃ w4, w3.alloc (.cells #[.int .i64 r.kind, .int .i64 r.target, .int .i64 r.node, .int .i64 r.prev, .int .i64 r.next, .int .i64 r.index, .string r.name, .string r.old, .bool r.had, .int .i64 r.count, .int .i64 r.size] 41) = w4 := ⟨_, rfl⟩
  have hY : Whole w4 w3.heap.size #[.int .i64 r.kind, .int .i64 r.target, .int .i64 r.node, .int .i64 r.prev, .int .i64 r.next, .int .i64 r.index, .string r.name, .string r.old, .bool r.had, .int .i64 r.count, .int .i64 r.size] 41 := by rw [← hw4]; exact Whole.new w3 _ _
  have hb34 : Below w2.heap.size w2 w4 := by rw [← hw4]; exact hb3.alloc hb3.size _
  have hb04 : Below w.heap.size w w4 := hb2.trans (hb34.mono hb2.size)
  have hbd : Below w.heap.size w w4.drew := Below.drew hb04
  have hm4 := hm.below hbd
  have kS : ∀ (W : World) (R' : Int → Option Tr.Nd), TV base W B b s vs n R' vf fr live root → R' h = some dh → W.cell? ⟨gb, o + 4, none⟩ = some (.int .i64 pa) ∧ W.cell? ⟨gb, o + 7, none⟩ = some (.int .i64 pr) ∧ W.cell? ⟨gb, o + 8, none⟩ = some (.int .i64 ne) := fun W R' a c => by
    obtain ⟨_, _, _, _, a4, _, _, a7, a8⟩ := (a.np hpt c).cells
    rw [hd4] at a4; rw [hd7] at a7; rw [hd8] at a8
    exact ⟨a4, a7, a8⟩
  have hS0 : w4.drew.cell? ⟨gb, o + 4, none⟩ = some (.int .i64 pa) ∧ w4.drew.cell? ⟨gb, o + 7, none⟩ = some (.int .i64 pr) ∧ w4.drew.cell? ⟨gb, o + 8, none⟩ = some (.int .i64 ne) := kS _ _ hm4 er
  have kF := forth_any base B b s root pa pr live n R fr vs vf _ dv w4.drew hm4 hS erp hv
  have HKF := Lib.hid kF
  have HM4 := Lib.hid hm4
  have HBD := Lib.hid hbd
  have HER := Lib.hid er
  have HK := Lib.hid kS
  have HE1 := Lib.hid e1h
  have HE2 := Lib.hid e2h
  have HR1 := Lib.hid hR1
  have HR2 := Lib.hid hR2
  have hgf := (hm.lt gb hpt.foot).2
  have hrl : w.heap.size ≤ w3.heap.size := Nat.le_trans hb2.size hb3.size
  have HF := Lib.hid (fun (k : Nat) (hk : Foot B vs vf k) => (hm.lt k hk).2)
  clear hm hm2 hm4 kF kS er t4 e1h e2h hR1 hR2 hd4 hd7 hd8 hb34 hb04 hbd
  go_wp2_with fail
  try rw [hw4]
  go_region_held3 (fun W => W.cell? ⟨gb, o + 4, none⟩ = some (.int .i64 pa) ∧ W.cell? ⟨gb, o + 7, none⟩ = some (.int .i64 pr) ∧ W.cell? ⟨gb, o + 8, none⟩ = some (.int .i64 ne)) (first | exact hS0 | assumption) (first | (go_at_call 42; refine HKF.out.mono ?_; rintro e w5 ⟨g5, y5, rfl, hfp, hb5⟩; have hm5 := HM4.out.below hb5; obtain ⟨k5, z5⟩ := hfp.cell hm5 erp hv; have hS5 := HK.out w5 R hm5 HER.out; obtain ⟨hm6, st6⟩ := hfp.put hm5 erp hv ne; obtain ⟨w6, hw6⟩ : ∃ w6, w5.setCell ⟨g5, y5, none⟩ (.int .i64 ne) = w6 := ⟨_, rfl⟩; rw [hw6, HR1.out] at hm6; rw [hw6] at st6; have hS6 := HK.out w6 R1 hm6 HE1.out; have HM6 := Lib.hid hm6; have HST6 := Lib.hid ((AStep.of_below (F := Foot B vs vf) hb5).trans st6); clear hm5 hm6 st6 hfp))
  have hbd6 : Below w6.heap.size w6 w6.drew := ⟨rfl, rfl, rfl, Nat.le_refl _, fun _ _ => rfl⟩
  have hm6d := HM6.out.below hbd6
  have kB := back_any base B b s root pa ne live n R1 fr vs vf d1p d1n w6.drew hm6d hS1 e1p e1n
  have HKB := Lib.hid kB
  have HM6d := Lib.hid hm6d
  have hS60 : w6.drew.cell? ⟨gb, o + 4, none⟩ = some (.int .i64 pa) ∧ w6.drew.cell? ⟨gb, o + 7, none⟩ = some (.int .i64 pr) ∧ w6.drew.cell? ⟨gb, o + 8, none⟩ = some (.int .i64 ne) := HK.out _ _ hm6d HE1.out
  have HY := Lib.hid hY
  clear kB hm6d hS6 hS0 hY
  go_wp2_with fail
  go_region_held3 (fun W => W.cell? ⟨gb, o + 4, none⟩ = some (.int .i64 pa) ∧ W.cell? ⟨gb, o + 7, none⟩ = some (.int .i64 pr) ∧ W.cell? ⟨gb, o + 8, none⟩ = some (.int .i64 ne)) (first | exact hS60 | assumption) (first | (go_at_call 43; refine HKB.out.mono ?_; rintro e w7 ⟨g7, y7, rfl, hbp, hb7⟩; have hm7 := HM6d.out.below hb7; obtain ⟨k7, z7⟩ := hbp.cell hm7 e1p e1n; have hS7 := HK.out w7 R1 hm7 HE1.out; obtain ⟨hm8, st8⟩ := hbp.put hm7 e1p e1n pr; obtain ⟨w8, hw8⟩ : ∃ w8, w7.setCell ⟨g7, y7, none⟩ (.int .i64 pr) = w8 := ⟨_, rfl⟩; rw [hw8, HR2.out] at hm8; rw [hw8] at st8; have hS8 := HK.out w8 R2 hm8 HE2.out; have HM8 := Lib.hid hm8; have HST8 := Lib.hid ((AStep.of_below (F := Foot B vs vf) hb7).trans st8); clear hm7 hm8 st8 hbp))
  have hnp8 := HM8.out.np hpt HE2.out
  obtain ⟨_, _, _, _, v4, _, _, v7, v8⟩ := hnp8.cells
  have f4 := (hnp8 4 (by omega)).2
  have f7 := (hnp8 7 (by omega)).2
  have f8 := (hnp8 8 (by omega)).2
  obtain ⟨w9, hw9⟩ : ∃ w9, (((w8.setCell ⟨gb, o + 4, none⟩ (.int .i64 0)).setCell ⟨gb, o + 7, none⟩ (.int .i64 0)).setCell ⟨gb, o + 8, none⟩ (.int .i64 0)) = w9 := ⟨_, rfl⟩
  have hm9 : TV base w9 B b s vs n (Tr.upd R2 h fun n => { n with pa := 0, pr := 0, ne := 0 }) vf fr live root ∧ AStep w8 w9 (Foot B vs vf) (Foot B vs vf) := by
    obtain ⟨a1, s1⟩ := HM8.out.put_nd (j := 4) (v := .int .i64 0) hpt HE2.out (fun n => { n with pa := 0 }) rfl (by omega) rfl
    obtain ⟨a2, s2⟩ := a1.put_nd (j := 7) (v := .int .i64 0) hpt (Tr.upd_at HE2.out) (fun n => { n with pr := 0 }) rfl (by omega) rfl
    obtain ⟨a3, s3⟩ := a2.put_nd (j := 8) (v := .int .i64 0) hpt (Tr.upd_at (Tr.upd_at HE2.out)) (fun n => { n with ne := 0 }) rfl (by omega) rfl
    rw [upd_upd, upd_upd] at a3
    rw [← hw9]
    exact ⟨a3, (s1.trans s2).trans s3⟩
  obtain ⟨hm9, st9⟩ := hm9
  have stA : AStep w4 w9 (Foot B vs vf) (Foot B vs vf) := (AStep.of_below (F := Foot B vs vf) (show Below w4.heap.size w4 w4.drew from ⟨rfl, rfl, rfl, Nat.le_refl _, fun _ _ => rfl⟩)).trans (HST6.out.trans ((AStep.of_below (F := Foot B vs vf) hbd6).trans (HST8.out.trans st9)))
  have hY9 := HY.out.turns stA.1 (fun hk => by have := HF.out _ hk; omega)
  have x0 : w9.cell? ⟨w3.heap.size, 0, none⟩ = some (.int .i64 r.kind) := hY9.cell 0
  have x1 : w9.cell? ⟨w3.heap.size, 1, none⟩ = some (.int .i64 r.target) := hY9.cell 1
  have x2 : w9.cell? ⟨w3.heap.size, 2, none⟩ = some (.int .i64 r.node) := hY9.cell 2
  have x3 : w9.cell? ⟨w3.heap.size, 3, none⟩ = some (.int .i64 r.prev) := hY9.cell 3
  have x4 : w9.cell? ⟨w3.heap.size, 4, none⟩ = some (.int .i64 r.next) := hY9.cell 4
  have x5 : w9.cell? ⟨w3.heap.size, 5, none⟩ = some (.int .i64 r.index) := hY9.cell 5
  have x6 : w9.cell? ⟨w3.heap.size, 6, none⟩ = some (.string r.name) := hY9.cell 6
  have x7 : w9.cell? ⟨w3.heap.size, 7, none⟩ = some (.string r.old) := hY9.cell 7
  have x8 : w9.cell? ⟨w3.heap.size, 8, none⟩ = some (.bool r.had) := hY9.cell 8
  have x9 : w9.cell? ⟨w3.heap.size, 9, none⟩ = some (.int .i64 r.count) := hY9.cell 9
  have x10 : w9.cell? ⟨w3.heap.size, 10, none⟩ = some (.int .i64 r.size) := hY9.cell 10
  have hb04 : Below w.heap.size w w4 := HBD.out.trans ⟨rfl, rfl, rfl, Nat.le_refl _, fun _ _ => rfl⟩
  have stB : AStep w w9 (Foot B vs vf) (Foot B vs vf) := (AStep.of_below (F := Foot B vs vf) hb04).trans stA
  have hsz9 := stB.1.size
  have hbl := (Below.refl _ w9).alloc (Nat.le_refl _) (.cells #[.int .i64 r.kind, .int .i64 r.target, .int .i64 r.node, .int .i64 r.prev, .int .i64 r.next, .int .i64 r.index, .string r.name, .string r.old, .bool r.had, .int .i64 r.count, .int .i64 r.size] 41)
  have HM9 := Lib.hid (hm9.below hbl)
  have HST9 := Lib.hid (stB.trans (.of_below hbl))
  have HRR := Lib.hid (rec_row w9 r w.heap.size hsz9)
  clear hm9 st9 stA stB hY9 hnp8 v4 v7 v8 hb04 hbl
  go_wp2_with fail
  try rw [hw9]
  go_wp2_with fail
  go_ret
  exact ⟨_, rfl, HRR.out, HM9.out, HST9.out⟩
end Go.Proofs.YtelncgfeojfafaaDoor

/- New: a tree that is a document. -/
namespace Go.Proofs.YtelncgfeojfafaaDoor
open Go.RowKit
set_option linter.unusedVariables false
set_option linter.unusedSimpArgs false

/-- A document. -/
abbrev docN : Tr.GN := ⟨1, ⟨#[]⟩, [], ⟨#[]⟩, 0, []⟩
abbrev noA : Int → Tr.Sl := fun _ => ⟨none, 0, 0⟩
abbrev noG : Tr.G := fun _ => none
theorem noA_add (h : Int) : Tr.addA noA h ⟨none, 0, 0⟩ = noA := by
  funext x; unfold Tr.addA; split <;> rfl

set_option maxRecDepth 100000 in
set_option maxHeartbeats 1000000 in
theorem new_any (b s : Int) (w : World) :
    Calls Tryd.prog 5 #[saltV b s] w fun e w' => ∃ B vs vf, e = .returned (.pointer (some ⟨B, 0, none⟩)) ∧
      TV w.heap.size w' B b s vs 1 (Tr.raw (Tr.addG noG (Ar.hdl b s 0) docN) noA) vf [] 1 (Ar.hdl b s 0) ∧ Sound b s 1 (Tr.raw (Tr.addG noG (Ar.hdl b s 0) docN) noA) [] 1 ∧ Tr.WF 0 (Tr.addG noG (Ar.hdl b s 0) docN) ∧ Below w.heap.size w w' := by
  have hb1 : Below w.heap.size w (w.alloc (.cells #[.int .i64 b, .int .i64 s] 26)) := (Below.refl _ w).alloc (Nat.le_refl _) _
  have hX := Whole.new w #[.int .i64 b, .int .i64 s] 26
  obtain ⟨w1, hw1⟩ : ∃ w1, w.alloc (.cells #[.int .i64 b, .int .i64 s] 26) = w1 := ⟨_, rfl⟩
  rw [hw1] at hb1 hX
  have s0 : w1.cell? ⟨w.heap.size, 0, none⟩ = some (.int .i64 b) := hX.cell 0
  have s1 : w1.cell? ⟨w.heap.size, 1, none⟩ = some (.int .i64 s) := hX.cell 1
  go_enter Tryd.func5, Tryd.ntmps5
  go_wp2_with fail
  try rw [hw1]
  go_wp2_with fail
  refine (nnew_any b s w1).mono ?_
  rintro e w2 ⟨rfl, hb2⟩
  have hb12 := hb1.trans (hb2.mono hb1.size)
  obtain ⟨w3, hw3⟩ : ∃ w3, w2.alloc (.cells #[.int .i64 b, .int .i64 s, .slice none 0 0, .slice none 0 0, .int .i64 0, .int .i64 0] 32) = w3 := ⟨_, rfl⟩
  have hV : Whole w3 w2.heap.size #[.int .i64 b, .int .i64 s, .slice none 0 0, .slice none 0 0, .int .i64 0, .int .i64 0] 32 := by rw [← hw3]; exact Whole.new w2 _ _
  have hb3 : Below w2.heap.size w2 w3 := by rw [← hw3]; exact (Below.refl _ w2).alloc (Nat.le_refl _) _
  have hb13 := hb12.trans (hb3.mono hb12.size)
  have hT : TV w.heap.size w3 w2.heap.size b s (.slice none 0 0) 0 (Tr.raw noG noA) (.slice none 0 0) [] 0 0 := ⟨hV, hb12.size, World.ownsRow_nil _ _ _ _, World.ownsRow_nil _ _ _ _⟩
  have hS : Sound b s 0 (Tr.raw noG noA) [] 0 := ⟨fun _ e => absurd e (by simp [Tr.raw]), List.nodup_nil, fun _ e => absurd e (by simp), rfl, by omega⟩
  have HA := Lib.hid (nadd_any w.heap.size w2.heap.size b s 0 0 0 (Tr.raw noG noA) [] _ _ ⟨1, ⟨#[]⟩, ⟨none, 0, 0⟩, ⟨#[]⟩, 0, 0, 0, 0, 0⟩ w3 hT hS hb13.size (by omega))
  clear hX s0 s1 hw1
  go_wp2_with fail
  try rw [hw3]
  refine HA.out.mono ?_
  rintro e w4 ⟨vs', vf', rfl, hT4, hst⟩
  have hH : Ar.hdl b s 0 ≠ 0 := by have := (hdl_pos (b := b) (s := s) (i := 0) (by omega)).1; intro e; rw [show ((0 : Nat) : Int) = 0 from rfl, e] at this; omega
  have hS4 := (vacN_facts hS (by omega)).2.2.2.2 ⟨1, ⟨#[]⟩, ⟨none, 0, 0⟩, ⟨#[]⟩, 0, 0, 0, 0, 0⟩
  rw [vacN_nil] at hT4 hS4 ⊢
  dsimp only at hT4 hS4 ⊢
  obtain ⟨H, hHe⟩ : ∃ H, Ar.hdl b s ((0 : Nat) : Int) = H := ⟨_, rfl⟩
  have hHe' : Ar.hdl b s 0 = H := hHe
  rw [hHe] at hT4 hS4 ⊢
  rw [hHe'] at hH
  have hraw : Tr.setO (Tr.raw noG noA) H (some ⟨1, ⟨#[]⟩, ⟨none, 0, 0⟩, ⟨#[]⟩, 0, 0, 0, 0, 0⟩) = Tr.raw (Tr.addG noG H docN) noA :=
    (Tr.raw_add (g := noG) (h := H) (m := docN) (av := noA) (s := ⟨none, 0, 0⟩) rfl rfl rfl rfl).symm.trans (by rw [noA_add])
  rw [hraw] at hT4 hS4
  obtain ⟨hT5, hst5⟩ := hT4.rooted H
  have f5 := hT4.var.free 5
  obtain ⟨_, _, _, _, _, r5⟩ := hT4.cells
  have hlo : ∀ k, Foot w2.heap.size (.slice none 0 0) (.slice none 0 0) k → w.heap.size ≤ k := by
    rintro k (rfl | hk | hk)
    · exact hb12.size
    · cases hk
    · cases hk
  have hB45 := (hst.trans hst5).1.below hb13.size hlo
  have HF := Lib.hid (And.intro hT5 (And.intro hS4 (And.intro (Tr.WF.add Tr.WF.empty (m := docN) rfl hH rfl rfl) (hb13.trans (hB45.mono (Nat.le_refl _))))))
  have HE := Lib.hid hHe'
  clear hT hS HA hT4 hS4 hraw hT5 hst5 hst hlo hB45 hHe hHe' hH
  go_wp2_with fail
  go_ret
  rw [HE.out]
  exact ⟨_, _, _, rfl, HF.out⟩
end Go.Proofs.YtelncgfeojfafaaDoor

/- validNames and withinLimits of a node without attributes. -/
namespace Go.Proofs.YtelncgfeojfafaaDoor
open Go.RowKit
set_option linter.unusedVariables false
set_option linter.unusedSimpArgs false

/-- A valid name of an element. -/
def Nm.elem (s : ByteArray) : Bool := match s.data.toList with
  | [] => false
  | c :: _ => decide (97 ≤ c.toNat) && decide (c.toNat ≤ 122) && Nm.plain s

theorem mk_map {P : Program} {t k0 e0 : TypeId} (h : P.underlying t = some (TypeDesc.map k0 e0)) (k : Int) (W : World) : (Instr.makeMap t (some (.int .i64 k))).run P W = .ok (.map (some W.heap.size)) (W.alloc (.map #[] 0)) := by
  unfold Instr.makeMap
  simp only [Sem.run_bind, run_underlying h, Result.andThen, asInt, asIntOf, Sem.run_pure]
  rfl
set_option maxRecDepth 100000 in
set_option maxHeartbeats 1000000 in
theorem vnames_nil (d : Tr.Nd) (w : World) (hn : d.av.n = 0) (hs : d.name.size ≤ 20000) (hT : Lit w) :
    Calls Tryd.prog 13 #[ndV d] w fun e w' => e = .returned (.bool (d.kind != 2 || Nm.elem d.name)) ∧ Below w.heap.size w w' := by
  obtain ⟨k, nm, ⟨a, n, c⟩, dt, pa, fi, la, pr, ne⟩ := d
  dsimp only at hn hs ⊢
  subst hn
  by_cases hk : k = 2
  · have hk2 : (k != 2) = false := by simpa using hk
    subst hk
    obtain ⟨w1, hw1⟩ : ∃ w1, w.alloc (.cells #[.int .i64 2, .string nm, .slice a 0 c, .string dt, .int .i64 pa, .int .i64 fi, .int .i64 la, .int .i64 pr, .int .i64 ne] 45) = w1 := ⟨_, rfl⟩
    have hb1 : Below w.heap.size w w1 := by rw [← hw1]; exact (Below.refl _ w).alloc (Nat.le_refl _) _
    have hX1 : Whole w1 w.heap.size #[.int .i64 2, .string nm, .slice a 0 c, .string dt, .int .i64 pa, .int .i64 fi, .int .i64 la, .int .i64 pr, .int .i64 ne] 45 := by rw [← hw1]; exact Whole.new w _ _
    have e0 : w1.cell? ⟨w.heap.size, 0, none⟩ = some (.int .i64 2) := hX1.cell 0
    have e1 : w1.cell? ⟨w.heap.size, 1, none⟩ = some (.string nm) := hX1.cell 1
    have e2 : w1.cell? ⟨w.heap.size, 2, none⟩ = some (.slice a 0 c) := hX1.cell 2
    have hP := plain_any nm
    have hmk := fun W => mk_map Tryd.underlying81 0 W
    have hbm : Below w1.heap.size w1 (w1.alloc (.map #[] 0)) := (Below.refl _ w1).alloc (Nat.le_refl _) _
    have hX2 := hX1.below hbm hX1.lt
    have hT2 : Lit (w1.alloc (.map #[] 0)) := (hT.below hb1).below hbm
    have hb2 := hb1.trans (hbm.mono hb1.size)
    have m1 : (w1.alloc (.map #[] 0)).cell? ⟨w.heap.size, 1, none⟩ = some (.string nm) := hX2.cell 1
    have m2 : (w1.alloc (.map #[] 0)).cell? ⟨w.heap.size, 2, none⟩ = some (.slice a 0 c) := hX2.cell 2
    clear hbm
    go_enter Tryd.func13, Tryd.ntmps13
    have hel : Nm.elem nm = (match nm.data.toList with | [] => false | c :: _ => decide (97 ≤ c.toNat) && decide (c.toNat ≤ 122) && Nm.plain nm) := rfl
    have hll : nm.data.toList.length = nm.size := rfl
    have HE := Lib.hid hel
    clear hel
    go_wp2_with fail
    go_loopw [16] (fun i wr => i = .int .i64 0 ∧ wr = w1.alloc (.map #[] 0)) (fun _ _ => 0)
    case atStart => exact ⟨rfl, rfl⟩
    case round =>
      obtain ⟨rfl, rfl⟩ := hrel
      cases hnm : nm.data.toList with
      | nil =>
        have hne0 : (nm.toList == []) = true := by rw [Lib.toList_data, hnm]; rfl
        have hne : (nm.toList != []) = false := by rw [bne, hne0]; rfl
        have hr : Nm.elem nm = false := by rw [HE.out, hnm]
        have HR := Lib.hid hr
        clear hr hll hP hT hs
        go_wp2_with fail
        go_ret
        exact ⟨aretB (by simp [HR.out]), hb2⟩
      | cons c0 r =>
        have hne0 : (nm.toList == []) = false := by rw [Lib.toList_data, hnm]; rfl
        have hne : (nm.toList != []) = true := by rw [bne, hne0]; rfl
        have hr : Nm.elem nm = (decide (97 ≤ c0.toNat) && decide (c0.toNat ≤ 122) && Nm.plain nm) := by rw [HE.out, hnm]
        have hpos : 0 < nm.size := by rw [← hll, hnm]; simp
        have hget : nm[0] = c0 := by
          have : nm.data.toList[0]'(by rw [hnm]; simp) = c0 := by simp [hnm]
          exact this
        have hem : nm.toList.isEmpty = false := by rw [Lib.toList_data, hnm]; rfl
        clear hll
        by_cases h1 : 97 ≤ c0.toNat
        · by_cases h2 : c0.toNat ≤ 122
          · have hr' : Nm.elem nm = Nm.plain nm := by rw [hr, decide_eq_true h1, decide_eq_true h2]; simp
            have HR := Lib.hid hr'
            have HP := Lib.hid (hP _ hs hT2)
            have h1i : (97 : Int) ≤ (c0.toNat : Int) := by omega
            have h2i : (c0.toNat : Int) ≤ 122 := by omega
            clear hr hr' hT hP hs hnm
            go_wp2_with fail
            refine HP.out.mono ?_
            rintro e w4 ⟨rfl, hb4⟩
            go_wp2_with fail
            go_ret
            exact ⟨aretB (by simp [HR.out]), hb2.trans (hb4.mono hb2.size)⟩
          · have hr' : Nm.elem nm = false := by rw [hr, decide_eq_false h2]; simp
            have HR := Lib.hid hr'
            have h1i : (97 : Int) ≤ (c0.toNat : Int) := by omega
            have h2i : ¬ (c0.toNat : Int) ≤ 122 := by omega
            clear hr hr' hT hP hs hnm
            go_wp2_with fail
            go_ret
            exact ⟨aretB (by simp [HR.out]), hb2⟩
        · have hr' : Nm.elem nm = false := by rw [hr, decide_eq_false h1]; simp
          have HR := Lib.hid hr'
          have h1i : ¬ (97 : Int) ≤ (c0.toNat : Int) := by omega
          clear hr hr' hT hP hs hnm
          go_wp2_with fail
          go_ret
          exact ⟨aretB (by simp [HR.out]), hb2⟩
  · have hk2 : (k != 2) = true := by simpa using hk
    go_enter Tryd.func13, Tryd.ntmps13
    go_wp2_with fail
    go_ret
    exact ⟨aretB (by rw [hk2]; rfl), (Below.refl _ w).alloc (Nat.le_refl _) _⟩

set_option maxRecDepth 100000 in
set_option maxHeartbeats 1000000 in
theorem vnames_nil_doc (d : Tr.Nd) (w : World) (hn : d.av.n = 0) (hk : d.kind ≠ 2) :
    Calls Tryd.prog 13 #[ndV d] w fun e w' => e = .returned (.bool true) ∧ Below w.heap.size w w' := by
  obtain ⟨k, nm, ⟨a, n, c⟩, dt, pa, fi, la, pr, ne⟩ := d
  dsimp only at hn hk ⊢
  have hk2 : (k != 2) = true := by simpa using hk
  go_enter Tryd.func13, Tryd.ntmps13
  go_wp2_with fail
  go_ret
  exact ⟨rfl, (Below.refl _ w).alloc (Nat.le_refl _) _⟩

set_option maxRecDepth 100000 in
set_option maxHeartbeats 1000000 in
theorem wlimits_nil (d : Tr.Nd) (w : World) (hn : d.av.n = 0) (hs : d.data.size ≤ 20000) (hT : Lit w) :
    Calls Tryd.prog 15 #[ndV d] w fun e w' => e = .returned (.bool (Nm.fits d.data)) ∧ Below w.heap.size w w' := by
  obtain ⟨k, nm, ⟨a, n, c⟩, dt, pa, fi, la, pr, ne⟩ := d
  dsimp only at hn hs ⊢
  subst hn
  obtain ⟨w1, hw1⟩ : ∃ w1, w.alloc (.cells #[.int .i64 k, .string nm, .slice a 0 c, .string dt, .int .i64 pa, .int .i64 fi, .int .i64 la, .int .i64 pr, .int .i64 ne] 45) = w1 := ⟨_, rfl⟩
  have hb1 : Below w.heap.size w w1 := by rw [← hw1]; exact (Below.refl _ w).alloc (Nat.le_refl _) _
  have hX1 : Whole w1 w.heap.size #[.int .i64 k, .string nm, .slice a 0 c, .string dt, .int .i64 pa, .int .i64 fi, .int .i64 la, .int .i64 pr, .int .i64 ne] 45 := by rw [← hw1]; exact Whole.new w _ _
  have e2 : w1.cell? ⟨w.heap.size, 2, none⟩ = some (.slice a 0 c) := hX1.cell 2
  have e3 : w1.cell? ⟨w.heap.size, 3, none⟩ = some (.string dt) := hX1.cell 3
  have HF := Lib.hid (fits_any dt w1 hs (hT.below hb1))
  clear hT hX1
  go_enter Tryd.func15, Tryd.ntmps15
  go_wp2_with fail
  go_loopw [8] (fun i wr => i = .int .i64 0 ∧ wr = w1) (fun _ _ => 0)
  case atStart => exact ⟨rfl, rfl⟩
  case round =>
    obtain ⟨rfl, rfl⟩ := hrel
    go_wp2_with fail
    refine HF.out.mono ?_
    rintro e w4 ⟨rfl, hb4⟩
    go_wp2_with fail
    go_ret
    exact ⟨rfl, hb1.trans (hb4.mono hb1.size)⟩
end Go.Proofs.YtelncgfeojfafaaDoor

/- Make of an element without attributes. -/
namespace Go.Proofs.YtelncgfeojfafaaDoor
open Go.RowKit
set_option linter.unusedVariables false
set_option linter.unusedSimpArgs false

set_option maxRecDepth 100000 in
set_option maxHeartbeats 1000000 in
theorem aclone_nil (w : World) :
    Calls Tryd.prog 30 #[.slice none 0 0] w fun e w' => e = .returned (.slice none 0 0) ∧ Below w.heap.size w w' := by
  have hcmp : ∀ (w : World) (a : Option Addr) (n c : Nat), (binOp .eql 43 (.slice a n c) (.slice none 0 0)).run Tryd.prog w = .ok (.bool a.isNone) w := fun w a n c => Lib.run_eql_slice_nil w _ _ a n c 0 0 Tryd.underlying43
  go_enter Tryd.func30, Tryd.ntmps30
  go_wp2_with fail
  go_ret
  exact ⟨rfl, Below.refl _ _⟩
set_option maxRecDepth 100000 in
set_option maxHeartbeats 1000000 in
theorem repaired_nil (w : World) :
    Calls Tryd.prog 11 #[.slice none 0 0] w fun e w' => e = .returned (.slice none 0 0) ∧ Below w.heap.size w w' := by
  go_enter Tryd.func11, Tryd.ntmps11
  go_wp2_with fail
  refine (aclone_nil w).mono ?_
  rintro e w1 ⟨rfl, hb1⟩
  go_wp2_with fail
  go_loopw [9] (fun i wr => i = .int .i64 0 ∧ wr = w1) (fun _ _ => 0)
  case atStart => exact ⟨rfl, rfl⟩
  case round =>
    obtain ⟨rfl, rfl⟩ := hrel
    go_wp2_with fail
    go_ret
    exact ⟨rfl, hb1⟩

/-- An element of that name. -/
abbrev elemN (nm : ByteArray) : Tr.GN := ⟨2, nm, [], ⟨#[]⟩, 0, []⟩
theorem rep_nil : Txt.rep [] = [] := List.eq_nil_of_length_eq_zero (by have := Txt.rep_len []; simp at this; simpa using this)
theorem fits_nil : Nm.fits ⟨#[]⟩ = true := by
  unfold Nm.fits
  rw [show (⟨#[]⟩ : ByteArray).data.toList = [] from rfl, rep_nil]; rfl

set_option maxRecDepth 100000 in
set_option maxHeartbeats 1000000 in
theorem make_elem (base B : Nat) (b s root : Int) (live n : Nat) (g : Tr.G) (av : Int → Tr.Sl) (fr : List Nat) (vs vf : Value) (nm : ByteArray) (w : World) (hm : TV base w B b s vs n (Tr.raw g av) vf fr live root) (hS : Sound b s n (Tr.raw g av) fr live) (hw : Tr.WF 0 g) (hbase : base ≤ w.heap.size) (hn : n < 100000) (hl : live < 20000) (hs : nm.size ≤ 20000) (hnm : Nm.elem nm = true) (hT : Lit w) :
    Calls Tryd.prog 6 #[.pointer (some ⟨B, 0, none⟩), .int .i64 2, .string nm, .string ⟨#[]⟩, .slice none 0 0] w fun e w' => ∃ (h : Int) (vs' vf' : Value) (n' : Nat) (fr' : List Nat), e = .returned (.tuple #[.int .i64 h, .int .i64 0]) ∧ n' ≤ n + 1 ∧
      g h = none ∧ h ≠ 0 ∧ TV base w' B b s vs' n' (Tr.raw (Tr.addG g h (elemN nm)) (Tr.addA av h ⟨none, 0, 0⟩)) vf' fr' (live + 1) root ∧ Sound b s n' (Tr.raw (Tr.addG g h (elemN nm)) (Tr.addA av h ⟨none, 0, 0⟩)) fr' (live + 1) ∧ Tr.WF 0 (Tr.addG g h (elemN nm)) ∧ AStep w w' (Foot B vs vf) (Foot B vs' vf') := by
  go_enter Tryd.func6, Tryd.ntmps6
  go_wp2_with fail
  obtain ⟨w1, hw1⟩ : ∃ w1, w.alloc (.cells #[.int .i64 2, .string ⟨#[]⟩, .slice none 0 0, .string ⟨#[]⟩, .int .i64 0, .int .i64 0, .int .i64 0, .int .i64 0, .int .i64 0] 45) = w1 := ⟨_, rfl⟩
  rw [hw1]
  have hb1 : Below w.heap.size w w1 := by rw [← hw1]; exact (Below.refl _ w).alloc (Nat.le_refl _) _
  have hX1 : Whole w1 w.heap.size #[.int .i64 2, .string ⟨#[]⟩, .slice none 0 0, .string ⟨#[]⟩, .int .i64 0, .int .i64 0, .int .i64 0, .int .i64 0, .int .i64 0] 45 := by rw [← hw1]; exact Whole.new w _ _
  refine (repaired_nil w1).mono ?_
  rintro e w2 ⟨rfl, hb2⟩
  have hX2 := hX1.below hb2 hX1.lt
  have hb12 := hb1.trans (hb2.mono hb1.size)
  have q1 : w2.cell? ⟨w.heap.size, 1, none⟩ = some (.string ⟨#[]⟩) := hX2.cell 1
  have q2 : w2.cell? ⟨w.heap.size, 2, none⟩ = some (.slice none 0 0) := hX2.cell 2
  have f1 := hX2.free 1
  have f2 := hX2.free 2
  have hX3a : Whole (w2.setCell ⟨w.heap.size, 1, none⟩ (.string nm)) w.heap.size #[.int .i64 2, .string nm, .slice none 0 0, .string ⟨#[]⟩, .int .i64 0, .int .i64 0, .int .i64 0, .int .i64 0, .int .i64 0] 45 := hX2.put 1 (.string nm)
  have hX3 : Whole ((w2.setCell ⟨w.heap.size, 1, none⟩ (.string nm)).setCell ⟨w.heap.size, 2, none⟩ (.slice none 0 0)) w.heap.size #[.int .i64 2, .string nm, .slice none 0 0, .string ⟨#[]⟩, .int .i64 0, .int .i64 0, .int .i64 0, .int .i64 0, .int .i64 0] 45 := hX3a.put 2 (.slice none 0 0)
  have hb13 : Below w.heap.size w ((w2.setCell ⟨w.heap.size, 1, none⟩ (.string nm)).setCell ⟨w.heap.size, 2, none⟩ (.slice none 0 0)) := (hb12.setCell (p := ⟨w.heap.size, 1, none⟩) (Nat.le_refl _) _).setCell (p := ⟨w.heap.size, 2, none⟩) (Nat.le_refl _) _
  obtain ⟨w3, hw3⟩ : ∃ w3, (w2.setCell ⟨w.heap.size, 1, none⟩ (.string nm)).setCell ⟨w.heap.size, 2, none⟩ (.slice none 0 0) = w3 := ⟨_, rfl⟩
  rw [hw3] at hX3 hb13
  have hvn := vnames_nil ⟨2, nm, ⟨none, 0, 0⟩, ⟨#[]⟩, 0, 0, 0, 0, 0⟩ w3 rfl hs (hT.below hb13)
  dsimp only at hvn
  rw [hnm, Bool.or_true] at hvn
  have HV := Lib.hid hvn
  clear hvn
  have k0 : w3.cell? ⟨w.heap.size, 0, none⟩ = some (.int .i64 2) := hX3.cell 0
  have k1 : w3.cell? ⟨w.heap.size, 1, none⟩ = some (.string nm) := hX3.cell 1
  have k2 : w3.cell? ⟨w.heap.size, 2, none⟩ = some (.slice none 0 0) := hX3.cell 2
  have k3 : w3.cell? ⟨w.heap.size, 3, none⟩ = some (.string ⟨#[]⟩) := hX3.cell 3
  have k4 : w3.cell? ⟨w.heap.size, 4, none⟩ = some (.int .i64 0) := hX3.cell 4
  have k5 : w3.cell? ⟨w.heap.size, 5, none⟩ = some (.int .i64 0) := hX3.cell 5
  have k6 : w3.cell? ⟨w.heap.size, 6, none⟩ = some (.int .i64 0) := hX3.cell 6
  have k7 : w3.cell? ⟨w.heap.size, 7, none⟩ = some (.int .i64 0) := hX3.cell 7
  have k8 : w3.cell? ⟨w.heap.size, 8, none⟩ = some (.int .i64 0) := hX3.cell 8
  clear hX1 hb1 hb2 hX3a hb12 hw1
  go_wp2_with fail
  try rw [hw3]
  go_wp2_with fail
  refine HV.out.mono ?_
  rintro e w4 ⟨rfl, hb4⟩
  have hX4 := hX3.below hb4 hX3.lt
  have hb14 := hb13.trans (hb4.mono hb13.size)
  replace k0 : w4.cell? ⟨w.heap.size, 0, none⟩ = some (.int .i64 2) := hX4.cell 0
  replace k1 : w4.cell? ⟨w.heap.size, 1, none⟩ = some (.string nm) := hX4.cell 1
  replace k2 : w4.cell? ⟨w.heap.size, 2, none⟩ = some (.slice none 0 0) := hX4.cell 2
  replace k3 : w4.cell? ⟨w.heap.size, 3, none⟩ = some (.string ⟨#[]⟩) := hX4.cell 3
  replace k4 : w4.cell? ⟨w.heap.size, 4, none⟩ = some (.int .i64 0) := hX4.cell 4
  replace k5 : w4.cell? ⟨w.heap.size, 5, none⟩ = some (.int .i64 0) := hX4.cell 5
  replace k6 : w4.cell? ⟨w.heap.size, 6, none⟩ = some (.int .i64 0) := hX4.cell 6
  replace k7 : w4.cell? ⟨w.heap.size, 7, none⟩ = some (.int .i64 0) := hX4.cell 7
  replace k8 : w4.cell? ⟨w.heap.size, 8, none⟩ = some (.int .i64 0) := hX4.cell 8
  have hm4 := hm.below hb14
  have hlv : ¬ (20000 : Int) ≤ (live : Int) := by omega
  go_wp2_with fail
  refine (nlen_any base B b s root live n _ fr vs vf w4 hm4).mono ?_
  rintro e w5 ⟨rfl, hw5⟩
  obtain rfl := hw5.symm
  have hwl := wlimits_nil ⟨2, nm, ⟨none, 0, 0⟩, ⟨#[]⟩, 0, 0, 0, 0, 0⟩ w4 rfl (by show (0 : Nat) ≤ 20000; omega) (hT.below hb14)
  dsimp only at hwl
  rw [fits_nil] at hwl
  have HWL := Lib.hid hwl
  clear hwl
  go_wp2_with fail
  refine HWL.out.mono ?_
  rintro e w6 ⟨rfl, hb6⟩
  have hX6 := hX4.below hb6 hX4.lt
  have hb16 := hb14.trans (hb6.mono hb14.size)
  replace k0 : w6.cell? ⟨w.heap.size, 0, none⟩ = some (.int .i64 2) := hX6.cell 0
  replace k1 : w6.cell? ⟨w.heap.size, 1, none⟩ = some (.string nm) := hX6.cell 1
  replace k2 : w6.cell? ⟨w.heap.size, 2, none⟩ = some (.slice none 0 0) := hX6.cell 2
  replace k3 : w6.cell? ⟨w.heap.size, 3, none⟩ = some (.string ⟨#[]⟩) := hX6.cell 3
  replace k4 : w6.cell? ⟨w.heap.size, 4, none⟩ = some (.int .i64 0) := hX6.cell 4
  replace k5 : w6.cell? ⟨w.heap.size, 5, none⟩ = some (.int .i64 0) := hX6.cell 5
  replace k6 : w6.cell? ⟨w.heap.size, 6, none⟩ = some (.int .i64 0) := hX6.cell 6
  replace k7 : w6.cell? ⟨w.heap.size, 7, none⟩ = some (.int .i64 0) := hX6.cell 7
  replace k8 : w6.cell? ⟨w.heap.size, 8, none⟩ = some (.int .i64 0) := hX6.cell 8
  obtain ⟨v1, v2, v3, v4, v5⟩ := vacN_facts hS hn
  have hgn : g (Ar.hdl b s ((vacN n fr).2.2 : Nat)) = none := by
    have := raw_isSome (g := g) (av := av) (h := Ar.hdl b s ((vacN n fr).2.2 : Nat))
    rw [v4] at this
    exact Option.not_isSome_iff_eq_none.1 (by rw [← this]; simp)
  have hH0 : Ar.hdl b s ((vacN n fr).2.2 : Nat) ≠ 0 := by
    have := (hdl_pos (b := b) (s := s) (i := (vacN n fr).2.2) (by omega)).1
    omega
  have hAdd := nadd_any base B b s root live n _ fr vs vf ⟨2, nm, ⟨none, 0, 0⟩, ⟨#[]⟩, 0, 0, 0, 0, 0⟩ w6.drew (hm.below (Below.drew hb16)) hS (by have := hb16.size; show base ≤ w6.heap.size; omega) hn
  have hS7 := v5 ⟨2, nm, ⟨none, 0, 0⟩, ⟨#[]⟩, 0, 0, 0, 0, 0⟩
  rw [← Tr.raw_add (g := g) (h := Ar.hdl b s ((vacN n fr).2.2 : Nat)) (m := elemN nm) (av := av) (s := ⟨none, 0, 0⟩) hgn hw.zero rfl rfl] at hAdd hS7
  have hW7 := Tr.WF.add hw (m := elemN nm) hgn hH0 rfl rfl
  have hst6 : AStep w w6.drew (Foot B vs vf) (Foot B vs vf) := .of_below (Below.drew hb16)
  obtain ⟨H, hH⟩ : ∃ H, Ar.hdl b s ((vacN n fr).2.2 : Nat) = H := ⟨_, rfl⟩
  rw [hH] at hgn hH0 hAdd hS7 hW7
  have HA := Lib.hid hAdd
  have HQ := Lib.hid (And.intro v2 (And.intro hgn (And.intro hH0 (And.intro hS7 (And.intro hW7 hst6)))))
  clear v1 v2 v3 v4 v5 hgn hH0 hAdd hS7 hW7 hst6 hH
  go_wp2_with fail
  go_region_with (refine HA.out.mono ?_; rintro e w7 ⟨vs', vf', rfl, hT7, hst⟩; have HT7 := Lib.hid (And.intro hT7 hst); clear hT7 hst)
  go_wp2_with fail
  go_ret2
  obtain ⟨v2, hgn, hH0, hS7, hW7, hst6⟩ := HQ.out
  exact ⟨_, _, _, _, _, rfl, v2, hgn, hH0, HT7.out.1, hS7, hW7, hst6.trans HT7.out.2⟩
end Go.Proofs.YtelncgfeojfafaaDoor
