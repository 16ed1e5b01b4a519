/- The statement ArenaAll returns true: its walk. -/
import Derived.Test.YthocodmniofioaaAAll1
import Derived.Test.YthocodmniofioaaAFilL
import Derived.Deep.RegionHeld3
import Derived.Deep.RegionWith
import Derived.Deep.DrawnRows
import Derived.Deep.QuietTactic
import Derived.BigQuiet
import Derived.Lib.MinMax
namespace Go.Proofs.Ythocodmniofioaa
open Go.RowKit Go.Shelf
attribute [local go_sem] Oper.semAt_some

/-- The first loop's state: the result's variable, the Salt's, the arena, n and last. -/
def ASt1 (w : World) (b s : Int) (cs : List (Option Int)) (fr : List Nat) (vs vf : Value) (base B : Nat) (pre : List Ar.Rc) (W : World) : Prop :=
  Whole W (w.heap.size + 1) #[.bool false] 4 ∧ Whole W w.heap.size #[.int .i64 b, .int .i64 s] 23 ∧
  AMv 29 57 3 2 base W B b s vs cs.length (Ar.rows Ar.slot cs) vf fr (Ar.live cs) ∧
  Whole W (B + 1) #[.int .i64 (pre.length : Nat)] 3 ∧ Whole W (B + 1 + 1) #[.int .i64 (Ar.lastI pre)] 3 ∧ Below w.heap.size w W
theorem whole_far {W W' : World} {row : Option Nat} {k N : Nat} {cs : Array Value} {t : TypeId} (h : Whole W k cs t) (hg : W.grownBy W' row) (hr : ∀ r, row = some r → N ≤ r) (hk : k < N) : Whole W' k cs t :=
  (hg.block k h.lt (fun e => by have := hr k e.symm; omega)).trans h
theorem amv_far {T St E : TypeId} {n base B len live : Nat} {W W' : World} {b s : Int} {xs : List Value} {fr : List Nat} {vs vf : Value} {row : Option Nat} {N : Nat} (h : AMv T St E n base W B b s vs len xs vf fr live) (hg : W.grownBy W' row) (hr : ∀ r, row = some r → N ≤ r)
    (hk : ∀ k, Foot B vs vf k → k < N) : AMv T St E n base W' B b s vs len xs vf fr live :=
  h.turns (S := fun k => row = some k) (.of_grown hg (fun k hk => hk)) (fun k hf e => by have := hr k e; have := hk k hf; omega)
theorem ASt1.far {w : World} {b s : Int} {cs : List (Option Int)} {fr : List Nat} {vs vf : Value} {base B N : Nat} {pre : List Ar.Rc} {W W' : World} {row : Option Nat} (h : ASt1 w b s cs fr vs vf base B pre W) (hg : W.grownBy W' row) (hr : ∀ r, row = some r → N ≤ r)
    (hN : w.heap.size + 1 < N) (hB : B + 1 + 1 < N) (hF : ∀ k, Foot B vs vf k → k < N) : ASt1 w b s cs fr vs vf base B pre W' := by
  obtain ⟨h1, h2, h3, h4, h5, h6⟩ := h
  exact ⟨whole_far h1 hg hr hN, whole_far h2 hg hr (by omega), amv_far h3 hg hr hF, whole_far h4 hg hr (by omega), whole_far h5 hg hr hB, h6.grown hg (by have := h6.size; omega) (fun k hk => by have := hr k hk; omega)⟩
theorem ASt1.below {w : World} {b s : Int} {cs : List (Option Int)} {fr : List Nat} {vs vf : Value} {base B : Nat} {pre : List Ar.Rc} {W W' : World} (h : ASt1 w b s cs fr vs vf base B pre W) (hb : Below W.heap.size W W') : ASt1 w b s cs fr vs vf base B pre W' := by
  obtain ⟨h1, h2, h3, h4, h5, h6⟩ := h
  exact ⟨h1.below hb h1.lt, h2.below hb h2.lt, h3.below hb, h4.below hb h4.lt, h5.below hb h5.lt, h6.trans (hb.mono h6.size)⟩
theorem dropAt_vals (p : List (Option Int) × List Nat) (j : Nat) (v : Int) (h : some v ∈ (Ar.dropAt p j).1) : some v ∈ p.1 := by
  unfold Ar.dropAt at h
  split at h
  · rcases List.mem_or_eq_of_mem_set h with h | h
    · exact h
    · cases h
  · exact h
theorem filAt_vals (n : Nat) (ds : List Int) : ∀ (p : List (Option Int) × List Nat) (v : Int), some v ∈ (Ar.filAt n ds p).1 → some v ∈ p.1 := by
  induction ds with
  | nil => intro p v h; exact h
  | cons d ds ih =>
    intro p v h
    have h1 := ih (Ar.filStep n p d) v h
    unfold Ar.filStep at h1
    split at h1
    · exact h1
    · exact dropAt_vals p _ v h1
theorem ko_below {W W' : World} (h : Below W.heap.size W W') : KeepsOthers W W' := ⟨h.size, fun k o hk _ => (h.block k (Array.getElem?_eq_some_iff.1 hk).1).trans hk⟩
theorem KeepA.setCell1 (m1 m2 : Nat) (W : World) (v : Value) : KeepA m1 m2 W (W.setCell ⟨m1, 0, none⟩ v) :=
  ⟨by simp [World.setCell], fun k _ hk h1 _ _ => (heap_setCell_other _ ⟨m1, 0, none⟩ k _ h1).trans hk⟩
theorem KeepA.setCell2 (m1 m2 : Nat) (W : World) (v : Value) : KeepA m1 m2 W (W.setCell ⟨m2, 0, none⟩ v) :=
  ⟨by simp [World.setCell], fun k _ hk _ h2 _ => (heap_setCell_other _ ⟨m2, 0, none⟩ k _ h2).trans hk⟩
theorem amv_set {T St E : TypeId} {n base B len live : Nat} {W : World} {b s : Int} {xs : List Value} {fr : List Nat} {vs vf : Value} (h : AMv T St E n base W B b s vs len xs vf fr live) (k : Nat) (v : Value) (hk : ¬ Foot B vs vf k) :
    AMv T St E n base (W.setCell ⟨k, 0, none⟩ v) B b s vs len xs vf fr live :=
  h.turns (S := fun j => j = k) (.of_grown (gb_put (gb_of_below (Below.refl W.heap.size W) (some k)) 0 v) (fun j hj => by simpa using hj.symm)) (fun j hf e => hk (e ▸ hf))
/-- A turn of the first loop. -/
theorem ASt1.step {w : World} {b s : Int} {cs : List (Option Int)} {fr : List Nat} {vs vf : Value} {base B : Nat} {pre : List Ar.Rc} {W : World} (h : ASt1 w b s cs fr vs vf base B pre W) (x : Ar.Rc) (hwB : w.heap.size + 2 ≤ B)
    (hF : ∀ k, Foot B vs vf k → k < B + 1) : ASt1 w b s cs fr vs vf base B (pre ++ [x]) ((W.setCell ⟨B + 1 + 1, 0, none⟩ (.int .i64 (x.i : Int))).setCell ⟨B + 1, 0, none⟩ (.int .i64 ((pre.length : Int) + 1))) := by
  obtain ⟨h1, h2, h3, h4, h5, h6⟩ := h
  refine ⟨(h1.other (by show _ ≠ B + 1 + 1; omega) _).other (by show _ ≠ B + 1; omega) _, (h2.other (by show _ ≠ B + 1 + 1; omega) _).other (by show _ ≠ B + 1; omega) _, amv_set (amv_set h3 _ _ (fun hf => by have := hF _ hf; omega)) _ _ (fun hf => by have := hF _ hf; omega), ?_, ?_, ?_⟩
  · have e := (h4.other (a := ⟨B + 1 + 1, 0, none⟩) (by show B + 1 ≠ B + 1 + 1; omega) (.int .i64 (x.i : Int))).put 0 (.int .i64 ((pre.length : Int) + 1))
    rw [List.length_append, List.length_singleton]
    exact e
  · have e := (h5.put 0 (.int .i64 (x.i : Int))).other (a := ⟨B + 1, 0, none⟩) (by show B + 1 + 1 ≠ B + 1; omega) (.int .i64 ((pre.length : Int) + 1))
    rw [Ar.lastI_snoc]
    exact e
  · exact (h6.setCell (p := ⟨B + 1 + 1, 0, none⟩) (by show w.heap.size ≤ B + 1 + 1; omega) _).setCell (p := ⟨B + 1, 0, none⟩) (by show w.heap.size ≤ B + 1; omega) _
set_option maxHeartbeats 400000 in
theorem alen_same (B : Nat) (live : Nat) (w : World) (hc : w.cell? ⟨B, 4, none⟩ = some (.int .i64 (live : Nat))) :
    Calls Try.prog 29 #[.pointer (some ⟨B, 0, none⟩)] w fun e w' => e = .returned (.int .i64 (live : Nat)) ∧ w' = w := by
  go_enter Try.func29, Try.ntmps29
  go_wp2_with fail
  go_ret
  exact ⟨rfl, rfl⟩
/-- The second loop's state: all of the first one's, stop and k. -/
def ASt2 (w : World) (b s : Int) (cs : List (Option Int)) (fr : List Nat) (vs vf : Value) (base B D S : Nat) (st j : Nat) (W : World) : Prop :=
  ASt1 w b s cs fr vs vf base B (Ar.rcs cs cs.length) W ∧ Whole W S #[.int .i64 (st : Nat)] 3 ∧ Whole W (S + 1) #[.int .i64 (j : Nat)] 3 ∧ W.heap[D]? = some (.deferred (some []))
theorem ASt2.far {w : World} {b s : Int} {cs : List (Option Int)} {fr : List Nat} {vs vf : Value} {base B D S st j N : Nat} {W W' : World} {row : Option Nat} (h : ASt2 w b s cs fr vs vf base B D S st j W) (hg : W.grownBy W' row) (hr : ∀ r, row = some r → N ≤ r)
    (hN : w.heap.size + 1 < N) (hB : B + 1 + 1 < N) (hF : ∀ k, Foot B vs vf k → k < N) (hS : S + 1 < N) (hD : D < N) : ASt2 w b s cs fr vs vf base B D S st j W' := by
  obtain ⟨h1, h2, h3, h4⟩ := h
  exact ⟨h1.far hg hr hN hB hF, whole_far h2 hg hr (by omega), whole_far h3 hg hr hS, (hg.block D (Array.getElem?_eq_some_iff.1 h4).1 (fun e => by have := hr D e.symm; omega)).trans h4⟩
theorem ASt2.step {w : World} {b s : Int} {cs : List (Option Int)} {fr : List Nat} {vs vf : Value} {base B D S st j : Nat} {W : World} (h : ASt2 w b s cs fr vs vf base B D S st j W) (hB : B + 1 + 1 < S) (hw : w.heap.size + 2 ≤ B) (hF : ∀ k, Foot B vs vf k → k < B + 1) (hD : D < S) :
    ASt2 w b s cs fr vs vf base B D S st (j + 1) (W.setCell ⟨S + 1, 0, none⟩ (.int .i64 ((j : Int) + 1))) := by
  obtain ⟨⟨h1, h2, h3, h4, h5, h6⟩, k2, k3, k4⟩ := h
  refine ⟨⟨h1.other (by show _ ≠ S + 1; omega) _, h2.other (by show _ ≠ S + 1; omega) _, amv_set h3 _ _ (fun hf => by have := hF _ hf; omega), h4.other (by show _ ≠ S + 1; omega) _, h5.other (by show _ ≠ S + 1; omega) _, h6.setCell (p := ⟨S + 1, 0, none⟩) (by show w.heap.size ≤ S + 1; omega) _⟩, k2.other (by show _ ≠ S + 1; omega) _, ?_, ?_⟩
  · exact k3.put 0 (.int .i64 ((j : Int) + 1))
  · exact (heap_setCell_other W ⟨S + 1, 0, none⟩ D _ (by show D ≠ S + 1; omega)).trans k4
theorem put_far {W : World} {D k : Nat} (o' : Obj) (h : k ≠ D) : (W.putObj D o').heap[k]? = W.heap[k]? := World.putObj_heap_other h

set_option maxRecDepth 100000 in
set_option maxHeartbeats 4000000 in
theorem all_walk (b s : Int) (A D : Option Addr) (cp dp : Nat) (l ds : List Int) (w : World) (hb : I64 b) (hs : I64 s) (hl : Nums .i16 w A l) (hd : Nums .u8 w D ds) (hl2 : ∀ x ∈ l, -32768 ≤ x ∧ x ≤ 32767) (hd2 : ∀ x ∈ ds, 0 ≤ x ∧ x ≤ 255) (hl1 : l.length ≤ 100) (hd1 : ds.length ≤ 100) :
    Calls Try.prog 6 #[saltV b s, .slice A l.length cp, .slice D ds.length dp] w fun e w' => e = .returned (.bool true) ∧ Below w.heap.size w w' := by
  have HFIL := Lib.hid (fun (w : World) (h1 : Nums .i16 w A l) (h2 : Nums .u8 w D ds) => filled_any b s A D cp dp l ds w hb hs h1 h2 hl1 hd1 hl2 hd2)
  have HOK := Lib.hid (Ar.filAt_ok l.length ds (l.map some, []) ⟨List.nodup_nil, fun _ h => by simp at h⟩)
  have HVAL := Lib.hid (fun v (h : some v ∈ (Ar.filAt l.length ds (l.map some, [])).1) => (show -9223372036854775808 ≤ v ∧ v ≤ 9223372036854775807 from by
    have h1 := filAt_vals _ _ _ v h
    obtain ⟨x, hx, e⟩ := List.mem_map.1 h1
    obtain rfl := Option.some.inj e
    have := hl2 x hx
    omega))
  obtain ⟨n, hn⟩ : ∃ n, l.length = n := ⟨_, rfl⟩
  obtain ⟨q, hq⟩ : ∃ q, ds.length = q := ⟨_, rfl⟩
  rw [hn, hq]
  rw [hn] at hl1 HOK HVAL
  rw [hq] at hd1
  have HN := Lib.hid hn
  have HQ := Lib.hid hq
  clear hn hq
  have hbig1 : decide ((100 : Int) < (n : Int)) = false := decide_eq_false (by omega)
  have hbig2 : decide ((100 : Int) < (q : Int)) = false := decide_eq_false (by omega)
  refine (callsIn_wide (n := 5)).1 ?_
  refine callsIn_of_wp_marks Try.func6 rfl trivial ?_ rfl
  simp only [Try.ntmps6, List.size_toArray, List.length_cons, List.length_nil, Nat.reduceAdd, Nat.reduceSub, Array.replicate_succ, Array.replicate_zero, List.push_toArray, List.append_toArray, List.nil_append, List.cons_append]
  gi_wp2_with fail
  refine ⟨trivial, (callsIn_wide.2 (aawake_any _)).mono ?_⟩
  rintro e w1 ⟨rfl, hb1⟩
  have hS1 : Whole w1 w.heap.size #[.int .i64 b, .int .i64 s] 23 := Whole.below ((Whole.new w _ _).alloc _) hb1 (by simp; omega)
  have hR1 : Whole w1 (w.heap.size + 1) #[.bool false] 4 := by
    have h := Whole.new (w.alloc (.cells #[.int .i64 b, .int .i64 s] 23)) #[.bool false] 4
    rw [World.size_alloc] at h
    exact h.below hb1 h.lt
  have c1 : w1.cell? ⟨w.heap.size, 0, none⟩ = some (.int .i64 b) := hS1.cell 0
  have c2 : w1.cell? ⟨w.heap.size, 1, none⟩ = some (.int .i64 s) := hS1.cell 1
  have hB1 : Below w.heap.size w w1 := (((Below.refl _ w).alloc (Nat.le_refl _) _).alloc (by simp) _).trans (hb1.mono (by simp; omega))
  have hz1 := hB1.size
  have hz1' : w.heap.size + 2 ≤ w1.heap.size := by have := hb1.size; simp at this; omega
  have HL1 := Lib.hid (hl.below hB1)
  have HD1 := Lib.hid (hd.below hB1)
  clear hl hd hb1
  gi_wp2_with fail
  have hfil := HFIL.out w1 HL1.out HD1.out
  rw [HN.out, HQ.out] at hfil
  refine ⟨trivial, (callsIn_wide.2 hfil).mono ?_⟩
  rintro e w3 ⟨vs, vf, vg, rfl, hF, hb3⟩
  obtain ⟨cs, hcs⟩ : ∃ cs, (Ar.filAt n ds (l.map some, [])).1 = cs := ⟨_, rfl⟩
  obtain ⟨fr, hfr⟩ : ∃ fr, (Ar.filAt n ds (l.map some, [])).2 = fr := ⟨_, rfl⟩
  have hfok := HOK.out
  have hval := HVAL.out
  rw [hcs, hfr, List.length_map, HN.out] at hfok
  rw [hcs] at hval
  rw [hcs, hfr] at hF
  rw [hcs]
  obtain ⟨A1, k1, A2, k2, Ag, cg, rfl, rfl, rfl⟩ := hF.slices
  have hz3 := hb3.size
  have hlen : cs.length ≤ 100 := by omega
  have hM4 : AMv 29 57 3 2 w1.heap.size (w3.alloc (.cells #[.int .i64 b, .int .i64 s, .slice A1 cs.length k1, .slice A2 fr.length k2, .int .i64 (Ar.live cs : Nat)] 29)) w3.heap.size b s (.slice A1 cs.length k1) cs.length (Ar.rows Ar.slot cs) (.slice A2 fr.length k2) fr (Ar.live cs) :=
    ⟨Whole.new w3 _ _, hz3, hF.1.alloc _, hF.2.1.alloc _, by decide, by decide, by decide⟩
  have HV := Lib.hid hval
  clear hfil HFIL HOK HVAL hfok hcs hfr hF hval
  have hb4 : Below w.heap.size w (w3.alloc (.cells #[.int .i64 b, .int .i64 s, .slice A1 cs.length k1, .slice A2 fr.length k2, .int .i64 (Ar.live cs : Nat)] 29)) := ((hB1.trans (hb3.mono hz1))).alloc (by omega) _
  have hS4 := (hS1.below hb3 hS1.lt).alloc (.cells #[.int .i64 b, .int .i64 s, .slice A1 cs.length k1, .slice A2 fr.length k2, .int .i64 (Ar.live cs : Nat)] 29)
  have hR4 := (hR1.below hb3 hR1.lt).alloc (.cells #[.int .i64 b, .int .i64 s, .slice A1 cs.length k1, .slice A2 fr.length k2, .int .i64 (Ar.live cs : Nat)] 29)
  obtain ⟨w4, hw4⟩ : ∃ w4, w3.alloc (.cells #[.int .i64 b, .int .i64 s, .slice A1 cs.length k1, .slice A2 fr.length k2, .int .i64 (Ar.live cs : Nat)] 29) = w4 := ⟨_, rfl⟩
  have hz4 : w4.heap.size = w3.heap.size + 1 := by rw [← hw4]; simp
  rw [hw4] at hM4 hb4 hS4 hR4
  obtain ⟨B, hB⟩ : ∃ B, w3.heap.size = B := ⟨_, rfl⟩
  have hz4' : w4.heap.size = B + 1 := by omega
  have hwB : w.heap.size + 2 ≤ B := by omega
  have hM4' := hM4
  rw [hB] at hM4'
  have hgo := hw4
  have HB0 := Lib.hid hB
  gi_wp2_with fail
  have hfoot : ∀ k, Foot B (.slice A1 cs.length k1) (.slice A2 fr.length k2) k → k < B + 1 := fun k hk => by
    have := (hM4'.am.lt k hk).2
    omega
  have hb45 : Below w4.heap.size w4 ((w4.alloc (.cells #[.int .i64 0] 3)).alloc (.cells #[.int .i64 (-1)] 3)) := ((Below.refl _ _).alloc (Nat.le_refl _) _).alloc (by simp) _
  have hz5 : ((w4.alloc (.cells #[.int .i64 0] 3)).alloc (.cells #[.int .i64 (-1)] 3)).heap.size = B + 3 := by simp; omega
  have hM5 := hM4'.below hb45
  have hS5 := (hS4.alloc (.cells #[.int .i64 0] 3)).alloc (.cells #[.int .i64 (-1)] 3)
  have hR5 := (hR4.alloc (.cells #[.int .i64 0] 3)).alloc (.cells #[.int .i64 (-1)] 3)
  have hn5 := (Whole.new w4 #[.int .i64 0] 3).alloc (.cells #[.int .i64 (-1)] 3)
  have hl5 := Whole.new (w4.alloc (.cells #[.int .i64 0] 3)) #[.int .i64 (-1)] 3
  rw [World.size_alloc] at hl5
  rw [hz4'] at hn5 hl5
  have hb5 := hb4.trans (hb45.mono hb4.size)
  obtain ⟨w5, hw5⟩ : ∃ w5, (w4.alloc (.cells #[.int .i64 0] 3)).alloc (.cells #[.int .i64 (-1)] 3) = w5 := ⟨_, rfl⟩
  rw [hw5] at hz5 hM5 hS5 hR5 hn5 hl5 hb5 ⊢
  clear hw5 hb45 hM4 hM4' hS4 hR4 hb4 hw4 hgo
  refine ⟨trivial, (callsIn_wide.2 (aallS_any b s (Ar.live cs) cs fr A1 A2 k1 k2 w1.heap.size B w5 hM5 HV.out (by omega))).mono ?_⟩
  rintro e w6 ⟨lb, rfl, hw6, hst⟩
  have hstm := hst (B + 1) (B + 1 + 1) (by omega) (by omega) (fun h => by have := hfoot _ h; omega) (fun h => by have := hfoot _ h; omega)
  have hb56 : Below w5.heap.size w5 w6 := by rw [hw6]; exact (Below.refl _ _).alloc (Nat.le_refl _) _
  have hz6 : w6.heap.size = B + 4 := by rw [hw6]; simp; omega
  clear hst hw6
  have hSt0 : ASt1 w b s cs fr (.slice A1 cs.length k1) (.slice A2 fr.length k2) w1.heap.size B [] w6 :=
    ⟨hR5.below hb56 hR5.lt, hS5.below hb56 hS5.lt, hM5.below hb56, hn5.below hb56 hn5.lt, hl5.below hb56 hl5.lt, hb5.trans (hb56.mono hb5.size)⟩
  clear hR5 hS5 hM5 hn5 hl5 hb5 hb56
  gi_wp2_with fail
  refine wpIn_rangeFunc_ownF (w := w6) rfl (by decide) (gf := 48) (lb := lb) rfl trivial (enters_of Try.func48 (by kernel_rfl) rfl) hstm KeepA.trans KeepA.put (Below.refl _ _) (fun _ => rfl)
    (ASt1 w b s cs fr (.slice A1 cs.length k1) (.slice A2 fr.length k2) w1.heap.size B) (fun _ pre _ => ¬ pre <+: Ar.rcs cs cs.length)
    ?hI ?hIx ?h0 (fun x => { tmps := #[saltV b s, .slice A n cp, .slice D q dp, .pointer (some ⟨w.heap.size, 0, none⟩), undef, undef, .pointer (some ⟨w.heap.size + 1, 0, none⟩), .pointer (some ⟨B, 0, none⟩), .slice Ag n cg, .pointer (some ⟨B + 1, 0, none⟩), .pointer (some ⟨B + 1 + 1, 0, none⟩), .int .i64 (Ar.hdl b s (x.i : Int)), .int .i64 x.v, undef, undef, undef, undef, undef, .bool true, .bool false, .bool false, .slice A n cp, .int .i64 n, .bool false, .bool false, .bool false, .slice D q dp, .int .i64 q, .bool false, .bool false, undef, .tuple #[arenaV b s (.slice A1 cs.length k1) (.slice A2 fr.length k2) (Ar.live cs : Nat), .slice Ag n cg], .agg #[.int .i64 b, .int .i64 s], .slice A n cp, .slice D q dp, .tuple #[arenaV b s (.slice A1 cs.length k1) (.slice A2 fr.length k2) (Ar.live cs : Nat), .slice Ag n cg], arenaV b s (.slice A1 cs.length k1) (.slice A2 fr.length k2) (Ar.live cs : Nat), .slice Ag n cg, .func (.func 48) #[] lb, .int .i64 (Ar.hdl b s (x.i : Int)), .int .i64 x.v, undef, undef, undef, undef, undef, undef, undef, undef, undef, undef, undef, undef, undef, undef, undef, undef, undef, undef, undef, undef, undef, undef, undef, undef, undef, undef, undef, undef, undef, undef, undef, undef, undef, undef, undef, undef, undef, undef, undef, undef, undef, undef], defers := [] }) ?assign ?body ?done ?stop
  case hI =>
    intro pre W W' row h hg hr
    exact h.far hg (fun r e => (hr r e).1) (by omega) (by omega) (fun k hk => by have := hfoot k hk; omega)
  case hIx => intro c pre W W' row h _ _; exact h
  case h0 => exact hSt0
  case assign =>
    intro l x W K hK
    gi_wp2
    exact hK
  case body =>
    rintro l pre x W hst hlen
    have hxi := x.hi
    have hpl : pre.length ≤ 100 := by
      have := Ar.live_le cs
      rw [Ar.rcs_live HV.out (by omega)] at hlen
      omega
    have hhd : I64 (Ar.hdl b s (x.i : Int)) := hdl_i64 b s x.i (by omega)
    have s0 : W.cell? ⟨w.heap.size, 0, none⟩ = some (.int .i64 b) := hst.2.1.cell 0
    have s1 : W.cell? ⟨w.heap.size, 1, none⟩ = some (.int .i64 s) := hst.2.1.cell 1
    have hidx : Ar.idx b s (Ar.hdl b s (x.i : Int)) = x.i := Ar.hdl_slot b s x.i (by omega) (by omega)
    have hget : Ar.get b s cs (Ar.hdl b s (x.i : Int)) = (cs[x.i]?).join := Ar.get_hdl b s cs x.i (by omega)
    have hia := aindex_any b s (Ar.hdl b s (x.i : Int)) W hhd
    rw [hidx] at hia
    gi_wp2_with fail
    refine ⟨trivial, (CallsIn.inRound l (callsIn_wide.2 hia)).mono ?_⟩
    rintro e w7 ⟨rfl, hb7⟩
    have hst7 := hst.below hb7
    have hga := aget_anyI w1.heap.size B b s (Ar.hdl b s (x.i : Int)) (Ar.live cs) cs fr _ w7 hst7.2.2.1.am hhd (by omega)
    rw [hget] at hga
    obtain ⟨o, ho⟩ : ∃ o, (cs[x.i]?).join = o := ⟨_, rfl⟩
    rw [ho] at hga
    obtain ⟨L, hL⟩ : ∃ L, Ar.lastI pre = L := ⟨_, rfl⟩
    have HO := Lib.hid ho
    have HL := Lib.hid hL
    have hLr := Ar.lastI_range pre
    rw [hL] at hLr
    clear hget hidx hia ho s0 s1
    by_cases hle : (x.i : Int) ≤ L
    · have hdl : decide ((x.i : Int) ≤ L) = true := decide_eq_true hle
      have hno : ¬ pre ++ [x] <+: Ar.rcs cs cs.length := Ar.not_next_last (by rw [HL.out]; exact hle)
      gi_wp2_with fail
      refine ⟨trivial, (CallsIn.inRound l (callsIn_wide.2 hga)).mono ?_⟩
      rintro e w8 ⟨rfl, hb8⟩
      have hst8 := hst7.below hb8
      have d1 : w8.cell? ⟨B + 1 + 1, 0, none⟩ = some (.int .i64 L) := by rw [← hL]; exact hst8.2.2.2.2.1.cell 0
      have d2 : w8.cell? ⟨w.heap.size + 1, 0, none⟩ = some (.bool false) := hst8.1.cell 0
      have d3 := hst8.1.free 0
      have hk8 := (ko_below hb7).trans (ko_below hb8)
      clear hL
      gi_wp2_with fail
      exact ⟨hk8.trans (KeepsOthers.setCell _ _ _), hno⟩
    · have hdl : decide ((x.i : Int) ≤ L) = false := decide_eq_false hle
      cases o with
      | none =>
        have hno : ¬ pre ++ [x] <+: Ar.rcs cs cs.length := Ar.not_next_val (by rw [HO.out]; simp)
        simp only [Option.getD_none, Option.isSome_none] at hga
        gi_wp2_with fail
        refine ⟨trivial, (CallsIn.inRound l (callsIn_wide.2 hga)).mono ?_⟩
        rintro e w8 ⟨rfl, hb8⟩
        have hst8 := hst7.below hb8
        have d1 : w8.cell? ⟨B + 1 + 1, 0, none⟩ = some (.int .i64 L) := by rw [← hL]; exact hst8.2.2.2.2.1.cell 0
        have d2 : w8.cell? ⟨w.heap.size + 1, 0, none⟩ = some (.bool false) := hst8.1.cell 0
        have d3 := hst8.1.free 0
        have hk8 := (ko_below hb7).trans (ko_below hb8)
        clear hL
        gi_wp2_with fail
        exact ⟨hk8.trans (KeepsOthers.setCell _ _ _), hno⟩
      | some u =>
        simp only [Option.getD_some, Option.isSome_some] at hga
        by_cases huv : u = x.v
        · have hnv : (x.v != u) = false := by rw [huv]; simp
          gi_wp2_with fail
          refine ⟨trivial, (CallsIn.inRound l (callsIn_wide.2 hga)).mono ?_⟩
          rintro e w8 ⟨rfl, hb8⟩
          have hst8 := hst7.below hb8
          have d1 : w8.cell? ⟨B + 1 + 1, 0, none⟩ = some (.int .i64 L) := by rw [← hL]; exact hst8.2.2.2.2.1.cell 0
          have d2 := hst8.2.2.2.2.1.free 0
          have d3 : w8.cell? ⟨B + 1, 0, none⟩ = some (.int .i64 (pre.length : Nat)) := hst8.2.2.2.1.cell 0
          have d4 := hst8.2.2.2.1.free 0
          have hk8 := (ko_below hb7).trans (ko_below hb8)
          have hka8 := (KeepA.below (m1 := B + 1) (m2 := B + 1 + 1) hb7).trans (KeepA.below hb8)
          have hnew := hst8.step x hwB hfoot
          clear hL huv
          gi_wp2_with fail
          exact ⟨(hk8.trans (KeepsOthers.setCell _ _ _)).trans (KeepsOthers.setCell _ _ _), (hka8.trans (KeepA.setCell2 _ _ _ _)).trans (KeepA.setCell1 _ _ _ _), hnew⟩
        · have hnv : (x.v != u) = true := by rw [bne_iff_ne]; exact fun e => huv e.symm
          have hno : ¬ pre ++ [x] <+: Ar.rcs cs cs.length := Ar.not_next_val (by rw [HO.out]; intro e; exact huv (Option.some.inj e))
          gi_wp2_with fail
          refine ⟨trivial, (CallsIn.inRound l (callsIn_wide.2 hga)).mono ?_⟩
          rintro e w8 ⟨rfl, hb8⟩
          have hst8 := hst7.below hb8
          have d1 : w8.cell? ⟨B + 1 + 1, 0, none⟩ = some (.int .i64 L) := by rw [← hL]; exact hst8.2.2.2.2.1.cell 0
          have d2 : w8.cell? ⟨w.heap.size + 1, 0, none⟩ = some (.bool false) := hst8.1.cell 0
          have d3 := hst8.1.free 0
          have hk8 := (ko_below hb7).trans (ko_below hb8)
          clear hL huv
          gi_wp2_with fail
          exact ⟨hk8.trans (KeepsOthers.setCell _ _ _), hno⟩
  case done =>
    rintro Dd xs W hD rfl hst hK
    have hnl : (Ar.rcs cs cs.length).length = Ar.live cs := Ar.rcs_live HV.out (by omega)
    have d1 : W.cell? ⟨B + 1, 0, none⟩ = some (.int .i64 (Ar.live cs : Nat)) := by rw [← hnl]; exact hst.2.2.2.1.cell 0
    have d2 : W.cell? ⟨B, 4, none⟩ = some (.int .i64 (Ar.live cs : Nat)) := hst.2.2.1.cells.2.2.2.2
    gi_wp2_with fail
    rename_i K hret
    refine wpIn_mono (Q := Exit.then K (fun _ _ _ => False)) ?_ (fun e a9 w9 h => by cases e <;> first | exact h | exact h.elim)
    refine wpIn_wide.2 ?_
    go_quiet ((go_at_call 29; exact Calls.quiet_of_same (alen_same B (Ar.live cs) _ (by assumption))))
    refine hret _ _ ?_
    have hst1 : ASt1 w b s cs fr (.slice A1 cs.length k1) (.slice A2 fr.length k2) w1.heap.size B (Ar.rcs cs cs.length) (W.drewN nq) := hst.below ⟨rfl, rfl, rfl, Nat.le_refl _, fun _ _ => rfl⟩
    have hK1 : (W.drewN nq).heap[Dd]? = some (.deferred (some [])) := hK
    obtain ⟨W1, hW1⟩ : ∃ W1, W.drewN nq = W1 := ⟨_, rfl⟩
    rw [hW1] at hst1 hK1 ⊢
    obtain ⟨st, hst7⟩ : ∃ st : Nat, st = q % 7 := ⟨_, rfl⟩
    have hsti : (q : Int) % 7 = (st : Int) := by omega
    have hst6 : st ≤ 6 := by omega
    clear hst hK hW1 hret hst7 d1 d2
    gi_wp2_with fail
    have hb8 : Below W1.heap.size W1 ((W1.alloc (.cells #[.int .i64 (st : Nat)] 3)).alloc (.cells #[.int .i64 0] 3)) := ((Below.refl _ _).alloc (Nat.le_refl _) _).alloc (by simp) _
    have hst8 := hst1.below hb8
    have hK8 := (hb8.block Dd (Array.getElem?_eq_some_iff.1 hK1).1).trans hK1
    have hS8 := (Whole.new W1 #[.int .i64 (st : Nat)] 3).alloc (.cells #[.int .i64 0] 3)
    have hk8 := Whole.new (W1.alloc (.cells #[.int .i64 (st : Nat)] 3)) #[.int .i64 0] 3
    rw [World.size_alloc] at hk8
    have hDl : Dd < W1.heap.size := (Array.getElem?_eq_some_iff.1 hK1).1
    have hBl : B + 1 + 1 < W1.heap.size := hst1.2.2.2.2.1.lt
    obtain ⟨S, hS⟩ : ∃ S, W1.heap.size = S := ⟨_, rfl⟩
    have hz8 : ((W1.alloc (.cells #[.int .i64 (st : Nat)] 3)).alloc (.cells #[.int .i64 0] 3)).heap.size = S + 2 := by simp; omega
    obtain ⟨w8, hw8⟩ : ∃ w8, (W1.alloc (.cells #[.int .i64 (st : Nat)] 3)).alloc (.cells #[.int .i64 0] 3) = w8 := ⟨_, rfl⟩
    rw [hw8] at hst8 hK8 hS8 hk8 hz8 ⊢
    rw [hS] at hS8 hk8 hDl hBl ⊢
    clear hb8 hw8 hst1 hK1 hS
    refine ⟨trivial, (callsIn_wide.2 (aallS_any b s (Ar.live cs) cs fr A1 A2 k1 k2 w1.heap.size B w8 hst8.2.2.1 HV.out (by omega))).mono ?_⟩
    rintro e w9 ⟨lc, rfl, hw9, hsu⟩
    have hsum := hsu (S + 1) (S + 1) (by omega) (by omega) (fun h => by have := hfoot _ h; omega) (fun h => by have := hfoot _ h; omega)
    have hb89 : Below w8.heap.size w8 w9 := by rw [hw9]; exact (Below.refl _ _).alloc (Nat.le_refl _) _
    have hz9 : w9.heap.size = S + 3 := by rw [hw9]; simp; omega
    have hT0 : ASt2 w b s cs fr (.slice A1 cs.length k1) (.slice A2 fr.length k2) w1.heap.size B Dd S st 0 w9 :=
      ⟨hst8.below hb89, hS8.below hb89 hS8.lt, hk8.below hb89 hk8.lt, (hb89.block Dd (Array.getElem?_eq_some_iff.1 hK8).1).trans hK8⟩
    clear hsu hw9 hst8 hK8 hS8 hk8 hb89
    gi_wp2_with fail
    refine wpIn_rangeFunc_ownF (w := w9) rfl (by decide) (gf := 48) (lb := lc) rfl trivial (enters_of Try.func48 (by kernel_rfl) rfl) hsum KeepA.trans KeepA.put (Below.refl _ _) (fun _ => rfl)
      (fun pre W => ASt2 w b s cs fr (.slice A1 cs.length k1) (.slice A2 fr.length k2) w1.heap.size B Dd S st pre.length W ∧ pre.length ≤ st)
      (fun c pre W => c = .exit 2 ∧ ASt2 w b s cs fr (.slice A1 cs.length k1) (.slice A2 fr.length k2) w1.heap.size B Dd S st st W ∧ pre.length = st + 1)
      ?hI2 ?hIx2 ?h02 (fun x => { tmps := #[saltV b s, .slice A n cp, .slice D q dp, .pointer (some ⟨w.heap.size, 0, none⟩), undef, undef, .pointer (some ⟨w.heap.size + 1, 0, none⟩), .pointer (some ⟨B, 0, none⟩), .slice Ag n cg, .pointer (some ⟨B + 1, 0, none⟩), .pointer (some ⟨B + 1 + 1, 0, none⟩), undef, undef, undef, undef, undef, .pointer (some ⟨S, 0, none⟩), .pointer (some ⟨S + 1, 0, none⟩), .bool true, .bool false, .bool false, .slice A n cp, .int .i64 n, .bool false, .bool false, .bool false, .slice D q dp, .int .i64 q, .bool false, .bool false, undef, .tuple #[arenaV b s (.slice A1 cs.length k1) (.slice A2 fr.length k2) (Ar.live cs : Nat), .slice Ag n cg], .agg #[.int .i64 b, .int .i64 s], .slice A n cp, .slice D q dp, .tuple #[arenaV b s (.slice A1 cs.length k1) (.slice A2 fr.length k2) (Ar.live cs : Nat), .slice Ag n cg], arenaV b s (.slice A1 cs.length k1) (.slice A2 fr.length k2) (Ar.live cs : Nat), .slice Ag n cg, .func (.func 48) #[] lb, undef, undef, undef, undef, undef, undef, undef, undef, undef, undef, undef, undef, undef, undef, undef, undef, undef, undef, undef, undef, undef, undef, undef, undef, undef, .int .i64 (Ar.live cs : Nat), .int .i64 (Ar.live cs : Nat), .bool false, .slice D q dp, .int .i64 q, .int .i64 (st : Nat), .func (.func 48) #[] lc, .int .i64 (Ar.hdl b s (x.i : Int)), .int .i64 x.v, undef, undef, undef, undef, undef, undef, undef, undef, undef, undef], defers := [] }) ?assign2 ?body2 ?done2 ?stop2
    case hI2 =>
      intro pre W W' row h hg hr
      exact ⟨h.1.far hg (fun r e => (hr r e).1) (by omega) (by omega) (fun k hk => by have := hfoot k hk; omega) (by omega) (by omega), h.2⟩
    case hIx2 =>
      intro c pre W W' row h hg hr
      exact ⟨h.1, h.2.1.far hg (fun r e => (hr r e).1) (by omega) (by omega) (fun k hk => by have := hfoot k hk; omega) (by omega) (by omega), h.2.2⟩
    case h02 => exact ⟨hT0, Nat.zero_le _⟩
    case assign2 =>
      intro l x W K hK
      gi_wp2
      exact hK
    case body2 =>
      rintro l pre x W ⟨hs2, hle2⟩ hlen2
      have e1 : W.cell? ⟨S, 0, none⟩ = some (.int .i64 (st : Nat)) := hs2.2.1.cell 0
      have e2 : W.cell? ⟨S + 1, 0, none⟩ = some (.int .i64 (pre.length : Nat)) := hs2.2.2.1.cell 0
      have e3 := hs2.2.2.1.free 0
      by_cases heq : pre.length = st
      · have hbq : ((pre.length : Int) == (st : Int)) = true := by rw [beq_iff_eq]; omega
        have hix : ASt2 w b s cs fr (.slice A1 cs.length k1) (.slice A2 fr.length k2) w1.heap.size B Dd S st st W := by rw [heq] at hs2; exact hs2
        have hle3 : (pre ++ [x]).length = st + 1 := by rw [List.length_append, heq]; rfl
        clear heq
        gi_wp2_with fail
        exact ⟨KeepsOthers.refl _, rfl, hix, hle3⟩
      · have hbq : ((pre.length : Int) == (st : Int)) = false := by rw [beq_eq_false_iff_ne]; omega
        have hnew := hs2.step (by omega) hwB hfoot (by omega)
        have hle3 : (pre ++ [x]).length ≤ st := by rw [List.length_append, List.length_singleton]; omega
        have hle4 : (pre ++ [x]).length = pre.length + 1 := by rw [List.length_append]; rfl
        have HNW := Lib.hid hnew
        clear heq hnew
        gi_wp2_with fail
        exact ⟨KeepsOthers.setCell _ _ _, KeepA.setCell1 _ _ _ _, by rw [hle4]; exact HNW.out, hle3⟩
    case done2 =>
      rintro D2 xs W hD2 rfl ⟨hs2, hle2⟩ hK2
      rw [hnl] at hs2 hle2
      have t1 : W.cell? ⟨S, 0, none⟩ = some (.int .i64 (st : Nat)) := hs2.2.1.cell 0
      have t2 : W.cell? ⟨S + 1, 0, none⟩ = some (.int .i64 (Ar.live cs : Nat)) := hs2.2.2.1.cell 0
      have t3 : W.cell? ⟨B + 1, 0, none⟩ = some (.int .i64 (Ar.live cs : Nat)) := by rw [← hnl]; exact hs2.1.2.2.2.1.cell 0
      have t4 : W.cell? ⟨w.heap.size + 1, 0, none⟩ = some (.bool false) := hs2.1.1.cell 0
      have t5 := hs2.1.1.free 0
      have hmn : min (st : Int) ((Ar.live cs : Nat) : Int) = ((Ar.live cs : Nat) : Int) := by omega
      gi_wp2_with fail
      have hc9 := World.cell?_setCell_same W ⟨w.heap.size + 1, 0, none⟩ (.bool true) t4
      have hKa := (KeepsOthers.setCell W ⟨w.heap.size + 1, 0, none⟩ (.bool true)).same D2 _ hK2 rfl
      have hKb := (KeepsOthers.setCell W ⟨w.heap.size + 1, 0, none⟩ (.bool true)).same Dd _ hs2.2.2.2 rfl
      have hb10 : Below w.heap.size w (W.setCell ⟨w.heap.size + 1, 0, none⟩ (.bool true)) := hs2.1.2.2.2.2.2.setCell (p := ⟨w.heap.size + 1, 0, none⟩) (by show w.heap.size ≤ w.heap.size + 1; omega) _
      obtain ⟨V, hV⟩ : ∃ V, W.setCell ⟨w.heap.size + 1, 0, none⟩ (.bool true) = V := ⟨_, rfl⟩
      rw [hV] at hc9 hKa hKb hb10 ⊢
      have hKc : (V.putObj D2 (.deferred none)).heap[Dd]? = some (.deferred (some [])) := (put_far _ (by omega)).trans hKb
      have hca := cell_kept hc9 (grownBy_putObj' V D2 (.deferred none)) (fun r e => by cases e; exact ⟨_, hKa, rfl⟩)
      have hcb := cell_kept hca (grownBy_putObj' _ Dd (.deferred none)) (fun r e => by cases e; exact ⟨_, hKc, rfl⟩)
      refine ⟨by simp, .inl ⟨_, _, rfl, run_takeDeferred hKa, by simp, .inl ⟨_, _, rfl, run_takeDeferred hKc, ?_⟩⟩⟩
      refine ⟨.bool true, ?_, rfl, ?_⟩
      · simp [results, Try.f6, go_sem, hcb]
      · exact (hb10.trans (belowK_b (w := w) (Nat.le_refl _) _ D2 _ _ (by omega) hKa rfl rfl)).trans (belowK_b (w := w) (Nat.le_refl _) _ Dd _ _ (by omega) hKc rfl rfl)
    case stop2 =>
      rintro D2 c pre W hD2 hsp ⟨rfl, hs2, hle2⟩ hK2
      have hlp := hsp.length_le
      rw [hnl, hle2] at hlp
      have t1 : W.cell? ⟨S, 0, none⟩ = some (.int .i64 (st : Nat)) := hs2.2.1.cell 0
      have t2 : W.cell? ⟨S + 1, 0, none⟩ = some (.int .i64 (st : Nat)) := hs2.2.2.1.cell 0
      have t3 : W.cell? ⟨B + 1, 0, none⟩ = some (.int .i64 (Ar.live cs : Nat)) := by rw [← hnl]; exact hs2.1.2.2.2.1.cell 0
      have t4 : W.cell? ⟨w.heap.size + 1, 0, none⟩ = some (.bool false) := hs2.1.1.cell 0
      have t5 := hs2.1.1.free 0
      have hmn : min (st : Int) ((Ar.live cs : Nat) : Int) = (st : Int) := by omega
      gi_wp2_with fail
      have hc9 := World.cell?_setCell_same W ⟨w.heap.size + 1, 0, none⟩ (.bool true) t4
      have hKa := (KeepsOthers.setCell W ⟨w.heap.size + 1, 0, none⟩ (.bool true)).same D2 _ hK2 rfl
      have hKb := (KeepsOthers.setCell W ⟨w.heap.size + 1, 0, none⟩ (.bool true)).same Dd _ hs2.2.2.2 rfl
      have hb10 : Below w.heap.size w (W.setCell ⟨w.heap.size + 1, 0, none⟩ (.bool true)) := hs2.1.2.2.2.2.2.setCell (p := ⟨w.heap.size + 1, 0, none⟩) (by show w.heap.size ≤ w.heap.size + 1; omega) _
      obtain ⟨V, hV⟩ : ∃ V, W.setCell ⟨w.heap.size + 1, 0, none⟩ (.bool true) = V := ⟨_, rfl⟩
      rw [hV] at hc9 hKa hKb hb10 ⊢
      have hKc : (V.putObj D2 (.deferred none)).heap[Dd]? = some (.deferred (some [])) := (put_far _ (by omega)).trans hKb
      have hca := cell_kept hc9 (grownBy_putObj' V D2 (.deferred none)) (fun r e => by cases e; exact ⟨_, hKa, rfl⟩)
      have hcb := cell_kept hca (grownBy_putObj' _ Dd (.deferred none)) (fun r e => by cases e; exact ⟨_, hKc, rfl⟩)
      refine ⟨by simp, .inl ⟨_, _, rfl, run_takeDeferred hKa, by simp, .inl ⟨_, _, rfl, run_takeDeferred hKc, ?_⟩⟩⟩
      refine ⟨.bool true, ?_, rfl, ?_⟩
      · simp [results, Try.f6, go_sem, hcb]
      · exact (hb10.trans (belowK_b (w := w) (Nat.le_refl _) _ D2 _ _ (by omega) hKa rfl rfl)).trans (belowK_b (w := w) (Nat.le_refl _) _ Dd _ _ (by omega) hKc rfl rfl)
  case stop =>
    rintro D c pre W hD hsp hix hK
    exact absurd hsp hix

set_option maxRecDepth 100000 in
set_option maxHeartbeats 1000000 in
theorem all_big (b s : Int) (A D : Option Addr) (cp dp : Nat) (n q : Nat) (w : World) (hbig : 100 < n ∨ (n ≤ 100 ∧ 100 < q)) :
    Calls Try.prog 6 #[saltV b s, .slice A n cp, .slice D q dp] w fun e w' => e = .returned (.bool true) ∧ Below w.heap.size w w' := by
  have hcase : (decide ((100 : Int) < (n : Int)) = true) ∨ (decide ((100 : Int) < (n : Int)) = false ∧ decide ((100 : Int) < (q : Int)) = true) := by
    rcases hbig with h | ⟨h1, h2⟩
    · exact .inl (decide_eq_true (by omega))
    · exact .inr ⟨decide_eq_false (by omega), decide_eq_true (by omega)⟩
  clear hbig
  rcases hcase with hq1 | ⟨hq1, hq2⟩
  all_goals
    go_enter Try.func6, Try.ntmps6
    go_wp2_with fail
    refine (aawake_any _).mono ?_
    rintro e w1 ⟨rfl, hb1⟩
    have hR1 : Whole w1 (w.heap.size + 1) #[.bool false] 4 := by
      have h := Whole.new (w.alloc (.cells #[.int .i64 b, .int .i64 s] 23)) #[.bool false] 4
      rw [World.size_alloc] at h
      exact h.below hb1 h.lt
    have hB1 : Below w.heap.size w w1 := (((Below.refl _ w).alloc (Nat.le_refl _) _).alloc (by simp) _).trans (hb1.mono (by simp; omega))
    clear hb1
    go_wp2_with fail
    refine (aawake_any _).mono ?_
    rintro e w2 ⟨rfl, hb2⟩
    have hR2 := hR1.below hb2 hR1.lt
    have c2 : w2.cell? ⟨w.heap.size + 1, 0, none⟩ = some (.bool false) := hR2.cell 0
    have f2 := hR2.free 0
    have hB : Below w.heap.size w w2 := hB1.trans (hb2.mono hB1.size)
    go_wp2_with fail
    have hc9 := World.cell?_setCell_same w2 ⟨w.heap.size + 1, 0, none⟩ (.bool true) c2
    refine bodyPost_ret (v := .bool true) ?_ rfl ⟨rfl, hB.setCell (p := ⟨w.heap.size + 1, 0, none⟩) (by show w.heap.size ≤ w.heap.size + 1; omega) _⟩
    simp [results, Try.f6, go_sem, hc9]

theorem all_any (b s : Int) (A D : Option Addr) (cp dp : Nat) (l ds : List Int) (w : World) (hb : I64 b) (hs : I64 s) (hl : Nums .i16 w A l) (hd : Nums .u8 w D ds) (hl2 : ∀ x ∈ l, -32768 ≤ x ∧ x ≤ 32767) (hd2 : ∀ x ∈ ds, 0 ≤ x ∧ x ≤ 255) :
    Calls Try.prog 6 #[saltV b s, .slice A l.length cp, .slice D ds.length dp] w fun e w' => e = .returned (.bool true) ∧ Below w.heap.size w w' := by
  by_cases h1 : l.length ≤ 100
  · by_cases h2 : ds.length ≤ 100
    · exact all_walk b s A D cp dp l ds w hb hs hl hd hl2 hd2 h1 h2
    · exact all_big b s A D cp dp l.length ds.length w (.inr ⟨h1, by omega⟩)
  · exact all_big b s A D cp dp l.length ds.length w (.inl (by omega))

end Go.Proofs.Ythocodmniofioaa
