/- The program's Slice returns what the plain text says. -/
import Derived.Test.YtfiegofcjinmcaaDoorTBld
import Derived.Test.YtfiegofcjinmcaaDoorTRep
import Derived.Deep.RegionHeld3
import Derived.Deep.RegionWith
import Derived.Deep.DrawnRows
namespace Go.Proofs.YtfiegofcjinmcaaDoor
open Go.RowKit Go.Shelf
attribute [local go_sem] Oper.semAt_some

theorem below_at {B : Nat} {W W' : World} {a : Addr} {v : Value} (h : W.cell? a = some v) (hlt : a.block < B) (hb : Below B W W') : W'.cell? a = some v := (hb.cell hlt).trans h

/-- Where the loop is left: by its end or by the index t. -/
theorem seg_stop (cs : List (List UInt8)) (a t : Int) (k : Nat) (hk : k < cs.length) (ht : t ≤ (k : Int)) (hall : ∀ y ∈ (enum cs).take k, (y.1 : Int) < t) : seg cs a.toNat k = seg cs a.toNat t.toNat := by
  cases k with
  | zero => rw [show t.toNat = 0 from by omega]
  | succ j =>
    have := hall (j, cs.getD j []) (by rw [enum_take_succ cs j (by omega)]; simp)
    have h2 : (j : Int) < t := this
    rw [show t.toNat = j + 1 from by omega]
theorem seg_done (cs : List (List UInt8)) (a t : Int) (hall : ∀ y ∈ enum cs, (y.1 : Int) < t) : seg cs a.toNat cs.length = seg cs a.toNat t.toNat := by
  refine seg_all cs _ _ _ (Nat.le_refl _) ?_
  cases hn : cs.length with
  | zero => exact Nat.zero_le _
  | succ j =>
    have := hall (j, cs.getD j []) (by
      have h := enum_take_succ cs j (by omega)
      rw [← hn, ← enum_length cs, List.take_length] at h
      rw [h]; simp)
    have h2 : (j : Int) < t := this
    omega

set_option maxRecDepth 100000 in
set_option maxHeartbeats 1000000 in
theorem tslice_any (s : ByteArray) (a t : Int) (w : World) (hs : s.size ≤ 10000) (ha : -9223372036854775808 ≤ a ∧ a ≤ 9223372036854775807) (ht : -9223372036854775808 ≤ t ∧ t ≤ 9223372036854775807) :
    Calls Tryd.prog 12 #[.string s, .int .i64 a, .int .i64 t] w fun e w' => e = .returned (.string (tstr (seg (Txt.chunks s.data.toList) a.toNat t.toNat).flatten)) ∧ Below w.heap.size w w' := by
  obtain ⟨cs, hcs⟩ : ∃ cs, Txt.chunks s.data.toList = cs := ⟨_, rfl⟩
  have hgood := Txt.chunks_all_good s.data.toList
  have hcl := Txt.chunks_len s.data.toList
  have hll : s.data.toList.length = s.size := rfl
  rw [hcs] at hgood hcl ⊢
  have HG := Lib.hid hgood
  have HCS := Lib.hid hcs
  clear hgood hcs
  obtain ⟨W1, hW1⟩ : ∃ W1, ((w.alloc (.cells #[.int .i64 a] 3)).alloc (.cells #[.int .i64 t] 3)).alloc (.cells #[.pointer none, .slice none 0 0] 38) = W1 := ⟨_, rfl⟩
  refine (callsIn_wide (n := 5)).1 ?_
  refine callsIn_of_wp_marks Tryd.func12 rfl trivial ?_ rfl
  simp only [Tryd.ntmps12, List.size_toArray, List.length_cons, List.length_nil, Nat.reduceAdd, Nat.reduceSub, Array.replicate_succ, Array.replicate_zero, List.push_toArray, List.append_toArray, List.nil_append, List.cons_append]
  gi_wp2_with fail
  refine ⟨trivial, (callsIn_wide.2 (tpoints_any s W1 (by omega))).mono ?_⟩
  rintro e w4 ⟨lb, rfl, hw4, hst⟩
  rw [HCS.out] at hst
  gi_wp2_with fail
  rw [← hw4]
  have hL := World.alloc_heap_new
  have hB0 : Below w.heap.size w W1 := by
    rw [← hW1]; exact (((Below.refl _ w).alloc (Nat.le_refl _) _).alloc (by simp) _).alloc (by simp; omega) _
  have hsz1 : W1.heap.size = w.heap.size + 3 := by rw [← hW1]; simp
  have hbl1 : Lib.IsBuilderF 38 5 (w.heap.size + 1 + 1) (w.heap.size + 1 + 1) [] W1 := by
    have := Lib.IsBuilderF.of (Lib.fresh_isBuilder 38 5 ((w.alloc (.cells #[.int .i64 a] 3)).alloc (.cells #[.int .i64 t] 3)))
    rw [hW1] at this
    simpa using this
  have ha1 : W1.cell? ⟨w.heap.size, 0, none⟩ = some (.int .i64 a) := by
    rw [← hW1]
    exact (((Whole.new w #[.int .i64 a] 3).alloc _).alloc _).cell 0
  have ht1 : W1.cell? ⟨w.heap.size + 1, 0, none⟩ = some (.int .i64 t) := by
    rw [← hW1]
    have := Whole.new (w.alloc (.cells #[.int .i64 a] 3)) #[.int .i64 t] 3
    rw [World.size_alloc] at this
    exact (this.alloc _).cell 0
  have hb4 : Below W1.heap.size W1 w4 := by rw [hw4]; exact (Below.refl _ _).alloc (Nat.le_refl _) _
  have hsz4 : w4.heap.size = w.heap.size + 4 := by rw [hw4]; simp [hsz1]
  have hbl4 := builder_below hbl1 hb4
  have ha4 := below_at ha1 (by rw [hsz1]; show w.heap.size < _; omega) hb4
  have ht4 := below_at ht1 (by rw [hsz1]; show w.heap.size + 1 < _; omega) hb4
  have hB4 : Below w.heap.size w w4 := hB0.trans (hb4.mono (by omega))
  have hstm := hst (w.heap.size + 1 + 1) (by omega)
  have hacc := acc_take a cs HG.out
  clear hst hb4 hw4 hW1 hbl1 ha1 ht1 hB0 hL
  refine wpIn_rangeFunc_ownF (w := w4) rfl (by decide) (gf := 31) (lb := lb) rfl trivial (enters_of Tryd.func31 (by kernel_rfl) rfl) hstm Keep.trans Keep.put (Below.refl _ _) (fun _ => rfl)
    (fun pre W => Lib.IsBuilderF 38 5 (w.heap.size + 1 + 1) (w.heap.size + 1 + 1) (acc a pre) W ∧ W.cell? ⟨w.heap.size, 0, none⟩ = some (.int .i64 a) ∧ W.cell? ⟨w.heap.size + 1, 0, none⟩ = some (.int .i64 t) ∧ (∀ y ∈ pre, (y.1 : Int) < t) ∧ Below w.heap.size w W)
    (fun c pre' W => c = .exit 0 ∧ ∃ pre x, pre' = pre ++ [x] ∧ t ≤ (x.1 : Int) ∧ Lib.IsBuilderF 38 5 (w.heap.size + 1 + 1) (w.heap.size + 1 + 1) (acc a pre) W ∧ (∀ y ∈ pre, (y.1 : Int) < t) ∧ Below w.heap.size w W)
    ?hI ?hIx ?h0
    (fun x => { tmps := #[.string s, .int .i64 a, .int .i64 t, undef, .pointer (some ⟨w.heap.size, 0, none⟩), .pointer (some ⟨w.heap.size + 1, 0, none⟩), .string ⟨#[]⟩, .pointer (some ⟨w.heap.size + 1 + 1, 0, none⟩), .int .i64 (x.1 : Nat), .int .i32 (code x.2 : Nat), .string s, .func (.func 31) #[] lb, .int .i64 (x.1 : Nat), .int .i32 (code x.2 : Nat), undef, undef, undef, undef, undef, undef, undef, undef, undef], defers := [] }) ?assign ?body ?done ?stop
  case hI =>
    rintro pre W W' row ⟨h1, h2, h3, h4, h5⟩ hg hr
    have hr' : ∀ r, row = some r → ∃ o : Obj, W.heap[r]? = some o ∧ o.isCells = false := fun r e => (hr r e).2
    exact ⟨builder_kept h1 hg hr', cell_kept h2 hg hr', cell_kept h3 hg hr', h4, h5.grown hg (by have := h5.size; omega) (fun k hk => by have := (hr k hk).1; omega)⟩
  case hIx =>
    rintro c pre' W W' row ⟨h1, pre, x, h2, h3, h4, h5, h6⟩ hg hr
    have hr' : ∀ r, row = some r → ∃ o : Obj, W.heap[r]? = some o ∧ o.isCells = false := fun r e => (hr r e).2
    exact ⟨h1, pre, x, h2, h3, builder_kept h4 hg hr', h5, h6.grown hg (by have := h6.size; omega) (fun k hk => by have := (hr k hk).1; omega)⟩
  case h0 => exact ⟨hbl4, ha4, ht4, fun y hy => by simp at hy, hB4⟩
  case assign =>
    intro l x W K hK
    gi_wp2
    exact hK
  case body =>
    rintro l pre x W ⟨h1, h2, h3, h4, h5⟩ hlen
    have hcx := code_lt x.2
    have hal := acc_len a pre
    have hW2 : w.heap.size + 1 + 1 < W.heap.size := builder_lt h1
    by_cases hxt : t ≤ (x.1 : Int)
    · gi_wp2_with fail
      exact ⟨⟨Nat.le_refl _, fun _ _ h _ => h⟩, rfl, pre, x, rfl, hxt, h1, h4, h5⟩
    · have h4' : ∀ y ∈ pre ++ [x], (y.1 : Int) < t := by
        intro y hy
        rcases List.mem_append.1 hy with hy | hy
        · exact h4 y hy
        · rw [List.mem_singleton.1 hy]; omega
      by_cases hxa : a ≤ (x.1 : Int)
      · have hsn := acc_snoc a pre x
        rw [if_pos hxa] at hsn
        gi_wp2_with fail
        refine ⟨trivial, (CallsIn.inRound l (callsIn_wide.2 (Tryd.writeRune (w.heap.size + 1 + 1) (w.heap.size + 1 + 1) (acc a pre) (code x.2 : Nat) (by omega) (by omega) W h1 (by omega) (by omega)))).mono ?_⟩
        rintro e w5 ⟨rfl, hb5, hbel5, hk5⟩
        gi_wp2_with fail
        refine ⟨keepsOthers_of hk5 hbel5.size h1, Keep.of hk5 hbel5.size, ?_, below_at h2 (show w.heap.size < w.heap.size + 1 + 1 by omega) hbel5, below_at h3 (show w.heap.size + 1 < w.heap.size + 1 + 1 by omega) hbel5, (by first | exact h4' | exact fun a b h => h4' (a, b) h), h5.trans (hbel5.mono (by omega))⟩
        rw [hsn]; exact .inr hb5
      · have hsn := acc_snoc a pre x
        rw [if_neg hxa, List.append_nil] at hsn
        gi_wp2_with fail
        exact ⟨⟨Nat.le_refl _, fun _ _ h _ => h⟩, ⟨Nat.le_refl _, fun _ _ h _ _ => h⟩, by rw [hsn]; exact h1, h2, h3, (by first | exact h4' | exact fun a b h => h4' (a, b) h), h5⟩
  case done =>
    rintro D xs W hD rfl ⟨h1, h2, h3, h4, h5⟩ hK
    have hfin := hacc cs.length (Nat.le_refl _)
    rw [← enum_length cs, List.take_length, enum_length, seg_done cs a t h4] at hfin
    rw [hfin] at h1
    have hK1 : ∀ W', Lib.OthersKept 5 (some (w.heap.size + 1 + 1)) W W' → W'.heap[D]? = some (.deferred (some [])) := fun W' h => others_deferred h hK h1
    have hW2 : w.heap.size + 1 + 1 < W.heap.size := builder_lt h1
    gi_wp2_with fail
    refine ⟨trivial, (callsIn_wide.2 (Tryd.builderString (w.heap.size + 1 + 1) (w.heap.size + 1 + 1) _ W h1 (by omega))).mono ?_⟩
    rintro e w5 ⟨rfl, hb5, hbel5, hk5⟩
    gi_wp2_with fail
    refine ⟨by simp, .inl ⟨_, _, rfl, run_takeDeferred (hK1 _ hk5), ?_⟩⟩
    refine ⟨_, results_tmp rfl _ _ _, rfl, ?_⟩
    exact (h5.trans (hbel5.mono (by omega))).trans (belowK_b (w := w) (Nat.le_refl _) _ D _ _ (by omega) (hK1 _ hk5) rfl rfl)
  case stop =>
    rintro D c pre' W hD hsp ⟨rfl, pre, x, rfl, h3, h4, h5, h6⟩ hK
    have hk : pre.length < cs.length := by
      obtain ⟨r, hr⟩ := hsp
      have := congrArg List.length hr
      rw [enum_length] at this
      simp only [List.length_append, List.length_cons, List.length_nil] at this
      omega
    have hx := enum_next hsp
    have hpre : pre = (enum cs).take pre.length := by
      have h := hsp.trans (List.prefix_refl _)
      exact List.prefix_iff_eq_take.1 ((List.prefix_append _ _).trans h)
    have hx1 : x.1 = pre.length := by rw [hx]
    have hfin := hacc pre.length (by omega)
    rw [← hpre, seg_stop cs a t pre.length hk (by omega) (by rw [← hpre]; exact h5)] at hfin
    rw [hfin] at h4
    have hK1 : ∀ W', Lib.OthersKept 5 (some (w.heap.size + 1 + 1)) W W' → W'.heap[D]? = some (.deferred (some [])) := fun W' h => others_deferred h hK h4
    have hW2 : w.heap.size + 1 + 1 < W.heap.size := builder_lt h4
    gi_wp2_with fail
    refine ⟨trivial, (callsIn_wide.2 (Tryd.builderString (w.heap.size + 1 + 1) (w.heap.size + 1 + 1) _ W h4 (by omega))).mono ?_⟩
    rintro e w5 ⟨rfl, hb5, hbel5, hk5⟩
    gi_wp2_with fail
    refine ⟨by simp, .inl ⟨_, _, rfl, run_takeDeferred (hK1 _ hk5), ?_⟩⟩
    refine ⟨_, results_tmp rfl _ _ _, rfl, ?_⟩
    exact (h6.trans (hbel5.mono (by omega))).trans (belowK_b (w := w) (Nat.le_refl _) _ D _ _ (by omega) (hK1 _ hk5) rfl rfl)

end Go.Proofs.YtfiegofcjinmcaaDoor
