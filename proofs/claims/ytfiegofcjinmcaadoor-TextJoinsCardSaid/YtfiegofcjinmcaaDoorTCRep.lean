/- The program's Repair returns what the plain text says. -/
import Derived.Test.YtfiegofcjinmcaaDoorTCVal
import Derived.Test.YtfiegofcjinmcaaDoorTBld
import Derived.Test.YtfiegofcjinmcaaDoorTRep
import Derived.Deep.RegionHeld3
import Derived.Deep.RegionWith
import Derived.Deep.DrawnRows
namespace Go.Proofs.YtfiegofcjinmcaaDoor
open Go.RowKit Go.Shelf
attribute [local go_sem] Oper.semAt_some

theorem acc_all (cs : List (List UInt8)) (hg : ∀ c ∈ cs, Txt.Good c) : acc 0 (enum cs) = Lib.byteCells cs.flatten := by
  have h := acc_take 0 cs hg cs.length (Nat.le_refl _)
  rw [← enum_length cs, List.take_length, enum_length] at h
  rw [h]
  unfold seg
  rw [List.take_length]
  rfl

set_option maxRecDepth 100000 in
set_option maxHeartbeats 1000000 in
theorem trepair_any (s : ByteArray) (w : World) (hs : s.size ≤ 10000) (hT : Lit w) :
    Calls Tryd.prog 9 #[.string s] w fun e w' => e = .returned (.string (tstr (Txt.rep s.data.toList))) ∧ Below w.heap.size w w' := by
  have hV := tvalid_any s w hs hT
  by_cases hv : Txt.rep s.data.toList = s.data.toList
  · rw [decide_eq_true hv] at hV
    have hres : tstr (Txt.rep s.data.toList) = s := by rw [hv, tstr_of]
    rw [hres]
    go_enter Tryd.func9, Tryd.ntmps9
    go_wp2_with fail
    refine hV.mono ?_
    rintro e w2 ⟨rfl, hb⟩
    go_wp2_with fail
    go_ret
    exact ⟨rfl, hb⟩
  · rw [decide_eq_false hv] at hV
    clear hv
    obtain ⟨cs, hcs⟩ : ∃ cs, Txt.chunks s.data.toList = cs := ⟨_, rfl⟩
    have hflat : Txt.rep s.data.toList = cs.flatten := by rw [← hcs]; rfl
    have hgood := Txt.chunks_all_good s.data.toList
    have hcl := Txt.chunks_len s.data.toList
    have hll : s.data.toList.length = s.size := rfl
    rw [hcs] at hgood hcl
    rw [hflat]
    have hall := acc_all cs hgood
    have HCS := Lib.hid hcs
    clear hgood hcs hflat
    refine (callsIn_wide (n := 5)).1 ?_
    refine callsIn_of_wp_marks Tryd.func9 rfl trivial ?_ rfl
    simp only [Tryd.ntmps9, List.size_toArray, List.length_cons, List.length_nil, Nat.reduceAdd, Nat.reduceSub, Array.replicate_succ, Array.replicate_zero, List.push_toArray, List.append_toArray, List.nil_append, List.cons_append]
    gi_wp2_with fail
    refine ⟨trivial, (callsIn_wide.2 hV).mono ?_⟩
    rintro e w2 ⟨rfl, hb2⟩
    obtain ⟨W1, hW1⟩ : ∃ W1, w2.alloc (.cells #[.pointer none, .slice none 0 0] 38) = W1 := ⟨_, rfl⟩
    gi_wp2_with fail
    refine ⟨trivial, (callsIn_wide.2 (tpoints_any s W1 (by omega))).mono ?_⟩
    rintro e w4 ⟨lb, rfl, hw4, hst⟩
    rw [HCS.out] at hst
    gi_wp2_with fail
    rw [← hw4]
    have hsz2 := hb2.size
    have hB0 : Below w.heap.size w W1 := by rw [← hW1]; exact hb2.alloc hsz2 _
    have hsz1 : W1.heap.size = w2.heap.size + 1 := by rw [← hW1]; simp
    have hbl1 : Lib.IsBuilderF 38 5 w2.heap.size w2.heap.size [] W1 := by
      have := Lib.IsBuilderF.of (Lib.fresh_isBuilder 38 5 w2)
      rw [hW1] at this
      exact this
    have hb4 : Below W1.heap.size W1 w4 := by rw [hw4]; exact (Below.refl _ _).alloc (Nat.le_refl _) _
    have hsz4 : w4.heap.size = w2.heap.size + 2 := by rw [hw4]; simp [hsz1]
    have hbl4 := builder_below hbl1 hb4
    have hB4 : Below w.heap.size w w4 := hB0.trans (hb4.mono (by omega))
    have hstm := hst w2.heap.size (by omega)
    clear hst hb4 hw4 hW1 hbl1 hB0 hV hb2
    refine wpIn_rangeFunc_ownF (w := w4) rfl (by decide) (gf := 31) (lb := lb) rfl trivial (enters_of Tryd.func31 (by kernel_rfl) rfl) hstm Keep.trans Keep.put (Below.refl _ _) (fun _ => rfl)
      (fun pre W => Lib.IsBuilderF 38 5 w2.heap.size w2.heap.size (acc 0 pre) W ∧ Below w.heap.size w W)
      (fun _ _ _ => False)
      ?hI ?hIx ?h0
      (fun x => { tmps := #[.string s, undef, .string ⟨#[]⟩, .pointer (some ⟨w2.heap.size, 0, none⟩), undef, .int .i32 (code x.2 : Nat), .string s, .bool false, undef, .string s, .func (.func 31) #[] lb, .int .i64 (x.1 : Nat), .int .i32 (code x.2 : Nat), undef, undef, undef], defers := [] }) ?assign ?body ?done ?stop
    case hI =>
      rintro pre W W' row ⟨h1, h5⟩ hg hr
      have hr' : ∀ r, row = some r → ∃ o : Obj, W.heap[r]? = some o ∧ o.isCells = false := fun r e => (hr r e).2
      exact ⟨builder_kept h1 hg hr', h5.grown hg (by have := h5.size; omega) (fun k hk => by have := (hr k hk).1; omega)⟩
    case hIx => exact fun _ _ _ _ _ hs _ _ => hs
    case h0 => exact ⟨hbl4, hB4⟩
    case assign =>
      intro l x W K hK
      gi_wp2
      exact hK
    case body =>
      rintro l pre x W ⟨h1, h5⟩ hlen
      have hcx := code_lt x.2
      have hal := acc_len 0 pre
      have hW2 : w2.heap.size < W.heap.size := builder_lt h1
      have hsn := acc_snoc 0 pre x
      rw [if_pos (by omega)] at hsn
      gi_wp2_with fail
      refine ⟨trivial, (CallsIn.inRound l (callsIn_wide.2 (Tryd.writeRune w2.heap.size w2.heap.size (acc 0 pre) (code x.2 : Nat) (by omega) (by omega) W h1 (by omega) (by omega)))).mono ?_⟩
      rintro e w5 ⟨rfl, hb5, hbel5, hk5⟩
      gi_wp2_with fail
      refine ⟨keepsOthers_of hk5 hbel5.size h1, Keep.of hk5 hbel5.size, ?_, h5.trans (hbel5.mono (by omega))⟩
      rw [hsn]; exact .inr hb5
    case done =>
      rintro D xs W hD rfl ⟨h1, h5⟩ hK
      rw [hall] at h1
      have hK1 : ∀ W', Lib.OthersKept 5 (some w2.heap.size) W W' → W'.heap[D]? = some (.deferred (some [])) := fun W' h => others_deferred h hK h1
      have hW2 : w2.heap.size < W.heap.size := builder_lt h1
      gi_wp2_with fail
      refine ⟨trivial, (callsIn_wide.2 (Tryd.builderString w2.heap.size w2.heap.size _ W h1 (by omega))).mono ?_⟩
      rintro e w5 ⟨rfl, hb5, hbel5, hk5⟩
      gi_wp2_with fail
      refine ⟨by simp, .inl ⟨_, _, rfl, run_takeDeferred (hK1 _ hk5), ?_⟩⟩
      refine ⟨_, results_tmp rfl _ _ _, rfl, ?_⟩
      exact (h5.trans (hbel5.mono (by omega))).trans (belowK_b (w := w) (Nat.le_refl _) _ D _ _ (by omega) (hK1 _ hk5) rfl rfl)
    case stop =>
      rintro D c pre W hD _ h _
      exact h.elim

end Go.Proofs.YtfiegofcjinmcaaDoor
