/- The reference's colors. -/
import Derived.Test.YtoiednecchbmnaaDoorK18
import Derived.Test.YtoiednecchbmnaaDoorK15
import Derived.Test.YtoiednecchbmnaaDoorK06
namespace Go.Proofs.YtoiednecchbmnaaDoor
open Go Go.RowKit
set_option linter.unusedVariables false
def CF : List (List UInt8) := St.colors.flatMap fun x => [x.1, x.2]
def colText : List UInt8 := St.glue CF
theorem cf_fields : Txt.fields [] colText = CF ∧ CF.length = 24 ∧ colText.length ≤ 10000 := by
  have : decide (Txt.fields [] colText = CF ∧ CF.length = 24 ∧ colText.length ≤ 10000) = true := by decide +kernel
  exact of_decide_eq_true this
theorem cf_at : ∀ j, j < 12 → ∃ k d, St.colors.drop j = (k, d) :: St.colors.drop (j + 1) ∧ CF[2 * j]? = some k ∧ CF[2 * j + 1]? = some d ∧ d.length = 6 := by
  have h : ∀ j : Fin 12, ((St.colors.drop j.val).head?.map fun x => (CF[2 * j.val]?, CF[2 * j.val + 1]?, x.2.length)) = (St.colors.drop j.val).head?.map fun x => (some x.1, some x.2, 6) := by decide +kernel
  intro j hj
  have := h ⟨j, hj⟩
  simp only at this
  cases e : St.colors.drop j with
  | nil =>
    exfalso
    have hl : (St.colors.drop j).length = 12 - j := by rw [List.length_drop]; rfl
    rw [e] at hl
    simp at hl
    omega
  | cons x t =>
    rw [e] at this
    simp only [List.head?_cons, Option.map_some, Option.some.injEq, Prod.mk.injEq] at this
    refine ⟨x.1, x.2, ?_, this.1, this.2.1, this.2.2⟩
    rw [← List.tail_drop, e]
    rfl
theorem calls_cast1 {P : Program} {f : Nat} {s s' : ByteArray} {w : World} {Q : Ending → World → Prop} (h : s = s') (hc : Calls P f #[.string s'] w Q) : Calls P f #[.string s] w Q := by rw [h]; exact hc
theorem rc_some {s d : List UInt8} (h : St.find St.colors s = some d) : St.rcolor s = (⟨6, 0, 35 :: d⟩, true) := by
  have hd := St.color_six h
  have hs : St.skip [35] s = false := by
    have : (St.colors.all fun x => !St.skip [35] x.1) = true := by decide +kernel
    have hm : ∀ t : List (St.Bs × St.Bs), St.find t s = some d → ∃ x ∈ t, x.1 = s := by
      intro t
      induction t with
      | nil => intro h; cases h
      | cons y t ih =>
        obtain ⟨k, u⟩ := y
        intro h
        unfold St.find at h
        by_cases e : k = s
        · exact ⟨(k, u), by simp, e⟩
        · rw [if_neg e] at h
          obtain ⟨x, hx, e⟩ := ih h
          exact ⟨x, by simp [hx], e⟩
    obtain ⟨x, hx, e⟩ := hm _ h
    have := List.all_eq_true.1 this x hx
    rw [e] at this
    simpa using this
  have hc : St.color s = (⟨6, 0, 35 :: d⟩, true) := by
    unfold St.color St.colD
    rw [if_neg (by unfold St.skip at hs; rw [hs]; decide), h]
    have ht : St.twice d = d := by unfold St.twice; rw [if_neg (by rw [hd]; decide)]
    simp only [Option.getD_some, Option.isSome_some, ht, hd]
    rfl
  unfold St.rcolor
  rw [hc]
  rfl
theorem rc_none {s : List UInt8} (h : St.find St.colors s = none) (hs : St.skip [35] s = false) : St.rcolor s = (St.vnil, false) := by
  have hc : (St.color s).2 = false := by
    unfold St.color St.colD
    rw [if_neg (by unfold St.skip at hs; rw [hs]; decide), h]
    rfl
  unfold St.rcolor
  rw [hc]
  rfl
theorem dup_len (l : List UInt8) : (l.flatMap fun c => [c, c]).length = 2 * l.length := by
  induction l with
  | nil => rfl
  | cons c t ih => simp only [List.flatMap_cons, List.length_append, ih, List.length_cons, List.length_nil]; omega
theorem tw_self {p : UInt8 → Bool} : ∀ l : List UInt8, (∀ c ∈ l, p c = true) → l.takeWhile p = l
  | [], _ => rfl
  | c :: t, h => by rw [List.takeWhile_cons_of_pos (h c (by simp)), tw_self t (fun x hx => h x (by simp [hx]))]
theorem rc_hash (t : List UInt8) : St.rcolor (35 :: t) = if (t.all St.hx = true ∧ (t.length = 3 ∨ t.length = 6)) then (⟨6, 0, 35 :: St.twice t⟩, true) else (St.vnil, false) := by
  have hc : St.color (35 :: t) = (⟨6, 0, 35 :: St.twice (t.takeWhile St.hx)⟩, (t.dropWhile St.hx).isEmpty && decide ((St.twice (t.takeWhile St.hx)).length = 6)) := by
    unfold St.color St.colD
    rw [if_pos (by rfl)]
    rfl
  unfold St.rcolor
  rw [hc]
  by_cases ha : t.all St.hx = true
  · have h1 : t.takeWhile St.hx = t := tw_self t (List.all_eq_true.1 ha)
    have h2 : t.dropWhile St.hx = [] := by
      have := List.takeWhile_append_dropWhile (p := St.hx) (l := t)
      rw [h1] at this
      exact List.append_cancel_left (this.trans (List.append_nil t).symm)
    rw [h1, h2]
    unfold St.twice
    by_cases h3 : t.length = 3
    · have h6 : (t.flatMap fun c => [c, c]).length = 6 := by
        match t, h3 with
        | [a, b, c], _ => rfl
      simp [ha, h3, h6]
    · by_cases h6 : t.length = 6
      · simp [ha, h6]
      · simp [ha, h3, h6]
  · have h2 : (t.dropWhile St.hx).isEmpty = false := by
      cases e : t.dropWhile St.hx with
      | nil =>
        exfalso
        apply ha
        have := List.takeWhile_append_dropWhile (p := St.hx) (l := t)
        rw [e, List.append_nil] at this
        rw [← this]
        exact List.all_takeWhile
      | cons a b => rfl
    simp [ha, h2]
set_option maxHeartbeats 16000000 in
set_option maxRecDepth 100000 in
theorem rcolor_any (s : List UInt8) (w : World) (hl : s.length ≤ 10000) :
    Calls Tryd.prog 21 #[.string (tstr s)] w fun e w' => e = .returned (rvaV (St.rcolor s)) ∧ Below w.heap.size w w' := by
  have hr0 : Whole (w.alloc (.cells #[.int .i64 0, .int .i64 0, .string ⟨#[]⟩, .bool false] 31)) w.heap.size #[.int .i64 0, .int .i64 0, .string ⟨#[]⟩, .bool false] 31 := Whole.new _ _ _
  have hB0 : Below w.heap.size w (w.alloc (.cells #[.int .i64 0, .int .i64 0, .string ⟨#[]⟩, .bool false] 31)) := (Below.refl _ _).alloc (Nat.le_refl _) _
  obtain ⟨W1, hW1⟩ : ∃ W1, w.alloc (.cells #[.int .i64 0, .int .i64 0, .string ⟨#[]⟩, .bool false] 31) = W1 := ⟨_, rfl⟩
  rw [hW1] at hr0 hB0
  have HR := Lib.hid hr0
  have HB := Lib.hid hB0
  have hfl := rfields_any (tstr colText) W1 (by rw [tsize]; exact cf_fields.2.2)
  rw [tdata, cf_fields.1, cf_fields.2.1] at hfl
  clear hr0 hB0
  go_enter Tryd.func21, Tryd.ntmps21
  go_wp2_with fail
  try rw [hW1]
  refine (calls_cast1 (by kernel_rfl) hfl).mono ?_
  clear hfl
  rintro e w2 ⟨v, rfl, hrow, hb⟩
  obtain ⟨A, c, rfl⟩ := srow_form hrow
  have HR2 := Lib.hid (HR.out.below hb HR.out.lt)
  have HB2 := Lib.hid (HB.out.trans (hb.mono HB.out.size))
  have HROW := Lib.hid hrow
  clear hrow hb hW1
  go_wp2_with fail
  go_loopg [4] 12 (fun gg u4 wr => ∃ j : Nat, u4 = .int .i64 ((2 * j : Nat) : Int) ∧ j ≤ 12 ∧ 12 - j ≤ gg ∧ St.find (St.colors.drop j) s = St.find St.colors s ∧ wr = w2)
  case atStart => exact ⟨0, rfl, by omega, by omega, rfl, rfl⟩
  case round =>
    obtain ⟨j, rfl, hj, hgg, hf, rfl⟩ := hrel
    by_cases hlt : j < 12
    · obtain ⟨k, d, hdrop, hk, hd, hd6⟩ := cf_at j hlt
      have hl1 : 2 * j < CF.length := by rw [cf_fields.2.1]; omega
      have hl2 : 2 * j + 1 < CF.length := by rw [cf_fields.2.1]; omega
      obtain ⟨g, hA, hcell, hcap⟩ := srow_at HROW.out hl1 cf_fields.2.1.symm
      obtain ⟨g', hA', hcell', _⟩ := srow_at HROW.out hl2 cf_fields.2.1.symm
      have hgg' : g = g' := by rw [hA] at hA'; injection hA' with h; injection h
      subst hgg'
      subst hA
      rw [List.getElem?_eq_getElem hl1] at hk
      rw [List.getElem?_eq_getElem hl2] at hd
      rw [Option.some.inj hk] at hcell
      rw [Option.some.inj hd] at hcell'
      obtain ⟨i, hi⟩ : ∃ i, 2 * j = i := ⟨_, rfl⟩
      have HI := Lib.hid hi
      rw [hi] at hcell hcell' ⊢
      have hi24 : (i : Int) < 24 := by omega
      have hi24n : i < 24 := by omega
      have hi23 : (i : Int) + 1 < 24 := by omega
      have hi23n : i + 1 < 24 := by omega
      have hcc : (24 : Nat) ≤ c := hcap
      rw [hdrop] at hf
      clear hl1 hl2 hA' hk hd hdrop hi
      by_cases hks : k = s
      · have hfs : St.find St.colors s = some d := by rw [← hf]; unfold St.find; rw [if_pos hks]
        have HE := Lib.hid (rc_some hfs)
        have hsb : ((tstr k).toList == (tstr s).toList) = true := by rw [hks]; exact beq_self_eq_true _
        have hds : (tstr d).size = 6 := by rw [tsize]; exact hd6
        clear hks hfs hf hd6
        obtain ⟨f0, f1, f2, f3⟩ := free4 HR2.out
        obtain ⟨d0, d1, d2, d3⟩ := cells4 HR2.out
        go_wp2_with fail
        obtain ⟨X9, hX9, r9, g9⟩ := box4 HR2.out (.int .i64 6) (.int .i64 0) (.string (⟨#[35]⟩ ++ tstr d)) (.bool true)
        try rw [hX9]
        obtain ⟨c0, c1, c2, c3⟩ := cells4 r9
        clear f0 f1 f2 f3 d0 d1 d2 d3 hX9
        refine bodyPost_ret (v := .agg #[.int .i64 6, .int .i64 0, .string (⟨#[35]⟩ ++ tstr d), .bool true]) ?_ rfl ⟨by rw [HE.out, show (⟨#[35]⟩ : ByteArray) = tstr [35] from rfl, tapp]; rfl, HB2.out.grown g9 HB2.out.size (fun k hk => by injection hk; omega)⟩
        simp [results, Tryd.f21, go_sem, c0, c1, c2, c3]
      · have hsb : ((tstr k).toList == (tstr s).toList) = false := by rw [ttl, ttl]; exact beq_eq_false_iff_ne.2 hks
        have HF := Lib.hid (show St.find (St.colors.drop (j + 1)) s = St.find St.colors s by rw [← hf]; conv => rhs; unfold St.find; rw [if_neg hks])
        clear hks hf hd6
        go_wp2_with fail
        go_roundg (12 - (j + 1))
        case rel => exact ⟨j + 1, by rw [show 2 * (j + 1) = i + 2 by have := HI.out; omega]; go_num, by omega, by omega, HF.out, rfl⟩
        case measure => omega
    · obtain rfl : j = 12 := by omega
      have hfn : St.find St.colors s = none := by rw [← hf]; rfl
      clear hf
      rcases hss : s with _ | ⟨c1, t⟩
      · have HE := Lib.hid (rc_none hfn (by rw [hss]; rfl))
        have hz : (tstr s).toList.isEmpty = true := by rw [ttl, hss]; rfl
        rw [← hss]
        clear hss hfn
        obtain ⟨f0, f1, f2, f3⟩ := free4 HR2.out
        obtain ⟨d0, d1, d2, d3⟩ := cells4 HR2.out
        go_wp2_with fail
        obtain ⟨X9, hX9, r9, g9⟩ := box4 HR2.out (.int .i64 0) (.int .i64 0) (.string ⟨#[]⟩) (.bool false)
        try rw [hX9]
        obtain ⟨c0, c1, c2, c3⟩ := cells4 r9
        clear f0 f1 f2 f3 d0 d1 d2 d3 hX9
        refine bodyPost_ret (v := .agg #[.int .i64 0, .int .i64 0, .string ⟨#[]⟩, .bool false]) ?_ rfl ⟨by rw [HE.out]; rfl, HB2.out.grown g9 HB2.out.size (fun k hk => by injection hk; omega)⟩
        simp [results, Tryd.f21, go_sem, c0, c1, c2, c3]
      · subst hss
        have hz : (tstr (c1 :: t)).toList.isEmpty = false := by rw [ttl]; rfl
        have hp1 : (0 : Int) < ((tstr (c1 :: t)).size : Int) := by rw [tsize, List.length_cons]; omega
        have hp2 : 0 < (tstr (c1 :: t)).size := by rw [tsize, List.length_cons]; omega
        have hg0 : (tstr (c1 :: t))[0] = c1 := rfl
        by_cases h35 : c1.toNat = 35
        · obtain rfl : c1 = 35 := UInt8.toNat_inj.1 h35
          clear h35
          have HH := Lib.hid (rc_hash t)
          have hsz : (tstr (35 :: t)).size = t.length + 1 := by rw [tsize]; rfl
          by_cases h36 : t.length = 3 ∨ t.length = 6
          · rcases h36 with hn | hn
            · have hlen : (tstr (35 :: t)).size = 4 := by rw [hsz, hn]
              clear hsz
              obtain ⟨f0, f1, f2, f3⟩ := free4 HR2.out
              obtain ⟨d0, d1, d2, d3⟩ := cells4 HR2.out
              go_wp2_with fail
              go_loopg [5, 6] 3 (fun gg u5 u6 wx => ∃ i : Nat, u6 = .int .i64 ((1 + i : Nat) : Int) ∧ u5 = .string (tstr (35 :: ((t.take i).flatMap fun c => [c, c]))) ∧ i ≤ 3 ∧ 3 - i ≤ gg ∧ (t.take i).all St.hx = true ∧ wx = wr)
              case atStart => exact ⟨0, rfl, rfl, by omega, by omega, rfl, rfl⟩
              case round =>
                obtain ⟨i, rfl, rfl, hi, hgg2, hall, rfl⟩ := hrel
                by_cases hlt : i < 3
                · have hil : i < t.length := by omega
                  have hgt : (tstr (35 :: t))[1 + i]'(by omega) = t[i] := by
                    show (35 :: t)[1 + i]'(by simp; omega) = t[i]
                    simp [Nat.add_comm 1 i]
                  have hpart : (tstr (35 :: t)).extract (1 + i) (1 + i + 1) = tstr [t[i]] := by
                    rw [textr]
                    congr 1
                    rw [Nat.add_comm 1 i, List.take_succ_cons, List.drop_succ_cons, List.take_succ_eq_append_getElem hil, List.drop_append_of_le_length (by rw [List.length_take]; omega), List.drop_of_length_le (by rw [List.length_take]; omega)]
                    rfl
                  have HTK := Lib.hid (show t.take (i + 1) = t.take i ++ [t[i]] from List.take_succ_eq_append_getElem hil)
                  obtain ⟨ch, hch⟩ : ∃ ch, t[i] = ch := ⟨_, rfl⟩
                  rw [hch] at hgt hpart HTK
                  have HCH := Lib.hid (show t.all St.hx = true → St.hx ch = true from fun h => by rw [← hch]; exact List.all_eq_true.1 h _ (List.getElem_mem hil))
                  obtain ⟨q, hq⟩ : ∃ q, 1 + i = q := ⟨_, rfl⟩
                  have HQ := Lib.hid hq
                  have hq1 : q < (tstr (35 :: t)).size := by omega
                  have hq2 : (q : Int) < 4 := by omega
                  have hq3 : (q : Int) + 1 ≤ 4 := by omega
                  have hgq : (tstr (35 :: t))[q] = ch := by subst hq; exact hgt
                  have hpq : (tstr (35 :: t)).extract q (q + 1) = tstr [ch] := by rw [← hq]; exact hpart
                  have hsl : ∀ W, (Instr.slice 9 (.string (tstr (35 :: t))) (some (.int .i64 (q : Int))) (some (.int .i64 ((q : Int) + 1))) none).run Tryd.prog W = .ok (.string (tstr [ch])) W := fun W => by
                    rw [run_slice_string W _ (tstr (35 :: t)) _ _ _ _ Tryd.underlying9 (by omega) (by omega) (by omega), show ((q : Int)).toNat = q by omega, show ((q : Int) + 1).toNat = q + 1 by omega, hpq]
                  rw [hq]
                  have hos : (tstr (35 :: ((t.take i).flatMap fun c => [c, c]))).size ≤ 100 := by rw [tsize, List.length_cons]; have := dup_len (t.take i); have := List.length_take_le i t; omega
                  clear hgt hpart hch hq
                  have hc256 := ch.toNat_lt
                  have hcs : (tstr [ch]).size ≤ 1 := Nat.le_refl _
                  have hcs2 : ((tstr [ch]).size : Int) ≤ 1 := by omega
                  have hos2 : ((tstr (35 :: ((t.take i).flatMap fun c => [c, c]))).size : Int) ≤ 100 := by omega
                  by_cases hdg : 48 ≤ ch.toNat ∧ ch.toNat ≤ 57
                  · have hhx : St.hx ch = true := by unfold St.hx St.dg; simp; omega
                    have b1 : (48 : Int) ≤ (ch.toNat : Int) := by omega
                    have b2 : (ch.toNat : Int) ≤ 57 := by omega
                    clear hdg
                    have HALL := Lib.hid (show (t.take (i + 1)).all St.hx = true by rw [HTK.out, List.all_append, hall]; simp only [List.all_cons, List.all_nil, Bool.and_true, Bool.true_and]; exact hhx)
                    clear hall hhx
                    go_wp2_with fail
                    go_roundg (3 - (i + 1))
                    case rel => exact ⟨i + 1, by rw [show 1 + (i + 1) = q + 1 by have := HQ.out; omega]; go_num, by rw [HTK.out]; simp only [tapp, List.flatMap_append, List.cons_append, List.append_assoc]; rfl, by omega, by omega, HALL.out, rfl⟩
                    case measure => omega
                  by_cases hlt2 : 97 ≤ ch.toNat ∧ ch.toNat ≤ 102
                  · have hhx : St.hx ch = true := by unfold St.hx St.dg; simp; omega
                    have b1 : (48 : Int) ≤ (ch.toNat : Int) := by omega
                    have b2 : ¬ (ch.toNat : Int) ≤ 57 := by omega
                    have b2b : decide ((ch.toNat : Int) ≤ 57) = false := decide_eq_false b2
                    have b3 : (97 : Int) ≤ (ch.toNat : Int) := by omega
                    have b4 : (ch.toNat : Int) ≤ 102 := by omega
                    clear hdg hlt2
                    have HALL := Lib.hid (show (t.take (i + 1)).all St.hx = true by rw [HTK.out, List.all_append, hall]; simp only [List.all_cons, List.all_nil, Bool.and_true, Bool.true_and]; exact hhx)
                    clear hall hhx
                    go_wp2_with fail
                    go_roundg (3 - (i + 1))
                    case rel => exact ⟨i + 1, by rw [show 1 + (i + 1) = q + 1 by have := HQ.out; omega]; go_num, by rw [HTK.out]; simp only [tapp, List.flatMap_append, List.cons_append, List.append_assoc]; rfl, by omega, by omega, HALL.out, rfl⟩
                    case measure => omega
                  have hhx : St.hx ch = false := by unfold St.hx St.dg; simp; omega
                  rcases (show ch.toNat < 48 ∨ (57 < ch.toNat ∧ ch.toNat < 97) ∨ 102 < ch.toNat by omega) with hc | hc | hc
                  · have b1 : ¬ (48 : Int) ≤ (ch.toNat : Int) := by omega
                    have b1b : decide ((48 : Int) ≤ (ch.toNat : Int)) = false := decide_eq_false b1
                    have b3 : ¬ (97 : Int) ≤ (ch.toNat : Int) := by omega
                    have b3b : decide ((97 : Int) ≤ (ch.toNat : Int)) = false := decide_eq_false b3
                    have HE := Lib.hid (HH.out.trans (if_neg (fun h => by have := HCH.out h.1; rw [hhx] at this; cases this)))
                    clear hall hhx
                    go_wp2_with fail
                    obtain ⟨X9, hX9, r9, g9⟩ := box4 HR2.out (.int .i64 0) (.int .i64 0) (.string ⟨#[]⟩) (.bool false)
                    try rw [hX9]
                    obtain ⟨c0, c1, c2, c3⟩ := cells4 r9
                    clear f0 f1 f2 f3 d0 d1 d2 d3 hX9
                    refine bodyPost_ret (v := .agg #[.int .i64 0, .int .i64 0, .string ⟨#[]⟩, .bool false]) ?_ rfl ⟨by rw [HE.out]; rfl, HB2.out.grown g9 HB2.out.size (fun k hk => by injection hk; omega)⟩
                    simp [results, Tryd.f21, go_sem, c0, c1, c2, c3]
                  · have b1 : (48 : Int) ≤ (ch.toNat : Int) := by omega
                    have b2 : ¬ (ch.toNat : Int) ≤ 57 := by omega
                    have b2b : decide ((ch.toNat : Int) ≤ 57) = false := decide_eq_false b2
                    have b3 : ¬ (97 : Int) ≤ (ch.toNat : Int) := by omega
                    have b3b : decide ((97 : Int) ≤ (ch.toNat : Int)) = false := decide_eq_false b3
                    have HE := Lib.hid (HH.out.trans (if_neg (fun h => by have := HCH.out h.1; rw [hhx] at this; cases this)))
                    clear hall hhx
                    go_wp2_with fail
                    obtain ⟨X9, hX9, r9, g9⟩ := box4 HR2.out (.int .i64 0) (.int .i64 0) (.string ⟨#[]⟩) (.bool false)
                    try rw [hX9]
                    obtain ⟨c0, c1, c2, c3⟩ := cells4 r9
                    clear f0 f1 f2 f3 d0 d1 d2 d3 hX9
                    refine bodyPost_ret (v := .agg #[.int .i64 0, .int .i64 0, .string ⟨#[]⟩, .bool false]) ?_ rfl ⟨by rw [HE.out]; rfl, HB2.out.grown g9 HB2.out.size (fun k hk => by injection hk; omega)⟩
                    simp [results, Tryd.f21, go_sem, c0, c1, c2, c3]
                  · have b1 : (48 : Int) ≤ (ch.toNat : Int) := by omega
                    have b2 : ¬ (ch.toNat : Int) ≤ 57 := by omega
                    have b2b : decide ((ch.toNat : Int) ≤ 57) = false := decide_eq_false b2
                    have b3 : (97 : Int) ≤ (ch.toNat : Int) := by omega
                    have b4 : ¬ (ch.toNat : Int) ≤ 102 := by omega
                    have b4b : decide ((ch.toNat : Int) ≤ 102) = false := decide_eq_false b4
                    have HE := Lib.hid (HH.out.trans (if_neg (fun h => by have := HCH.out h.1; rw [hhx] at this; cases this)))
                    clear hall hhx
                    go_wp2_with fail
                    obtain ⟨X9, hX9, r9, g9⟩ := box4 HR2.out (.int .i64 0) (.int .i64 0) (.string ⟨#[]⟩) (.bool false)
                    try rw [hX9]
                    obtain ⟨c0, c1, c2, c3⟩ := cells4 r9
                    clear f0 f1 f2 f3 d0 d1 d2 d3 hX9
                    refine bodyPost_ret (v := .agg #[.int .i64 0, .int .i64 0, .string ⟨#[]⟩, .bool false]) ?_ rfl ⟨by rw [HE.out]; rfl, HB2.out.grown g9 HB2.out.size (fun k hk => by injection hk; omega)⟩
                    simp [results, Tryd.f21, go_sem, c0, c1, c2, c3]
                · obtain rfl : i = 3 := by omega
                  have HE := Lib.hid (show St.rcolor (35 :: t) = (⟨6, 0, 35 :: ((t.take 3).flatMap fun c => [c, c])⟩, true) from HH.out.trans ((if_pos ⟨by rw [List.take_of_length_le (by omega)] at hall; exact hall, .inl hn⟩).trans (by rw [List.take_of_length_le (show t.length ≤ 3 by omega)]; unfold St.twice; rw [if_pos hn])))
                  clear hall
                  go_wp2_with fail
                  obtain ⟨X9, hX9, r9, g9⟩ := box4 HR2.out (.int .i64 6) (.int .i64 0) (.string (tstr (35 :: ((t.take 3).flatMap fun c => [c, c])))) (.bool true)
                  try rw [hX9]
                  obtain ⟨c0, c1, c2, c3⟩ := cells4 r9
                  clear f0 f1 f2 f3 d0 d1 d2 d3 hX9
                  refine bodyPost_ret (v := .agg #[.int .i64 6, .int .i64 0, .string (tstr (35 :: ((t.take 3).flatMap fun c => [c, c]))), .bool true]) ?_ rfl ⟨by rw [HE.out]; rfl, HB2.out.grown g9 HB2.out.size (fun k hk => by injection hk; omega)⟩
                  simp [results, Tryd.f21, go_sem, c0, c1, c2, c3]
            · have hlen : (tstr (35 :: t)).size = 7 := by rw [hsz, hn]
              clear hsz
              obtain ⟨f0, f1, f2, f3⟩ := free4 HR2.out
              obtain ⟨d0, d1, d2, d3⟩ := cells4 HR2.out
              go_wp2_with fail
              go_loopg [5, 6] 6 (fun gg u5 u6 wx => ∃ i : Nat, u6 = .int .i64 ((1 + i : Nat) : Int) ∧ u5 = .string (tstr (35 :: (t.take i))) ∧ i ≤ 6 ∧ 6 - i ≤ gg ∧ (t.take i).all St.hx = true ∧ wx = wr)
              case atStart => exact ⟨0, rfl, rfl, by omega, by omega, rfl, rfl⟩
              case round =>
                obtain ⟨i, rfl, rfl, hi, hgg2, hall, rfl⟩ := hrel
                by_cases hlt : i < 6
                · have hil : i < t.length := by omega
                  have hgt : (tstr (35 :: t))[1 + i]'(by omega) = t[i] := by
                    show (35 :: t)[1 + i]'(by simp; omega) = t[i]
                    simp [Nat.add_comm 1 i]
                  have hpart : (tstr (35 :: t)).extract (1 + i) (1 + i + 1) = tstr [t[i]] := by
                    rw [textr]
                    congr 1
                    rw [Nat.add_comm 1 i, List.take_succ_cons, List.drop_succ_cons, List.take_succ_eq_append_getElem hil, List.drop_append_of_le_length (by rw [List.length_take]; omega), List.drop_of_length_le (by rw [List.length_take]; omega)]
                    rfl
                  have HTK := Lib.hid (show t.take (i + 1) = t.take i ++ [t[i]] from List.take_succ_eq_append_getElem hil)
                  obtain ⟨ch, hch⟩ : ∃ ch, t[i] = ch := ⟨_, rfl⟩
                  rw [hch] at hgt hpart HTK
                  have HCH := Lib.hid (show t.all St.hx = true → St.hx ch = true from fun h => by rw [← hch]; exact List.all_eq_true.1 h _ (List.getElem_mem hil))
                  obtain ⟨q, hq⟩ : ∃ q, 1 + i = q := ⟨_, rfl⟩
                  have HQ := Lib.hid hq
                  have hq1 : q < (tstr (35 :: t)).size := by omega
                  have hq2 : (q : Int) < 7 := by omega
                  have hq3 : (q : Int) + 1 ≤ 7 := by omega
                  have hgq : (tstr (35 :: t))[q] = ch := by subst hq; exact hgt
                  have hpq : (tstr (35 :: t)).extract q (q + 1) = tstr [ch] := by rw [← hq]; exact hpart
                  have hsl : ∀ W, (Instr.slice 9 (.string (tstr (35 :: t))) (some (.int .i64 (q : Int))) (some (.int .i64 ((q : Int) + 1))) none).run Tryd.prog W = .ok (.string (tstr [ch])) W := fun W => by
                    rw [run_slice_string W _ (tstr (35 :: t)) _ _ _ _ Tryd.underlying9 (by omega) (by omega) (by omega), show ((q : Int)).toNat = q by omega, show ((q : Int) + 1).toNat = q + 1 by omega, hpq]
                  rw [hq]
                  have hos : (tstr (35 :: (t.take i))).size ≤ 100 := by rw [tsize, List.length_cons]; have := dup_len (t.take i); have := List.length_take_le i t; omega
                  clear hgt hpart hch hq
                  have hc256 := ch.toNat_lt
                  have hcs : (tstr [ch]).size ≤ 1 := Nat.le_refl _
                  have hcs2 : ((tstr [ch]).size : Int) ≤ 1 := by omega
                  have hos2 : ((tstr (35 :: (t.take i))).size : Int) ≤ 100 := by omega
                  by_cases hdg : 48 ≤ ch.toNat ∧ ch.toNat ≤ 57
                  · have hhx : St.hx ch = true := by unfold St.hx St.dg; simp; omega
                    have b1 : (48 : Int) ≤ (ch.toNat : Int) := by omega
                    have b2 : (ch.toNat : Int) ≤ 57 := by omega
                    clear hdg
                    have HALL := Lib.hid (show (t.take (i + 1)).all St.hx = true by rw [HTK.out, List.all_append, hall]; simp only [List.all_cons, List.all_nil, Bool.and_true, Bool.true_and]; exact hhx)
                    clear hall hhx
                    go_wp2_with fail
                    go_roundg (6 - (i + 1))
                    case rel => exact ⟨i + 1, by rw [show 1 + (i + 1) = q + 1 by have := HQ.out; omega]; go_num, by rw [HTK.out]; simp only [tapp]; rfl, by omega, by omega, HALL.out, rfl⟩
                    case measure => omega
                  by_cases hlt2 : 97 ≤ ch.toNat ∧ ch.toNat ≤ 102
                  · have hhx : St.hx ch = true := by unfold St.hx St.dg; simp; omega
                    have b1 : (48 : Int) ≤ (ch.toNat : Int) := by omega
                    have b2 : ¬ (ch.toNat : Int) ≤ 57 := by omega
                    have b2b : decide ((ch.toNat : Int) ≤ 57) = false := decide_eq_false b2
                    have b3 : (97 : Int) ≤ (ch.toNat : Int) := by omega
                    have b4 : (ch.toNat : Int) ≤ 102 := by omega
                    clear hdg hlt2
                    have HALL := Lib.hid (show (t.take (i + 1)).all St.hx = true by rw [HTK.out, List.all_append, hall]; simp only [List.all_cons, List.all_nil, Bool.and_true, Bool.true_and]; exact hhx)
                    clear hall hhx
                    go_wp2_with fail
                    go_roundg (6 - (i + 1))
                    case rel => exact ⟨i + 1, by rw [show 1 + (i + 1) = q + 1 by have := HQ.out; omega]; go_num, by rw [HTK.out]; simp only [tapp]; rfl, by omega, by omega, HALL.out, rfl⟩
                    case measure => omega
                  have hhx : St.hx ch = false := by unfold St.hx St.dg; simp; omega
                  rcases (show ch.toNat < 48 ∨ (57 < ch.toNat ∧ ch.toNat < 97) ∨ 102 < ch.toNat by omega) with hc | hc | hc
                  · have b1 : ¬ (48 : Int) ≤ (ch.toNat : Int) := by omega
                    have b1b : decide ((48 : Int) ≤ (ch.toNat : Int)) = false := decide_eq_false b1
                    have b3 : ¬ (97 : Int) ≤ (ch.toNat : Int) := by omega
                    have b3b : decide ((97 : Int) ≤ (ch.toNat : Int)) = false := decide_eq_false b3
                    have HE := Lib.hid (HH.out.trans (if_neg (fun h => by have := HCH.out h.1; rw [hhx] at this; cases this)))
                    clear hall hhx
                    go_wp2_with fail
                    obtain ⟨X9, hX9, r9, g9⟩ := box4 HR2.out (.int .i64 0) (.int .i64 0) (.string ⟨#[]⟩) (.bool false)
                    try rw [hX9]
                    obtain ⟨c0, c1, c2, c3⟩ := cells4 r9
                    clear f0 f1 f2 f3 d0 d1 d2 d3 hX9
                    refine bodyPost_ret (v := .agg #[.int .i64 0, .int .i64 0, .string ⟨#[]⟩, .bool false]) ?_ rfl ⟨by rw [HE.out]; rfl, HB2.out.grown g9 HB2.out.size (fun k hk => by injection hk; omega)⟩
                    simp [results, Tryd.f21, go_sem, c0, c1, c2, c3]
                  · have b1 : (48 : Int) ≤ (ch.toNat : Int) := by omega
                    have b2 : ¬ (ch.toNat : Int) ≤ 57 := by omega
                    have b2b : decide ((ch.toNat : Int) ≤ 57) = false := decide_eq_false b2
                    have b3 : ¬ (97 : Int) ≤ (ch.toNat : Int) := by omega
                    have b3b : decide ((97 : Int) ≤ (ch.toNat : Int)) = false := decide_eq_false b3
                    have HE := Lib.hid (HH.out.trans (if_neg (fun h => by have := HCH.out h.1; rw [hhx] at this; cases this)))
                    clear hall hhx
                    go_wp2_with fail
                    obtain ⟨X9, hX9, r9, g9⟩ := box4 HR2.out (.int .i64 0) (.int .i64 0) (.string ⟨#[]⟩) (.bool false)
                    try rw [hX9]
                    obtain ⟨c0, c1, c2, c3⟩ := cells4 r9
                    clear f0 f1 f2 f3 d0 d1 d2 d3 hX9
                    refine bodyPost_ret (v := .agg #[.int .i64 0, .int .i64 0, .string ⟨#[]⟩, .bool false]) ?_ rfl ⟨by rw [HE.out]; rfl, HB2.out.grown g9 HB2.out.size (fun k hk => by injection hk; omega)⟩
                    simp [results, Tryd.f21, go_sem, c0, c1, c2, c3]
                  · have b1 : (48 : Int) ≤ (ch.toNat : Int) := by omega
                    have b2 : ¬ (ch.toNat : Int) ≤ 57 := by omega
                    have b2b : decide ((ch.toNat : Int) ≤ 57) = false := decide_eq_false b2
                    have b3 : (97 : Int) ≤ (ch.toNat : Int) := by omega
                    have b4 : ¬ (ch.toNat : Int) ≤ 102 := by omega
                    have b4b : decide ((ch.toNat : Int) ≤ 102) = false := decide_eq_false b4
                    have HE := Lib.hid (HH.out.trans (if_neg (fun h => by have := HCH.out h.1; rw [hhx] at this; cases this)))
                    clear hall hhx
                    go_wp2_with fail
                    obtain ⟨X9, hX9, r9, g9⟩ := box4 HR2.out (.int .i64 0) (.int .i64 0) (.string ⟨#[]⟩) (.bool false)
                    try rw [hX9]
                    obtain ⟨c0, c1, c2, c3⟩ := cells4 r9
                    clear f0 f1 f2 f3 d0 d1 d2 d3 hX9
                    refine bodyPost_ret (v := .agg #[.int .i64 0, .int .i64 0, .string ⟨#[]⟩, .bool false]) ?_ rfl ⟨by rw [HE.out]; rfl, HB2.out.grown g9 HB2.out.size (fun k hk => by injection hk; omega)⟩
                    simp [results, Tryd.f21, go_sem, c0, c1, c2, c3]
                · obtain rfl : i = 6 := by omega
                  have HE := Lib.hid (show St.rcolor (35 :: t) = (⟨6, 0, 35 :: (t.take 6)⟩, true) from HH.out.trans ((if_pos ⟨by rw [List.take_of_length_le (by omega)] at hall; exact hall, .inr hn⟩).trans (by rw [List.take_of_length_le (show t.length ≤ 6 by omega)]; unfold St.twice; rw [if_neg (by omega)])))
                  clear hall
                  go_wp2_with fail
                  obtain ⟨X9, hX9, r9, g9⟩ := box4 HR2.out (.int .i64 6) (.int .i64 0) (.string (tstr (35 :: (t.take 6)))) (.bool true)
                  try rw [hX9]
                  obtain ⟨c0, c1, c2, c3⟩ := cells4 r9
                  clear f0 f1 f2 f3 d0 d1 d2 d3 hX9
                  refine bodyPost_ret (v := .agg #[.int .i64 6, .int .i64 0, .string (tstr (35 :: (t.take 6))), .bool true]) ?_ rfl ⟨by rw [HE.out]; rfl, HB2.out.grown g9 HB2.out.size (fun k hk => by injection hk; omega)⟩
                  simp [results, Tryd.f21, go_sem, c0, c1, c2, c3]
          · have HE := Lib.hid (HH.out.trans (if_neg (fun h => h36 h.2)))
            have n4 : (((t.length : Int) + 1) == 4) = false := beq_eq_false_iff_ne.2 (by omega)
            have n7 : (((t.length : Int) + 1) == 7) = false := beq_eq_false_iff_ne.2 (by omega)
            have n4b : (((t.length : Int) + 1) != 4) = true := bne_iff_ne.2 (by omega)
            have n7b : (((t.length : Int) + 1) != 7) = true := bne_iff_ne.2 (by omega)
            have m4 : ¬ t.length = 3 := by omega
            have m7 : ¬ t.length = 6 := by omega
            clear h36 HH hfn
            obtain ⟨f0, f1, f2, f3⟩ := free4 HR2.out
            obtain ⟨d0, d1, d2, d3⟩ := cells4 HR2.out
            go_wp2_with fail
            obtain ⟨X9, hX9, r9, g9⟩ := box4 HR2.out (.int .i64 0) (.int .i64 0) (.string ⟨#[]⟩) (.bool false)
            try rw [hX9]
            obtain ⟨c0, c1, c2, c3⟩ := cells4 r9
            clear f0 f1 f2 f3 d0 d1 d2 d3 hX9
            refine bodyPost_ret (v := .agg #[.int .i64 0, .int .i64 0, .string ⟨#[]⟩, .bool false]) ?_ rfl ⟨by rw [HE.out]; rfl, HB2.out.grown g9 HB2.out.size (fun k hk => by injection hk; omega)⟩
            simp [results, Tryd.f21, go_sem, c0, c1, c2, c3]
        · have HE := Lib.hid (rc_none hfn (by unfold St.skip; exact St.pre1 (fun e => h35 (by rw [e]; rfl))))
          have h35i : ¬ (c1.toNat : Int) = 35 := by omega
          have h35b : ((c1.toNat : Int) == 35) = false := beq_eq_false_iff_ne.2 h35i
          clear h35 hfn
          obtain ⟨f0, f1, f2, f3⟩ := free4 HR2.out
          obtain ⟨d0, d1, d2, d3⟩ := cells4 HR2.out
          go_wp2_with fail
          obtain ⟨X9, hX9, r9, g9⟩ := box4 HR2.out (.int .i64 0) (.int .i64 0) (.string ⟨#[]⟩) (.bool false)
          try rw [hX9]
          obtain ⟨c0, c1, c2, c3⟩ := cells4 r9
          clear f0 f1 f2 f3 d0 d1 d2 d3 hX9
          refine bodyPost_ret (v := .agg #[.int .i64 0, .int .i64 0, .string ⟨#[]⟩, .bool false]) ?_ rfl ⟨by rw [HE.out]; rfl, HB2.out.grown g9 HB2.out.size (fun k hk => by injection hk; omega)⟩
          simp [results, Tryd.f21, go_sem, c0, c1, c2, c3]
end Go.Proofs.YtoiednecchbmnaaDoor
