/- The reference's start returns what the plain text says. -/
import Derived.Test.YtckmlbcpldpkpaaGreatDoorKB
import Derived.Test.YtckmlbcpldpkpaaGreatDoorKH
namespace Go.Proofs.YtckmlbcpldpkpaaGreatDoor
open Go Go.RowKit
set_option linter.unusedVariables false

theorem skip_go {c : UInt8} {r : List UInt8} (b : Bool) (h : (Txt.sp c || c.toNat == 47) = true) : Mk.skip b (c :: r) = Mk.skip (c.toNat == 47) r := by
  conv => lhs; unfold Mk.skip
  rw [if_pos h]
theorem skip_at {c : UInt8} {r : List UInt8} (b : Bool) (h : (Txt.sp c || c.toNat == 47) = false) : Mk.skip b (c :: r) = (b, c :: r) := by
  unfold Mk.skip
  rw [if_neg (by rw [h]; exact Bool.false_ne_true)]
theorem rattr_end {c : UInt8} {r : List UInt8} (h : (r.dropWhile Mk.inName).dropWhile Txt.sp = []) : Mk.attr (c :: r) = some ((c :: r.takeWhile Mk.inName).map Txt.lo, [], []) := by
  unfold Mk.attr
  simp only
  rw [h]
theorem rattr_bare {c e : UInt8} {r t : List UInt8} (h : (r.dropWhile Mk.inName).dropWhile Txt.sp = e :: t) (he : e.toNat ≠ 61) : Mk.attr (c :: r) = some ((c :: r.takeWhile Mk.inName).map Txt.lo, [], e :: t) := by
  unfold Mk.attr
  simp only
  rw [h]
  simp only
  rw [if_neg he]
theorem rattr_eq {c e : UInt8} {r t : List UInt8} (h : (r.dropWhile Mk.inName).dropWhile Txt.sp = e :: t) (he : e.toNat = 61) : Mk.attr (c :: r) = (Mk.value (t.dropWhile Txt.sp)).map fun p => ((c :: r.takeWhile Mk.inName).map Txt.lo, Ent.decode p.1, p.2) := by
  unfold Mk.attr
  simp only
  rw [h]
  simp only
  rw [if_pos he]
theorem value_vlen {l v r : List UInt8} (h : Mk.value l = some (v, r)) : v.length ≤ l.length := by
  unfold Mk.value at h
  split at h
  · obtain ⟨rfl, _⟩ := Prod.mk.inj (Option.some.inj h); exact Nat.le_refl _
  · rename_i q t
    split at h
    · obtain ⟨k, _, e⟩ := Option.map_eq_some_iff.1 h
      obtain ⟨rfl, _⟩ := Prod.mk.inj e
      rw [List.length_take, List.length_cons]; omega
    · obtain ⟨rfl, _⟩ := Prod.mk.inj (Option.some.inj h)
      exact (List.takeWhile_sublist _).length_le
/-- What start answers. -/
def StartOk (s : ByteArray) (i : Nat) (w' : World) (base : Nat) (x : Option (Mk.Tok × List UInt8)) (e : Ending) : Prop :=
  match x with
  | none => ∃ (N : ByteArray) (A : Option Addr) (n c : Nat), e = .returned (.tuple #[.agg #[.int .i64 1, .string N, .slice A n c, .bool false, .string ⟨#[]⟩], .int .i64 (-1)])
  | some p => ∃ (sl : Value) (j : Nat), e = .returned (.tuple #[.agg #[.int .i64 1, .string (tstr p.1.name), sl, .bool p.1.closed, .string ⟨#[]⟩], .int .i64 j]) ∧ ARow 57 w' base sl p.1.attrs ∧ s.data.toList.drop j = p.2 ∧ i < j ∧ j ≤ s.size
theorem StartOk.none {s : ByteArray} {i : Nat} {w' : World} {base : Nat} {x : Option (Mk.Tok × List UInt8)} {e : Ending} (hx : x = none) (h : ∃ (N : ByteArray) (A : Option Addr) (n c : Nat), e = .returned (.tuple #[.agg #[.int .i64 1, .string N, .slice A n c, .bool false, .string ⟨#[]⟩], .int .i64 (-1)])) : StartOk s i w' base x e := by
  subst hx; exact h
theorem StartOk.some {s : ByteArray} {i : Nat} {w' : World} {base : Nat} {x : Option (Mk.Tok × List UInt8)} {e : Ending} (p : Mk.Tok × List UInt8) (hx : x = some p) (h : ∃ (sl : Value) (j : Nat), e = .returned (.tuple #[.agg #[.int .i64 1, .string (tstr p.1.name), sl, .bool p.1.closed, .string ⟨#[]⟩], .int .i64 j]) ∧ ARow 57 w' base sl p.1.attrs ∧ s.data.toList.drop j = p.2 ∧ i < j ∧ j ≤ s.size) : StartOk s i w' base x e := by
  subst hx; exact h
/-- What the loop over a tag's attributes works with. -/
structure StR (w W : World) (bt : Nat) (N : ByteArray) (sl : Value) (acc : List (List UInt8 × List UInt8)) : Prop where
  res : Whole W w.heap.size #[.int .i64 0, .string ⟨#[]⟩, .slice none 0 0, .bool false, .string ⟨#[]⟩] 33
  tok : RT W bt N sl false
  row : ARow 57 W (w.heap.size + 1) sl acc
  len : acc.length ≤ 64
  bel : Below w.heap.size w W
  lt : w.heap.size < bt
section
variable {w W W' : World} {bt : Nat} {N : ByteArray} {sl sl' : Value} {acc acc' : List (List UInt8 × List UInt8)}
theorem StR.alloc (h : StR w W bt N sl acc) (o : Obj) : StR w (W.alloc o) bt N sl acc := ⟨h.res.alloc o, Whole.alloc h.tok o, h.row.alloc o, h.len, h.bel.alloc h.bel.size o, h.lt⟩
theorem StR.below (h : StR w W bt N sl acc) (hb : Below W.heap.size W W') : StR w W' bt N sl acc :=
  ⟨h.res.below hb h.res.lt, Whole.below h.tok hb (Whole.lt h.tok), h.row.below hb, h.len, h.bel.trans (hb.mono h.bel.size), h.lt⟩
theorem StR.apart (h : StR w W bt N sl acc) : sl.ownBlock ≠ some W.heap.size := fun e => by have := (World.ownsRow.lt h.row _ e).2; omega
/-- A cell of another block is written. -/
theorem StR.put {b : Nat} {cs : Array Value} (h : StR w W bt N sl acc) (hb : Whole W b cs 57) (hn : sl.ownBlock ≠ some b) (hw : w.heap.size ≤ b) (i : Nat) (v : Value) : StR w (W.setCell ⟨b, i, none⟩ v) bt N sl acc := by
  have ht : Whole W bt #[.int .i64 1, .string N, sl, .bool false, .string ⟨#[]⟩] 33 := h.tok
  have hg : W.grownBy (W.setCell ⟨b, i, none⟩ v) (some b) := gb_put (gb_of_below (Below.refl _ _) _) i v
  exact ⟨h.res.other (h.res.unlike hb (by decide)) _, ht.other (ht.unlike hb (by decide)) _, h.row.grown hg (.inr hn), h.len, h.bel.grown hg h.bel.size (fun j hj => by injection hj; omega), h.lt⟩
/-- Behind add. -/
theorem StR.added (h : StR w W bt N sl acc) (ht : RT W' bt N sl' false) (hr : ARow 57 W' (w.heap.size + 1) sl' acc') (hl : acc'.length ≤ 64) (hb : Below (w.heap.size + 1) W W') : StR w W' bt N sl' acc' :=
  ⟨h.res.below hb (Nat.lt_succ_self _), ht, hr, hl, h.bel.trans (hb.mono (Nat.le_succ _)), h.lt⟩
end
theorem start_def {s : ByteArray} {i j : Nat} (hd : (s.data.toList.drop i).dropWhile (fun c => !Mk.stopC c) = s.data.toList.drop j) : Mk.start (s.data.toList.drop i) = (Mk.attrs [] (s.data.toList.drop j)).map fun p => (⟨1, Mk.name (s.data.toList.drop i), p.1, p.2.1, []⟩, p.2.2) := by
  unfold Mk.start
  rw [hd]

set_option maxRecDepth 100000 in
set_option maxHeartbeats 8000000 in
theorem rstart_any (s : ByteArray) (i : Nat) (w : World) (hs : s.size ≤ 10000) (hi : i ≤ s.size) :
    Calls Tryz.prog 33 #[.string s, .int .i64 i] w fun e w' => StartOk s i w' w.heap.size (Mk.start (s.data.toList.drop i)) e ∧ Below w.heap.size w w' := by
  have hR1 := Whole.new w #[.int .i64 0, .string ⟨#[]⟩, .slice none 0 0, .bool false, .string ⟨#[]⟩] 33
  have hB1 : Below w.heap.size w (w.alloc (.cells #[.int .i64 0, .string ⟨#[]⟩, .slice none 0 0, .bool false, .string ⟨#[]⟩] 33)) := (Below.refl _ _).alloc (Nat.le_refl _) _
  have hnm := fun W => mname_any s i W hs hi
  obtain ⟨N, hN⟩ : ∃ N, tstr (Mk.name (s.data.toList.drop i)) = N := ⟨_, rfl⟩
  rw [hN] at hnm
  have HN := Lib.hid hN
  clear hN
  generalize hW1 : w.alloc (.cells #[.int .i64 0, .string ⟨#[]⟩, .slice none 0 0, .bool false, .string ⟨#[]⟩] 33) = W1 at hR1 hB1
  go_enter Tryz.func33, Tryz.ntmps33
  go_wp2_with fail
  refine (hnm _).mono ?_
  clear hnm
  rintro e w2 ⟨rfl, hb2⟩
  have hR2 := hR1.below hb2 hR1.lt
  have hB2 := hB1.trans (hb2.mono hB1.size)
  have hS3 : StR w (w2.alloc (.cells #[.int .i64 1, .string N, .slice none 0 0, .bool false, .string ⟨#[]⟩] 33)) w2.heap.size N (.slice none 0 0) [] :=
    ⟨hR2.alloc _, Whole.new _ _ _, ARow.nil _ _ _, Nat.zero_le _, hB2.alloc hB2.size _, hR2.lt⟩
  have HS3 := Lib.hid hS3
  clear hR1 hB1 hb2 hR2 hB2 hS3 hW1
  go_wp2_with fail
  go_loop [1] (fun a => ∃ k : Nat, a = .int .i64 ((i + k : Nat) : Int) ∧ i + k ≤ s.size ∧ (s.data.toList.drop i).dropWhile (fun c => !Mk.stopC c) = (s.data.toList.drop (i + k)).dropWhile (fun c => !Mk.stopC c)) (fun a => s.size - (intOf a).toNat)
  case atStart => exact ⟨0, rfl, hi, rfl⟩
  case round =>
    obtain ⟨k, rfl, hk, hF⟩ := hrel
    have hst := fun W => mstop_any s (i + k) W (by omega)
    by_cases hb : Mk.stop (s.data.toList.drop (i + k)) = true
    · rw [hb] at hst
      have hd : (s.data.toList.drop i).dropWhile (fun c => !Mk.stopC c) = s.data.toList.drop (i + k) := by
        rw [hF]
        refine (takeWhile_done fun c r h => ?_).2
        rw [h] at hb
        show (!Mk.stopC c) = false
        rw [show Mk.stopC c = true from hb]; rfl
      have HD := Lib.hid (start_def hd)
      obtain ⟨I0, hI0⟩ : ∃ I0, i + k = I0 := ⟨_, rfl⟩
      have hIi : i ≤ I0 := by omega
      rw [hI0] at hk hst HD ⊢
      clear hF hd hb hI0
      go_wp2_with (go_at_call 43; refine (hst _).mono ?_; rintro e w' ⟨rfl, rfl⟩)
      clear hst
      go_loopw [1] (fun a wr => ∃ (I : Nat) (sl : Value) (acc : List (List UInt8 × List UInt8)), a = .int .i64 (I : Int) ∧ i ≤ I ∧ I ≤ s.size ∧ StR w wr w2.heap.size N sl acc ∧ Mk.attrs [] (s.data.toList.drop I0) = Mk.attrs acc (s.data.toList.drop I)) (fun a _ => s.size - (intOf a).toNat)
      case atStart => exact ⟨I0, _, [], rfl, hIi, hk, HS3.out, rfl⟩
      case round =>
        obtain ⟨I, sl, acc, rfl, hiI, hI, hS, hat⟩ := hrel
        obtain ⟨Asl, csl, rfl⟩ := hS.row.form
        have HS := Lib.hid hS
        have HAT := Lib.hid hat
        clear hS hat HS3
        go_wp2_with fail
        obtain ⟨wo, hwo⟩ : ∃ wo : World, wo = wr := ⟨_, rfl⟩
        subst hwo
        go_loop [1, 7] (fun a b => ∃ (j : Nat) (B : Bool), a = .int .i64 (j : Int) ∧ b = .bool B ∧ I ≤ j ∧ j ≤ s.size ∧ Mk.skip false (s.data.toList.drop I) = Mk.skip B (s.data.toList.drop j)) (fun a _ => s.size - (intOf a).toNat)
        case atStart => exact ⟨I, false, rfl, rfl, Nat.le_refl _, hI, rfl⟩
        case round =>
          obtain ⟨j, B, rfl, rfl, hIj, hj, hsk⟩ := hrel
          by_cases hlt : j < s.size
          · have hltI : (j : Int) < (s.size : Int) := by omega
            have hg := drop_get s j hlt
            have hc255 := s[j].toNat_lt
            have hsp := fun W => space_any s[j] W
            cases hg2 : (Txt.sp s[j] || s[j].toNat == 47) with
            | true =>
              rw [hg, skip_go B hg2] at hsk
              have hq : ((s[j].toNat : Int) == 47) = (s[j].toNat == 47) := u8_test s[j] 47 (by decide)
              cases hs1 : Txt.sp s[j] with
              | true =>
                rw [hs1] at hsp
                have HSK := Lib.hid hsk
                clear hsk hg hg2 hs1
                go_wp2_with (go_at_call 44; refine (hsp _).mono ?_; rintro e w' ⟨rfl, rfl⟩)
                go_round
                case rel => exact ⟨j + 1, s[j].toNat == 47, by go_num, by rw [← hq], by omega, by omega, HSK.out⟩
                case measure => simp [intOf]; omega
              | false =>
                rw [hs1] at hsp hg2
                have h47 : s[j].toNat = 47 := by simpa using hg2
                have h47I : ((s[j].toNat : Int) == 47) = true := by rw [h47]; rfl
                rw [h47, show ((47 : Nat) == 47) = true from rfl] at hsk
                have HSK := Lib.hid hsk
                clear hsk hg hg2 hs1 h47 hq
                go_wp2_with (go_at_call 44; refine (hsp _).mono ?_; rintro e w' ⟨rfl, rfl⟩)
                go_round
                case rel => exact ⟨j + 1, true, by go_num, rfl, by omega, by omega, HSK.out⟩
                case measure => simp [intOf]; omega
            | false =>
              rw [hg, skip_at B hg2] at hsk
              rw [Bool.or_eq_false_iff] at hg2
              rw [hg2.1] at hsp
              have h47I : ((s[j].toNat : Int) == 47) = false := (u8_test s[j] 47 (by decide)).trans hg2.2
              have hstop : s[j].toNat ≠ 62 → Mk.stopC s[j] = false := fun h => by
                unfold Mk.stopC
                rw [hg2.1, hg2.2, beq_eq_false_iff_ne.2 h]; rfl
              have had := Mk.attrs_def acc (s.data.toList.drop I)
              rw [hsk] at had
              simp only at had
              have HAD := Lib.hid had
              have HSTOP := Lib.hid hstop
              have hsp' := hsp
              clear hsk hg hg2 had hstop
              by_cases h62 : s[j].toNat = 62
              · have t62 : ((s[j].toNat : Int) == 62) = true := by rw [h62]; rfl
                have HRES := Lib.hid (show Mk.start (s.data.toList.drop i) = some (⟨1, Mk.name (s.data.toList.drop i), acc, B, []⟩, s.data.toList.drop (j + 1)) by
                  rw [HD.out, HAT.out, HAD.out, if_pos h62]; rfl)
                have hT : Whole wo w2.heap.size #[.int .i64 1, .string N, .slice Asl acc.length csl, .bool false, .string ⟨#[]⟩] 33 := HS.out.tok
                have x3 := hT.free 3
                have y3 := hT.cell 3
                have hne := HS.out.lt
                have t8 := whole_put hT 3 (.bool B) rfl
                have r8 := HS.out.res.other (a := ⟨w2.heap.size, 3, none⟩) (fun e => by simp at e; omega) (.bool B)
                have a8 := HS.out.row.other hT (by decide) 3 (.bool B)
                have g8 : wo.grownBy (wo.setCell ⟨w2.heap.size, 3, none⟩ (.bool B)) (some w2.heap.size) := gb_put (gb_of_below (Below.refl _ _) _) 3 _
                have hB8 := HS.out.bel.grown g8 HS.out.bel.size (fun j hj => by injection hj; omega)
                obtain ⟨W8, hW8⟩ : ∃ W8, wo.setCell ⟨w2.heap.size, 3, none⟩ (.bool B) = W8 := ⟨_, rfl⟩
                rw [hW8] at t8 r8 a8 hB8
                have HA8 := Lib.hid a8
                clear h62 hT g8 a8
                go_upto_region 12 with (go_at_call 44; refine (hsp _).mono ?_; rintro e w' ⟨rfl, rfl⟩)
                try rw [hW8]
                clear x3 y3 hW8
                obtain ⟨f0, f1, f2, f3, f4⟩ := tok_free r8
                obtain ⟨d0, d1, d2, d3, d4⟩ := tok_cells t8
                obtain ⟨e0, e1, e2, e3, e4⟩ := tok_cells r8
                go_wp2_with fail
                obtain ⟨X9, hX9, r9, g9⟩ := box5 r8 (.int .i64 1) (.string N) (.slice Asl acc.length csl) (.bool B) (.string ⟨#[]⟩)
                rw [hX9]
                obtain ⟨c0, c1, c2, c3, c4⟩ := tok_cells r9
                have hB9 := below_box hB8 g9 (Nat.le_refl _)
                have hA9 := HA8.out.grown g9 (.inr (HA8.out.apart r8 (by decide)))
                clear d0 d1 d2 d3 d4 e0 e1 e2 e3 e4 f0 f1 f2 f3 f4 hX9
                refine bodyPost_ret (v := .tuple #[.agg #[.int .i64 1, .string N, .slice Asl acc.length csl, .bool B, .string ⟨#[]⟩], .int .i64 ((j : Int) + 1)]) ?_ rfl ⟨?_, hB9⟩
                · simp [results, Tryz.f33, go_sem, c0, c1, c2, c3, c4]
                · exact StartOk.some _ HRES.out ⟨_, j + 1, by rw [← HN.out]; rfl, hA9.mono' (Nat.le_succ _), rfl, by omega, by omega⟩
              · have t62 : ((s[j].toNat : Int) == 62) = false := by rw [beq_eq_false_iff_ne]; omega
                have hstc := HSTOP.out h62
                have HAP := Lib.hid HS.out.apart
                have HWB := Lib.hid HS.out.bel.size
                have HS3 := Lib.hid (And.intro (HS.out.alloc (.cells #[.string ⟨#[]⟩, .string ⟨#[]⟩] 57)) (Whole.new wo #[.string ⟨#[]⟩, .string ⟨#[]⟩] 57))
                go_wp2_with (go_at_call 44; refine (hsp _).mono ?_; rintro e w' ⟨rfl, rfl⟩)
                rw [show decide (s.size ≤ j) = false from decide_eq_false (by omega)]
                go_loop [9] (fun a => ∃ k : Nat, a = .int .i64 ((j + 1 + k : Nat) : Int) ∧ j + 1 + k ≤ s.size ∧ (s.data.toList.drop (j + 1)).takeWhile Mk.inName = (s.data.toList.drop (j + 1)).take k ++ ((s.data.toList.drop (j + 1)).drop k).takeWhile Mk.inName ∧ (s.data.toList.drop (j + 1)).dropWhile Mk.inName = ((s.data.toList.drop (j + 1)).drop k).dropWhile Mk.inName) (fun a => s.size - (intOf a).toNat)
                case atStart => exact ⟨0, by go_num, by omega, by simp, rfl⟩
                case round =>
                  obtain ⟨k, rfl, hk, hT, hF⟩ := hrel
                  have hst := fun W => mstop_any s (j + 1 + k) W (by omega)
                  by_cases hb : Mk.stop (s.data.toList.drop (j + 1 + k)) = true
                  · rw [hb] at hst
                    have hdone : ((s.data.toList.drop (j + 1)).drop k).takeWhile Mk.inName = [] ∧ ((s.data.toList.drop (j + 1)).drop k).dropWhile Mk.inName = (s.data.toList.drop (j + 1)).drop k := by
                      refine takeWhile_done fun c r h => ?_
                      rw [List.drop_drop] at h
                      rw [h] at hb
                      unfold Mk.inName
                      rw [show Mk.stopC c = true from hb]; rfl
                    clear hb
                    have htw : (s.data.toList.drop (j + 1)).takeWhile Mk.inName = (s.data.toList.drop (j + 1)).take k := by rw [hT, hdone.1, List.append_nil]
                    have HDN := Lib.hid (show (s.data.toList.drop (j + 1)).dropWhile Mk.inName = s.data.toList.drop (j + 1 + k) by rw [hF, hdone.2, List.drop_drop])
                    have hX : (s.extract j (j + (k + 1))).data.toList = s[j] :: (s.data.toList.drop (j + 1)).takeWhile Mk.inName := by
                      rw [textract, drop_get s j hlt, List.take_succ_cons, htw]
                    have hsl : ∀ W : World, (Instr.slice 9 (.string s) (some (.int .i64 j)) (some (.int .i64 ((j : Int) + 1 + (k : Int)))) none).run Tryz.prog W = .ok (.string (s.extract j (j + (k + 1)))) W := fun W => by
                      rw [run_slice_string W _ s _ _ _ _ Tryz.underlying9 (by omega) (by omega) (by omega)]
                      rw [show ((j : Int) + 1 + (k : Int)).toNat = j + (k + 1) from by omega]; rfl
                    have hXs : (s.extract j (j + (k + 1))).size ≤ 10000 := by rw [ByteArray.size_extract]; omega
                    have hlo := fun W => rlower_any (s.extract j (j + (k + 1))) W hXs
                    rw [hX] at hlo
                    generalize s.extract j (j + (k + 1)) = X at hsl hlo
                    obtain ⟨nm, hnmE⟩ : ∃ nm, (s[j] :: (s.data.toList.drop (j + 1)).takeWhile Mk.inName).map Txt.lo = nm := ⟨_, rfl⟩
                    rw [hnmE] at hlo
                    clear hT hF hdone htw hX hXs
                    go_wp2_with (go_at_call 43; refine (hst _).mono ?_; rintro e w' ⟨rfl, rfl⟩)
                    clear hst
                    refine (hlo _).mono ?_
                    clear hlo hsl
                    rintro e w4 ⟨rfl, hb4⟩
                    have hS4 := HS3.out.1.below hb4
                    have hx4 := HS3.out.2.below hb4 HS3.out.2.lt
                    have x0 := hx4.cell 0
                    have x1 := hx4.free 0
                    have hS5 := hS4.put hx4 HAP.out HWB.out 0 (.string (tstr nm))
                    have hx5 := whole_put hx4 0 (.string (tstr nm)) rfl
                    obtain ⟨W5, hW5⟩ : ∃ W5, w4.setCell ⟨wo.heap.size, 0, none⟩ (.string (tstr nm)) = W5 := ⟨_, rfl⟩
                    rw [hW5] at hS5 hx5
                    have HS5 := Lib.hid hS5
                    have HB5 := Lib.hid hx5
                    clear hS4 hx4 hb4 hS5 hx5
                    go_upto_region 19 with fail
                    try rw [hW5]
                    clear hW5 x0 x1
                    go_loop [1] (fun a => ∃ m : Nat, a = .int .i64 m ∧ j + 1 + k ≤ m ∧ m ≤ s.size ∧ (s.data.toList.drop (j + 1 + k)).dropWhile Txt.sp = (s.data.toList.drop m).dropWhile Txt.sp) (fun a => s.size - (intOf a).toNat)
                    case atStart => exact ⟨j + 1 + k, rfl, Nat.le_refl _, hk, rfl⟩
                    case round =>
                      obtain ⟨m, rfl, hem, hm, hF⟩ := hrel
                      by_cases hml : m < s.size
                      · have hmlI : (m : Int) < (s.size : Int) := by omega
                        have hgm := drop_get s m hml
                        have hcm := s[m].toNat_lt
                        have hsm := fun W => space_any s[m] W
                        cases hspm : Txt.sp s[m] with
                        | true =>
                          rw [hspm] at hsm
                          have HF2 := Lib.hid (show (s.data.toList.drop (j + 1 + k)).dropWhile Txt.sp = (s.data.toList.drop (m + 1)).dropWhile Txt.sp by rw [hF, hgm, List.dropWhile_cons_of_pos hspm])
                          clear hF hgm hspm
                          go_wp2_with (go_at_call 44; refine (hsm _).mono ?_; rintro e w' ⟨rfl, rfl⟩)
                          go_round
                          case rel => exact ⟨m + 1, by go_num, by omega, by omega, HF2.out⟩
                          case measure => simp [intOf]; omega
                        | false =>
                          rw [hspm] at hsm
                          have HDW := Lib.hid (show ((s.data.toList.drop (j + 1)).dropWhile Mk.inName).dropWhile Txt.sp = s[m] :: s.data.toList.drop (m + 1) by rw [HDN.out, hF, hgm, List.dropWhile_cons_of_neg (by rw [hspm]; decide)])
                          clear hF hspm
                          by_cases h61 : s[m].toNat = 61
                          · clear hgm
                            have HATT := Lib.hid (rattr_eq (c := s[j]) HDW.out h61)
                            rw [hnmE] at HATT
                            have h61I : ((s[m].toNat : Int) == 61) = true := by rw [h61]; rfl
                            clear h61
                            go_wp2_with (go_at_call 44; refine (hsm _).mono ?_; rintro e w' ⟨rfl, rfl⟩)
                            go_loop [1] (fun a => ∃ p : Nat, a = .int .i64 p ∧ m + 1 ≤ p ∧ p ≤ s.size ∧ (s.data.toList.drop (m + 1)).dropWhile Txt.sp = (s.data.toList.drop p).dropWhile Txt.sp) (fun a => s.size - (intOf a).toNat)
                            case atStart => exact ⟨m + 1, by go_num, Nat.le_refl _, by omega, rfl⟩
                            case round =>
                              obtain ⟨p, rfl, hmp, hp, hF⟩ := hrel
                              by_cases hpl : p < s.size
                              · have hplI : (p : Int) < (s.size : Int) := by omega
                                have hgp := drop_get s p hpl
                                have hcp := s[p].toNat_lt
                                have hsq := fun W => space_any s[p] W
                                cases hspp : Txt.sp s[p] with
                                | true =>
                                  rw [hspp] at hsq
                                  have HF2 := Lib.hid (show (s.data.toList.drop (m + 1)).dropWhile Txt.sp = (s.data.toList.drop (p + 1)).dropWhile Txt.sp by rw [hF, hgp, List.dropWhile_cons_of_pos hspp])
                                  clear hF hgp hspp
                                  go_wp2_with (go_at_call 44; refine (hsq _).mono ?_; rintro e w' ⟨rfl, rfl⟩)
                                  go_round
                                  case rel => exact ⟨p + 1, by go_num, by omega, by omega, HF2.out⟩
                                  case measure => simp [intOf]; omega
                                | false =>
                                  rw [hspp] at hsq
                                  have hdp : (s.data.toList.drop (m + 1)).dropWhile Txt.sp = s.data.toList.drop p := by rw [hF, hgp, List.dropWhile_cons_of_neg (by rw [hspp]; decide)]
                                  clear hF hgp hspp
                                  have hval := fun W => mvalue_any s p W hs hp
                                  cases hv : Mk.value (s.data.toList.drop p) with
                                  | none =>
                                    have hval2 : ∀ W, Calls Tryz.prog 45 #[.string s, .int .i64 p] W fun e w' => e = .returned (.tuple #[.string ⟨#[]⟩, .int .i64 (-1)]) ∧ W = w' := fun W => (hval W).mono fun e w' ⟨h, h2⟩ => ⟨by unfold ValOk at h; rw [hv] at h; exact h, h2⟩
                                    have HNO := Lib.hid (show Mk.start (s.data.toList.drop i) = none by
                                      rw [HD.out, HAT.out, HAD.out, if_neg h62, HATT.out, hdp, hv]; rfl)
                                    clear hval hv hdp
                                    go_wp2_with (go_at_call 44; refine (hsq _).mono ?_; rintro e w' ⟨rfl, rfl⟩)
                                    refine (hval2 _).mono ?_
                                    clear hval2
                                    rintro e w8 ⟨rfl, rfl⟩
                                    obtain ⟨f0, f1, f2, f3, f4⟩ := tok_free HS5.out.res
                                    obtain ⟨d0, d1, d2, d3, d4⟩ := tok_cells HS5.out.tok
                                    obtain ⟨e0, e1, e2, e3, e4⟩ := tok_cells HS5.out.res
                                    go_wp2_with fail
                                    obtain ⟨X9, hX9, r9, g9⟩ := box5 HS5.out.res (.int .i64 1) (.string N) (.slice Asl acc.length csl) (.bool false) (.string ⟨#[]⟩)
                                    rw [hX9]
                                    obtain ⟨c0, c1, c2, c3, c4⟩ := tok_cells r9
                                    have hB9 := below_box HS5.out.bel g9 (Nat.le_refl _)
                                    clear d0 d1 d2 d3 d4 e0 e1 e2 e3 e4 f0 f1 f2 f3 f4 hX9
                                    refine bodyPost_ret (v := .tuple #[.agg #[.int .i64 1, .string N, .slice Asl acc.length csl, .bool false, .string ⟨#[]⟩], .int .i64 (-1)]) ?_ rfl ⟨?_, hB9⟩
                                    · simp [results, Tryz.f33, go_sem, c0, c1, c2, c3, c4]
                                    · exact StartOk.none HNO.out ⟨N, Asl, acc.length, csl, rfl⟩
                                  | some pv =>
                                    obtain ⟨pv, pr⟩ := pv
                                    have hval2 : ∀ W, Calls Tryz.prog 45 #[.string s, .int .i64 p] W fun e w' => ∃ (t : ByteArray) (j2 : Nat), e = .returned (.tuple #[.string t, .int .i64 j2]) ∧ t.data.toList = pv ∧ s.data.toList.drop j2 = pr ∧ p ≤ j2 ∧ j2 ≤ s.size ∧ W = w' := fun W => (hval W).mono fun e w' ⟨h, h2⟩ => by
                                      unfold ValOk at h; rw [hv] at h
                                      obtain ⟨t, j2, h3, h4, h5, h6, h7⟩ := h
                                      exact ⟨t, j2, h3, h4, h5, h6, h7, h2⟩
                                    have hnx : ∀ j2, s.data.toList.drop j2 = pr → Mk.attrs [] (s.data.toList.drop I0) = Mk.attrs (Mk.addA acc nm (Ent.decode pv)) (s.data.toList.drop j2) := fun j2 h => by
                                      rw [HAT.out, HAD.out, if_neg h62, HATT.out, hdp, hv, h]; rfl
                                    have HNY := Lib.hid hnx
                                    have HVL := Lib.hid (show pv.length ≤ s.size from by
                                      have h8 := value_vlen hv
                                      rw [List.length_drop, show s.data.toList.length = s.size from rfl] at h8
                                      omega)
                                    clear hval hv hdp hnx
                                    go_wp2_with (go_at_call 44; refine (hsq _).mono ?_; rintro e w' ⟨rfl, rfl⟩)
                                    refine (hval2 _).mono ?_
                                    clear hval2
                                    rintro e w8 ⟨t8, j2, rfl, ht8, hd8, hj8, hj9, rfl⟩
                                    have HNX := Lib.hid (HNY.out j2 hd8)
                                    have ht8l : t8.size ≤ 20000 := by
                                      have h8 : t8.data.toList.length = t8.size := rfl
                                      rw [ht8] at h8
                                      have := HVL.out
                                      omega
                                    have hdc := rdecode_any t8 W5 ht8l
                                    rw [ht8] at hdc
                                    have hj20 : ¬ (j2 : Int) < 0 := by omega
                                    obtain ⟨DV, hDV⟩ : ∃ DV, Ent.decode pv = DV := ⟨_, rfl⟩
                                    rw [hDV] at hdc HNX
                                    clear HNY hd8 ht8 hDV
                                    go_wp2_with fail
                                    refine hdc.mono ?_
                                    clear hdc
                                    rintro e w7 ⟨rfl, hb7⟩
                                    have hS7 := HS5.out.below hb7
                                    have hx7 := HB5.out.below hb7 HB5.out.lt
                                    have x0 := hx7.cell 1
                                    have x1 := hx7.free 1
                                    have hS8 := hS7.put hx7 HAP.out HWB.out 1 (.string (tstr DV))
                                    have hx8 := whole_put hx7 1 (.string (tstr DV)) rfl
                                    obtain ⟨W8, hW8⟩ : ∃ W8, w7.setCell ⟨wo.heap.size, 1, none⟩ (.string (tstr DV)) = W8 := ⟨_, rfl⟩
                                    rw [hW8] at hS8 hx8
                                    have HS8 := Lib.hid hS8
                                    have HX8 := Lib.hid hx8
                                    have hadd := radd_any w2.heap.size (w.heap.size + 1) N nm DV (.slice Asl acc.length csl) acc W8 hS8.len hS8.row hS8.tok hS8.lt
                                    obtain ⟨q0, q1⟩ : W8.cell? ⟨wo.heap.size, 0, none⟩ = some (.string (tstr nm)) ∧ W8.cell? ⟨wo.heap.size, 1, none⟩ = some (.string (tstr DV)) := ⟨hx8.cell 0, hx8.cell 1⟩
                                    clear hS7 hx7 hS8 hx8 hb7
                                    go_upto_region 30 with fail
                                    try rw [hW8]
                                    clear x0 x1 hW8
                                    go_wp2_with fail
                                    refine hadd.mono ?_
                                    clear hadd
                                    rintro e w9 ⟨rfl, sl9, ht9, hr9, hb9⟩
                                    have HS9 := Lib.hid (HS8.out.added ht9 hr9 (Mk.addA_len _ _ _ HS8.out.len) hb9)
                                    clear ht9 hr9 hb9
                                    go_wp2_with fail
                                    go_roundw
                                    case rel => exact ⟨j2, sl9, _, rfl, by omega, by omega, HS9.out, HNX.out⟩
                                    case measure => simp [intOf]; omega
                              · have hplI : ¬ (p : Int) < (s.size : Int) := by omega
                                have hdp : (s.data.toList.drop (m + 1)).dropWhile Txt.sp = s.data.toList.drop p := by rw [hF, drop_end s p hpl]; rfl
                                clear hF
                                have hval := fun W => mvalue_any s p W hs hp
                                cases hv : Mk.value (s.data.toList.drop p) with
                                | none =>
                                  have hval2 : ∀ W, Calls Tryz.prog 45 #[.string s, .int .i64 p] W fun e w' => e = .returned (.tuple #[.string ⟨#[]⟩, .int .i64 (-1)]) ∧ W = w' := fun W => (hval W).mono fun e w' ⟨h, h2⟩ => ⟨by unfold ValOk at h; rw [hv] at h; exact h, h2⟩
                                  have HNO := Lib.hid (show Mk.start (s.data.toList.drop i) = none by
                                    rw [HD.out, HAT.out, HAD.out, if_neg h62, HATT.out, hdp, hv]; rfl)
                                  clear hval hv hdp
                                  go_wp2_with fail
                                  refine (hval2 _).mono ?_
                                  clear hval2
                                  rintro e w8 ⟨rfl, rfl⟩
                                  obtain ⟨f0, f1, f2, f3, f4⟩ := tok_free HS5.out.res
                                  obtain ⟨d0, d1, d2, d3, d4⟩ := tok_cells HS5.out.tok
                                  obtain ⟨e0, e1, e2, e3, e4⟩ := tok_cells HS5.out.res
                                  go_wp2_with fail
                                  obtain ⟨X9, hX9, r9, g9⟩ := box5 HS5.out.res (.int .i64 1) (.string N) (.slice Asl acc.length csl) (.bool false) (.string ⟨#[]⟩)
                                  rw [hX9]
                                  obtain ⟨c0, c1, c2, c3, c4⟩ := tok_cells r9
                                  have hB9 := below_box HS5.out.bel g9 (Nat.le_refl _)
                                  clear d0 d1 d2 d3 d4 e0 e1 e2 e3 e4 f0 f1 f2 f3 f4 hX9
                                  refine bodyPost_ret (v := .tuple #[.agg #[.int .i64 1, .string N, .slice Asl acc.length csl, .bool false, .string ⟨#[]⟩], .int .i64 (-1)]) ?_ rfl ⟨?_, hB9⟩
                                  · simp [results, Tryz.f33, go_sem, c0, c1, c2, c3, c4]
                                  · exact StartOk.none HNO.out ⟨N, Asl, acc.length, csl, rfl⟩
                                | some pv =>
                                  obtain ⟨pv, pr⟩ := pv
                                  have hval2 : ∀ W, Calls Tryz.prog 45 #[.string s, .int .i64 p] W fun e w' => ∃ (t : ByteArray) (j2 : Nat), e = .returned (.tuple #[.string t, .int .i64 j2]) ∧ t.data.toList = pv ∧ s.data.toList.drop j2 = pr ∧ p ≤ j2 ∧ j2 ≤ s.size ∧ W = w' := fun W => (hval W).mono fun e w' ⟨h, h2⟩ => by
                                    unfold ValOk at h; rw [hv] at h
                                    obtain ⟨t, j2, h3, h4, h5, h6, h7⟩ := h
                                    exact ⟨t, j2, h3, h4, h5, h6, h7, h2⟩
                                  have hnx : ∀ j2, s.data.toList.drop j2 = pr → Mk.attrs [] (s.data.toList.drop I0) = Mk.attrs (Mk.addA acc nm (Ent.decode pv)) (s.data.toList.drop j2) := fun j2 h => by
                                    rw [HAT.out, HAD.out, if_neg h62, HATT.out, hdp, hv, h]; rfl
                                  have HNY := Lib.hid hnx
                                  have HVL := Lib.hid (show pv.length ≤ s.size from by
                                    have h8 := value_vlen hv
                                    rw [List.length_drop, show s.data.toList.length = s.size from rfl] at h8
                                    omega)
                                  clear hval hv hdp hnx
                                  go_wp2_with fail
                                  refine (hval2 _).mono ?_
                                  clear hval2
                                  rintro e w8 ⟨t8, j2, rfl, ht8, hd8, hj8, hj9, rfl⟩
                                  have HNX := Lib.hid (HNY.out j2 hd8)
                                  have ht8l : t8.size ≤ 20000 := by
                                    have h8 : t8.data.toList.length = t8.size := rfl
                                    rw [ht8] at h8
                                    have := HVL.out
                                    omega
                                  have hdc := rdecode_any t8 W5 ht8l
                                  rw [ht8] at hdc
                                  have hj20 : ¬ (j2 : Int) < 0 := by omega
                                  obtain ⟨DV, hDV⟩ : ∃ DV, Ent.decode pv = DV := ⟨_, rfl⟩
                                  rw [hDV] at hdc HNX
                                  clear HNY hd8 ht8 hDV
                                  go_wp2_with fail
                                  refine hdc.mono ?_
                                  clear hdc
                                  rintro e w7 ⟨rfl, hb7⟩
                                  have hS7 := HS5.out.below hb7
                                  have hx7 := HB5.out.below hb7 HB5.out.lt
                                  have x0 := hx7.cell 1
                                  have x1 := hx7.free 1
                                  have hS8 := hS7.put hx7 HAP.out HWB.out 1 (.string (tstr DV))
                                  have hx8 := whole_put hx7 1 (.string (tstr DV)) rfl
                                  obtain ⟨W8, hW8⟩ : ∃ W8, w7.setCell ⟨wo.heap.size, 1, none⟩ (.string (tstr DV)) = W8 := ⟨_, rfl⟩
                                  rw [hW8] at hS8 hx8
                                  have HS8 := Lib.hid hS8
                                  have HX8 := Lib.hid hx8
                                  have hadd := radd_any w2.heap.size (w.heap.size + 1) N nm DV (.slice Asl acc.length csl) acc W8 hS8.len hS8.row hS8.tok hS8.lt
                                  obtain ⟨q0, q1⟩ : W8.cell? ⟨wo.heap.size, 0, none⟩ = some (.string (tstr nm)) ∧ W8.cell? ⟨wo.heap.size, 1, none⟩ = some (.string (tstr DV)) := ⟨hx8.cell 0, hx8.cell 1⟩
                                  clear hS7 hx7 hS8 hx8 hb7
                                  go_upto_region 30 with fail
                                  try rw [hW8]
                                  clear x0 x1 hW8
                                  go_wp2_with fail
                                  refine hadd.mono ?_
                                  clear hadd
                                  rintro e w9 ⟨rfl, sl9, ht9, hr9, hb9⟩
                                  have HS9 := Lib.hid (HS8.out.added ht9 hr9 (Mk.addA_len _ _ _ HS8.out.len) hb9)
                                  clear ht9 hr9 hb9
                                  go_wp2_with fail
                                  go_roundw
                                  case rel => exact ⟨j2, sl9, _, rfl, by omega, by omega, HS9.out, HNX.out⟩
                                  case measure => simp [intOf]; omega
                          · have h61I : ((s[m].toNat : Int) == 61) = false := by rw [beq_eq_false_iff_ne]; omega
                            have hattr := rattr_bare (c := s[j]) HDW.out h61
                            rw [hnmE, ← hgm] at hattr
                            clear h61 hgm
                            have HNX := Lib.hid (show Mk.attrs [] (s.data.toList.drop I0) = Mk.attrs (Mk.addA acc nm []) (s.data.toList.drop m) by
                              rw [HAT.out, HAD.out, if_neg h62, hattr])
                            have hadd := radd_any w2.heap.size (w.heap.size + 1) N nm [] (.slice Asl acc.length csl) acc W5 HS5.out.len HS5.out.row HS5.out.tok HS5.out.lt
                            rw [show tstr [] = (⟨#[]⟩ : ByteArray) from rfl] at hadd
                            obtain ⟨q0, q1⟩ : W5.cell? ⟨wo.heap.size, 0, none⟩ = some (.string (tstr nm)) ∧ W5.cell? ⟨wo.heap.size, 1, none⟩ = some (.string ⟨#[]⟩) := ⟨HB5.out.cell 0, HB5.out.cell 1⟩
                            clear hattr
                            go_wp2_with (go_at_call 44; refine (hsm _).mono ?_; rintro e w' ⟨rfl, rfl⟩)
                            refine hadd.mono ?_
                            clear hadd
                            rintro e w9 ⟨rfl, sl9, ht9, hr9, hb9⟩
                            have HS9 := Lib.hid (HS5.out.added ht9 hr9 (Mk.addA_len _ _ _ HS5.out.len) hb9)
                            clear ht9 hr9 hb9
                            go_wp2_with fail
                            go_roundw
                            case rel => exact ⟨m, sl9, _, rfl, by omega, by omega, HS9.out, HNX.out⟩
                            case measure => simp [intOf]; omega
                      · have hmlI : ¬ (m : Int) < (s.size : Int) := by omega
                        have hdm := drop_end s m hml
                        have hattr : Mk.attr (s[j] :: s.data.toList.drop (j + 1)) = some (nm, [], s.data.toList.drop m) := by
                          rw [rattr_end (c := s[j]) (r := s.data.toList.drop (j + 1)) (by rw [HDN.out, hF, hdm]; rfl), hnmE, hdm]
                        clear hF hdm
                        have HNX := Lib.hid (show Mk.attrs [] (s.data.toList.drop I0) = Mk.attrs (Mk.addA acc nm []) (s.data.toList.drop m) by
                          rw [HAT.out, HAD.out, if_neg h62, hattr])
                        have hadd := radd_any w2.heap.size (w.heap.size + 1) N nm [] (.slice Asl acc.length csl) acc W5 HS5.out.len HS5.out.row HS5.out.tok HS5.out.lt
                        rw [show tstr [] = (⟨#[]⟩ : ByteArray) from rfl] at hadd
                        obtain ⟨q0, q1⟩ : W5.cell? ⟨wo.heap.size, 0, none⟩ = some (.string (tstr nm)) ∧ W5.cell? ⟨wo.heap.size, 1, none⟩ = some (.string ⟨#[]⟩) := ⟨HB5.out.cell 0, HB5.out.cell 1⟩
                        clear hattr
                        go_wp2_with fail
                        refine hadd.mono ?_
                        clear hadd
                        rintro e w9 ⟨rfl, sl9, ht9, hr9, hb9⟩
                        have HS9 := Lib.hid (HS5.out.added ht9 hr9 (Mk.addA_len _ _ _ HS5.out.len) hb9)
                        clear ht9 hr9 hb9
                        go_wp2_with fail
                        go_roundw
                        case rel => exact ⟨m, sl9, _, rfl, by omega, by omega, HS9.out, HNX.out⟩
                        case measure => simp [intOf]; omega
                  · have hb' := Bool.eq_false_iff.2 hb
                    rw [hb'] at hst
                    have hel : j + 1 + k < s.size := by
                      apply Nat.lt_of_not_le; intro e
                      rw [drop_end s (j + 1 + k) (Nat.not_lt.2 e)] at hb'; cases hb'
                    have hge := drop_get s (j + 1 + k) hel
                    rw [hge] at hb'
                    have hce := s[j + 1 + k].toNat_lt
                    have helI : (j : Int) + 1 + (k : Int) < (s.size : Int) := by omega
                    by_cases he61 : s[j + 1 + k].toNat = 61
                    · have e61 : ((s[j + 1 + k].toNat : Int) == 61) = true := by rw [he61]; rfl
                      have hdone : ((s.data.toList.drop (j + 1)).drop k).takeWhile Mk.inName = [] ∧ ((s.data.toList.drop (j + 1)).drop k).dropWhile Mk.inName = (s.data.toList.drop (j + 1)).drop k := by
                        refine takeWhile_done fun c r h => ?_
                        rw [List.drop_drop, hge] at h
                        obtain ⟨rfl, _⟩ := List.cons.inj h
                        unfold Mk.inName
                        rw [he61]; simp
                      clear hb hb' hge he61
                      have htw : (s.data.toList.drop (j + 1)).takeWhile Mk.inName = (s.data.toList.drop (j + 1)).take k := by rw [hT, hdone.1, List.append_nil]
                      have HDN := Lib.hid (show (s.data.toList.drop (j + 1)).dropWhile Mk.inName = s.data.toList.drop (j + 1 + k) by rw [hF, hdone.2, List.drop_drop])
                      have hX : (s.extract j (j + (k + 1))).data.toList = s[j] :: (s.data.toList.drop (j + 1)).takeWhile Mk.inName := by
                        rw [textract, drop_get s j hlt, List.take_succ_cons, htw]
                      have hsl : ∀ W : World, (Instr.slice 9 (.string s) (some (.int .i64 j)) (some (.int .i64 ((j : Int) + 1 + (k : Int)))) none).run Tryz.prog W = .ok (.string (s.extract j (j + (k + 1)))) W := fun W => by
                        rw [run_slice_string W _ s _ _ _ _ Tryz.underlying9 (by omega) (by omega) (by omega)]
                        rw [show ((j : Int) + 1 + (k : Int)).toNat = j + (k + 1) from by omega]; rfl
                      have hXs : (s.extract j (j + (k + 1))).size ≤ 10000 := by rw [ByteArray.size_extract]; omega
                      have hlo := fun W => rlower_any (s.extract j (j + (k + 1))) W hXs
                      rw [hX] at hlo
                      generalize s.extract j (j + (k + 1)) = X at hsl hlo
                      obtain ⟨nm, hnmE⟩ : ∃ nm, (s[j] :: (s.data.toList.drop (j + 1)).takeWhile Mk.inName).map Txt.lo = nm := ⟨_, rfl⟩
                      rw [hnmE] at hlo
                      clear hT hF hdone htw hX hXs
                      go_wp2_with (go_at_call 43; refine (hst _).mono ?_; rintro e w' ⟨rfl, rfl⟩)
                      clear hst
                      refine (hlo _).mono ?_
                      clear hlo hsl
                      rintro e w4 ⟨rfl, hb4⟩
                      have hS4 := HS3.out.1.below hb4
                      have hx4 := HS3.out.2.below hb4 HS3.out.2.lt
                      have x0 := hx4.cell 0
                      have x1 := hx4.free 0
                      have hS5 := hS4.put hx4 HAP.out HWB.out 0 (.string (tstr nm))
                      have hx5 := whole_put hx4 0 (.string (tstr nm)) rfl
                      obtain ⟨W5, hW5⟩ : ∃ W5, w4.setCell ⟨wo.heap.size, 0, none⟩ (.string (tstr nm)) = W5 := ⟨_, rfl⟩
                      rw [hW5] at hS5 hx5
                      have HS5 := Lib.hid hS5
                      have HB5 := Lib.hid hx5
                      clear hS4 hx4 hb4 hS5 hx5
                      go_upto_region 19 with fail
                      try rw [hW5]
                      clear hW5 x0 x1
                      go_loop [1] (fun a => ∃ m : Nat, a = .int .i64 m ∧ j + 1 + k ≤ m ∧ m ≤ s.size ∧ (s.data.toList.drop (j + 1 + k)).dropWhile Txt.sp = (s.data.toList.drop m).dropWhile Txt.sp) (fun a => s.size - (intOf a).toNat)
                      case atStart => exact ⟨j + 1 + k, rfl, Nat.le_refl _, hk, rfl⟩
                      case round =>
                        obtain ⟨m, rfl, hem, hm, hF⟩ := hrel
                        by_cases hml : m < s.size
                        · have hmlI : (m : Int) < (s.size : Int) := by omega
                          have hgm := drop_get s m hml
                          have hcm := s[m].toNat_lt
                          have hsm := fun W => space_any s[m] W
                          cases hspm : Txt.sp s[m] with
                          | true =>
                            rw [hspm] at hsm
                            have HF2 := Lib.hid (show (s.data.toList.drop (j + 1 + k)).dropWhile Txt.sp = (s.data.toList.drop (m + 1)).dropWhile Txt.sp by rw [hF, hgm, List.dropWhile_cons_of_pos hspm])
                            clear hF hgm hspm
                            go_wp2_with (go_at_call 44; refine (hsm _).mono ?_; rintro e w' ⟨rfl, rfl⟩)
                            go_round
                            case rel => exact ⟨m + 1, by go_num, by omega, by omega, HF2.out⟩
                            case measure => simp [intOf]; omega
                          | false =>
                            rw [hspm] at hsm
                            have HDW := Lib.hid (show ((s.data.toList.drop (j + 1)).dropWhile Mk.inName).dropWhile Txt.sp = s[m] :: s.data.toList.drop (m + 1) by rw [HDN.out, hF, hgm, List.dropWhile_cons_of_neg (by rw [hspm]; decide)])
                            clear hF hspm
                            by_cases h61 : s[m].toNat = 61
                            · clear hgm
                              have HATT := Lib.hid (rattr_eq (c := s[j]) HDW.out h61)
                              rw [hnmE] at HATT
                              have h61I : ((s[m].toNat : Int) == 61) = true := by rw [h61]; rfl
                              clear h61
                              go_wp2_with (go_at_call 44; refine (hsm _).mono ?_; rintro e w' ⟨rfl, rfl⟩)
                              go_loop [1] (fun a => ∃ p : Nat, a = .int .i64 p ∧ m + 1 ≤ p ∧ p ≤ s.size ∧ (s.data.toList.drop (m + 1)).dropWhile Txt.sp = (s.data.toList.drop p).dropWhile Txt.sp) (fun a => s.size - (intOf a).toNat)
                              case atStart => exact ⟨m + 1, by go_num, Nat.le_refl _, by omega, rfl⟩
                              case round =>
                                obtain ⟨p, rfl, hmp, hp, hF⟩ := hrel
                                by_cases hpl : p < s.size
                                · have hplI : (p : Int) < (s.size : Int) := by omega
                                  have hgp := drop_get s p hpl
                                  have hcp := s[p].toNat_lt
                                  have hsq := fun W => space_any s[p] W
                                  cases hspp : Txt.sp s[p] with
                                  | true =>
                                    rw [hspp] at hsq
                                    have HF2 := Lib.hid (show (s.data.toList.drop (m + 1)).dropWhile Txt.sp = (s.data.toList.drop (p + 1)).dropWhile Txt.sp by rw [hF, hgp, List.dropWhile_cons_of_pos hspp])
                                    clear hF hgp hspp
                                    go_wp2_with (go_at_call 44; refine (hsq _).mono ?_; rintro e w' ⟨rfl, rfl⟩)
                                    go_round
                                    case rel => exact ⟨p + 1, by go_num, by omega, by omega, HF2.out⟩
                                    case measure => simp [intOf]; omega
                                  | false =>
                                    rw [hspp] at hsq
                                    have hdp : (s.data.toList.drop (m + 1)).dropWhile Txt.sp = s.data.toList.drop p := by rw [hF, hgp, List.dropWhile_cons_of_neg (by rw [hspp]; decide)]
                                    clear hF hgp hspp
                                    have hval := fun W => mvalue_any s p W hs hp
                                    cases hv : Mk.value (s.data.toList.drop p) with
                                    | none =>
                                      have hval2 : ∀ W, Calls Tryz.prog 45 #[.string s, .int .i64 p] W fun e w' => e = .returned (.tuple #[.string ⟨#[]⟩, .int .i64 (-1)]) ∧ W = w' := fun W => (hval W).mono fun e w' ⟨h, h2⟩ => ⟨by unfold ValOk at h; rw [hv] at h; exact h, h2⟩
                                      have HNO := Lib.hid (show Mk.start (s.data.toList.drop i) = none by
                                        rw [HD.out, HAT.out, HAD.out, if_neg h62, HATT.out, hdp, hv]; rfl)
                                      clear hval hv hdp
                                      go_wp2_with (go_at_call 44; refine (hsq _).mono ?_; rintro e w' ⟨rfl, rfl⟩)
                                      refine (hval2 _).mono ?_
                                      clear hval2
                                      rintro e w8 ⟨rfl, rfl⟩
                                      obtain ⟨f0, f1, f2, f3, f4⟩ := tok_free HS5.out.res
                                      obtain ⟨d0, d1, d2, d3, d4⟩ := tok_cells HS5.out.tok
                                      obtain ⟨e0, e1, e2, e3, e4⟩ := tok_cells HS5.out.res
                                      go_wp2_with fail
                                      obtain ⟨X9, hX9, r9, g9⟩ := box5 HS5.out.res (.int .i64 1) (.string N) (.slice Asl acc.length csl) (.bool false) (.string ⟨#[]⟩)
                                      rw [hX9]
                                      obtain ⟨c0, c1, c2, c3, c4⟩ := tok_cells r9
                                      have hB9 := below_box HS5.out.bel g9 (Nat.le_refl _)
                                      clear d0 d1 d2 d3 d4 e0 e1 e2 e3 e4 f0 f1 f2 f3 f4 hX9
                                      refine bodyPost_ret (v := .tuple #[.agg #[.int .i64 1, .string N, .slice Asl acc.length csl, .bool false, .string ⟨#[]⟩], .int .i64 (-1)]) ?_ rfl ⟨?_, hB9⟩
                                      · simp [results, Tryz.f33, go_sem, c0, c1, c2, c3, c4]
                                      · exact StartOk.none HNO.out ⟨N, Asl, acc.length, csl, rfl⟩
                                    | some pv =>
                                      obtain ⟨pv, pr⟩ := pv
                                      have hval2 : ∀ W, Calls Tryz.prog 45 #[.string s, .int .i64 p] W fun e w' => ∃ (t : ByteArray) (j2 : Nat), e = .returned (.tuple #[.string t, .int .i64 j2]) ∧ t.data.toList = pv ∧ s.data.toList.drop j2 = pr ∧ p ≤ j2 ∧ j2 ≤ s.size ∧ W = w' := fun W => (hval W).mono fun e w' ⟨h, h2⟩ => by
                                        unfold ValOk at h; rw [hv] at h
                                        obtain ⟨t, j2, h3, h4, h5, h6, h7⟩ := h
                                        exact ⟨t, j2, h3, h4, h5, h6, h7, h2⟩
                                      have hnx : ∀ j2, s.data.toList.drop j2 = pr → Mk.attrs [] (s.data.toList.drop I0) = Mk.attrs (Mk.addA acc nm (Ent.decode pv)) (s.data.toList.drop j2) := fun j2 h => by
                                        rw [HAT.out, HAD.out, if_neg h62, HATT.out, hdp, hv, h]; rfl
                                      have HNY := Lib.hid hnx
                                      have HVL := Lib.hid (show pv.length ≤ s.size from by
                                        have h8 := value_vlen hv
                                        rw [List.length_drop, show s.data.toList.length = s.size from rfl] at h8
                                        omega)
                                      clear hval hv hdp hnx
                                      go_wp2_with (go_at_call 44; refine (hsq _).mono ?_; rintro e w' ⟨rfl, rfl⟩)
                                      refine (hval2 _).mono ?_
                                      clear hval2
                                      rintro e w8 ⟨t8, j2, rfl, ht8, hd8, hj8, hj9, rfl⟩
                                      have HNX := Lib.hid (HNY.out j2 hd8)
                                      have ht8l : t8.size ≤ 20000 := by
                                        have h8 : t8.data.toList.length = t8.size := rfl
                                        rw [ht8] at h8
                                        have := HVL.out
                                        omega
                                      have hdc := rdecode_any t8 W5 ht8l
                                      rw [ht8] at hdc
                                      have hj20 : ¬ (j2 : Int) < 0 := by omega
                                      obtain ⟨DV, hDV⟩ : ∃ DV, Ent.decode pv = DV := ⟨_, rfl⟩
                                      rw [hDV] at hdc HNX
                                      clear HNY hd8 ht8 hDV
                                      go_wp2_with fail
                                      refine hdc.mono ?_
                                      clear hdc
                                      rintro e w7 ⟨rfl, hb7⟩
                                      have hS7 := HS5.out.below hb7
                                      have hx7 := HB5.out.below hb7 HB5.out.lt
                                      have x0 := hx7.cell 1
                                      have x1 := hx7.free 1
                                      have hS8 := hS7.put hx7 HAP.out HWB.out 1 (.string (tstr DV))
                                      have hx8 := whole_put hx7 1 (.string (tstr DV)) rfl
                                      obtain ⟨W8, hW8⟩ : ∃ W8, w7.setCell ⟨wo.heap.size, 1, none⟩ (.string (tstr DV)) = W8 := ⟨_, rfl⟩
                                      rw [hW8] at hS8 hx8
                                      have HS8 := Lib.hid hS8
                                      have HX8 := Lib.hid hx8
                                      have hadd := radd_any w2.heap.size (w.heap.size + 1) N nm DV (.slice Asl acc.length csl) acc W8 hS8.len hS8.row hS8.tok hS8.lt
                                      obtain ⟨q0, q1⟩ : W8.cell? ⟨wo.heap.size, 0, none⟩ = some (.string (tstr nm)) ∧ W8.cell? ⟨wo.heap.size, 1, none⟩ = some (.string (tstr DV)) := ⟨hx8.cell 0, hx8.cell 1⟩
                                      clear hS7 hx7 hS8 hx8 hb7
                                      go_upto_region 30 with fail
                                      try rw [hW8]
                                      clear x0 x1 hW8
                                      go_wp2_with fail
                                      refine hadd.mono ?_
                                      clear hadd
                                      rintro e w9 ⟨rfl, sl9, ht9, hr9, hb9⟩
                                      have HS9 := Lib.hid (HS8.out.added ht9 hr9 (Mk.addA_len _ _ _ HS8.out.len) hb9)
                                      clear ht9 hr9 hb9
                                      go_wp2_with fail
                                      go_roundw
                                      case rel => exact ⟨j2, sl9, _, rfl, by omega, by omega, HS9.out, HNX.out⟩
                                      case measure => simp [intOf]; omega
                                · have hplI : ¬ (p : Int) < (s.size : Int) := by omega
                                  have hdp : (s.data.toList.drop (m + 1)).dropWhile Txt.sp = s.data.toList.drop p := by rw [hF, drop_end s p hpl]; rfl
                                  clear hF
                                  have hval := fun W => mvalue_any s p W hs hp
                                  cases hv : Mk.value (s.data.toList.drop p) with
                                  | none =>
                                    have hval2 : ∀ W, Calls Tryz.prog 45 #[.string s, .int .i64 p] W fun e w' => e = .returned (.tuple #[.string ⟨#[]⟩, .int .i64 (-1)]) ∧ W = w' := fun W => (hval W).mono fun e w' ⟨h, h2⟩ => ⟨by unfold ValOk at h; rw [hv] at h; exact h, h2⟩
                                    have HNO := Lib.hid (show Mk.start (s.data.toList.drop i) = none by
                                      rw [HD.out, HAT.out, HAD.out, if_neg h62, HATT.out, hdp, hv]; rfl)
                                    clear hval hv hdp
                                    go_wp2_with fail
                                    refine (hval2 _).mono ?_
                                    clear hval2
                                    rintro e w8 ⟨rfl, rfl⟩
                                    obtain ⟨f0, f1, f2, f3, f4⟩ := tok_free HS5.out.res
                                    obtain ⟨d0, d1, d2, d3, d4⟩ := tok_cells HS5.out.tok
                                    obtain ⟨e0, e1, e2, e3, e4⟩ := tok_cells HS5.out.res
                                    go_wp2_with fail
                                    obtain ⟨X9, hX9, r9, g9⟩ := box5 HS5.out.res (.int .i64 1) (.string N) (.slice Asl acc.length csl) (.bool false) (.string ⟨#[]⟩)
                                    rw [hX9]
                                    obtain ⟨c0, c1, c2, c3, c4⟩ := tok_cells r9
                                    have hB9 := below_box HS5.out.bel g9 (Nat.le_refl _)
                                    clear d0 d1 d2 d3 d4 e0 e1 e2 e3 e4 f0 f1 f2 f3 f4 hX9
                                    refine bodyPost_ret (v := .tuple #[.agg #[.int .i64 1, .string N, .slice Asl acc.length csl, .bool false, .string ⟨#[]⟩], .int .i64 (-1)]) ?_ rfl ⟨?_, hB9⟩
                                    · simp [results, Tryz.f33, go_sem, c0, c1, c2, c3, c4]
                                    · exact StartOk.none HNO.out ⟨N, Asl, acc.length, csl, rfl⟩
                                  | some pv =>
                                    obtain ⟨pv, pr⟩ := pv
                                    have hval2 : ∀ W, Calls Tryz.prog 45 #[.string s, .int .i64 p] W fun e w' => ∃ (t : ByteArray) (j2 : Nat), e = .returned (.tuple #[.string t, .int .i64 j2]) ∧ t.data.toList = pv ∧ s.data.toList.drop j2 = pr ∧ p ≤ j2 ∧ j2 ≤ s.size ∧ W = w' := fun W => (hval W).mono fun e w' ⟨h, h2⟩ => by
                                      unfold ValOk at h; rw [hv] at h
                                      obtain ⟨t, j2, h3, h4, h5, h6, h7⟩ := h
                                      exact ⟨t, j2, h3, h4, h5, h6, h7, h2⟩
                                    have hnx : ∀ j2, s.data.toList.drop j2 = pr → Mk.attrs [] (s.data.toList.drop I0) = Mk.attrs (Mk.addA acc nm (Ent.decode pv)) (s.data.toList.drop j2) := fun j2 h => by
                                      rw [HAT.out, HAD.out, if_neg h62, HATT.out, hdp, hv, h]; rfl
                                    have HNY := Lib.hid hnx
                                    have HVL := Lib.hid (show pv.length ≤ s.size from by
                                      have h8 := value_vlen hv
                                      rw [List.length_drop, show s.data.toList.length = s.size from rfl] at h8
                                      omega)
                                    clear hval hv hdp hnx
                                    go_wp2_with fail
                                    refine (hval2 _).mono ?_
                                    clear hval2
                                    rintro e w8 ⟨t8, j2, rfl, ht8, hd8, hj8, hj9, rfl⟩
                                    have HNX := Lib.hid (HNY.out j2 hd8)
                                    have ht8l : t8.size ≤ 20000 := by
                                      have h8 : t8.data.toList.length = t8.size := rfl
                                      rw [ht8] at h8
                                      have := HVL.out
                                      omega
                                    have hdc := rdecode_any t8 W5 ht8l
                                    rw [ht8] at hdc
                                    have hj20 : ¬ (j2 : Int) < 0 := by omega
                                    obtain ⟨DV, hDV⟩ : ∃ DV, Ent.decode pv = DV := ⟨_, rfl⟩
                                    rw [hDV] at hdc HNX
                                    clear HNY hd8 ht8 hDV
                                    go_wp2_with fail
                                    refine hdc.mono ?_
                                    clear hdc
                                    rintro e w7 ⟨rfl, hb7⟩
                                    have hS7 := HS5.out.below hb7
                                    have hx7 := HB5.out.below hb7 HB5.out.lt
                                    have x0 := hx7.cell 1
                                    have x1 := hx7.free 1
                                    have hS8 := hS7.put hx7 HAP.out HWB.out 1 (.string (tstr DV))
                                    have hx8 := whole_put hx7 1 (.string (tstr DV)) rfl
                                    obtain ⟨W8, hW8⟩ : ∃ W8, w7.setCell ⟨wo.heap.size, 1, none⟩ (.string (tstr DV)) = W8 := ⟨_, rfl⟩
                                    rw [hW8] at hS8 hx8
                                    have HS8 := Lib.hid hS8
                                    have HX8 := Lib.hid hx8
                                    have hadd := radd_any w2.heap.size (w.heap.size + 1) N nm DV (.slice Asl acc.length csl) acc W8 hS8.len hS8.row hS8.tok hS8.lt
                                    obtain ⟨q0, q1⟩ : W8.cell? ⟨wo.heap.size, 0, none⟩ = some (.string (tstr nm)) ∧ W8.cell? ⟨wo.heap.size, 1, none⟩ = some (.string (tstr DV)) := ⟨hx8.cell 0, hx8.cell 1⟩
                                    clear hS7 hx7 hS8 hx8 hb7
                                    go_upto_region 30 with fail
                                    try rw [hW8]
                                    clear x0 x1 hW8
                                    go_wp2_with fail
                                    refine hadd.mono ?_
                                    clear hadd
                                    rintro e w9 ⟨rfl, sl9, ht9, hr9, hb9⟩
                                    have HS9 := Lib.hid (HS8.out.added ht9 hr9 (Mk.addA_len _ _ _ HS8.out.len) hb9)
                                    clear ht9 hr9 hb9
                                    go_wp2_with fail
                                    go_roundw
                                    case rel => exact ⟨j2, sl9, _, rfl, by omega, by omega, HS9.out, HNX.out⟩
                                    case measure => simp [intOf]; omega
                            · have h61I : ((s[m].toNat : Int) == 61) = false := by rw [beq_eq_false_iff_ne]; omega
                              have hattr := rattr_bare (c := s[j]) HDW.out h61
                              rw [hnmE, ← hgm] at hattr
                              clear h61 hgm
                              have HNX := Lib.hid (show Mk.attrs [] (s.data.toList.drop I0) = Mk.attrs (Mk.addA acc nm []) (s.data.toList.drop m) by
                                rw [HAT.out, HAD.out, if_neg h62, hattr])
                              have hadd := radd_any w2.heap.size (w.heap.size + 1) N nm [] (.slice Asl acc.length csl) acc W5 HS5.out.len HS5.out.row HS5.out.tok HS5.out.lt
                              rw [show tstr [] = (⟨#[]⟩ : ByteArray) from rfl] at hadd
                              obtain ⟨q0, q1⟩ : W5.cell? ⟨wo.heap.size, 0, none⟩ = some (.string (tstr nm)) ∧ W5.cell? ⟨wo.heap.size, 1, none⟩ = some (.string ⟨#[]⟩) := ⟨HB5.out.cell 0, HB5.out.cell 1⟩
                              clear hattr
                              go_wp2_with (go_at_call 44; refine (hsm _).mono ?_; rintro e w' ⟨rfl, rfl⟩)
                              refine hadd.mono ?_
                              clear hadd
                              rintro e w9 ⟨rfl, sl9, ht9, hr9, hb9⟩
                              have HS9 := Lib.hid (HS5.out.added ht9 hr9 (Mk.addA_len _ _ _ HS5.out.len) hb9)
                              clear ht9 hr9 hb9
                              go_wp2_with fail
                              go_roundw
                              case rel => exact ⟨m, sl9, _, rfl, by omega, by omega, HS9.out, HNX.out⟩
                              case measure => simp [intOf]; omega
                        · have hmlI : ¬ (m : Int) < (s.size : Int) := by omega
                          have hdm := drop_end s m hml
                          have hattr : Mk.attr (s[j] :: s.data.toList.drop (j + 1)) = some (nm, [], s.data.toList.drop m) := by
                            rw [rattr_end (c := s[j]) (r := s.data.toList.drop (j + 1)) (by rw [HDN.out, hF, hdm]; rfl), hnmE, hdm]
                          clear hF hdm
                          have HNX := Lib.hid (show Mk.attrs [] (s.data.toList.drop I0) = Mk.attrs (Mk.addA acc nm []) (s.data.toList.drop m) by
                            rw [HAT.out, HAD.out, if_neg h62, hattr])
                          have hadd := radd_any w2.heap.size (w.heap.size + 1) N nm [] (.slice Asl acc.length csl) acc W5 HS5.out.len HS5.out.row HS5.out.tok HS5.out.lt
                          rw [show tstr [] = (⟨#[]⟩ : ByteArray) from rfl] at hadd
                          obtain ⟨q0, q1⟩ : W5.cell? ⟨wo.heap.size, 0, none⟩ = some (.string (tstr nm)) ∧ W5.cell? ⟨wo.heap.size, 1, none⟩ = some (.string ⟨#[]⟩) := ⟨HB5.out.cell 0, HB5.out.cell 1⟩
                          clear hattr
                          go_wp2_with fail
                          refine hadd.mono ?_
                          clear hadd
                          rintro e w9 ⟨rfl, sl9, ht9, hr9, hb9⟩
                          have HS9 := Lib.hid (HS5.out.added ht9 hr9 (Mk.addA_len _ _ _ HS5.out.len) hb9)
                          clear ht9 hr9 hb9
                          go_wp2_with fail
                          go_roundw
                          case rel => exact ⟨m, sl9, _, rfl, by omega, by omega, HS9.out, HNX.out⟩
                          case measure => simp [intOf]; omega
                    · have e61 : ((s[j + 1 + k].toNat : Int) == 61) = false := by rw [beq_eq_false_iff_ne]; omega
                      have hin : Mk.inName s[j + 1 + k] = true := by
                        unfold Mk.inName
                        rw [show Mk.stopC s[j + 1 + k] = false from hb', beq_eq_false_iff_ne.2 he61]; rfl
                      have hT2 := takeWhile_grow hT (c := s[j + 1 + k]) (by rw [List.drop_drop]; exact hge) hin
                      have hF2 := dropWhile_grow hF (c := s[j + 1 + k]) (by rw [List.drop_drop]; exact hge) hin
                      have HT := Lib.hid hT2
                      have HF := Lib.hid hF2
                      clear hT hF hT2 hF2 hb hb' hge he61 hin
                      go_wp2_with (go_at_call 43; refine (hst _).mono ?_; rintro e w' ⟨rfl, rfl⟩)
                      go_round
                      case rel => exact ⟨k + 1, by go_num, by omega, HT.out, HF.out⟩
                      case measure => simp [intOf]; omega
          · have hltI : ¬ (j : Int) < (s.size : Int) := by omega
            have hn := drop_end s j hlt
            have had := Mk.attrs_def acc (s.data.toList.drop I)
            rw [hsk, hn] at had
            have hnone : Mk.start (s.data.toList.drop i) = none := by
              rw [HD.out, HAT.out, had]; rfl
            have HNO := Lib.hid hnone
            clear hsk hn had hnone
            obtain ⟨f0, f1, f2, f3, f4⟩ := tok_free HS.out.res
            obtain ⟨d0, d1, d2, d3, d4⟩ := tok_cells HS.out.tok
            obtain ⟨e0, e1, e2, e3, e4⟩ := tok_cells HS.out.res
            go_wp2_with fail
            obtain ⟨X9, hX9, r9, g9⟩ := box5 HS.out.res (.int .i64 1) (.string N) (.slice Asl acc.length csl) (.bool false) (.string ⟨#[]⟩)
            rw [hX9]
            obtain ⟨c0, c1, c2, c3, c4⟩ := tok_cells r9
            have hB9 := below_box HS.out.bel g9 (Nat.le_refl _)
            clear d0 d1 d2 d3 d4 e0 e1 e2 e3 e4 f0 f1 f2 f3 f4 hX9
            refine bodyPost_ret (v := .tuple #[.agg #[.int .i64 1, .string N, .slice Asl acc.length csl, .bool false, .string ⟨#[]⟩], .int .i64 (-1)]) ?_ rfl ⟨?_, hB9⟩
            · simp [results, Tryz.f33, go_sem, c0, c1, c2, c3, c4]
            · exact StartOk.none HNO.out ⟨N, Asl, acc.length, csl, rfl⟩
    · have hb' := Bool.eq_false_iff.2 hb
      rw [hb'] at hst
      have hlt : i + k < s.size := by
        apply Nat.lt_of_not_le; intro e
        rw [drop_end s (i + k) (Nat.not_lt.2 e)] at hb'; cases hb'
      have hg := drop_get s (i + k) hlt
      rw [hg] at hb'
      have hF2 := dropWhile_grow (k := k) (l := s.data.toList.drop i) (by rw [List.drop_drop]; exact hF) (c := s[i + k]) (by rw [List.drop_drop]; exact hg) (by show (!Mk.stopC s[i + k]) = true; rw [show Mk.stopC s[i + k] = false from hb']; rfl)
      rw [List.drop_drop] at hF2
      have HF := Lib.hid hF2
      clear hF hF2 hb hb' hg
      go_wp2_with (go_at_call 43; refine (hst _).mono ?_; rintro e w' ⟨rfl, rfl⟩)
      go_round
      case rel => exact ⟨k + 1, by go_num, by omega, HF.out⟩
      case measure => simp [intOf]; omega

end Go.Proofs.YtckmlbcpldpkpaaGreatDoor
