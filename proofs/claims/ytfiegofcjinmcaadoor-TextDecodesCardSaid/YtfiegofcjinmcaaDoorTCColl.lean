/- The program's Collapse returns what the plain text says. -/
import Derived.Test.YtfiegofcjinmcaaDoorTSub
import Derived.Test.YtfiegofcjinmcaaDoorMem
import Derived.Test.YtfiegofcjinmcaaDoorTCIss
import Derived.Laws.IdiomStrings
import Derived.Lib.ConvBytes
import Derived.RangeFuncBox
namespace Go.Proofs.YtfiegofcjinmcaaDoor
open Go.RowKit

theorem byteInfo : (Tryd.prog.info? 5).map (fun i => (i.zero, i.size, i.bytes)) = some (some (.int .u8 0), 1, 1) := by kernel_rfl
theorem brow_conv {w : World} {base g cap n : Nat} {l : List UInt8} (h : w.ownsRow base 5 1 (.slice (some ⟨g, 0, none⟩) n cap) n (bcells l)) (hn : n = l.length) : (convert 34 9 (.slice (some ⟨g, 0, none⟩) n cap)).run Tryd.prog w = .ok (.string (tstr l)) w := by
  subst hn
  refine run_convert_bytes_back _ 34 9 5 ⟨g, 0, none⟩ cap l Tryd.underlying34 Tryd.underlying5 Tryd.underlying9 ?_
  intro j hj
  exact h.cells rfl j _ (by simp [bcells, hj])

set_option maxRecDepth 100000 in
set_option maxHeartbeats 400000 in
theorem tcollapse_any (s : ByteArray) (w : World) (hs : s.size ≤ 10000) :
    Calls Tryd.prog 17 #[.string s] w fun e w' => e = .returned (.string (tstr (Txt.collapse false s.data.toList))) ∧ Below w.heap.size w w' := by
  obtain ⟨i0, hi, hz0, hz1, hz2⟩ := info_parts byteInfo
  obtain ⟨w1, hmk, hown0, hg0⟩ := run_make_own (P := Tryd.prog) (w := w) w.heap.size 34 5 i0 (.int .u8 0) 1 Tryd.underlying34 hi hz0 hz1 .i64 .i64 s.size (by rw [hz2]; omega) (by unfold maxLen; omega) (Nat.le_refl _)
  have hb0 : Below w.heap.size w w1 := (Below.refl _ w).grown hg0 (Nat.le_refl _) (fun k e => by cases e)
  have hcl := Txt.collapse_len false s.data.toList
  have hll : s.data.toList.length = s.size := rfl
  rw [hll] at hcl
  have HB0 := Lib.hid hb0
  have HO0 := Lib.hid hown0
  clear hb0 hown0 hg0
  go_enter Tryd.func17, Tryd.ntmps17
  go_wp2_with fail
  clear hmk
  go_loopw [3, 4] (fun v i wr => ∃ (k : Nat) (L : List UInt8) (g cap : Nat), k ≤ s.size ∧ i = .int .i64 k ∧ v = .slice (some ⟨g, 0, none⟩) L.length cap ∧ wr.ownsRow w.heap.size 5 1 (.slice (some ⟨g, 0, none⟩) L.length cap) L.length (bcells L) ∧ L ++ Txt.collapse (prevAt s k) (s.data.toList.drop k) = Txt.collapse false s.data.toList ∧ Below w.heap.size w wr) (fun _ i _ => s.size - (intOf i).toNat)
  case atStart => exact ⟨0, [], _, _, Nat.zero_le _, rfl, rfl, HO0.out, rfl, HB0.out⟩
  case round =>
    clear HO0 HB0
    obtain ⟨k, L, g, cap, hk, rfl, rfl, hown, hL, hbel⟩ := hrel
    have hLl : L.length ≤ 10000 := by have := congrArg List.length hL; rw [List.length_append] at this; omega
    by_cases hlt : k < s.size
    · rw [drop_at s k hlt] at hL
      cases hsp : Txt.sp s[k] with
      | false =>
        have hst : (L ++ [s[k]]) ++ Txt.collapse (prevAt s (k + 1)) (s.data.toList.drop (k + 1)) = Txt.collapse false s.data.toList := by
          rw [← hL, prevAt_succ s k hlt, hsp, List.append_assoc, Txt.collapse, if_neg (by rw [hsp]; simp)]; rfl
        have HS := Lib.hid hst
        have HP := Lib.hid hsp
        clear hst hsp hL
        go_wp2_with fail
        refine (cspace_any s[k] wr).mono ?_
        rintro e w2 ⟨rfl, rfl⟩
        rw [HP.out]
        go_wp2_with (at_builtin; refine wpList_append_own _ rfl _ _ 34 rfl w.heap.size 5 i0 (.int .u8 0) 1 1 Tryd.underlying34 hi hz0 hz1 hz2 rfl (by decide) _ L.length (bcells L) rfl (hown.alloc _) ⟨wr.heap.size, 0, none⟩ 1 1 (bcells [s[k]]) rfl rfl ?c1 ?c2 ?c3 ?c4 ?c5 ?_)
        case c1 => intro j u hj; match j, hj with | 0, hj => simp [bcells] at hj; subst hj; simp [Addr.add]
        case c2 => intro u hu; simp [bcells] at hu; subst hu; rfl
        case c3 => unfold maxLen; omega
        case c4 => omega
        case c5 => have := hbel.size; simp; omega
        intro v2 w2 ho2 hg2 _
        have hb2 : Below w.heap.size w w2 := (hbel.alloc hbel.size _).grown hg2 (by have := hbel.size; simp; omega) (fun j hj => (hown.lt j hj).1)
        rw [← bcells_append] at ho2
        obtain ⟨g', cap', rfl⟩ := ownsRow_succ ho2
        have HB := Lib.hid hb2
        have HO := Lib.hid ho2
        clear ho2 hg2 hb2 hown
        go_wp2_with fail
        go_roundw
        case rel => exact ⟨k + 1, L ++ [s[k]], g', cap', by omega, by go_num, by rw [List.length_append]; rfl, by rw [List.length_append]; exact HO.out, HS.out, HB.out⟩
        case measure => simp [intOf]; omega
      | true =>
        have hway : prevAt s k = true ∨ prevAt s k = false := by cases prevAt s k <;> simp
        rcases hway with hpv | hpv
        · cases k with
          | zero => exact absurd hpv (by simp [prevAt])
          | succ j =>
            have hj : j < s.size := by omega
            have hp : Txt.sp s[j] = true := by rw [← prevAt_succ s j hj]; exact hpv
            have hst : L ++ Txt.collapse (prevAt s (j + 1 + 1)) (s.data.toList.drop (j + 1 + 1)) = Txt.collapse false s.data.toList := by
              rw [← hL, prevAt_succ s _ hlt, hsp, hpv, Txt.collapse, if_pos hsp]; rfl
            have HS := Lib.hid hst
            have HP := Lib.hid hsp
            have HQ := Lib.hid hp
            clear hst hsp hL hp hpv
            go_wp2_with fail
            refine (cspace_any s[j + 1] wr).mono ?_
            rintro e w2 ⟨rfl, rfl⟩
            rw [HP.out]
            go_wp2_with fail
            refine (cspace_any s[j] wr).mono ?_
            rintro e w2 ⟨rfl, rfl⟩
            rw [HQ.out]
            go_wp2_with fail
            go_roundw
            case rel => exact ⟨j + 1 + 1, L, g, cap, by omega, by go_num, rfl, hown, HS.out, hbel⟩
            case measure => simp [intOf]; omega
        · have hst : (L ++ [32]) ++ Txt.collapse (prevAt s (k + 1)) (s.data.toList.drop (k + 1)) = Txt.collapse false s.data.toList := by
            rw [← hL, prevAt_succ s k hlt, hsp, hpv, List.append_assoc, Txt.collapse, if_pos hsp]; rfl
          have HS := Lib.hid hst
          have HP := Lib.hid hsp
          clear hst hsp hL
          cases k with
          | zero =>
            clear hpv
            go_wp2_with fail
            refine (cspace_any s[0] wr).mono ?_
            rintro e w2 ⟨rfl, rfl⟩
            rw [HP.out]
            go_wp2_with (at_builtin; refine wpList_append_own _ rfl _ _ 34 rfl w.heap.size 5 i0 (.int .u8 0) 1 1 Tryd.underlying34 hi hz0 hz1 hz2 rfl (by decide) _ L.length (bcells L) rfl (hown.alloc _) ⟨wr.heap.size, 0, none⟩ 1 1 (bcells [32]) rfl rfl ?c1 ?c2 ?c3 ?c4 ?c5 ?_)
            case c1 => intro j u hj; match j, hj with | 0, hj => simp [bcells] at hj; subst hj; simp [Addr.add]
            case c2 => intro u hu; simp [bcells] at hu; subst hu; rfl
            case c3 => unfold maxLen; omega
            case c4 => omega
            case c5 => have := hbel.size; simp; omega
            intro v2 w2 ho2 hg2 _
            have hb2 : Below w.heap.size w w2 := (hbel.alloc hbel.size _).grown hg2 (by have := hbel.size; simp; omega) (fun j hj => (hown.lt j hj).1)
            rw [← bcells_append] at ho2
            obtain ⟨g', cap', rfl⟩ := ownsRow_succ ho2
            have HB := Lib.hid hb2
            have HO := Lib.hid ho2
            clear ho2 hg2 hb2 hown
            go_wp2_with fail
            go_roundw
            case rel => exact ⟨1, L ++ [32], g', cap', by omega, by go_num, by rw [List.length_append]; rfl, by rw [List.length_append]; exact HO.out, HS.out, HB.out⟩
            case measure => simp [intOf]; omega
          | succ j =>
            have hj : j < s.size := by omega
            have hp : Txt.sp s[j] = false := by rw [← prevAt_succ s j hj]; exact hpv
            have HQ := Lib.hid hp
            clear hp hpv
            go_wp2_with fail
            refine (cspace_any s[j + 1] wr).mono ?_
            rintro e w2 ⟨rfl, rfl⟩
            rw [HP.out]
            go_wp2_with fail
            refine (cspace_any s[j] wr).mono ?_
            rintro e w2 ⟨rfl, rfl⟩
            rw [HQ.out]
            go_wp2_with (at_builtin; refine wpList_append_own _ rfl _ _ 34 rfl w.heap.size 5 i0 (.int .u8 0) 1 1 Tryd.underlying34 hi hz0 hz1 hz2 rfl (by decide) _ L.length (bcells L) rfl (hown.alloc _) ⟨wr.heap.size, 0, none⟩ 1 1 (bcells [32]) rfl rfl ?c1 ?c2 ?c3 ?c4 ?c5 ?_)
            case c1 => intro j u hj; match j, hj with | 0, hj => simp [bcells] at hj; subst hj; simp [Addr.add]
            case c2 => intro u hu; simp [bcells] at hu; subst hu; rfl
            case c3 => unfold maxLen; omega
            case c4 => omega
            case c5 => have := hbel.size; simp; omega
            intro v2 w2 ho2 hg2 _
            have hb2 : Below w.heap.size w w2 := (hbel.alloc hbel.size _).grown hg2 (by have := hbel.size; simp; omega) (fun j hj => (hown.lt j hj).1)
            rw [← bcells_append] at ho2
            obtain ⟨g', cap', rfl⟩ := ownsRow_succ ho2
            have HB := Lib.hid hb2
            have HO := Lib.hid ho2
            clear ho2 hg2 hb2 hown
            go_wp2_with fail
            go_roundw
            case rel => exact ⟨j + 1 + 1, L ++ [32], g', cap', by omega, by go_num, by rw [List.length_append]; rfl, by rw [List.length_append]; exact HO.out, HS.out, HB.out⟩
            case measure => simp [intOf]; omega
    · have ek : k = s.size := by omega
      subst ek
      rw [drop_end s _ hlt] at hL
      have hL2 : L = Txt.collapse false s.data.toList := by rw [← hL, Txt.collapse, List.append_nil]
      have HL := Lib.hid hL2
      have hconv := brow_conv hown rfl
      clear hL hL2
      go_wp2_with fail
      go_ret
      exact ⟨retS (by rw [HL.out]), hbel⟩

end Go.Proofs.YtfiegofcjinmcaaDoor
