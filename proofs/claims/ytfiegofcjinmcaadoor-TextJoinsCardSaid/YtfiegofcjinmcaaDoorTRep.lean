/- The reference's Repair returns the repaired form, for every string of at most 2000 bytes. -/
import Derived.Test.YtfiegofcjinmcaaDoorTSize
namespace Go.Proofs.YtfiegofcjinmcaaDoor
open Go.RowKit

theorem u8Info : (Tryd.prog.info? 5).map (fun i => (i.zero, i.size, i.bytes)) = some (some (.int .u8 0), 1, 1) := by kernel_rfl

/-- A list of bytes as the string that it makes. -/
def tstr (l : List UInt8) : ByteArray := ⟨l.toArray⟩
theorem tstr_size (l : List UInt8) : (tstr l).size = l.length := by simp [tstr, ByteArray.size]
theorem tstr_data (l : List UInt8) : (tstr l).data.toList = l := rfl
theorem tstr_of (s : ByteArray) : tstr s.data.toList = s := rfl
theorem tstr_append (l m : List UInt8) : tstr l ++ tstr m = tstr (l ++ m) := ByteArray.mk_append_mk l m
theorem retS {a b : ByteArray} (h : a = b) : Ending.returned (.string a) = .returned (.string b) := by rw [h]

theorem tstrOf_bytes (l : List UInt8) : strOfNums (l.map fun b => (b.toNat : Int)) = tstr l := by
  unfold strOfNums tstr
  congr 2
  rw [List.map_map]
  conv => rhs; rw [← List.map_id l]
  congr 1
  funext b
  simp
/-- The bytes of a row of the call's own, made a string. -/
theorem tconv_own {w : World} {base : Nat} {v : Value} {l : List UInt8} (h : w.ownsRow base 5 1 v l.length (bcells l)) :
    (convert 34 9 v).run Tryd.prog w = .ok (.string (tstr l)) w := by
  obtain ⟨A, c, rfl⟩ := own_form h
  rcases h.2 with ⟨hv, hn⟩ | ⟨g, cap, cur, hv, _, _⟩
  · injection hv with h1 h2 h3
    subst h1
    rw [run_convert_bytes_nil w 34 5 Tryd.underlying34 Tryd.underlying5 _ _ 9 Tryd.underlying9]
    rw [List.eq_nil_of_length_eq_zero hn]; rfl
  · injection hv with h1 h2 h3
    subst h1
    rw [run_convert_bytes_arg w 34 5 Tryd.underlying34 Tryd.underlying5 g 0 l.length c (l.map fun b => (b.toNat : Int)) (by simp) ?_ 9 Tryd.underlying9, tstrOf_bytes]
    intro i hi
    rw [Nat.zero_add, h.cellAt i (by omega)]
    simp [bcells, hi]
theorem textract (s : ByteArray) (k n : Nat) : (s.extract k (k + n)).data.toList = (s.data.toList.drop k).take n := by
  rw [ByteArray.data_extract, Array.toList_extract]
  simp

set_option maxRecDepth 100000 in
set_option maxHeartbeats 400000 in
theorem rrepair_any (s : ByteArray) (w : World) (hs : s.size ≤ 10000) :
    Calls Tryd.prog 8 #[.string s] w fun e w' => e = .returned (.string (tstr (Txt.rep s.data.toList))) ∧ Below w.heap.size w w' := by
  obtain ⟨i0, hi, hz0, hz1, hz2⟩ := info_parts u8Info
  have hrl := Txt.rep_len s.data.toList
  have hll : s.data.toList.length = s.size := rfl
  rw [hll] at hrl
  go_enter Tryd.func8, Tryd.ntmps8
  go_wp2_with fail
  go_loopw [3, 4] (fun v i wr => ∃ (k : Nat) (L : List UInt8), k ≤ s.size ∧ i = .int .i64 k ∧ wr.ownsRow w.heap.size 5 1 v L.length (bcells L) ∧ L ++ Txt.rep (s.data.toList.drop k) = Txt.rep s.data.toList ∧ Below w.heap.size w wr) (fun _ i _ => s.size - (intOf i).toNat)
  case atStart => exact ⟨0, [], Nat.zero_le _, rfl, World.ownsRow_nil _ _ _ _, rfl, Below.refl _ _⟩
  case round =>
    obtain ⟨k, L, hk, rfl, hown, hL, hbel⟩ := hrel
    have hLl : L.length ≤ 30000 := by have := congrArg List.length hL; rw [List.length_append] at this; omega
    obtain ⟨A, c, rfl⟩ := own_form hown
    by_cases hlt : k < s.size
    · obtain ⟨n, hn⟩ : ∃ n, Txt.size (s.data.toList.drop k) = n := ⟨_, rfl⟩
      have hn4 := Txt.size_four (s.data.toList.drop k)
      have hnl := Txt.size_le (s.data.toList.drop k)
      rw [List.length_drop, hll] at hnl
      rw [hn] at hn4 hnl
      by_cases h0 : n = 0
      · have hstep : L ++ Txt.bad ++ Txt.rep (s.data.toList.drop (k + 1)) = Txt.rep s.data.toList := by
          rw [← hL, drop_at s k hlt, Txt.rep_bad (by rw [← drop_at s k hlt, hn, h0]), List.append_assoc]
        have HS := Lib.hid hstep
        have HN := Lib.hid hn
        clear hstep hL hn hn4 hnl
        subst h0
        go_wp2_with fail
        refine (size_any s k wr (by omega) (by omega)).mono ?_
        rintro e w2 ⟨rfl, rfl⟩
        rw [HN.out]
        go_wp2_with (at_builtin; refine wpList_append_own _ rfl (.tmp 15) (.tmp 16) 34 rfl w.heap.size 5 i0 (.int .u8 0) 1 1 Tryd.underlying34 hi hz0 hz1 hz2 rfl (by decide) _ L.length (bcells L) rfl (hown.alloc _) ⟨wr.heap.size, 0, none⟩ 3 3 (bcells Txt.bad) rfl rfl ?c1 ?c2 ?c3 ?c4 ?c5 ?_)
        case c1 => intro j u hj; match j, hj with | 0, hj => simp [bcells, Txt.bad] at hj; subst hj; simp [Addr.add] | 1, hj => simp [bcells, Txt.bad] at hj; subst hj; simp [Addr.add] | 2, hj => simp [bcells, Txt.bad] at hj; subst hj; simp [Addr.add]
        case c2 => intro u hu; simp [bcells, Txt.bad] at hu; rcases hu with rfl | rfl | rfl <;> rfl
        case c3 => unfold maxLen; omega
        case c4 => omega
        case c5 => have := hbel.size; simp; omega
        intro v2 w2 ho2 hg2 _
        have hb2 : Below w.heap.size w w2 := (hbel.alloc hbel.size _).grown hg2 (by have := hbel.size; simp; omega) (fun j hj => (hown.lt j hj).1)
        rw [← bcells_append] at ho2
        have HB := Lib.hid hb2
        have HO := Lib.hid ho2
        clear ho2 hg2 hb2
        go_wp2_with fail
        go_roundw
        case rel => exact ⟨k + 1, L ++ Txt.bad, by omega, by go_num, by rw [List.length_append]; exact HO.out, HS.out, HB.out⟩
        case measure => simp [intOf]; omega
      · have hstep : L ++ (s.extract k (k + n)).data.toList ++ Txt.rep (s.data.toList.drop (k + n)) = Txt.rep s.data.toList := by
          have h := Txt.rep_good (l := s.data.toList.drop k) (by rw [hn]; exact h0)
          rw [hn, List.drop_drop] at h
          rw [← hL, h, textract, List.append_assoc]
        have HS := Lib.hid hstep
        have HN := Lib.hid hn
        have hxs : (s.extract k (k + n)).size = n := by rw [ByteArray.size_extract]; omega
        have hnz : ((n : Int) == 0) = false := by simp; omega
        have hsl : ∀ W : World, (Instr.slice 9 (.string s) (some (.int .i64 k)) (some (.int .i64 ((k : Int) + n))) none).run Tryd.prog W = .ok (.string (s.extract k (k + n))) W := fun W => run_slice_string W _ s _ _ _ _ Tryd.underlying9 (by omega) (by omega) (by omega)
        have hHO := Lib.hid hown
        clear hstep hL hn
        go_wp2_with fail
        refine (size_any s k wr (by omega) (by omega)).mono ?_
        rintro e w2 ⟨rfl, rfl⟩
        rw [HN.out]
        go_wp2_with (at_builtin; refine Lib.wpList_append_own_string _ rfl (.tmp 20) (.tmp 26) 34 9 rfl w.heap.size 5 i0 Tryd.underlying34 Tryd.underlying9 hi hz0 hz1 hz2 _ L.length (bcells L) rfl hHO.out (s.extract k (k + n)) rfl ?c3 ?c4 ?c5 ?_)
        case c3 => unfold maxLen; omega
        case c4 => omega
        case c5 => have := hbel.size; omega
        intro v2 w2 ho2 hg2 _
        have hb2 : Below w.heap.size w w2 := hbel.grown hg2 hbel.size (fun j hj => (hHO.out.lt j hj).1)
        rw [bcells_str, ← bcells_append] at ho2
        have HB := Lib.hid hb2
        have HO := Lib.hid ho2
        have hel : (L ++ (s.extract k (k + n)).data.toList).length = L.length + n := by rw [List.length_append]; show _ + (s.extract k (k + n)).size = _; rw [hxs]
        have HE := Lib.hid hel
        clear ho2 hg2 hb2 hxs hel
        go_wp2_with fail
        go_roundw
        case rel => exact ⟨k + n, L ++ (s.extract k (k + n)).data.toList, by omega, by go_num, by rw [HE.out]; exact HO.out, HS.out, HB.out⟩
        case measure => simp [intOf]; omega
    · have ek : k = s.size := by omega
      subst ek
      rw [drop_end s _ (by omega), Txt.rep_nil, List.append_nil] at hL
      have hconv := tconv_own hown
      have HL := Lib.hid hL
      clear hL
      go_wp2_with fail
      go_ret
      exact ⟨retS (by rw [HL.out]), hbel⟩

end Go.Proofs.YtfiegofcjinmcaaDoor
