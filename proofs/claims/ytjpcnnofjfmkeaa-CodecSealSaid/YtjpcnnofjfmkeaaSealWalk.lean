/- Seal and Open return what the plain text Seal says, for every string of at most 2^48 bytes. -/
import Derived.Test.YtjpcnnofjfmkeaaFit
import Derived.Test.YtjpcnnofjfmkeaaSeal
import Derived.Deep.RegionHeld3
import Derived.Deep.DrawnRows
namespace Go.Proofs.Ytjpcnnofjfmkeaa
open Go.RowKit

theorem conv_four (W : World) (a b c d : Int) :
    (convert 26 9 (.slice (some ⟨W.heap.size, 0, none⟩) 4 4)).run Try.prog (W.alloc (.cells #[.int .u8 a, .int .u8 b, .int .u8 c, .int .u8 d] 5)) = .ok (.string (str [UInt8.ofNat a.toNat, UInt8.ofNat b.toNat, UInt8.ofNat c.toNat, UInt8.ofNat d.toNat])) (W.alloc (.cells #[.int .u8 a, .int .u8 b, .int .u8 c, .int .u8 d] 5)) := by
  refine run_convert_bytes_arg _ 26 5 Try.underlying26 Try.underlying5 W.heap.size 0 4 4 [a, b, c, d] rfl ?_ 9 Try.underlying9
  intro i hi
  rw [(Whole.new W #[.int .u8 a, .int .u8 b, .int .u8 c, .int .u8 d] 5).cell]
  match i, hi with
  | 0, _ => rfl
  | 1, _ => rfl
  | 2, _ => rfl
  | 3, _ => rfl

set_option maxHeartbeats 400000 in
theorem sealOf_any (s : ByteArray) (w : World) (hs : s.size ≤ 281474976710660) :
    Calls Try.prog 35 #[.string s] w fun e w' => e = .returned (.string (str (Crc.tail4 (Crc.sum s.data.toList)))) ∧ Below w.heap.size w w' := by
  have hconv := conv_four
  have hr := Crc.num_lt (Crc.sum s.data.toList)
  go_enter Try.func35, Try.ntmps35
  go_wp2_with fail
  refine (sum_any s w (by unfold maxLen; omega)).mono ?_
  rintro e w1 ⟨rfl, rfl⟩
  go_wp2_with fail
  go_ret
  exact ⟨ret_str (by rw [Crc.tail4_num]), (Below.refl _ _).alloc (Nat.le_refl _) _⟩

set_option maxHeartbeats 400000 in
theorem seal_any (s : ByteArray) (w : World) (hs : s.size ≤ 281474976710660) :
    Calls Try.prog 29 #[.string s] w fun e w' => e = .returned (.string (str (Crc.sealL s.data.toList))) ∧ Below w.heap.size w w' := by
  have hz : (str (Crc.tail4 (Crc.sum s.data.toList))).size = 4 := str_size _
  go_enter Try.func29, Try.ntmps29
  go_wp2_with fail
  refine (sealOf_any s w hs).mono ?_
  rintro e w1 ⟨rfl, hb⟩
  go_wp2_with fail
  go_ret
  refine ⟨ret_str ?_, hb⟩
  unfold Crc.sealL
  rw [← str_append]; rfl

def OpenPost (s : ByteArray) (w : World) (e : Ending) (w' : World) : Prop :=
  e = .returned (.tuple #[.string (str (Crc.openR s.data.toList).1), .int .i64 (Crc.openR s.data.toList).2]) ∧ Below w.heap.size w w'

theorem ret_open {a b : ByteArray} {c d : Int} (h : a = b) (h' : c = d) : Ending.returned (.tuple #[.string a, .int .i64 c]) = .returned (.tuple #[.string b, .int .i64 d]) := by rw [h, h']

set_option maxRecDepth 100000 in
set_option maxHeartbeats 400000 in
theorem open_any (s : ByteArray) (w : World) (hs : s.size ≤ 281474976710660) :
    Calls Try.prog 30 #[.string s] w (OpenPost s w) := by
  have hll : s.data.toList.length = s.size := rfl
  by_cases h4 : s.size < 4
  · have HR := Lib.hid (Crc.open_short (l := s.data.toList) (by omega))
    clear hll
    go_enter Try.func30, Try.ntmps30
    go_wp2
    go_ret2
    exact ⟨ret_open (by rw [HR.out]; rfl) (by rw [HR.out]), Below.refl _ _⟩
  · obtain ⟨k, hk⟩ : ∃ k : Nat, s.size = k + 4 := ⟨s.size - 4, by omega⟩
    have hk1 : k + 4 ≤ s.size := by omega
    have hk2 : s.size ≤ k + 4 := by omega
    have hR : Crc.openR s.data.toList = if s.data.toList.drop k = Crc.tail4 (Crc.sum (s.data.toList.take k)) then (s.data.toList.take k, 0) else ([], 12) := by
      unfold Crc.openR
      rw [if_neg (by omega), hll, hk, Nat.add_sub_cancel]
    have hex : (s.extract 0 k).data.toList = s.data.toList.take k := by rw [Lib.extract_data]; simp
    have hsub : (s.size : Int) - 4 = (k : Int) := by omega
    have hsz : (s.extract 0 k).size = k := by simp; omega
    have hz : (s.extract 0 k).size ≤ 281474976710660 := by omega
    have hfull : (s.extract k s.size).toList = s.data.toList.drop k := by rw [Lib.toList_data]; exact Lib.extract_to_end s k
    have hT : (str (Crc.tail4 (Crc.sum (s.data.toList.take k)))).toList = Crc.tail4 (Crc.sum (s.data.toList.take k)) := by rw [Lib.toList_data, str_data]
    have hcase : ∀ t : Bool, (decide (s.data.toList.drop k = Crc.tail4 (Crc.sum (s.data.toList.take k))) = t) → ((s.extract k s.size).toList == (str (Crc.tail4 (Crc.sum (s.data.toList.take k)))).toList) = t := by
      intro t ht
      rw [hfull, hT, ← ht, Bool.eq_iff_iff]
      simp
    have HX := Lib.hid hex
    have HC := Lib.hid hcase
    have p0 : (0 : Int) ≤ (k : Int) := by omega
    have p1 : (k : Int) ≤ (s.size : Int) := by omega
    clear hk hex hll hfull hT hcase
    by_cases he : s.data.toList.drop k = Crc.tail4 (Crc.sum (s.data.toList.take k))
    · rw [if_pos he] at hR
      have HR := Lib.hid hR
      have hb := HC.out true (decide_eq_true he)
      clear hR he
      go_enter Try.func30, Try.ntmps30
      go_wp2_with fail
      go_region_held3 (fun _ => True) (trivial) ((go_at_call 35; refine (sealOf_any _ _ hz).mono ?_; rintro e w1 ⟨rfl, hw1⟩))
      all_goals
        go_wp2_with fail
        go_ret2
        exact ⟨ret_open (by rw [HR.out, ← HX.out]; rfl) (by rw [HR.out]), (Below.refl _ _).drew.trans hw1⟩
    · rw [if_neg he] at hR
      have HR := Lib.hid hR
      have hb := HC.out false (decide_eq_false he)
      clear hR he
      go_enter Try.func30, Try.ntmps30
      go_wp2_with fail
      go_region_held3 (fun _ => True) (trivial) ((go_at_call 35; refine (sealOf_any _ _ hz).mono ?_; rintro e w1 ⟨rfl, hw1⟩))
      all_goals
        go_wp2_with fail
        go_ret2
        exact ⟨ret_open (by rw [HR.out]; rfl) (by rw [HR.out]), (Below.refl _ _).drew.trans hw1⟩

end Go.Proofs.Ytjpcnnofjfmkeaa
