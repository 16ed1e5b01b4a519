/- The reference's Next returns, for every kind, the value that the plain functions of the Reader say. -/
import Derived.Test.YtjpcnnofjfmkeaaNext
namespace Go.Proofs.Ytjpcnnofjfmkeaa
open Go.RowKit

set_option maxHeartbeats 400000 in
theorem next_str_bad (s : ByteArray) (i most : Int) (w : World) (hs : s.size ≤ 281474976710656) (hi : i ≤ 9223372036854775807) (hk : (Num.decN (restL s i)).2 ≠ 0) (hg : (restL s i).length - (Num.decN (restL s i)).2 < (Num.decN (restL s i)).1) :
    Calls Try.prog 25 #[.string s, .int .i64 i, .int .i64 0, .int .i64 3, .int .i64 most] w fun f w' => f = .returned (rdVal s i 0 3 most) ∧ Below w.heap.size w w' := by
  have HR : Hid (rdVal s i 0 3 most = mk 0 0 false [] i 3) := by
    show _ = _
    unfold rdVal rdStr; simp [hk, hg]
  have HC := fun w => read_any s i w hs hi
  rw [readN_some hk] at HC
  have HD := Lib.hid HC
  obtain ⟨hi0, hik⟩ := restL_pos hk (Num.decN_le _).1
  have hlt := Num.decN_lt (restL s i)
  have hg1 : (s.size : Int) - (i + (Num.decN (restL s i)).2) < (Num.decN (restL s i)).1 := by have hl := restL_len hi0 (by omega : i ≤ s.size); have hn := (Num.decN_le (restL s i)).1; omega
  clear HC hk
  go_enter Try.func25, Try.ntmps25
  go_wp2_with fail
  refine (HD.out _).mono ?_
  rintro e w1 ⟨rfl, rfl⟩
  go_wp2_with fail
  exact bodyPost_ret (v := mk 0 0 false [] i 3) (by simp [results, Try.results25, go_sem, mk, str]) rfl ⟨by rw [HR.out], ((Below.refl _ _).alloc (Nat.le_refl _) _).alloc (by simp) _⟩

set_option maxHeartbeats 400000 in
theorem next_str (s : ByteArray) (i most : Int) (w : World) (hs : s.size ≤ 281474976710656) (hi : i ≤ 9223372036854775807) (hk : (Num.decN (restL s i)).2 ≠ 0) (hg : ¬ (restL s i).length - (Num.decN (restL s i)).2 < (Num.decN (restL s i)).1) :
    Calls Try.prog 25 #[.string s, .int .i64 i, .int .i64 0, .int .i64 3, .int .i64 most] w fun f w' => f = .returned (rdVal s i 0 3 most) ∧ Below w.heap.size w w' := by
  have HR : Hid (rdVal s i 0 3 most = mk 0 0 false (((restL s i).drop (Num.decN (restL s i)).2).take (Num.decN (restL s i)).1) (i + ((Num.decN (restL s i)).2 + (Num.decN (restL s i)).1 : Nat)) 0) := by
    show _ = _
    unfold rdVal rdStr; simp [hk, hg]
  have hex : s.extract (i + (Num.decN (restL s i)).2).toNat (i + (Num.decN (restL s i)).2 + (Num.decN (restL s i)).1).toNat = str (((restL s i).drop (Num.decN (restL s i)).2).take (Num.decN (restL s i)).1) := by
    obtain ⟨hi0, hik⟩ := restL_pos hk (Num.decN_le _).1
    apply Go.WideShapes.bytes_inj
    rw [Lib.extract_data, str_data, show (i + (Num.decN (restL s i)).2).toNat = i.toNat + (Num.decN (restL s i)).2 from by omega, show (i + (Num.decN (restL s i)).2 + (Num.decN (restL s i)).1).toNat - (i.toNat + (Num.decN (restL s i)).2) = (Num.decN (restL s i)).1 from by omega]
    unfold restL
    rw [if_pos ⟨hi0, by omega⟩, List.drop_drop]
  have HE := Lib.hid hex
  have HA : Hid (i + (Num.decN (restL s i)).2 + (Num.decN (restL s i)).1 = i + ((Num.decN (restL s i)).2 + (Num.decN (restL s i)).1 : Nat)) := by show (_ : Int) = _; omega
  clear hex
  have HC := fun w => read_any s i w hs hi
  rw [readN_some hk] at HC
  have HD := Lib.hid HC
  obtain ⟨hi0, hik⟩ := restL_pos hk (Num.decN_le _).1
  have hlt := Num.decN_lt (restL s i)
  have hg1 : ((Num.decN (restL s i)).1 : Int) ≤ (s.size : Int) - (i + (Num.decN (restL s i)).2) := by have hl := restL_len hi0 (by omega : i ≤ s.size); have hn := (Num.decN_le (restL s i)).1; omega
  clear HC hk
  go_enter Try.func25, Try.ntmps25
  go_wp2_with fail
  refine (HD.out _).mono ?_
  rintro e w1 ⟨rfl, rfl⟩
  go_wp2_with fail
  exact bodyPost_ret (v := .agg #[.int .u64 0, .int .i64 0, .bool false, .string (s.extract (i + (Num.decN (restL s i)).2).toNat (i + (Num.decN (restL s i)).2 + (Num.decN (restL s i)).1).toNat), .int .i64 (i + (Num.decN (restL s i)).2 + (Num.decN (restL s i)).1), .int .i64 0]) (by simp [results, Try.results25, go_sem]) rfl ⟨by rw [HR.out]; unfold mk; rw [HE.out, HA.out]; rfl, ((Below.refl _ _).alloc (Nat.le_refl _) _).alloc (by simp) _⟩

set_option maxHeartbeats 400000 in
theorem next_count_bad (s : ByteArray) (i most : Int) (w : World) (hs : s.size ≤ 281474976710656) (hi : i ≤ 9223372036854775807) (hm : most ≤ 9223372036854775807) (hk : (Num.decN (restL s i)).2 ≠ 0) (hg : most.toNat < (Num.decN (restL s i)).1) :
    Calls Try.prog 25 #[.string s, .int .i64 i, .int .i64 0, .int .i64 4, .int .i64 most] w fun f w' => f = .returned (rdVal s i 0 4 most) ∧ Below w.heap.size w w' := by
  have HR : Hid (rdVal s i 0 4 most = mk 0 0 false [] i 5) := by
    show _ = _
    unfold rdVal rdCount; simp [hk, hg]
  have HC := fun w => read_any s i w hs hi
  rw [readN_some hk] at HC
  have HD := Lib.hid HC
  obtain ⟨hi0, hik⟩ := restL_pos hk (Num.decN_le _).1
  have hlt := Num.decN_lt (restL s i)
  clear HC hk
  by_cases h0 : 0 ≤ most
  all_goals
    go_enter Try.func25, Try.ntmps25
    go_wp2_with fail
    refine (HD.out _).mono ?_
    rintro e w1 ⟨rfl, rfl⟩
    go_wp2_with fail
    exact bodyPost_ret (v := mk 0 0 false [] i 5) (by simp [results, Try.results25, go_sem, mk, str]) rfl ⟨by rw [HR.out], ((Below.refl _ _).alloc (Nat.le_refl _) _).alloc (by simp) _⟩

set_option maxHeartbeats 400000 in
theorem next_count (s : ByteArray) (i most : Int) (w : World) (hs : s.size ≤ 281474976710656) (hi : i ≤ 9223372036854775807) (hm : most ≤ 9223372036854775807) (hk : (Num.decN (restL s i)).2 ≠ 0) (hg : ¬ most.toNat < (Num.decN (restL s i)).1) :
    Calls Try.prog 25 #[.string s, .int .i64 i, .int .i64 0, .int .i64 4, .int .i64 most] w fun f w' => f = .returned (rdVal s i 0 4 most) ∧ Below w.heap.size w w' := by
  have HR : Hid (rdVal s i 0 4 most = mk (Num.decN (restL s i)).1 0 false [] (i + (Num.decN (restL s i)).2) 0) := by
    show _ = _
    unfold rdVal rdCount; simp [hk, hg]
  have HC := fun w => read_any s i w hs hi
  rw [readN_some hk] at HC
  have HD := Lib.hid HC
  obtain ⟨hi0, hik⟩ := restL_pos hk (Num.decN_le _).1
  have hlt := Num.decN_lt (restL s i)
  clear HC hk
  by_cases h0 : 0 ≤ most
  all_goals
    go_enter Try.func25, Try.ntmps25
    go_wp2_with fail
    refine (HD.out _).mono ?_
    rintro e w1 ⟨rfl, rfl⟩
    go_wp2_with fail
    exact bodyPost_ret (v := mk (Num.decN (restL s i)).1 0 false [] (i + (Num.decN (restL s i)).2) 0) (by simp [results, Try.results25, go_sem, mk, str]) rfl ⟨by rw [HR.out], ((Below.refl _ _).alloc (Nat.le_refl _) _).alloc (by simp) _⟩

set_option maxHeartbeats 400000 in
theorem next_bool (s : ByteArray) (i most : Int) (w : World) (hs : s.size ≤ 281474976710656) :
    Calls Try.prog 25 #[.string s, .int .i64 i, .int .i64 0, .int .i64 2, .int .i64 most] w fun f w' => f = .returned (rdVal s i 0 2 most) ∧ Below w.heap.size w w' := by
  by_cases h0 : i < 0
  · have HR : Hid (rdVal s i 0 2 most = mk 0 0 false [] i 3) := by
      show _ = _
      unfold rdVal rdBool restL
      rw [if_neg (show ¬ (0 ≤ i ∧ i ≤ s.size) by omega)]; simp [boolOf]
    go_enter Try.func25, Try.ntmps25
    go_wp2
    exact bodyPost_ret (v := mk 0 0 false [] i 3) (by simp [results, Try.results25, go_sem, mk, str]) rfl ⟨by rw [HR.out], ((Below.refl _ _).alloc (Nat.le_refl _) _).alloc (by simp) _⟩
  · obtain ⟨j, rfl⟩ := Int.eq_ofNat_of_zero_le (show 0 ≤ i by omega)
    by_cases hj : s.size ≤ j
    · have HR : Hid (rdVal s j 0 2 most = mk 0 0 false [] j 3) := by
        show _ = _
        have : restL s j = [] := by
          unfold restL
          split
          · exact List.drop_eq_nil_of_le (by show s.size ≤ _; omega)
          · rfl
        unfold rdVal rdBool; rw [this]; simp [boolOf]
      go_enter Try.func25, Try.ntmps25
      go_wp2
      exact bodyPost_ret (v := mk 0 0 false [] j 3) (by simp [results, Try.results25, go_sem, mk, str]) rfl ⟨by rw [HR.out], ((Below.refl _ _).alloc (Nat.le_refl _) _).alloc (by simp) _⟩
    · have hj' : j < s.size := by omega
      have hcons : restL s j = s[j] :: s.data.toList.drop (j + 1) := by
        unfold restL; rw [if_pos (by omega), Int.toNat_natCast]; exact Num.drop_cons s j hj'
      by_cases hx : 1 < s[j].toNat
      · have HR : Hid (rdVal s j 0 2 most = mk 0 0 false [] j 3) := by
          show _ = _
          unfold rdVal rdBool; rw [hcons]; simp [boolOf, hx]
        clear hcons
        go_enter Try.func25, Try.ntmps25
        go_wp2
        exact bodyPost_ret (v := mk 0 0 false [] j 3) (by simp [results, Try.results25, go_sem, mk, str]) rfl ⟨by rw [HR.out], ((Below.refl _ _).alloc (Nat.le_refl _) _).alloc (by simp) _⟩
      · have HR : Hid (rdVal s j 0 2 most = mk 0 0 (s[j].toNat == 1) [] (j + 1) 0) := by
          show _ = _
          unfold rdVal rdBool; rw [hcons]; simp [boolOf, hx]
        have HB := Lib.hid (byte_is_one s[j])
        clear hcons
        go_enter Try.func25, Try.ntmps25
        go_wp2
        exact bodyPost_ret (v := .agg #[.int .u64 0, .int .i64 0, .bool ((s[j].toNat : Int) == 1), .string ⟨#[]⟩, .int .i64 (j + 1), .int .i64 0]) (by simp [results, Try.results25, go_sem]) rfl ⟨by rw [HR.out, HB.out]; rfl, ((Below.refl _ _).alloc (Nat.le_refl _) _).alloc (by simp) _⟩

/-- Next, for every kind. -/
theorem next_any (s : ByteArray) (i e kind most : Int) (w : World) (hs : s.size ≤ 281474976710656) (hi : i ≤ 9223372036854775807) (hm : most ≤ 9223372036854775807) (h0 : 0 ≤ kind) (h4 : kind < 5) :
    Calls Try.prog 25 #[.string s, .int .i64 i, .int .i64 e, .int .i64 kind, .int .i64 most] w fun f w' => f = .returned (rdVal s i e kind most) ∧ Below w.heap.size w w' := by
  by_cases he : e = 0
  · subst he
    have hc : kind = 0 ∨ kind = 1 ∨ kind = 2 ∨ kind = 3 ∨ kind = 4 := by omega
    by_cases hk : (Num.decN (restL s i)).2 = 0
    · rcases hc with rfl | rfl | rfl | rfl | rfl
      · exact next_none s i 0 most w hs hi hk (by decide)
      · exact next_none s i 1 most w hs hi hk (by decide)
      · exact next_bool s i most w hs
      · exact next_none s i 3 most w hs hi hk (by decide)
      · exact next_none s i 4 most w hs hi hk (by decide)
    · rcases hc with rfl | rfl | rfl | rfl | rfl
      · exact next_uint s i most w hs hi hk
      · exact next_int s i most w hs hi hk
      · exact next_bool s i most w hs
      · by_cases hg : (restL s i).length - (Num.decN (restL s i)).2 < (Num.decN (restL s i)).1
        · exact next_str_bad s i most w hs hi hk hg
        · exact next_str s i most w hs hi hk hg
      · by_cases hg : most.toNat < (Num.decN (restL s i)).1
        · exact next_count_bad s i most w hs hi hm hk hg
        · exact next_count s i most w hs hi hm hk hg
  · exact next_err s i e kind most w he

end Go.Proofs.Ytjpcnnofjfmkeaa
