/- The statements' own function read returns, for every kind, the value that the plain functions of the Reader say, and leaves the Reader as they say. -/
import Derived.Test.YtjpcnnofjfmkeaaNext
import Derived.RegionTactic
import Derived.ChangeAlike
namespace Go.Proofs.Ytjpcnnofjfmkeaa
open Go.RowKit

/-- The offset and the error behind what was read. -/
def rdEnd (s : ByteArray) (i e kind most : Int) : Int × Int :=
  if kind = 0 then (rdUint s i e).2
  else if kind = 1 then (rdUint s i e).2
  else if kind = 2 then (rdBool s i e).2
  else if kind = 3 then (rdStr s i e).2
  else (rdCount s i e most).2

theorem gb_far {w w' : World} {row : Option Nat} (h : w.grownBy w' row) {a : Addr} (ha : w.heap.size ≤ a.block) (v : Value) : w.grownBy (w'.setCell a v) row :=
  ⟨h.os, h.tape, h.output, by simpa [World.setCell] using h.size, fun k hk hn => (heap_setCell_other w' a k v (by omega)).trans (h.block k hk hn)⟩
theorem left_far {T : TypeId} {w w' : World} {b : Nat} {s : ByteArray} {i e : Int} (h : Left T w w' b s i e) (hb : b < w.heap.size) {a : Addr} (ha : w.heap.size ≤ a.block) (v : Value) : Left T w (w'.setCell a v) b s i e :=
  ⟨Whole.other h.1 (by omega) v, gb_far h.2 ha v⟩
theorem left_of {T : TypeId} {w w1 w2 : World} {b : Nat} {s : ByteArray} {i e : Int} (h : Left T w1 w2 b s i e) (hb : Below w.heap.size w w1) : Left T w w2 b s i e :=
  ⟨h.1, gb_trans (gb_of_below hb _) (by exact h.2)⟩

def zeroes : Array Value := #[.int .u64 0, .int .i64 0, .bool false, .string ⟨#[]⟩, .int .i64 0, .int .i64 0]

theorem left_drew {T : TypeId} {w w' : World} {b : Nat} {s : ByteArray} {i e : Int} (h : Left T w w' b s i e) : Left T w w'.drew b s i e := ⟨h.1, gb_drew h.2⟩

/-- A block of six cells, written whole. -/
theorem put6 {w : World} {g : Nat} {cs : Array Value} {t : TypeId} {v0 v1 v2 v3 v4 v5 : Value} (h : Whole w g cs t) (hc : cs.size = 6) :
    Whole ((((((w.setCell ⟨g, 0, none⟩ v0).setCell ⟨g, 1, none⟩ v1).setCell ⟨g, 2, none⟩ v2).setCell ⟨g, 3, none⟩ v3).setCell ⟨g, 4, none⟩ v4).setCell ⟨g, 5, none⟩ v5) g #[v0, v1, v2, v3, v4, v5] t := by
  obtain ⟨l⟩ := cs
  match l, hc with
  | [a, b, c, d, e, f], _ =>
    have := (((((h.put 0 v0).put 1 v1).put 2 v2).put 3 v3).put 4 v4).put 5 v5
    simpa using this

theorem rdCount_le (s : ByteArray) (i e most : Int) (hm : most ≤ 9223372036854775807) : ((rdCount s i e most).1 : Int) ≤ 9223372036854775807 := by
  unfold rdCount
  repeat' split
  all_goals simp only; omega

def ReadPost (T : TypeId) (w : World) (b : Nat) (s : ByteArray) (i e kind most : Int) (f : Ending) (w' : World) : Prop :=
  f = .returned (rdVal s i e kind most) ∧ Left T w w' b s (rdEnd s i e kind most).1 (rdEnd s i e kind most).2

set_option maxHeartbeats 400000 in
theorem read0 (T : TypeId) (b : Nat) (s : ByteArray) (i e most : Int) (w : World) (hs : s.size ≤ 281474976710656) (h : Rd T w b s i e) :
    Calls Try.prog 26 #[.pointer (some ⟨b, 0, none⟩), .int .i64 0, .int .i64 most] w (ReadPost T w b s i e 0 most) := by
  have hlt := Whole.lt h
  go_enter Try.func26, Try.ntmps26
  go_wp2_with fail
  refine (uint_any T b s i e _ hs ((Whole.alloc h _).alloc _)).mono ?_
  rintro f w1 ⟨rfl, hl⟩
  obtain ⟨hrd, hgb⟩ := hl
  have hz0 : Whole w1 w.heap.size zeroes 48 := ((Whole.new w zeroes _).alloc _).grown hgb (fun e => by injection e; omega)
  have hz1 : Whole w1 (w.heap.size + 1) zeroes 48 := by
    have := Whole.new (w.alloc (.cells zeroes 48)) zeroes 48
    simp only [World.size_alloc] at this
    exact this.grown hgb (fun e => by injection e; omega)
  have hr1 := hrd.c1
  have hr2 := hrd.c2
  have a0 : w1.cell? ⟨w.heap.size, 0, none⟩ = some (.int .u64 0) := hz0.cell 0
  have a1 : w1.cell? ⟨w.heap.size, 1, none⟩ = some (.int .i64 0) := hz0.cell 1
  have a2 : w1.cell? ⟨w.heap.size, 2, none⟩ = some (.bool false) := hz0.cell 2
  have a3 : w1.cell? ⟨w.heap.size, 3, none⟩ = some (.string ⟨#[]⟩) := hz0.cell 3
  have a4 : w1.cell? ⟨w.heap.size, 4, none⟩ = some (.int .i64 0) := hz0.cell 4
  have a5 : w1.cell? ⟨w.heap.size, 5, none⟩ = some (.int .i64 0) := hz0.cell 5
  have fa := hz0.free
  have c0 : w1.cell? ⟨w.heap.size + 1, 0, none⟩ = some (.int .u64 0) := hz1.cell 0
  have c1 : w1.cell? ⟨w.heap.size + 1, 1, none⟩ = some (.int .i64 0) := hz1.cell 1
  have c2 : w1.cell? ⟨w.heap.size + 1, 2, none⟩ = some (.bool false) := hz1.cell 2
  have c3 : w1.cell? ⟨w.heap.size + 1, 3, none⟩ = some (.string ⟨#[]⟩) := hz1.cell 3
  have c4 : w1.cell? ⟨w.heap.size + 1, 4, none⟩ = some (.int .i64 0) := hz1.cell 4
  have c5 : w1.cell? ⟨w.heap.size + 1, 5, none⟩ = some (.int .i64 0) := hz1.cell 5
  have fc := hz1.free
  have hne : b ≠ w.heap.size := by omega
  have hne1 : b ≠ w.heap.size + 1 := by omega
  go_wp2_with fail
  have HL : Hid (Left T w w1 b s (rdUint s i e).2.1 (rdUint s i e).2.2) := left_of ⟨hrd, hgb⟩ (((Below.refl _ _).alloc (Nat.le_refl _) _).alloc (by simp) _)
  have HZ := Lib.hid hz0
  have HV : Hid (rdVal s i e 0 most = mk (rdUint s i e).1 0 false [] (rdUint s i e).2.1 (rdUint s i e).2.2) := by show _ = _; rfl
  have HE : Hid (rdEnd s i e 0 most = (rdUint s i e).2) := by show _ = _; rfl
  clear hrd hgb hz0 hz1
  go_region
  go_wp2
  refine bodyPost_ret (v := mk (rdUint s i e).1 0 false [] (rdUint s i e).2.1 (rdUint s i e).2.2) ?hres rfl ⟨by rw [HV.out], ?hleft⟩
  case hres =>
    refine results_cell_row rfl _ _ w.heap.size 48 _ (0, 0) _ rfl ?_ Try.underlying48 rfl (by kernel_rfl)
    show Whole (World.drew _) w.heap.size _ _
    refine Whole.drew ?_
    refine put6 (cs := zeroes) ?_ rfl
    exact ((HZ.out.other (by simp) _).other (by simp) _).other (by simp) _
  case hleft =>
    rw [HE.out]
    refine left_drew ?_
    iterate 9 (refine left_far ?_ hlt (by simp) _)
    exact HL.out

set_option maxHeartbeats 400000 in
theorem read1 (T : TypeId) (b : Nat) (s : ByteArray) (i e most : Int) (w : World) (hs : s.size ≤ 281474976710656) (h : Rd T w b s i e) :
    Calls Try.prog 26 #[.pointer (some ⟨b, 0, none⟩), .int .i64 1, .int .i64 most] w (ReadPost T w b s i e 1 most) := by
  have hlt := Whole.lt h
  go_enter Try.func26, Try.ntmps26
  go_wp2_with fail
  refine (int_any T b s i e _ hs ((Whole.alloc h _).alloc _)).mono ?_
  rintro f w1 ⟨rfl, hl⟩
  obtain ⟨hrd, hgb⟩ := hl
  have hz0 : Whole w1 w.heap.size zeroes 48 := ((Whole.new w zeroes _).alloc _).grown hgb (fun e => by injection e; omega)
  have hz1 : Whole w1 (w.heap.size + 1) zeroes 48 := by
    have := Whole.new (w.alloc (.cells zeroes 48)) zeroes 48
    simp only [World.size_alloc] at this
    exact this.grown hgb (fun e => by injection e; omega)
  have hr1 := hrd.c1
  have hr2 := hrd.c2
  have a0 : w1.cell? ⟨w.heap.size, 0, none⟩ = some (.int .u64 0) := hz0.cell 0
  have a1 : w1.cell? ⟨w.heap.size, 1, none⟩ = some (.int .i64 0) := hz0.cell 1
  have a2 : w1.cell? ⟨w.heap.size, 2, none⟩ = some (.bool false) := hz0.cell 2
  have a3 : w1.cell? ⟨w.heap.size, 3, none⟩ = some (.string ⟨#[]⟩) := hz0.cell 3
  have a4 : w1.cell? ⟨w.heap.size, 4, none⟩ = some (.int .i64 0) := hz0.cell 4
  have a5 : w1.cell? ⟨w.heap.size, 5, none⟩ = some (.int .i64 0) := hz0.cell 5
  have fa := hz0.free
  have c0 : w1.cell? ⟨w.heap.size + 1, 0, none⟩ = some (.int .u64 0) := hz1.cell 0
  have c1 : w1.cell? ⟨w.heap.size + 1, 1, none⟩ = some (.int .i64 0) := hz1.cell 1
  have c2 : w1.cell? ⟨w.heap.size + 1, 2, none⟩ = some (.bool false) := hz1.cell 2
  have c3 : w1.cell? ⟨w.heap.size + 1, 3, none⟩ = some (.string ⟨#[]⟩) := hz1.cell 3
  have c4 : w1.cell? ⟨w.heap.size + 1, 4, none⟩ = some (.int .i64 0) := hz1.cell 4
  have c5 : w1.cell? ⟨w.heap.size + 1, 5, none⟩ = some (.int .i64 0) := hz1.cell 5
  have fc := hz1.free
  have hne : b ≠ w.heap.size := by omega
  have hne1 : b ≠ w.heap.size + 1 := by omega
  go_wp2_with fail
  have HL : Hid (Left T w w1 b s (rdUint s i e).2.1 (rdUint s i e).2.2) := left_of ⟨hrd, hgb⟩ (((Below.refl _ _).alloc (Nat.le_refl _) _).alloc (by simp) _)
  have HZ := Lib.hid hz0
  have HV : Hid (rdVal s i e 1 most = mk 0 (Num.zag (rdUint s i e).1) false [] (rdUint s i e).2.1 (rdUint s i e).2.2) := by show _ = _; rfl
  have HE : Hid (rdEnd s i e 1 most = (rdUint s i e).2) := by show _ = _; rfl
  clear hrd hgb hz0 hz1
  go_region
  go_wp2
  refine bodyPost_ret (v := mk 0 (Num.zag (rdUint s i e).1) false [] (rdUint s i e).2.1 (rdUint s i e).2.2) ?hres rfl ⟨by rw [HV.out], ?hleft⟩
  case hres =>
    refine results_cell_row rfl _ _ w.heap.size 48 _ (0, 0) _ rfl ?_ Try.underlying48 rfl (by kernel_rfl)
    show Whole (World.drew _) w.heap.size _ _
    refine Whole.drew ?_
    refine put6 (cs := zeroes) ?_ rfl
    exact ((HZ.out.other (by simp) _).other (by simp) _).other (by simp) _
  case hleft =>
    rw [HE.out]
    refine left_drew ?_
    iterate 9 (refine left_far ?_ hlt (by simp) _)
    exact HL.out

set_option maxHeartbeats 400000 in
theorem read2 (T : TypeId) (b : Nat) (s : ByteArray) (i e most : Int) (w : World) (hs : s.size ≤ 281474976710656) (h : Rd T w b s i e) :
    Calls Try.prog 26 #[.pointer (some ⟨b, 0, none⟩), .int .i64 2, .int .i64 most] w (ReadPost T w b s i e 2 most) := by
  have hlt := Whole.lt h
  go_enter Try.func26, Try.ntmps26
  go_wp2_with fail
  refine (bool_any T b s i e _ hs ((Whole.alloc h _).alloc _)).mono ?_
  rintro f w1 ⟨rfl, hl⟩
  obtain ⟨hrd, hgb⟩ := hl
  have hz0 : Whole w1 w.heap.size zeroes 48 := ((Whole.new w zeroes _).alloc _).grown hgb (fun e => by injection e; omega)
  have hz1 : Whole w1 (w.heap.size + 1) zeroes 48 := by
    have := Whole.new (w.alloc (.cells zeroes 48)) zeroes 48
    simp only [World.size_alloc] at this
    exact this.grown hgb (fun e => by injection e; omega)
  have hr1 := hrd.c1
  have hr2 := hrd.c2
  have a0 : w1.cell? ⟨w.heap.size, 0, none⟩ = some (.int .u64 0) := hz0.cell 0
  have a1 : w1.cell? ⟨w.heap.size, 1, none⟩ = some (.int .i64 0) := hz0.cell 1
  have a2 : w1.cell? ⟨w.heap.size, 2, none⟩ = some (.bool false) := hz0.cell 2
  have a3 : w1.cell? ⟨w.heap.size, 3, none⟩ = some (.string ⟨#[]⟩) := hz0.cell 3
  have a4 : w1.cell? ⟨w.heap.size, 4, none⟩ = some (.int .i64 0) := hz0.cell 4
  have a5 : w1.cell? ⟨w.heap.size, 5, none⟩ = some (.int .i64 0) := hz0.cell 5
  have fa := hz0.free
  have c0 : w1.cell? ⟨w.heap.size + 1, 0, none⟩ = some (.int .u64 0) := hz1.cell 0
  have c1 : w1.cell? ⟨w.heap.size + 1, 1, none⟩ = some (.int .i64 0) := hz1.cell 1
  have c2 : w1.cell? ⟨w.heap.size + 1, 2, none⟩ = some (.bool false) := hz1.cell 2
  have c3 : w1.cell? ⟨w.heap.size + 1, 3, none⟩ = some (.string ⟨#[]⟩) := hz1.cell 3
  have c4 : w1.cell? ⟨w.heap.size + 1, 4, none⟩ = some (.int .i64 0) := hz1.cell 4
  have c5 : w1.cell? ⟨w.heap.size + 1, 5, none⟩ = some (.int .i64 0) := hz1.cell 5
  have fc := hz1.free
  have hne : b ≠ w.heap.size := by omega
  have hne1 : b ≠ w.heap.size + 1 := by omega
  go_wp2_with fail
  have HL : Hid (Left T w w1 b s (rdBool s i e).2.1 (rdBool s i e).2.2) := left_of ⟨hrd, hgb⟩ (((Below.refl _ _).alloc (Nat.le_refl _) _).alloc (by simp) _)
  have HZ := Lib.hid hz0
  have HV : Hid (rdVal s i e 2 most = mk 0 0 (rdBool s i e).1 [] (rdBool s i e).2.1 (rdBool s i e).2.2) := by show _ = _; rfl
  have HE : Hid (rdEnd s i e 2 most = (rdBool s i e).2) := by show _ = _; rfl
  clear hrd hgb hz0 hz1
  go_region
  go_wp2
  refine bodyPost_ret (v := mk 0 0 (rdBool s i e).1 [] (rdBool s i e).2.1 (rdBool s i e).2.2) ?hres rfl ⟨by rw [HV.out], ?hleft⟩
  case hres =>
    refine results_cell_row rfl _ _ w.heap.size 48 _ (0, 0) _ rfl ?_ Try.underlying48 rfl (by kernel_rfl)
    show Whole (World.drew _) w.heap.size _ _
    refine Whole.drew ?_
    refine put6 (cs := zeroes) ?_ rfl
    exact ((HZ.out.other (by simp) _).other (by simp) _).other (by simp) _
  case hleft =>
    rw [HE.out]
    refine left_drew ?_
    iterate 9 (refine left_far ?_ hlt (by simp) _)
    exact HL.out

set_option maxHeartbeats 400000 in
theorem read3 (T : TypeId) (b : Nat) (s : ByteArray) (i e most : Int) (w : World) (hs : s.size ≤ 281474976710656) (h : Rd T w b s i e) :
    Calls Try.prog 26 #[.pointer (some ⟨b, 0, none⟩), .int .i64 3, .int .i64 most] w (ReadPost T w b s i e 3 most) := by
  have hlt := Whole.lt h
  go_enter Try.func26, Try.ntmps26
  go_wp2_with fail
  refine (string_any T b s i e _ hs ((Whole.alloc h _).alloc _)).mono ?_
  rintro f w1 ⟨rfl, hl⟩
  obtain ⟨hrd, hgb⟩ := hl
  have hz0 : Whole w1 w.heap.size zeroes 48 := ((Whole.new w zeroes _).alloc _).grown hgb (fun e => by injection e; omega)
  have hz1 : Whole w1 (w.heap.size + 1) zeroes 48 := by
    have := Whole.new (w.alloc (.cells zeroes 48)) zeroes 48
    simp only [World.size_alloc] at this
    exact this.grown hgb (fun e => by injection e; omega)
  have hr1 := hrd.c1
  have hr2 := hrd.c2
  have a0 : w1.cell? ⟨w.heap.size, 0, none⟩ = some (.int .u64 0) := hz0.cell 0
  have a1 : w1.cell? ⟨w.heap.size, 1, none⟩ = some (.int .i64 0) := hz0.cell 1
  have a2 : w1.cell? ⟨w.heap.size, 2, none⟩ = some (.bool false) := hz0.cell 2
  have a3 : w1.cell? ⟨w.heap.size, 3, none⟩ = some (.string ⟨#[]⟩) := hz0.cell 3
  have a4 : w1.cell? ⟨w.heap.size, 4, none⟩ = some (.int .i64 0) := hz0.cell 4
  have a5 : w1.cell? ⟨w.heap.size, 5, none⟩ = some (.int .i64 0) := hz0.cell 5
  have fa := hz0.free
  have c0 : w1.cell? ⟨w.heap.size + 1, 0, none⟩ = some (.int .u64 0) := hz1.cell 0
  have c1 : w1.cell? ⟨w.heap.size + 1, 1, none⟩ = some (.int .i64 0) := hz1.cell 1
  have c2 : w1.cell? ⟨w.heap.size + 1, 2, none⟩ = some (.bool false) := hz1.cell 2
  have c3 : w1.cell? ⟨w.heap.size + 1, 3, none⟩ = some (.string ⟨#[]⟩) := hz1.cell 3
  have c4 : w1.cell? ⟨w.heap.size + 1, 4, none⟩ = some (.int .i64 0) := hz1.cell 4
  have c5 : w1.cell? ⟨w.heap.size + 1, 5, none⟩ = some (.int .i64 0) := hz1.cell 5
  have fc := hz1.free
  have hne : b ≠ w.heap.size := by omega
  have hne1 : b ≠ w.heap.size + 1 := by omega
  go_wp2_with fail
  have HL : Hid (Left T w w1 b s (rdStr s i e).2.1 (rdStr s i e).2.2) := left_of ⟨hrd, hgb⟩ (((Below.refl _ _).alloc (Nat.le_refl _) _).alloc (by simp) _)
  have HZ := Lib.hid hz0
  have HV : Hid (rdVal s i e 3 most = mk 0 0 false (rdStr s i e).1 (rdStr s i e).2.1 (rdStr s i e).2.2) := by show _ = _; rfl
  have HE : Hid (rdEnd s i e 3 most = (rdStr s i e).2) := by show _ = _; rfl
  clear hrd hgb hz0 hz1
  go_region
  go_wp2
  refine bodyPost_ret (v := mk 0 0 false (rdStr s i e).1 (rdStr s i e).2.1 (rdStr s i e).2.2) ?hres rfl ⟨by rw [HV.out], ?hleft⟩
  case hres =>
    refine results_cell_row rfl _ _ w.heap.size 48 _ (0, 0) _ rfl ?_ Try.underlying48 rfl (by kernel_rfl)
    show Whole (World.drew _) w.heap.size _ _
    refine Whole.drew ?_
    refine put6 (cs := zeroes) ?_ rfl
    exact ((HZ.out.other (by simp) _).other (by simp) _).other (by simp) _
  case hleft =>
    rw [HE.out]
    refine left_drew ?_
    iterate 9 (refine left_far ?_ hlt (by simp) _)
    exact HL.out

set_option maxHeartbeats 400000 in
theorem read4 (T : TypeId) (b : Nat) (s : ByteArray) (i e most : Int) (w : World) (hs : s.size ≤ 281474976710656) (hm : most ≤ 9223372036854775807) (h : Rd T w b s i e) :
    Calls Try.prog 26 #[.pointer (some ⟨b, 0, none⟩), .int .i64 4, .int .i64 most] w (ReadPost T w b s i e 4 most) := by
  have hlt := Whole.lt h
  have hnm := rdCount_le s i e most hm
  go_enter Try.func26, Try.ntmps26
  go_wp2_with fail
  refine (count_any T b s i e most _ hs hm ((Whole.alloc h _).alloc _)).mono ?_
  rintro f w1 ⟨rfl, hl⟩
  obtain ⟨hrd, hgb⟩ := hl
  have hz0 : Whole w1 w.heap.size zeroes 48 := ((Whole.new w zeroes _).alloc _).grown hgb (fun e => by injection e; omega)
  have hz1 : Whole w1 (w.heap.size + 1) zeroes 48 := by
    have := Whole.new (w.alloc (.cells zeroes 48)) zeroes 48
    simp only [World.size_alloc] at this
    exact this.grown hgb (fun e => by injection e; omega)
  have hr1 := hrd.c1
  have hr2 := hrd.c2
  have a0 : w1.cell? ⟨w.heap.size, 0, none⟩ = some (.int .u64 0) := hz0.cell 0
  have a1 : w1.cell? ⟨w.heap.size, 1, none⟩ = some (.int .i64 0) := hz0.cell 1
  have a2 : w1.cell? ⟨w.heap.size, 2, none⟩ = some (.bool false) := hz0.cell 2
  have a3 : w1.cell? ⟨w.heap.size, 3, none⟩ = some (.string ⟨#[]⟩) := hz0.cell 3
  have a4 : w1.cell? ⟨w.heap.size, 4, none⟩ = some (.int .i64 0) := hz0.cell 4
  have a5 : w1.cell? ⟨w.heap.size, 5, none⟩ = some (.int .i64 0) := hz0.cell 5
  have fa := hz0.free
  have c0 : w1.cell? ⟨w.heap.size + 1, 0, none⟩ = some (.int .u64 0) := hz1.cell 0
  have c1 : w1.cell? ⟨w.heap.size + 1, 1, none⟩ = some (.int .i64 0) := hz1.cell 1
  have c2 : w1.cell? ⟨w.heap.size + 1, 2, none⟩ = some (.bool false) := hz1.cell 2
  have c3 : w1.cell? ⟨w.heap.size + 1, 3, none⟩ = some (.string ⟨#[]⟩) := hz1.cell 3
  have c4 : w1.cell? ⟨w.heap.size + 1, 4, none⟩ = some (.int .i64 0) := hz1.cell 4
  have c5 : w1.cell? ⟨w.heap.size + 1, 5, none⟩ = some (.int .i64 0) := hz1.cell 5
  have fc := hz1.free
  have hne : b ≠ w.heap.size := by omega
  have hne1 : b ≠ w.heap.size + 1 := by omega
  go_wp2_with fail
  have HL : Hid (Left T w w1 b s (rdCount s i e most).2.1 (rdCount s i e most).2.2) := left_of ⟨hrd, hgb⟩ (((Below.refl _ _).alloc (Nat.le_refl _) _).alloc (by simp) _)
  have HZ := Lib.hid hz0
  have HV : Hid (rdVal s i e 4 most = mk (rdCount s i e most).1 0 false [] (rdCount s i e most).2.1 (rdCount s i e most).2.2) := by show _ = _; rfl
  have HE : Hid (rdEnd s i e 4 most = (rdCount s i e most).2) := by show _ = _; rfl
  clear hrd hgb hz0 hz1
  go_region
  go_wp2
  refine bodyPost_ret (v := mk (rdCount s i e most).1 0 false [] (rdCount s i e most).2.1 (rdCount s i e most).2.2) ?hres rfl ⟨by rw [HV.out], ?hleft⟩
  case hres =>
    refine results_cell_row rfl _ _ w.heap.size 48 _ (0, 0) _ rfl ?_ Try.underlying48 rfl (by kernel_rfl)
    show Whole (World.drew _) w.heap.size _ _
    refine Whole.drew ?_
    refine put6 (cs := zeroes) ?_ rfl
    exact ((HZ.out.other (by simp) _).other (by simp) _).other (by simp) _
  case hleft =>
    rw [HE.out]
    refine left_drew ?_
    iterate 9 (refine left_far ?_ hlt (by simp) _)
    exact HL.out


theorem lawread_any (T : TypeId) (b : Nat) (s : ByteArray) (i e kind most : Int) (w : World) (hs : s.size ≤ 281474976710656) (hm : most ≤ 9223372036854775807) (h0 : 0 ≤ kind) (h4 : kind < 5) (h : Rd T w b s i e) :
    Calls Try.prog 26 #[.pointer (some ⟨b, 0, none⟩), .int .i64 kind, .int .i64 most] w (ReadPost T w b s i e kind most) := by
  have hc : kind = 0 ∨ kind = 1 ∨ kind = 2 ∨ kind = 3 ∨ kind = 4 := by omega
  rcases hc with rfl | rfl | rfl | rfl | rfl
  · exact read0 T b s i e most w hs h
  · exact read1 T b s i e most w hs h
  · exact read2 T b s i e most w hs h
  · exact read3 T b s i e most w hs h
  · exact read4 T b s i e most w hs hm h

end Go.Proofs.Ytjpcnnofjfmkeaa
