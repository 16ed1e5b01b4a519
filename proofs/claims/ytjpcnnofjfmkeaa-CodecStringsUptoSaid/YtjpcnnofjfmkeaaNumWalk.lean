/- The statement CodecNumbers returns true: its walk. -/
import Derived.Test.YtjpcnnofjfmkeaaFit
import Derived.Test.YtjpcnnofjfmkeaaSeq
import Derived.Lib.MinMax
import Derived.Deep.RegionHeld3
import Derived.Deep.DrawnRows
namespace Go.Proofs.Ytjpcnnofjfmkeaa
open Go.RowKit

/-- The two arrays that came in, in their boxes. -/
def Boxes (w : World) (b : Nat) (u0 u1 : Nat) (n0 n1 : Int) : Prop :=
  Whole w b #[.int .u64 u0, .int .u64 u1] 23 ∧ Whole w (b + 1) #[.int .i64 n0, .int .i64 n1] 24
section
variable {w w' : World} {b u0 u1 : Nat} {n0 n1 : Int}
theorem Boxes.below {B : Nat} (h : Boxes w b u0 u1 n0 n1) (hb : Below B w w') (hB : b + 1 < B) : Boxes w' b u0 u1 n0 n1 := ⟨h.1.below hb (by omega), h.2.below hb hB⟩
theorem Boxes.drewN (h : Boxes w b u0 u1 n0 n1) (n : Nat) : Boxes (w.drewN n) b u0 u1 n0 n1 := h
theorem Boxes.cells (h : Boxes w b u0 u1 n0 n1) : w.cell? ⟨b, 0, none⟩ = some (.int .u64 u0) ∧ w.cell? ⟨b, 1, none⟩ = some (.int .u64 u1) ∧ w.cell? ⟨b + 1, 0, none⟩ = some (.int .i64 n0) ∧ w.cell? ⟨b + 1, 1, none⟩ = some (.int .i64 n1) :=
  ⟨h.1.cell 0, h.1.cell 1, h.2.cell 0, h.2.cell 1⟩
theorem boxes_new (w : World) (u0 u1 : Nat) (n0 n1 : Int) : Boxes ((w.alloc (.cells #[.int .u64 u0, .int .u64 u1] 23)).alloc (.cells #[.int .i64 n0, .int .i64 n1] 24)) w.heap.size u0 u1 n0 n1 := by
  refine ⟨(Whole.new w _ _).alloc _, ?_⟩
  have := Whole.new (w.alloc (.cells #[.int .u64 u0, .int .u64 u1] 23)) #[.int .i64 n0, .int .i64 n1] 24
  simpa using this
end
theorem add_byte (S : ByteArray) (x : UInt8) : (S ++ ⟨#[x]⟩).data.toList = S.data.toList ++ [x] ∧ (S ++ ⟨#[x]⟩).size = S.size + 1 := by
  constructor
  · rw [ByteArray.data_append]; simp
  · rw [ByteArray.size_append]; rfl

theorem cell_kept {w w' : World} {a : Addr} {v : Value} (h : w.cell? a = some v) (hb : Below w.heap.size w w') : w'.cell? a = some v := (hb.cell (World.block_lt_of_cell? w a h)).trans h
section
variable {w0 w w' : World} {b u0 u1 : Nat} {n0 n1 : Int}
theorem held_next (h : w.cell? ⟨b, 0, none⟩ = some (.int .u64 u0) ∧ w.cell? ⟨b, 1, none⟩ = some (.int .u64 u1) ∧ w.cell? ⟨b + 1, 0, none⟩ = some (.int .i64 n0) ∧ w.cell? ⟨b + 1, 1, none⟩ = some (.int .i64 n1) ∧ Below w0.heap.size w0 w) (hb : Below w.heap.size w w') :
    w'.cell? ⟨b, 0, none⟩ = some (.int .u64 u0) ∧ w'.cell? ⟨b, 1, none⟩ = some (.int .u64 u1) ∧ w'.cell? ⟨b + 1, 0, none⟩ = some (.int .i64 n0) ∧ w'.cell? ⟨b + 1, 1, none⟩ = some (.int .i64 n1) ∧ Below w0.heap.size w0 w' :=
  ⟨cell_kept h.1 hb, cell_kept h.2.1 hb, cell_kept h.2.2.1 hb, cell_kept h.2.2.2.1 hb, h.2.2.2.2.trans (hb.mono h.2.2.2.2.size)⟩
end
theorem held_grown {w0 w w' : World} {b g u0 u1 : Nat} {n0 n1 : Int} (h : w.cell? ⟨b, 0, none⟩ = some (.int .u64 u0) ∧ w.cell? ⟨b, 1, none⟩ = some (.int .u64 u1) ∧ w.cell? ⟨b + 1, 0, none⟩ = some (.int .i64 n0) ∧ w.cell? ⟨b + 1, 1, none⟩ = some (.int .i64 n1) ∧ Below w0.heap.size w0 w) (hg : w.grownBy w' (some g)) (h0 : b + 1 < w0.heap.size) (h1 : w0.heap.size ≤ g) :
    w'.cell? ⟨b, 0, none⟩ = some (.int .u64 u0) ∧ w'.cell? ⟨b, 1, none⟩ = some (.int .u64 u1) ∧ w'.cell? ⟨b + 1, 0, none⟩ = some (.int .i64 n0) ∧ w'.cell? ⟨b + 1, 1, none⟩ = some (.int .i64 n1) ∧ Below w0.heap.size w0 w' :=
  ⟨hg.cell h.1 (by simp; omega), hg.cell h.2.1 (by simp; omega), hg.cell h.2.2.1 (by simp; omega), hg.cell h.2.2.2.1 (by simp; omega), h.2.2.2.2.grown hg h.2.2.2.2.size (fun k hk => by injection hk; omega)⟩
/-- A Writer stays while nothing that is there is turned. -/
theorem Wr.keep {T E : TypeId} {w w' : World} {base b : Nat} {l : List UInt8} (h : Wr T E w base b l) (hb : Below w.heap.size w w') : Wr T E w' base b l := by
  obtain ⟨A, c, h1, h2, h3⟩ := h
  exact ⟨A, c, h1.below hb h1.lt, h2, h3.kept (gb_of_below hb none) (by cases hv : (Value.slice A l.length c).ownBlock <;> simp)⟩

set_option maxRecDepth 100000 in
set_option maxHeartbeats 1000000 in
theorem numbers_walk (u0 u1 : Nat) (n0 n1 c : Int) (w : World) (hu0 : u0 < Num.top) (hu1 : u1 < Num.top) (hn0 : -9223372036854775808 ≤ n0 ∧ n0 ≤ 9223372036854775807) (hn1 : -9223372036854775808 ≤ n1 ∧ n1 ≤ 9223372036854775807) (hc : c ≤ 9223372036854775807) :
    Calls Try.prog 3 #[.agg #[.int .u64 u0, .int .u64 u1], .agg #[.int .i64 n0, .int .i64 n1], .int .i64 c] w fun e w' => e = .returned (.bool true) ∧ Below w.heap.size w w' := by
  obtain ⟨hn0a, hn0b⟩ := hn0
  obtain ⟨hn1a, hn1b⟩ := hn1
  obtain ⟨k, hk⟩ : ∃ k : Nat, k = c.toNat := ⟨_, rfl⟩
  have hmx : max c 0 = (k : Int) := by omega
  have hkb : (k : Int) ≤ 9223372036854775807 := by omega
  have hkt : k < Num.top := by unfold Num.top; omega
  have HK := Lib.hid hk
  clear hk
  go_enter Try.func3, Try.ntmps3
  go_wp2_with fail
  refine (fit_any _).mono ?_
  rintro e w1 ⟨rfl, hb1⟩
  have hx1 := (boxes_new w u0 u1 n0 n1).below hb1 (by simp)
  have hs1 := hb1.size
  simp only [World.size_alloc] at hs1
  have HB1 : Hid (Below w.heap.size w w1) := (((Below.refl _ _).alloc (Nat.le_refl _) _).alloc (by simp) _).trans (hb1.mono (by simp; omega))
  clear hb1
  obtain ⟨x0, x1, x2, x3⟩ := hx1.cells
  have ht0 : w.heap.size < w1.heap.size := by omega
  have ht1 : w.heap.size + 1 < w1.heap.size := by omega
  go_wp2_with fail
  refine (wuint_int 28 (by decide) _ u0 w1.heap.size _ [] _ rfl hu0 (by decide) (Wr.new (Nat.le_refl _))).mono ?_
  rintro e w2 ⟨rfl, hw2, hb2⟩
  have hx2 := (hx1.below ((Below.refl w1.heap.size w1).alloc (Nat.le_refl _) (.cells #[.slice none 0 0] 28)) (by omega)).below hb2 (by omega)
  have hs2 := hb2.size
  simp only [World.size_alloc] at hs2
  have HB2 : Hid (Below w1.heap.size w1 w2) := ((Below.refl _ _).alloc (Nat.le_refl _) _).trans hb2
  clear x0 x1 x2 x3 hb2
  obtain ⟨x0, x1, x2, x3⟩ := hx2.cells
  have hl0 := Num.enc_len10 hu0
  have hl1 := Num.enc_len10 (Num.zig_lt hn0a hn0b)
  have hl2 := Num.enc_len10 hkt
  have hl3 := Num.enc_len10 hu1
  have hl4 := Num.enc_len10 (Num.zig_lt hn1a hn1b)
  go_wp2_with fail
  refine (wint_any 28 (by decide) n0 w1.heap.size _ _ _ hn0a hn0b (by simp; omega) hw2).mono ?_
  rintro e w3 ⟨rfl, hw3, hb3⟩
  have hx3 := hx2.below hb3 (by omega)
  have hs3 := hb3.size
  have HB3 := Lib.hid hb3
  clear x0 x1 x2 x3 hw2 hb3
  obtain ⟨x0, x1, x2, x3⟩ := hx3.cells
  go_wp2_with fail
  refine (wbool_any 28 (by decide) _ w1.heap.size _ _ _ (by simp; omega) hw3).mono ?_
  rintro e w4 ⟨rfl, hw4, hb4⟩
  have hx4 := hx3.below hb4 (by omega)
  have hs4 := hb4.size
  have HB4 := Lib.hid hb4
  clear x0 x1 x2 x3 hw3 hb4
  obtain ⟨x0, x1, x2, x3⟩ := hx4.cells
  go_wp2_with fail
  refine (wcount_any 28 (by decide) c w1.heap.size _ _ _ hc (by simp [tb]; omega) hw4).mono ?_
  rintro e w5 ⟨rfl, hw5, hb5⟩
  rw [← HK.out] at hw5
  have hx5 := hx4.below hb5 (by omega)
  have hs5 := hb5.size
  have HB5 := Lib.hid hb5
  clear x0 x1 x2 x3 hw4 hb5
  obtain ⟨x0, x1, x2, x3⟩ := hx5.cells
  go_wp2_with fail
  refine (wuint_int 28 (by decide) _ u1 w1.heap.size _ _ _ rfl hu1 (by simp [tb]; omega) hw5).mono ?_
  rintro e w6 ⟨rfl, hw6, hb6⟩
  have hx6 := hx5.below hb6 (by omega)
  have hs6 := hb6.size
  have HB6 := Lib.hid hb6
  clear x0 x1 x2 x3 hw5 hb6
  obtain ⟨x0, x1, x2, x3⟩ := hx6.cells
  go_wp2_with fail
  refine (wint_any 28 (by decide) n1 w1.heap.size _ _ _ hn1a hn1b (by simp [tb]; omega) hw6).mono ?_
  rintro e w7 ⟨rfl, hw7, hb7⟩
  have hx7 := hx6.below hb7 (by omega)
  have hs7 := hb7.size
  have HB7 := Lib.hid hb7
  clear x0 x1 x2 x3 hw6 hb7
  obtain ⟨x0, x1, x2, x3⟩ := hx7.cells
  go_wp2_with fail
  have hzb0 := Num.zig_lt hn0a hn0b
  have hzb1 := Num.zig_lt hn1a hn1b
  have hq0 : (str (Num.enc u0)).size ≤ 10 := by rw [str_size]; exact hl0
  have hq1 : (str (Num.enc (Num.zig n0))).size ≤ 10 := by rw [str_size]; exact hl1
  have hq2 : (str (Num.enc k)).size ≤ 10 := by rw [str_size]; exact hl2
  have hq3 : (str (Num.enc u1)).size ≤ 10 := by rw [str_size]; exact hl3
  have hq4 : (str (Num.enc (Num.zig n1))).size ≤ 10 := by rw [str_size]; exact hl4
  have had1 : ∀ W : World, (Op.stringOp .add (str (Num.enc u0)) (str (Num.enc (Num.zig n0)))).run Try.prog W = .ok (.string (str (Num.enc u0) ++ str (Num.enc (Num.zig n0)))) W := fun W => run_string_add_sum W _ _ (by omega)
  have hH7 : w7.cell? ⟨w.heap.size, 0, none⟩ = some (.int .u64 u0) ∧ w7.cell? ⟨w.heap.size, 1, none⟩ = some (.int .u64 u1) ∧ w7.cell? ⟨w.heap.size + 1, 0, none⟩ = some (.int .i64 n0) ∧ w7.cell? ⟨w.heap.size + 1, 1, none⟩ = some (.int .i64 n1) ∧ Below w7.heap.size w7 w7 := ⟨x0, x1, x2, x3, Below.refl _ _⟩
  go_region_held3 (fun w' => w'.cell? ⟨w.heap.size, 0, none⟩ = some (.int .u64 u0) ∧ w'.cell? ⟨w.heap.size, 1, none⟩ = some (.int .u64 u1) ∧ w'.cell? ⟨w.heap.size + 1, 0, none⟩ = some (.int .i64 n0) ∧ w'.cell? ⟨w.heap.size + 1, 1, none⟩ = some (.int .i64 n1) ∧ Below w7.heap.size w7 w')
    (first | exact held_next hH7 (Below.drew (Below.refl _ _)) | exact held_next (by assumption) (by assumption) | assumption)
    (first | (go_at_call 16; refine (ruint_any _ _ ?_).mono ?_; (assumption); rintro e w9 ⟨rfl, hb9⟩) | (go_at_call 17; refine (zigzag_any _ _ hn0a hn0b).mono ?_; rintro e w9 ⟨rfl, rfl⟩))
  rename_i hH8
  have hb8 := hH8.2.2.2.2
  have hw8 := hw7.keep hb8
  obtain ⟨w8, hw8e⟩ : ∃ wo : World, w9 = wo := ⟨_, rfl⟩
  rw [hw8e] at hH8 hb8 hw8 ⊢
  obtain ⟨S1, hS1⟩ : ∃ S1, str (Num.enc u0) ++ str (Num.enc (Num.zig n0)) = S1 := ⟨_, rfl⟩
  rw [hS1]
  have hS1l : S1.data.toList = Num.enc u0 ++ Num.enc (Num.zig n0) := by rw [← hS1, str_append]; rfl
  have hS1s : S1.size ≤ 20 := by
    have : S1.size = S1.data.toList.length := rfl
    rw [this, hS1l, List.length_append]; omega
  have HS1 := Lib.hid hS1l
  clear hS1 hS1l hw8e hw7 hH7 had1 x0 x1 x2 x3 hx7
  obtain ⟨S2, hS2l, hS2s, hstep⟩ : ∃ S2 : ByteArray, S2.data.toList = S1.data.toList ++ tb (decide (0 < c)) ∧ S2.size ≤ 21 ∧ ((0 < c ∧ S1 ++ ⟨#[1]⟩ = S2) ∨ (¬ 0 < c ∧ S1 ++ ⟨#[0]⟩ = S2)) := by
    by_cases hcp : 0 < c
    · refine ⟨S1 ++ ⟨#[1]⟩, ?_, ?_, .inl ⟨hcp, rfl⟩⟩
      · rw [decide_eq_true hcp]; exact (add_byte S1 1).1
      · rw [(add_byte S1 1).2]; omega
    · refine ⟨S1 ++ ⟨#[0]⟩, ?_, ?_, .inr ⟨hcp, rfl⟩⟩
      · rw [decide_eq_false hcp]; exact (add_byte S1 0).1
      · rw [(add_byte S1 0).2]; omega
  have HS2 := Lib.hid hS2l
  clear hS2l
  have x0 := hH8.1
  have x1 := hH8.2.1
  have x2 := hH8.2.2.1
  have x3 := hH8.2.2.2.1
  have hs8 := hb8.size
  have HB8 := Lib.hid hb8
  have hH8' : w8.cell? ⟨w.heap.size, 0, none⟩ = some (.int .u64 u0) ∧ w8.cell? ⟨w.heap.size, 1, none⟩ = some (.int .u64 u1) ∧ w8.cell? ⟨w.heap.size + 1, 0, none⟩ = some (.int .i64 n0) ∧ w8.cell? ⟨w.heap.size + 1, 1, none⟩ = some (.int .i64 n1) ∧ Below w8.heap.size w8 w8 := ⟨x0, x1, x2, x3, Below.refl _ _⟩
  clear hH8 hb8
  have hkw : IntKind.u64.wrap (k : Int) = (k : Int) := by rw [IntKind.wrap_u64]; omega
  have hu12 : (str (Num.enc k) ++ str (Num.enc u1)).size ≤ 20 := by rw [ByteArray.size_append]; omega
  have hu123 : (str (Num.enc k) ++ str (Num.enc u1) ++ str (Num.enc (Num.zig n1))).size ≤ 30 := by rw [ByteArray.size_append]; omega
  have had2 : ∀ W : World, (Op.stringOp .add (str (Num.enc k)) (str (Num.enc u1))).run Try.prog W = .ok (.string (str (Num.enc k) ++ str (Num.enc u1))) W := fun W => run_string_add_sum W _ _ (by omega)
  have had3 : ∀ W : World, (Op.stringOp .add (str (Num.enc k) ++ str (Num.enc u1)) (str (Num.enc (Num.zig n1)))).run Try.prog W = .ok (.string (str (Num.enc k) ++ str (Num.enc u1) ++ str (Num.enc (Num.zig n1)))) W := fun W => run_string_add_sum W _ _ (by omega)
  have had4 : ∀ W : World, (Op.stringOp .add S2 (str (Num.enc k) ++ str (Num.enc u1) ++ str (Num.enc (Num.zig n1)))).run Try.prog W = .ok (.string (S2 ++ (str (Num.enc k) ++ str (Num.enc u1) ++ str (Num.enc (Num.zig n1))))) W := fun W => run_string_add_sum W _ _ (by omega)
  have had5 : ∀ (x : UInt8) (W : World), (Op.stringOp .add S1 ⟨#[x]⟩).run Try.prog W = .ok (.string (S1 ++ ⟨#[x]⟩)) W := fun x W => run_string_add_sum W _ _ (by have : (ByteArray.mk #[x]).size = 1 := rfl; omega)
  rcases hstep with ⟨hcp, hS⟩ | ⟨hcp, hS⟩
  all_goals
    go_wp2_with fail
    go_region_held3 (fun w' => w'.cell? ⟨w.heap.size, 0, none⟩ = some (.int .u64 u0) ∧ w'.cell? ⟨w.heap.size, 1, none⟩ = some (.int .u64 u1) ∧ w'.cell? ⟨w.heap.size + 1, 0, none⟩ = some (.int .i64 n0) ∧ w'.cell? ⟨w.heap.size + 1, 1, none⟩ = some (.int .i64 n1) ∧ Below w8.heap.size w8 w')
      (first | exact held_next hH8' (Below.drew (Below.refl _ _)) | exact held_next (by assumption) (by assumption) | assumption)
      (first | (go_at_call 16; refine (ruint_any _ _ ?_).mono ?_; (assumption); rintro e w10 ⟨rfl, hb10⟩) | (go_at_call 17; refine (zigzag_any _ _ hn1a hn1b).mono ?_; rintro e w10 ⟨rfl, rfl⟩))
    rename_i hH10
    have hb10 := hH10.2.2.2.2
    have hw10 := hw8.keep hb10
    obtain ⟨D, hDe⟩ : ∃ D, S2 ++ (str (Num.enc k) ++ str (Num.enc u1) ++ str (Num.enc (Num.zig n1))) = D := ⟨_, rfl⟩
    rw [hDe]
    have hDl : D.data.toList = Num.enc u0 ++ Num.enc (Num.zig n0) ++ tb (decide (0 < c)) ++ Num.enc k ++ Num.enc u1 ++ Num.enc (Num.zig n1) := by
      rw [← hDe, ByteArray.data_append, Array.toList_append, HS2.out, HS1.out, str_append, str_append, str_data]
      simp only [List.append_assoc]
    have hDs : D.size ≤ 60 := by rw [← hDe, ByteArray.size_append]; omega
    have hDs' : D.size ≤ 281474976710656 := by omega
    obtain ⟨q1, q2, q3, q4, q5, q6, r1, r2, r3, r4, r5, r6, r7⟩ := seq_numbers u0 u1 k n0 n1 (decide (0 < c)) hu0 hu1 hzb0 hzb1 hkt D hDl
    obtain ⟨L, hL⟩ : ∃ L, [] ++ Num.enc u0 ++ Num.enc (Num.zig n0) ++ tb (decide (0 < c)) ++ Num.enc k ++ Num.enc u1 ++ Num.enc (Num.zig n1) = L := ⟨_, rfl⟩
    have hstr : str L = D := by rw [← hL, List.nil_append, ← hDl]; rfl
    rw [hL] at hw10
    obtain ⟨A, cp, hwa, hwb, hwo⟩ := hw10
    have hcell : w10.cell? ⟨w1.heap.size, 0, none⟩ = some (.slice A L.length cp) := hwa.cell 0
    have hconv := conv_own hwo
    rw [hstr] at hconv
    have y0 := hH10.1
    have y1 := hH10.2.1
    have y2 := hH10.2.2.1
    have y3 := hH10.2.2.2.1
    have hs10 := hb10.size
    have HB10 := Lib.hid hb10
    have R1 := Lib.hid r1
    have R2 := Lib.hid r2
    have R3 := Lib.hid r3
    have R4 := Lib.hid r4
    have R5 := Lib.hid r5
    have R6 := Lib.hid r6
    have R7 := Lib.hid r7
    clear hDe hDl hL hstr hw8 hb10 r1 r2 r3 r4 r5 r6 r7 had2 had3 had4 had5 hH8' hS
    go_wp2_with fail
    have hH11 : w10.cell? ⟨w.heap.size, 0, none⟩ = some (.int .u64 u0) ∧ w10.cell? ⟨w.heap.size, 1, none⟩ = some (.int .u64 u1) ∧ w10.cell? ⟨w.heap.size + 1, 0, none⟩ = some (.int .i64 n0) ∧ w10.cell? ⟨w.heap.size + 1, 1, none⟩ = some (.int .i64 n1) ∧ Below w10.heap.size w10 w10 := ⟨y0, y1, y2, y3, Below.refl _ _⟩
    have hrd : Rd 37 (w10.alloc (.cells #[.string D, .int .i64 0, .int .i64 0] 37)).drew w10.heap.size D 0 0 := Whole.drew (Whole.new _ _ _)
    have hbt : w.heap.size + 1 < w10.heap.size := by omega
    clear hwa hwb hwo hcell hconv hH10
    go_region_held3 (fun w' => w'.cell? ⟨w.heap.size, 0, none⟩ = some (.int .u64 u0) ∧ w'.cell? ⟨w.heap.size, 1, none⟩ = some (.int .u64 u1) ∧ w'.cell? ⟨w.heap.size + 1, 0, none⟩ = some (.int .i64 n0) ∧ w'.cell? ⟨w.heap.size + 1, 1, none⟩ = some (.int .i64 n1) ∧ Below w10.heap.size w10 w')
      (first | exact held_next hH11 (((Below.refl _ _).alloc (Nat.le_refl _) _).drew) | exact held_grown (by assumption) (by assumption) hbt (Nat.le_refl _) | assumption)
      (first | (go_at_call 18; refine (uint_seq (T := 37) R1.out hDs' ?_).mono ?_; (assumption); rintro e w11 ⟨rfl, hrd1, hg1⟩) | (go_at_call 18; refine (uint_seq (T := 37) R5.out hDs' ?_).mono ?_; (assumption); rintro e w11 ⟨rfl, hrd1, hg1⟩) | (go_at_call 19; refine (int_seq (T := 37) R2.out hDs' ?_).mono ?_; (assumption); rintro e w11 ⟨rfl, hrd1, hg1⟩) | (go_at_call 19; refine (int_seq (T := 37) R6.out hDs' ?_).mono ?_; (assumption); rintro e w11 ⟨rfl, hrd1, hg1⟩) | (go_at_call 20; refine (bool_seq (T := 37) R3.out hDs' ?_).mono ?_; (assumption); rintro e w11 ⟨rfl, hrd1, hg1⟩) | (go_at_call 21; refine (count_seq (T := 37) hkb R4.out hDs' ?_).mono ?_; (assumption); rintro e w11 ⟨rfl, hrd1, hg1⟩) | (go_at_call 22; refine (done_seq (T := 37) R7.out hDs' ?_).mono ?_; (assumption); rintro e w11 ⟨rfl, hrd1, hg1⟩))
    rename_i hHF
    have hbF := hHF.2.2.2.2
    go_wp2_with fail
    go_ret
    have c1 : Below w1.heap.size w1 w7 := ((((HB2.out.trans HB3.out).trans HB4.out).trans HB5.out).trans HB6.out).trans HB7.out
    have c2 : Below w7.heap.size w7 w10 := HB8.out.trans (HB10.out.mono hs8)
    have c3 : Below w7.heap.size w7 _ := c2.trans (hbF.mono (by omega))
    exact ⟨rfl, (HB1.out.trans (c1.mono (by omega))).trans (c3.mono (by omega))⟩

end Go.Proofs.Ytjpcnnofjfmkeaa
