/- The statement CodecReads returns true: its walk. -/
import Derived.Test.YtjpcnnofjfmkeaaLawRead
import Derived.Test.YtjpcnnofjfmkeaaNextB
import Derived.Test.YtjpcnnofjfmkeaaFit
import Derived.Test.YtjpcnnofjfmkeaaPrefWalk
import Derived.Deep.RegionHeld3
import Derived.Deep.DrawnRows
import Derived.Deep.QuietTactic
import Derived.BigQuiet
namespace Go.Proofs.Ytjpcnnofjfmkeaa
open Go.RowKit

theorem rdVal_form (s : ByteArray) (i e kind most : Int) : ∃ (u : Nat) (n : Int) (t : Bool) (l : List UInt8), rdVal s i e kind most = mk u n t l (rdEnd s i e kind most).1 (rdEnd s i e kind most).2 := by
  unfold rdVal rdEnd
  split
  · exact ⟨_, _, _, _, rfl⟩
  · split
    · exact ⟨_, _, _, _, rfl⟩
    · split
      · exact ⟨_, _, _, _, rfl⟩
      · split
        · exact ⟨_, _, _, _, rfl⟩
        · exact ⟨_, _, _, _, rfl⟩

def big : Int := 9223372036854775807
theorem end_uint (s : ByteArray) (i e : Int) (hs : (s.size : Int) ≤ big) (hi : i ≤ big) : (rdUint s i e).2.1 ≤ big := by
  unfold rdUint
  split
  · exact hi
  · split
    · exact hi
    · rename_i h
      have := restL_pos h (Num.decN_le (restL s i)).1
      simp only; omega
theorem end_count (s : ByteArray) (i e most : Int) (hs : (s.size : Int) ≤ big) (hi : i ≤ big) : (rdCount s i e most).2.1 ≤ big := by
  unfold rdCount
  split
  · exact hi
  · split
    · exact hi
    · split
      · exact hi
      · rename_i h _
        have := restL_pos h (Num.decN_le (restL s i)).1
        simp only; omega
theorem end_bool (s : ByteArray) (i e : Int) (hs : (s.size : Int) ≤ big) (hi : i ≤ big) : (rdBool s i e).2.1 ≤ big := by
  unfold rdBool
  split
  · exact hi
  · cases hr : restL s i with
    | nil => exact hi
    | cons x l =>
      have := restL_pos (s := s) (i := i) (k := 1) (by decide) (by rw [hr]; simp)
      show (if 1 < x.toNat then (false, i, (3 : Int)) else (x.toNat == 1, i + 1, 0)).2.1 ≤ big
      by_cases hx : 1 < x.toNat
      · rw [if_pos hx]; exact hi
      · rw [if_neg hx]; show i + 1 ≤ big; omega
theorem end_str (s : ByteArray) (i e : Int) (hs : (s.size : Int) ≤ big) (hi : i ≤ big) : (rdStr s i e).2.1 ≤ big := by
  unfold rdStr
  split
  · exact hi
  · split
    · exact hi
    · rename_i h
      have hle := (Num.decN_le (restL s i)).1
      have := restL_pos (s := s) (i := i) (k := (Num.decN (restL s i)).2 + (Num.decN (restL s i)).1) (by omega) (by omega)
      simp only; omega
theorem end_le (s : ByteArray) (i e kind most : Int) (hs : (s.size : Int) ≤ big) (hi : i ≤ big) : (rdEnd s i e kind most).1 ≤ big := by
  unfold rdEnd
  repeat' split
  · exact end_uint s i e hs hi
  · exact end_uint s i e hs hi
  · exact end_bool s i e hs hi
  · exact end_str s i e hs hi
  · exact end_count s i e most hs hi

theorem eql_mk (u : Nat) (n : Int) (t : Bool) (l : List UInt8) (a e : Int) (W : World) : (binOp .neq 48 (mk u n t l a e) (mk u n t l a e)).run Try.prog W = .ok (.bool false) W := by
  have hS : Try.prog.underlying 48 = some (.struct (Try.prog.fieldsOf 48)) := by kernel_rfl
  have hp : Try.prog.stoodInHeld 48 = false := by kernel_rfl
  unfold mk
  rw [run_neq_struct, run_equalIn_agg W 9999 _ _ _ hS hp]
  simp only [Program.fieldsOf, Try.underlying48]
  go_simp

theorem reads_held {T : TypeId} {W w' : World} {g R b u : Nat} {n a r a' r' : Int} {t : Bool} {l : List UInt8} {s : ByteArray}
    (h : W.cell? ⟨g, 0, none⟩ = some (.int .u64 u) ∧ W.cell? ⟨g, 1, none⟩ = some (.int .i64 n) ∧ W.cell? ⟨g, 2, none⟩ = some (.bool t) ∧ W.cell? ⟨g, 3, none⟩ = some (.string (str l)) ∧ W.cell? ⟨g, 4, none⟩ = some (.int .i64 a') ∧ W.cell? ⟨g, 5, none⟩ = some (.int .i64 r') ∧ W.cell? ⟨R, 0, none⟩ = some (.string s) ∧ W.cell? ⟨b, 0, none⟩ = some (.string s))
    (hg : W.grownBy w' (some b)) (hrd : Rd T w' b s a r) (h1 : b ≠ g) (h2 : b ≠ R) :
    w'.cell? ⟨g, 0, none⟩ = some (.int .u64 u) ∧ w'.cell? ⟨g, 1, none⟩ = some (.int .i64 n) ∧ w'.cell? ⟨g, 2, none⟩ = some (.bool t) ∧ w'.cell? ⟨g, 3, none⟩ = some (.string (str l)) ∧ w'.cell? ⟨g, 4, none⟩ = some (.int .i64 a') ∧ w'.cell? ⟨g, 5, none⟩ = some (.int .i64 r') ∧ w'.cell? ⟨R, 0, none⟩ = some (.string s) ∧ w'.cell? ⟨b, 0, none⟩ = some (.string s) := by
  obtain ⟨c0, c1, c2, c3, c4, c5, c6, _⟩ := h
  have e1 : some g ≠ some b := fun e => h1 (by injection e with e; exact e.symm)
  have e2 : some R ≠ some b := fun e => h2 (by injection e with e; exact e.symm)
  exact ⟨hg.cell c0 e1, hg.cell c1 e1, hg.cell c2 e1, hg.cell c3 e1, hg.cell c4 e1, hg.cell c5 e1, hg.cell c6 e2, hrd.c0⟩

set_option maxRecDepth 100000 in
set_option maxHeartbeats 1000000 in
theorem reads_walk (s : ByteArray) (i e : Int) (A : Option Addr) (cap : Nat) (zs : List Int) (most : Int) (w : World) (hs : s.size ≤ 140737488351232) (hi : i ≤ 9223372036854775807) (hA : Ints .u8 w A zs)
    (hz : ∀ z ∈ zs, 0 ≤ z ∧ z ≤ 255) (hl : zs.length ≤ 9223372036854775807) (hm : most ≤ 9223372036854775807) :
    Calls Try.prog 5 #[.agg #[.string s, .int .i64 i, .int .i64 e], .slice A zs.length cap, .int .i64 most] w fun e w' => e = .returned (.bool true) ∧ Below w.heap.size w w' := by
  by_cases hbig : 50 < zs.length
  · go_enter Try.func5, Try.ntmps5
    go_wp2_with fail
    refine (fit_any _).mono ?_
    rintro f w1 ⟨rfl, hb1⟩
    go_wp2_with fail
    go_ret
    exact ⟨rfl, ((Below.refl _ _).alloc (Nat.le_refl _) _).trans (hb1.mono (by simp))⟩
  · have hl50 : zs.length ≤ 50 := by omega
    clear hbig hl
    go_enter Try.func5, Try.ntmps5
    go_wp2_with fail
    refine (fit_any _).mono ?_
    rintro f w1 ⟨rfl, hb1⟩
    have hr1 : Whole w1 w.heap.size #[.string s, .int .i64 i, .int .i64 e] 37 := (Whole.new w _ _).below hb1 (by simp)
    have hsz1 := hb1.size
    simp only [World.size_alloc] at hsz1
    have hB1 : Below w.heap.size w w1 := ((Below.refl _ _).alloc (Nat.le_refl _) _).trans (hb1.mono (by simp))
    have hA1 := hA.below hB1
    have HB1 := Lib.hid hB1
    have c0 : w1.cell? ⟨w.heap.size, 0, none⟩ = some (.string s) := hr1.cell 0
    have c1 : w1.cell? ⟨w.heap.size, 1, none⟩ = some (.int .i64 i) := hr1.cell 1
    have c2 : w1.cell? ⟨w.heap.size, 2, none⟩ = some (.int .i64 e) := hr1.cell 2
    have ht : w.heap.size < w1.heap.size := by omega
    clear hb1 hA hB1
    go_wp2_with fail
    go_quiet (fail)
    go_wp2_with fail
    go_loopw [8, 9, 27] (fun v8 v9 v27 wr => ∃ (k : Nat) (a r : Int), k ≤ zs.length ∧ v27 = .int .i64 k ∧ v8 = .int .i64 a ∧ v9 = .int .i64 r ∧ a ≤ big ∧ Rd 37 wr w1.heap.size s a r ∧ Below w1.heap.size w1 wr) (fun _ _ v27 _ => zs.length - (intOf v27).toNat)
    case atStart => exact ⟨0, i, e, Nat.zero_le _, rfl, rfl, rfl, hi, Whole.drewN (Whole.new _ _ _) _, below_drewN' ((Below.refl _ _).alloc (Nat.le_refl _) _) _⟩
    case round =>
      obtain ⟨wo, hwo⟩ : ∃ wo : World, wr = wo := ⟨_, rfl⟩
      subst hwo
      obtain ⟨k, a, r, hk, rfl, rfl, rfl, ha, hrd, hbel⟩ := hrel
      have hrw := hr1.below hbel ht
      have hszw := hbel.size
      have r0 : wr.cell? ⟨w.heap.size, 0, none⟩ = some (.string s) := hrw.cell 0
      by_cases hlt : k < zs.length
      · obtain ⟨xb, xo, rfl, hxb, hxc⟩ := hA1.below hbel k hlt
        have hp0 : (k : Int) < (zs.length : Int) := by omega
        obtain ⟨z0, z1⟩ := hz (zs.getD k 0) (by simp [List.getD, hlt])
        obtain ⟨z, hzz⟩ : ∃ z, zs.getD k 0 = z := ⟨_, rfl⟩
        rw [hzz] at hxc z0 z1
        clear hzz
        obtain ⟨u, n, t, l, hv⟩ := rdVal_form s a r (z % 5) most
        have hel := end_le s a r (z % 5) most (by unfold big; omega) ha
        have hN := fun W => next_any s a r (z % 5) most W (by omega) ha hm (by omega) (by omega)
        have hL := fun W hW => lawread_any 37 w1.heap.size s a r (z % 5) most W (by omega) hm (by omega) (by omega) hW
        unfold ReadPost at hL
        rw [hv] at hN hL
        generalize rdEnd s a r (z % 5) most = en at hN hL hel
        obtain ⟨a', r'⟩ := en
        unfold mk at hN hL
        simp only at hN hL hel
        have HN := Lib.hid hN
        have HL := Lib.hid hL
        clear hv hN hL
        go_wp2_with fail
        refine (HN.out _).mono ?_
        rintro f w2 ⟨rfl, hb2⟩
        go_wp2_with fail
        have hsz2 := hb2.size
        obtain ⟨W, hW⟩ : ∃ W, w2.alloc (.cells #[.int .u64 u, .int .i64 n, .bool t, .string (str l), .int .i64 a', .int .i64 r'] 48) = W := ⟨_, rfl⟩
        have hg0 : Whole W w2.heap.size #[.int .u64 u, .int .i64 n, .bool t, .string (str l), .int .i64 a', .int .i64 r'] 48 := by rw [← hW]; exact Whole.new _ _ _
        have hbW : Below wr.heap.size wr W := by rw [← hW]; exact hb2.alloc hsz2 _
        rw [hW]
        have hrdW : Rd 37 W w1.heap.size s a r := Whole.below hrd hbW (Whole.lt hrd)
        have hrwW := hrw.below hbW hrw.lt
        have hWs : W.heap.size = w2.heap.size + 1 := by rw [← hW]; simp
        have hS : (W.cell? ⟨w2.heap.size, 0, none⟩ = some (.int .u64 u) ∧ W.cell? ⟨w2.heap.size, 1, none⟩ = some (.int .i64 n) ∧ W.cell? ⟨w2.heap.size, 2, none⟩ = some (.bool t) ∧ W.cell? ⟨w2.heap.size, 3, none⟩ = some (.string (str l)) ∧ W.cell? ⟨w2.heap.size, 4, none⟩ = some (.int .i64 a') ∧ W.cell? ⟨w2.heap.size, 5, none⟩ = some (.int .i64 r') ∧ W.cell? ⟨w.heap.size, 0, none⟩ = some (.string s) ∧ W.cell? ⟨w1.heap.size, 0, none⟩ = some (.string s)) := ⟨hg0.cell 0, hg0.cell 1, hg0.cell 2, hg0.cell 3, hg0.cell 4, hg0.cell 5, hrwW.cell 0, hrdW.c0⟩
        have hneq : ∀ X : World, (binOp .neq 48 (.agg #[.int .u64 u, .int .i64 n, .bool t, .string (str l), .int .i64 a', .int .i64 r']) (.agg #[.int .u64 u, .int .i64 n, .bool t, .string (str l), .int .i64 a', .int .i64 r'])).run Try.prog X = .ok (.bool false) X := fun X => eql_mk u n t l a' r' X
        have hltw := Whole.lt hrd
        have hn1 : w1.heap.size ≠ w2.heap.size := by omega
        have hn2 : w1.heap.size ≠ w.heap.size := by omega
        clear hW hrd hrw hb2
        go_region_held3 (fun w' => w'.cell? ⟨w2.heap.size, 0, none⟩ = some (.int .u64 u) ∧ w'.cell? ⟨w2.heap.size, 1, none⟩ = some (.int .i64 n) ∧ w'.cell? ⟨w2.heap.size, 2, none⟩ = some (.bool t) ∧ w'.cell? ⟨w2.heap.size, 3, none⟩ = some (.string (str l)) ∧ w'.cell? ⟨w2.heap.size, 4, none⟩ = some (.int .i64 a') ∧ w'.cell? ⟨w2.heap.size, 5, none⟩ = some (.int .i64 r') ∧ w'.cell? ⟨w.heap.size, 0, none⟩ = some (.string s) ∧ w'.cell? ⟨w1.heap.size, 0, none⟩ = some (.string s))
          (first | exact hS | exact reads_held (by assumption) (by assumption) (by assumption) hn1 hn2 | assumption)
          (first | (go_at_call 26; refine (HL.out _ (Whole.drew hrdW)).mono ?_; rintro f w4 ⟨rfl, hrd4, hg4⟩))
        rename_i hHF
        have e4 := hHF.2.2.2.2.1
        have e5 := hHF.2.2.2.2.2.1
        have hb4 : Below w1.heap.size w1 w4 := ((hbel.trans (hbW.mono hszw)).drew).grown hg4 (by show w1.heap.size ≤ W.heap.size; omega) (fun q hq => by injection hq; omega)
        have HB4 := Lib.hid hb4
        have HR4 := Lib.hid hrd4
        clear hrd4 hg4 hHF hrdW hrwW hS hb4 hbW hneq
        go_wp2_with fail
        go_quiet (fail)
        go_wp2_with fail
        go_roundw
        case rel => exact ⟨k + 1, a', r', by omega, by go_num, rfl, rfl, hel, Whole.drewN HR4.out _, below_drewN' HB4.out _⟩
        case measure => simp [intOf]; omega
      · have hd := fun W hW => done_any 37 w1.heap.size s a r W (by omega) hW
        have hfin : ∀ n, Below w.heap.size w (wr.drewN n) := fun n => below_drewN' (HB1.out.trans (hbel.mono (by omega))) n
        have y1 := hrd.c1
        have y2 := hrd.c2
        have HF := Lib.hid hfin
        clear hfin
        by_cases hr0 : r = 0
        · subst hr0
          by_cases has : a = s.size
          · have hdv : rdDone s a 0 = 0 := by unfold rdDone; rw [if_neg (by decide), if_neg (by simpa using has)]
            have hab : (a != (s.size : Int)) = false := by simpa using has
            rw [hdv] at hd
            have HD := Lib.hid hd
            clear hd hdv has
            go_wp2_with fail
            refine (HD.out _ hrd).mono ?_
            rintro f w5 ⟨rfl, n5, rfl⟩
            go_wp2_with fail
            go_ret
            exact ⟨by simp, HF.out n5⟩
          · have hdv : rdDone s a 0 = 3 := by unfold rdDone; rw [if_neg (by decide), if_pos has]
            have hab : (a != (s.size : Int)) = true := by simpa using has
            rw [hdv] at hd
            have HD := Lib.hid hd
            clear hd hdv has
            go_wp2_with fail
            refine (HD.out _ hrd).mono ?_
            rintro f w5 ⟨rfl, n5, rfl⟩
            go_wp2_with fail
            go_ret
            exact ⟨by simp, HF.out n5⟩
        · have hdv : rdDone s a r = r := by unfold rdDone; rw [if_pos hr0]
          have hrb : (r == 0) = false := by simpa using hr0
          rw [hdv] at hd
          have HD := Lib.hid hd
          clear hd hdv hr0
          go_wp2_with fail
          refine (HD.out _ hrd).mono ?_
          rintro f w5 ⟨rfl, n5, rfl⟩
          go_wp2_with fail
          go_ret
          exact ⟨by simp, HF.out n5⟩

end Go.Proofs.Ytjpcnnofjfmkeaa
