/- The statement CodecCanonical returns true: its walk. -/
import Derived.Test.YtjpcnnofjfmkeaaLawRead
import Derived.Test.YtjpcnnofjfmkeaaCanon
import Derived.Test.YtjpcnnofjfmkeaaWriteK
import Derived.Test.YtjpcnnofjfmkeaaFit
import Derived.Test.YtjpcnnofjfmkeaaPrefWalk
import Derived.Deep.QuietTactic
import Derived.BigQuiet
namespace Go.Proofs.Ytjpcnnofjfmkeaa
open Go.RowKit

theorem Wr.below_all {T E : TypeId} {w w' : World} {base b : Nat} {l : List UInt8} (h : Wr T E w base b l) (hb : Below w.heap.size w w') : Wr T E w' base b l := by
  obtain ⟨A, c, h1, h2, h3⟩ := h
  exact ⟨A, c, h1.below hb h1.lt, h2, h3.kept (gb_of_below hb none) (by cases hv : (Value.slice A l.length c).ownBlock <;> simp)⟩

/-- What is kept from round to round: the Reader stands at p, the Writer holds the bytes before p. -/
def Both (w : World) (b : Nat) (s : ByteArray) (p : Nat) : Prop := Rd 37 w b s p 0 ∧ Wr 28 5 w (b + 1) (b + 1) (s.data.toList.take p)
theorem Both.drewN {w : World} {b : Nat} {s : ByteArray} {p : Nat} (h : Both w b s p) (n : Nat) : Both (w.drewN n) b s p := h

set_option maxRecDepth 100000 in
set_option maxHeartbeats 2000000 in
theorem canon_walk (s : ByteArray) (A : Option Addr) (cap : Nat) (zs : List Int) (w : World) (hs : s.size ≤ 140737488351232) (hA : Ints .u8 w A zs)
    (hz : ∀ z ∈ zs, 0 ≤ z ∧ z ≤ 255) (hl : zs.length ≤ 9223372036854775807) :
    Calls Try.prog 6 #[.string s, .slice A zs.length cap] w fun e w' => e = .returned (.bool true) ∧ Below w.heap.size w w' := by
  by_cases hbig : 50 < zs.length
  · go_enter Try.func6, Try.ntmps6
    go_wp2_with fail
    refine (fit_any _).mono ?_
    rintro f w1 ⟨rfl, hb1⟩
    go_wp2_with fail
    go_ret
    exact ⟨rfl, hb1⟩
  · have hl50 : zs.length ≤ 50 := by omega
    clear hbig hl
    go_enter Try.func6, Try.ntmps6
    go_wp2_with fail
    refine (fit_any _).mono ?_
    rintro f w1 ⟨rfl, hb1⟩
    have hA1 := hA.below hb1
    have HB1 := Lib.hid hb1
    clear hb1 hA
    go_wp2_with fail
    go_loopw [20] (fun v20 wr => ∃ (k p : Nat), k ≤ zs.length ∧ v20 = .int .i64 k ∧ p ≤ s.size ∧ Both wr w1.heap.size s p ∧ Below w1.heap.size w1 wr) (fun v20 _ => zs.length - (intOf v20).toNat)
    case atStart =>
      refine ⟨0, 0, Nat.zero_le _, rfl, Nat.zero_le _, ⟨(Whole.new w1 _ _).alloc _, ?_⟩, ((Below.refl _ _).alloc (Nat.le_refl _) _).alloc (by simp) _⟩
      have := Wr.new (T := 28) (E := 5) (w := w1.alloc (.cells #[.string s, .int .i64 0, .int .i64 0] 37)) (base := w1.heap.size + 1) (by simp)
      simpa using this
    case round =>
      obtain ⟨wo, hwo⟩ : ∃ wo : World, wr = wo := ⟨_, rfl⟩
      subst hwo
      obtain ⟨k, p, hk, rfl, hp, ⟨hrd, hwr⟩, hbel⟩ := hrel
      have hszw := hbel.size
      have hltw := hwr.lt.1
      by_cases hlt : k < zs.length
      · obtain ⟨xb, xo, rfl, hxb, hxc⟩ := hA1.below hbel k hlt
        have hp0 : (k : Int) < (zs.length : Int) := by omega
        obtain ⟨z0, z1⟩ := hz (zs.getD k 0) (by simp [List.getD, hlt])
        obtain ⟨z, hzz⟩ : ∃ z, zs.getD k 0 = z := ⟨_, rfl⟩
        rw [hzz] at hxc z0 z1
        clear hzz
        have h5 : z % 5 = 0 ∨ z % 5 = 1 ∨ z % 5 = 2 ∨ z % 5 = 3 ∨ z % 5 = 4 := by omega
        rcases h5 with h5 | h5 | h5 | h5 | h5
        · have hL := fun W hW => lawread_any 37 w1.heap.size s p 0 0 1000 W (by omega) (by decide) (by decide) (by decide) hW
          unfold ReadPost at hL
          obtain ⟨rv, hrv⟩ : ∃ rv, rdUint s p 0 = rv := ⟨_, rfl⟩
          rw [show rdVal s p 0 0 1000 = mk (rdUint s p 0).1 0 false [] (rdUint s p 0).2.1 (rdUint s p 0).2.2 from rfl, show rdEnd s p 0 0 1000 = (rdUint s p 0).2 from rfl, hrv] at hL
          obtain ⟨x, a', r'⟩ := rv
          have HRV := Lib.hid hrv
          unfold mk at hL
          simp only at hL
          have HL := Lib.hid hL
          clear hrv hL
          go_wp2_with fail
          refine (HL.out _ hrd).mono ?_
          rintro f w2 ⟨rfl, hrd2, hg2⟩
          have hwr2 : Wr 28 5 w2 (w1.heap.size + 1) (w1.heap.size + 1) (s.data.toList.take p) := hwr.grown hg2 hrd (by decide) (by decide)
          have hb2 : Below w1.heap.size w1 w2 := hbel.grown hg2 hszw (fun q hq => by injection hq; omega)
          have hsz2 := hg2.size
          have hg0 : Whole (w2.alloc (.cells #[.int .u64 (x : Int), .int .i64 0, .bool false, .string (str []), .int .i64 a', .int .i64 r'] 48)) w2.heap.size #[.int .u64 (x : Int), .int .i64 0, .bool false, .string (str []), .int .i64 a', .int .i64 r'] 48 := Whole.new _ _ _
          have hrdW : Rd 37 (w2.alloc (.cells #[.int .u64 (x : Int), .int .i64 0, .bool false, .string (str []), .int .i64 a', .int .i64 r'] 48)) w1.heap.size s a' r' := Whole.alloc hrd2 _
          have hwrW : Wr 28 5 (w2.alloc (.cells #[.int .u64 (x : Int), .int .i64 0, .bool false, .string (str []), .int .i64 a', .int .i64 r'] 48)) (w1.heap.size + 1) (w1.heap.size + 1) (s.data.toList.take p) := hwr2.alloc _
          have hbW : Below w1.heap.size w1 (w2.alloc (.cells #[.int .u64 (x : Int), .int .i64 0, .bool false, .string (str []), .int .i64 a', .int .i64 r'] 48)) := hb2.alloc (by omega) _
          clear hrd2 hwr2 hg2 hb2 hrd hwr
          by_cases hr0 : r' = 0
          · subst hr0
            obtain ⟨hn, hgoes⟩ := canon_uint hp HRV.out
            obtain ⟨p', rfl, hpp, hps, htk⟩ := hgoes
            have htl : (s.data.toList.take p).length ≤ p := by rw [List.length_take]; omega
            have HTK := Lib.hid htk
            clear htk
            go_wp2_with fail
            refine (wuint_int_k 28 (by decide) _ x (w1.heap.size + 1) (w1.heap.size + 1) (s.data.toList.take p) _ rfl hn (by omega) hwrW).mono ?_
            rintro f w3 ⟨rfl, hwr3, hb3, hk3⟩
            rw [HTK.out] at hwr3
            have hg3 := hk3 _ _ _ (by decide) (by decide) hg0
            have hrd3 : Rd 37 w3 w1.heap.size s p' 0 := hk3 _ _ _ (by decide) (by decide) hrdW
            have hbel3 : Below w1.heap.size w1 w3 := hbW.trans (hb3.mono (by omega))
            have HR3 := Lib.hid hrd3
            have HW3 := Lib.hid hwr3
            have HB3 := Lib.hid hbel3
            have k4 : w3.cell? ⟨w2.heap.size, 4, none⟩ = some (.int .i64 (p' : Int)) := hg3.cell 4
            obtain ⟨A3, c3, hw3, _, ho3⟩ := hwr3
            have kd : w3.cell? ⟨w1.heap.size + 1, 0, none⟩ = some (.slice A3 (s.data.toList.take p').length c3) := hw3.cell 0
            have hconv : ∀ m : Nat, (convert 26 9 (.slice A3 (s.data.toList.take p').length c3)).run Try.prog (w3.drewN m) = .ok (.string (str (s.data.toList.take p'))) (w3.drewN m) := fun m => conv_own (w := w3.drewN m) ho3
            generalize (s.data.toList.take p').length = len3 at kd hconv
            have hcmp : ((str (s.data.toList.take p')).toList == (s.extract 0 p').toList) = true := by
              rw [Lib.toList_data, Lib.toList_data, str_data, Lib.extract_data]; simp
            have d1 : decide ((p' : Int) < 0) = false := by simp
            have d2 : decide ((s.size : Int) < (p' : Int)) = false := by simp; omega
            have d3 : decide (s.size < p') = false := by simp; omega
            have d4 : (p' : Int) ≤ (s.size : Int) := by omega
            clear hrd3 hbel3 hg3 hk3 hb3 hw3 ho3 hg0 hrdW hwrW hbW
            go_wp2_with fail
            go_quiet (fail)
            go_wp2_with fail
            go_roundw
            case rel => exact ⟨k + 1, p', by omega, by go_num, hps, Both.drewN ⟨HR3.out, HW3.out⟩ _, below_drewN' HB3.out _⟩
            case measure => simp [intOf]; omega
          · have hdv : rdDone s a' r' = r' := by unfold rdDone; rw [if_pos hr0]
            have hrb : (r' != 0) = true := by simpa using hr0
            have hd : ∀ n, Calls Try.prog 22 #[.pointer (some ⟨w1.heap.size, 0, none⟩)] ((w2.alloc (.cells #[.int .u64 (x : Int), .int .i64 0, .bool false, .string (str []), .int .i64 a', .int .i64 r'] 48)).drewN n) fun f w' => f = .returned (.int .i64 r') ∧ ∃ m, w' = ((w2.alloc (.cells #[.int .u64 (x : Int), .int .i64 0, .bool false, .string (str []), .int .i64 a', .int .i64 r'] 48)).drewN n).drewN m := by
              intro n
              have := done_any 37 w1.heap.size s a' r' ((w2.alloc (.cells #[.int .u64 (x : Int), .int .i64 0, .bool false, .string (str []), .int .i64 a', .int .i64 r'] 48)).drewN n) (by omega) (Whole.drewN hrdW n)
              rw [hdv] at this
              exact this
            have HD := Lib.hid hd
            have HF := Lib.hid (HB1.out.trans (hbW.mono HB1.out.size))
            clear hd hdv hr0 hrdW hwrW hbW hg0
            go_wp2_with fail
            go_quiet ((go_at_call 22; exact Calls.quiet_of (HD.out _)))
            go_wp2_with fail
            go_ret
            exact ⟨by simp, below_drewN' HF.out _⟩
        · have hL := fun W hW => lawread_any 37 w1.heap.size s p 0 1 1000 W (by omega) (by decide) (by decide) (by decide) hW
          unfold ReadPost at hL
          obtain ⟨rv, hrv⟩ : ∃ rv, rdUint s p 0 = rv := ⟨_, rfl⟩
          rw [show rdVal s p 0 1 1000 = mk 0 (Num.zag (rdUint s p 0).1) false [] (rdUint s p 0).2.1 (rdUint s p 0).2.2 from rfl, show rdEnd s p 0 1 1000 = (rdUint s p 0).2 from rfl, hrv] at hL
          obtain ⟨x, a', r'⟩ := rv
          have HRV := Lib.hid hrv
          unfold mk at hL
          simp only at hL
          have HL := Lib.hid hL
          clear hrv hL
          go_wp2_with fail
          refine (HL.out _ hrd).mono ?_
          rintro f w2 ⟨rfl, hrd2, hg2⟩
          have hwr2 : Wr 28 5 w2 (w1.heap.size + 1) (w1.heap.size + 1) (s.data.toList.take p) := hwr.grown hg2 hrd (by decide) (by decide)
          have hb2 : Below w1.heap.size w1 w2 := hbel.grown hg2 hszw (fun q hq => by injection hq; omega)
          have hsz2 := hg2.size
          have hg0 : Whole (w2.alloc (.cells #[.int .u64 0, .int .i64 (Num.zag x), .bool false, .string (str []), .int .i64 a', .int .i64 r'] 48)) w2.heap.size #[.int .u64 0, .int .i64 (Num.zag x), .bool false, .string (str []), .int .i64 a', .int .i64 r'] 48 := Whole.new _ _ _
          have hrdW : Rd 37 (w2.alloc (.cells #[.int .u64 0, .int .i64 (Num.zag x), .bool false, .string (str []), .int .i64 a', .int .i64 r'] 48)) w1.heap.size s a' r' := Whole.alloc hrd2 _
          have hwrW : Wr 28 5 (w2.alloc (.cells #[.int .u64 0, .int .i64 (Num.zag x), .bool false, .string (str []), .int .i64 a', .int .i64 r'] 48)) (w1.heap.size + 1) (w1.heap.size + 1) (s.data.toList.take p) := hwr2.alloc _
          have hbW : Below w1.heap.size w1 (w2.alloc (.cells #[.int .u64 0, .int .i64 (Num.zag x), .bool false, .string (str []), .int .i64 a', .int .i64 r'] 48)) := hb2.alloc (by omega) _
          clear hrd2 hwr2 hg2 hb2 hrd hwr
          by_cases hr0 : r' = 0
          · subst hr0
            obtain ⟨hn, hgoes⟩ := canon_uint hp HRV.out
            rw [← Num.zig_zag x] at hgoes
            obtain ⟨p', rfl, hpp, hps, htk⟩ := hgoes
            have htl : (s.data.toList.take p).length ≤ p := by rw [List.length_take]; omega
            have HTK := Lib.hid htk
            clear htk
            go_wp2_with fail
            refine (wint_k 28 (by decide) _ (w1.heap.size + 1) (w1.heap.size + 1) (s.data.toList.take p) _ (Num.zag_range hn).1 (Num.zag_range hn).2 (by omega) hwrW).mono ?_
            rintro f w3 ⟨rfl, hwr3, hb3, hk3⟩
            rw [HTK.out] at hwr3
            have hg3 := hk3 _ _ _ (by decide) (by decide) hg0
            have hrd3 : Rd 37 w3 w1.heap.size s p' 0 := hk3 _ _ _ (by decide) (by decide) hrdW
            have hbel3 : Below w1.heap.size w1 w3 := hbW.trans (hb3.mono (by omega))
            have HR3 := Lib.hid hrd3
            have HW3 := Lib.hid hwr3
            have HB3 := Lib.hid hbel3
            have k4 : w3.cell? ⟨w2.heap.size, 4, none⟩ = some (.int .i64 (p' : Int)) := hg3.cell 4
            obtain ⟨A3, c3, hw3, _, ho3⟩ := hwr3
            have kd : w3.cell? ⟨w1.heap.size + 1, 0, none⟩ = some (.slice A3 (s.data.toList.take p').length c3) := hw3.cell 0
            have hconv : ∀ m : Nat, (convert 26 9 (.slice A3 (s.data.toList.take p').length c3)).run Try.prog (w3.drewN m) = .ok (.string (str (s.data.toList.take p'))) (w3.drewN m) := fun m => conv_own (w := w3.drewN m) ho3
            generalize (s.data.toList.take p').length = len3 at kd hconv
            have hcmp : ((str (s.data.toList.take p')).toList == (s.extract 0 p').toList) = true := by
              rw [Lib.toList_data, Lib.toList_data, str_data, Lib.extract_data]; simp
            have d1 : decide ((p' : Int) < 0) = false := by simp
            have d2 : decide ((s.size : Int) < (p' : Int)) = false := by simp; omega
            have d3 : decide (s.size < p') = false := by simp; omega
            have d4 : (p' : Int) ≤ (s.size : Int) := by omega
            clear hrd3 hbel3 hg3 hk3 hb3 hw3 ho3 hg0 hrdW hwrW hbW
            go_wp2_with fail
            go_quiet (fail)
            go_wp2_with fail
            go_roundw
            case rel => exact ⟨k + 1, p', by omega, by go_num, hps, Both.drewN ⟨HR3.out, HW3.out⟩ _, below_drewN' HB3.out _⟩
            case measure => simp [intOf]; omega
          · have hdv : rdDone s a' r' = r' := by unfold rdDone; rw [if_pos hr0]
            have hrb : (r' != 0) = true := by simpa using hr0
            have hd : ∀ n, Calls Try.prog 22 #[.pointer (some ⟨w1.heap.size, 0, none⟩)] ((w2.alloc (.cells #[.int .u64 0, .int .i64 (Num.zag x), .bool false, .string (str []), .int .i64 a', .int .i64 r'] 48)).drewN n) fun f w' => f = .returned (.int .i64 r') ∧ ∃ m, w' = ((w2.alloc (.cells #[.int .u64 0, .int .i64 (Num.zag x), .bool false, .string (str []), .int .i64 a', .int .i64 r'] 48)).drewN n).drewN m := by
              intro n
              have := done_any 37 w1.heap.size s a' r' ((w2.alloc (.cells #[.int .u64 0, .int .i64 (Num.zag x), .bool false, .string (str []), .int .i64 a', .int .i64 r'] 48)).drewN n) (by omega) (Whole.drewN hrdW n)
              rw [hdv] at this
              exact this
            have HD := Lib.hid hd
            have HF := Lib.hid (HB1.out.trans (hbW.mono HB1.out.size))
            clear hd hdv hr0 hrdW hwrW hbW hg0
            go_wp2_with fail
            go_quiet ((go_at_call 22; exact Calls.quiet_of (HD.out _)))
            go_wp2_with fail
            go_ret
            exact ⟨by simp, below_drewN' HF.out _⟩
        · have hL := fun W hW => lawread_any 37 w1.heap.size s p 0 2 1000 W (by omega) (by decide) (by decide) (by decide) hW
          unfold ReadPost at hL
          obtain ⟨rv, hrv⟩ : ∃ rv, rdBool s p 0 = rv := ⟨_, rfl⟩
          rw [show rdVal s p 0 2 1000 = mk 0 0 (rdBool s p 0).1 [] (rdBool s p 0).2.1 (rdBool s p 0).2.2 from rfl, show rdEnd s p 0 2 1000 = (rdBool s p 0).2 from rfl, hrv] at hL
          obtain ⟨x, a', r'⟩ := rv
          have HRV := Lib.hid hrv
          unfold mk at hL
          simp only at hL
          have HL := Lib.hid hL
          clear hrv hL
          go_wp2_with fail
          refine (HL.out _ hrd).mono ?_
          rintro f w2 ⟨rfl, hrd2, hg2⟩
          have hwr2 : Wr 28 5 w2 (w1.heap.size + 1) (w1.heap.size + 1) (s.data.toList.take p) := hwr.grown hg2 hrd (by decide) (by decide)
          have hb2 : Below w1.heap.size w1 w2 := hbel.grown hg2 hszw (fun q hq => by injection hq; omega)
          have hsz2 := hg2.size
          have hg0 : Whole (w2.alloc (.cells #[.int .u64 0, .int .i64 0, .bool x, .string (str []), .int .i64 a', .int .i64 r'] 48)) w2.heap.size #[.int .u64 0, .int .i64 0, .bool x, .string (str []), .int .i64 a', .int .i64 r'] 48 := Whole.new _ _ _
          have hrdW : Rd 37 (w2.alloc (.cells #[.int .u64 0, .int .i64 0, .bool x, .string (str []), .int .i64 a', .int .i64 r'] 48)) w1.heap.size s a' r' := Whole.alloc hrd2 _
          have hwrW : Wr 28 5 (w2.alloc (.cells #[.int .u64 0, .int .i64 0, .bool x, .string (str []), .int .i64 a', .int .i64 r'] 48)) (w1.heap.size + 1) (w1.heap.size + 1) (s.data.toList.take p) := hwr2.alloc _
          have hbW : Below w1.heap.size w1 (w2.alloc (.cells #[.int .u64 0, .int .i64 0, .bool x, .string (str []), .int .i64 a', .int .i64 r'] 48)) := hb2.alloc (by omega) _
          clear hrd2 hwr2 hg2 hb2 hrd hwr
          by_cases hr0 : r' = 0
          · subst hr0
            have hgoes := canon_bool hp HRV.out
            obtain ⟨p', rfl, hpp, hps, htk⟩ := hgoes
            have htl : (s.data.toList.take p).length ≤ p := by rw [List.length_take]; omega
            have HTK := Lib.hid htk
            clear htk
            go_wp2_with fail
            refine (wbool_k 28 (by decide) x (w1.heap.size + 1) (w1.heap.size + 1) (s.data.toList.take p) _ (by omega) hwrW).mono ?_
            rintro f w3 ⟨rfl, hwr3, hb3, hk3⟩
            rw [HTK.out] at hwr3
            have hg3 := hk3 _ _ _ (by decide) (by decide) hg0
            have hrd3 : Rd 37 w3 w1.heap.size s p' 0 := hk3 _ _ _ (by decide) (by decide) hrdW
            have hbel3 : Below w1.heap.size w1 w3 := hbW.trans (hb3.mono (by omega))
            have HR3 := Lib.hid hrd3
            have HW3 := Lib.hid hwr3
            have HB3 := Lib.hid hbel3
            have k4 : w3.cell? ⟨w2.heap.size, 4, none⟩ = some (.int .i64 (p' : Int)) := hg3.cell 4
            obtain ⟨A3, c3, hw3, _, ho3⟩ := hwr3
            have kd : w3.cell? ⟨w1.heap.size + 1, 0, none⟩ = some (.slice A3 (s.data.toList.take p').length c3) := hw3.cell 0
            have hconv : ∀ m : Nat, (convert 26 9 (.slice A3 (s.data.toList.take p').length c3)).run Try.prog (w3.drewN m) = .ok (.string (str (s.data.toList.take p'))) (w3.drewN m) := fun m => conv_own (w := w3.drewN m) ho3
            generalize (s.data.toList.take p').length = len3 at kd hconv
            have hcmp : ((str (s.data.toList.take p')).toList == (s.extract 0 p').toList) = true := by
              rw [Lib.toList_data, Lib.toList_data, str_data, Lib.extract_data]; simp
            have d1 : decide ((p' : Int) < 0) = false := by simp
            have d2 : decide ((s.size : Int) < (p' : Int)) = false := by simp; omega
            have d3 : decide (s.size < p') = false := by simp; omega
            have d4 : (p' : Int) ≤ (s.size : Int) := by omega
            clear hrd3 hbel3 hg3 hk3 hb3 hw3 ho3 hg0 hrdW hwrW hbW
            go_wp2_with fail
            go_quiet (fail)
            go_wp2_with fail
            go_roundw
            case rel => exact ⟨k + 1, p', by omega, by go_num, hps, Both.drewN ⟨HR3.out, HW3.out⟩ _, below_drewN' HB3.out _⟩
            case measure => simp [intOf]; omega
          · have hdv : rdDone s a' r' = r' := by unfold rdDone; rw [if_pos hr0]
            have hrb : (r' != 0) = true := by simpa using hr0
            have hd : ∀ n, Calls Try.prog 22 #[.pointer (some ⟨w1.heap.size, 0, none⟩)] ((w2.alloc (.cells #[.int .u64 0, .int .i64 0, .bool x, .string (str []), .int .i64 a', .int .i64 r'] 48)).drewN n) fun f w' => f = .returned (.int .i64 r') ∧ ∃ m, w' = ((w2.alloc (.cells #[.int .u64 0, .int .i64 0, .bool x, .string (str []), .int .i64 a', .int .i64 r'] 48)).drewN n).drewN m := by
              intro n
              have := done_any 37 w1.heap.size s a' r' ((w2.alloc (.cells #[.int .u64 0, .int .i64 0, .bool x, .string (str []), .int .i64 a', .int .i64 r'] 48)).drewN n) (by omega) (Whole.drewN hrdW n)
              rw [hdv] at this
              exact this
            have HD := Lib.hid hd
            have HF := Lib.hid (HB1.out.trans (hbW.mono HB1.out.size))
            clear hd hdv hr0 hrdW hwrW hbW hg0
            go_wp2_with fail
            go_quiet ((go_at_call 22; exact Calls.quiet_of (HD.out _)))
            go_wp2_with fail
            go_ret
            exact ⟨by simp, below_drewN' HF.out _⟩
        · have hL := fun W hW => lawread_any 37 w1.heap.size s p 0 3 1000 W (by omega) (by decide) (by decide) (by decide) hW
          unfold ReadPost at hL
          obtain ⟨rv, hrv⟩ : ∃ rv, rdStr s p 0 = rv := ⟨_, rfl⟩
          rw [show rdVal s p 0 3 1000 = mk 0 0 false (rdStr s p 0).1 (rdStr s p 0).2.1 (rdStr s p 0).2.2 from rfl, show rdEnd s p 0 3 1000 = (rdStr s p 0).2 from rfl, hrv] at hL
          obtain ⟨x, a', r'⟩ := rv
          have HRV := Lib.hid hrv
          unfold mk at hL
          simp only at hL
          have HL := Lib.hid hL
          clear hrv hL
          go_wp2_with fail
          refine (HL.out _ hrd).mono ?_
          rintro f w2 ⟨rfl, hrd2, hg2⟩
          have hwr2 : Wr 28 5 w2 (w1.heap.size + 1) (w1.heap.size + 1) (s.data.toList.take p) := hwr.grown hg2 hrd (by decide) (by decide)
          have hb2 : Below w1.heap.size w1 w2 := hbel.grown hg2 hszw (fun q hq => by injection hq; omega)
          have hsz2 := hg2.size
          have hg0 : Whole (w2.alloc (.cells #[.int .u64 0, .int .i64 0, .bool false, .string (str x), .int .i64 a', .int .i64 r'] 48)) w2.heap.size #[.int .u64 0, .int .i64 0, .bool false, .string (str x), .int .i64 a', .int .i64 r'] 48 := Whole.new _ _ _
          have hrdW : Rd 37 (w2.alloc (.cells #[.int .u64 0, .int .i64 0, .bool false, .string (str x), .int .i64 a', .int .i64 r'] 48)) w1.heap.size s a' r' := Whole.alloc hrd2 _
          have hwrW : Wr 28 5 (w2.alloc (.cells #[.int .u64 0, .int .i64 0, .bool false, .string (str x), .int .i64 a', .int .i64 r'] 48)) (w1.heap.size + 1) (w1.heap.size + 1) (s.data.toList.take p) := hwr2.alloc _
          have hbW : Below w1.heap.size w1 (w2.alloc (.cells #[.int .u64 0, .int .i64 0, .bool false, .string (str x), .int .i64 a', .int .i64 r'] 48)) := hb2.alloc (by omega) _
          clear hrd2 hwr2 hg2 hb2 hrd hwr
          by_cases hr0 : r' = 0
          · subst hr0
            obtain ⟨hn, hgoes0⟩ := canon_str hp HRV.out
            have hgoes : Goes s p (Num.enc (str x).size ++ (str x).data.toList) a' := by rw [str_size, str_data]; exact hgoes0
            rw [← str_size x] at hn
            clear hgoes0
            obtain ⟨p', rfl, hpp, hps, htk⟩ := hgoes
            have htl : (s.data.toList.take p).length ≤ p := by rw [List.length_take]; omega
            have HTK := Lib.hid htk
            clear htk
            go_wp2_with fail
            refine (wstring_k 28 (by decide) (str x) (w1.heap.size + 1) (w1.heap.size + 1) (s.data.toList.take p) _ (by omega) hwrW).mono ?_
            rintro f w3 ⟨rfl, hwr3, hb3, hk3⟩
            rw [HTK.out] at hwr3
            have hg3 := hk3 _ _ _ (by decide) (by decide) hg0
            have hrd3 : Rd 37 w3 w1.heap.size s p' 0 := hk3 _ _ _ (by decide) (by decide) hrdW
            have hbel3 : Below w1.heap.size w1 w3 := hbW.trans (hb3.mono (by omega))
            have HR3 := Lib.hid hrd3
            have HW3 := Lib.hid hwr3
            have HB3 := Lib.hid hbel3
            have k4 : w3.cell? ⟨w2.heap.size, 4, none⟩ = some (.int .i64 (p' : Int)) := hg3.cell 4
            obtain ⟨A3, c3, hw3, _, ho3⟩ := hwr3
            have kd : w3.cell? ⟨w1.heap.size + 1, 0, none⟩ = some (.slice A3 (s.data.toList.take p').length c3) := hw3.cell 0
            have hconv : ∀ m : Nat, (convert 26 9 (.slice A3 (s.data.toList.take p').length c3)).run Try.prog (w3.drewN m) = .ok (.string (str (s.data.toList.take p'))) (w3.drewN m) := fun m => conv_own (w := w3.drewN m) ho3
            generalize (s.data.toList.take p').length = len3 at kd hconv
            have hcmp : ((str (s.data.toList.take p')).toList == (s.extract 0 p').toList) = true := by
              rw [Lib.toList_data, Lib.toList_data, str_data, Lib.extract_data]; simp
            have d1 : decide ((p' : Int) < 0) = false := by simp
            have d2 : decide ((s.size : Int) < (p' : Int)) = false := by simp; omega
            have d3 : decide (s.size < p') = false := by simp; omega
            have d4 : (p' : Int) ≤ (s.size : Int) := by omega
            clear hrd3 hbel3 hg3 hk3 hb3 hw3 ho3 hg0 hrdW hwrW hbW
            go_wp2_with fail
            go_quiet (fail)
            go_wp2_with fail
            go_roundw
            case rel => exact ⟨k + 1, p', by omega, by go_num, hps, Both.drewN ⟨HR3.out, HW3.out⟩ _, below_drewN' HB3.out _⟩
            case measure => simp [intOf]; omega
          · have hdv : rdDone s a' r' = r' := by unfold rdDone; rw [if_pos hr0]
            have hrb : (r' != 0) = true := by simpa using hr0
            have hd : ∀ n, Calls Try.prog 22 #[.pointer (some ⟨w1.heap.size, 0, none⟩)] ((w2.alloc (.cells #[.int .u64 0, .int .i64 0, .bool false, .string (str x), .int .i64 a', .int .i64 r'] 48)).drewN n) fun f w' => f = .returned (.int .i64 r') ∧ ∃ m, w' = ((w2.alloc (.cells #[.int .u64 0, .int .i64 0, .bool false, .string (str x), .int .i64 a', .int .i64 r'] 48)).drewN n).drewN m := by
              intro n
              have := done_any 37 w1.heap.size s a' r' ((w2.alloc (.cells #[.int .u64 0, .int .i64 0, .bool false, .string (str x), .int .i64 a', .int .i64 r'] 48)).drewN n) (by omega) (Whole.drewN hrdW n)
              rw [hdv] at this
              exact this
            have HD := Lib.hid hd
            have HF := Lib.hid (HB1.out.trans (hbW.mono HB1.out.size))
            clear hd hdv hr0 hrdW hwrW hbW hg0
            go_wp2_with fail
            go_quiet ((go_at_call 22; exact Calls.quiet_of (HD.out _)))
            go_wp2_with fail
            go_ret
            exact ⟨by simp, below_drewN' HF.out _⟩
        · have hL := fun W hW => lawread_any 37 w1.heap.size s p 0 4 1000 W (by omega) (by decide) (by decide) (by decide) hW
          unfold ReadPost at hL
          obtain ⟨rv, hrv⟩ : ∃ rv, rdCount s p 0 1000 = rv := ⟨_, rfl⟩
          rw [show rdVal s p 0 4 1000 = mk (rdCount s p 0 1000).1 0 false [] (rdCount s p 0 1000).2.1 (rdCount s p 0 1000).2.2 from rfl, show rdEnd s p 0 4 1000 = (rdCount s p 0 1000).2 from rfl, hrv] at hL
          obtain ⟨x, a', r'⟩ := rv
          have HRV := Lib.hid hrv
          unfold mk at hL
          simp only at hL
          have HL := Lib.hid hL
          clear hrv hL
          go_wp2_with fail
          refine (HL.out _ hrd).mono ?_
          rintro f w2 ⟨rfl, hrd2, hg2⟩
          have hwr2 : Wr 28 5 w2 (w1.heap.size + 1) (w1.heap.size + 1) (s.data.toList.take p) := hwr.grown hg2 hrd (by decide) (by decide)
          have hb2 : Below w1.heap.size w1 w2 := hbel.grown hg2 hszw (fun q hq => by injection hq; omega)
          have hsz2 := hg2.size
          have hg0 : Whole (w2.alloc (.cells #[.int .u64 (x : Int), .int .i64 0, .bool false, .string (str []), .int .i64 a', .int .i64 r'] 48)) w2.heap.size #[.int .u64 (x : Int), .int .i64 0, .bool false, .string (str []), .int .i64 a', .int .i64 r'] 48 := Whole.new _ _ _
          have hrdW : Rd 37 (w2.alloc (.cells #[.int .u64 (x : Int), .int .i64 0, .bool false, .string (str []), .int .i64 a', .int .i64 r'] 48)) w1.heap.size s a' r' := Whole.alloc hrd2 _
          have hwrW : Wr 28 5 (w2.alloc (.cells #[.int .u64 (x : Int), .int .i64 0, .bool false, .string (str []), .int .i64 a', .int .i64 r'] 48)) (w1.heap.size + 1) (w1.heap.size + 1) (s.data.toList.take p) := hwr2.alloc _
          have hbW : Below w1.heap.size w1 (w2.alloc (.cells #[.int .u64 (x : Int), .int .i64 0, .bool false, .string (str []), .int .i64 a', .int .i64 r'] 48)) := hb2.alloc (by omega) _
          clear hrd2 hwr2 hg2 hb2 hrd hwr
          by_cases hr0 : r' = 0
          · subst hr0
            obtain ⟨hn, hgoes⟩ := canon_count hp HRV.out
            have hx1 : (x : Int) ≤ 1000 := by omega
            obtain ⟨p', rfl, hpp, hps, htk⟩ := hgoes
            have htl : (s.data.toList.take p).length ≤ p := by rw [List.length_take]; omega
            have HTK := Lib.hid htk
            clear htk
            go_wp2_with fail
            refine (wcount_k 28 (by decide) _ (w1.heap.size + 1) (w1.heap.size + 1) (s.data.toList.take p) _ (by omega) (by omega) hwrW).mono ?_
            rintro f w3 ⟨rfl, hwr3, hb3, hk3⟩
            rw [Int.toNat_natCast, HTK.out] at hwr3
            have hg3 := hk3 _ _ _ (by decide) (by decide) hg0
            have hrd3 : Rd 37 w3 w1.heap.size s p' 0 := hk3 _ _ _ (by decide) (by decide) hrdW
            have hbel3 : Below w1.heap.size w1 w3 := hbW.trans (hb3.mono (by omega))
            have HR3 := Lib.hid hrd3
            have HW3 := Lib.hid hwr3
            have HB3 := Lib.hid hbel3
            have k4 : w3.cell? ⟨w2.heap.size, 4, none⟩ = some (.int .i64 (p' : Int)) := hg3.cell 4
            obtain ⟨A3, c3, hw3, _, ho3⟩ := hwr3
            have kd : w3.cell? ⟨w1.heap.size + 1, 0, none⟩ = some (.slice A3 (s.data.toList.take p').length c3) := hw3.cell 0
            have hconv : ∀ m : Nat, (convert 26 9 (.slice A3 (s.data.toList.take p').length c3)).run Try.prog (w3.drewN m) = .ok (.string (str (s.data.toList.take p'))) (w3.drewN m) := fun m => conv_own (w := w3.drewN m) ho3
            generalize (s.data.toList.take p').length = len3 at kd hconv
            have hcmp : ((str (s.data.toList.take p')).toList == (s.extract 0 p').toList) = true := by
              rw [Lib.toList_data, Lib.toList_data, str_data, Lib.extract_data]; simp
            have d1 : decide ((p' : Int) < 0) = false := by simp
            have d2 : decide ((s.size : Int) < (p' : Int)) = false := by simp; omega
            have d3 : decide (s.size < p') = false := by simp; omega
            have d4 : (p' : Int) ≤ (s.size : Int) := by omega
            clear hrd3 hbel3 hg3 hk3 hb3 hw3 ho3 hg0 hrdW hwrW hbW
            go_wp2_with fail
            go_quiet (fail)
            go_wp2_with fail
            go_roundw
            case rel => exact ⟨k + 1, p', by omega, by go_num, hps, Both.drewN ⟨HR3.out, HW3.out⟩ _, below_drewN' HB3.out _⟩
            case measure => simp [intOf]; omega
          · have hdv : rdDone s a' r' = r' := by unfold rdDone; rw [if_pos hr0]
            have hrb : (r' != 0) = true := by simpa using hr0
            have hd : ∀ n, Calls Try.prog 22 #[.pointer (some ⟨w1.heap.size, 0, none⟩)] ((w2.alloc (.cells #[.int .u64 (x : Int), .int .i64 0, .bool false, .string (str []), .int .i64 a', .int .i64 r'] 48)).drewN n) fun f w' => f = .returned (.int .i64 r') ∧ ∃ m, w' = ((w2.alloc (.cells #[.int .u64 (x : Int), .int .i64 0, .bool false, .string (str []), .int .i64 a', .int .i64 r'] 48)).drewN n).drewN m := by
              intro n
              have := done_any 37 w1.heap.size s a' r' ((w2.alloc (.cells #[.int .u64 (x : Int), .int .i64 0, .bool false, .string (str []), .int .i64 a', .int .i64 r'] 48)).drewN n) (by omega) (Whole.drewN hrdW n)
              rw [hdv] at this
              exact this
            have HD := Lib.hid hd
            have HF := Lib.hid (HB1.out.trans (hbW.mono HB1.out.size))
            clear hd hdv hr0 hrdW hwrW hbW hg0
            go_wp2_with fail
            go_quiet ((go_at_call 22; exact Calls.quiet_of (HD.out _)))
            go_wp2_with fail
            go_ret
            exact ⟨by simp, below_drewN' HF.out _⟩
      · obtain ⟨A3, c3, hw3, _, ho3⟩ := hwr
        have hll : (s.data.toList.take p).length = p := by
          have : s.data.toList.length = s.size := rfl
          rw [List.length_take]; omega
        have kd : wr.cell? ⟨w1.heap.size + 1, 0, none⟩ = some (.slice A3 p c3) := by rw [← hll]; exact hw3.cell 0
        have HF := Lib.hid (HB1.out.trans (hbel.mono HB1.out.size))
        have hd : ∀ n, Calls Try.prog 22 #[.pointer (some ⟨w1.heap.size, 0, none⟩)] (wr.drewN n) fun f w' => f = .returned (.int .i64 (rdDone s p 0)) ∧ ∃ m, w' = (wr.drewN n).drewN m :=
          fun n => done_any 37 w1.heap.size s p 0 (wr.drewN n) (by omega) (Whole.drewN hrd n)
        by_cases hps : p = s.size
        · have hdv : rdDone s p 0 = 0 := by unfold rdDone; rw [if_neg (by decide), if_neg (by omega)]
          rw [hdv] at hd
          have HD := Lib.hid hd
          have hpb : ((p : Int) == (s.size : Int)) = true := by simp; omega
          clear hd hdv hll hw3 ho3 hps hrd
          go_wp2_with fail
          go_quiet ((go_at_call 22; exact Calls.quiet_of (HD.out _)))
          go_wp2_with fail
          go_ret
          exact ⟨by simp, below_drewN' HF.out _⟩
        · have hdv : rdDone s p 0 = 3 := by unfold rdDone; rw [if_neg (by decide), if_pos (by omega)]
          rw [hdv] at hd
          have HD := Lib.hid hd
          have hpb : ((p : Int) == (s.size : Int)) = false := by simp; omega
          clear hd hdv hll hw3 ho3 hps hrd
          go_wp2_with fail
          go_quiet ((go_at_call 22; exact Calls.quiet_of (HD.out _)))
          go_wp2_with fail
          go_ret
          exact ⟨by simp, below_drewN' HF.out _⟩

end Go.Proofs.Ytjpcnnofjfmkeaa
