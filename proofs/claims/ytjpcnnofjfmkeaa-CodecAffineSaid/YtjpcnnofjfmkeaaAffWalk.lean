/- The statement CodecAffine returns true for strings of at most 2^47 - 4096 bytes: its walk. -/
import Derived.Test.YtjpcnnofjfmkeaaFit
import Derived.Test.YtjpcnnofjfmkeaaAff
import Derived.Deep.RegionHeld3
import Derived.Deep.AppendLies
import Derived.Deep.QuietTactic
import Derived.BigQuiet
import Derived.Laws.Cover1
namespace Go.Proofs.Ytjpcnnofjfmkeaa
open Go.RowKit

theorem quiet_left {P : Program} {f : FuncId} {args : Array Value} {w : World} {n : Nat} {v : Value}
    (h : Calls P f args (w.drewN n) fun e w' => e = .returned v ∧ w.drewN n = w') : Calls P f args (w.drewN n) fun e w'' => e = .returned v ∧ ∃ m, w'' = w.drewN m :=
  h.mono fun _ _ ⟨he, hm⟩ => ⟨he, n, hm.symm⟩

theorem below_drewN' {B : Nat} {a w : World} (h : Below B a w) (n : Nat) : Below B a (w.drewN n) := h.trans ⟨rfl, rfl, rfl, Nat.le_refl _, fun _ _ => rfl⟩

theorem getD_byte (s : ByteArray) (k : Nat) (h : k < s.size) : s.data.toList.getD k 0 = s[k] := by
  have : k < s.data.toList.length := h
  rw [List.getD_eq_getElem?_getD, List.getElem?_eq_getElem this]; rfl

theorem own_nil (w : World) (base : Nat) : w.ownsRow base 5 1 (.slice none 0 0) 0 [] := World.ownsRow_nil _ _ _ _

set_option maxRecDepth 100000 in
set_option maxHeartbeats 1000000 in
theorem affine_walk (a b c : ByteArray) (w : World) (ha : a.size ≤ 140737488351232) (_hb : b.size ≤ 140737488351232) (_hc : c.size ≤ 140737488351232) :
    Calls Try.prog 9 #[.string a, .string b, .string c] w fun e w' => e = .returned (.bool true) ∧ Below w.heap.size w w' := by
  obtain ⟨i0, hi, hz0, hz1, hz2⟩ := info_parts byteInfo
  obtain ⟨n, hn, hna, hnb, hnc⟩ : ∃ n : Nat, (if (c.size : Int) < (if (b.size : Int) < (a.size : Int) then (b.size : Int) else (a.size : Int)) then (c.size : Int) else (if (b.size : Int) < (a.size : Int) then (b.size : Int) else (a.size : Int))) = (n : Int) ∧ n ≤ a.size ∧ n ≤ b.size ∧ n ≤ c.size := by
    refine ⟨min (min a.size b.size) c.size, ?_, by omega, by omega, by omega⟩
    repeat' split
    all_goals omega
  have hmin : ∀ (ts : Array TypeId) (t : TypeId) (w : World), (Builtin.min_ ts t #[.int .i64 (a.size : Int), .int .i64 (b.size : Int), .int .i64 (c.size : Int)]).run Try.prog w = .ok (.int .i64 (n : Int)) w := by
    intro ts t w
    rw [run_min_int3, hn]
  clear hn
  go_enter Try.func9, Try.ntmps9
  go_wp2_with fail
  refine (fit_any w).mono ?_
  rintro e w1 ⟨rfl, hb1⟩
  have hs1 := hb1.size
  have HB := Lib.hid hb1
  clear hb1
  go_wp2_with fail
  go_loopw [8, 9] (fun v i wr => ∃ k : Nat, k ≤ n ∧ i = .int .i64 k ∧ ∃ A cp, v = .slice A k cp ∧ wr.ownsRow w.heap.size 5 1 (.slice A k cp) k (bcells (Crc.mix a.data.toList b.data.toList c.data.toList k)) ∧ Below w.heap.size w1 wr) (fun _ i _ => n - (intOf i).toNat)
  case atStart => exact ⟨0, by omega, rfl, none, 0, rfl, own_nil _ _, Below.refl _ _⟩
  case round =>
    rename_i wr _
    obtain ⟨k, hk, rfl, A, cp, rfl, ho, hbel⟩ := hrel
    have hsz := hbel.size
    have HW := Lib.hid hbel
    clear hbel
    by_cases hlt : k < n
    · have h1 : k < a.size := by omega
      have h2 : k < b.size := by omega
      have h3 : k < c.size := by omega
      have p0 : (0 : Int) ≤ (k : Int) := Int.natCast_nonneg _
      have p1 : (k : Int) < (a.size : Int) := by omega
      have p2 : (k : Int) < (b.size : Int) := by omega
      have p3 : (k : Int) < (c.size : Int) := by omega
      have hm : k + 1 ≤ maxLen := by unfold maxLen; omega
      have hby : (k + 1) * 1 ≤ 140737488355328 := by omega
      go_wp2_with fail
      go_region_held3 (fun _ => True) (trivial)
        ((refine step_append_lies _ (by rfl) _ _ _ (by rfl) w.heap.size 5 i0 _ 1 1 Try.underlying26 hi hz0 hz1 hz2 rfl (by omega) (.slice A k cp) k (bcells (Crc.mix a.data.toList b.data.toList c.data.toList k)) (by rfl) ((ho.alloc _).drew)
            ⟨wr.heap.size, 0, none⟩ 1 1 [.int .u8 (bits .xor .u8 (bits .xor .u8 (a[k].toNat : Int) (b[k].toNat : Int)) (c[k].toNat : Int))] (by rfl) (by rfl) (World.news_of_block (cs := #[.int .u8 (bits .xor .u8 (bits .xor .u8 (a[k].toNat : Int) (b[k].toNat : Int)) (c[k].toNat : Int))]) (t := 5) (fr := (0, 0)) (heap_alloc_new wr _)) (by simp [Value.oneCell'])
            (by omega) hm hby (by simp; omega) (wr.heap.size + 1) (by simp) ?_; intro g cap w2 hown2 hgrow hat hlt2))
      all_goals
        have hgb : Below w.heap.size wr w2 := ((Below.refl _ _).alloc (by omega) _).drew.grown (B := w.heap.size) hgrow (by simp; omega) (fun q hq => (ho.lt q hq).1)
        have HG := Lib.hid hgb
        have hval : bcells (Crc.mix a.data.toList b.data.toList c.data.toList k) ++ [.int .u8 (bits .xor .u8 (bits .xor .u8 (a[k].toNat : Int) (b[k].toNat : Int)) (c[k].toNat : Int))] = bcells (Crc.mix a.data.toList b.data.toList c.data.toList (k + 1)) := by
          rw [Crc.mix_succ, bcells_append, Crc.num_x3]
          simp only [Crc.x3, getD_byte _ _ h1, getD_byte _ _ h2, getD_byte _ _ h3]; rfl
        rw [hval] at hown2
        have HO := Lib.hid hown2
        clear hown2 hgb hval hgrow hat hlt2
        go_wp2_with fail
        go_roundw
        case rel => exact ⟨k + 1, by omega, by go_num, _, _, rfl, HO.out, HW.out.trans HG.out⟩
        case measure => simp [intOf]; omega
    · have ek : k = n := by omega
      subst ek
      have hml := Crc.mix_length a.data.toList b.data.toList c.data.toList k
      have hconv : ∀ m : Nat, (convert 26 9 (.slice A k cp)).run Try.prog (wr.drewN m) = .ok (.string (str (Crc.mix a.data.toList b.data.toList c.data.toList k))) (wr.drewN m) := by
        intro m
        have ho' : (wr.drewN m).ownsRow w.heap.size 5 1 (.slice A (Crc.mix a.data.toList b.data.toList c.data.toList k).length cp) (Crc.mix a.data.toList b.data.toList c.data.toList k).length (bcells (Crc.mix a.data.toList b.data.toList c.data.toList k)) := by
          rw [hml]; exact ho
        have := conv_own ho'
        rwa [hml] at this
      have z0 : (str (Crc.mix a.data.toList b.data.toList c.data.toList k)).size ≤ maxLen := by rw [str_size, hml]; unfold maxLen; omega
      have z1 : (a.extract 0 k).size ≤ maxLen := by simp; unfold maxLen; omega
      have z2 : (b.extract 0 k).size ≤ maxLen := by simp; unfold maxLen; omega
      have z3 : (c.extract 0 k).size ≤ maxLen := by simp; unfold maxLen; omega
      have HM := Lib.hid hml
      clear hml
      have p1 : (k : Int) ≤ (a.size : Int) := by omega
      have p2 : (k : Int) ≤ (b.size : Int) := by omega
      have p3 : (k : Int) ≤ (c.size : Int) := by omega
      go_wp2_with fail
      go_quiet ((go_at_call 27; exact quiet_left (sum_any _ _ (by assumption))))
      go_wp2_with fail
      go_ret
      have e : (Crc.num (Crc.sum (str (Crc.mix a.data.toList b.data.toList c.data.toList k)).data.toList) == bits .xor .u32 (bits .xor .u32 (Crc.num (Crc.sum (a.data.toList.take k))) (Crc.num (Crc.sum (b.data.toList.take k)))) (Crc.num (Crc.sum (c.data.toList.take k)))) = true := by
        rw [beq_iff_eq, Crc.num_xor, Crc.num_xor, str_data, Crc.sum_mix _ _ _ k hna hnb hnc]
      exact ⟨ret_bool e, below_drewN' (HB.out.trans HW.out) _⟩

end Go.Proofs.Ytjpcnnofjfmkeaa
