/- The reference's Number, digit, begins, number and word return what the plain texts say. -/
import Derived.Test.YtmpdapjfndjicaaDoorEBas
import Derived.Outline
namespace Go.Proofs.YtmpdapjfndjicaaDoor
open Go Go.RowKit

/-- Bytes that a literal has laid, made a string. -/
theorem conv_lit (w : World) (l : List UInt8) (cs : Array Value) (h : cs.toList = l.map fun b => .int .u8 b.toNat) :
    (convert 42 9 (.slice (some ⟨w.heap.size, 0, none⟩) l.length l.length)).run Tryd.prog (w.alloc (.cells cs 5)) = .ok (.string (tstr l)) (w.alloc (.cells cs 5)) := by
  refine run_convert_bytes_back _ 42 9 5 ⟨w.heap.size, 0, none⟩ l.length l Tryd.underlying42 Tryd.underlying5 Tryd.underlying9 ?_
  intro j hj
  have e : (⟨w.heap.size, 0, none⟩ : Addr).add j = ⟨w.heap.size, j, none⟩ := by unfold Addr.add; split <;> simp_all
  rw [e, cell_of_row _ _ j cs 5 (0, 0) (heap_alloc_new w _)]
  rw [← Array.getElem?_toList, h, List.getElem?_map, List.getElem?_eq_getElem hj]; rfl

set_option maxRecDepth 100000 in
set_option maxHeartbeats 400000 in
theorem rnumber_1 (k : Nat) (w : World) (h0 : 1 ≤ k) (h9 : k ≤ 1114111) (h : k < 128) :
    Calls Tryd.prog 15 #[.int .i64 k] w fun e w' => e = .returned (.string (tstr (Ent.num k))) ∧ Below w.heap.size w w' := by
  have cv : (convert 42 9 (.slice (some ⟨w.heap.size, 0, none⟩) 1 1)).run Tryd.prog (w.alloc (.cells #[.int .u8 ((k : Int))] 5)) = .ok (.string (tstr [UInt8.ofNat k])) (w.alloc (.cells #[.int .u8 ((k : Int))] 5)) :=
    conv_lit w [UInt8.ofNat k] _ (by simp <;> omega)
  have ee : tstr (Ent.num k) = _ := congrArg tstr (Ent.num_one k h)
  rw [← ee] at cv
  clear ee
  obtain ⟨r, hr⟩ : ∃ r, tstr (Ent.num k) = r := ⟨_, rfl⟩
  rw [hr] at cv ⊢
  clear hr
  obtain ⟨K, hK⟩ : ∃ K : Int, K = (k : Int) := ⟨_, rfl⟩
  rw [← hK] at cv ⊢
  have g1 : 1 ≤ K := by omega
  have g2 : K ≤ 1114111 := by omega
  have f0 : K < 128 := by omega
  have f1 : K < 55296 := by omega
  clear hK h0 h9 h
  go_enter Tryd.func15, Tryd.ntmps15
  go_wp2_with fail
  go_ret
  exact ⟨rfl, (Below.refl _ _).alloc (Nat.le_refl _) _⟩
set_option maxRecDepth 100000 in
set_option maxHeartbeats 400000 in
theorem rnumber_2 (k : Nat) (w : World) (h0 : 1 ≤ k) (h9 : k ≤ 1114111) (h : ¬ k < 128 ∧ k < 2048) :
    Calls Tryd.prog 15 #[.int .i64 k] w fun e w' => e = .returned (.string (tstr (Ent.num k))) ∧ Below w.heap.size w w' := by
  have cv : (convert 42 9 (.slice (some ⟨w.heap.size, 0, none⟩) 2 2)).run Tryd.prog (w.alloc (.cells #[.int .u8 (192 + (k : Int) / 64), .int .u8 (128 + (k : Int) % 64)] 5)) = .ok (.string (tstr [UInt8.ofNat (192 + k / 64), UInt8.ofNat (128 + k % 64)])) (w.alloc (.cells #[.int .u8 (192 + (k : Int) / 64), .int .u8 (128 + (k : Int) % 64)] 5)) :=
    conv_lit w [UInt8.ofNat (192 + k / 64), UInt8.ofNat (128 + k % 64)] _ (by simp <;> omega)
  have ee : tstr (Ent.num k) = _ := congrArg tstr (Ent.num_two k h.1 h.2)
  rw [← ee] at cv
  clear ee
  obtain ⟨r, hr⟩ : ∃ r, tstr (Ent.num k) = r := ⟨_, rfl⟩
  rw [hr] at cv ⊢
  clear hr
  obtain ⟨K, hK⟩ : ∃ K : Int, K = (k : Int) := ⟨_, rfl⟩
  rw [← hK] at cv ⊢
  have g1 : 1 ≤ K := by omega
  have g2 : K ≤ 1114111 := by omega
  have f0 : 128 ≤ K := by omega
  have f1 : K < 2048 := by omega
  have f2 : K < 55296 := by omega
  clear hK h0 h9 h
  go_enter Tryd.func15, Tryd.ntmps15
  go_wp2_with fail
  go_ret
  exact ⟨rfl, (Below.refl _ _).alloc (Nat.le_refl _) _⟩
set_option maxRecDepth 100000 in
set_option maxHeartbeats 400000 in
theorem rnumber_3 (k : Nat) (w : World) (h0 : 1 ≤ k) (h9 : k ≤ 1114111) (h : ¬ k < 2048 ∧ k < 55296) :
    Calls Tryd.prog 15 #[.int .i64 k] w fun e w' => e = .returned (.string (tstr (Ent.num k))) ∧ Below w.heap.size w w' := by
  have cv : (convert 42 9 (.slice (some ⟨w.heap.size, 0, none⟩) 3 3)).run Tryd.prog (w.alloc (.cells #[.int .u8 (224 + (k : Int) / 4096), .int .u8 (128 + (k : Int) / 64 % 64), .int .u8 (128 + (k : Int) % 64)] 5)) = .ok (.string (tstr [UInt8.ofNat (224 + k / 4096), UInt8.ofNat (128 + k / 64 % 64), UInt8.ofNat (128 + k % 64)])) (w.alloc (.cells #[.int .u8 (224 + (k : Int) / 4096), .int .u8 (128 + (k : Int) / 64 % 64), .int .u8 (128 + (k : Int) % 64)] 5)) :=
    conv_lit w [UInt8.ofNat (224 + k / 4096), UInt8.ofNat (128 + k / 64 % 64), UInt8.ofNat (128 + k % 64)] _ (by simp <;> omega)
  have ee : tstr (Ent.num k) = _ := congrArg tstr (Ent.num_three k h.1 (by omega) (by omega))
  rw [← ee] at cv
  clear ee
  obtain ⟨r, hr⟩ : ∃ r, tstr (Ent.num k) = r := ⟨_, rfl⟩
  rw [hr] at cv ⊢
  clear hr
  obtain ⟨K, hK⟩ : ∃ K : Int, K = (k : Int) := ⟨_, rfl⟩
  rw [← hK] at cv ⊢
  have g1 : 1 ≤ K := by omega
  have g2 : K ≤ 1114111 := by omega
  have f0 : 128 ≤ K := by omega
  have f1 : 2048 ≤ K := by omega
  have f2 : K < 55296 := by omega
  have f3 : K < 65536 := by omega
  clear hK h0 h9 h
  go_enter Tryd.func15, Tryd.ntmps15
  go_wp2_with fail
  go_ret
  exact ⟨rfl, (Below.refl _ _).alloc (Nat.le_refl _) _⟩
set_option maxRecDepth 100000 in
set_option maxHeartbeats 400000 in
theorem rnumber_4 (k : Nat) (w : World) (h0 : 1 ≤ k) (h9 : k ≤ 1114111) (h : 57344 ≤ k ∧ k < 65536) :
    Calls Tryd.prog 15 #[.int .i64 k] w fun e w' => e = .returned (.string (tstr (Ent.num k))) ∧ Below w.heap.size w w' := by
  have cv : (convert 42 9 (.slice (some ⟨w.heap.size, 0, none⟩) 3 3)).run Tryd.prog (w.alloc (.cells #[.int .u8 (224 + (k : Int) / 4096), .int .u8 (128 + (k : Int) / 64 % 64), .int .u8 (128 + (k : Int) % 64)] 5)) = .ok (.string (tstr [UInt8.ofNat (224 + k / 4096), UInt8.ofNat (128 + k / 64 % 64), UInt8.ofNat (128 + k % 64)])) (w.alloc (.cells #[.int .u8 (224 + (k : Int) / 4096), .int .u8 (128 + (k : Int) / 64 % 64), .int .u8 (128 + (k : Int) % 64)] 5)) :=
    conv_lit w [UInt8.ofNat (224 + k / 4096), UInt8.ofNat (128 + k / 64 % 64), UInt8.ofNat (128 + k % 64)] _ (by simp <;> omega)
  have ee : tstr (Ent.num k) = _ := congrArg tstr (Ent.num_three k (by omega) (by omega) (by omega))
  rw [← ee] at cv
  clear ee
  obtain ⟨r, hr⟩ : ∃ r, tstr (Ent.num k) = r := ⟨_, rfl⟩
  rw [hr] at cv ⊢
  clear hr
  obtain ⟨K, hK⟩ : ∃ K : Int, K = (k : Int) := ⟨_, rfl⟩
  rw [← hK] at cv ⊢
  have g1 : 1 ≤ K := by omega
  have g2 : K ≤ 1114111 := by omega
  have f0 : 128 ≤ K := by omega
  have f1 : 2048 ≤ K := by omega
  have f2 : 57343 < K := by omega
  have f3 : 55296 ≤ K := by omega
  have f4 : K < 65536 := by omega
  clear hK h0 h9 h
  go_enter Tryd.func15, Tryd.ntmps15
  go_wp2_with fail
  go_ret
  exact ⟨rfl, (Below.refl _ _).alloc (Nat.le_refl _) _⟩
set_option maxRecDepth 100000 in
set_option maxHeartbeats 400000 in
theorem rnumber_5 (k : Nat) (w : World) (h0 : 1 ≤ k) (h9 : k ≤ 1114111) (h : 65536 ≤ k) :
    Calls Tryd.prog 15 #[.int .i64 k] w fun e w' => e = .returned (.string (tstr (Ent.num k))) ∧ Below w.heap.size w w' := by
  have cv : (convert 42 9 (.slice (some ⟨w.heap.size, 0, none⟩) 4 4)).run Tryd.prog (w.alloc (.cells #[.int .u8 (240 + (k : Int) / 262144), .int .u8 (128 + (k : Int) / 4096 % 64), .int .u8 (128 + (k : Int) / 64 % 64), .int .u8 (128 + (k : Int) % 64)] 5)) = .ok (.string (tstr [UInt8.ofNat (240 + k / 262144), UInt8.ofNat (128 + k / 4096 % 64), UInt8.ofNat (128 + k / 64 % 64), UInt8.ofNat (128 + k % 64)])) (w.alloc (.cells #[.int .u8 (240 + (k : Int) / 262144), .int .u8 (128 + (k : Int) / 4096 % 64), .int .u8 (128 + (k : Int) / 64 % 64), .int .u8 (128 + (k : Int) % 64)] 5)) :=
    conv_lit w [UInt8.ofNat (240 + k / 262144), UInt8.ofNat (128 + k / 4096 % 64), UInt8.ofNat (128 + k / 64 % 64), UInt8.ofNat (128 + k % 64)] _ (by simp <;> omega)
  have ee : tstr (Ent.num k) = _ := congrArg tstr (Ent.num_four k (by omega) (by omega))
  rw [← ee] at cv
  clear ee
  obtain ⟨r, hr⟩ : ∃ r, tstr (Ent.num k) = r := ⟨_, rfl⟩
  rw [hr] at cv ⊢
  clear hr
  obtain ⟨K, hK⟩ : ∃ K : Int, K = (k : Int) := ⟨_, rfl⟩
  rw [← hK] at cv ⊢
  have g1 : 1 ≤ K := by omega
  have g2 : K ≤ 1114111 := by omega
  have f0 : 128 ≤ K := by omega
  have f1 : 2048 ≤ K := by omega
  have f2 : 57343 < K := by omega
  have f3 : 55296 ≤ K := by omega
  have f4 : 65536 ≤ K := by omega
  clear hK h0 h9 h
  go_enter Tryd.func15, Tryd.ntmps15
  go_wp2_with fail
  go_ret
  exact ⟨rfl, (Below.refl _ _).alloc (Nat.le_refl _) _⟩
set_option maxRecDepth 100000 in
set_option maxHeartbeats 400000 in
theorem rnumber_any (n : Int) (w : World) (h1 : -9223372036854775808 ≤ n) (h2 : n ≤ 9223372036854775807) :
    Calls Tryd.prog 15 #[.int .i64 n] w fun e w' => e = .returned (.string (tstr (Ent.numb n))) ∧ Below w.heap.size w w' := by
  by_cases hb : n < 1 ∨ (55296 ≤ n ∧ n ≤ 57343) ∨ 1114111 < n
  · have e : Ent.numb n = [239, 191, 189] := by
      unfold Ent.numb
      split
      · rfl
      · rw [Ent.num_bad n (by omega)]
    have E := Lib.hid e
    clear e
    go_enter Tryd.func15, Tryd.ntmps15
    rcases hb with hb | ⟨hb, hb'⟩ | hb
    · go_wp2_with fail
      go_ret
      exact ⟨retS (by rw [E.out]; rfl), Below.refl _ _⟩
    · have g1 : ¬ n < 1 := by omega
      have g2 : ¬ 1114111 < n := by omega
      go_wp2_with fail
      go_ret
      exact ⟨retS (by rw [E.out]; rfl), Below.refl _ _⟩
    · have g1 : ¬ n < 1 := by omega
      go_wp2_with fail
      go_ret
      exact ⟨retS (by rw [E.out]; rfl), Below.refl _ _⟩
  · obtain ⟨k, rfl⟩ : ∃ k : Nat, n = k := ⟨n.toNat, by omega⟩
    have e : Ent.numb k = Ent.num k := by unfold Ent.numb; rw [if_neg (by omega)]
    rw [e]
    by_cases c1 : k < 128
    · exact rnumber_1 k w (by omega) (by omega) c1
    by_cases c2 : k < 2048
    · exact rnumber_2 k w (by omega) (by omega) ⟨c1, c2⟩
    by_cases c3 : k < 55296
    · exact rnumber_3 k w (by omega) (by omega) ⟨c2, c3⟩
    by_cases c4 : k < 65536
    · exact rnumber_4 k w (by omega) (by omega) ⟨by omega, c4⟩
    · exact rnumber_5 k w (by omega) (by omega) (by omega)

/-- The value of a digit in a base, -1 if it is none. -/
def rdig (c : UInt8) (base : Nat) : Int := if Ent.dig c < base then Ent.dig c else -1

set_option maxHeartbeats 400000 in
theorem rdigit_any (c : UInt8) (base : Nat) (w : World) (hb : base = 10 ∨ base = 16) :
    Calls Tryd.prog 39 #[.int .u8 c.toNat, .int .i64 base] w fun e w' => e = .returned (.int .i64 (rdig c base)) ∧ w = w' := by
  have hc := c.toNat_lt
  have hd : rdig c base = if 48 ≤ c.toNat ∧ c.toNat ≤ 57 then (c.toNat : Int) - 48 else if base = 16 then (if 97 ≤ c.toNat ∧ c.toNat ≤ 102 then (c.toNat : Int) - 87 else if 65 ≤ c.toNat ∧ c.toNat ≤ 70 then (c.toNat : Int) - 55 else -1) else -1 := by
    unfold rdig Ent.dig
    by_cases a : 48 ≤ c.toNat ∧ c.toNat ≤ 57
    · rw [if_pos a, if_pos a, if_pos (by omega)]; omega
    rw [if_neg a, if_neg a]
    by_cases b : 97 ≤ c.toNat ∧ c.toNat ≤ 102
    · rw [if_pos b, if_pos b]
      rcases hb with rfl | rfl
      · rw [if_neg (by omega), if_neg (by omega)]
      · rw [if_pos (by omega), if_pos rfl]; omega
    rw [if_neg b, if_neg b]
    by_cases d : 65 ≤ c.toNat ∧ c.toNat ≤ 70
    · rw [if_pos d, if_pos d]
      rcases hb with rfl | rfl
      · rw [if_neg (by omega), if_neg (by omega)]
      · rw [if_pos (by omega), if_pos rfl]; omega
    rw [if_neg d, if_neg d]
    rcases hb with rfl | rfl <;> rfl
  have HD := Lib.hid hd
  clear hd
  rcases hb with rfl | rfl
  all_goals
    go_enter Tryd.func39, Tryd.ntmps39
    go_wp2_with fail
    all_goals go_ret
    all_goals refine ⟨retI ?_, rfl⟩
    all_goals rw [HD.out]
    all_goals repeat' split
    all_goals first | omega | exact absurd trivial ‹¬True›

set_option maxHeartbeats 400000 in
theorem rword_any (c : UInt8) (w : World) :
    Calls Tryd.prog 29 #[.int .u8 c.toNat] w fun e w' => e = .returned (.bool (Ent.word c)) ∧ w = w' := by
  have hc := c.toNat_lt
  have hd : Ent.word c = (decide (97 ≤ c.toNat) && decide (c.toNat ≤ 122) || decide (65 ≤ c.toNat) && decide (c.toNat ≤ 90) || decide (48 ≤ c.toNat) && decide (c.toNat ≤ 57) || c.toNat == 61) := by
    unfold Ent.word Ent.isL
    rw [Bool.or_comm (decide (65 ≤ c.toNat) && _)]
  have HD := Lib.hid hd
  clear hd
  go_enter Tryd.func29, Tryd.ntmps29
  go_wp2_with fail
  all_goals go_ret
  all_goals refine ⟨retB ?_, rfl⟩
  all_goals rw [HD.out]
  all_goals rw [Bool.eq_iff_iff]
  all_goals simp only [Bool.or_eq_true, Bool.and_eq_true, decide_eq_true_eq, beq_iff_eq, true_iff]
  all_goals omega

set_option maxHeartbeats 400000 in
theorem rbegins_any (s p : ByteArray) (w : World) :
    Calls Tryd.prog 27 #[.string s, .string p] w fun e w' => e = .returned (.bool (p.data.toList.isPrefixOf s.data.toList)) ∧ w = w' := by
  have hl : p.data.toList.isPrefixOf s.data.toList = if p.size ≤ s.size then (s.extract 0 p.size).toList == p.toList else false := by
    have hps : p.data.toList.length = p.size := rfl
    have hss : s.data.toList.length = s.size := rfl
    rw [Bool.eq_iff_iff, List.isPrefixOf_iff_prefix]
    have e := textract s 0 p.size
    rw [Nat.zero_add, List.drop_zero] at e
    split
    · rw [beq_iff_eq, Lib.toList_data, Lib.toList_data, e, ← hps, List.prefix_iff_eq_take]
      exact eq_comm
    · rename_i h
      constructor
      · intro hx; have := hx.length_le; omega
      · intro hx; cases hx
  have HL := Lib.hid hl
  clear hl
  by_cases hle : p.size ≤ s.size
  all_goals
    go_enter Tryd.func27, Tryd.ntmps27
    go_wp2_with fail
    go_ret
    refine ⟨retB ?_, rfl⟩
    rw [HL.out]
    first | rw [if_pos hle] | rw [if_neg hle]

end Go.Proofs.YtmpdapjfndjicaaDoor
