/- The reference's Code and Join return what the plain texts say. -/
import Derived.Test.YtfiegofcjinmcaaTPts
import Derived.Test.YtfiegofcjinmcaaTCod
import Derived.BigQuiet
import Derived.Deep.QuietTactic
namespace Go.Proofs.Ytfiegofcjinmcaa
open Go.RowKit

set_option maxHeartbeats 400000 in
theorem rcode_any (s : ByteArray) (w : World) (h1 : 1 ≤ s.size) (h4 : s.size ≤ 4) :
    Calls Try.prog 11 #[.string s] w fun e w' => e = .returned (.int .i64 (code s.data.toList : Nat)) ∧ ∃ n, w' = w.drewN n := by
  have hd : s.data.toList = s.data.toList.drop 0 := rfl
  by_cases e2 : s.size = 1
  · have hl : s.data.toList = [s[0]] := by rw [hd, drop_at s 0 (by omega), drop_end s _ (by omega)]
    have HL := Lib.hid hl
    clear hl hd
    have hb : (s[0].toNat : Int) < 256 := by have := s[0].toNat_lt; omega
    go_enter Try.func11, Try.ntmps11
    go_wp2
    go_ret
    exact ⟨retI (by rw [HL.out]; rfl), 0, rfl⟩
  · have n1 : ((s.size : Int) == 1) = false := by simp; omega
    by_cases e3 : s.size = 2
    · have n2 : ((s.size : Int) == 2) = true := by simp; omega
      have hl : s.data.toList = [s[0], s[1]] := by rw [hd, drop_at s 0 (by omega), drop_at s 1 (by omega), drop_end s _ (by omega)]
      have HL := Lib.hid hl
      clear hl hd
      go_enter Try.func11, Try.ntmps11
      go_wp2_with fail
      go_quiet (fail)
      go_wp2_with fail
      go_ret
      refine ⟨retI ?_, _, rfl⟩
      rw [HL.out]
      have b0 := s[0].toNat_lt
      have b1 := s[1].toNat_lt
      simp only [code, u8_and31 (x := (s[0].toNat : Int)) (by omega) (by omega), u8_and63 (x := (s[1].toNat : Int)) (by omega) (by omega)]
      simp (disch := omega) only [w64]
      omega
    · have n2 : ((s.size : Int) == 2) = false := by simp; omega
      by_cases e5 : s.size = 3
      · have n3 : ((s.size : Int) == 3) = true := by simp; omega
        have hl : s.data.toList = [s[0], s[1], s[2]] := by rw [hd, drop_at s 0 (by omega), drop_at s 1 (by omega), drop_at s 2 (by omega), drop_end s _ (by omega)]
        have HL := Lib.hid hl
        clear hl hd
        go_enter Try.func11, Try.ntmps11
        go_wp2_with fail
        go_quiet (fail)
        go_wp2_with fail
        go_ret
        refine ⟨retI ?_, _, rfl⟩
        rw [HL.out]
        have b0 := s[0].toNat_lt
        have b1 := s[1].toNat_lt
        have b2 := s[2].toNat_lt
        simp only [code, u8_and15 (x := (s[0].toNat : Int)) (by omega) (by omega), u8_and63 (x := (s[1].toNat : Int)) (by omega) (by omega), u8_and63 (x := (s[2].toNat : Int)) (by omega) (by omega)]
        simp (disch := omega) only [w64]
        omega
      · have n3 : ((s.size : Int) == 3) = false := by simp; omega
        have hl : s.data.toList = [s[0], s[1], s[2], s[3]] := by rw [hd, drop_at s 0 (by omega), drop_at s 1 (by omega), drop_at s 2 (by omega), drop_at s 3 (by omega), drop_end s _ (by omega)]
        have HL := Lib.hid hl
        clear hl hd
        have e6 : s.size = 4 := by omega
        go_enter Try.func11, Try.ntmps11
        go_wp2_with fail
        go_quiet (fail)
        go_wp2_with fail
        go_ret
        refine ⟨retI ?_, _, rfl⟩
        rw [HL.out]
        have b0 := s[0].toNat_lt
        have b1 := s[1].toNat_lt
        have b2 := s[2].toNat_lt
        have b3 := s[3].toNat_lt
        simp only [code, u8_and7 (x := (s[0].toNat : Int)) (by omega) (by omega), u8_and63 (x := (s[1].toNat : Int)) (by omega) (by omega), u8_and63 (x := (s[2].toNat : Int)) (by omega) (by omega), u8_and63 (x := (s[3].toNat : Int)) (by omega) (by omega)]
        simp (disch := omega) only [w64]
        omega

/-- A slice of strings that can be read. -/
def RowS (w : World) (A : Option Addr) (cs : List (List UInt8)) : Prop :=
  ∀ i, i < cs.length → ∃ b o, A = some ⟨b, o, none⟩ ∧ b < w.heap.size ∧ w.cell? ⟨b, o + i, none⟩ = some (.string (tstr (cs.getD i [])))
theorem RowS.below {w w' : World} {A : Option Addr} {cs : List (List UInt8)} (h : RowS w A cs) (hb : Below w.heap.size w w') : RowS w' A cs := by
  intro i hi
  obtain ⟨b, o, h1, h2, h3⟩ := h i hi
  exact ⟨b, o, h1, by have := hb.size; omega, (hb.cell (p := ⟨b, o + i, none⟩) h2).trans h3⟩
theorem rowS_own {w : World} {base : Nat} {v : Value} {cs : List (List UInt8)} (h : w.ownsRow base 9 1 v cs.length (scells cs)) : ∃ A c, v = .slice A cs.length c ∧ RowS w A cs := by
  have h0 := h
  rcases h.2 with ⟨rfl, hn⟩ | ⟨g, cap, cur, rfl, _, hg, _⟩
  · refine ⟨none, 0, by rw [hn], fun i hi => by omega⟩
  · refine ⟨_, _, rfl, fun i hi => ⟨g, 0, rfl, lt_of_block hg, ?_⟩⟩
    rw [Nat.zero_add, h0.cellAt i (by omega)]
    simp [scells, List.getD, hi]

set_option maxHeartbeats 400000 in
theorem rjoin_any (A : Option Addr) (cap : Nat) (cs : List (List UInt8)) (a t : Int) (w : World) (hA : RowS w A cs) (hl : cs.flatten.length ≤ 100000) (ha : a ≤ 9223372036854775807) (ht : t ≤ 9223372036854775807) :
    Calls Try.prog 14 #[.slice A cs.length cap, .int .i64 a, .int .i64 t] w fun e w' => e = .returned (.string (tstr (seg cs a.toNat t.toNat).flatten)) ∧ w = w' := by
  obtain ⟨m, hm⟩ : ∃ m : Nat, m = a.toNat := ⟨_, rfl⟩
  have hmx : max a 0 = (m : Int) := by omega
  have hmb : (m : Int) ≤ 9223372036854775807 := by omega
  rw [← hm]
  clear hm
  go_enter Try.func14, Try.ntmps14
  go_wp2_with fail
  have hse := seg_empty cs m m (Nat.le_refl _)
  go_loop [7, 8] (fun v i => ∃ k : Nat, m ≤ k ∧ (k = m ∨ ((k : Int) ≤ t ∧ k ≤ cs.length)) ∧ i = .int .i64 k ∧ v = .string (tstr (seg cs m k).flatten)) (fun _ i => cs.length - (intOf i).toNat)
  case atStart => exact ⟨m, Nat.le_refl _, .inl rfl, rfl, by rw [hse]; rfl⟩
  case round =>
    obtain ⟨k, hmk, hor, rfl, rfl⟩ := hrel
    by_cases hlt : (k : Int) < t ∧ k < cs.length
    · obtain ⟨b, o, rfl, hb, hc⟩ := hA k hlt.2
      obtain ⟨h1, h2⟩ := hlt
      have h2' : (k : Int) < (cs.length : Int) := by omega
      have hst := seg_step cs m k hmk h2
      have hsl := seg_len cs m k
      have hsl2 := seg_len cs m (k + 1)
      have e1 : ∀ c : List UInt8, [c].flatten = c := fun c => by simp
      rw [hst, List.flatten_append, List.length_append, e1] at hsl2
      obtain ⟨c, hcc⟩ : ∃ c, cs.getD k [] = c := ⟨_, rfl⟩
      rw [hcc] at hc hst hsl2
      obtain ⟨L, hL⟩ : ∃ L, (seg cs m k).flatten = L := ⟨_, rfl⟩
      rw [hL] at hsl hsl2 ⊢
      have hcl : (tstr c).size ≤ 100000 := by rw [tstr_size]; omega
      have hLl : (tstr L).size ≤ 100000 := by rw [tstr_size]; omega
      have had : ∀ W : World, (Op.stringOp .add (tstr L) (tstr c)).run Try.prog W = .ok (.string (tstr L ++ tstr c)) W := fun W => run_string_add_sum W _ _ (by omega)
      have hS : tstr (seg cs m (k + 1)).flatten = tstr L ++ tstr c := by rw [hst, List.flatten_append, hL, tstr_append, e1]
      have HS := Lib.hid hS
      clear hS e1 hst hcc hL hsl hsl2 hse
      go_wp2_with fail
      go_round
      case rel => exact ⟨k + 1, by omega, .inr ⟨by omega, by omega⟩, by go_num, by rw [HS.out]⟩
      case measure => simp [intOf]; omega
    · have hfin : seg cs m k = seg cs m t.toNat := by
        rcases hor with rfl | ⟨h1, h2⟩
        · by_cases hkt : (k : Int) < t
          · exact seg_all cs k k _ (by omega) (by omega)
          · rw [seg_empty cs k k (Nat.le_refl _), seg_empty cs k _ (by omega)]
        · by_cases hkt : (k : Int) < t
          · exact seg_all cs m k _ (by omega) (by omega)
          · rw [show k = t.toNat from by omega]
      have HF := Lib.hid hfin
      clear hfin hse
      by_cases hkt : (k : Int) < t
      · have hkl : ¬ (k : Int) < (cs.length : Int) := by omega
        go_wp2_with fail
        go_ret
        exact ⟨retS (by rw [HF.out]), rfl⟩
      · go_wp2_with fail
        go_ret
        exact ⟨retS (by rw [HF.out]), rfl⟩

end Go.Proofs.Ytfiegofcjinmcaa
