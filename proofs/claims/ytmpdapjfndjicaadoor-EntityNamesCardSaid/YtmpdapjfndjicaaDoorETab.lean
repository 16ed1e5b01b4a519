/- The program's table in memory; Lookup and Names. -/
import Derived.Test.YtmpdapjfndjicaaDoorECod
import Derived.Outline
import Derived.Laws.Strings
namespace Go.Proofs.YtmpdapjfndjicaaDoor
open Go Go.RowKit

/-- The name, and the code point, of a row of the table. -/
def tnm (i : Nat) : List UInt8 := (Ent.tab.getD i ([], 0)).1
def tpt (i : Nat) : Nat := (Ent.tab.getD i ([], 0)).2
/-- The table lies in memory. -/
def Tab (w : World) : Prop := ∀ i < 30, w.cell? ⟨0, i * 2, none⟩ = some (.string (tstr (tnm i))) ∧ w.cell? ⟨0, i * 2 + 1, none⟩ = some (.int .i32 (tpt i : Nat))
theorem Tab.below {w w' : World} (h : Tab w) (hb : Below w.heap.size w w') : Tab w' := fun i hi =>
  ⟨(hb.cell (World.block_lt_of_cell? w _ (h i hi).1)).trans (h i hi).1, (hb.cell (World.block_lt_of_cell? w _ (h i hi).2)).trans (h i hi).2⟩
theorem less_eq (a b : ByteArray) : Op.bytesLess a.toList b.toList = decide (a.data.toList < b.data.toList) := by
  rw [bytesLess_eq, Lib.toList_data, Lib.toList_data]

set_option maxRecDepth 100000 in
set_option maxHeartbeats 1000000 in
theorem tlookup_any (s : ByteArray) (w : World) (hT : Tab w) :
    Calls Tryd.prog 12 #[.string s] w fun e w' => e = .returned (.tuple #[.string (tstr ((Ent.look s.data.toList).getD [])), .bool (Ent.look s.data.toList).isSome]) ∧ w = w' := by
  go_enter Tryd.func12, Tryd.ntmps12
  go_wp2_with fail
  go_loop [4, 5] (fun a b => ∃ lo hi : Nat, lo ≤ hi ∧ hi ≤ 30 ∧ a = .int .i64 lo ∧ b = .int .i64 hi ∧ (∀ i < lo, tnm i < s.data.toList) ∧ (∀ i, hi ≤ i → i < 30 → ¬ tnm i < s.data.toList)) (fun a b => (intOf b - intOf a).toNat)
  case atStart => exact ⟨0, 30, by omega, by omega, rfl, rfl, fun i h => absurd h (by omega), fun i h1 h2 => by omega⟩
  case round =>
    obtain ⟨lo, hi, hle, h30, rfl, rfl, hlo, hhi⟩ := hrel
    by_cases hlt : lo < hi
    · obtain ⟨m, hm⟩ : ∃ m : Nat, m = (lo + hi) / 2 := ⟨_, rfl⟩
      have hmi : ((lo : Int) + (hi : Int)) / 2 = (m : Int) := by omega
      have hm1 : lo ≤ m := by omega
      have hm2 : m < hi := by omega
      have hm3 : m < 30 := by omega
      obtain ⟨hc, hp⟩ := hT m hm3
      obtain ⟨N, hN⟩ : ∃ N, tstr (tnm m) = N := ⟨_, rfl⟩
      rw [hN] at hc
      have HL := Lib.hid hlo
      have HH := Lib.hid hhi
      have hlr : m < hi := hm2
      by_cases hls : tnm m < s.data.toList
      · have hb : Op.bytesLess N.toList s.toList = true := by rw [less_eq, ← hN]; exact decide_eq_true hls
        have hnew : ∀ i < m + 1, tnm i < s.data.toList := fun i hi' => by
          by_cases e : i = m
          · subst e; exact hls
          · exact List.lt_trans (Ent.tab_sorted m hm3 i (by omega)) hls
        have HN := Lib.hid hnew
        clear hlo hhi hp hm hN hls hnew
        go_wp2_with fail
        go_round
        case rel => exact ⟨m + 1, hi, by omega, h30, by go_num, rfl, HN.out, HH.out⟩
        case measure => simp [intOf]; omega
      · have hb : Op.bytesLess N.toList s.toList = false := by rw [less_eq, ← hN]; exact decide_eq_false hls
        have hnew : ∀ i, m ≤ i → i < 30 → ¬ tnm i < s.data.toList := fun i h1 h2 => by
          by_cases e : i = m
          · subst e; exact hls
          · exact fun hx => hls (List.lt_trans (Ent.tab_sorted i h2 m (by omega)) hx)
        have HN := Lib.hid hnew
        clear hlo hhi hp hm hN hls hnew
        go_wp2_with fail
        go_round
        case rel => exact ⟨lo, m, hm1, by omega, rfl, by go_num, HL.out, HN.out⟩
        case measure => simp [intOf]; omega
    · obtain rfl : lo = hi := by omega
      by_cases h3 : lo < 30
      · obtain ⟨hc, hp⟩ := hT lo h3
        obtain ⟨N, hN⟩ : ∃ N, tstr (tnm lo) = N := ⟨_, rfl⟩
        rw [hN] at hc
        have g : ∀ w : World, (convert 21 9 (.int .i32 (tpt lo : Nat))).run Tryd.prog w = .ok (.string (Utf8.encode (tpt lo : Nat))) w := fun w =>
          run_convert_int_string w _ _ .i32 _ (by rw [Tryd.underlying21]; rfl) Tryd.underlying9
        obtain ⟨x, hx⟩ : ∃ x : Int, x = (tpt lo : Nat) := ⟨_, rfl⟩
        rw [← hx] at hp g
        by_cases he : tnm lo = s.data.toList
        · have hb : (N.toList == s.toList) = true := by rw [Lib.toList_data, Lib.toList_data, ← hN, tstr_data, he]; simp
          have hres : Ent.look s.data.toList = some (Ent.num x) := by rw [← he, hx]; exact Ent.look_at lo h3
          have HR := Lib.hid hres
          clear hlo hhi hN he hx hres
          go_wp2_with fail
          go_ret2
          exact ⟨retSB (by rw [HR.out]; rfl) (by rw [HR.out]; rfl), rfl⟩
        · have hb : (N.toList == s.toList) = false := by rw [Lib.toList_data, Lib.toList_data, ← hN, tstr_data]; simpa using he
          have hres : Ent.look s.data.toList = none := Ent.look_missing _ lo (by omega) hlo hhi (fun _ => he)
          have HR := Lib.hid hres
          clear hlo hhi hN he hx hres
          go_wp2_with fail
          go_ret2
          exact ⟨retSB (by rw [HR.out]; rfl) (by rw [HR.out]; rfl), rfl⟩
      · have hres : Ent.look s.data.toList = none := Ent.look_missing _ lo (by omega) hlo hhi (fun h => absurd h h3)
        have HR := Lib.hid hres
        obtain rfl : lo = 30 := by omega
        clear hlo hhi hres
        go_wp2_with fail
        go_ret2
        exact ⟨retSB (by rw [HR.out]; rfl) (by rw [HR.out]; rfl), rfl⟩

end Go.Proofs.YtmpdapjfndjicaaDoor
