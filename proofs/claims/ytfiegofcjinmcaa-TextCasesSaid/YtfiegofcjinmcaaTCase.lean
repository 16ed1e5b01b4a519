/- The reference's Lower and Upper return what the plain texts say. -/
import Derived.Test.YtfiegofcjinmcaaTRep
import Derived.Lib.ConvBytes
import Derived.Laws.IdiomStrings
namespace Go.Proofs.Ytfiegofcjinmcaa
open Go.RowKit

theorem tbytesWorld_below (w : World) (e : TypeId) (s : ByteArray) : Below w.heap.size w (Lib.bytesWorld w e s) := by
  refine ⟨?_, ?_, ?_, by rw [Lib.bytesWorld_size]; omega, fun k hk => Lib.bytesWorld_at_old w e s k hk⟩ <;>
  · unfold Lib.bytesWorld World.freeze
    split <;> rfl
theorem tbytesWorld_free (w : World) (e : TypeId) (s : ByteArray) (j : Nat) (hj : j < s.size) : (Lib.bytesWorld w e s).frozen? ⟨w.heap.size, j, none⟩ = false := by
  have hn : s.size ≤ (Lib.bytesCells w e s).size := by
    unfold Lib.bytesCells; simp
  simp only [World.frozen?, Lib.bytesWorld_at_new]
  have : ¬ (Lib.bytesCells w e s).size ≤ j := by omega
  simp [this]
theorem tadd_none (b j : Nat) : (⟨b, 0, none⟩ : Addr).add j = ⟨b, j, none⟩ := by unfold Addr.add; split <;> simp_all

/-- A row of bytes that may be written. -/
def BRow (w : World) (g : Nat) (l : List UInt8) : Prop := ∀ j (h : j < l.length), w.cell? ⟨g, j, none⟩ = some (.int .u8 l[j].toNat) ∧ w.frozen? ⟨g, j, none⟩ = false
theorem BRow.set {w : World} {g : Nat} {l : List UInt8} (h : BRow w g l) (k : Nat) (y : UInt8) : BRow (w.setCell ⟨g, k, none⟩ (.int .u8 y.toNat)) g (l.set k y) := by
  intro j hj
  rw [List.length_set] at hj
  obtain ⟨h1, h2⟩ := h j hj
  refine ⟨?_, by rw [World.frozen?_setCell]; exact h2⟩
  by_cases hkj : k = j
  · subst hkj
    rw [World.cell?_setCell_same _ _ _ h1]; simp
  · rw [World.cell?_setCell_other _ _ _ _ (by intro e; injection e with _ h2; exact hkj h2), h1, List.getElem_set_ne hkj]
theorem BRow.conv {w : World} {g cap : Nat} {l : List UInt8} (h : BRow w g l) : (convert 37 9 (.slice (some ⟨g, 0, none⟩) l.length cap)).run Try.prog w = .ok (.string (tstr l)) w := by
  refine run_convert_bytes_back _ 37 9 5 ⟨g, 0, none⟩ cap l Try.underlying37 Try.underlying5 Try.underlying9 ?_
  intro j hj
  rw [tadd_none]
  exact (h j hj).1
theorem BRow.new (w : World) (s : ByteArray) : BRow (Lib.bytesWorld w 5 s) w.heap.size s.data.toList := by
  intro j hj
  refine ⟨?_, tbytesWorld_free w _ s j hj⟩
  rw [Lib.bytesWorld_cell w _ s j hj, List.getD_eq_getElem?_getD, List.getElem?_eq_getElem hj]; rfl

/-- The first ones turned. -/
def part (f : UInt8 → UInt8) (l : List UInt8) (k : Nat) : List UInt8 := (l.take k).map f ++ l.drop k
theorem part_len (f : UInt8 → UInt8) (l : List UInt8) (k : Nat) : (part f l k).length = l.length := by
  unfold part; rw [List.length_append, List.length_map, List.length_take, List.length_drop]; omega
theorem part_zero (f : UInt8 → UInt8) (l : List UInt8) : part f l 0 = l := by simp [part]
theorem part_all (f : UInt8 → UInt8) (l : List UInt8) : part f l l.length = l.map f := by simp [part]
theorem part_get (f : UInt8 → UInt8) (l : List UInt8) (k : Nat) (h : k < l.length) : (part f l k)[k]'(by rw [part_len]; exact h) = l[k] := by
  unfold part
  rw [List.getElem_append_right (by rw [List.length_map, List.length_take]; omega)]
  simp only [List.length_map, List.length_take, List.getElem_drop]
  congr 1; omega
theorem part_step (f : UInt8 → UInt8) (l : List UInt8) (k : Nat) (h : k < l.length) : (part f l k).set k (f l[k]) = part f l (k + 1) := by
  unfold part
  rw [List.set_append_right _ _ (by rw [List.length_map, List.length_take]; omega), List.drop_eq_getElem_cons h, List.length_map, List.length_take, show k - min k l.length = 0 from by omega, List.take_succ_eq_append_getElem h, List.set_cons_zero, List.map_append, List.append_assoc]; rfl
theorem part_same (f : UInt8 → UInt8) (l : List UInt8) (k : Nat) (h : k < l.length) (hf : f l[k] = l[k]) : part f l (k + 1) = part f l k := by
  rw [← part_step f l k h, hf]
  have hh : k < (part f l k).length := by rw [part_len]; exact h
  have : (part f l k).set k ((part f l k)[k]'hh) = part f l k := List.set_getElem_self hh
  rwa [part_get f l k h] at this

set_option maxRecDepth 100000 in
set_option maxHeartbeats 400000 in
theorem rlower_any (s : ByteArray) (w : World) (hs : s.size ≤ 10000) :
    Calls Try.prog 16 #[.string s] w fun e w' => e = .returned (.string (tstr (s.data.toList.map Txt.lo))) ∧ Below w.heap.size w w' := by
  have hcv := Lib.run_convert_string_bytes (P := Try.prog) w 9 37 5 s Try.underlying9 Try.underlying37 Try.underlying5
  generalize grownCap w s.size 0 5 = cap at hcv
  have hll : s.data.toList.length = s.size := rfl
  go_enter Try.func16, Try.ntmps16
  go_wp2_with fail
  go_loopw [4] (fun i wr => ∃ k : Nat, k ≤ s.size ∧ i = .int .i64 k ∧ BRow wr w.heap.size (part Txt.lo s.data.toList k) ∧ Below w.heap.size w wr) (fun i _ => s.size - (intOf i).toNat)
  case atStart => exact ⟨0, Nat.zero_le _, rfl, by rw [part_zero]; exact BRow.new w s, tbytesWorld_below w _ s⟩
  case round =>
    obtain ⟨k, hk, rfl, hrow, hbel⟩ := hrel
    by_cases hlt : k < s.size
    · have hkl : k < s.data.toList.length := hlt
      obtain ⟨hc, hf⟩ := hrow k (by rw [part_len]; exact hkl)
      rw [part_get _ _ k hkl] at hc
      have hst := part_step Txt.lo s.data.toList k hkl
      have hsm := part_same Txt.lo s.data.toList k hkl
      obtain ⟨c, hcc⟩ : ∃ c, s.data.toList[k] = c := ⟨_, rfl⟩
      rw [hcc] at hc hst hsm
      have hnum := Txt.lo_num c
      have hsz := hbel.size
      by_cases hup : 65 ≤ c.toNat ∧ c.toNat ≤ 90
      · rw [if_pos hup] at hnum
        obtain ⟨h1, h2⟩ := hup
        have hset := hrow.set k (Txt.lo c)
        rw [hst, hnum] at hset
        have HS := Lib.hid hset
        clear hset hst hsm hnum hcc hrow
        go_wp2_with fail
        go_roundw
        case rel => exact ⟨k + 1, by omega, by go_num, HS.out, hbel.setCell (p := ⟨w.heap.size, k, none⟩) (Nat.le_refl _) _⟩
        case measure => simp [intOf]; omega
      · rw [if_neg hup] at hnum
        have hp : part Txt.lo s.data.toList (k + 1) = part Txt.lo s.data.toList k := hsm (UInt8.toNat_inj.1 hnum)
        rw [← hp] at hrow
        have HR := Lib.hid hrow
        clear hst hsm hnum hcc hp hrow
        by_cases h65 : 65 ≤ c.toNat
        · have h90 : ¬ c.toNat ≤ 90 := fun h => hup ⟨h65, h⟩
          clear hup
          go_wp2_with fail
          go_roundw
          case rel => exact ⟨k + 1, by omega, by go_num, HR.out, hbel⟩
          case measure => simp [intOf]; omega
        · clear hup
          go_wp2_with fail
          go_roundw
          case rel => exact ⟨k + 1, by omega, by go_num, HR.out, hbel⟩
          case measure => simp [intOf]; omega
    · have ek : k = s.size := by omega
      subst ek
      rw [← hll, part_all] at hrow
      have hl2 : (s.data.toList.map Txt.lo).length = s.size := by rw [List.length_map]; rfl
      have hconv := hrow.conv (cap := cap)
      rw [hl2] at hconv
      go_wp2_with fail
      go_ret
      exact ⟨rfl, hbel⟩

set_option maxRecDepth 100000 in
set_option maxHeartbeats 400000 in
theorem rupper_any (s : ByteArray) (w : World) (hs : s.size ≤ 10000) :
    Calls Try.prog 18 #[.string s] w fun e w' => e = .returned (.string (tstr (s.data.toList.map Txt.up))) ∧ Below w.heap.size w w' := by
  have hcv := Lib.run_convert_string_bytes (P := Try.prog) w 9 37 5 s Try.underlying9 Try.underlying37 Try.underlying5
  generalize grownCap w s.size 0 5 = cap at hcv
  have hll : s.data.toList.length = s.size := rfl
  go_enter Try.func18, Try.ntmps18
  go_wp2_with fail
  go_loopw [4] (fun i wr => ∃ k : Nat, k ≤ s.size ∧ i = .int .i64 k ∧ BRow wr w.heap.size (part Txt.up s.data.toList k) ∧ Below w.heap.size w wr) (fun i _ => s.size - (intOf i).toNat)
  case atStart => exact ⟨0, Nat.zero_le _, rfl, by rw [part_zero]; exact BRow.new w s, tbytesWorld_below w _ s⟩
  case round =>
    obtain ⟨k, hk, rfl, hrow, hbel⟩ := hrel
    by_cases hlt : k < s.size
    · have hkl : k < s.data.toList.length := hlt
      obtain ⟨hc, hf⟩ := hrow k (by rw [part_len]; exact hkl)
      rw [part_get _ _ k hkl] at hc
      have hst := part_step Txt.up s.data.toList k hkl
      have hsm := part_same Txt.up s.data.toList k hkl
      obtain ⟨c, hcc⟩ : ∃ c, s.data.toList[k] = c := ⟨_, rfl⟩
      rw [hcc] at hc hst hsm
      have hnum := Txt.up_num c
      have hsz := hbel.size
      by_cases hup : 97 ≤ c.toNat ∧ c.toNat ≤ 122
      · rw [if_pos hup] at hnum
        obtain ⟨h1, h2⟩ := hup
        have hset := hrow.set k (Txt.up c)
        have hsub : ((c.toNat - 32 : Nat) : Int) = (c.toNat : Int) - 32 := by omega
        rw [hst, hnum, hsub] at hset
        clear hsub
        have HS := Lib.hid hset
        clear hset hst hsm hnum hcc hrow
        go_wp2_with fail
        go_roundw
        case rel => exact ⟨k + 1, by omega, by go_num, HS.out, hbel.setCell (p := ⟨w.heap.size, k, none⟩) (Nat.le_refl _) _⟩
        case measure => simp [intOf]; omega
      · rw [if_neg hup] at hnum
        have hp : part Txt.up s.data.toList (k + 1) = part Txt.up s.data.toList k := hsm (UInt8.toNat_inj.1 hnum)
        rw [← hp] at hrow
        have HR := Lib.hid hrow
        clear hst hsm hnum hcc hp hrow
        by_cases h97 : 97 ≤ c.toNat
        · have h90 : ¬ c.toNat ≤ 122 := fun h => hup ⟨h97, h⟩
          clear hup
          go_wp2_with fail
          go_roundw
          case rel => exact ⟨k + 1, by omega, by go_num, HR.out, hbel⟩
          case measure => simp [intOf]; omega
        · clear hup
          go_wp2_with fail
          go_roundw
          case rel => exact ⟨k + 1, by omega, by go_num, HR.out, hbel⟩
          case measure => simp [intOf]; omega
    · have ek : k = s.size := by omega
      subst ek
      rw [← hll, part_all] at hrow
      have hl2 : (s.data.toList.map Txt.up).length = s.size := by rw [List.length_map]; rfl
      have hconv := hrow.conv (cap := cap)
      rw [hl2] at hconv
      go_wp2_with fail
      go_ret
      exact ⟨rfl, hbel⟩

end Go.Proofs.Ytfiegofcjinmcaa
