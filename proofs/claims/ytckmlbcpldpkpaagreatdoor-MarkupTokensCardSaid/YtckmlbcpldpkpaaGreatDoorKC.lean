/- The library's two tables for UTF-8 lie in memory as the program lays them. -/
import Derived.Test.YtckmlbcpldpkpaaGreatDoorProg
import Derived.Shelf.Unicode.DecodeSlow
import Derived.Below
import Derived.BigQuiet
import Derived.Deep.QuietTactic
import Derived.Shelf.Unicode.ValidAny
import Derived.WalkKit
import Derived.Lib.OthersKept
import Derived.RangeFuncNested
import Derived.RangeFuncBound
import Derived.RangeFuncCalls
import Derived.RangeFuncLeaves
import Derived.Shelf.Abstract
import Derived.Shelf.RegionOpen
import Derived.OwnWalkIn
import Derived.TacticsInMore
import Derived.LoopNIn
import Derived.LoopIn
import Derived.Shelf.Strings.BuilderK
import Derived.Shelf.Strings.BuilderRune
import Derived.Lib.FrozenHead
import Derived.Deep.RegionHeld3
import Derived.Deep.RegionWith
import Derived.Deep.DrawnRows
import Derived.Shelf.Strconv.Clone
import Derived.Lib.ReplaceLaws
import Derived.Lib.Replace
import Derived.Lib.CountLaws
import Derived.Lib.IndexMore
import Derived.Shelf.Strings.Replace
import Derived.Shelf.Vars
import Derived.Laws.Runes
import Derived.Outline
import Derived.Laws.Strings
import Derived.Shelf.Strings.Prefix
import Derived.Shelf.Small.Strs
import Derived.Lib.IndexLaws
import Derived.Test.YtckmlbcpldpkpaaGreatDoorRows
import Derived.Lib.LaidU8
import Derived.Lib.LaidIn
import Derived.LaidMore
import Derived.Test.YtckmlbcpldpkpaaGreatDoorKA
import Derived.Test.YtckmlbcpldpkpaaGreatDoorKB
namespace Go.Proofs.YtckmlbcpldpkpaaGreatDoor
open Go Go.RowKit

def Lit (w : World) : Prop := Lib.Utf8Tabs 0 1 w
theorem lit_cell {w w' : World} {a : Addr} {v : Value} (h : w.cell? a = some v) (hb : Below w.heap.size w w') : w'.cell? a = some v := (hb.cell (World.block_lt_of_cell? w a h)).trans h
theorem Lit.below {w w' : World} (h : Lit w) (hb : Below w.heap.size w w') : Lit w' :=
  ⟨fun c hc => lit_cell (h.1 c hc) hb, fun i hi => ⟨lit_cell (h.2 i hi).1 hb, lit_cell (h.2 i hi).2 hb⟩⟩

end Go.Proofs.YtckmlbcpldpkpaaGreatDoor

/- The library's FullRuneInString says of one to three bytes whether they are no proper beginning of a valid sequence. -/
namespace Go.Proofs.YtckmlbcpldpkpaaGreatDoor
open Go.RowKit

theorem first_bytes (p : ByteArray) (h : 0 < p.size) : ∃ a r, p.data.toList = a :: r ∧ p[0] = a := by
  cases hp : p.data.toList with
  | nil => have h2 : p.data.toList.length = p.size := rfl; rw [hp] at h2; simp at h2; omega
  | cons a r =>
    refine ⟨a, r, rfl, ?_⟩
    have h2 : p.data.toList[0]? = some a := by rw [hp]; rfl
    have h3 : p.data.toList[0]? = some p[0] := by
      rw [List.getElem?_eq_getElem (by show 0 < p.size; exact h)]; rfl
    rw [h3] at h2
    exact Option.some.inj h2

set_option maxRecDepth 100000 in
set_option maxHeartbeats 1000000 in
/-- A first byte that is full by itself. -/
theorem full_short (p : ByteArray) (w : World) (x : Nat) (h0 : 0 < p.size) (h10 : p.size ≤ 3) (hT : Lit w) (hx : Lib.firstT p[0].toNat = x) (hx2 : x < 256) (hx3 : x % 8 ≤ p.size) :
    Calls Tryz.prog 66 #[.string p] w fun e w' => e = .returned (.bool true) ∧ Below w.heap.size w w' := by
  have hc := hT.1 p[0].toNat p[0].toNat_lt
  rw [hx] at hc
  have hand : ∀ y : Fin 256, bits .and .u8 ((y.val : Nat) : Int) 7 = ((y.val % 8 : Nat) : Int) := by decide
  have ha := hand ⟨x, hx2⟩
  dsimp only at ha
  have h256 := p[0].toNat_lt
  go_enter Tryz.func66, Tryz.ntmps66
  go_wp2
  go_ret
  exact ⟨rfl, Below.refl _ _⟩

set_option maxRecDepth 100000 in
set_option maxHeartbeats 1000000 in
/-- A first byte that wants more than there is: one byte. -/
theorem full_one (p : ByteArray) (w : World) (x lo hi : Nat) (h1 : p.size = 1) (hT : Lit w) (hx : Lib.firstT p[0].toNat = x) (hx2 : x < 256) (hx3 : 1 < x % 8) (hlo : Lib.accLo (x / 16) = lo) (hhi : Lib.accHi (x / 16) = hi) :
    Calls Tryz.prog 66 #[.string p] w fun e w' => e = .returned (.bool false) ∧ Below w.heap.size w w' := by
  have hc := hT.1 p[0].toNat p[0].toNat_lt
  rw [hx] at hc
  obtain ⟨hcl, hch⟩ := hT.2 (x / 16) (by omega)
  rw [hlo, show 2 * (x / 16) = x / 16 * 2 from by omega] at hcl
  rw [hhi, show 2 * (x / 16) + 1 = x / 16 * 2 + 1 from by omega] at hch
  have h256 := p[0].toNat_lt
  go_enter Tryz.func66, Tryz.ntmps66
  go_wp2
  go_quiet (fail)
  go_wp2
  go_ret
  exact ⟨rfl, ((Below.refl _ w).alloc (Nat.le_refl _) _).trans ⟨rfl, rfl, rfl, Nat.le_refl _, fun _ _ => rfl⟩⟩
set_option maxRecDepth 100000 in
set_option maxHeartbeats 1000000 in
/-- The second byte is too small. -/
theorem full_low2 (p : ByteArray) (w : World) (x lo hi : Nat) (h1 : p.size = 2) (hT : Lit w) (hx : Lib.firstT p[0].toNat = x) (hx2 : x < 256) (hx3 : 2 < x % 8) (hlo : Lib.accLo (x / 16) = lo) (hhi : Lib.accHi (x / 16) = hi) (hb : p[1].toNat < lo) :
    Calls Tryz.prog 66 #[.string p] w fun e w' => e = .returned (.bool true) ∧ Below w.heap.size w w' := by
  have hc := hT.1 p[0].toNat p[0].toNat_lt
  rw [hx] at hc
  obtain ⟨hcl, hch⟩ := hT.2 (x / 16) (by omega)
  rw [hlo, show 2 * (x / 16) = x / 16 * 2 from by omega] at hcl
  rw [hhi, show 2 * (x / 16) + 1 = x / 16 * 2 + 1 from by omega] at hch
  have h256 := p[0].toNat_lt
  have q1 : decide ((p[1].toNat : Int) < (lo : Int)) = true := by exact decide_eq_true (by omega)
  go_enter Tryz.func66, Tryz.ntmps66
  go_wp2
  go_quiet (fail)
  go_wp2
  go_ret
  exact ⟨rfl, ((Below.refl _ w).alloc (Nat.le_refl _) _).trans ⟨rfl, rfl, rfl, Nat.le_refl _, fun _ _ => rfl⟩⟩
set_option maxRecDepth 100000 in
set_option maxHeartbeats 1000000 in
/-- The second byte is too great. -/
theorem full_high2 (p : ByteArray) (w : World) (x lo hi : Nat) (h1 : p.size = 2) (hT : Lit w) (hx : Lib.firstT p[0].toNat = x) (hx2 : x < 256) (hx3 : 2 < x % 8) (hlo : Lib.accLo (x / 16) = lo) (hhi : Lib.accHi (x / 16) = hi) (ha : ¬ p[1].toNat < lo) (hb : hi < p[1].toNat) :
    Calls Tryz.prog 66 #[.string p] w fun e w' => e = .returned (.bool true) ∧ Below w.heap.size w w' := by
  have hc := hT.1 p[0].toNat p[0].toNat_lt
  rw [hx] at hc
  obtain ⟨hcl, hch⟩ := hT.2 (x / 16) (by omega)
  rw [hlo, show 2 * (x / 16) = x / 16 * 2 from by omega] at hcl
  rw [hhi, show 2 * (x / 16) + 1 = x / 16 * 2 + 1 from by omega] at hch
  have h256 := p[0].toNat_lt
  have q1 : decide ((p[1].toNat : Int) < (lo : Int)) = false := by exact decide_eq_false (by omega)
  have q2 : decide ((hi : Int) < (p[1].toNat : Int)) = true := by exact decide_eq_true (by omega)
  go_enter Tryz.func66, Tryz.ntmps66
  go_wp2
  go_quiet (fail)
  go_wp2
  go_ret
  exact ⟨rfl, ((Below.refl _ w).alloc (Nat.le_refl _) _).trans ⟨rfl, rfl, rfl, Nat.le_refl _, fun _ _ => rfl⟩⟩
set_option maxRecDepth 100000 in
set_option maxHeartbeats 1000000 in
/-- The second byte is too small. -/
theorem full_low3 (p : ByteArray) (w : World) (x lo hi : Nat) (h1 : p.size = 3) (hT : Lit w) (hx : Lib.firstT p[0].toNat = x) (hx2 : x < 256) (hx3 : 3 < x % 8) (hlo : Lib.accLo (x / 16) = lo) (hhi : Lib.accHi (x / 16) = hi) (hb : p[1].toNat < lo) :
    Calls Tryz.prog 66 #[.string p] w fun e w' => e = .returned (.bool true) ∧ Below w.heap.size w w' := by
  have hc := hT.1 p[0].toNat p[0].toNat_lt
  rw [hx] at hc
  obtain ⟨hcl, hch⟩ := hT.2 (x / 16) (by omega)
  rw [hlo, show 2 * (x / 16) = x / 16 * 2 from by omega] at hcl
  rw [hhi, show 2 * (x / 16) + 1 = x / 16 * 2 + 1 from by omega] at hch
  have h256 := p[0].toNat_lt
  have q1 : decide ((p[1].toNat : Int) < (lo : Int)) = true := by exact decide_eq_true (by omega)
  go_enter Tryz.func66, Tryz.ntmps66
  go_wp2
  go_quiet (fail)
  go_wp2
  go_ret
  exact ⟨rfl, ((Below.refl _ w).alloc (Nat.le_refl _) _).trans ⟨rfl, rfl, rfl, Nat.le_refl _, fun _ _ => rfl⟩⟩
set_option maxRecDepth 100000 in
set_option maxHeartbeats 1000000 in
/-- The second byte is too great. -/
theorem full_high3 (p : ByteArray) (w : World) (x lo hi : Nat) (h1 : p.size = 3) (hT : Lit w) (hx : Lib.firstT p[0].toNat = x) (hx2 : x < 256) (hx3 : 3 < x % 8) (hlo : Lib.accLo (x / 16) = lo) (hhi : Lib.accHi (x / 16) = hi) (ha : ¬ p[1].toNat < lo) (hb : hi < p[1].toNat) :
    Calls Tryz.prog 66 #[.string p] w fun e w' => e = .returned (.bool true) ∧ Below w.heap.size w w' := by
  have hc := hT.1 p[0].toNat p[0].toNat_lt
  rw [hx] at hc
  obtain ⟨hcl, hch⟩ := hT.2 (x / 16) (by omega)
  rw [hlo, show 2 * (x / 16) = x / 16 * 2 from by omega] at hcl
  rw [hhi, show 2 * (x / 16) + 1 = x / 16 * 2 + 1 from by omega] at hch
  have h256 := p[0].toNat_lt
  have q1 : decide ((p[1].toNat : Int) < (lo : Int)) = false := by exact decide_eq_false (by omega)
  have q2 : decide ((hi : Int) < (p[1].toNat : Int)) = true := by exact decide_eq_true (by omega)
  go_enter Tryz.func66, Tryz.ntmps66
  go_wp2
  go_quiet (fail)
  go_wp2
  go_ret
  exact ⟨rfl, ((Below.refl _ w).alloc (Nat.le_refl _) _).trans ⟨rfl, rfl, rfl, Nat.le_refl _, fun _ _ => rfl⟩⟩
set_option maxRecDepth 100000 in
set_option maxHeartbeats 1000000 in
/-- Two bytes that begin a sequence. -/
theorem full_two (p : ByteArray) (w : World) (x lo hi : Nat) (h1 : p.size = 2) (hT : Lit w) (hx : Lib.firstT p[0].toNat = x) (hx2 : x < 256) (hx3 : 2 < x % 8) (hlo : Lib.accLo (x / 16) = lo) (hhi : Lib.accHi (x / 16) = hi) (ha : ¬ p[1].toNat < lo) (hb : ¬ hi < p[1].toNat) :
    Calls Tryz.prog 66 #[.string p] w fun e w' => e = .returned (.bool false) ∧ Below w.heap.size w w' := by
  have hc := hT.1 p[0].toNat p[0].toNat_lt
  rw [hx] at hc
  obtain ⟨hcl, hch⟩ := hT.2 (x / 16) (by omega)
  rw [hlo, show 2 * (x / 16) = x / 16 * 2 from by omega] at hcl
  rw [hhi, show 2 * (x / 16) + 1 = x / 16 * 2 + 1 from by omega] at hch
  have h256 := p[0].toNat_lt
  have q1 : decide ((p[1].toNat : Int) < (lo : Int)) = false := by exact decide_eq_false (by omega)
  have q2 : decide ((hi : Int) < (p[1].toNat : Int)) = false := by exact decide_eq_false (by omega)
  go_enter Tryz.func66, Tryz.ntmps66
  go_wp2
  go_quiet (fail)
  go_wp2
  go_ret
  exact ⟨rfl, ((Below.refl _ w).alloc (Nat.le_refl _) _).trans ⟨rfl, rfl, rfl, Nat.le_refl _, fun _ _ => rfl⟩⟩
set_option maxRecDepth 100000 in
set_option maxHeartbeats 1000000 in
/-- The third byte is too small. -/
theorem full_third_low (p : ByteArray) (w : World) (x lo hi : Nat) (h1 : p.size = 3) (hT : Lit w) (hx : Lib.firstT p[0].toNat = x) (hx2 : x < 256) (hx3 : 3 < x % 8) (hlo : Lib.accLo (x / 16) = lo) (hhi : Lib.accHi (x / 16) = hi) (ha : ¬ p[1].toNat < lo) (hb : ¬ hi < p[1].toNat) (hd : p[2].toNat < 128) :
    Calls Tryz.prog 66 #[.string p] w fun e w' => e = .returned (.bool true) ∧ Below w.heap.size w w' := by
  have hc := hT.1 p[0].toNat p[0].toNat_lt
  rw [hx] at hc
  obtain ⟨hcl, hch⟩ := hT.2 (x / 16) (by omega)
  rw [hlo, show 2 * (x / 16) = x / 16 * 2 from by omega] at hcl
  rw [hhi, show 2 * (x / 16) + 1 = x / 16 * 2 + 1 from by omega] at hch
  have h256 := p[0].toNat_lt
  have q1 : decide ((p[1].toNat : Int) < (lo : Int)) = false := by exact decide_eq_false (by omega)
  have q2 : decide ((hi : Int) < (p[1].toNat : Int)) = false := by exact decide_eq_false (by omega)
  go_enter Tryz.func66, Tryz.ntmps66
  go_wp2
  go_quiet (fail)
  go_wp2
  all_goals go_ret
  all_goals exact ⟨rfl, ((Below.refl _ w).alloc (Nat.le_refl _) _).trans ⟨rfl, rfl, rfl, Nat.le_refl _, fun _ _ => rfl⟩⟩
set_option maxRecDepth 100000 in
set_option maxHeartbeats 1000000 in
/-- The third byte is too great. -/
theorem full_third_high (p : ByteArray) (w : World) (x lo hi : Nat) (h1 : p.size = 3) (hT : Lit w) (hx : Lib.firstT p[0].toNat = x) (hx2 : x < 256) (hx3 : 3 < x % 8) (hlo : Lib.accLo (x / 16) = lo) (hhi : Lib.accHi (x / 16) = hi) (ha : ¬ p[1].toNat < lo) (hb : ¬ hi < p[1].toNat) (_hd : ¬ p[2].toNat < 128) (he : 191 < p[2].toNat) :
    Calls Tryz.prog 66 #[.string p] w fun e w' => e = .returned (.bool true) ∧ Below w.heap.size w w' := by
  have hc := hT.1 p[0].toNat p[0].toNat_lt
  rw [hx] at hc
  obtain ⟨hcl, hch⟩ := hT.2 (x / 16) (by omega)
  rw [hlo, show 2 * (x / 16) = x / 16 * 2 from by omega] at hcl
  rw [hhi, show 2 * (x / 16) + 1 = x / 16 * 2 + 1 from by omega] at hch
  have h256 := p[0].toNat_lt
  have q1 : decide ((p[1].toNat : Int) < (lo : Int)) = false := by exact decide_eq_false (by omega)
  have q2 : decide ((hi : Int) < (p[1].toNat : Int)) = false := by exact decide_eq_false (by omega)
  go_enter Tryz.func66, Tryz.ntmps66
  go_wp2
  go_quiet (fail)
  go_wp2
  all_goals go_ret
  all_goals exact ⟨rfl, ((Below.refl _ w).alloc (Nat.le_refl _) _).trans ⟨rfl, rfl, rfl, Nat.le_refl _, fun _ _ => rfl⟩⟩
set_option maxRecDepth 100000 in
set_option maxHeartbeats 1000000 in
/-- Three bytes that begin a sequence. -/
theorem full_three (p : ByteArray) (w : World) (x lo hi : Nat) (h1 : p.size = 3) (hT : Lit w) (hx : Lib.firstT p[0].toNat = x) (hx2 : x < 256) (hx3 : 3 < x % 8) (hlo : Lib.accLo (x / 16) = lo) (hhi : Lib.accHi (x / 16) = hi) (ha : ¬ p[1].toNat < lo) (hb : ¬ hi < p[1].toNat) (hd : ¬ p[2].toNat < 128) (he : ¬ 191 < p[2].toNat) :
    Calls Tryz.prog 66 #[.string p] w fun e w' => e = .returned (.bool false) ∧ Below w.heap.size w w' := by
  have hc := hT.1 p[0].toNat p[0].toNat_lt
  rw [hx] at hc
  obtain ⟨hcl, hch⟩ := hT.2 (x / 16) (by omega)
  rw [hlo, show 2 * (x / 16) = x / 16 * 2 from by omega] at hcl
  rw [hhi, show 2 * (x / 16) + 1 = x / 16 * 2 + 1 from by omega] at hch
  have h256 := p[0].toNat_lt
  have q1 : decide ((p[1].toNat : Int) < (lo : Int)) = false := by exact decide_eq_false (by omega)
  have q2 : decide ((hi : Int) < (p[1].toNat : Int)) = false := by exact decide_eq_false (by omega)
  go_enter Tryz.func66, Tryz.ntmps66
  go_wp2
  go_quiet (fail)
  go_wp2
  all_goals go_ret
  all_goals exact ⟨rfl, ((Below.refl _ w).alloc (Nat.le_refl _) _).trans ⟨rfl, rfl, rfl, Nat.le_refl _, fun _ _ => rfl⟩⟩
end Go.Proofs.YtckmlbcpldpkpaaGreatDoor

/- How many bytes at its end a text withholds. -/
namespace Go.Proofs.YtckmlbcpldpkpaaGreatDoor
open Go.RowKit

theorem first_size (a : Nat) : (a < 128 → Lib.firstT a % 8 = 0) ∧ (128 ≤ a → a < 194 → Lib.firstT a % 8 = 1) ∧ (194 ≤ a → a < 224 → Lib.firstT a % 8 = 2) ∧ (224 ≤ a → a < 240 → Lib.firstT a % 8 = 3) ∧ (240 ≤ a → a ≤ 244 → Lib.firstT a % 8 = 4) ∧ (244 < a → Lib.firstT a % 8 = 1) := by
  unfold Lib.firstT
  repeat' split
  all_goals omega
theorem first_lt (a : Nat) : Lib.firstT a < 256 := by
  unfold Lib.firstT
  repeat' split
  all_goals omega
theorem snd_acc (a b : UInt8) (h1 : 224 ≤ a.toNat) (h2 : a.toNat ≤ 244) : Txt.snd a b = (!decide (b.toNat < Lib.accLo (Lib.firstT a.toNat / 16)) && !decide (Lib.accHi (Lib.firstT a.toNat / 16) < b.toNat)) := by
  obtain ⟨x, hx⟩ : ∃ x, a.toNat = x := ⟨_, rfl⟩
  have key : ∀ lo hi : Nat, (x = 224 → lo = 160 ∧ hi = 191) → (x = 237 → lo = 128 ∧ hi = 159) → (x = 240 → lo = 144 ∧ hi = 191) → (x = 244 → lo = 128 ∧ hi = 143) → (x ≠ 224 → x ≠ 237 → x ≠ 240 → x ≠ 244 → lo = 128 ∧ hi = 191) → Txt.snd a b = (!decide (b.toNat < lo) && !decide (hi < b.toNat)) := by
    intro lo hi c1 c2 c3 c4 c5
    unfold Txt.snd Txt.cont
    rw [hx]
    repeat' split
    all_goals (rw [Bool.eq_iff_iff]; simp; omega)
  rw [hx]
  refine key _ _ ?_ ?_ ?_ ?_ ?_
  · rintro rfl; decide
  · rintro rfl; decide
  · rintro rfl; decide
  · rintro rfl; decide
  · intro n1 n2 n3 n4
    have : Lib.firstT x = 3 ∨ Lib.firstT x = 4 := by
      unfold Lib.firstT
      repeat' split
      all_goals omega
    rcases this with h | h <;> rw [h] <;> decide

theorem bytes_one (p : ByteArray) (h : p.size = 1) : p.data.toList = [p[0]] := by
  have h1 := drop_at p 0 (by omega)
  have h2 := drop_end p 1 (by omega)
  rw [List.drop_zero] at h1
  rw [h1, h2]
theorem bytes_two (p : ByteArray) (h : p.size = 2) : p.data.toList = [p[0], p[1]] := by
  have h1 := drop_at p 0 (by omega)
  have h2 := drop_at p 1 (by omega)
  have h3 := drop_end p 2 (by omega)
  rw [List.drop_zero] at h1
  rw [h1, h2, h3]
theorem bytes_three (p : ByteArray) (h : p.size = 3) : p.data.toList = [p[0], p[1], p[2]] := by
  have h1 := drop_at p 0 (by omega)
  have h2 := drop_at p 1 (by omega)
  have h3 := drop_at p 2 (by omega)
  have h4 := drop_end p 3 (by omega)
  rw [List.drop_zero] at h1
  rw [h1, h2, h3, h4]

theorem tfull_any (p : ByteArray) (w : World) (h0 : 1 ≤ p.size) (h3 : p.size ≤ 3) (hT : Lit w) :
    Calls Tryz.prog 66 #[.string p] w fun e w' => e = .returned (.bool (!Txt.beg p.data.toList)) ∧ Below w.heap.size w w' := by
  have hsz := first_size p[0].toNat
  have hlt := first_lt p[0].toNat
  obtain ⟨x, hx⟩ : ∃ x, Lib.firstT p[0].toNat = x := ⟨_, rfl⟩
  rw [hx] at hsz hlt
  by_cases hshort : x % 8 ≤ p.size
  · have hb : Txt.beg p.data.toList = false := by
      rcases (by omega : p.size = 1 ∨ p.size = 2 ∨ p.size = 3) with h | h | h
      · rw [bytes_one p h]; simp [Txt.beg]; omega
      · rw [bytes_two p h]; simp [Txt.beg]; intro a1 a2; omega
      · rw [bytes_three p h]; simp [Txt.beg]; intro a1 a2; omega
    rw [hb]
    exact full_short p w x (by omega) h3 hT hx hlt hshort
  · rcases (by omega : p.size = 1 ∨ p.size = 2 ∨ p.size = 3) with h | h | h
    · have hb : Txt.beg p.data.toList = true := by rw [bytes_one p h]; simp [Txt.beg]; omega
      rw [hb]
      exact full_one p w x _ _ h hT hx hlt (by omega) rfl rfl
    · have hr : 224 ≤ p[0].toNat ∧ p[0].toNat ≤ 244 := by omega
      have hs := snd_acc p[0] p[1] hr.1 hr.2
      rw [hx] at hs
      have hb : Txt.beg p.data.toList = Txt.snd p[0] p[1] := by rw [bytes_two p h]; simp [Txt.beg, hr]
      rw [hb, hs]
      by_cases ha : p[1].toNat < Lib.accLo (x / 16)
      · simp only [ha, decide_true, Bool.not_true, Bool.false_and, Bool.not_false]
        exact full_low2 p w x _ _ h hT hx hlt (by omega) rfl rfl ha
      · by_cases hc : Lib.accHi (x / 16) < p[1].toNat
        · simp only [hc, decide_true, Bool.not_true, Bool.and_false, Bool.not_false]
          exact full_high2 p w x _ _ h hT hx hlt (by omega) rfl rfl ha hc
        · simp only [ha, hc, decide_false, Bool.not_false, Bool.and_true, Bool.not_true]
          exact full_two p w x _ _ h hT hx hlt (by omega) rfl rfl ha hc
    · have hr : 240 ≤ p[0].toNat ∧ p[0].toNat ≤ 244 := by omega
      have hs := snd_acc p[0] p[1] (by omega) hr.2
      rw [hx] at hs
      have hb : Txt.beg p.data.toList = (Txt.snd p[0] p[1] && Txt.cont p[2]) := by rw [bytes_three p h]; simp [Txt.beg, hr]
      rw [hb, hs]
      by_cases ha : p[1].toNat < Lib.accLo (x / 16)
      · simp only [ha, decide_true, Bool.not_true, Bool.false_and, Bool.not_false]
        exact full_low3 p w x _ _ h hT hx hlt (by omega) rfl rfl ha
      · by_cases hc : Lib.accHi (x / 16) < p[1].toNat
        · simp only [hc, decide_true, Bool.not_true, Bool.and_false, Bool.false_and, Bool.not_false]
          exact full_high3 p w x _ _ h hT hx hlt (by omega) rfl rfl ha hc
        · simp only [ha, hc, decide_false, Bool.not_false, Bool.and_true, Bool.true_and]
          by_cases hd : p[2].toNat < 128
          · have hcn : Txt.cont p[2] = false := by simp [Txt.cont]; omega
            rw [hcn]
            exact full_third_low p w x _ _ h hT hx hlt (by omega) rfl rfl ha hc hd
          · by_cases he : 191 < p[2].toNat
            · have hcn : Txt.cont p[2] = false := by simp [Txt.cont]; omega
              rw [hcn]
              exact full_third_high p w x _ _ h hT hx hlt (by omega) rfl rfl ha hc hd he
            · have hcn : Txt.cont p[2] = true := by simp [Txt.cont]; omega
              rw [hcn]
              exact full_three p w x _ _ h hT hx hlt (by omega) rfl rfl ha hc hd he

/-- A suffix of a text as a string. -/
theorem suffix_str (s : ByteArray) (k : Nat) (h : k ≤ s.size) : (s.extract (s.size - k) s.size).data.toList = s.data.toList.drop (s.size - k) ∧ (s.extract (s.size - k) s.size).size = k := by
  refine ⟨?_, by rw [ByteArray.size_extract]; omega⟩
  have := textract s (s.size - k) k
  rw [show s.size - k + k = s.size from by omega] at this
  rw [this, List.take_of_length_le]
  rw [List.length_drop]
  show s.size - _ ≤ k
  omega

/-- Where the loop has come to nothing longer than k, and k bytes are nothing or a beginning: there the text may be cut. -/
theorem cut_of {l : List UInt8} {k : Nat} (hk : k ≤ l.length) (h1 : k = 0 ∨ Txt.beg (l.drop (l.length - k)) = true) (h2 : ∀ j, k < j → j ≤ 3 → j ≤ l.length → Txt.beg (l.drop (l.length - j)) = false) :
    Txt.Cut (l.take (l.length - k)) (l.drop (l.length - k)) := by
  refine ⟨?_, fun d q e hq => ?_⟩
  · rcases h1 with h1 | h1
    · left; rw [h1]; exact List.drop_eq_nil_of_le (by omega)
    · exact .inr h1
  · have hl : l = d ++ (q ++ l.drop (l.length - k)) := by
      rw [← List.append_assoc, ← e, List.take_append_drop]
    have hlen := congrArg List.length hl
    rw [List.length_append, List.length_append, List.length_drop] at hlen
    have hq1 : 1 ≤ q.length := List.length_pos_iff.2 hq
    obtain ⟨u, hu⟩ : ∃ u, q ++ l.drop (l.length - k) = u := ⟨_, rfl⟩
    have hul : u.length = q.length + k := by rw [← hu, List.length_append, List.length_drop]; omega
    rw [hu] at hl ⊢
    by_cases h4 : u.length ≤ 3
    · have := h2 u.length (by omega) h4 (by omega)
      have hd : l.drop (l.length - u.length) = u := by
        rw [show l.length - u.length = d.length from by omega]
        conv => lhs; rw [hl]
        exact List.drop_left
      rwa [hd] at this
    · cases hb : Txt.beg u with
      | false => rfl
      | true => have := (Txt.beg_len hb).2; omega

set_option maxRecDepth 100000 in
set_option maxHeartbeats 1000000 in
theorem tunfinished_any (s : ByteArray) (w : World) (hs : s.size ≤ 20010) (hT : Lit w) :
    Calls Tryz.prog 57 #[.string s] w fun e w' => (∃ k : Nat, k ≤ s.size ∧ k ≤ 3 ∧ e = .returned (.int .i64 k) ∧ Txt.Cut (s.data.toList.take (s.size - k)) (s.data.toList.drop (s.size - k))) ∧ Below w.heap.size w w' := by
  have hll : s.data.toList.length = s.size := rfl
  obtain ⟨m, hm⟩ : ∃ m : Nat, m = min 3 s.size := ⟨_, rfl⟩
  go_enter Tryz.func57, Tryz.ntmps57
  go_wp2_with fail
  go_loopw [3] (fun i wr => ∃ k : Nat, k ≤ 3 ∧ k ≤ s.size ∧ i = .int .i64 k ∧ Hid (∀ j, k < j → j ≤ 3 → j ≤ s.size → Txt.beg (s.data.toList.drop (s.size - j)) = false) ∧ Below w.heap.size w wr) (fun i _ => (intOf i).toNat)
  case atStart => exact ⟨m, by omega, by omega, by rw [show min 3 (s.size : Int) = (m : Int) from by omega], Lib.hid (fun j h1 h2 h3 => by omega), Below.refl _ _⟩
  case round =>
    obtain ⟨k, hk3, hks, rfl, HJ, hbel⟩ := hrel
    by_cases hz : 0 < k
    · obtain ⟨e1, e2⟩ := suffix_str s k hks
      have hF := tfull_any (s.extract (s.size - k) s.size) wr (by omega) (by omega) (hT.below hbel)
      rw [e1] at hF
      have hz' : (0 : Int) < (k : Int) := by omega
      have hsl : ∀ W : World, (Instr.slice 9 (.string s) (some (.int .i64 ((s.size : Int) - (k : Int)))) none none).run Tryz.prog W = .ok (.string (s.extract (s.size - k) s.size)) W := by
        intro W
        rw [run_slice_string_l (ht := Tryz.underlying9) (h0 := by omega) (h1 := by omega), show ((s.size : Int) - (k : Int)).toNat = s.size - k from by omega]
      clear e1 e2
      cases hb : Txt.beg (s.data.toList.drop (s.size - k)) with
      | true =>
        rw [hb] at hF
        have HB := Lib.hid hb
        clear hb
        go_wp2_with fail
        refine hF.mono ?_
        rintro e w2 ⟨rfl, hb2⟩
        go_wp2_with fail
        go_ret
        exact ⟨⟨k, hks, hk3, rfl, cut_of hks (.inr HB.out) HJ.out⟩, hbel.trans (hb2.mono hbel.size)⟩
      | false =>
        rw [hb] at hF
        have HB := Lib.hid hb
        clear hb
        go_wp2_with fail
        refine hF.mono ?_
        rintro e w2 ⟨rfl, hb2⟩
        go_wp2_with fail
        go_roundw
        case rel =>
          refine ⟨k - 1, by omega, by omega, by go_num, Lib.hid fun j h1 h2 h3 => ?_, hbel.trans (hb2.mono hbel.size)⟩
          by_cases hjk : j = k
          · rw [hjk]; exact HB.out
          · exact HJ.out j (by omega) h2 h3
        case measure => simp [intOf]; omega
    · obtain rfl : k = 0 := by omega
      go_wp2_with fail
      go_ret
      exact ⟨⟨0, Nat.zero_le _, Nat.zero_le _, rfl, cut_of (Nat.zero_le _) (.inl rfl) HJ.out⟩, hbel⟩

end Go.Proofs.YtckmlbcpldpkpaaGreatDoor

/- What the library says of valid strings, over this program. -/
namespace Go.Proofs
open Go.Shelf

def Tryz.lays196_ren : Go.Shelf.Ren := ⟨fun | 196 => 76 | 259 => 96 | n => n, fun | 0 => 0 | 3 => 3 | 4 => 4 | 5 => 5 | 9 => 9 | 12 => 12 | 46 => 102 | 53 => 123 | 119 => 98 | 138 => 100 | 139 => 101 | n => n, fun | 3 => 0 | 4 => 1 | n => n⟩
theorem Tryz.lays196 : Go.Proofs.Lays.n196 Tryz.prog Tryz.lays196_ren := {
  mixed := by kernel_rfl
  f196 := Tryz.func76.trans (congrArg some (by kernel_rfl))
  f259 := Tryz.func96.trans (congrArg some (by kernel_rfl))
  t0 := Tryz.underlying0
  a0 := Tryz.isAgg0
  z0 := Tryz.sizeOf0
  v0 := Tryz.zeroValue0
  t3 := Tryz.underlying3
  a3 := Tryz.isAgg3
  z3 := Tryz.sizeOf3
  v3 := Tryz.zeroValue3
  t4 := Tryz.underlying4
  a4 := Tryz.isAgg4
  z4 := Tryz.sizeOf4
  v4 := Tryz.zeroValue4
  t5 := Tryz.underlying5
  a5 := Tryz.isAgg5
  z5 := Tryz.sizeOf5
  v5 := Tryz.zeroValue5
  t9 := Tryz.underlying9
  a9 := Tryz.isAgg9
  z9 := Tryz.sizeOf9
  v9 := Tryz.zeroValue9
  t12 := Tryz.underlying12
  a12 := Tryz.isAgg12
  z12 := Tryz.sizeOf12
  v12 := Tryz.zeroValue12
  t46 := Tryz.underlying102
  a46 := Tryz.isAgg102
  z46 := Tryz.sizeOf102
  v46 := Tryz.zeroValue102
  t53 := Tryz.underlying123
  a53 := Tryz.isAgg123
  z53 := Tryz.sizeOf123
  v53 := Tryz.zeroValue123
  t119 := Tryz.underlying98
  a119 := Tryz.isAgg98
  z119 := Tryz.sizeOf98
  t138 := Tryz.underlying100
  a138 := Tryz.isAgg100
  z138 := Tryz.sizeOf100
  v138 := Tryz.zeroValue100
  t139 := Tryz.underlying101
  a139 := Tryz.isAgg101
  z139 := Tryz.sizeOf101
  v139 := Tryz.zeroValue101
  g3 := by kernel_rfl
  g4 := by kernel_rfl }
open Go.RowKit in
theorem Tryz.validString (s : ByteArray) (w : World) (hs : s.size ≤ 9223372036854775807) (hT : Lib.Utf8Tabs 0 1 w) :
    Calls Tryz.prog 76 #[.string s] w fun e w' => e = .returned (.bool (Lib.validD s.data.toList)) ∧ Below w.heap.size w w' := Any.utf8_ValidString Tryz.lays196 s w hs hT
end Go.Proofs

/- The program's Valid returns what the plain text says. -/
namespace Go.Proofs.YtckmlbcpldpkpaaGreatDoor
open Go.RowKit

set_option maxHeartbeats 400000 in
theorem tvalid_any (s : ByteArray) (w : World) (hs : s.size ≤ 20000) (hT : Lit w) :
    Calls Tryz.prog 68 #[.string s] w fun e w' => e = .returned (.bool (decide (Txt.rep s.data.toList = s.data.toList))) ∧ Below w.heap.size w w' := by
  have hR := Tryz.validString s w (by omega) hT
  rw [Txt.validD_eq] at hR
  go_enter Tryz.func68, Tryz.ntmps68
  go_wp2_with fail
  refine hR.mono ?_
  rintro e w2 ⟨rfl, hb⟩
  go_wp2_with fail
  go_ret
  exact ⟨rfl, hb⟩

end Go.Proofs.YtckmlbcpldpkpaaGreatDoor

/- The program's Points hands back a function that yields the code points of the repaired form with their indices. -/
namespace Go.Proofs.YtckmlbcpldpkpaaGreatDoor
open Go.RowKit Go.Shelf
attribute [local go_sem] Oper.semAt_some

/-- What a loop's body keeps that writes the block m, rows of bytes and what is new: iterators, and cells that are no bytes. -/
def Keep (m : Nat) (W W' : World) : Prop := W.heap.size ≤ W'.heap.size ∧ ∀ k o, W.heap[k]? = some o → k ≠ m → (o.isWalk = true ∨ ∃ c t fz, t ≠ 5 ∧ o = .cells c t fz) → W'.heap[k]? = some o
theorem Keep.trans {m : Nat} {A B C : World} (h : Keep m A B) (k : Keep m B C) : Keep m A C :=
  ⟨Nat.le_trans h.1 k.1, fun i o hi hm ho => k.2 i o (h.2 i o hi hm ho) hm ho⟩
theorem Keep.put {m : Nat} {w : World} (W : World) (l : Nat) (o o' : Obj) (_ : w.heap.size ≤ l) (hl : W.heap[l]? = some o) (hc : o.isCells = false) (hw : o.isWalk = false) : Keep m W (W.putObj l o') := by
  have h := grownBy_putObj' W l o'
  refine ⟨h.size, fun k x hk _ hx => ?_⟩
  by_cases e : k = l
  · subst e
    rw [hl] at hk
    obtain rfl := Option.some.inj hk
    rcases hx with hx | ⟨c, t, fz, _, rfl⟩
    · rw [hw] at hx; cases hx
    · cases hc
  · rw [World.putObj_heap_other e]; exact hk
theorem Keep.setCell (m : Nat) (W : World) (v : Value) : Keep m W (W.setCell ⟨m, 0, none⟩ v) :=
  ⟨by simp [World.setCell], fun k _ hk hm _ => (heap_setCell_other _ ⟨m, 0, none⟩ k _ hm).trans hk⟩
theorem Keep.of {m : Nat} {W W' : World} (h : Lib.OthersKept 5 (some m) W W') (hs : W.heap.size ≤ W'.heap.size) : Keep m W W' :=
  ⟨hs, fun k o hk hm ho => h k o hk (fun e => hm (Option.some.inj e)) (fun c fz e => by
    rcases ho with ho | ⟨c', t, fz', ht, rfl⟩
    · subst e; cases ho
    · cases e; exact ht rfl)⟩

set_option maxRecDepth 100000 in
set_option maxHeartbeats 1000000 in
theorem points1_in (s : ByteArray) (hs : s.size ≤ 20000) (l Bs m : Nat) (hm : m < Bs) (J Jx : List (Nat × List UInt8) → World → Prop) (W : World) (hBs : W.heap[Bs]? = some (.cells #[.string s] 9 (0, 0)))
    (hJ : AbidesFrom W.heap.size J)
    (hY : ∀ pre x W1, J pre W1 → pre.length < (Txt.chunks s.data.toList).length → YieldAt Fence.wide (4 - 1) Tryz.prog l (encP x) W1 fun e W' =>
      (e = .returned (.bool true) ∧ J (pre ++ [x]) W' ∧ Keep m W1 W') ∨ (e = .returned (.bool false) ∧ Jx (pre ++ [x]) W'))
    (h0 : J [] W) :
    CallsIn Fence.wide 4 Tryz.prog 77 #[.func (.yield l) #[] #[], .pointer (some ⟨Bs, 0, none⟩)] W fun e W' => (∃ v, e = .returned v) ∧
      ((∃ xs, xs = enum (Txt.chunks s.data.toList) ∧ J xs W') ∨ (∃ pre, pre <+: enum (Txt.chunks s.data.toList) ∧ Jx pre W')) := by
  have hcell : W.cell? ⟨Bs, 0, none⟩ = some (.string s) := cell_of_row W Bs 0 _ _ _ hBs
  have hBl : Bs < W.heap.size := (Array.getElem?_eq_some_iff.1 hBs).1
  have hll : s.data.toList.length = s.size := rfl
  obtain ⟨cs, hcs⟩ : ∃ cs, Txt.chunks s.data.toList = cs := ⟨_, rfl⟩
  have hcl := Txt.chunks_len s.data.toList
  rw [hcs] at hY hcl ⊢
  refine callsIn_of_wp Tryz.func77 rfl trivial ?_ rfl
  simp only [Tryz.ntmps77, List.size_toArray, List.length_cons, List.length_nil, Nat.reduceAdd, Nat.reduceSub, Array.replicate_succ, Array.replicate_zero, List.push_toArray, List.append_toArray, List.nil_append, List.cons_append]
  gi_wp2
  gi_loopw [3] (fun i wr => ∃ (pos k : Nat), i = .int .i64 k ∧ k ≤ 20000 ∧ cs.drop k = Txt.chunks (s.data.toList.drop pos) ∧ wr.heap[W.heap.size]? = some (.stringIter s pos) ∧ J ((enum cs).take k) wr)
    (fun _ wr => s.size - wr.iterPos W.heap.size)
  case atStart =>
    refine ⟨0, 0, rfl, Nat.zero_le _, by rw [List.drop_zero, List.drop_zero, hcs], World.iter_heap W s 0, ?_⟩
    exact hJ _ _ _ none h0 (World.grownBy_alloc W _ none) (fun r e => by cases e)
  case round =>
    obtain ⟨pos, k, rfl, hk, hdr, hit, hJs⟩ := hrel
    by_cases hp : pos < s.size
    · have hne : s.data.toList.drop pos ≠ [] := fun e => by have h2 : s.size ≤ pos := List.drop_eq_nil_iff.1 e; omega
      have hw := Txt.step_width hne
      have hcode := step_code hne
      have hst := Txt.chunks_step hne
      have hdec := Txt.decode_step s pos
      rw [List.drop_drop] at hst
      obtain ⟨n, hn⟩ : ∃ n, (Txt.step (s.data.toList.drop pos)).2 = n := ⟨_, rfl⟩
      obtain ⟨c, hc⟩ : ∃ c, Lib.encodeRune ((Txt.step (s.data.toList.drop pos)).1 : Nat) = c := ⟨_, rfl⟩
      rw [hc] at hcode hst
      rw [hn] at hst hw
      rw [hst] at hdr
      obtain ⟨hk2, _, hdr2, htk⟩ := drop_cons hdr
      have hnx : ∀ ty, (Instr.next (.pointer (some ⟨W.heap.size, 0, none⟩)) true ty).run Tryz.prog wr = _ := fun ty => Lib.run_next_any_at wr W.heap.size s pos ty hit hp
      rw [hdec, ← hcode, hn] at hnx
      have hit2 := Lib.iterAt_heap wr W.heap.size s pos (pos + n) hit
      have hJ2 : J ((enum cs).take k) (wr.iterAt W.heap.size s (pos + n)) := hJ _ wr _ (some W.heap.size) hJs (grownBy_putObj' wr W.heap.size (.stringIter s (pos + n))) (fun r e => by cases e; exact ⟨Nat.le_refl _, _, hit, rfl⟩)
      obtain ⟨fn, tmps, assign, body, hy, hR⟩ := hY _ (k, c) _ hJ2 (by rw [List.length_take, enum_length]; omega)
      dsimp only [encP] at hy
      rw [← htk] at hR
      have hip : s.size - wr.iterPos W.heap.size = s.size - pos := by simp only [World.iterPos, hit]
      clear hdec hcode hst hY
      gi_wp2
      refine hR.mono ?_
      rintro e W3 (⟨rfl, hJ3, hk3⟩ | ⟨rfl, hJx3⟩)
      · have hit3 := hk3.2 W.heap.size _ hit2 (by omega) (.inl rfl)
        gi_wp2
        go_roundw
        case rel => exact ⟨pos + n, k + 1, by go_num, by omega, hdr2, hit3, hJ3⟩
        case measure =>
          rw [hip]
          simp only [World.iterPos, hit3]
          omega
      · gi_wp2
        refine bodyPost_ret (results_none rfl _ _ _) rfl ?_
        exact ⟨⟨_, rfl⟩, .inr ⟨_, enum_prefix_take cs (k + 1), hJx3⟩⟩
    · have hd : s.data.toList.drop pos = [] := List.drop_eq_nil_of_le (by omega)
      rw [hd, Txt.chunks_nil] at hdr
      have hkl : cs.length ≤ k := List.drop_eq_nil_iff.1 hdr
      rw [List.take_of_length_le (by rw [enum_length]; exact hkl)] at hJs
      have hnx : ∀ ty, (Instr.next (.pointer (some ⟨W.heap.size, 0, none⟩)) true ty).run Tryz.prog wr = _ := fun ty => Lib.run_next_end_at wr W.heap.size s pos ty hit hp
      gi_wp2
      go_end0
      exact ⟨⟨_, rfl⟩, .inl ⟨_, rfl, hJs⟩⟩

set_option maxHeartbeats 400000 in
theorem tpoints_any (s : ByteArray) (w : World) (hs : s.size ≤ 20000) :
    Calls Tryz.prog 69 #[.string s] w fun e w' => ∃ lb, e = .returned (.func (.func 77) #[] lb) ∧ w' = w.alloc (.cells #[.string s] 9) ∧
      ∀ m, m < w.heap.size → SeqStopsK Fence.wide 4 Tryz.prog 77 lb encP (Keep m) (fun xs => xs = enum (Txt.chunks s.data.toList)) (fun pre => pre <+: enum (Txt.chunks s.data.toList)) (Txt.chunks s.data.toList).length w' := by
  go_enter Tryz.func69, Tryz.ntmps69
  go_wp2
  go_ret
  refine ⟨_, rfl, rfl, fun m hm l J Jx W hW hJ hJx hY h0 => ?_⟩
  exact points1_in s hs l w.heap.size m hm J Jx W ((hW.block _ (by simp)).trans (World.alloc_heap_new w _)) hJ hY h0

end Go.Proofs.YtckmlbcpldpkpaaGreatDoor

/- What the library says of a Builder, over this program: WriteRune and String. -/
namespace Go.Proofs
open Go.Shelf

def Tryz.lays168_ren : Go.Shelf.Ren := ⟨fun | 168 => 70 | 240 => 78 | 242 => 79 | 276 => 97 | 278 => 98 | n => n, fun | 0 => 0 | 3 => 3 | 4 => 4 | 5 => 5 | 9 => 9 | 20 => 20 | 21 => 21 | 37 => 58 | 46 => 102 | 51 => 115 | 70 => 85 | 72 => 87 | 75 => 92 | 80 => 63 | 164 => 113 | n => n, fun | n => n⟩
theorem Tryz.lays168 : Go.Proofs.Lays.n168 Tryz.prog Tryz.lays168_ren := {
  mixed := by kernel_rfl
  f168 := Tryz.func70.trans (congrArg some (by kernel_rfl))
  f240 := Tryz.func78.trans (congrArg some (by kernel_rfl))
  f242 := Tryz.func79.trans (congrArg some (by kernel_rfl))
  f276 := Tryz.func97.trans (congrArg some (by kernel_rfl))
  f278 := Tryz.func98.trans (congrArg some (by kernel_rfl))
  t0 := Tryz.underlying0
  a0 := Tryz.isAgg0
  z0 := Tryz.sizeOf0
  v0 := Tryz.zeroValue0
  t3 := Tryz.underlying3
  a3 := Tryz.isAgg3
  z3 := Tryz.sizeOf3
  v3 := Tryz.zeroValue3
  t4 := Tryz.underlying4
  a4 := Tryz.isAgg4
  z4 := Tryz.sizeOf4
  v4 := Tryz.zeroValue4
  t5 := Tryz.underlying5
  a5 := Tryz.isAgg5
  z5 := Tryz.sizeOf5
  v5 := Tryz.zeroValue5
  t9 := Tryz.underlying9
  a9 := Tryz.isAgg9
  z9 := Tryz.sizeOf9
  v9 := Tryz.zeroValue9
  t20 := Tryz.underlying20
  a20 := Tryz.isAgg20
  z20 := Tryz.sizeOf20
  v20 := Tryz.zeroValue20
  t21 := Tryz.underlying21
  a21 := Tryz.isAgg21
  z21 := Tryz.sizeOf21
  v21 := Tryz.zeroValue21
  t37 := Tryz.underlying58
  a37 := Tryz.isAgg58
  z37 := Tryz.sizeOf58
  v37 := Tryz.zeroValue58
  t46 := Tryz.underlying102
  a46 := Tryz.isAgg102
  z46 := Tryz.sizeOf102
  v46 := Tryz.zeroValue102
  t51 := Tryz.underlying115
  a51 := Tryz.isAgg115
  z51 := Tryz.sizeOf115
  v51 := Tryz.zeroValue115
  t70 := Tryz.underlying85
  a70 := Tryz.isAgg85
  z70 := Tryz.sizeOf85
  v70 := Tryz.zeroValue85
  t72 := Tryz.underlying87
  a72 := Tryz.isAgg87
  z72 := Tryz.sizeOf87
  v72 := Tryz.zeroValue87
  t75 := Tryz.underlying92
  a75 := Tryz.isAgg92
  z75 := Tryz.sizeOf92
  v75 := Tryz.zeroValue92
  t164 := Tryz.underlying113
  a164 := Tryz.isAgg113
  z164 := Tryz.sizeOf113
  v164 := Tryz.zeroValue113 }
theorem Tryz.Builder_Extra_168 : Builder.Extra Tryz.prog Tryz.lays168_ren := {
  sizeBuilder := by kernel_rfl
  liesBuilder := by kernel_rfl
  t5 := Tryz.underlying5
  a5 := Tryz.isAgg5
  z5 := Tryz.sizeOf5
  v5 := Tryz.zeroValue5
  infoByte := by kernel_rfl
  cellsByte := by kernel_rfl
  sizeByte := by kernel_rfl
  neB5 := by decide }
def Tryz.lays169_ren : Go.Shelf.Ren := ⟨fun | 169 => 71 | n => n, fun | 0 => 0 | 3 => 3 | 5 => 5 | 9 => 9 | 37 => 58 | 70 => 85 | 72 => 87 | 127 => 103 | n => n, fun | n => n⟩
theorem Tryz.lays169 : Go.Proofs.Lays.n169 Tryz.prog Tryz.lays169_ren := {
  mixed := by kernel_rfl
  f169 := Tryz.func71.trans (congrArg some (by kernel_rfl))
  t0 := Tryz.underlying0
  a0 := Tryz.isAgg0
  z0 := Tryz.sizeOf0
  v0 := Tryz.zeroValue0
  t3 := Tryz.underlying3
  a3 := Tryz.isAgg3
  z3 := Tryz.sizeOf3
  v3 := Tryz.zeroValue3
  t9 := Tryz.underlying9
  a9 := Tryz.isAgg9
  z9 := Tryz.sizeOf9
  v9 := Tryz.zeroValue9
  t37 := Tryz.underlying58
  a37 := Tryz.isAgg58
  z37 := Tryz.sizeOf58
  v37 := Tryz.zeroValue58
  t70 := Tryz.underlying85
  a70 := Tryz.isAgg85
  z70 := Tryz.sizeOf85
  v70 := Tryz.zeroValue85
  t72 := Tryz.underlying87
  a72 := Tryz.isAgg87
  z72 := Tryz.sizeOf87
  v72 := Tryz.zeroValue87
  t127 := Tryz.underlying103
  a127 := Tryz.isAgg103
  z127 := Tryz.sizeOf103
  v127 := Tryz.zeroValue103 }
theorem Tryz.Builder_Extra_169 : Builder.Extra Tryz.prog Tryz.lays169_ren := {
  sizeBuilder := by kernel_rfl
  liesBuilder := by kernel_rfl
  t5 := Tryz.underlying5
  a5 := Tryz.isAgg5
  z5 := Tryz.sizeOf5
  v5 := Tryz.zeroValue5
  infoByte := by kernel_rfl
  cellsByte := by kernel_rfl
  sizeByte := by kernel_rfl
  neB5 := by decide }
open Go.RowKit in
theorem Tryz.writeRune (B b : Nat) (bs : List Value) (r : Int) (hr0 : -2147483648 ≤ r) (hr1 : r ≤ 2147483647) (w : World) (h : Lib.IsBuilderF 87 5 B b bs w) (hlen : bs.length + 4 ≤ 140737488355328) (hBw : B ≤ w.heap.size) :
    Calls Tryz.prog 70 #[.pointer (some ⟨b, 0, none⟩), .int .i32 r] w fun e w' => e = .returned (.tuple #[.int .i64 (Lib.runeCells r).length, .nilIface]) ∧ (Lib.BuilderAtF 87 5 B b (.pointer (some ⟨b, 0, none⟩)) (bs ++ Lib.runeCells r) w' ∧ Below B w w' ∧ Lib.OthersKept 5 (some b) w w') := Any.Builder_WriteRune_k Tryz.lays168 Tryz.Builder_Extra_168 B b bs r hr0 hr1 w h hlen hBw
open Go.RowKit in
theorem Tryz.builderString (B b : Nat) (l : List UInt8) (w : World) (h : Lib.IsBuilderF 87 5 B b (Lib.byteCells l) w) (hBw : B ≤ w.heap.size) :
    Calls Tryz.prog 71 #[.pointer (some ⟨b, 0, none⟩)] w fun e w' => e = .returned (.string ⟨l.toArray⟩) ∧ (Lib.IsBuilderF 87 5 B b (Lib.byteCells l) w' ∧ Below B w w' ∧ Lib.OthersKept 5 (some b) w w') := Any.Builder_String_any_k Tryz.lays169 Tryz.Builder_Extra_169 B b l w h hBw
end Go.Proofs

/- A Builder into which a loop over the code points of a text writes. -/
namespace Go.Proofs.YtckmlbcpldpkpaaGreatDoor
open Go Go.RowKit Go.Shelf

/-- What has been written when these code points have come: those from index a on. -/
def acc (a : Int) (pre : List (Nat × List UInt8)) : List Value := pre.flatMap fun x => if a ≤ (x.1 : Int) then Lib.runeCells ((code x.2 : Nat) : Int) else []
theorem acc_snoc (a : Int) (pre : List (Nat × List UInt8)) (x : Nat × List UInt8) : acc a (pre ++ [x]) = acc a pre ++ (if a ≤ (x.1 : Int) then Lib.runeCells ((code x.2 : Nat) : Int) else []) := by
  simp [acc, List.flatMap_append]
theorem acc_len (a : Int) (pre : List (Nat × List UInt8)) : (acc a pre).length ≤ 4 * pre.length := by
  induction pre with
  | nil => simp [acc]
  | cons x r ih =>
    have h4 := Lib.runeCells_le ((code x.2 : Nat) : Int)
    have : acc a (x :: r) = (if a ≤ (x.1 : Int) then Lib.runeCells ((code x.2 : Nat) : Int) else []) ++ acc a r := by simp [acc]
    rw [this, List.length_append, List.length_cons]
    split
    · omega
    · simp only [List.length_nil]; omega
theorem enum_take_succ (cs : List (List UInt8)) (k : Nat) (h : k < cs.length) : (enum cs).take (k + 1) = (enum cs).take k ++ [(k, cs.getD k [])] := by
  have hd : cs.drop k = cs.getD k [] :: cs.drop (k + 1) := by
    rw [List.drop_eq_getElem_cons h]
    simp [List.getD, h]
  exact (drop_cons hd).2.2.2
theorem acc_take (a : Int) (cs : List (List UInt8)) (hg : ∀ c ∈ cs, Txt.Good c) : ∀ k, k ≤ cs.length → acc a ((enum cs).take k) = Lib.byteCells (seg cs a.toNat k).flatten := by
  intro k
  induction k with
  | zero => intro _; rw [seg_empty cs _ 0 (Nat.zero_le _)]; rfl
  | succ k ih =>
    intro h
    have hk : k < cs.length := h
    rw [enum_take_succ cs k hk, acc_snoc, ih (by omega)]
    have hgc : Txt.Good (cs.getD k []) := hg _ (by simp [List.getD, hk])
    by_cases hak : a ≤ (k : Int)
    · rw [if_pos hak, good_cells hgc, seg_step cs a.toNat k (by omega) hk, List.flatten_append]
      simp [Lib.byteCells]
    · rw [if_neg hak, seg_empty cs _ k (by omega), seg_empty cs _ (k + 1) (by omega)]
      rfl

/-- A Builder stays one when what is no row of cells is turned. -/
theorem builder_kept {T e : TypeId} {B b : Nat} {bs : List Value} {W W' : World} {row : Option Nat} (h : Lib.IsBuilderF T e B b bs W) (hg : W.grownBy W' row)
    (hr : ∀ r, row = some r → ∃ o : Obj, W.heap[r]? = some o ∧ o.isCells = false) : Lib.IsBuilderF T e B b bs W' := by
  have hone : ∀ p, Lib.BuilderAtF T e B b p bs W → Lib.BuilderAtF T e B b p bs W' := by
    rintro p ⟨hB, v, hb, hown, hne⟩
    have hbl : b < W.heap.size := (Array.getElem?_eq_some_iff.1 hb).1
    refine ⟨hB, v, ?_, hown.kept hg ?_, hne⟩
    · rw [hg.block b hbl ?_]
      · exact hb
      · intro e
        obtain ⟨o, ho, hc⟩ := hr b e.symm
        rw [hb] at ho
        obtain rfl := Option.some.inj ho
        cases hc
    · by_cases hv : v.ownBlock = none
      · exact .inl hv
      · right
        intro e
        obtain ⟨r, hvr⟩ := Option.ne_none_iff_exists'.1 hv
        obtain ⟨o, ho, hc⟩ := hr r (by rw [← e, hvr])
        obtain ⟨c, fz, hcc⟩ := Lib.ownsRowF_kind hown r hvr
        rw [hcc] at ho
        obtain rfl := Option.some.inj ho
        cases hc
  rcases h with h | h
  · exact .inl (hone _ h)
  · exact .inr (hone _ h)
/-- The body's word when it has written a rune. -/
theorem keepsOthers_of {b : Nat} {bs : List Value} {W W' : World} (h : Lib.OthersKept 5 (some b) W W') (hs : W.heap.size ≤ W'.heap.size) (hb : Lib.IsBuilderF 87 5 b b bs W) : KeepsOthers W W' := by
  refine ⟨hs, fun k o hk ho => h k o hk (fun e => ?_) (fun c fz e => ?_)⟩
  · obtain rfl := Option.some.inj e
    rcases hb with ⟨_, v, hc, _⟩ | ⟨_, v, hc, _⟩ <;>
    · rw [hc] at hk
      obtain rfl := Option.some.inj hk
      cases ho
  · subst e; cases ho
theorem builder_lt {T e : TypeId} {B b : Nat} {bs : List Value} {W : World} (h : Lib.IsBuilderF T e B b bs W) : b < W.heap.size := by
  rcases h with h | h <;> exact h.lt
/-- A Builder stays one when one behind it is written nothing to but new blocks come. -/
theorem builder_below {T e : TypeId} {B b : Nat} {bs : List Value} {W W' : World} (h : Lib.IsBuilderF T e B b bs W) (hb : Below W.heap.size W W') : Lib.IsBuilderF T e B b bs W' := by
  have hone : ∀ p, Lib.BuilderAtF T e B b p bs W → Lib.BuilderAtF T e B b p bs W' := by
    rintro p ⟨hB, v, hc, hown, hne⟩
    have hbl : b < W.heap.size := (Array.getElem?_eq_some_iff.1 hc).1
    refine ⟨hB, v, (hb.block b hbl).trans hc, ⟨hown.1, ?_⟩, hne⟩
    rcases hown.2 with hn | ⟨g, cap, cur, fz, rfl, hg, hgg, rest⟩
    · exact .inl hn
    · exact .inr ⟨g, cap, cur, fz, rfl, hg, (hb.block g (Array.getElem?_eq_some_iff.1 hgg).1).trans hgg, rest⟩
  rcases h with h | h
  · exact .inl (hone _ h)
  · exact .inr (hone _ h)
/-- A block that does not move while a rune is written. -/
theorem others_deferred {e : TypeId} {b D : Nat} {bs : List Value} {T : TypeId} {W W' : World} (h : Lib.OthersKept e (some b) W W') (hK : W.heap[D]? = some (.deferred (some []))) (hb : Lib.IsBuilderF T e b b bs W) : W'.heap[D]? = some (.deferred (some [])) := by
  refine h D _ hK (fun x => ?_) (fun c fz x => by cases x)
  obtain rfl := Option.some.inj x
  rcases hb with ⟨_, v, hc, _⟩ | ⟨_, v, hc, _⟩ <;> rw [hc] at hK <;> cases hK

end Go.Proofs.YtckmlbcpldpkpaaGreatDoor

/- The program's Repair returns what the plain text says. -/
namespace Go.Proofs.YtckmlbcpldpkpaaGreatDoor
open Go.RowKit Go.Shelf
attribute [local go_sem] Oper.semAt_some

theorem acc_all (cs : List (List UInt8)) (hg : ∀ c ∈ cs, Txt.Good c) : acc 0 (enum cs) = Lib.byteCells cs.flatten := by
  have h := acc_take 0 cs hg cs.length (Nat.le_refl _)
  rw [← enum_length cs, List.take_length, enum_length] at h
  rw [h]
  unfold seg
  rw [List.take_length]
  rfl

set_option maxRecDepth 100000 in
set_option maxHeartbeats 1000000 in
theorem trepair_any (s : ByteArray) (w : World) (hs : s.size ≤ 20000) (hT : Lit w) :
    Calls Tryz.prog 59 #[.string s] w fun e w' => e = .returned (.string (tstr (Txt.rep s.data.toList))) ∧ Below w.heap.size w w' := by
  have hV := tvalid_any s w hs hT
  by_cases hv : Txt.rep s.data.toList = s.data.toList
  · rw [decide_eq_true hv] at hV
    have hres : tstr (Txt.rep s.data.toList) = s := by rw [hv, tstr_of]
    rw [hres]
    go_enter Tryz.func59, Tryz.ntmps59
    go_wp2_with fail
    refine hV.mono ?_
    rintro e w2 ⟨rfl, hb⟩
    go_wp2_with fail
    go_ret
    exact ⟨rfl, hb⟩
  · rw [decide_eq_false hv] at hV
    clear hv
    obtain ⟨cs, hcs⟩ : ∃ cs, Txt.chunks s.data.toList = cs := ⟨_, rfl⟩
    have hflat : Txt.rep s.data.toList = cs.flatten := by rw [← hcs]; rfl
    have hgood := Txt.chunks_all_good s.data.toList
    have hcl := Txt.chunks_len s.data.toList
    have hll : s.data.toList.length = s.size := rfl
    rw [hcs] at hgood hcl
    rw [hflat]
    have hall := acc_all cs hgood
    have HCS := Lib.hid hcs
    clear hgood hcs hflat
    refine (callsIn_wide (n := 5)).1 ?_
    refine callsIn_of_wp_marks Tryz.func59 rfl trivial ?_ rfl
    simp only [Tryz.ntmps59, List.size_toArray, List.length_cons, List.length_nil, Nat.reduceAdd, Nat.reduceSub, Array.replicate_succ, Array.replicate_zero, List.push_toArray, List.append_toArray, List.nil_append, List.cons_append]
    gi_wp2_with fail
    refine ⟨trivial, (callsIn_wide.2 hV).mono ?_⟩
    rintro e w2 ⟨rfl, hb2⟩
    obtain ⟨W1, hW1⟩ : ∃ W1, w2.alloc (.cells #[.pointer none, .slice none 0 0] 87) = W1 := ⟨_, rfl⟩
    gi_wp2_with fail
    refine ⟨trivial, (callsIn_wide.2 (tpoints_any s W1 (by omega))).mono ?_⟩
    rintro e w4 ⟨lb, rfl, hw4, hst⟩
    rw [HCS.out] at hst
    gi_wp2_with fail
    rw [← hw4]
    have hsz2 := hb2.size
    have hB0 : Below w.heap.size w W1 := by rw [← hW1]; exact hb2.alloc hsz2 _
    have hsz1 : W1.heap.size = w2.heap.size + 1 := by rw [← hW1]; simp
    have hbl1 : Lib.IsBuilderF 87 5 w2.heap.size w2.heap.size [] W1 := by
      have := Lib.IsBuilderF.of (Lib.fresh_isBuilder 87 5 w2)
      rw [hW1] at this
      exact this
    have hb4 : Below W1.heap.size W1 w4 := by rw [hw4]; exact (Below.refl _ _).alloc (Nat.le_refl _) _
    have hsz4 : w4.heap.size = w2.heap.size + 2 := by rw [hw4]; simp [hsz1]
    have hbl4 := builder_below hbl1 hb4
    have hB4 : Below w.heap.size w w4 := hB0.trans (hb4.mono (by omega))
    have hstm := hst w2.heap.size (by omega)
    clear hst hb4 hw4 hW1 hbl1 hB0 hV hb2
    refine wpIn_rangeFunc_ownF (w := w4) rfl (by decide) (gf := 77) (lb := lb) rfl trivial (enters_of Tryz.func77 (by kernel_rfl) rfl) hstm Keep.trans Keep.put (Below.refl _ _) (fun _ => rfl)
      (fun pre W => Lib.IsBuilderF 87 5 w2.heap.size w2.heap.size (acc 0 pre) W ∧ Below w.heap.size w W)
      (fun _ _ _ => False)
      ?hI ?hIx ?h0
      (fun x => { tmps := #[.string s, undef, .string ⟨#[]⟩, .pointer (some ⟨w2.heap.size, 0, none⟩), undef, .int .i32 (code x.2 : Nat), .string s, .bool false, undef, .string s, .func (.func 77) #[] lb, .int .i64 (x.1 : Nat), .int .i32 (code x.2 : Nat), undef, undef, undef], defers := [] }) ?assign ?body ?done ?stop
    case hI =>
      rintro pre W W' row ⟨h1, h5⟩ hg hr
      have hr' : ∀ r, row = some r → ∃ o : Obj, W.heap[r]? = some o ∧ o.isCells = false := fun r e => (hr r e).2
      exact ⟨builder_kept h1 hg hr', h5.grown hg (by have := h5.size; omega) (fun k hk => by have := (hr k hk).1; omega)⟩
    case hIx => exact fun _ _ _ _ _ hs _ _ => hs
    case h0 => exact ⟨hbl4, hB4⟩
    case assign =>
      intro l x W K hK
      gi_wp2
      exact hK
    case body =>
      rintro l pre x W ⟨h1, h5⟩ hlen
      have hcx := code_lt x.2
      have hal := acc_len 0 pre
      have hW2 : w2.heap.size < W.heap.size := builder_lt h1
      have hsn := acc_snoc 0 pre x
      rw [if_pos (by omega)] at hsn
      gi_wp2_with fail
      refine ⟨trivial, (CallsIn.inRound l (callsIn_wide.2 (Tryz.writeRune w2.heap.size w2.heap.size (acc 0 pre) (code x.2 : Nat) (by omega) (by omega) W h1 (by omega) (by omega)))).mono ?_⟩
      rintro e w5 ⟨rfl, hb5, hbel5, hk5⟩
      gi_wp2_with fail
      refine ⟨keepsOthers_of hk5 hbel5.size h1, Keep.of hk5 hbel5.size, ?_, h5.trans (hbel5.mono (by omega))⟩
      rw [hsn]; exact .inr hb5
    case done =>
      rintro D xs W hD rfl ⟨h1, h5⟩ hK
      rw [hall] at h1
      have hK1 : ∀ W', Lib.OthersKept 5 (some w2.heap.size) W W' → W'.heap[D]? = some (.deferred (some [])) := fun W' h => others_deferred h hK h1
      have hW2 : w2.heap.size < W.heap.size := builder_lt h1
      gi_wp2_with fail
      refine ⟨trivial, (callsIn_wide.2 (Tryz.builderString w2.heap.size w2.heap.size _ W h1 (by omega))).mono ?_⟩
      rintro e w5 ⟨rfl, hb5, hbel5, hk5⟩
      gi_wp2_with fail
      refine ⟨by simp, .inl ⟨_, _, rfl, run_takeDeferred (hK1 _ hk5), ?_⟩⟩
      refine ⟨_, results_tmp rfl _ _ _, rfl, ?_⟩
      exact (h5.trans (hbel5.mono (by omega))).trans (belowK_b (w := w) (Nat.le_refl _) _ D _ _ (by omega) (hK1 _ hk5) rfl rfl)
    case stop =>
      rintro D c pre W hD _ h _
      exact h.elim

end Go.Proofs.YtckmlbcpldpkpaaGreatDoor

/- What the library says of a copy of a string, over this program. -/
namespace Go.Proofs
open Go.Shelf

def Tryz.lays316_ren : Go.Shelf.Ren := ⟨fun | 316 => 67 | n => n, fun | 0 => 0 | 3 => 3 | 4 => 4 | 5 => 5 | 9 => 9 | 37 => 58 | 127 => 103 | n => n, fun | n => n⟩
theorem Tryz.lays316 : Go.Proofs.Lays.n316 Tryz.prog Tryz.lays316_ren := {
  mixed := by kernel_rfl
  f316 := Tryz.func67.trans (congrArg some (by kernel_rfl))
  t0 := Tryz.underlying0
  a0 := Tryz.isAgg0
  z0 := Tryz.sizeOf0
  v0 := Tryz.zeroValue0
  t3 := Tryz.underlying3
  a3 := Tryz.isAgg3
  z3 := Tryz.sizeOf3
  v3 := Tryz.zeroValue3
  t4 := Tryz.underlying4
  a4 := Tryz.isAgg4
  z4 := Tryz.sizeOf4
  v4 := Tryz.zeroValue4
  t9 := Tryz.underlying9
  a9 := Tryz.isAgg9
  z9 := Tryz.sizeOf9
  v9 := Tryz.zeroValue9
  t37 := Tryz.underlying58
  a37 := Tryz.isAgg58
  z37 := Tryz.sizeOf58
  v37 := Tryz.zeroValue58
  t127 := Tryz.underlying103
  a127 := Tryz.isAgg103
  z127 := Tryz.sizeOf103
  v127 := Tryz.zeroValue103 }
theorem Tryz.laysM316 : Go.Proofs.LaysM.n316 Tryz.prog Tryz.lays316_ren := {
  Tryz.lays316 with
  t5 := Tryz.underlying5
  a5 := Tryz.isAgg5
  z5 := Tryz.sizeOf5
  v5 := Tryz.zeroValue5
  i0 := by kernel_rfl
  i3 := by kernel_rfl
  i4 := by kernel_rfl
  i5 := by kernel_rfl
  i9 := by kernel_rfl
  i37 := by kernel_rfl
  i127 := by kernel_rfl
}
open Go.RowKit in
theorem Tryz.clone (s : ByteArray) (w : World) (hlim : s.size ≤ 281474976710656) :
    Calls Tryz.prog 67 #[.string s] w fun e w' => e = .returned (.string s) ∧ Below w.heap.size w w' := Any.stringslite_Clone Tryz.laysM316 s w hlim
end Go.Proofs

/- The program's Decoder: what Feed and End return and leave. -/
namespace Go.Proofs.YtckmlbcpldpkpaaGreatDoor
open Go.RowKit
set_option linter.unusedVariables false

/-- A decoder in a variable: block b, its one field. -/
def Dec (w : World) (b : Nat) (r : List UInt8) : Prop := Whole w b #[.string (tstr r)] 45

theorem tclone_any (s : ByteArray) (w : World) (hs : s.size ≤ 40000) :
    Calls Tryz.prog 58 #[.string s] w fun e w' => e = .returned (.string s) ∧ Below w.heap.size w w' := by
  have hR := Tryz.clone s w (by omega)
  go_enter Tryz.func58, Tryz.ntmps58
  go_wp2_with fail
  refine hR.mono ?_
  rintro e w2 ⟨rfl, hb⟩
  go_wp2_with fail
  go_ret
  exact ⟨rfl, hb⟩

/-- The decoder's block turned, and new blocks. -/
theorem grown_of {w w1 w2 : World} {b : Nat} {v : Value} (h1 : Below w.heap.size w w1) (hb : b < w.heap.size) (h2 : Below (w1.setCell ⟨b, 0, none⟩ v).heap.size (w1.setCell ⟨b, 0, none⟩ v) w2) : w.grownBy w2 (some b) := by
  have hs : (w1.setCell ⟨b, 0, none⟩ v).heap.size = w1.heap.size := by simp [World.setCell]
  have hsz1 := h1.size
  have hsz2 := h2.size
  refine ⟨h2.os.trans h1.os, h2.tape.trans h1.tape, h2.output.trans h1.output, by omega, fun k hk hkb => ?_⟩
  rw [h2.block k (by omega), heap_setCell_other _ ⟨b, 0, none⟩ k _ (fun e => hkb (by rw [e])), h1.block k hk]

set_option maxRecDepth 100000 in
set_option maxHeartbeats 1000000 in
theorem tfeed_any (b : Nat) (r : List UInt8) (s : ByteArray) (w : World) (hr : r.length ≤ 10) (hs : s.size ≤ 19000) (h : Dec w b r) (hT : Lit w) :
    Calls Tryz.prog 40 #[.pointer (some ⟨b, 0, none⟩), .string s] w fun e w' =>
      ∃ l1 l2, r ++ s.data.toList = l1 ++ l2 ∧ Txt.Cut l1 l2 ∧ e = .returned (.string (tstr (Txt.rep l1))) ∧ Dec w' b l2 ∧ w.grownBy w' (some b) := by
  have hbl : b < w.heap.size := Whole.lt h
  have hc : w.cell? ⟨b, 0, none⟩ = some (.string (tstr r)) := Whole.cell h 0
  have hfz : w.frozen? ⟨b, 0, none⟩ = false := Whole.free h 0
  obtain ⟨A, hA⟩ : ∃ A, tstr r ++ s = A := ⟨_, rfl⟩
  have hrs : (tstr r).size = r.length := tstr_size r
  have hAs : A.size ≤ 19010 := by rw [← hA, ByteArray.size_append, hrs]; omega
  have hAd : A.data.toList = r ++ s.data.toList := by rw [← hA, ByteArray.data_append, Array.toList_append, tstr_data]
  have had : ∀ W : World, (Op.stringOp .add (tstr r) s).run Tryz.prog W = .ok (.string A) W := fun W => by rw [run_string_add_sum W _ _ (by omega), hA]
  have hAll : A.data.toList.length = A.size := rfl
  have hU := tunfinished_any A w (by omega) hT
  have HAd := Lib.hid hAd
  clear hA hAd
  go_enter Tryz.func40, Tryz.ntmps40
  go_wp2_with fail
  refine hU.mono ?_
  rintro e w1 ⟨⟨k, hk, hk3, rfl, hcut⟩, hb1⟩
  have HC := Lib.hid hcut
  obtain ⟨e1, e2⟩ := suffix_str A k hk
  obtain ⟨B, hB⟩ : ∃ B, A.extract (A.size - k) A.size = B := ⟨_, rfl⟩
  obtain ⟨D, hD⟩ : ∃ D, A.extract 0 (A.size - k) = D := ⟨_, rfl⟩
  have hDd : D.data.toList = A.data.toList.take (A.size - k) := by
    rw [← hD]
    have := textract A 0 (A.size - k)
    rw [Nat.zero_add, List.drop_zero] at this
    exact this
  have hDs : D.size = A.size - k := by rw [← hD, ByteArray.size_extract]; omega
  have hsl1 : ∀ W : World, (Instr.slice 9 (.string A) (some (.int .i64 ((A.size : Int) - (k : Int)))) none none).run Tryz.prog W = .ok (.string B) W := by
    intro W
    rw [run_slice_string_l (ht := Tryz.underlying9) (h0 := by omega) (h1 := by omega), show ((A.size : Int) - (k : Int)).toNat = A.size - k from by omega, hB]
  have hsl2 : ∀ W : World, (Instr.slice 9 (.string A) none (some (.int .i64 ((A.size : Int) - (k : Int)))) none).run Tryz.prog W = .ok (.string D) W := by
    intro W
    rw [run_slice_string_h (ht := Tryz.underlying9) (h0 := by omega) (h2 := by omega), show ((A.size : Int) - (k : Int)).toNat = A.size - k from by omega, hD]
  rw [hB] at e1 e2
  have HB := Lib.hid e1
  have HD := Lib.hid hDd
  have hsz1 := hb1.size
  clear hcut e1 hB hD hDd hU
  have hd1 : Whole w1 b #[.string (tstr r)] 45 := Whole.below h hb1 hbl
  go_wp2_with fail
  refine (tclone_any B w1 (by omega)).mono ?_
  rintro e w2 ⟨rfl, hb2⟩
  have hd2 := hd1.below hb2 hd1.lt
  have hc2 : w2.cell? ⟨b, 0, none⟩ = some (.string (tstr r)) := hd2.cell 0
  have hf2 : w2.frozen? ⟨b, 0, none⟩ = false := hd2.free 0
  have hb12 : Below w.heap.size w w2 := hb1.trans (hb2.mono hsz1)
  have hT2 : Lit w2 := hT.below hb12
  have hT3 : Lit (w2.setCell ⟨b, 0, none⟩ (.string B)) := by
    have hbc : ∀ a v, w2.cell? a = some v → (∀ t, v ≠ .string t) → (w2.setCell ⟨b, 0, none⟩ (.string B)).cell? a = some v := by
      intro a v ha hv
      rw [World.cell?_setCell_other _ _ _ _ (fun e => by subst e; rw [hc2] at ha; exact hv _ (Option.some.inj ha).symm)]
      exact ha
    exact ⟨fun c hc => hbc _ _ (hT2.1 c hc) (fun t e => by cases e), fun i hi => ⟨hbc _ _ (hT2.2 i hi).1 (fun t e => by cases e), hbc _ _ (hT2.2 i hi).2 (fun t e => by cases e)⟩⟩
  have hd3 : Whole (w2.setCell ⟨b, 0, none⟩ (.string B)) b #[.string B] 45 := Whole.put hd2 0 (.string B)
  clear hc hfz
  go_wp2_with fail
  refine (trepair_any D _ (by omega) hT3).mono ?_
  rintro e w4 ⟨rfl, hb4⟩
  go_wp2_with fail
  go_ret
  refine ⟨A.data.toList.take (A.size - k), A.data.toList.drop (A.size - k), ?_, HC.out, ?_, ?_, grown_of hb12 hbl hb4⟩
  · rw [← HAd.out, List.take_append_drop]
  · rw [HD.out]; rfl
  · have := hd3.below hb4 hd3.lt
    rw [← tstr_of B, HB.out] at this
    exact this

set_option maxHeartbeats 1000000 in
theorem tend_any (b : Nat) (r : List UInt8) (w : World) (hr : r.length ≤ 10) (h : Dec w b r) (hT : Lit w) :
    Calls Tryz.prog 41 #[.pointer (some ⟨b, 0, none⟩)] w fun e w' => e = .returned (.string (tstr (Txt.rep r))) ∧ Dec w' b [] ∧ w.grownBy w' (some b) := by
  have hbl : b < w.heap.size := Whole.lt h
  have hc : w.cell? ⟨b, 0, none⟩ = some (.string (tstr r)) := Whole.cell h 0
  have hfz : w.frozen? ⟨b, 0, none⟩ = false := Whole.free h 0
  have hR := trepair_any (tstr r) w (by rw [tstr_size]; omega) hT
  rw [tstr_data] at hR
  go_enter Tryz.func41, Tryz.ntmps41
  go_wp2_with fail
  refine hR.mono ?_
  rintro e w2 ⟨rfl, hb2⟩
  have hd2 := Whole.below h hb2 hbl
  have hc2 : w2.cell? ⟨b, 0, none⟩ = some (.string (tstr r)) := Whole.cell hd2 0
  have hf2 : w2.frozen? ⟨b, 0, none⟩ = false := Whole.free hd2 0
  have hd3 : Whole (w2.setCell ⟨b, 0, none⟩ (.string ⟨#[]⟩)) b #[.string ⟨#[]⟩] 45 := Whole.put hd2 0 (.string ⟨#[]⟩)
  clear hc hfz
  go_wp2_with fail
  go_ret
  exact ⟨rfl, hd3, grown_of hb2 hbl (Below.refl _ _)⟩

end Go.Proofs.YtckmlbcpldpkpaaGreatDoor

/- Replacing all line ends by the library's rule is replacing them byte by byte. No program is imported. -/
namespace Go.Proofs.YtckmlbcpldpkpaaGreatDoor.Txt
open Go

/-- All that the library replaces. -/
def ra (old new l : List UInt8) : List UInt8 := Lib.replaceK old new (Lib.count l old) l
theorem replaceAll_ra (old new l : List UInt8) (h : old ≠ new) : Lib.replaceAll l old new = ra old new l := by
  unfold Lib.replaceAll Lib.replace Lib.replaceNum ra
  rw [if_neg (by simpa using h), if_pos (.inl (by omega))]
theorem ra_miss {old new l : List UInt8} (h : Lib.index l old = -1) : ra old new l = l := by
  unfold ra
  rw [Lib.count_miss h, Lib.replaceK]
theorem ra_hit {old new l : List UInt8} {i : Nat} (ho : old ≠ []) (h : Lib.index l old = i) : ra old new l = l.take i ++ new ++ ra old new (l.drop (i + old.length)) := by
  unfold ra
  rw [Lib.count_hit ho h, Nat.add_comm 1, Lib.replaceK_hit old new _ l i h]
theorem ra_nil (old new : List UInt8) (ho : old ≠ []) : ra old new [] = [] := by
  refine ra_miss ?_
  unfold Lib.index
  cases old with
  | nil => exact absurd rfl ho
  | cons a r => rfl
theorem ra_pre {old new l : List UInt8} {b : UInt8} (ho : old ≠ []) (h : old.isPrefixOf (b :: l) = true) : ra old new (b :: l) = new ++ ra old new ((b :: l).drop old.length) := by
  have hi : Lib.index (b :: l) old = ((0 : Nat) : Int) := by unfold Lib.index; rw [if_pos h]; rfl
  rw [ra_hit ho hi, Nat.zero_add]; rfl
theorem ra_cons {old new l : List UInt8} {b : UInt8} (ho : old ≠ []) (h : old.isPrefixOf (b :: l) = false) : ra old new (b :: l) = b :: ra old new l := by
  have hix : Lib.index (b :: l) old = if Lib.index l old == -1 then -1 else Lib.index l old + 1 := by rw [Lib.index, h]; simp
  by_cases hm : Lib.index l old = -1
  · rw [ra_miss hm, ra_miss (by rw [hix, if_pos (beq_iff_eq.2 hm)])]
  · have hge := Lib.index_ge l old
    obtain ⟨j, hj⟩ : ∃ j : Nat, Lib.index l old = j := ⟨(Lib.index l old).toNat, by omega⟩
    have hix' : Lib.index (b :: l) old = ((j + 1 : Nat) : Int) := by rw [hix, if_neg (fun e => hm (beq_iff_eq.1 e)), hj]; omega
    rw [ra_hit ho hj, ra_hit ho hix', show j + 1 + old.length = (j + old.length) + 1 from by omega, List.drop_succ_cons, List.take_succ_cons]
    rfl
theorem one_hit (r : List UInt8) : ra [13] [10] (13 :: r) = 10 :: ra [13] [10] r := ra_pre (by simp) (by simp [List.isPrefixOf])
theorem one_pass {c : UInt8} (h : c ≠ 13) (r : List UInt8) : ra [13] [10] (c :: r) = c :: ra [13] [10] r := ra_cons (by simp) (by simp [List.isPrefixOf, Ne.symm h])
theorem two_hit (r : List UInt8) : ra [13, 10] [10] (13 :: 10 :: r) = 10 :: ra [13, 10] [10] r := ra_pre (by simp) (by simp [List.isPrefixOf])
theorem two_end : ra [13, 10] [10] [13] = [13] := by
  rw [ra_cons (by simp) (by simp [List.isPrefixOf]), ra_nil _ _ (by simp)]
theorem two_alone {c : UInt8} (h : c ≠ 10) (r : List UInt8) : ra [13, 10] [10] (13 :: c :: r) = 13 :: ra [13, 10] [10] (c :: r) := ra_cons (by simp) (by simp [List.isPrefixOf, Ne.symm h])
theorem two_pass {c : UInt8} (h : c ≠ 13) (r : List UInt8) : ra [13, 10] [10] (c :: r) = c :: ra [13, 10] [10] r := ra_cons (by simp) (by simp [List.isPrefixOf, Ne.symm h])
theorem two_len (l : List UInt8) : (ra [13, 10] [10] l).length ≤ l.length := by
  induction hn : l.length using Nat.strongRecOn generalizing l with
  | _ n ih =>
    subst hn
    match l with
    | [] => rw [ra_nil _ _ (by simp)]; exact Nat.le_refl _
    | [c] =>
      by_cases h : c = 13
      · subst h; rw [two_end]; exact Nat.le_refl _
      · rw [two_pass h, ra_nil _ _ (by simp)]; exact Nat.le_refl _
    | c :: d :: r =>
      by_cases h : c = 13
      · subst h
        by_cases h2 : d = 10
        · subst h2
          rw [two_hit]
          have := ih r.length (by simp; omega) r rfl
          simp only [List.length_cons]; omega
        · rw [two_alone h2]
          have := ih (d :: r).length (by simp) (d :: r) rfl
          simp only [List.length_cons] at this ⊢; omega
      · rw [two_pass h]
        have := ih (d :: r).length (by simp) (d :: r) rfl
        simp only [List.length_cons] at this ⊢; omega

theorem newl_any {c : UInt8} (h : c ≠ 10) (p : Bool) (r : List UInt8) : newl p (c :: r) = newl false (c :: r) := by
  have e : ∀ q : Bool, newl q (c :: r) = if c = 10 ∧ q = true then newl false r else (if c = 13 then 10 else c) :: newl (c == 13) r := fun q => rfl
  have n1 : ¬ (c = 10 ∧ p = true) := fun x => h x.1
  have n2 : ¬ (c = 10 ∧ false = true) := fun x => h x.1
  rw [e p, e false, if_neg n1, if_neg n2]
theorem newl_ra (l : List UInt8) : ra [13] [10] (ra [13, 10] [10] l) = newl false l := by
  induction hn : l.length using Nat.strongRecOn generalizing l with
  | _ n ih =>
    subst hn
    match l with
    | [] => rw [ra_nil _ _ (by simp), ra_nil _ _ (by simp)]; rfl
    | c :: r =>
      by_cases h : c = 13
      · subst h
        match r with
        | [] => rw [two_end, one_hit, ra_nil _ _ (by simp)]; rfl
        | d :: r =>
          by_cases h2 : d = 10
          · subst h2
            rw [two_hit, one_pass (by decide), ih r.length (by simp; omega) r rfl]
            rfl
          · rw [two_alone h2, one_hit, ih (d :: r).length (by simp) (d :: r) rfl]
            have e : newl false (13 :: d :: r) = 10 :: newl true (d :: r) := rfl
            rw [e, newl_any h2 true r]
      · rw [two_pass h, one_pass h, ih r.length (by simp) r rfl]
        have hc : (c == 13) = false := by simpa using h
        conv => rhs; unfold newl
        rw [if_neg (by simp), if_neg h, hc]

end Go.Proofs.YtckmlbcpldpkpaaGreatDoor.Txt

/- What the library says of replacing, over this program. -/
namespace Go.Proofs
open Go.Shelf

def Tryz.lays155_ren : Go.Shelf.Ren := ⟨fun | 138 => 91 | 143 => 93 | 154 => 74 | 155 => 63 | 165 => 92 | 166 => 94 | 169 => 71 | 195 => 112 | 197 => 95 | 217 => 117 | 218 => 113 | 219 => 115 | 224 => 128 | 225 => 127 | 240 => 78 | 241 => 114 | 260 => 116 | 266 => 130 | 267 => 129 | 276 => 97 | 277 => 126 | 314 => 140 | n => n, fun | 0 => 0 | 3 => 3 | 4 => 4 | 5 => 5 | 9 => 9 | 20 => 20 | 21 => 21 | 37 => 58 | 46 => 102 | 51 => 115 | 70 => 85 | 72 => 87 | 75 => 92 | 76 => 93 | 80 => 63 | 105 => 110 | 119 => 98 | 127 => 103 | 138 => 100 | 139 => 101 | 146 => 134 | 164 => 113 | n => n, fun | 1 => 2 | 3 => 0 | 4 => 1 | n => n⟩
theorem Tryz.lays155 : Go.Proofs.Lays.n155 Tryz.prog Tryz.lays155_ren := {
  mixed := by kernel_rfl
  f138 := Tryz.func91.trans (congrArg some (by kernel_rfl))
  f143 := Tryz.func93.trans (congrArg some (by kernel_rfl))
  f154 := Tryz.func74.trans (congrArg some (by kernel_rfl))
  f155 := Tryz.func63.trans (congrArg some (by kernel_rfl))
  f165 := Tryz.func92.trans (congrArg some (by kernel_rfl))
  f166 := Tryz.func94.trans (congrArg some (by kernel_rfl))
  f169 := Tryz.func71.trans (congrArg some (by kernel_rfl))
  f195 := Tryz.func112.trans (congrArg some (by kernel_rfl))
  f197 := Tryz.func95.trans (congrArg some (by kernel_rfl))
  f217 := Tryz.func117.trans (congrArg some (by kernel_rfl))
  f218 := Tryz.func113.trans (congrArg some (by kernel_rfl))
  f219 := Tryz.func115.trans (congrArg some (by kernel_rfl))
  f224 := Tryz.func128.trans (congrArg some (by kernel_rfl))
  f225 := Tryz.func127.trans (congrArg some (by kernel_rfl))
  f240 := Tryz.func78.trans (congrArg some (by kernel_rfl))
  f241 := Tryz.func114.trans (congrArg some (by kernel_rfl))
  f260 := Tryz.func116.trans (congrArg some (by kernel_rfl))
  f266 := Tryz.func130.trans (congrArg some (by kernel_rfl))
  f267 := Tryz.func129.trans (congrArg some (by kernel_rfl))
  f276 := Tryz.func97.trans (congrArg some (by kernel_rfl))
  f277 := Tryz.func126.trans (congrArg some (by kernel_rfl))
  f314 := Tryz.func140.trans (congrArg some (by kernel_rfl))
  t0 := Tryz.underlying0
  a0 := Tryz.isAgg0
  z0 := Tryz.sizeOf0
  v0 := Tryz.zeroValue0
  t3 := Tryz.underlying3
  a3 := Tryz.isAgg3
  z3 := Tryz.sizeOf3
  v3 := Tryz.zeroValue3
  t4 := Tryz.underlying4
  a4 := Tryz.isAgg4
  z4 := Tryz.sizeOf4
  v4 := Tryz.zeroValue4
  t5 := Tryz.underlying5
  a5 := Tryz.isAgg5
  z5 := Tryz.sizeOf5
  v5 := Tryz.zeroValue5
  t9 := Tryz.underlying9
  a9 := Tryz.isAgg9
  z9 := Tryz.sizeOf9
  v9 := Tryz.zeroValue9
  t20 := Tryz.underlying20
  a20 := Tryz.isAgg20
  z20 := Tryz.sizeOf20
  v20 := Tryz.zeroValue20
  t21 := Tryz.underlying21
  a21 := Tryz.isAgg21
  z21 := Tryz.sizeOf21
  v21 := Tryz.zeroValue21
  t37 := Tryz.underlying58
  a37 := Tryz.isAgg58
  z37 := Tryz.sizeOf58
  v37 := Tryz.zeroValue58
  t46 := Tryz.underlying102
  a46 := Tryz.isAgg102
  z46 := Tryz.sizeOf102
  v46 := Tryz.zeroValue102
  t51 := Tryz.underlying115
  a51 := Tryz.isAgg115
  z51 := Tryz.sizeOf115
  v51 := Tryz.zeroValue115
  t70 := Tryz.underlying85
  a70 := Tryz.isAgg85
  z70 := Tryz.sizeOf85
  v70 := Tryz.zeroValue85
  t72 := Tryz.underlying87
  a72 := Tryz.isAgg87
  z72 := Tryz.sizeOf87
  v72 := Tryz.zeroValue87
  t75 := Tryz.underlying92
  a75 := Tryz.isAgg92
  z75 := Tryz.sizeOf92
  v75 := Tryz.zeroValue92
  t76 := Tryz.underlying93
  a76 := Tryz.isAgg93
  z76 := Tryz.sizeOf93
  v76 := Tryz.zeroValue93
  t105 := Tryz.underlying110
  a105 := Tryz.isAgg110
  z105 := Tryz.sizeOf110
  v105 := Tryz.zeroValue110
  t119 := Tryz.underlying98
  a119 := Tryz.isAgg98
  z119 := Tryz.sizeOf98
  t127 := Tryz.underlying103
  a127 := Tryz.isAgg103
  z127 := Tryz.sizeOf103
  v127 := Tryz.zeroValue103
  t138 := Tryz.underlying100
  a138 := Tryz.isAgg100
  z138 := Tryz.sizeOf100
  v138 := Tryz.zeroValue100
  t139 := Tryz.underlying101
  a139 := Tryz.isAgg101
  z139 := Tryz.sizeOf101
  v139 := Tryz.zeroValue101
  t146 := Tryz.underlying134
  a146 := Tryz.isAgg134
  z146 := Tryz.sizeOf134
  v146 := Tryz.zeroValue134
  t164 := Tryz.underlying113
  a164 := Tryz.isAgg113
  z164 := Tryz.sizeOf113
  v164 := Tryz.zeroValue113
  g1 := by kernel_rfl
  g3 := by kernel_rfl
  g4 := by kernel_rfl }
theorem Tryz.Builder_Extra_155 : Builder.Extra Tryz.prog Tryz.lays155_ren := {
  sizeBuilder := by kernel_rfl
  liesBuilder := by kernel_rfl
  t5 := Tryz.underlying5
  a5 := Tryz.isAgg5
  z5 := Tryz.sizeOf5
  v5 := Tryz.zeroValue5
  infoByte := by kernel_rfl
  cellsByte := by kernel_rfl
  sizeByte := by kernel_rfl
  neB5 := by decide }
theorem Tryz.maxLen (w : World) (h : w.ShapedOpen Tryz.prog) : ∃ m, w.cell? ⟨2, 0, none⟩ = some (.int .i64 m) :=
  Go.Proofs.cell_of_shapedOpen_int (zero := #[.int .i64 0]) (t := 3) h (of_decide_eq_true (by kernel_rfl)) (by kernel_rfl) rfl (by kernel_rfl) (by kernel_rfl) Tryz.underlying3
open Go.RowKit in
theorem Tryz.replaceAll (s old new : ByteArray) (m : Int) (w : World) (hs : s.size < 4294967281) (hm : w.cell? ⟨2, 0, none⟩ = some (.int .i64 m)) (h1 : 1 ≤ old.size) (hlen : s.size + Lib.countB s old * new.size ≤ 140737488355328) :
    Calls Tryz.prog 63 #[.string s, .string old, .string new] w fun e w' => e = .returned (.string ⟨(Lib.replaceAll s.data.toList old.data.toList new.data.toList).toArray⟩) ∧ Below w.heap.size w w' := Any.strings_ReplaceAll Tryz.lays155 Tryz.Builder_Extra_155 s old new m w hs hm h1 hlen
end Go.Proofs

/- The program's Newlines returns what the plain text says. -/
namespace Go.Proofs.YtckmlbcpldpkpaaGreatDoor
open Go.RowKit

/-- A variable of the library's holds some number. -/
def MaxLen (w : World) : Prop := ∃ m, w.cell? ⟨2, 0, none⟩ = some (.int .i64 m)
theorem MaxLen.below {w w' : World} (h : MaxLen w) (hb : Below w.heap.size w w') : MaxLen w' := by
  obtain ⟨m, hm⟩ := h
  exact ⟨m, (hb.cell (World.block_lt_of_cell? w _ hm)).trans hm⟩

set_option maxHeartbeats 400000 in
theorem tnewlines_any (s : ByteArray) (w : World) (hs : s.size ≤ 20000) (hM : MaxLen w) :
    Calls Tryz.prog 54 #[.string s] w fun e w' => e = .returned (.string (tstr (Txt.newl false s.data.toList))) ∧ Below w.heap.size w w' := by
  obtain ⟨m, hm⟩ := hM
  have hcb := Lib.countB_le (tstr [13, 10]) (by decide) s.size s (Nat.le_refl _)
  have c1 := Tryz.replaceAll s (tstr [13, 10]) (tstr [10]) m w (by omega) hm (by decide) (by rw [show (tstr [10]).size = 1 from rfl]; omega)
  rw [tstr_data, tstr_data, Txt.replaceAll_ra _ _ _ (by decide)] at c1
  obtain ⟨L, hL⟩ : ∃ L, Txt.ra [13, 10] [10] s.data.toList = L := ⟨_, rfl⟩
  have hlen := Txt.two_len s.data.toList
  have hll : s.data.toList.length = s.size := rfl
  have hfin := Txt.newl_ra s.data.toList
  rw [hL] at c1 hlen hfin
  have hLs : (tstr L).size ≤ 20000 := by rw [tstr_size]; omega
  have hcb2 := Lib.countB_le (tstr [13]) (by decide) (tstr L).size (tstr L) (Nat.le_refl _)
  have c2 : ∀ W : World, W.cell? ⟨2, 0, none⟩ = some (.int .i64 m) → Calls Tryz.prog 63 #[.string (tstr L), .string (tstr [13]), .string (tstr [10])] W fun e w' => e = .returned (.string (tstr (Txt.newl false s.data.toList))) ∧ Below W.heap.size W w' := by
    intro W hW
    have c := Tryz.replaceAll (tstr L) (tstr [13]) (tstr [10]) m W (by omega) hW (by decide) (by rw [show (tstr [10]).size = 1 from rfl]; omega)
    rw [tstr_data, tstr_data, tstr_data, Txt.replaceAll_ra _ _ _ (by decide), hfin] at c
    exact c
  have HM := Lib.hid hm
  clear hm hL hfin hcb hcb2
  go_enter Tryz.func54, Tryz.ntmps54
  go_wp2_with fail
  refine c1.mono ?_
  rintro e w2 ⟨rfl, hb2⟩
  have hm2 := (hb2.cell (World.block_lt_of_cell? w _ HM.out)).trans HM.out
  have c2' := c2 w2 hm2
  clear hm2
  go_wp2_with fail
  refine c2'.mono ?_
  rintro e w3 ⟨rfl, hb3⟩
  go_wp2_with fail
  go_ret
  exact ⟨rfl, hb2.trans (hb3.mono hb2.size)⟩

end Go.Proofs.YtckmlbcpldpkpaaGreatDoor

/- The program's IsSpace returns what the plain text says. -/
namespace Go.Proofs.YtckmlbcpldpkpaaGreatDoor
open Go.RowKit

set_option maxHeartbeats 400000 in
theorem cspace_any (c : UInt8) (w : World) :
    Calls Tryz.prog 105 #[.int .u8 c.toNat] w fun e w' => e = .returned (.bool (Txt.sp c)) ∧ w = w' := by
  go_enter Tryz.func105, Tryz.ntmps105
  go_wp2
  all_goals go_ret
  all_goals refine ⟨retB ?_, rfl⟩
  all_goals unfold Txt.sp
  all_goals rw [Bool.eq_iff_iff]
  all_goals simp
  all_goals omega
theorem tisspace_any (c : UInt8) (w : World) :
    Calls Tryz.prog 105 #[.int .u8 c.toNat] w fun e w' => e = .returned (.bool (Txt.sp c)) ∧ Below w.heap.size w w' := by
  refine (cspace_any c w).mono ?_
  rintro e w2 ⟨rfl, rfl⟩
  exact ⟨rfl, Below.refl _ _⟩

end Go.Proofs.YtckmlbcpldpkpaaGreatDoor

/- The program's Number, digit, isLetter, isBare return what the plain texts say. -/
namespace Go.Proofs.YtckmlbcpldpkpaaGreatDoor
open Go Go.RowKit

set_option maxHeartbeats 400000 in
theorem tnumber_any (n : Int) (w : World) :
    Calls Tryz.prog 132 #[.int .i64 n] w fun e w' => e = .returned (.string (tstr (Ent.numb n))) ∧ w = w' := by
  have g : ∀ w : World, (convert 21 9 (.int .i32 n)).run Tryz.prog w = .ok (.string (Utf8.encode n)) w := fun w =>
    run_convert_int_string w _ _ .i32 n (by rw [Tryz.underlying21]; rfl) Tryz.underlying9
  by_cases hb : n < 1 ∨ 1114111 < n
  · have e : tstr (Ent.numb n) = tstr [239, 191, 189] := by unfold Ent.numb; rw [if_pos hb]
    have E := Lib.hid e
    clear e
    rcases hb with hb | hb
    · go_enter Tryz.func132, Tryz.ntmps132
      go_wp2_with fail
      go_ret
      exact ⟨retS (by rw [E.out]; rfl), rfl⟩
    · have g1 : ¬ n < 1 := by omega
      go_enter Tryz.func132, Tryz.ntmps132
      go_wp2_with fail
      go_ret
      exact ⟨retS (by rw [E.out]; rfl), rfl⟩
  · have e : tstr (Ent.numb n) = Utf8.encode n := by unfold Ent.numb; rw [if_neg hb]; rfl
    have E := Lib.hid e
    have g1 : ¬ n < 1 := by omega
    have g2 : ¬ 1114111 < n := by omega
    clear e hb
    go_enter Tryz.func132, Tryz.ntmps132
    go_wp2_with fail
    go_ret
    exact ⟨retS (by rw [E.out]), rfl⟩

set_option maxHeartbeats 400000 in
theorem tdigit_any (c : UInt8) (w : World) :
    Calls Tryz.prog 131 #[.int .u8 c.toNat] w fun e w' => e = .returned (.int .i64 (Ent.dig c)) ∧ w = w' := by
  have hc := c.toNat_lt
  have hd : (Ent.dig c : Int) = if 48 ≤ c.toNat ∧ c.toNat ≤ 57 then (c.toNat : Int) - 48 else if 97 ≤ c.toNat ∧ c.toNat ≤ 102 then (c.toNat : Int) - 87 else if 65 ≤ c.toNat ∧ c.toNat ≤ 70 then (c.toNat : Int) - 55 else 16 := by
    unfold Ent.dig
    repeat' split
    all_goals omega
  have HD := Lib.hid hd
  clear hd
  go_enter Tryz.func131, Tryz.ntmps131
  go_wp2_with fail
  all_goals go_ret
  all_goals refine ⟨retI ?_, rfl⟩
  all_goals rw [HD.out]
  all_goals repeat' split
  all_goals omega

set_option maxHeartbeats 400000 in
theorem tisLetter_any (c : UInt8) (w : World) :
    Calls Tryz.prog 133 #[.int .u8 c.toNat] w fun e w' => e = .returned (.bool (Ent.isL c)) ∧ w = w' := by
  have hc := c.toNat_lt
  go_enter Tryz.func133, Tryz.ntmps133
  go_wp2_with fail
  all_goals go_ret
  all_goals refine ⟨retB ?_, rfl⟩
  all_goals unfold Ent.isL
  all_goals rw [Bool.eq_iff_iff]
  all_goals simp only [Bool.or_eq_true, Bool.and_eq_true, decide_eq_true_eq, true_iff, Bool.false_eq_true, false_iff]
  all_goals omega

set_option maxHeartbeats 400000 in
theorem tisBare_any (s : ByteArray) (w : World) :
    Calls Tryz.prog 135 #[.string s] w fun e w' => e = .returned (.bool (Ent.bare s.data.toList)) ∧ w = w' := by
  have h : Ent.bare s.data.toList = Ent.bare s.toList := by rw [Lib.toList_data]
  have H := Lib.hid h
  clear h
  go_enter Tryz.func135, Tryz.ntmps135
  go_wp2_with fail
  all_goals go_ret
  all_goals refine ⟨retB ?_, rfl⟩
  all_goals rw [H.out]
  all_goals unfold Ent.bare
  all_goals simp_all

end Go.Proofs.YtckmlbcpldpkpaaGreatDoor

/- The program's table in memory; Lookup and Names. -/
namespace Go.Proofs.YtckmlbcpldpkpaaGreatDoor
open Go Go.RowKit

/-- The name, and the code point, of a row of the table. -/
def tnm (i : Nat) : List UInt8 := (Ent.tab.getD i ([], 0)).1
def tpt (i : Nat) : Nat := (Ent.tab.getD i ([], 0)).2
/-- The table lies in memory. -/
def Tab (w : World) : Prop := ∀ i < 30, w.cell? ⟨3, i * 2, none⟩ = some (.string (tstr (tnm i))) ∧ w.cell? ⟨3, i * 2 + 1, none⟩ = some (.int .i32 (tpt i : Nat))
theorem Tab.below {w w' : World} (h : Tab w) (hb : Below w.heap.size w w') : Tab w' := fun i hi =>
  ⟨(hb.cell (World.block_lt_of_cell? w _ (h i hi).1)).trans (h i hi).1, (hb.cell (World.block_lt_of_cell? w _ (h i hi).2)).trans (h i hi).2⟩
theorem less_eq (a b : ByteArray) : Op.bytesLess a.toList b.toList = decide (a.data.toList < b.data.toList) := by
  rw [bytesLess_eq, Lib.toList_data, Lib.toList_data]

set_option maxRecDepth 100000 in
set_option maxHeartbeats 1000000 in
theorem tlookup_any (s : ByteArray) (w : World) (hT : Tab w) :
    Calls Tryz.prog 134 #[.string s] w fun e w' => e = .returned (.tuple #[.string (tstr ((Ent.look s.data.toList).getD [])), .bool (Ent.look s.data.toList).isSome]) ∧ w = w' := by
  go_enter Tryz.func134, Tryz.ntmps134
  go_wp2_with fail
  go_loop [4, 5] (fun a b => ∃ lo hi : Nat, lo ≤ hi ∧ hi ≤ 30 ∧ a = .int .i64 lo ∧ b = .int .i64 hi ∧ (∀ i < lo, tnm i < s.data.toList) ∧ (∀ i, hi ≤ i → i < 30 → ¬ tnm i < s.data.toList)) (fun a b => (intOf b - intOf a).toNat)
  case atStart => exact ⟨0, 30, by omega, by omega, rfl, rfl, fun i h => absurd h (by omega), fun i h1 h2 => by omega⟩
  case round =>
    obtain ⟨lo, hi, hle, h30, rfl, rfl, hlo, hhi⟩ := hrel
    by_cases hlt : lo < hi
    · obtain ⟨m, hm⟩ : ∃ m : Nat, m = (lo + hi) / 2 := ⟨_, rfl⟩
      have hmi : ((lo : Int) + (hi : Int)) / 2 = (m : Int) := by omega
      have hm1 : lo ≤ m := by omega
      have hm2 : m < hi := by omega
      have hm3 : m < 30 := by omega
      obtain ⟨hc, hp⟩ := hT m hm3
      obtain ⟨N, hN⟩ : ∃ N, tstr (tnm m) = N := ⟨_, rfl⟩
      rw [hN] at hc
      have HL := Lib.hid hlo
      have HH := Lib.hid hhi
      have hlr : m < hi := hm2
      by_cases hls : tnm m < s.data.toList
      · have hb : Op.bytesLess N.toList s.toList = true := by rw [less_eq, ← hN]; exact decide_eq_true hls
        have hnew : ∀ i < m + 1, tnm i < s.data.toList := fun i hi' => by
          by_cases e : i = m
          · subst e; exact hls
          · exact List.lt_trans (Ent.tab_sorted m hm3 i (by omega)) hls
        have HN := Lib.hid hnew
        clear hlo hhi hp hm hN hls hnew
        go_wp2_with fail
        go_round
        case rel => exact ⟨m + 1, hi, by omega, h30, by go_num, rfl, HN.out, HH.out⟩
        case measure => simp [intOf]; omega
      · have hb : Op.bytesLess N.toList s.toList = false := by rw [less_eq, ← hN]; exact decide_eq_false hls
        have hnew : ∀ i, m ≤ i → i < 30 → ¬ tnm i < s.data.toList := fun i h1 h2 => by
          by_cases e : i = m
          · subst e; exact hls
          · exact fun hx => hls (List.lt_trans (Ent.tab_sorted i h2 m (by omega)) hx)
        have HN := Lib.hid hnew
        clear hlo hhi hp hm hN hls hnew
        go_wp2_with fail
        go_round
        case rel => exact ⟨lo, m, hm1, by omega, rfl, by go_num, HL.out, HN.out⟩
        case measure => simp [intOf]; omega
    · obtain rfl : lo = hi := by omega
      by_cases h3 : lo < 30
      · obtain ⟨hc, hp⟩ := hT lo h3
        obtain ⟨N, hN⟩ : ∃ N, tstr (tnm lo) = N := ⟨_, rfl⟩
        rw [hN] at hc
        have g : ∀ w : World, (convert 21 9 (.int .i32 (tpt lo : Nat))).run Tryz.prog w = .ok (.string (Utf8.encode (tpt lo : Nat))) w := fun w =>
          run_convert_int_string w _ _ .i32 _ (by rw [Tryz.underlying21]; rfl) Tryz.underlying9
        obtain ⟨x, hx⟩ : ∃ x : Int, x = (tpt lo : Nat) := ⟨_, rfl⟩
        rw [← hx] at hp g
        by_cases he : tnm lo = s.data.toList
        · have hb : (N.toList == s.toList) = true := by rw [Lib.toList_data, Lib.toList_data, ← hN, tstr_data, he]; simp
          have hres : Ent.look s.data.toList = some (Ent.num x) := by rw [← he, hx]; exact Ent.look_at lo h3
          have HR := Lib.hid hres
          clear hlo hhi hN he hx hres
          go_wp2_with fail
          go_ret2
          exact ⟨retSB (by rw [HR.out]; rfl) (by rw [HR.out]; rfl), rfl⟩
        · have hb : (N.toList == s.toList) = false := by rw [Lib.toList_data, Lib.toList_data, ← hN, tstr_data]; simpa using he
          have hres : Ent.look s.data.toList = none := Ent.look_missing _ lo (by omega) hlo hhi (fun _ => he)
          have HR := Lib.hid hres
          clear hlo hhi hN he hx hres
          go_wp2_with fail
          go_ret2
          exact ⟨retSB (by rw [HR.out]; rfl) (by rw [HR.out]; rfl), rfl⟩
      · have hres : Ent.look s.data.toList = none := Ent.look_missing _ lo (by omega) hlo hhi (fun h => absurd h h3)
        have HR := Lib.hid hres
        obtain rfl : lo = 30 := by omega
        clear hlo hhi hres
        go_wp2_with fail
        go_ret2
        exact ⟨retSB (by rw [HR.out]; rfl) (by rw [HR.out]; rfl), rfl⟩

end Go.Proofs.YtckmlbcpldpkpaaGreatDoor

/- A reference by a number: the program's byNumber. -/
namespace Go.Proofs.YtckmlbcpldpkpaaGreatDoor
open Go Go.RowKit

set_option maxRecDepth 100000 in
set_option maxHeartbeats 1000000 in
theorem tbyNumber_10 (s : ByteArray) (start : Nat) (w : World) (hst : start ≤ s.size) (hs : s.size ≤ 20000) :
    Calls Tryz.prog 118 #[.string s, .int .i64 start, .int .i64 10] w fun e w' => e = .returned (.tuple #[.string (tstr (Ent.byNum 10 start s.data.toList).1), .int .i64 (Ent.byNum 10 start s.data.toList).2]) ∧ w = w' := by
  go_enter Tryz.func118, Tryz.ntmps118
  go_wp2_with fail
  go_loop [8, 9] (fun a b => ∃ v k : Nat, start ≤ k ∧ k ≤ s.size ∧ v ≤ 1114112 ∧ a = .int .i64 v ∧ b = .int .i64 k ∧ DSt 10 start s.data.toList v k) (fun _ b => s.size - (intOf b).toNat)
  case atStart => exact ⟨0, start, Nat.le_refl _, hst, by omega, rfl, rfl, DSt.start _ _ _⟩
  case round =>
    obtain ⟨v, k, hk1, hk2, hv, rfl, rfl, hD⟩ := hrel
    by_cases hlt : k < s.size
    · by_cases hd : Ent.dig s[k] < 10
      · have hst := hD.step hlt hk1 hd
        have HS := Lib.hid hst
        clear hst hD
        obtain ⟨d, hdd⟩ : ∃ d, Ent.dig s[k] = d := ⟨_, rfl⟩
        have hc : ∀ w : World, Calls Tryz.prog 131 #[.int .u8 s[k].toNat] w fun e w' => e = .returned (.int .i64 (d : Nat)) ∧ w = w' := fun w => by rw [← hdd]; exact tdigit_any s[k] w
        rw [hdd] at hd HS
        clear hdd
        go_wp2_with (go_at_call 131; refine (hc _).mono ?_; rintro e w' ⟨rfl, rfl⟩)
        go_round
        case rel => exact ⟨min (v * 10 + d) 1114112, k + 1, by omega, by omega, by omega, by go_num, by go_num, HS.out⟩
        case measure => simp [intOf]; omega
      · have hend := hD.stop (fun _ => hd)
        obtain ⟨d, hdd⟩ : ∃ d, Ent.dig s[k] = d := ⟨_, rfl⟩
        have hc : ∀ w : World, Calls Tryz.prog 131 #[.int .u8 s[k].toNat] w fun e w' => e = .returned (.int .i64 (d : Nat)) ∧ w = w' := fun w => by rw [← hdd]; exact tdigit_any s[k] w
        rw [hdd] at hd
        clear hdd hD
        have hres1 := fun (h : start < k) (h59 : s[k].toNat = 59) => DSt.semi hend h hlt h59
        have hres2 := fun (h : start < k) (h59 : s[k].toNat ≠ 59) => DSt.bare hend h (fun _ => h59)
        by_cases he : k = start
        · subst he
          have hres := Lib.hid (DSt.none hend)
          clear hend hres1 hres2
          go_wp2_with (go_at_call 131; refine (hc _).mono ?_; rintro e w' ⟨rfl, rfl⟩)
          go_ret2
          exact ⟨retSI (by rw [hres.out]; rfl) (by rw [hres.out]; rfl), rfl⟩
        · have hgt : start < k := by omega
          clear hend
          by_cases h59 : s[k].toNat = 59
          · have hres := Lib.hid (hres1 hgt h59)
            have f59 : ((s[k].toNat : Int) == 59) = true := by rw [h59]; rfl
            clear hres1 hres2 h59
            go_wp2_with (first | (go_at_call 131; refine (hc _).mono ?_; rintro e w' ⟨rfl, rfl⟩) | (go_at_call 132; refine (tnumber_any _ _).mono ?_; rintro e w' ⟨rfl, rfl⟩))
            go_ret2
            exact ⟨retSI (by rw [hres.out]) (by rw [hres.out]; go_num), rfl⟩
          · have hres := Lib.hid (hres2 hgt h59)
            have f59 : ((s[k].toNat : Int) == 59) = false := by
              rw [beq_eq_false_iff_ne]; omega
            clear hres1 hres2 h59
            go_wp2_with (first | (go_at_call 131; refine (hc _).mono ?_; rintro e w' ⟨rfl, rfl⟩) | (go_at_call 132; refine (tnumber_any _ _).mono ?_; rintro e w' ⟨rfl, rfl⟩))
            go_ret2
            exact ⟨retSI (by rw [hres.out]) (by rw [hres.out]), rfl⟩
    · have hend := hD.stop (fun h => absurd h hlt)
      have hks : k = s.size := by omega
      clear hD
      by_cases he : k = start
      · have hres := Lib.hid (DSt.none (he ▸ hend))
        subst he
        clear hend hks
        go_wp2_with fail
        go_ret2
        exact ⟨retSI (by rw [hres.out]; rfl) (by rw [hres.out]; rfl), rfl⟩
      · have hgt : start < k := by omega
        have hres := Lib.hid (DSt.bare hend hgt (fun h => absurd h hlt))
        clear hend hks
        go_wp2_with (go_at_call 132; refine (tnumber_any _ _).mono ?_; rintro e w' ⟨rfl, rfl⟩)
        go_ret2
        exact ⟨retSI (by rw [hres.out]) (by rw [hres.out]), rfl⟩

set_option maxRecDepth 100000 in
set_option maxHeartbeats 1000000 in
theorem tbyNumber_16 (s : ByteArray) (start : Nat) (w : World) (hst : start ≤ s.size) (hs : s.size ≤ 20000) :
    Calls Tryz.prog 118 #[.string s, .int .i64 start, .int .i64 16] w fun e w' => e = .returned (.tuple #[.string (tstr (Ent.byNum 16 start s.data.toList).1), .int .i64 (Ent.byNum 16 start s.data.toList).2]) ∧ w = w' := by
  go_enter Tryz.func118, Tryz.ntmps118
  go_wp2_with fail
  go_loop [8, 9] (fun a b => ∃ v k : Nat, start ≤ k ∧ k ≤ s.size ∧ v ≤ 1114112 ∧ a = .int .i64 v ∧ b = .int .i64 k ∧ DSt 16 start s.data.toList v k) (fun _ b => s.size - (intOf b).toNat)
  case atStart => exact ⟨0, start, Nat.le_refl _, hst, by omega, rfl, rfl, DSt.start _ _ _⟩
  case round =>
    obtain ⟨v, k, hk1, hk2, hv, rfl, rfl, hD⟩ := hrel
    by_cases hlt : k < s.size
    · by_cases hd : Ent.dig s[k] < 16
      · have hst := hD.step hlt hk1 hd
        have HS := Lib.hid hst
        clear hst hD
        obtain ⟨d, hdd⟩ : ∃ d, Ent.dig s[k] = d := ⟨_, rfl⟩
        have hc : ∀ w : World, Calls Tryz.prog 131 #[.int .u8 s[k].toNat] w fun e w' => e = .returned (.int .i64 (d : Nat)) ∧ w = w' := fun w => by rw [← hdd]; exact tdigit_any s[k] w
        rw [hdd] at hd HS
        clear hdd
        go_wp2_with (go_at_call 131; refine (hc _).mono ?_; rintro e w' ⟨rfl, rfl⟩)
        go_round
        case rel => exact ⟨min (v * 16 + d) 1114112, k + 1, by omega, by omega, by omega, by go_num, by go_num, HS.out⟩
        case measure => simp [intOf]; omega
      · have hend := hD.stop (fun _ => hd)
        obtain ⟨d, hdd⟩ : ∃ d, Ent.dig s[k] = d := ⟨_, rfl⟩
        have hc : ∀ w : World, Calls Tryz.prog 131 #[.int .u8 s[k].toNat] w fun e w' => e = .returned (.int .i64 (d : Nat)) ∧ w = w' := fun w => by rw [← hdd]; exact tdigit_any s[k] w
        rw [hdd] at hd
        clear hdd hD
        have hres1 := fun (h : start < k) (h59 : s[k].toNat = 59) => DSt.semi hend h hlt h59
        have hres2 := fun (h : start < k) (h59 : s[k].toNat ≠ 59) => DSt.bare hend h (fun _ => h59)
        by_cases he : k = start
        · subst he
          have hres := Lib.hid (DSt.none hend)
          clear hend hres1 hres2
          go_wp2_with (go_at_call 131; refine (hc _).mono ?_; rintro e w' ⟨rfl, rfl⟩)
          go_ret2
          exact ⟨retSI (by rw [hres.out]; rfl) (by rw [hres.out]; rfl), rfl⟩
        · have hgt : start < k := by omega
          clear hend
          by_cases h59 : s[k].toNat = 59
          · have hres := Lib.hid (hres1 hgt h59)
            have f59 : ((s[k].toNat : Int) == 59) = true := by rw [h59]; rfl
            clear hres1 hres2 h59
            go_wp2_with (first | (go_at_call 131; refine (hc _).mono ?_; rintro e w' ⟨rfl, rfl⟩) | (go_at_call 132; refine (tnumber_any _ _).mono ?_; rintro e w' ⟨rfl, rfl⟩))
            go_ret2
            exact ⟨retSI (by rw [hres.out]) (by rw [hres.out]; go_num), rfl⟩
          · have hres := Lib.hid (hres2 hgt h59)
            have f59 : ((s[k].toNat : Int) == 59) = false := by
              rw [beq_eq_false_iff_ne]; omega
            clear hres1 hres2 h59
            go_wp2_with (first | (go_at_call 131; refine (hc _).mono ?_; rintro e w' ⟨rfl, rfl⟩) | (go_at_call 132; refine (tnumber_any _ _).mono ?_; rintro e w' ⟨rfl, rfl⟩))
            go_ret2
            exact ⟨retSI (by rw [hres.out]) (by rw [hres.out]), rfl⟩
    · have hend := hD.stop (fun h => absurd h hlt)
      have hks : k = s.size := by omega
      clear hD
      by_cases he : k = start
      · have hres := Lib.hid (DSt.none (he ▸ hend))
        subst he
        clear hend hks
        go_wp2_with fail
        go_ret2
        exact ⟨retSI (by rw [hres.out]; rfl) (by rw [hres.out]; rfl), rfl⟩
      · have hgt : start < k := by omega
        have hres := Lib.hid (DSt.bare hend hgt (fun h => absurd h hlt))
        clear hend hks
        go_wp2_with (go_at_call 132; refine (tnumber_any _ _).mono ?_; rintro e w' ⟨rfl, rfl⟩)
        go_ret2
        exact ⟨retSI (by rw [hres.out]) (by rw [hres.out]), rfl⟩

end Go.Proofs.YtckmlbcpldpkpaaGreatDoor

/- A reference by a name: the program's byName. -/
namespace Go.Proofs.YtckmlbcpldpkpaaGreatDoor
open Go Go.RowKit

/-- The letters up to index k have been seen. -/
def LSt (l : List UInt8) (k : Nat) : Prop := (l.drop 1).takeWhile Ent.isL = (l.drop 1).take (k - 1) ++ (l.drop k).takeWhile Ent.isL ∧ (l.drop 1).dropWhile Ent.isL = (l.drop k).dropWhile Ent.isL
theorem LSt.start (l : List UInt8) : LSt l 1 := ⟨by simp, rfl⟩
theorem LSt.step {s : ByteArray} {k : Nat} (h : LSt s.data.toList k) (h1 : 1 ≤ k) (hk : k < s.size) (hl : Ent.isL s[k] = true) : LSt s.data.toList (k + 1) := by
  obtain ⟨h2, h3⟩ := h
  have hd := drop_get s k hk
  refine ⟨?_, ?_⟩
  · rw [h2, hd, List.takeWhile_cons, if_pos hl]
    have e : (s.data.toList.drop 1).take (k + 1 - 1) = (s.data.toList.drop 1).take (k - 1) ++ [s[k]] := by
      have hlen : k - 1 < (s.data.toList.drop 1).length := by rw [List.length_drop]; show k - 1 < s.size - 1; omega
      rw [show k + 1 - 1 = (k - 1) + 1 from by omega, List.take_succ_eq_append_getElem hlen, List.getElem_drop]
      congr 2
      have : 1 + (k - 1) = k := by omega
      simp only [this]; rfl
    rw [e, List.append_assoc]; rfl
  · rw [h3, hd, List.dropWhile_cons, if_pos hl]
theorem LSt.stop {s : ByteArray} {k : Nat} (h : LSt s.data.toList k) (h1 : 1 ≤ k) (hk : ∀ h : k < s.size, Ent.isL s[k] = false) : Ent.byName s.data.toList = Ent.byN (s.extract 1 k).data.toList (s.data.toList.drop k) := by
  have e1 : (s.extract 1 k).data.toList = (s.data.toList.drop 1).take (k - 1) := by
    have := textract s 1 (k - 1)
    rwa [show 1 + (k - 1) = k from by omega] at this
  have e2 : (s.data.toList.drop k).takeWhile Ent.isL = [] ∧ (s.data.toList.drop k).dropWhile Ent.isL = s.data.toList.drop k := by
    by_cases hl : k < s.size
    · rw [drop_get s k hl, List.takeWhile_cons, List.dropWhile_cons, if_neg (by rw [hk hl]; simp), if_neg (by rw [hk hl]; simp)]
      exact ⟨rfl, rfl⟩
    · rw [List.drop_of_length_le (by show s.size ≤ k; omega)]; exact ⟨rfl, rfl⟩
  unfold Ent.byName
  rw [← List.drop_one, h.1, h.2, e2.1, e2.2, List.append_nil, e1]
theorem byN_none {nm r : List UInt8} (h : Ent.look nm = none) : Ent.byN nm r = ([], 0) := by unfold Ent.byN; rw [h]
theorem byN_semi {nm r c : List UInt8} (h : Ent.look nm = some c) (h2 : r.head? = some 59) : Ent.byN nm r = (c, nm.length + 2) := by unfold Ent.byN; rw [h]; simp only; rw [if_pos h2]
theorem byN_bare {nm r c : List UInt8} (h : Ent.look nm = some c) (h2 : r.head? ≠ some 59) (h3 : Ent.bare nm = true) (h4 : Ent.endOk r = true) : Ent.byN nm r = (c, nm.length + 1) := by unfold Ent.byN; rw [h]; simp only; rw [if_neg h2, h3, h4]; rfl
theorem byN_no {nm r c : List UInt8} (h : Ent.look nm = some c) (h2 : r.head? ≠ some 59) (h3 : (Ent.bare nm && Ent.endOk r) = false) : Ent.byN nm r = ([], 0) := by unfold Ent.byN; rw [h]; simp only; rw [if_neg h2, h3]; rfl
theorem ext_len (s : ByteArray) (k : Nat) (h1 : 1 ≤ k) (hk : k ≤ s.size) : (s.extract 1 k).data.toList.length = k - 1 := by
  have := textract s 1 (k - 1)
  rw [show 1 + (k - 1) = k from by omega] at this
  rw [this, List.length_take, List.length_drop]
  show min (k - 1) (s.size - 1) = k - 1
  omega

set_option maxRecDepth 100000 in
set_option maxHeartbeats 2000000 in
theorem tbyName_any (s : ByteArray) (w : World) (hT : Tab w) (h1 : 1 ≤ s.size) (hs : s.size ≤ 20000) :
    Calls Tryz.prog 119 #[.string s] w fun e w' => e = .returned (.tuple #[.string (tstr (Ent.byName s.data.toList).1), .int .i64 (Ent.byName s.data.toList).2]) ∧ w = w' := by
  go_enter Tryz.func119, Tryz.ntmps119
  go_wp2_with fail
  go_loop [4] (fun a => ∃ k : Nat, 1 ≤ k ∧ k ≤ s.size ∧ a = .int .i64 k ∧ LSt s.data.toList k) (fun a => s.size - (intOf a).toNat)
  case atStart => exact ⟨1, by omega, h1, rfl, LSt.start _⟩
  case round =>
    obtain ⟨k, hk1, hk2, rfl, hL⟩ := hrel
    by_cases hl : ∃ h : k < s.size, Ent.isL s[k] = true
    · obtain ⟨hlt, hl⟩ := hl
      have HS := Lib.hid (hL.step hk1 hlt hl)
      have hc : ∀ w : World, Calls Tryz.prog 133 #[.int .u8 s[k].toNat] w fun e w' => e = .returned (.bool true) ∧ w = w' := fun w => by rw [← hl]; exact tisLetter_any s[k] w
      clear hL hl
      go_wp2_with (go_at_call 133; refine (hc _).mono ?_; rintro e w' ⟨rfl, rfl⟩)
      go_round
      case rel => exact ⟨k + 1, by omega, by omega, by go_num, HS.out⟩
      case measure => simp [intOf]; omega
    · have hno : ∀ h : k < s.size, Ent.isL s[k] = false := fun h => by
        cases e : Ent.isL s[k] with
        | false => rfl
        | true => exact absurd ⟨h, e⟩ hl
      have hst := hL.stop hk1 hno
      have hlen := ext_len s k hk1 hk2
      have hlk : ∀ w : World, Tab w → _ := fun w h => tlookup_any (s.extract 1 k) w h
      have hbr := tisBare_any (s.extract 1 k)
      clear hl hL
      have hsl : ∀ W : World, (Instr.slice 9 (.string s) (some (.int .i64 1)) (some (.int .i64 k)) none).run Tryz.prog W = .ok (.string (s.extract 1 k)) W := fun W => by
        rw [run_slice_string W _ s _ _ _ _ Tryz.underlying9 (by omega) (by omega) (by omega)]; rfl
      obtain ⟨E, hE⟩ : ∃ E, s.extract 1 k = E := ⟨_, rfl⟩
      rw [hE] at hsl hst hlen hlk hbr
      clear hE
      obtain ⟨nm, hnm⟩ : ∃ nm, E.data.toList = nm := ⟨_, rfl⟩
      rw [hnm] at hst hlen hlk hbr
      clear hnm
      cases hlook : Ent.look nm with
      | none =>
        rw [hlook] at hlk
        have HR := Lib.hid (hst.trans (byN_none hlook))
        have hq := hlk w hT
        clear hst hlen hlook hlk hbr
        by_cases hlt : k < s.size
        · have hc : ∀ w : World, Calls Tryz.prog 133 #[.int .u8 s[k].toNat] w fun e w' => e = .returned (.bool false) ∧ w = w' := fun w => by rw [← hno hlt]; exact tisLetter_any s[k] w
          clear hno
          go_wp2_with (first | (go_at_call 133; refine (hc _).mono ?_; rintro e w' ⟨rfl, rfl⟩) | (go_at_call 134; refine hq.mono ?_; rintro e w' ⟨rfl, rfl⟩))
          go_ret2
          exact ⟨retSI (by rw [HR.out]; rfl) (by rw [HR.out]; rfl), rfl⟩
        · clear hno
          go_wp2_with (go_at_call 134; refine hq.mono ?_; rintro e w' ⟨rfl, rfl⟩)
          go_ret2
          exact ⟨retSI (by rw [HR.out]; rfl) (by rw [HR.out]; rfl), rfl⟩
      | some c =>
        rw [hlook] at hlk
        have hq := hlk w hT
        clear hlk
        obtain ⟨C, hC⟩ : ∃ C, tstr c = C := ⟨_, rfl⟩
        simp only [Option.getD_some, Option.isSome_some] at hq
        rw [hC] at hq
        by_cases hlt : k < s.size
        · have hc : ∀ w : World, Calls Tryz.prog 133 #[.int .u8 s[k].toNat] w fun e w' => e = .returned (.bool false) ∧ w = w' := fun w => by rw [← hno hlt]; exact tisLetter_any s[k] w
          have hd := drop_get s k hlt
          have hhead : (s.data.toList.drop k).head? = some s[k] := by rw [hd]; rfl
          by_cases h59 : s[k].toNat = 59
          · have hres := hst.trans (byN_semi hlook (by rw [hhead, (u8_is s[k] 59 (by decide)).2 h59]; rfl))
            rw [hlen] at hres
            have HR := Lib.hid hres
            have HC := Lib.hid hC
            have f59 : ((s[k].toNat : Int) == 59) = true := by rw [h59]; rfl
            clear hst hlen hlook hbr hno hd hhead h59 hres hC
            go_wp2_with (first | (go_at_call 133; refine (hc _).mono ?_; rintro e w' ⟨rfl, rfl⟩) | (go_at_call 134; refine hq.mono ?_; rintro e w' ⟨rfl, rfl⟩))
            go_ret2
            exact ⟨retSI (by rw [HR.out, ← HC.out]) (by rw [HR.out]; simp only; omega), rfl⟩
          · have hne : (s.data.toList.drop k).head? ≠ some 59 := by
              rw [hhead]; intro e; exact h59 (by rw [Option.some.inj e]; rfl)
            have f59 : ((s[k].toNat : Int) == 59) = false := by rw [beq_eq_false_iff_ne]; omega
            have hks : ((k : Int) == (s.size : Int)) = false := by rw [beq_eq_false_iff_ne]; omega
            have hend : Ent.endOk (s.data.toList.drop k) = (!(s[k].toNat == 61) && decide (9 < Ent.dig s[k])) := by
              rw [hd]; exact Ent.word_dig (hno hlt)
            cases hb : Ent.bare nm with
            | false =>
              rw [hb] at hbr
              have HR := Lib.hid (hst.trans (byN_no hlook hne (by rw [hb]; rfl)))
              clear hst hlen hlook hno hd hhead h59 hC hne hend hb
              go_wp2_with (first | (go_at_call 133; refine (hc _).mono ?_; rintro e w' ⟨rfl, rfl⟩) | (go_at_call 134; refine hq.mono ?_; rintro e w' ⟨rfl, rfl⟩) | (go_at_call 135; refine (hbr _).mono ?_; rintro e w' ⟨rfl, rfl⟩))
              go_ret2
              exact ⟨retSI (by rw [HR.out]; rfl) (by rw [HR.out]; rfl), rfl⟩
            | true =>
              rw [hb] at hbr
              by_cases h61 : s[k].toNat = 61
              · have f61 : ((s[k].toNat : Int) != 61) = false := by rw [h61]; rfl
                have HR := Lib.hid (hst.trans (byN_no hlook hne (by rw [hb, hend, h61]; rfl)))
                clear hst hlen hlook hno hd hhead h59 hC hne hend hb h61
                go_wp2_with (first | (go_at_call 133; refine (hc _).mono ?_; rintro e w' ⟨rfl, rfl⟩) | (go_at_call 134; refine hq.mono ?_; rintro e w' ⟨rfl, rfl⟩) | (go_at_call 135; refine (hbr _).mono ?_; rintro e w' ⟨rfl, rfl⟩))
                go_ret2
                exact ⟨retSI (by rw [HR.out]; rfl) (by rw [HR.out]; rfl), rfl⟩
              · have f61 : ((s[k].toNat : Int) != 61) = true := by rw [bne_iff_ne]; omega
                have g61 : (s[k].toNat == 61) = false := by rw [beq_eq_false_iff_ne]; exact h61
                have hdg : ∀ w : World, Calls Tryz.prog 131 #[.int .u8 s[k].toNat] w fun e w' => e = .returned (.int .i64 (Ent.dig s[k] : Nat)) ∧ w = w' := tdigit_any s[k]
                obtain ⟨d, hdd⟩ : ∃ d, Ent.dig s[k] = d := ⟨_, rfl⟩
                rw [hdd] at hdg hend
                by_cases h9 : 9 < d
                · have hres := hst.trans (byN_bare hlook hne hb (by rw [hend, g61, decide_eq_true h9]; rfl))
                  rw [hlen] at hres
                  have HR := Lib.hid hres
                  have HC := Lib.hid hC
                  clear hst hlen hlook hno hd hhead h59 hC hne hend hb h61 g61 hdd hres
                  go_wp2_with (first | (go_at_call 133; refine (hc _).mono ?_; rintro e w' ⟨rfl, rfl⟩) | (go_at_call 134; refine hq.mono ?_; rintro e w' ⟨rfl, rfl⟩) | (go_at_call 135; refine (hbr _).mono ?_; rintro e w' ⟨rfl, rfl⟩) | (go_at_call 131; refine (hdg _).mono ?_; rintro e w' ⟨rfl, rfl⟩))
                  go_ret2
                  exact ⟨retSI (by rw [HR.out, ← HC.out]) (by rw [HR.out]; simp only; omega), rfl⟩
                · have HR := Lib.hid (hst.trans (byN_no hlook hne (by rw [hb, hend, g61, decide_eq_false h9]; rfl)))
                  have i9 : (d : Int) ≤ 9 := by omega
                  clear hst hlen hlook hno hd hhead h59 hC hne hend hb h61 g61 hdd h9
                  go_wp2_with (first | (go_at_call 133; refine (hc _).mono ?_; rintro e w' ⟨rfl, rfl⟩) | (go_at_call 134; refine hq.mono ?_; rintro e w' ⟨rfl, rfl⟩) | (go_at_call 135; refine (hbr _).mono ?_; rintro e w' ⟨rfl, rfl⟩) | (go_at_call 131; refine (hdg _).mono ?_; rintro e w' ⟨rfl, rfl⟩))
                  go_ret2
                  exact ⟨retSI (by rw [HR.out]; rfl) (by rw [HR.out]; rfl), rfl⟩
        · have hnil : s.data.toList.drop k = [] := List.drop_of_length_le (by show s.size ≤ k; omega)
          rw [hnil] at hst
          cases hb : Ent.bare nm with
          | false =>
            rw [hb] at hbr
            have HR := Lib.hid (hst.trans (byN_no hlook (by simp) (by rw [hb]; rfl)))
            clear hst hlen hlook hno hC hb hnil
            go_wp2_with (first | (go_at_call 134; refine hq.mono ?_; rintro e w' ⟨rfl, rfl⟩) | (go_at_call 135; refine (hbr _).mono ?_; rintro e w' ⟨rfl, rfl⟩))
            go_ret2
            exact ⟨retSI (by rw [HR.out]; rfl) (by rw [HR.out]; rfl), rfl⟩
          | true =>
            rw [hb] at hbr
            have hres := hst.trans (byN_bare hlook (by simp) hb rfl)
            rw [hlen] at hres
            have HR := Lib.hid hres
            have HC := Lib.hid hC
            have hks : ((k : Int) == (s.size : Int)) = true := by rw [beq_iff_eq]; omega
            clear hst hlen hlook hno hC hb hnil hres
            go_wp2_with (first | (go_at_call 134; refine hq.mono ?_; rintro e w' ⟨rfl, rfl⟩) | (go_at_call 135; refine (hbr _).mono ?_; rintro e w' ⟨rfl, rfl⟩))
            go_ret2
            exact ⟨retSI (by rw [HR.out, ← HC.out]) (by rw [HR.out]; simp only; omega), rfl⟩

end Go.Proofs.YtckmlbcpldpkpaaGreatDoor

/- What the library says of HasPrefix, IndexByte and a Builder's WriteString and String, over this program. -/
namespace Go.Proofs
open Go.Shelf

def Tryz.lays99_ren : Go.Shelf.Ren := ⟨fun | 99 => 83 | 206 => 75 | n => n, fun | 3 => 3 | 4 => 4 | 9 => 9 | n => n, fun | n => n⟩
theorem Tryz.lays99 : Go.Proofs.Lays.n99 Tryz.prog Tryz.lays99_ren := {
  mixed := by kernel_rfl
  f99 := Tryz.func83.trans (congrArg some (by kernel_rfl))
  f206 := Tryz.func75.trans (congrArg some (by kernel_rfl))
  t3 := Tryz.underlying3
  a3 := Tryz.isAgg3
  z3 := Tryz.sizeOf3
  v3 := Tryz.zeroValue3
  t4 := Tryz.underlying4
  a4 := Tryz.isAgg4
  z4 := Tryz.sizeOf4
  v4 := Tryz.zeroValue4
  t9 := Tryz.underlying9
  a9 := Tryz.isAgg9
  z9 := Tryz.sizeOf9
  v9 := Tryz.zeroValue9 }
def Tryz.lays137_ren : Go.Shelf.Ren := ⟨fun | 137 => 100 | 217 => 117 | 266 => 130 | n => n, fun | 3 => 3 | 5 => 5 | 9 => 9 | n => n, fun | n => n⟩
theorem Tryz.lays137 : Go.Proofs.Lays.n137 Tryz.prog Tryz.lays137_ren := {
  mixed := by kernel_rfl
  f137 := Tryz.func100.trans (congrArg some (by kernel_rfl))
  f217 := Tryz.func117.trans (congrArg some (by kernel_rfl))
  f266 := Tryz.func130.trans (congrArg some (by kernel_rfl))
  t3 := Tryz.underlying3
  a3 := Tryz.isAgg3
  z3 := Tryz.sizeOf3
  v3 := Tryz.zeroValue3
  t5 := Tryz.underlying5
  a5 := Tryz.isAgg5
  z5 := Tryz.sizeOf5
  v5 := Tryz.zeroValue5
  t9 := Tryz.underlying9
  a9 := Tryz.isAgg9
  z9 := Tryz.sizeOf9
  v9 := Tryz.zeroValue9 }
def Tryz.lays166_ren : Go.Shelf.Ren := ⟨fun | 166 => 94 | 240 => 78 | 276 => 97 | n => n, fun | 0 => 0 | 3 => 3 | 4 => 4 | 5 => 5 | 9 => 9 | 20 => 20 | 37 => 58 | 70 => 85 | 72 => 87 | 75 => 92 | 80 => 63 | 164 => 113 | n => n, fun | n => n⟩
theorem Tryz.lays166 : Go.Proofs.Lays.n166 Tryz.prog Tryz.lays166_ren := {
  mixed := by kernel_rfl
  f166 := Tryz.func94.trans (congrArg some (by kernel_rfl))
  f240 := Tryz.func78.trans (congrArg some (by kernel_rfl))
  f276 := Tryz.func97.trans (congrArg some (by kernel_rfl))
  t0 := Tryz.underlying0
  a0 := Tryz.isAgg0
  z0 := Tryz.sizeOf0
  v0 := Tryz.zeroValue0
  t3 := Tryz.underlying3
  a3 := Tryz.isAgg3
  z3 := Tryz.sizeOf3
  v3 := Tryz.zeroValue3
  t4 := Tryz.underlying4
  a4 := Tryz.isAgg4
  z4 := Tryz.sizeOf4
  v4 := Tryz.zeroValue4
  t9 := Tryz.underlying9
  a9 := Tryz.isAgg9
  z9 := Tryz.sizeOf9
  v9 := Tryz.zeroValue9
  t20 := Tryz.underlying20
  a20 := Tryz.isAgg20
  z20 := Tryz.sizeOf20
  v20 := Tryz.zeroValue20
  t37 := Tryz.underlying58
  a37 := Tryz.isAgg58
  z37 := Tryz.sizeOf58
  v37 := Tryz.zeroValue58
  t70 := Tryz.underlying85
  a70 := Tryz.isAgg85
  z70 := Tryz.sizeOf85
  v70 := Tryz.zeroValue85
  t72 := Tryz.underlying87
  a72 := Tryz.isAgg87
  z72 := Tryz.sizeOf87
  v72 := Tryz.zeroValue87
  t75 := Tryz.underlying92
  a75 := Tryz.isAgg92
  z75 := Tryz.sizeOf92
  v75 := Tryz.zeroValue92
  t164 := Tryz.underlying113
  a164 := Tryz.isAgg113
  z164 := Tryz.sizeOf113
  v164 := Tryz.zeroValue113 }
theorem Tryz.Builder_Extra_166 : Builder.Extra Tryz.prog Tryz.lays166_ren := {
  sizeBuilder := by kernel_rfl
  liesBuilder := by kernel_rfl
  t5 := Tryz.underlying5
  a5 := Tryz.isAgg5
  z5 := Tryz.sizeOf5
  v5 := Tryz.zeroValue5
  infoByte := by kernel_rfl
  cellsByte := by kernel_rfl
  sizeByte := by kernel_rfl
  neB5 := by decide }
theorem Tryz.hasPrefix (s p : ByteArray) (w : World) :
    Calls Tryz.prog 83 #[.string s, .string p] w fun e w' => e = .returned (.bool (Lib.hasPrefix s.data.toList p.data.toList)) ∧ w' = w := Any.strings_HasPrefix Tryz.lays99 s p w
open Go.RowKit in
theorem Tryz.indexByte (s : ByteArray) (c : Int) (w : World) :
    Calls Tryz.prog 100 #[.string s, .int .u8 c] w fun e w' => e = .returned (.int .i64 (Lib.indexByte s.data.toList c.toNat.toUInt8)) ∧ w' = w := Any.strings_IndexByte Tryz.lays137 s c w
open Go.RowKit in
theorem Tryz.writeString (B b : Nat) (bs : List Value) (s : ByteArray) (w : World) (h : Lib.IsBuilderF 87 5 B b bs w) (hlen : bs.length + s.size ≤ 140737488355328) (hBw : B ≤ w.heap.size) :
    Calls Tryz.prog 94 #[.pointer (some ⟨b, 0, none⟩), .string s] w fun e w' => e = .returned (.tuple #[.int .i64 s.size, .nilIface]) ∧ (Lib.BuilderAtF 87 5 B b (.pointer (some ⟨b, 0, none⟩)) (bs ++ Lib.strCells s) w' ∧ Below B w w' ∧ Lib.OthersKept 5 (some b) w w') := Any.Builder_WriteString_k Tryz.lays166 Tryz.Builder_Extra_166 B b bs s w h hlen hBw
end Go.Proofs

/- The program's Next returns what the plain text says. -/
namespace Go.Proofs.YtckmlbcpldpkpaaGreatDoor
open Go Go.RowKit

/-- What the library's HasPrefix says at a literal. -/
def PF (s : ByteArray) (p : List UInt8) (b : Bool) : Prop := ∀ w : World, Calls Tryz.prog 83 #[.string s, .string ⟨p.toArray⟩] w fun e w' => e = .returned (.bool b) ∧ w = w'
theorem pf_any (s : ByteArray) (p : List UInt8) : PF s p (p.isPrefixOf s.data.toList) := fun w => (Tryz.hasPrefix s ⟨p.toArray⟩ w).mono fun _ _ ⟨h1, h2⟩ => ⟨h1, h2.symm⟩
theorem pf_len {p l : List UInt8} (h : p.isPrefixOf l = true) : p.length ≤ l.length := (List.isPrefixOf_iff_prefix.1 h).length_le

set_option maxRecDepth 100000 in
set_option maxHeartbeats 1000000 in
theorem tnext_any (s : ByteArray) (w : World) (hT : Tab w) (hs : s.size ≤ 20000) :
    Calls Tryz.prog 102 #[.string s] w fun e w' => e = .returned (.tuple #[.string (tstr (Ent.next s.data.toList).1), .int .i64 (Ent.next s.data.toList).2]) ∧ w = w' := by
  have q1 := pf_any s [38, 35, 120]
  have q2 := pf_any s [38, 35, 88]
  have q3 := pf_any s [38, 35]
  have q4 := pf_any s [38]
  have l1 : [38, 35, 120].isPrefixOf s.data.toList = true → 3 ≤ s.size := fun h => pf_len h
  have l2 : [38, 35, 88].isPrefixOf s.data.toList = true → 3 ≤ s.size := fun h => pf_len h
  have l3 : [38, 35].isPrefixOf s.data.toList = true → 2 ≤ s.size := fun h => pf_len h
  have l4 : [38].isPrefixOf s.data.toList = true → 1 ≤ s.size := fun h => pf_len h
  have hn : Ent.next s.data.toList = if [38, 35, 120].isPrefixOf s.data.toList || [38, 35, 88].isPrefixOf s.data.toList then Ent.byNum 16 3 s.data.toList else if [38, 35].isPrefixOf s.data.toList then Ent.byNum 10 2 s.data.toList else if [38].isPrefixOf s.data.toList then Ent.byName s.data.toList else ([], 0) := rfl
  cases h1 : [38, 35, 120].isPrefixOf s.data.toList with
  | true =>
    rw [h1] at q1
    have hq := tbyNumber_16 s 3 w (l1 h1) hs
    have HN := Lib.hid (show Ent.next s.data.toList = Ent.byNum 16 3 s.data.toList by rw [hn, h1]; rfl)
    clear hn l1 l2 l3 l4 q2 q3 q4 h1
    go_enter Tryz.func102, Tryz.ntmps102
    go_wp2_with fail
    refine (q1 w).mono ?_
    rintro e w' ⟨rfl, rfl⟩
    go_wp2_with fail
    refine hq.mono ?_
    rintro e w' ⟨rfl, rfl⟩
    go_wp2_with fail
    go_ret2
    exact ⟨retSI (by rw [HN.out]) (by rw [HN.out]), rfl⟩
  | false =>
    rw [h1] at q1
    cases h2 : [38, 35, 88].isPrefixOf s.data.toList with
    | true =>
      rw [h2] at q2
      have hq := tbyNumber_16 s 3 w (l2 h2) hs
      have HN := Lib.hid (show Ent.next s.data.toList = Ent.byNum 16 3 s.data.toList by rw [hn, h1, h2]; rfl)
      clear hn l1 l2 l3 l4 q3 q4 h1 h2
      go_enter Tryz.func102, Tryz.ntmps102
      go_wp2_with fail
      refine (q1 w).mono ?_
      rintro e w' ⟨rfl, rfl⟩
      go_wp2_with fail
      refine (q2 w).mono ?_
      rintro e w' ⟨rfl, rfl⟩
      go_wp2_with fail
      refine hq.mono ?_
      rintro e w' ⟨rfl, rfl⟩
      go_wp2_with fail
      go_ret2
      exact ⟨retSI (by rw [HN.out]) (by rw [HN.out]), rfl⟩
    | false =>
      rw [h2] at q2
      cases h3 : [38, 35].isPrefixOf s.data.toList with
      | true =>
        rw [h3] at q3
        have hq := tbyNumber_10 s 2 w (l3 h3) hs
        have HN := Lib.hid (show Ent.next s.data.toList = Ent.byNum 10 2 s.data.toList by rw [hn, h1, h2, h3]; rfl)
        clear hn l1 l2 l3 l4 q4 h1 h2 h3
        go_enter Tryz.func102, Tryz.ntmps102
        go_wp2_with fail
        refine (q1 w).mono ?_
        rintro e w' ⟨rfl, rfl⟩
        go_wp2_with fail
        refine (q2 w).mono ?_
        rintro e w' ⟨rfl, rfl⟩
        go_wp2_with fail
        refine (q3 w).mono ?_
        rintro e w' ⟨rfl, rfl⟩
        go_wp2_with fail
        refine hq.mono ?_
        rintro e w' ⟨rfl, rfl⟩
        go_wp2_with fail
        go_ret2
        exact ⟨retSI (by rw [HN.out]) (by rw [HN.out]), rfl⟩
      | false =>
        rw [h3] at q3
        cases h4 : [38].isPrefixOf s.data.toList with
        | true =>
          rw [h4] at q4
          have hq := tbyName_any s w hT (l4 h4) hs
          have HN := Lib.hid (show Ent.next s.data.toList = Ent.byName s.data.toList by rw [hn, h1, h2, h3, h4]; rfl)
          clear hn l1 l2 l3 l4 h1 h2 h3 h4
          go_enter Tryz.func102, Tryz.ntmps102
          go_wp2_with fail
          refine (q1 w).mono ?_
          rintro e w' ⟨rfl, rfl⟩
          go_wp2_with fail
          refine (q2 w).mono ?_
          rintro e w' ⟨rfl, rfl⟩
          go_wp2_with fail
          refine (q3 w).mono ?_
          rintro e w' ⟨rfl, rfl⟩
          go_wp2_with fail
          refine (q4 w).mono ?_
          rintro e w' ⟨rfl, rfl⟩
          go_wp2_with fail
          refine hq.mono ?_
          rintro e w' ⟨rfl, rfl⟩
          go_wp2_with fail
          go_ret2
          exact ⟨retSI (by rw [HN.out]) (by rw [HN.out]), rfl⟩
        | false =>
          rw [h4] at q4
          have HN := Lib.hid (show Ent.next s.data.toList = ([], 0) by rw [hn, h1, h2, h3, h4]; rfl)
          clear hn l1 l2 l3 l4 h1 h2 h3 h4
          go_enter Tryz.func102, Tryz.ntmps102
          go_wp2_with fail
          refine (q1 w).mono ?_
          rintro e w' ⟨rfl, rfl⟩
          go_wp2_with fail
          refine (q2 w).mono ?_
          rintro e w' ⟨rfl, rfl⟩
          go_wp2_with fail
          refine (q3 w).mono ?_
          rintro e w' ⟨rfl, rfl⟩
          go_wp2_with fail
          refine (q4 w).mono ?_
          rintro e w' ⟨rfl, rfl⟩
          go_wp2_with fail
          go_ret2
          exact ⟨retSI (by rw [HN.out]; rfl) (by rw [HN.out]; rfl), rfl⟩

end Go.Proofs.YtckmlbcpldpkpaaGreatDoor

/- The program's Decode returns what the plain text says. -/
namespace Go.Proofs.YtckmlbcpldpkpaaGreatDoor
open Go Go.RowKit Go.Shelf

theorem DecSt.last {s0 s : ByteArray} {out : List UInt8} (h : DecSt s0 s out) (hn : Lib.indexByte s.data.toList 38 = -1) : Ent.decode s0.data.toList = out ++ s.data.toList := by
  rw [h.1, Ent.decode_same]
  intro c hc e
  obtain ⟨i, hi, rfl⟩ := List.getElem_of_mem hc
  exact Lib.indexByte_none hn i (by rw [List.getElem?_eq_getElem hi, e])
theorem idx_parts {l : List UInt8} {i : Nat} (hi : Lib.indexByte l 38 = i) : i < l.length ∧ (∃ r, l.drop i = 38 :: r) ∧ ∀ c ∈ l.take i, c ≠ 38 := by
  obtain ⟨h1, h2⟩ := Lib.indexByte_some hi
  obtain ⟨hlt, hv⟩ := List.getElem?_eq_some_iff.1 h1
  refine ⟨hlt, ⟨_, by rw [List.drop_eq_getElem_cons hlt, hv]⟩, ?_⟩
  intro c hc e
  obtain ⟨k, hk, hk2⟩ := List.getElem_of_mem hc
  rw [List.length_take] at hk
  rw [List.getElem_take] at hk2
  exact h2 k (by omega) (by rw [List.getElem?_eq_getElem (by omega), hk2, e])
theorem DecSt.none {s0 s : ByteArray} {out : List UInt8} {i : Nat} (h : DecSt s0 s out) (hi : Lib.indexByte s.data.toList 38 = i) (hn : (Ent.next (s.data.toList.drop i)).2 = 0) : DecSt s0 (s.extract (i + 1) s.size) (out ++ s.data.toList.take i ++ [38]) := by
  obtain ⟨h1, ⟨r, hr⟩, h3⟩ := idx_parts hi
  have hd : s.data.toList.drop (i + 1) = r := by rw [← List.drop_drop, hr]; rfl
  have e : Ent.decode s.data.toList = s.data.toList.take i ++ (38 :: Ent.decode r) := by
    conv => lhs; rw [← List.take_append_drop i s.data.toList]
    rw [Ent.decode_run _ _ h3, hr, Ent.decode_zero (by rw [← hr]; exact hn)]
  refine ⟨?_, ?_⟩
  · rw [h.1, e, drop_extract, hd]; simp
  · have h2 := h.2
    have hs : (s.extract (i + 1) s.size).size = s.size - (i + 1) := by rw [ByteArray.size_extract]; omega
    have h1' : i < s.size := h1
    rw [hs]
    simp only [List.length_append, List.length_take, List.length_cons, List.length_nil]
    have : min i s.data.toList.length ≤ i := Nat.min_le_left _ _
    omega
theorem DecSt.some {s0 s : ByteArray} {out : List UInt8} {i : Nat} (h : DecSt s0 s out) (hi : Lib.indexByte s.data.toList 38 = i) (hn : (Ent.next (s.data.toList.drop i)).2 ≠ 0) : DecSt s0 (s.extract (i + (Ent.next (s.data.toList.drop i)).2) s.size) (out ++ s.data.toList.take i ++ (Ent.next (s.data.toList.drop i)).1) := by
  obtain ⟨h1, _, h3⟩ := idx_parts hi
  obtain ⟨g1, g2⟩ := Ent.next_le (s.data.toList.drop i)
  have e : Ent.decode s.data.toList = s.data.toList.take i ++ ((Ent.next (s.data.toList.drop i)).1 ++ Ent.decode (s.data.toList.drop (i + (Ent.next (s.data.toList.drop i)).2))) := by
    conv => lhs; rw [← List.take_append_drop i s.data.toList]
    rw [Ent.decode_run _ _ h3, Ent.decode_some hn, List.drop_drop]
  refine ⟨?_, ?_⟩
  · rw [h.1, e, drop_extract]; simp
  · have h2 := h.2
    have h1' : i < s.size := h1
    rw [List.length_drop] at g1
    have g1' : (Ent.next (s.data.toList.drop i)).2 ≤ s.size - i := g1
    have hs : (s.extract (i + (Ent.next (s.data.toList.drop i)).2) s.size).size = s.size - (i + (Ent.next (s.data.toList.drop i)).2) := by rw [ByteArray.size_extract]; omega
    rw [hs]
    simp only [List.length_append, List.length_take]
    have : min i s.data.toList.length ≤ i := Nat.min_le_left _ _
    omega
set_option maxRecDepth 100000 in
set_option maxHeartbeats 2000000 in
theorem tdecode_any (s : ByteArray) (w : World) (hT : Tab w) (hs : s.size ≤ 20000) :
    Calls Tryz.prog 82 #[.string s] w fun e w' => e = .returned (.string (tstr (Ent.decode s.data.toList))) ∧ Below w.heap.size w w' := by
  have hb0 := Lib.IsBuilderF.of (Lib.fresh_isBuilder 87 5 w)
  have hB0 : Below w.heap.size w (w.alloc (.cells #[.pointer none, .slice none 0 0] 87)) := (Below.refl _ _).alloc (Nat.le_refl _) _
  go_enter Tryz.func82, Tryz.ntmps82
  go_wp2_with fail
  go_loopw [0] (fun a wr => ∃ (r : ByteArray) (out : List UInt8), a = .string r ∧ r.size ≤ s.size ∧ DecSt s r out ∧ Lib.IsBuilderF 87 5 w.heap.size w.heap.size (Lib.byteCells out) wr ∧ Below w.heap.size w wr) (fun a _ => strSize a)
  case atStart => exact ⟨s, [], rfl, Nat.le_refl _, DecSt.start s, hb0, hB0⟩
  case round =>
    obtain ⟨r, out, rfl, hrs, hD, hbld, hB⟩ := hrel
    have hTr := hT.below hB
    have hBs := hB.size
    have hlen := hD.2
    have hbl : (Lib.byteCells out).length = out.length := by simp [Lib.byteCells]
    have hix := Tryz.indexByte r 38 wr
    rw [show (38 : Int).toNat.toUInt8 = 38 from rfl] at hix
    clear hb0 hB0
    by_cases hneg : Lib.indexByte r.data.toList 38 = -1
    · have hres := hD.last hneg
      rw [hneg] at hix
      have hq := Tryz.writeString w.heap.size w.heap.size (Lib.byteCells out) r wr hbld (by omega) (by omega)
      rw [Lib.strCells_eq, ← Lib.byteCells_append, ← hres] at hq
      have HB := Lib.hid hbl
      clear hneg hD hbld hres hbl
      go_wp2_with fail
      refine hix.mono ?_
      rintro e w1 ⟨rfl, rfl⟩
      go_wp2_with fail
      refine hq.mono ?_
      rintro e w2 ⟨rfl, hb2, hB2, _⟩
      have hq2 := Tryz.builderString w.heap.size w.heap.size _ w2 (.inr hb2) (by have := hB2.size; omega)
      go_wp2_with fail
      refine hq2.mono ?_
      rintro e w3 ⟨rfl, hb3, hB3, _⟩
      go_wp2_with fail
      go_ret
      exact ⟨rfl, (hB.trans hB2).trans hB3⟩
    · obtain ⟨i, hi⟩ : ∃ i : Nat, Lib.indexByte r.data.toList 38 = i := by
        have := Lib.indexByte_ge r.data.toList 38
        exact ⟨(Lib.indexByte r.data.toList 38).toNat, by omega⟩
      rw [hi] at hix
      have hil : i < r.size := (idx_parts hi).1
      obtain ⟨g1, g2⟩ := Ent.next_le (r.data.toList.drop i)
      rw [List.length_drop] at g1
      have g1' : (Ent.next (r.data.toList.drop i)).2 ≤ r.size - i := g1
      have hti : (r.data.toList.take i).length ≤ i := List.length_take_le _ _
      have sl1 : ∀ W : World, (Instr.slice 9 (.string r) (some (.int .i64 i)) none none).run Tryz.prog W = .ok (.string (r.extract i r.size)) W := fun W => by
        rw [run_slice_string_l (ht := Tryz.underlying9) (h0 := by omega) (h1 := by omega)]; rfl
      have sl2 : ∀ W : World, (Instr.slice 9 (.string r) none (some (.int .i64 i)) none).run Tryz.prog W = .ok (.string (r.extract 0 i)) W := fun W => by
        rw [run_slice_string_h (ht := Tryz.underlying9) (h0 := by omega) (h2 := by omega)]; rfl
      have hxs : (r.extract i r.size).size ≤ 20000 := by rw [ByteArray.size_extract]; omega
      have hnx := tnext_any (r.extract i r.size) wr hTr hxs
      have htl := take_extract r i
      have hts : (r.extract 0 i).size ≤ 20000 := by rw [ByteArray.size_extract]; omega
      rw [drop_extract] at hnx
      obtain ⟨X, hX⟩ : ∃ X, r.extract i r.size = X := ⟨_, rfl⟩
      obtain ⟨Y, hY⟩ : ∃ Y, r.extract 0 i = Y := ⟨_, rfl⟩
      rw [hX] at sl1 hnx
      rw [hY] at sl2 htl hts
      have hyl : Y.data.toList.length = Y.size := rfl
      have hq1 := Tryz.writeString w.heap.size w.heap.size (Lib.byteCells out) Y wr hbld (by omega) (by omega)
      rw [Lib.strCells_eq, ← Lib.byteCells_append, htl] at hq1
      have hbl2 : (Lib.byteCells (out ++ r.data.toList.take i)).length ≤ out.length + i := by
        simp only [Lib.byteCells, List.length_map, List.length_append]; omega
      by_cases hn : (Ent.next (r.data.toList.drop i)).2 = 0
      · have hst := Lib.hid (hD.none hi hn)
        have hns := Lib.hid (show (r.extract (i + 1) r.size).size < r.size by rw [ByteArray.size_extract]; omega)
        have sl3 : ∀ W : World, (Instr.slice 9 (.string r) (some (.int .i64 ((i : Int) + 1))) none none).run Tryz.prog W = .ok (.string (r.extract (i + 1) r.size)) W := fun W => by
          rw [run_slice_string_l (ht := Tryz.underlying9) (h0 := by omega) (h1 := by omega), show ((i : Int) + 1).toNat = i + 1 from by omega]
        have hq2 : ∀ w1 : World, Lib.BuilderAtF 87 5 w.heap.size w.heap.size (.pointer (some ⟨w.heap.size, 0, none⟩)) (Lib.byteCells (out ++ r.data.toList.take i)) w1 → w.heap.size ≤ w1.heap.size → _ :=
          fun w1 h h' => Tryz.writeString w.heap.size w.heap.size _ ⟨#[38]⟩ w1 (.inr h) (by show _ + 1 ≤ _; omega) h'
        rw [hn] at hnx
        obtain ⟨Z, hZ⟩ : ∃ Z, r.extract (i + 1) r.size = Z := ⟨_, rfl⟩
        rw [hZ] at hst hns sl3
        obtain ⟨C, hC⟩ : ∃ C, tstr (Ent.next (r.data.toList.drop i)).1 = C := ⟨_, rfl⟩
        rw [hC] at hnx
        clear hD hn g1 g1' g2 htl hbl hyl hneg hi hX hY hZ hC hbld
        go_wp2_with fail
        refine hix.mono ?_
        rintro e w1 ⟨rfl, rfl⟩
        go_wp2_with fail
        refine hnx.mono ?_
        rintro e w1 ⟨rfl, rfl⟩
        go_wp2_with fail
        refine hq1.mono ?_
        rintro e w2 ⟨rfl, hb2, hB2, _⟩
        have hq3 := hq2 w2 hb2 (by have := hB2.size; omega)
        rw [Lib.strCells_eq, ← Lib.byteCells_append] at hq3
        clear hq1 hnx hix
        go_wp2_with fail
        refine hq3.mono ?_
        rintro e w3 ⟨rfl, hb3, hB3, _⟩
        clear hq2 hq3
        have hB4 := (hB.trans hB2).trans hB3
        go_wp2_with fail
        go_roundw
        case rel => exact ⟨Z, _, rfl, by have := hns.out; omega, hst.out, .inr hb3, hB4⟩
        case measure => exact hns.out
      · have hst := Lib.hid (hD.some hi hn)
        obtain ⟨n, hnn⟩ : ∃ n, (Ent.next (r.data.toList.drop i)).2 = n := ⟨_, rfl⟩
        obtain ⟨c, hc⟩ : ∃ c, (Ent.next (r.data.toList.drop i)).1 = c := ⟨_, rfl⟩
        rw [hnn, hc] at hst
        rw [hnn] at hn g1'
        rw [hc] at g2
        rw [hnn, hc] at hnx
        have hns := Lib.hid (show (r.extract (i + n) r.size).size < r.size by rw [ByteArray.size_extract]; omega)
        have sl3 : ∀ W : World, (Instr.slice 9 (.string r) (some (.int .i64 ((i : Int) + n))) none none).run Tryz.prog W = .ok (.string (r.extract (i + n) r.size)) W := fun W => by
          rw [run_slice_string_l (ht := Tryz.underlying9) (h0 := by omega) (h1 := by omega), show ((i : Int) + (n : Int)).toNat = i + n from by omega]
        have hcs : (tstr c).size ≤ 4 := by rw [tstr_size]; exact g2
        have hq2 : ∀ w1 : World, Lib.BuilderAtF 87 5 w.heap.size w.heap.size (.pointer (some ⟨w.heap.size, 0, none⟩)) (Lib.byteCells (out ++ r.data.toList.take i)) w1 → w.heap.size ≤ w1.heap.size → _ :=
          fun w1 h h' => Tryz.writeString w.heap.size w.heap.size _ (tstr c) w1 (.inr h) (by omega) h'
        simp only [Lib.strCells_eq, tstr_data, ← Lib.byteCells_append] at hq2
        obtain ⟨Z, hZ⟩ : ∃ Z, r.extract (i + n) r.size = Z := ⟨_, rfl⟩
        rw [hZ] at hst hns sl3
        obtain ⟨C, hC⟩ : ∃ C, tstr c = C := ⟨_, rfl⟩
        rw [hC] at hnx hq2
        have hn1 : ((n : Int) == 0) = false := by rw [beq_eq_false_iff_ne]; omega
        clear hD hn g1 g2 htl hbl hyl hneg hi hX hY hZ hC hbld hnn hc hcs
        go_wp2_with fail
        refine hix.mono ?_
        rintro e w1 ⟨rfl, rfl⟩
        go_wp2_with fail
        refine hnx.mono ?_
        rintro e w1 ⟨rfl, rfl⟩
        go_wp2_with fail
        refine hq1.mono ?_
        rintro e w2 ⟨rfl, hb2, hB2, _⟩
        have hq3 := hq2 w2 hb2 (by have := hB2.size; omega)
        clear hq1 hnx hix
        go_wp2_with fail
        refine hq3.mono ?_
        rintro e w3 ⟨rfl, hb3, hB3, _⟩
        clear hq2 hq3
        have hB4 := (hB.trans hB2).trans hB3
        go_wp2_with fail
        go_roundw
        case rel => exact ⟨Z, _, rfl, by have := hns.out; omega, hst.out, .inr hb3, hB4⟩
        case measure => exact hns.out

end Go.Proofs.YtckmlbcpldpkpaaGreatDoor

/- What the program's calls read of package variables. -/
namespace Go.Proofs.YtckmlbcpldpkpaaGreatDoor
open Go Go.RowKit

/-- The library's two tables, the table of names, and a number of the library's lie in memory. -/
structure Env (w : World) : Prop where
  lit : Lit w
  tab : Tab w
  max : MaxLen w
theorem Env.below {w w' : World} (h : Env w) (hb : Below w.heap.size w w') : Env w' := ⟨h.lit.below hb, h.tab.below hb, h.max.below hb⟩

end Go.Proofs.YtckmlbcpldpkpaaGreatDoor

/- The program's Lower and Upper return what the plain texts say. -/
namespace Go.Proofs.YtckmlbcpldpkpaaGreatDoor
open Go.RowKit

set_option maxRecDepth 100000 in
set_option maxHeartbeats 400000 in
theorem recase_any (s : ByteArray) (fr tu : Nat) (f : UInt8 → UInt8) (w : World) (hs : s.size ≤ 20000) (hfr : fr ≤ 128) (hto : tu ≤ 128)
    (hf1 : ∀ c : UInt8, fr ≤ c.toNat → c.toNat < fr + 26 → (f c).toNat = c.toNat - fr + tu) (hf2 : ∀ c : UInt8, ¬ (fr ≤ c.toNat ∧ c.toNat < fr + 26) → f c = c) :
    Calls Tryz.prog 104 #[.string s, .int .u8 fr, .int .u8 tu] w fun e w' => e = .returned (.string (tstr (s.data.toList.map f))) ∧ Below w.heap.size w w' := by
  have hcv := Lib.run_convert_string_bytes (P := Tryz.prog) w 9 58 5 s Tryz.underlying9 Tryz.underlying58 Tryz.underlying5
  generalize grownCap w s.size 0 5 = cap at hcv
  have hll : s.data.toList.length = s.size := rfl
  go_enter Tryz.func104, Tryz.ntmps104
  go_wp2_with fail
  go_loopw [14] (fun i wr => ∃ k : Nat, k ≤ s.size ∧ i = .int .i64 k ∧ BRow wr w.heap.size (part f s.data.toList k) ∧ Below w.heap.size w wr) (fun i _ => s.size - (intOf i).toNat)
  case atStart => exact ⟨0, Nat.zero_le _, rfl, by rw [part_zero]; exact BRow.new w s, tbytesWorld_below w _ s⟩
  case round =>
    obtain ⟨k, hk, rfl, hrow, hbel⟩ := hrel
    by_cases hlt : k < s.size
    · have hkl : k < s.data.toList.length := hlt
      obtain ⟨hc, hf⟩ := hrow k (by rw [part_len]; exact hkl)
      rw [part_get _ _ k hkl] at hc
      have hst := part_step f s.data.toList k hkl
      have hsm := part_same f s.data.toList k hkl
      obtain ⟨c, hcc⟩ : ∃ c, s.data.toList[k] = c := ⟨_, rfl⟩
      rw [hcc] at hc hst hsm
      have hc256 := c.toNat_lt
      have hsz := hbel.size
      by_cases hup : fr ≤ c.toNat ∧ c.toNat < fr + 26
      · obtain ⟨h1, h2⟩ := hup
        have hnum := hf1 c h1 h2
        have hset := hrow.set k (f c)
        rw [hst, hnum, show ((c.toNat - fr + tu : Nat) : Int) = (c.toNat : Int) - fr + tu from by omega] at hset
        have HS := Lib.hid hset
        clear hset hst hsm hnum hcc hrow hf1 hf2
        go_wp2_with fail
        go_roundw
        case rel => exact ⟨k + 1, by omega, by go_num, HS.out, hbel.setCell (p := ⟨w.heap.size, k, none⟩) (Nat.le_refl _) _⟩
        case measure => simp [intOf]; omega
      · have hp : part f s.data.toList (k + 1) = part f s.data.toList k := hsm (hf2 c hup)
        rw [← hp] at hrow
        have HR := Lib.hid hrow
        clear hst hsm hcc hp hrow hf1 hf2
        by_cases h65 : fr ≤ c.toNat
        · have h90 : ¬ c.toNat < fr + 26 := fun h => hup ⟨h65, h⟩
          clear hup
          go_wp2_with fail
          go_roundw
          case rel => exact ⟨k + 1, by omega, by go_num, HR.out, hbel⟩
          case measure => simp [intOf]; omega
        · clear hup
          go_wp2_with fail
          go_roundw
          case rel => exact ⟨k + 1, by omega, by go_num, HR.out, hbel⟩
          case measure => simp [intOf]; omega
    · have ek : k = s.size := by omega
      subst ek
      rw [← hll, part_all] at hrow
      have hl2 : (s.data.toList.map f).length = s.size := by rw [List.length_map]; rfl
      have hconv := hrow.conv (cap := cap)
      rw [hl2] at hconv
      go_wp2_with fail
      go_ret
      exact ⟨rfl, hbel⟩

set_option maxHeartbeats 400000 in
theorem tlower_any (s : ByteArray) (w : World) (hs : s.size ≤ 20000) :
    Calls Tryz.prog 85 #[.string s] w fun e w' => e = .returned (.string (tstr (s.data.toList.map Txt.lo))) ∧ Below w.heap.size w w' := by
  have hR := recase_any s 65 97 Txt.lo w hs (by omega) (by omega) (fun c h1 h2 => by rw [Txt.lo_num, if_pos (by omega)]; omega) (fun c h => by unfold Txt.lo; rw [if_neg (by omega)])
  go_enter Tryz.func85, Tryz.ntmps85
  go_wp2_with fail
  refine hR.mono ?_
  rintro e w2 ⟨rfl, hb⟩
  go_wp2_with fail
  go_ret
  exact ⟨rfl, hb⟩

end Go.Proofs.YtckmlbcpldpkpaaGreatDoor

/- The program's Trim returns what the plain texts say. -/
namespace Go.Proofs.YtckmlbcpldpkpaaGreatDoor
open Go.RowKit

theorem str_some {t : ByteArray} (h : 0 < t.size) : t.toList.isEmpty = false ∧ (!t.toList.isEmpty) = true := by
  have : t.data.toList ≠ [] := fun e => by have h2 : t.data.toList.length = t.size := rfl; rw [e] at h2; simp at h2; omega
  have h3 := tstr_some this
  rwa [tstr_of] at h3
theorem str_none {t : ByteArray} (h : ¬ 0 < t.size) : t.toList.isEmpty = true ∧ (!t.toList.isEmpty) = false := by
  have : t.data.toList = [] := List.eq_nil_of_length_eq_zero (by show t.size = 0; omega)
  have h3 := tstr_none
  rw [← this, tstr_of] at h3
  exact h3

set_option maxHeartbeats 400000 in
theorem ctrim_any (s : ByteArray) (w : World) (hs : s.size ≤ 20000) :
    Calls Tryz.prog 86 #[.string s] w fun e w' => e = .returned (.string (tstr (Txt.trim s.data.toList))) ∧ w = w' := by
  go_enter Tryz.func86, Tryz.ntmps86
  go_wp2_with fail
  go_loop [0] (fun v => ∃ t : ByteArray, v = .string t ∧ t.size ≤ 20000 ∧ Txt.trimL t.data.toList = Txt.trimL s.data.toList) (fun v => lenOf v)
  case atStart => exact ⟨s, rfl, hs, rfl⟩
  case round =>
    obtain ⟨t, rfl, ht, hL⟩ := hrel
    have hway : (∃ h : 0 < t.size, Txt.sp t[0] = true) ∨ (∃ h : 0 < t.size, Txt.sp t[0] = false ∧ t.data.toList = Txt.trimL s.data.toList) ∨ (¬ 0 < t.size ∧ t.data.toList = Txt.trimL s.data.toList) := by
      by_cases hz : 0 < t.size
      · have hd := drop_at t 0 hz
        rw [List.drop_zero] at hd
        cases hsp : Txt.sp t[0] with
        | true => exact .inl ⟨hz, hsp⟩
        | false => exact .inr (.inl ⟨hz, hsp, by rw [← hL, hd, Txt.trimL, if_neg (by rw [hsp]; simp)]⟩)
      · have hd := drop_end t 0 hz
        rw [List.drop_zero] at hd
        exact .inr (.inr ⟨hz, by rw [← hL, hd]; rfl⟩)
    rcases hway with ⟨hz, hsp⟩ | ⟨hz, hsp, hfin⟩ | ⟨hz, hfin⟩
    · obtain ⟨hq1, hq2⟩ := str_some hz
      have hd := drop_at t 0 hz
      rw [List.drop_zero] at hd
      obtain ⟨h1, h2⟩ := tail_str t hz
      have hst : Txt.trimL (t.extract 1 t.size).data.toList = Txt.trimL s.data.toList := by
        rw [← hL, hd, Txt.trimL, if_pos hsp, h1]
      have HS := Lib.hid hst
      have HP := Lib.hid hsp
      clear hst hsp hL hd h1
      go_wp2_with fail
      refine (cspace_any t[0] w).mono ?_
      rintro e w2 ⟨rfl, rfl⟩
      rw [HP.out]
      go_wp2_with fail
      go_round
      case rel => exact ⟨t.extract 1 t.size, rfl, by omega, HS.out⟩
      case measure =>
        show (t.extract 1 t.size).size < t.size
        omega
    case' inr.inl =>
      obtain ⟨hq1, hq2⟩ := str_some hz
      have HS := Lib.hid hfin
      have HP := Lib.hid hsp
      clear hL hfin hsp
      go_wp2_with fail
      refine (cspace_any t[0] w).mono ?_
      rintro e w2 ⟨rfl, rfl⟩
      rw [HP.out]
      go_wp2_with fail
    case' inr.inr =>
      obtain ⟨hq1, hq2⟩ := str_none hz
      have HS := Lib.hid hfin
      clear hL hfin
      go_wp2_with fail
    all_goals
      go_loop [0] (fun v => ∃ u : ByteArray, v = .string u ∧ u.size ≤ 20000 ∧ Txt.trimR u.data.toList = Txt.trimR t.data.toList) (fun v => lenOf v)
      case atStart => exact ⟨t, rfl, ht, rfl⟩
      case round =>
        obtain ⟨u, rfl, hu, hR⟩ := hrel
        by_cases hzu : 0 < u.size
        · obtain ⟨hr1, hr2⟩ := str_some hzu
          obtain ⟨h1, h2⟩ := init_str u hzu
          have hzi : u.size - 1 < u.size := by omega
          cases hsp : Txt.sp u[u.size - 1] with
          | true =>
            have hst : Txt.trimR (u.extract 0 (u.size - 1)).data.toList = Txt.trimR t.data.toList := by
              rw [← hR]
              conv => rhs; rw [h1, Txt.trimR_snoc, if_pos hsp]
            have HT := Lib.hid hst
            have HP := Lib.hid hsp
            clear hst hsp hR h1
            go_wp2_with fail
            refine (cspace_any u[u.size - 1] w).mono ?_
            rintro e w2 ⟨rfl, rfl⟩
            rw [HP.out]
            go_wp2_with fail
            go_round
            case rel => exact ⟨u.extract 0 (u.size - 1), rfl, by omega, HT.out⟩
            case measure =>
              show (u.extract 0 (u.size - 1)).size < u.size
              omega
          | false =>
            have hst : u.data.toList = Txt.trimR t.data.toList := by
              rw [← hR]
              conv => rhs; rw [h1, Txt.trimR_snoc, if_neg (by rw [hsp]; simp)]
              exact h1
            have HT := Lib.hid hst
            have HP := Lib.hid hsp
            clear hst hsp hR h1
            go_wp2_with fail
            refine (cspace_any u[u.size - 1] w).mono ?_
            rintro e w2 ⟨rfl, rfl⟩
            rw [HP.out]
            go_wp2_with fail
            go_ret
            exact ⟨retS (by rw [← tstr_of u, HT.out, HS.out]; rfl), rfl⟩
        · obtain ⟨hr1, hr2⟩ := str_none hzu
          have hd := drop_end u 0 hzu
          rw [List.drop_zero] at hd
          have hst : u.data.toList = Txt.trimR t.data.toList := by rw [← hR, hd]; rfl
          have HT := Lib.hid hst
          clear hst hR hd
          go_wp2_with fail
          go_ret
          exact ⟨retS (by rw [← tstr_of u, HT.out, HS.out]; rfl), rfl⟩

theorem ttrim_any (s : ByteArray) (w : World) (hs : s.size ≤ 20000) :
    Calls Tryz.prog 86 #[.string s] w fun e w' => e = .returned (.string (tstr (Txt.trim s.data.toList))) ∧ Below w.heap.size w w' := by
  refine (ctrim_any s w hs).mono ?_
  rintro e w2 ⟨rfl, rfl⟩
  exact ⟨rfl, Below.refl _ _⟩

end Go.Proofs.YtckmlbcpldpkpaaGreatDoor

/- The listed package variables read as the row says: so the program's table lies in memory. -/
namespace Go.Proofs.YtckmlbcpldpkpaaGreatDoor
open Go Go.RowKit Go.Shelf Go.Lib

set_option maxRecDepth 100000 in
/-- A pair of a string and a number, read from its two cells. -/
theorem pair_cells {enc : TypeId × Value → Unit} {w : World} {fuel : Nat} {cs : List Value} {a : List UInt8} {z : Int} {p : List MemPlace}
    (h : DataW.trod enc Tryz.prog w 0 (fun _ => true) false fuel 137 cs = some (.agg [.lit (.string a), .lit (.int .i32 z)], p)) : cs[0]? = some (.string (tstr a)) ∧ cs[1]? = some (.int .i32 z) := by
  obtain ⟨xs, n, rfl, hx, hl, hxl, hall⟩ := DataW.trod_struct Tryz.underlying137 h
  have hl2 : cs.length = 2 := hl.trans (by kernel_rfl)
  have hxl2 : xs.length = 2 := hxl.trans rfl
  match xs, hxl2 with
  | [x0, x1], _ =>
    simp only [List.map_cons, List.map_nil, Prod.mk.injEq, DataW.agg.injEq, List.cons.injEq, and_true] at hx
    obtain ⟨⟨e0, e1⟩, _⟩ := hx
    match cs, hl2 with
    | [c0, c1], _ =>
      have h0 := hall 0 _ rfl
      have h1 := hall 1 _ rfl
      have k1 : Tryz.prog.cellsOf 9 = 1 := by kernel_rfl
      have k2 : Tryz.prog.cellsOf 21 = 1 := by kernel_rfl
      have h0' : DataW.trod enc Tryz.prog w 0 (fun _ => true) false n 9 [c0] = some x0 := by
        simpa [k1] using h0
      have h1' : DataW.trod enc Tryz.prog w 0 (fun _ => true) false n 21 [c1] = some x1 := by
        simpa [k2] using h1
      obtain ⟨s, hs, hx0, _⟩ := DataW.trod_string Tryz.underlying9 h0'
      obtain ⟨m, hm, hx1, _⟩ := DataW.trod_int Tryz.underlying21 h1'
      rw [hx0] at e0
      rw [hx1] at e1
      simp only [DataW.lit.injEq, Lit.string.injEq, Lit.int.injEq, true_and] at e0 e1
      simp only [List.cons.injEq, and_true] at hs hm
      subst hs hm e1
      refine ⟨?_, rfl⟩
      rw [e0]; rfl

def tabData : DataW Unit := .agg (Ent.tab.map fun p => .agg [.lit (.string p.1), .lit (.int .i32 (p.2 : Nat))])
theorem tabData_eq : (Rows.laid_knapsack_entity_table : DataW Unit) = tabData := by kernel_rfl

set_option maxRecDepth 100000 in
theorem tab_of {W : World} (h : VarReads Tryz.prog W "knapsack/entity.table" Rows.laid_knapsack_entity_table) : Tab W := by
  rw [tabData_eq] at h
  obtain ⟨g, t, cs, fuel, p, hg, hty, hvar, hd⟩ := h
  obtain rfl := Option.some.inj ((show Tryz.prog.globalNamed "knapsack/entity.table" = some 3 by kernel_rfl).symm.trans hg)
  obtain rfl := Option.some.inj ((show (Tryz.prog.globals[3]?).map (·.type) = some 138 by kernel_rfl).symm.trans hty)
  intro i hi
  obtain ⟨fuel', d, q, hdi, he⟩ := array_elem Tryz.underlying138 hd i hi
  have hit : i < Ent.tab.length := hi
  rw [List.getElem?_map, List.getElem?_eq_getElem hit] at hdi
  obtain rfl := (Option.some.inj hdi).symm
  have k2 : Tryz.prog.cellsOf 137 = 2 := by kernel_rfl
  rw [k2] at he
  obtain ⟨h0, h1⟩ := pair_cells he
  have hg' : Ent.tab.getD i ([], 0) = Ent.tab[i] := by rw [List.getD_eq_getElem?_getD, List.getElem?_eq_getElem hit]; rfl
  have e1 : tnm i = Ent.tab[i].1 := congrArg Prod.fst hg'
  have e2 : tpt i = Ent.tab[i].2 := congrArg Prod.snd hg'
  simp only [List.getElem?_take, List.getElem?_drop] at h0 h1
  constructor
  · rw [World.var?_cell hg hvar (i * 2), ← Array.getElem?_toList, e1]
    simpa using h0
  · rw [World.var?_cell hg hvar (i * 2 + 1), ← Array.getElem?_toList, e2]
    simpa using h1

end Go.Proofs.YtckmlbcpldpkpaaGreatDoor
