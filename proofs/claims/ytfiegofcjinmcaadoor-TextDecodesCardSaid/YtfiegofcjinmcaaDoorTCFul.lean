/- The library's FullRuneInString says of one to three bytes whether they are no proper beginning of a valid sequence. -/
import Derived.Test.YtfiegofcjinmcaaDoorTLit
import Derived.Test.YtfiegofcjinmcaaDoorTFeed
import Derived.Test.YtfiegofcjinmcaaDoorTRef
import Derived.BigQuiet
import Derived.Deep.QuietTactic
namespace Go.Proofs.YtfiegofcjinmcaaDoor
open Go.RowKit

theorem first_bytes (p : ByteArray) (h : 0 < p.size) : ∃ a r, p.data.toList = a :: r ∧ p[0] = a := by
  cases hp : p.data.toList with
  | nil => have h2 : p.data.toList.length = p.size := rfl; rw [hp] at h2; simp at h2; omega
  | cons a r =>
    refine ⟨a, r, rfl, ?_⟩
    have h2 : p.data.toList[0]? = some a := by rw [hp]; rfl
    have h3 : p.data.toList[0]? = some p[0] := by
      rw [List.getElem?_eq_getElem (by show 0 < p.size; exact h)]; rfl
    rw [h3] at h2
    exact Option.some.inj h2

set_option maxRecDepth 100000 in
set_option maxHeartbeats 1000000 in
/-- A first byte that is full by itself. -/
theorem full_short (p : ByteArray) (w : World) (x : Nat) (h0 : 0 < p.size) (h10 : p.size ≤ 3) (hT : Lit w) (hx : Lib.firstT p[0].toNat = x) (hx2 : x < 256) (hx3 : x % 8 ≤ p.size) :
    Calls Tryd.prog 36 #[.string p] w fun e w' => e = .returned (.bool true) ∧ Below w.heap.size w w' := by
  have hc := hT.1 p[0].toNat p[0].toNat_lt
  rw [hx] at hc
  have hand : ∀ y : Fin 256, bits .and .u8 ((y.val : Nat) : Int) 7 = ((y.val % 8 : Nat) : Int) := by decide
  have ha := hand ⟨x, hx2⟩
  dsimp only at ha
  have h256 := p[0].toNat_lt
  go_enter Tryd.func36, Tryd.ntmps36
  go_wp2
  go_ret
  exact ⟨rfl, Below.refl _ _⟩

set_option maxRecDepth 100000 in
set_option maxHeartbeats 1000000 in
/-- A first byte that wants more than there is: one byte. -/
theorem full_one (p : ByteArray) (w : World) (x lo hi : Nat) (h1 : p.size = 1) (hT : Lit w) (hx : Lib.firstT p[0].toNat = x) (hx2 : x < 256) (hx3 : 1 < x % 8) (hlo : Lib.accLo (x / 16) = lo) (hhi : Lib.accHi (x / 16) = hi) :
    Calls Tryd.prog 36 #[.string p] w fun e w' => e = .returned (.bool false) ∧ Below w.heap.size w w' := by
  have hc := hT.1 p[0].toNat p[0].toNat_lt
  rw [hx] at hc
  obtain ⟨hcl, hch⟩ := hT.2 (x / 16) (by omega)
  rw [hlo, show 2 * (x / 16) = x / 16 * 2 from by omega] at hcl
  rw [hhi, show 2 * (x / 16) + 1 = x / 16 * 2 + 1 from by omega] at hch
  have h256 := p[0].toNat_lt
  go_enter Tryd.func36, Tryd.ntmps36
  go_wp2
  go_quiet (fail)
  go_wp2
  go_ret
  exact ⟨rfl, ((Below.refl _ w).alloc (Nat.le_refl _) _).trans ⟨rfl, rfl, rfl, Nat.le_refl _, fun _ _ => rfl⟩⟩
set_option maxRecDepth 100000 in
set_option maxHeartbeats 1000000 in
/-- The second byte is too small. -/
theorem full_low2 (p : ByteArray) (w : World) (x lo hi : Nat) (h1 : p.size = 2) (hT : Lit w) (hx : Lib.firstT p[0].toNat = x) (hx2 : x < 256) (hx3 : 2 < x % 8) (hlo : Lib.accLo (x / 16) = lo) (hhi : Lib.accHi (x / 16) = hi) (hb : p[1].toNat < lo) :
    Calls Tryd.prog 36 #[.string p] w fun e w' => e = .returned (.bool true) ∧ Below w.heap.size w w' := by
  have hc := hT.1 p[0].toNat p[0].toNat_lt
  rw [hx] at hc
  obtain ⟨hcl, hch⟩ := hT.2 (x / 16) (by omega)
  rw [hlo, show 2 * (x / 16) = x / 16 * 2 from by omega] at hcl
  rw [hhi, show 2 * (x / 16) + 1 = x / 16 * 2 + 1 from by omega] at hch
  have h256 := p[0].toNat_lt
  have q1 : decide ((p[1].toNat : Int) < (lo : Int)) = true := by exact decide_eq_true (by omega)
  go_enter Tryd.func36, Tryd.ntmps36
  go_wp2
  go_quiet (fail)
  go_wp2
  go_ret
  exact ⟨rfl, ((Below.refl _ w).alloc (Nat.le_refl _) _).trans ⟨rfl, rfl, rfl, Nat.le_refl _, fun _ _ => rfl⟩⟩
set_option maxRecDepth 100000 in
set_option maxHeartbeats 1000000 in
/-- The second byte is too great. -/
theorem full_high2 (p : ByteArray) (w : World) (x lo hi : Nat) (h1 : p.size = 2) (hT : Lit w) (hx : Lib.firstT p[0].toNat = x) (hx2 : x < 256) (hx3 : 2 < x % 8) (hlo : Lib.accLo (x / 16) = lo) (hhi : Lib.accHi (x / 16) = hi) (ha : ¬ p[1].toNat < lo) (hb : hi < p[1].toNat) :
    Calls Tryd.prog 36 #[.string p] w fun e w' => e = .returned (.bool true) ∧ Below w.heap.size w w' := by
  have hc := hT.1 p[0].toNat p[0].toNat_lt
  rw [hx] at hc
  obtain ⟨hcl, hch⟩ := hT.2 (x / 16) (by omega)
  rw [hlo, show 2 * (x / 16) = x / 16 * 2 from by omega] at hcl
  rw [hhi, show 2 * (x / 16) + 1 = x / 16 * 2 + 1 from by omega] at hch
  have h256 := p[0].toNat_lt
  have q1 : decide ((p[1].toNat : Int) < (lo : Int)) = false := by exact decide_eq_false (by omega)
  have q2 : decide ((hi : Int) < (p[1].toNat : Int)) = true := by exact decide_eq_true (by omega)
  go_enter Tryd.func36, Tryd.ntmps36
  go_wp2
  go_quiet (fail)
  go_wp2
  go_ret
  exact ⟨rfl, ((Below.refl _ w).alloc (Nat.le_refl _) _).trans ⟨rfl, rfl, rfl, Nat.le_refl _, fun _ _ => rfl⟩⟩
set_option maxRecDepth 100000 in
set_option maxHeartbeats 1000000 in
/-- The second byte is too small. -/
theorem full_low3 (p : ByteArray) (w : World) (x lo hi : Nat) (h1 : p.size = 3) (hT : Lit w) (hx : Lib.firstT p[0].toNat = x) (hx2 : x < 256) (hx3 : 3 < x % 8) (hlo : Lib.accLo (x / 16) = lo) (hhi : Lib.accHi (x / 16) = hi) (hb : p[1].toNat < lo) :
    Calls Tryd.prog 36 #[.string p] w fun e w' => e = .returned (.bool true) ∧ Below w.heap.size w w' := by
  have hc := hT.1 p[0].toNat p[0].toNat_lt
  rw [hx] at hc
  obtain ⟨hcl, hch⟩ := hT.2 (x / 16) (by omega)
  rw [hlo, show 2 * (x / 16) = x / 16 * 2 from by omega] at hcl
  rw [hhi, show 2 * (x / 16) + 1 = x / 16 * 2 + 1 from by omega] at hch
  have h256 := p[0].toNat_lt
  have q1 : decide ((p[1].toNat : Int) < (lo : Int)) = true := by exact decide_eq_true (by omega)
  go_enter Tryd.func36, Tryd.ntmps36
  go_wp2
  go_quiet (fail)
  go_wp2
  go_ret
  exact ⟨rfl, ((Below.refl _ w).alloc (Nat.le_refl _) _).trans ⟨rfl, rfl, rfl, Nat.le_refl _, fun _ _ => rfl⟩⟩
set_option maxRecDepth 100000 in
set_option maxHeartbeats 1000000 in
/-- The second byte is too great. -/
theorem full_high3 (p : ByteArray) (w : World) (x lo hi : Nat) (h1 : p.size = 3) (hT : Lit w) (hx : Lib.firstT p[0].toNat = x) (hx2 : x < 256) (hx3 : 3 < x % 8) (hlo : Lib.accLo (x / 16) = lo) (hhi : Lib.accHi (x / 16) = hi) (ha : ¬ p[1].toNat < lo) (hb : hi < p[1].toNat) :
    Calls Tryd.prog 36 #[.string p] w fun e w' => e = .returned (.bool true) ∧ Below w.heap.size w w' := by
  have hc := hT.1 p[0].toNat p[0].toNat_lt
  rw [hx] at hc
  obtain ⟨hcl, hch⟩ := hT.2 (x / 16) (by omega)
  rw [hlo, show 2 * (x / 16) = x / 16 * 2 from by omega] at hcl
  rw [hhi, show 2 * (x / 16) + 1 = x / 16 * 2 + 1 from by omega] at hch
  have h256 := p[0].toNat_lt
  have q1 : decide ((p[1].toNat : Int) < (lo : Int)) = false := by exact decide_eq_false (by omega)
  have q2 : decide ((hi : Int) < (p[1].toNat : Int)) = true := by exact decide_eq_true (by omega)
  go_enter Tryd.func36, Tryd.ntmps36
  go_wp2
  go_quiet (fail)
  go_wp2
  go_ret
  exact ⟨rfl, ((Below.refl _ w).alloc (Nat.le_refl _) _).trans ⟨rfl, rfl, rfl, Nat.le_refl _, fun _ _ => rfl⟩⟩
set_option maxRecDepth 100000 in
set_option maxHeartbeats 1000000 in
/-- Two bytes that begin a sequence. -/
theorem full_two (p : ByteArray) (w : World) (x lo hi : Nat) (h1 : p.size = 2) (hT : Lit w) (hx : Lib.firstT p[0].toNat = x) (hx2 : x < 256) (hx3 : 2 < x % 8) (hlo : Lib.accLo (x / 16) = lo) (hhi : Lib.accHi (x / 16) = hi) (ha : ¬ p[1].toNat < lo) (hb : ¬ hi < p[1].toNat) :
    Calls Tryd.prog 36 #[.string p] w fun e w' => e = .returned (.bool false) ∧ Below w.heap.size w w' := by
  have hc := hT.1 p[0].toNat p[0].toNat_lt
  rw [hx] at hc
  obtain ⟨hcl, hch⟩ := hT.2 (x / 16) (by omega)
  rw [hlo, show 2 * (x / 16) = x / 16 * 2 from by omega] at hcl
  rw [hhi, show 2 * (x / 16) + 1 = x / 16 * 2 + 1 from by omega] at hch
  have h256 := p[0].toNat_lt
  have q1 : decide ((p[1].toNat : Int) < (lo : Int)) = false := by exact decide_eq_false (by omega)
  have q2 : decide ((hi : Int) < (p[1].toNat : Int)) = false := by exact decide_eq_false (by omega)
  go_enter Tryd.func36, Tryd.ntmps36
  go_wp2
  go_quiet (fail)
  go_wp2
  go_ret
  exact ⟨rfl, ((Below.refl _ w).alloc (Nat.le_refl _) _).trans ⟨rfl, rfl, rfl, Nat.le_refl _, fun _ _ => rfl⟩⟩
set_option maxRecDepth 100000 in
set_option maxHeartbeats 1000000 in
/-- The third byte is too small. -/
theorem full_third_low (p : ByteArray) (w : World) (x lo hi : Nat) (h1 : p.size = 3) (hT : Lit w) (hx : Lib.firstT p[0].toNat = x) (hx2 : x < 256) (hx3 : 3 < x % 8) (hlo : Lib.accLo (x / 16) = lo) (hhi : Lib.accHi (x / 16) = hi) (ha : ¬ p[1].toNat < lo) (hb : ¬ hi < p[1].toNat) (hd : p[2].toNat < 128) :
    Calls Tryd.prog 36 #[.string p] w fun e w' => e = .returned (.bool true) ∧ Below w.heap.size w w' := by
  have hc := hT.1 p[0].toNat p[0].toNat_lt
  rw [hx] at hc
  obtain ⟨hcl, hch⟩ := hT.2 (x / 16) (by omega)
  rw [hlo, show 2 * (x / 16) = x / 16 * 2 from by omega] at hcl
  rw [hhi, show 2 * (x / 16) + 1 = x / 16 * 2 + 1 from by omega] at hch
  have h256 := p[0].toNat_lt
  have q1 : decide ((p[1].toNat : Int) < (lo : Int)) = false := by exact decide_eq_false (by omega)
  have q2 : decide ((hi : Int) < (p[1].toNat : Int)) = false := by exact decide_eq_false (by omega)
  go_enter Tryd.func36, Tryd.ntmps36
  go_wp2
  go_quiet (fail)
  go_wp2
  all_goals go_ret
  all_goals exact ⟨rfl, ((Below.refl _ w).alloc (Nat.le_refl _) _).trans ⟨rfl, rfl, rfl, Nat.le_refl _, fun _ _ => rfl⟩⟩
set_option maxRecDepth 100000 in
set_option maxHeartbeats 1000000 in
/-- The third byte is too great. -/
theorem full_third_high (p : ByteArray) (w : World) (x lo hi : Nat) (h1 : p.size = 3) (hT : Lit w) (hx : Lib.firstT p[0].toNat = x) (hx2 : x < 256) (hx3 : 3 < x % 8) (hlo : Lib.accLo (x / 16) = lo) (hhi : Lib.accHi (x / 16) = hi) (ha : ¬ p[1].toNat < lo) (hb : ¬ hi < p[1].toNat) (hd : ¬ p[2].toNat < 128) (he : 191 < p[2].toNat) :
    Calls Tryd.prog 36 #[.string p] w fun e w' => e = .returned (.bool true) ∧ Below w.heap.size w w' := by
  have hc := hT.1 p[0].toNat p[0].toNat_lt
  rw [hx] at hc
  obtain ⟨hcl, hch⟩ := hT.2 (x / 16) (by omega)
  rw [hlo, show 2 * (x / 16) = x / 16 * 2 from by omega] at hcl
  rw [hhi, show 2 * (x / 16) + 1 = x / 16 * 2 + 1 from by omega] at hch
  have h256 := p[0].toNat_lt
  have q1 : decide ((p[1].toNat : Int) < (lo : Int)) = false := by exact decide_eq_false (by omega)
  have q2 : decide ((hi : Int) < (p[1].toNat : Int)) = false := by exact decide_eq_false (by omega)
  go_enter Tryd.func36, Tryd.ntmps36
  go_wp2
  go_quiet (fail)
  go_wp2
  all_goals go_ret
  all_goals exact ⟨rfl, ((Below.refl _ w).alloc (Nat.le_refl _) _).trans ⟨rfl, rfl, rfl, Nat.le_refl _, fun _ _ => rfl⟩⟩
set_option maxRecDepth 100000 in
set_option maxHeartbeats 1000000 in
/-- Three bytes that begin a sequence. -/
theorem full_three (p : ByteArray) (w : World) (x lo hi : Nat) (h1 : p.size = 3) (hT : Lit w) (hx : Lib.firstT p[0].toNat = x) (hx2 : x < 256) (hx3 : 3 < x % 8) (hlo : Lib.accLo (x / 16) = lo) (hhi : Lib.accHi (x / 16) = hi) (ha : ¬ p[1].toNat < lo) (hb : ¬ hi < p[1].toNat) (hd : ¬ p[2].toNat < 128) (he : ¬ 191 < p[2].toNat) :
    Calls Tryd.prog 36 #[.string p] w fun e w' => e = .returned (.bool false) ∧ Below w.heap.size w w' := by
  have hc := hT.1 p[0].toNat p[0].toNat_lt
  rw [hx] at hc
  obtain ⟨hcl, hch⟩ := hT.2 (x / 16) (by omega)
  rw [hlo, show 2 * (x / 16) = x / 16 * 2 from by omega] at hcl
  rw [hhi, show 2 * (x / 16) + 1 = x / 16 * 2 + 1 from by omega] at hch
  have h256 := p[0].toNat_lt
  have q1 : decide ((p[1].toNat : Int) < (lo : Int)) = false := by exact decide_eq_false (by omega)
  have q2 : decide ((hi : Int) < (p[1].toNat : Int)) = false := by exact decide_eq_false (by omega)
  go_enter Tryd.func36, Tryd.ntmps36
  go_wp2
  go_quiet (fail)
  go_wp2
  all_goals go_ret
  all_goals exact ⟨rfl, ((Below.refl _ w).alloc (Nat.le_refl _) _).trans ⟨rfl, rfl, rfl, Nat.le_refl _, fun _ _ => rfl⟩⟩
end Go.Proofs.YtfiegofcjinmcaaDoor
