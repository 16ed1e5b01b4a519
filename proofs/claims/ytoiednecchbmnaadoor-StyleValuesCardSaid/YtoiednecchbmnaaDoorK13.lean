/- Taking a string apart rune by rune, as a range over it does, gives the code points of its repaired form. No program is imported. -/
import Derived.Test.YtoiednecchbmnaaDoorK01
import Derived.Test.YtoiednecchbmnaaDoorK12
import Derived.Lib.DecodeN
import Derived.Lib.RuneBytes
import Derived.Lib.RuneCount
import Derived.Lib.ValidLaws
import Derived.Test.YtoiednecchbmnaaDoorProg
import Derived.Shelf.Unicode.ValidAny
import Derived.WalkKit
namespace Go.Proofs.YtoiednecchbmnaaDoor.Txt

/-- The byte at a place, 0 beyond the end. -/
def at0 (l : List UInt8) (k : Nat) : Nat := (l.getD k 0).toNat
/-- The first rune of a list of bytes, and its width. -/
def step (l : List UInt8) : Nat × Nat := Lib.decodeN l.length (at0 l 0) (at0 l 1) (at0 l 2) (at0 l 3)

theorem snd_le {a b : UInt8} (h : snd a b = true) : 128 ≤ b.toNat ∧ b.toNat ≤ 191 := by
  have := snd_cont h
  simpa [cont] using this
theorem snd_min {a b : UInt8} (h : snd a b = true) : (a.toNat = 224 → 160 ≤ b.toNat) ∧ (a.toNat = 237 → b.toNat ≤ 159) ∧ (a.toNat = 240 → 144 ≤ b.toNat) ∧ (a.toNat = 244 → b.toNat ≤ 143) := by
  unfold snd at h
  refine ⟨fun e => ?_, fun e => ?_, fun e => ?_, fun e => ?_⟩ <;> simp [e] at h <;> omega
theorem snd_of {a b : UInt8} (h : 128 ≤ b.toNat ∧ b.toNat ≤ 191) (h1 : a.toNat = 224 → 160 ≤ b.toNat) (h2 : a.toNat = 237 → b.toNat ≤ 159) (h3 : a.toNat = 240 → 144 ≤ b.toNat) (h4 : a.toNat = 244 → b.toNat ≤ 143) : snd a b = true := by
  unfold snd cont
  repeat' split
  all_goals (simp; omega)
theorem cont_iff (b : UInt8) : cont b = true ↔ 128 ≤ b.toNat ∧ b.toNat ≤ 191 := by simp [cont]
theorem cons_eq {a b : UInt8} {l m : List UInt8} (h : a = b) (h2 : l = m) : a :: l = b :: m := by rw [h, h2]
theorem byte_of (x : Int) (b : UInt8) (h : x = b.toNat) : x.toNat.toUInt8 = b := by
  subst h
  simp

theorem step_one (a : UInt8) (r : List UInt8) (h : a.toNat ≤ 127) : step (a :: r) = (a.toNat, 1) := by
  have : a.toNat < 128 := by omega
  simp [step, at0, Lib.decodeN, this]
theorem step_two (a b : UInt8) (r : List UInt8) (h1 : 194 ≤ a.toNat) (h2 : a.toNat ≤ 223) (h3 : cont b = true) : step (a :: b :: r) = (a.toNat % 32 * 64 + b.toNat % 64, 2) := by
  rw [cont_iff] at h3
  have e1 : ¬ a.toNat < 128 := by omega
  have e2 : a.toNat / 32 = 6 ∧ 1 < (a :: b :: r).length ∧ b.toNat / 64 = 2 := ⟨by omega, by simp, by omega⟩
  have e3 : a.toNat % 32 * 64 + b.toNat % 64 ≥ 128 := by omega
  show Lib.decodeN _ a.toNat b.toNat _ _ = _
  unfold Lib.decodeN
  rw [if_neg e1, if_pos e2, if_pos e3]
theorem step_three (a b c : UInt8) (r : List UInt8) (h1 : 224 ≤ a.toNat) (h2 : a.toNat ≤ 239) (h3 : snd a b = true) (h4 : cont c = true) :
    step (a :: b :: c :: r) = (a.toNat % 16 * 4096 + b.toNat % 64 * 64 + c.toNat % 64, 3) := by
  rw [cont_iff] at h4
  have hb := snd_le h3
  have hm := snd_min h3
  have e1 : ¬ a.toNat < 128 := by omega
  have e2 : ¬ (a.toNat / 32 = 6 ∧ 1 < (a :: b :: c :: r).length ∧ b.toNat / 64 = 2) := fun h => by omega
  have e3 : a.toNat / 16 = 14 ∧ (1 < (a :: b :: c :: r).length ∧ b.toNat / 64 = 2) ∧ (2 < (a :: b :: c :: r).length ∧ c.toNat / 64 = 2) := ⟨by omega, ⟨by simp, by omega⟩, by simp, by omega⟩
  show Lib.decodeN _ a.toNat b.toNat c.toNat _ = _
  unfold Lib.decodeN
  rw [if_neg e1, if_neg e2, if_pos e3, if_pos (by omega)]
theorem step_four (a b c d : UInt8) (r : List UInt8) (h1 : 240 ≤ a.toNat) (h2 : a.toNat ≤ 244) (h3 : snd a b = true) (h4 : cont c = true) (h5 : cont d = true) :
    step (a :: b :: c :: d :: r) = (a.toNat % 8 * 262144 + b.toNat % 64 * 4096 + c.toNat % 64 * 64 + d.toNat % 64, 4) := by
  rw [cont_iff] at h4 h5
  have hb := snd_le h3
  have hm := snd_min h3
  have e1 : ¬ a.toNat < 128 := by omega
  have e2 : ¬ (a.toNat / 32 = 6 ∧ 1 < (a :: b :: c :: d :: r).length ∧ b.toNat / 64 = 2) := fun h => by omega
  have e3 : ¬ (a.toNat / 16 = 14 ∧ (1 < (a :: b :: c :: d :: r).length ∧ b.toNat / 64 = 2) ∧ (2 < (a :: b :: c :: d :: r).length ∧ c.toNat / 64 = 2)) := fun h => by omega
  have e4 : a.toNat / 8 = 30 ∧ (1 < (a :: b :: c :: d :: r).length ∧ b.toNat / 64 = 2) ∧ (2 < (a :: b :: c :: d :: r).length ∧ c.toNat / 64 = 2) ∧ (3 < (a :: b :: c :: d :: r).length ∧ d.toNat / 64 = 2) :=
    ⟨by omega, ⟨by simp, by omega⟩, ⟨by simp, by omega⟩, by simp, by omega⟩
  show Lib.decodeN _ a.toNat b.toNat c.toNat d.toNat = _
  unfold Lib.decodeN
  rw [if_neg e1, if_neg e2, if_neg e3, if_pos e4, if_pos (by omega)]

/-- Where a list begins with a valid sequence. -/
theorem step_begins {l : List UInt8} {n : Nat} (h : Begins l n) : (step l).2 = n ∧ Lib.encodeRune ((step l).1 : Nat) = l.take n ∧ (n = 1 → (step l).1 < 128) := by
  cases h with
  | one a r h =>
    rw [step_one a r h]
    refine ⟨rfl, ?_, fun _ => by show a.toNat < 128; omega⟩
    show (Lib.encodeRuneZ (a.toNat : Nat)).map _ = [a]
    rw [Lib.encodeRuneZ_one (by omega) (by omega)]
    simp
  | two a b r h1 h2 h3 =>
    rw [step_two a b r h1 h2 h3]
    rw [cont_iff] at h3
    refine ⟨rfl, ?_, fun e => by omega⟩
    show (Lib.encodeRuneZ ((a.toNat % 32 * 64 + b.toNat % 64 : Nat) : Int)).map _ = [a, b]
    rw [Lib.encodeRuneZ_two (by omega) (by omega)]
    exact cons_eq (byte_of _ a (by omega)) (cons_eq (byte_of _ b (by omega)) rfl)
  | three a b c r h1 h2 h3 h4 =>
    rw [step_three a b c r h1 h2 h3 h4]
    rw [cont_iff] at h4
    have hb := snd_le h3
    have hm := snd_min h3
    refine ⟨rfl, ?_, fun e => by omega⟩
    show (Lib.encodeRuneZ ((a.toNat % 16 * 4096 + b.toNat % 64 * 64 + c.toNat % 64 : Nat) : Int)).map _ = [a, b, c]
    rw [Lib.encodeRuneZ_three (by omega)]
    exact cons_eq (byte_of _ a (by omega)) (cons_eq (byte_of _ b (by omega)) (cons_eq (byte_of _ c (by omega)) rfl))
  | four a b c d r h1 h2 h3 h4 h5 =>
    rw [step_four a b c d r h1 h2 h3 h4 h5]
    rw [cont_iff] at h4 h5
    have hb := snd_le h3
    have hm := snd_min h3
    refine ⟨rfl, ?_, fun e => by omega⟩
    show (Lib.encodeRuneZ ((a.toNat % 8 * 262144 + b.toNat % 64 * 4096 + c.toNat % 64 * 64 + d.toNat % 64 : Nat) : Int)).map _ = [a, b, c, d]
    rw [Lib.encodeRuneZ_four (by omega) (by omega)]
    exact cons_eq (byte_of _ a (by omega)) (cons_eq (byte_of _ b (by omega)) (cons_eq (byte_of _ c (by omega)) (cons_eq (byte_of _ d (by omega)) rfl)))

/-- Where it does not. -/
theorem step_bad {l : List UInt8} (hne : l ≠ []) (h : size l = 0) : step l = (65533, 1) := by
  have no : ∀ n, ¬ Begins l n := fun n hb => by have := size_begins hb; have := hb.four_at_most; omega
  unfold step Lib.decodeN
  match l, hne with
  | a :: r, _ =>
  have ha : at0 (a :: r) 0 = a.toNat := rfl
  have h256 := a.toNat_lt
  by_cases e1 : a.toNat < 128
  · exact absurd (.one a r (by omega)) (no 1)
  rw [ha, if_neg e1]
  by_cases e2 : a.toNat / 32 = 6 ∧ (1 < (a :: r).length ∧ at0 (a :: r) 1 / 64 = 2)
  · rw [if_pos e2]
    match r, e2 with
    | b :: r, e2 =>
      have hb : at0 (a :: b :: r) 1 = b.toNat := rfl
      rw [hb] at e2 ⊢
      have hb2 := b.toNat_lt
      by_cases e3 : a.toNat % 32 * 64 + b.toNat % 64 ≥ 128
      · exact absurd (.two a b r (by omega) (by omega) ((cont_iff b).2 (by omega))) (no 2)
      · rw [if_neg e3]
    | [], e2 => exact absurd e2.2.1 (by simp)
  rw [if_neg e2]
  by_cases e3 : a.toNat / 16 = 14 ∧ (1 < (a :: r).length ∧ at0 (a :: r) 1 / 64 = 2) ∧ (2 < (a :: r).length ∧ at0 (a :: r) 2 / 64 = 2)
  · rw [if_pos e3]
    match r, e3 with
    | b :: c :: r, e3 =>
      have hb : at0 (a :: b :: c :: r) 1 = b.toNat := rfl
      have hc : at0 (a :: b :: c :: r) 2 = c.toNat := rfl
      rw [hb, hc] at e3 ⊢
      have hb2 := b.toNat_lt
      have hc2 := c.toNat_lt
      split
      · rename_i e4
        exact absurd (.three a b c r (by omega) (by omega) (snd_of (by omega) (by omega) (by omega) (by omega) (by omega)) ((cont_iff c).2 (by omega))) (no 3)
      · rfl
    | [_], e3 => exact absurd e3.2.2.1 (by simp)
    | [], e3 => exact absurd e3.2.1.1 (by simp)
  rw [if_neg e3]
  by_cases e4 : a.toNat / 8 = 30 ∧ (1 < (a :: r).length ∧ at0 (a :: r) 1 / 64 = 2) ∧ (2 < (a :: r).length ∧ at0 (a :: r) 2 / 64 = 2) ∧ (3 < (a :: r).length ∧ at0 (a :: r) 3 / 64 = 2)
  · rw [if_pos e4]
    match r, e4 with
    | b :: c :: d :: r, e4 =>
      have hb : at0 (a :: b :: c :: d :: r) 1 = b.toNat := rfl
      have hc : at0 (a :: b :: c :: d :: r) 2 = c.toNat := rfl
      have hd : at0 (a :: b :: c :: d :: r) 3 = d.toNat := rfl
      rw [hb, hc, hd] at e4 ⊢
      have hb2 := b.toNat_lt
      have hc2 := c.toNat_lt
      have hd2 := d.toNat_lt
      split
      · rename_i e5
        exact absurd (.four a b c d r (by omega) (by omega) (snd_of (by omega) (by omega) (by omega) (by omega) (by omega)) ((cont_iff c).2 (by omega)) ((cont_iff d).2 (by omega))) (no 4)
      · rfl
    | [_, _], e4 => exact absurd e4.2.2.2.1 (by simp)
    | [_], e4 => exact absurd e4.2.2.1.1 (by simp)
    | [], e4 => exact absurd e4.2.1.1 (by simp)
  rw [if_neg e4]

theorem enc_bad : Lib.encodeRune ((65533 : Nat) : Int) = bad := by decide
/-- One step. -/
theorem chunks_step {l : List UInt8} (hne : l ≠ []) : chunks l = Lib.encodeRune ((step l).1 : Nat) :: chunks (l.drop (step l).2) := by
  by_cases h : size l = 0
  · rw [step_bad hne h, enc_bad]
    match l, hne with
    | a :: r, _ => exact chunks_bad h
  · have hb := begins_of h
    obtain ⟨h1, h2, _⟩ := step_begins hb
    rw [h1, h2]
    exact chunks_good h
theorem step_width {l : List UInt8} (hne : l ≠ []) : 1 ≤ (step l).2 ∧ (step l).2 ≤ l.length := by
  have hl : 1 ≤ l.length := List.length_pos_iff.2 hne
  by_cases h : size l = 0
  · rw [step_bad hne h]; exact ⟨Nat.le_refl _, hl⟩
  · have hb := begins_of h
    obtain ⟨h1, _, _⟩ := step_begins hb
    rw [h1]; exact ⟨hb.four_at_most.1, hb.le⟩
/-- An ASCII rune is its byte; every other one comes of a byte from 128 on. -/
theorem step_ascii {a : UInt8} {r : List UInt8} : (a.toNat < 128 → step (a :: r) = (a.toNat, 1)) ∧ (128 ≤ a.toNat → 128 ≤ (step (a :: r)).1) := by
  refine ⟨fun h => step_one a r (by omega), fun h => ?_⟩
  by_cases hz : size (a :: r) = 0
  · rw [step_bad (by simp) hz]; show 128 ≤ 65533; omega
  · have hb := begins_of hz
    generalize size (a :: r) = n at hb
    cases hb with
    | one a r h' => omega
    | two a b r h1 h2 h3 => rw [step_two a b r h1 h2 h3]; rw [cont_iff] at h3; show 128 ≤ _ + _; omega
    | three a b c r h1 h2 h3 h4 => rw [step_three a b c r h1 h2 h3 h4]; have := snd_le h3; have := snd_min h3; show 128 ≤ _ + _; omega
    | four a b c d r h1 h2 h3 h4 h5 => rw [step_four a b c d r h1 h2 h3 h4 h5]; have := snd_le h3; have := snd_min h3; show 128 ≤ _ + _; omega

theorem get0 (s : ByteArray) (k : Nat) : s.get! k = s.data.toList.getD k 0 := by
  cases s with
  | mk d =>
    show d[k]! = _
    by_cases h : k < d.size
    · rw [getElem!_pos d k h, List.getD_eq_getElem?_getD]
      simp [h]
    · rw [getElem!_neg d k h, List.getD_eq_getElem?_getD]
      simp [h]
      rfl
/-- It is the machine's own. -/
theorem decode_step (s : ByteArray) (pos : Nat) : Utf8.decode s pos = step (s.data.toList.drop pos) := by
  rw [Lib.decode_at]
  have hk : ∀ k, (s.get! (pos + k)).toNat = at0 (s.data.toList.drop pos) k := by
    intro k
    rw [get0]
    simp [at0, List.getD_eq_getElem?_getD]
  have h0 := hk 0
  rw [Nat.add_zero] at h0
  rw [h0, hk 1, hk 2, hk 3]
  unfold step
  congr 1
  rw [List.length_drop]; rfl

theorem runeCountFrom_eq (s : ByteArray) : ∀ fuel pos, s.size ≤ pos + fuel → Lib.runeCountFrom s fuel pos = (chunks (s.data.toList.drop pos)).length
  | 0, pos, h => by
    have : s.data.toList.drop pos = [] := List.drop_eq_nil_of_le (by show s.size ≤ _; omega)
    rw [this, chunks_nil]; rfl
  | f + 1, pos, h => by
    unfold Lib.runeCountFrom
    by_cases hp : pos < s.size
    · have hne : s.data.toList.drop pos ≠ [] := fun e => by have h2 : s.size ≤ pos := List.drop_eq_nil_iff.1 e; omega
      have hw := step_width hne
      rw [if_pos hp, chunks_step hne, decode_step, runeCountFrom_eq s f _ (by omega), List.drop_drop]
      simp only [List.length_cons]
      omega
    · have : s.data.toList.drop pos = [] := List.drop_eq_nil_of_le (by show s.size ≤ _; omega)
      rw [if_neg hp, this, chunks_nil]; rfl
theorem runeCount_eq (s : ByteArray) : Lib.runeCount s = (chunks s.data.toList).length := by
  have := runeCountFrom_eq s s.size 0 (by omega)
  rwa [List.drop_zero] at this

theorem rep_ne {l : List UInt8} (hne : l ≠ []) (h : size l = 0) : rep l ≠ l := by
  match l, hne with
  | a :: r, _ =>
    rw [rep_bad h]
    intro e
    simp only [bad, List.cons_append, List.nil_append, List.cons.injEq] at e
    obtain ⟨e0, e⟩ := e
    generalize rep r = t at e
    subst e0 e
    have h3 : size (239 :: 191 :: 189 :: t) = 3 := size_begins (begins_bad t)
    omega
theorem decodeL_step (l : List UInt8) : Lib.decodeL l = step l := by
  unfold Lib.decodeL
  rw [decode_step]
  rfl
theorem validD_eq (l : List UInt8) : Lib.validD l = decide (rep l = l) := by
  induction hn : l.length using Nat.strongRecOn generalizing l with
  | _ n ih =>
    by_cases hne : l = []
    · subst hne; rw [rep_nil]; rfl
    · rw [Lib.validD_step l hne, decodeL_step]
      by_cases h : size l = 0
      · rw [step_bad hne h, if_pos ⟨rfl, rfl⟩, decide_eq_false (rep_ne hne h)]
      · have hb := begins_of h
        obtain ⟨h1, h2, h3⟩ := step_begins hb
        have hw := hb.four_at_most
        have hle := hb.le
        rw [if_neg (fun e => by have := h3 (by omega); omega), h1, ih (l.drop (size l)).length (by rw [List.length_drop]; omega) _ rfl, rep_good h]
        congr 1
        conv => rhs; rhs; rw [← List.take_append_drop (size l) l]
        rw [List.append_cancel_left_eq]

end Go.Proofs.YtoiednecchbmnaaDoor.Txt
/- What the library says of valid strings, over this program. -/
namespace Go.Proofs
open Go.Shelf

def Tryd.lays196_ren : Go.Shelf.Ren := ⟨fun | 196 => 66 | 259 => 84 | n => n, fun | 0 => 0 | 3 => 3 | 4 => 4 | 5 => 5 | 9 => 9 | 12 => 12 | 46 => 97 | 53 => 115 | 119 => 101 | 138 => 103 | 139 => 104 | n => n, fun | 3 => 1 | 4 => 2 | n => n⟩
theorem Tryd.lays196 : Go.Proofs.Lays.n196 Tryd.prog Tryd.lays196_ren := {
  mixed := by kernel_rfl
  f196 := Tryd.func66.trans (congrArg some (by kernel_rfl))
  f259 := Tryd.func84.trans (congrArg some (by kernel_rfl))
  t0 := Tryd.underlying0
  a0 := Tryd.isAgg0
  z0 := Tryd.sizeOf0
  v0 := Tryd.zeroValue0
  t3 := Tryd.underlying3
  a3 := Tryd.isAgg3
  z3 := Tryd.sizeOf3
  v3 := Tryd.zeroValue3
  t4 := Tryd.underlying4
  a4 := Tryd.isAgg4
  z4 := Tryd.sizeOf4
  v4 := Tryd.zeroValue4
  t5 := Tryd.underlying5
  a5 := Tryd.isAgg5
  z5 := Tryd.sizeOf5
  v5 := Tryd.zeroValue5
  t9 := Tryd.underlying9
  a9 := Tryd.isAgg9
  z9 := Tryd.sizeOf9
  v9 := Tryd.zeroValue9
  t12 := Tryd.underlying12
  a12 := Tryd.isAgg12
  z12 := Tryd.sizeOf12
  v12 := Tryd.zeroValue12
  t46 := Tryd.underlying97
  a46 := Tryd.isAgg97
  z46 := Tryd.sizeOf97
  v46 := Tryd.zeroValue97
  t53 := Tryd.underlying115
  a53 := Tryd.isAgg115
  z53 := Tryd.sizeOf115
  v53 := Tryd.zeroValue115
  t119 := Tryd.underlying101
  a119 := Tryd.isAgg101
  z119 := Tryd.sizeOf101
  t138 := Tryd.underlying103
  a138 := Tryd.isAgg103
  z138 := Tryd.sizeOf103
  v138 := Tryd.zeroValue103
  t139 := Tryd.underlying104
  a139 := Tryd.isAgg104
  z139 := Tryd.sizeOf104
  v139 := Tryd.zeroValue104
  g3 := by kernel_rfl
  g4 := by kernel_rfl }
open Go.RowKit in
theorem Tryd.validString (s : ByteArray) (w : World) (hs : s.size ≤ 9223372036854775807) (hT : Lib.Utf8Tabs 1 2 w) :
    Calls Tryd.prog 66 #[.string s] w fun e w' => e = .returned (.bool (Lib.validD s.data.toList)) ∧ Below w.heap.size w w' := Any.utf8_ValidString Tryd.lays196 s w hs hT
end Go.Proofs
/- The program's Valid returns what the plain text says. -/
namespace Go.Proofs.YtoiednecchbmnaaDoor
open Go.RowKit

set_option maxHeartbeats 400000 in
theorem tvalid_any (s : ByteArray) (w : World) (hs : s.size ≤ 20000) (hT : Lit w) :
    Calls Tryd.prog 46 #[.string s] w fun e w' => e = .returned (.bool (decide (Txt.rep s.data.toList = s.data.toList))) ∧ Below w.heap.size w w' := by
  have hR := Tryd.validString s w (by omega) hT
  rw [Txt.validD_eq] at hR
  go_enter Tryd.func46, Tryd.ntmps46
  go_wp2_with fail
  refine hR.mono ?_
  rintro e w2 ⟨rfl, hb⟩
  go_wp2_with fail
  go_ret
  exact ⟨rfl, hb⟩

end Go.Proofs.YtoiednecchbmnaaDoor
/- Code points as numbers and as bytes; parts of a list of code points; the code points with their indices. No program is imported. -/
namespace Go.Proofs.YtoiednecchbmnaaDoor
open Go Go.RowKit

/-- The number of a code point. -/
def code : List UInt8 → Nat
  | [a] => a.toNat
  | [a, b] => a.toNat % 32 * 64 + b.toNat % 64
  | [a, b, c] => a.toNat % 16 * 4096 + b.toNat % 64 * 64 + c.toNat % 64
  | [a, b, c, d] => a.toNat % 8 * 262144 + b.toNat % 64 * 4096 + c.toNat % 64 * 64 + d.toNat % 64
  | _ => 0

theorem w64 {x : Int} (h1 : -9223372036854775808 ≤ x) (h2 : x < 9223372036854775808) : wrap64 x = x := by
  unfold wrap64; omega

/-- The code points from one index to another. -/
def seg (cs : List (List UInt8)) (a t : Nat) : List (List UInt8) := (cs.take t).drop a
theorem seg_empty (cs : List (List UInt8)) (a t : Nat) (h : t ≤ a) : seg cs a t = [] := by
  unfold seg; exact List.drop_eq_nil_of_le (by rw [List.length_take]; omega)
theorem seg_step (cs : List (List UInt8)) (a k : Nat) (h : a ≤ k) (hk : k < cs.length) : seg cs a (k + 1) = seg cs a k ++ [cs.getD k []] := by
  unfold seg
  rw [List.take_succ_eq_append_getElem hk, List.drop_append_of_le_length (by rw [List.length_take]; omega)]
  simp [List.getD, hk]
theorem seg_all (cs : List (List UInt8)) (a k t : Nat) (h : cs.length ≤ k) (ht : cs.length ≤ t) : seg cs a k = seg cs a t := by
  unfold seg; rw [List.take_of_length_le h, List.take_of_length_le ht]
theorem seg_len (cs : List (List UInt8)) (a t : Nat) : (seg cs a t).flatten.length ≤ cs.flatten.length := by
  unfold seg
  have h1 := congrArg (fun l : List (List UInt8) => l.flatten.length) (List.take_append_drop a (cs.take t))
  have h2 := congrArg (fun l : List (List UInt8) => l.flatten.length) (List.take_append_drop t cs)
  simp only [List.flatten_append, List.length_append] at h1 h2
  omega

theorem slice_same (cs : List (List UInt8)) (a t : Int) : seg cs (max a 0).toNat (min t (cs.length : Int)).toNat = seg cs a.toNat t.toNat := by
  rw [show (max a 0).toNat = a.toNat from by omega]
  by_cases h : t ≤ (cs.length : Int)
  · rw [show min t (cs.length : Int) = t from by omega]
  · exact seg_all cs _ _ _ (by omega) (by omega)

theorem seg_join (cs : List (List UInt8)) (k : Nat) (h : k ≤ cs.length) : (seg cs 0 k).flatten ++ (seg cs k cs.length).flatten = cs.flatten ∧ (seg cs 0 k).length = k := by
  have e1 : seg cs 0 k = cs.take k := by unfold seg; rw [List.drop_zero]
  have e2 : seg cs k cs.length = cs.drop k := by unfold seg; rw [List.take_length]
  rw [e1, e2, ← List.flatten_append, List.take_append_drop, List.length_take]
  exact ⟨rfl, by omega⟩
theorem seg_good {cs : List (List UInt8)} (h : ∀ c ∈ cs, Txt.Good c) (a t : Nat) : Txt.chunks (seg cs a t).flatten = seg cs a t := by
  have hg : ∀ c ∈ seg cs a t, Txt.Good c := fun c hc => h c (List.mem_of_mem_take (List.mem_of_mem_drop hc))
  have := Txt.chunks_flat hg []
  rwa [List.append_nil, Txt.chunks_nil, List.append_nil] at this

/-- The code points with their indices. -/
def enum (cs : List (List UInt8)) : List (Nat × List UInt8) := (List.range cs.length).map fun i => (i, cs.getD i [])
theorem enum_length (cs : List (List UInt8)) : (enum cs).length = cs.length := by simp [enum]
theorem enum_next {cs : List (List UInt8)} {pre : List (Nat × List UInt8)} {x : Nat × List UInt8} (h : pre ++ [x] <+: enum cs) : x = (pre.length, cs.getD pre.length []) := by
  obtain ⟨r, hr⟩ := h
  have hlt : pre.length < (enum cs).length := by rw [← hr]; simp
  have h1 : (enum cs)[pre.length]? = some x := by rw [← hr]; simp
  rw [enum_length] at hlt
  simp [enum, hlt] at h1
  rw [← h1]; simp [List.getD, hlt]
abbrev encP (x : Nat × List UInt8) : Array Value := #[.int .i64 (x.1 : Nat), .int .i32 (code x.2 : Nat)]
theorem code_lt (l : List UInt8) : code l < 2097152 := by
  unfold code
  split
  · rename_i a; have := a.toNat_lt; omega
  · omega
  · omega
  · omega
  · omega

theorem enum_prefix_take (cs : List (List UInt8)) (k : Nat) : (enum cs).take k <+: enum cs := List.take_prefix _ _
theorem drop_cons {cs : List (List UInt8)} {k : Nat} {c : List UInt8} {r : List (List UInt8)} (h : cs.drop k = c :: r) :
    k < cs.length ∧ cs.getD k [] = c ∧ cs.drop (k + 1) = r ∧ (enum cs).take (k + 1) = (enum cs).take k ++ [(k, c)] := by
  have hk : k < cs.length := by
    have := congrArg List.length h
    rw [List.length_drop, List.length_cons] at this
    omega
  rw [List.drop_eq_getElem_cons hk, List.cons.injEq] at h
  have hc : cs.getD k [] = c := by simp [List.getD, hk, h.1]
  refine ⟨hk, hc, h.2, ?_⟩
  have hke : k < (enum cs).length := by rw [enum_length]; exact hk
  rw [List.take_succ_eq_append_getElem hke]
  simp [enum, hk, h.1]

/-- The number of the first code point of a text is the rune that a range over it yields first. -/
theorem step_code {l : List UInt8} (hne : l ≠ []) : code (Lib.encodeRune ((Txt.step l).1 : Nat)) = (Txt.step l).1 := by
  by_cases h : Txt.size l = 0
  · rw [Txt.step_bad hne h]; decide
  · have hb := Txt.begins_of h
    rw [(Txt.step_begins hb).2.1]
    generalize Txt.size l = n at hb
    cases hb with
    | one a r h' => rw [Txt.step_one a r h']; rfl
    | two a b r h1 h2 h3 => rw [Txt.step_two a b r h1 h2 h3]; rfl
    | three a b c r h1 h2 h3 h4 => rw [Txt.step_three a b c r h1 h2 h3 h4]; rfl
    | four a b c d r h1 h2 h3 h4 h5 => rw [Txt.step_four a b c d r h1 h2 h3 h4 h5]; rfl
/-- A sequence is what its number is encoded as. -/
theorem good_code {c : List UInt8} (h : Txt.Good c) : Lib.encodeRune ((code c : Nat) : Int) = c := by
  have hs := (Txt.step_begins h).2.1
  rw [List.take_length] at hs
  have hne : c ≠ [] := fun e => by subst e; have := h.four_at_most.1; simp at this
  have h2 := step_code hne
  rw [hs] at h2
  rw [h2, hs]
theorem good_cells {c : List UInt8} (h : Txt.Good c) : Lib.runeCells ((code c : Nat) : Int) = Lib.byteCells c := by
  rw [← Lib.byteCells_encodeRune, good_code h]

end Go.Proofs.YtoiednecchbmnaaDoor
