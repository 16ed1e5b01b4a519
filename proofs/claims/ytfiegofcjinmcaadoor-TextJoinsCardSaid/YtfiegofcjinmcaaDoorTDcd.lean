/- Taking a string apart rune by rune, as a range over it does, gives the code points of its repaired form. No program is imported. -/
import Derived.Test.YtfiegofcjinmcaaDoorTxt
import Derived.Lib.DecodeN
import Derived.Lib.RuneBytes
import Derived.Lib.RuneCount
import Derived.Lib.ValidLaws
namespace Go.Proofs.YtfiegofcjinmcaaDoor.Txt

/-- The byte at a place, 0 beyond the end. -/
def at0 (l : List UInt8) (k : Nat) : Nat := (l.getD k 0).toNat
/-- The first rune of a list of bytes, and its width. -/
def step (l : List UInt8) : Nat × Nat := Lib.decodeN l.length (at0 l 0) (at0 l 1) (at0 l 2) (at0 l 3)

theorem snd_le {a b : UInt8} (h : snd a b = true) : 128 ≤ b.toNat ∧ b.toNat ≤ 191 := by
  have := snd_cont h
  simpa [cont] using this
theorem snd_min {a b : UInt8} (h : snd a b = true) : (a.toNat = 224 → 160 ≤ b.toNat) ∧ (a.toNat = 237 → b.toNat ≤ 159) ∧ (a.toNat = 240 → 144 ≤ b.toNat) ∧ (a.toNat = 244 → b.toNat ≤ 143) := by
  unfold snd at h
  refine ⟨fun e => ?_, fun e => ?_, fun e => ?_, fun e => ?_⟩ <;> simp [e] at h <;> omega
theorem snd_of {a b : UInt8} (h : 128 ≤ b.toNat ∧ b.toNat ≤ 191) (h1 : a.toNat = 224 → 160 ≤ b.toNat) (h2 : a.toNat = 237 → b.toNat ≤ 159) (h3 : a.toNat = 240 → 144 ≤ b.toNat) (h4 : a.toNat = 244 → b.toNat ≤ 143) : snd a b = true := by
  unfold snd cont
  repeat' split
  all_goals (simp; omega)
theorem cont_iff (b : UInt8) : cont b = true ↔ 128 ≤ b.toNat ∧ b.toNat ≤ 191 := by simp [cont]
theorem cons_eq {a b : UInt8} {l m : List UInt8} (h : a = b) (h2 : l = m) : a :: l = b :: m := by rw [h, h2]
theorem byte_of (x : Int) (b : UInt8) (h : x = b.toNat) : x.toNat.toUInt8 = b := by
  subst h
  simp

theorem step_one (a : UInt8) (r : List UInt8) (h : a.toNat ≤ 127) : step (a :: r) = (a.toNat, 1) := by
  have : a.toNat < 128 := by omega
  simp [step, at0, Lib.decodeN, this]
theorem step_two (a b : UInt8) (r : List UInt8) (h1 : 194 ≤ a.toNat) (h2 : a.toNat ≤ 223) (h3 : cont b = true) : step (a :: b :: r) = (a.toNat % 32 * 64 + b.toNat % 64, 2) := by
  rw [cont_iff] at h3
  have e1 : ¬ a.toNat < 128 := by omega
  have e2 : a.toNat / 32 = 6 ∧ 1 < (a :: b :: r).length ∧ b.toNat / 64 = 2 := ⟨by omega, by simp, by omega⟩
  have e3 : a.toNat % 32 * 64 + b.toNat % 64 ≥ 128 := by omega
  show Lib.decodeN _ a.toNat b.toNat _ _ = _
  unfold Lib.decodeN
  rw [if_neg e1, if_pos e2, if_pos e3]
theorem step_three (a b c : UInt8) (r : List UInt8) (h1 : 224 ≤ a.toNat) (h2 : a.toNat ≤ 239) (h3 : snd a b = true) (h4 : cont c = true) :
    step (a :: b :: c :: r) = (a.toNat % 16 * 4096 + b.toNat % 64 * 64 + c.toNat % 64, 3) := by
  rw [cont_iff] at h4
  have hb := snd_le h3
  have hm := snd_min h3
  have e1 : ¬ a.toNat < 128 := by omega
  have e2 : ¬ (a.toNat / 32 = 6 ∧ 1 < (a :: b :: c :: r).length ∧ b.toNat / 64 = 2) := fun h => by omega
  have e3 : a.toNat / 16 = 14 ∧ (1 < (a :: b :: c :: r).length ∧ b.toNat / 64 = 2) ∧ (2 < (a :: b :: c :: r).length ∧ c.toNat / 64 = 2) := ⟨by omega, ⟨by simp, by omega⟩, by simp, by omega⟩
  show Lib.decodeN _ a.toNat b.toNat c.toNat _ = _
  unfold Lib.decodeN
  rw [if_neg e1, if_neg e2, if_pos e3, if_pos (by omega)]
theorem step_four (a b c d : UInt8) (r : List UInt8) (h1 : 240 ≤ a.toNat) (h2 : a.toNat ≤ 244) (h3 : snd a b = true) (h4 : cont c = true) (h5 : cont d = true) :
    step (a :: b :: c :: d :: r) = (a.toNat % 8 * 262144 + b.toNat % 64 * 4096 + c.toNat % 64 * 64 + d.toNat % 64, 4) := by
  rw [cont_iff] at h4 h5
  have hb := snd_le h3
  have hm := snd_min h3
  have e1 : ¬ a.toNat < 128 := by omega
  have e2 : ¬ (a.toNat / 32 = 6 ∧ 1 < (a :: b :: c :: d :: r).length ∧ b.toNat / 64 = 2) := fun h => by omega
  have e3 : ¬ (a.toNat / 16 = 14 ∧ (1 < (a :: b :: c :: d :: r).length ∧ b.toNat / 64 = 2) ∧ (2 < (a :: b :: c :: d :: r).length ∧ c.toNat / 64 = 2)) := fun h => by omega
  have e4 : a.toNat / 8 = 30 ∧ (1 < (a :: b :: c :: d :: r).length ∧ b.toNat / 64 = 2) ∧ (2 < (a :: b :: c :: d :: r).length ∧ c.toNat / 64 = 2) ∧ (3 < (a :: b :: c :: d :: r).length ∧ d.toNat / 64 = 2) :=
    ⟨by omega, ⟨by simp, by omega⟩, ⟨by simp, by omega⟩, by simp, by omega⟩
  show Lib.decodeN _ a.toNat b.toNat c.toNat d.toNat = _
  unfold Lib.decodeN
  rw [if_neg e1, if_neg e2, if_neg e3, if_pos e4, if_pos (by omega)]

/-- Where a list begins with a valid sequence. -/
theorem step_begins {l : List UInt8} {n : Nat} (h : Begins l n) : (step l).2 = n ∧ Lib.encodeRune ((step l).1 : Nat) = l.take n ∧ (n = 1 → (step l).1 < 128) := by
  cases h with
  | one a r h =>
    rw [step_one a r h]
    refine ⟨rfl, ?_, fun _ => by show a.toNat < 128; omega⟩
    show (Lib.encodeRuneZ (a.toNat : Nat)).map _ = [a]
    rw [Lib.encodeRuneZ_one (by omega) (by omega)]
    simp
  | two a b r h1 h2 h3 =>
    rw [step_two a b r h1 h2 h3]
    rw [cont_iff] at h3
    refine ⟨rfl, ?_, fun e => by omega⟩
    show (Lib.encodeRuneZ ((a.toNat % 32 * 64 + b.toNat % 64 : Nat) : Int)).map _ = [a, b]
    rw [Lib.encodeRuneZ_two (by omega) (by omega)]
    exact cons_eq (byte_of _ a (by omega)) (cons_eq (byte_of _ b (by omega)) rfl)
  | three a b c r h1 h2 h3 h4 =>
    rw [step_three a b c r h1 h2 h3 h4]
    rw [cont_iff] at h4
    have hb := snd_le h3
    have hm := snd_min h3
    refine ⟨rfl, ?_, fun e => by omega⟩
    show (Lib.encodeRuneZ ((a.toNat % 16 * 4096 + b.toNat % 64 * 64 + c.toNat % 64 : Nat) : Int)).map _ = [a, b, c]
    rw [Lib.encodeRuneZ_three (by omega)]
    exact cons_eq (byte_of _ a (by omega)) (cons_eq (byte_of _ b (by omega)) (cons_eq (byte_of _ c (by omega)) rfl))
  | four a b c d r h1 h2 h3 h4 h5 =>
    rw [step_four a b c d r h1 h2 h3 h4 h5]
    rw [cont_iff] at h4 h5
    have hb := snd_le h3
    have hm := snd_min h3
    refine ⟨rfl, ?_, fun e => by omega⟩
    show (Lib.encodeRuneZ ((a.toNat % 8 * 262144 + b.toNat % 64 * 4096 + c.toNat % 64 * 64 + d.toNat % 64 : Nat) : Int)).map _ = [a, b, c, d]
    rw [Lib.encodeRuneZ_four (by omega) (by omega)]
    exact cons_eq (byte_of _ a (by omega)) (cons_eq (byte_of _ b (by omega)) (cons_eq (byte_of _ c (by omega)) (cons_eq (byte_of _ d (by omega)) rfl)))

/-- Where it does not. -/
theorem step_bad {l : List UInt8} (hne : l ≠ []) (h : size l = 0) : step l = (65533, 1) := by
  have no : ∀ n, ¬ Begins l n := fun n hb => by have := size_begins hb; have := hb.four_at_most; omega
  unfold step Lib.decodeN
  match l, hne with
  | a :: r, _ =>
  have ha : at0 (a :: r) 0 = a.toNat := rfl
  have h256 := a.toNat_lt
  by_cases e1 : a.toNat < 128
  · exact absurd (.one a r (by omega)) (no 1)
  rw [ha, if_neg e1]
  by_cases e2 : a.toNat / 32 = 6 ∧ (1 < (a :: r).length ∧ at0 (a :: r) 1 / 64 = 2)
  · rw [if_pos e2]
    match r, e2 with
    | b :: r, e2 =>
      have hb : at0 (a :: b :: r) 1 = b.toNat := rfl
      rw [hb] at e2 ⊢
      have hb2 := b.toNat_lt
      by_cases e3 : a.toNat % 32 * 64 + b.toNat % 64 ≥ 128
      · exact absurd (.two a b r (by omega) (by omega) ((cont_iff b).2 (by omega))) (no 2)
      · rw [if_neg e3]
    | [], e2 => exact absurd e2.2.1 (by simp)
  rw [if_neg e2]
  by_cases e3 : a.toNat / 16 = 14 ∧ (1 < (a :: r).length ∧ at0 (a :: r) 1 / 64 = 2) ∧ (2 < (a :: r).length ∧ at0 (a :: r) 2 / 64 = 2)
  · rw [if_pos e3]
    match r, e3 with
    | b :: c :: r, e3 =>
      have hb : at0 (a :: b :: c :: r) 1 = b.toNat := rfl
      have hc : at0 (a :: b :: c :: r) 2 = c.toNat := rfl
      rw [hb, hc] at e3 ⊢
      have hb2 := b.toNat_lt
      have hc2 := c.toNat_lt
      split
      · rename_i e4
        exact absurd (.three a b c r (by omega) (by omega) (snd_of (by omega) (by omega) (by omega) (by omega) (by omega)) ((cont_iff c).2 (by omega))) (no 3)
      · rfl
    | [_], e3 => exact absurd e3.2.2.1 (by simp)
    | [], e3 => exact absurd e3.2.1.1 (by simp)
  rw [if_neg e3]
  by_cases e4 : a.toNat / 8 = 30 ∧ (1 < (a :: r).length ∧ at0 (a :: r) 1 / 64 = 2) ∧ (2 < (a :: r).length ∧ at0 (a :: r) 2 / 64 = 2) ∧ (3 < (a :: r).length ∧ at0 (a :: r) 3 / 64 = 2)
  · rw [if_pos e4]
    match r, e4 with
    | b :: c :: d :: r, e4 =>
      have hb : at0 (a :: b :: c :: d :: r) 1 = b.toNat := rfl
      have hc : at0 (a :: b :: c :: d :: r) 2 = c.toNat := rfl
      have hd : at0 (a :: b :: c :: d :: r) 3 = d.toNat := rfl
      rw [hb, hc, hd] at e4 ⊢
      have hb2 := b.toNat_lt
      have hc2 := c.toNat_lt
      have hd2 := d.toNat_lt
      split
      · rename_i e5
        exact absurd (.four a b c d r (by omega) (by omega) (snd_of (by omega) (by omega) (by omega) (by omega) (by omega)) ((cont_iff c).2 (by omega)) ((cont_iff d).2 (by omega))) (no 4)
      · rfl
    | [_, _], e4 => exact absurd e4.2.2.2.1 (by simp)
    | [_], e4 => exact absurd e4.2.2.1.1 (by simp)
    | [], e4 => exact absurd e4.2.1.1 (by simp)
  rw [if_neg e4]

theorem enc_bad : Lib.encodeRune ((65533 : Nat) : Int) = bad := by decide
/-- One step. -/
theorem chunks_step {l : List UInt8} (hne : l ≠ []) : chunks l = Lib.encodeRune ((step l).1 : Nat) :: chunks (l.drop (step l).2) := by
  by_cases h : size l = 0
  · rw [step_bad hne h, enc_bad]
    match l, hne with
    | a :: r, _ => exact chunks_bad h
  · have hb := begins_of h
    obtain ⟨h1, h2, _⟩ := step_begins hb
    rw [h1, h2]
    exact chunks_good h
theorem step_width {l : List UInt8} (hne : l ≠ []) : 1 ≤ (step l).2 ∧ (step l).2 ≤ l.length := by
  have hl : 1 ≤ l.length := List.length_pos_iff.2 hne
  by_cases h : size l = 0
  · rw [step_bad hne h]; exact ⟨Nat.le_refl _, hl⟩
  · have hb := begins_of h
    obtain ⟨h1, _, _⟩ := step_begins hb
    rw [h1]; exact ⟨hb.four_at_most.1, hb.le⟩
/-- An ASCII rune is its byte; every other one comes of a byte from 128 on. -/
theorem step_ascii {a : UInt8} {r : List UInt8} : (a.toNat < 128 → step (a :: r) = (a.toNat, 1)) ∧ (128 ≤ a.toNat → 128 ≤ (step (a :: r)).1) := by
  refine ⟨fun h => step_one a r (by omega), fun h => ?_⟩
  by_cases hz : size (a :: r) = 0
  · rw [step_bad (by simp) hz]; show 128 ≤ 65533; omega
  · have hb := begins_of hz
    generalize size (a :: r) = n at hb
    cases hb with
    | one a r h' => omega
    | two a b r h1 h2 h3 => rw [step_two a b r h1 h2 h3]; rw [cont_iff] at h3; show 128 ≤ _ + _; omega
    | three a b c r h1 h2 h3 h4 => rw [step_three a b c r h1 h2 h3 h4]; have := snd_le h3; have := snd_min h3; show 128 ≤ _ + _; omega
    | four a b c d r h1 h2 h3 h4 h5 => rw [step_four a b c d r h1 h2 h3 h4 h5]; have := snd_le h3; have := snd_min h3; show 128 ≤ _ + _; omega

theorem get0 (s : ByteArray) (k : Nat) : s.get! k = s.data.toList.getD k 0 := by
  cases s with
  | mk d =>
    show d[k]! = _
    by_cases h : k < d.size
    · rw [getElem!_pos d k h, List.getD_eq_getElem?_getD]
      simp [h]
    · rw [getElem!_neg d k h, List.getD_eq_getElem?_getD]
      simp [h]
      rfl
/-- It is the machine's own. -/
theorem decode_step (s : ByteArray) (pos : Nat) : Utf8.decode s pos = step (s.data.toList.drop pos) := by
  rw [Lib.decode_at]
  have hk : ∀ k, (s.get! (pos + k)).toNat = at0 (s.data.toList.drop pos) k := by
    intro k
    rw [get0]
    simp [at0, List.getD_eq_getElem?_getD]
  have h0 := hk 0
  rw [Nat.add_zero] at h0
  rw [h0, hk 1, hk 2, hk 3]
  unfold step
  congr 1
  rw [List.length_drop]; rfl

theorem runeCountFrom_eq (s : ByteArray) : ∀ fuel pos, s.size ≤ pos + fuel → Lib.runeCountFrom s fuel pos = (chunks (s.data.toList.drop pos)).length
  | 0, pos, h => by
    have : s.data.toList.drop pos = [] := List.drop_eq_nil_of_le (by show s.size ≤ _; omega)
    rw [this, chunks_nil]; rfl
  | f + 1, pos, h => by
    unfold Lib.runeCountFrom
    by_cases hp : pos < s.size
    · have hne : s.data.toList.drop pos ≠ [] := fun e => by have h2 : s.size ≤ pos := List.drop_eq_nil_iff.1 e; omega
      have hw := step_width hne
      rw [if_pos hp, chunks_step hne, decode_step, runeCountFrom_eq s f _ (by omega), List.drop_drop]
      simp only [List.length_cons]
      omega
    · have : s.data.toList.drop pos = [] := List.drop_eq_nil_of_le (by show s.size ≤ _; omega)
      rw [if_neg hp, this, chunks_nil]; rfl
theorem runeCount_eq (s : ByteArray) : Lib.runeCount s = (chunks s.data.toList).length := by
  have := runeCountFrom_eq s s.size 0 (by omega)
  rwa [List.drop_zero] at this

theorem rep_ne {l : List UInt8} (hne : l ≠ []) (h : size l = 0) : rep l ≠ l := by
  match l, hne with
  | a :: r, _ =>
    rw [rep_bad h]
    intro e
    simp only [bad, List.cons_append, List.nil_append, List.cons.injEq] at e
    obtain ⟨e0, e⟩ := e
    generalize rep r = t at e
    subst e0 e
    have h3 : size (239 :: 191 :: 189 :: t) = 3 := size_begins (begins_bad t)
    omega
theorem decodeL_step (l : List UInt8) : Lib.decodeL l = step l := by
  unfold Lib.decodeL
  rw [decode_step]
  rfl
theorem validD_eq (l : List UInt8) : Lib.validD l = decide (rep l = l) := by
  induction hn : l.length using Nat.strongRecOn generalizing l with
  | _ n ih =>
    by_cases hne : l = []
    · subst hne; rw [rep_nil]; rfl
    · rw [Lib.validD_step l hne, decodeL_step]
      by_cases h : size l = 0
      · rw [step_bad hne h, if_pos ⟨rfl, rfl⟩, decide_eq_false (rep_ne hne h)]
      · have hb := begins_of h
        obtain ⟨h1, h2, h3⟩ := step_begins hb
        have hw := hb.four_at_most
        have hle := hb.le
        rw [if_neg (fun e => by have := h3 (by omega); omega), h1, ih (l.drop (size l)).length (by rw [List.length_drop]; omega) _ rfl, rep_good h]
        congr 1
        conv => rhs; rhs; rw [← List.take_append_drop (size l) l]
        rw [List.append_cancel_left_eq]

end Go.Proofs.YtfiegofcjinmcaaDoor.Txt
