/- The parts of a string that the library cuts out rune by rune are those that are cut out byte by byte. No program is imported. -/
import Derived.Test.YtfiegofcjinmcaaTDcd
import Derived.Test.YtfiegofcjinmcaaSpc
import Derived.Lib.FieldsP
namespace Go.Proofs.Ytfiegofcjinmcaa.Txt

/-- White space, of a rune. -/
def spR (r : Nat) : Bool := decide (r < 128) && sp (UInt8.ofNat r)
theorem sp_high {c : UInt8} (h : 128 ≤ c.toNat) : sp c = false := by
  unfold sp
  simp; omega
theorem step_high {a : UInt8} {r : List UInt8} (h : 128 ≤ a.toNat) : ∀ c ∈ (a :: r).take (step (a :: r)).2, sp c = false := by
  by_cases hz : size (a :: r) = 0
  · rw [step_bad (by simp) hz]
    intro c hc
    simp at hc
    subst hc
    exact sp_high h
  · have hb := begins_of hz
    rw [(step_begins hb).1]
    generalize size (a :: r) = n at hb
    cases hb with
    | one a r h' => omega
    | two a b r h1 h2 h3 =>
      rw [cont_iff] at h3
      intro c hc
      simp at hc
      rcases hc with rfl | rfl <;> exact sp_high (by omega)
    | three a b c r h1 h2 h3 h4 =>
      have := snd_le h3
      rw [cont_iff] at h4
      intro c hc
      simp at hc
      rcases hc with rfl | rfl | rfl <;> exact sp_high (by omega)
    | four a b c d r h1 h2 h3 h4 h5 =>
      have := snd_le h3
      rw [cont_iff] at h4 h5
      intro c hc
      simp at hc
      rcases hc with rfl | rfl | rfl | rfl <;> exact sp_high (by omega)
theorem fields_run (m p r : List UInt8) (h : ∀ c ∈ m, sp c = false) : fields p (m ++ r) = fields (p ++ m) r := by
  induction m generalizing p with
  | nil => simp
  | cons a m ih =>
    have ha := h a List.mem_cons_self
    rw [List.cons_append, fields, if_neg (by rw [ha]; simp), ih _ (fun c hc => h c (List.mem_cons_of_mem _ hc))]
    simp

/-- The bytes from one place to another. -/
def sub (l : List UInt8) (a b : Nat) : List UInt8 := (l.drop a).take (b - a)
theorem sub_ext (s : ByteArray) (a b : Nat) : (s.extract a b).data.toList = sub s.data.toList a b := by
  unfold sub
  have : (s.extract a b).data.toList = (s.data.toList.extract a b) := by
    rw [ByteArray.data_extract]; simp
  rw [this, List.extract_eq_take_drop]
def open_ (l : List UInt8) (st : Option Nat) (pos : Nat) : List UInt8 := match st with | none => [] | some a => sub l a pos
theorem sub_more (l : List UInt8) (a pos n : Nat) (h : a ≤ pos) : sub l a (pos + n) = sub l a pos ++ (l.drop pos).take n := by
  unfold sub
  rw [show pos + n - a = (pos - a) + n from by omega, List.take_add, List.drop_drop, show a + (pos - a) = pos from by omega]
theorem sub_ne (l : List UInt8) (a pos : Nat) (h : a < pos) (hp : pos ≤ l.length) : sub l a pos ≠ [] := by
  intro e
  have := congrArg List.length e
  unfold sub at this
  rw [List.length_take, List.length_drop, List.length_nil] at this
  omega

theorem spans_fields (s : ByteArray) : ∀ (f pos : Nat) (st : Option Nat) (acc : List (Nat × Nat)), s.size ≤ pos + f → pos ≤ s.size → (∀ a, st = some a → a < pos) →
    (Lib.closeSpans s (Lib.spansFromP spR s f pos st acc)).map (fun x => sub s.data.toList x.1 x.2) = acc.map (fun x => sub s.data.toList x.1 x.2) ++ fields (open_ s.data.toList st pos) (s.data.toList.drop pos) := by
  have hll : s.data.toList.length = s.size := rfl
  intro f
  induction f with
  | zero =>
    intro pos st acc h hp hst
    have hd : s.data.toList.drop pos = [] := List.drop_eq_nil_of_le (by omega)
    obtain rfl : pos = s.size := by omega
    rw [hd]
    cases st with
    | none => simp [Lib.spansFromP, Lib.closeSpans, open_, fields]
    | some a =>
      have := sub_ne s.data.toList a s.size (hst a rfl) (by omega)
      simp [Lib.spansFromP, Lib.closeSpans, open_, fields, this]
  | succ f ih =>
    intro pos st acc h hp hst
    by_cases hlt : pos < s.size
    · have hd : s.data.toList.drop pos ≠ [] := fun e => by have := List.drop_eq_nil_iff.1 e; omega
      have hw := step_width hd
      rw [List.length_drop] at hw
      unfold Lib.spansFromP
      rw [if_pos hlt, decode_step]
      obtain ⟨a, r, har⟩ : ∃ a r, s.data.toList.drop pos = a :: r := by
        cases hc : s.data.toList.drop pos with
        | nil => exact absurd hc hd
        | cons a r => exact ⟨a, r, rfl⟩
      have hdd : ∀ n, s.data.toList.drop (pos + n) = (a :: r).drop n := fun n => by rw [← har, List.drop_drop]
      by_cases h128 : a.toNat < 128
      · have hs1 : step (s.data.toList.drop pos) = (a.toNat, 1) := by rw [har]; exact step_ascii.1 h128
        have hpa : spR a.toNat = sp a := by unfold spR; simp [h128]
        rw [hs1]
        show (Lib.closeSpans s (if spR a.toNat = true then _ else _)).map _ = _
        rw [hpa]
        have hnx := hdd 1
        rw [List.drop_succ_cons, List.drop_zero] at hnx
        cases hsp : sp a with
        | true =>
          rw [if_pos rfl, har, fields, if_pos hsp]
          cases st with
          | none =>
            show (Lib.closeSpans s (Lib.spansFromP spR s f (pos + 1) none acc)).map _ = _
            rw [ih (pos + 1) none acc (by omega) (by omega) (fun a e => by cases e), hnx]
            simp [open_]
          | some b =>
            have hne := sub_ne s.data.toList b pos (hst b rfl) (by omega)
            show (Lib.closeSpans s (Lib.spansFromP spR s f (pos + 1) none (acc ++ [(b, pos)]))).map _ = _
            rw [ih (pos + 1) none _ (by omega) (by omega) (fun a e => by cases e), hnx]
            simp [open_, hne]
        | false =>
          rw [if_neg (by simp), har, fields, if_neg (by rw [hsp]; simp)]
          cases st with
          | none =>
            show (Lib.closeSpans s (Lib.spansFromP spR s f (pos + 1) (some pos) acc)).map _ = _
            rw [ih (pos + 1) (some pos) acc (by omega) (by omega) (fun a e => by cases e; omega), hnx]
            have := sub_more s.data.toList pos pos 1 (Nat.le_refl _)
            simp only [open_]
            rw [this, har]
            simp [sub]
          | some b =>
            have hb := hst b rfl
            show (Lib.closeSpans s (Lib.spansFromP spR s f (pos + 1) (some b) acc)).map _ = _
            rw [ih (pos + 1) (some b) acc (by omega) (by omega) (fun a e => by cases e; omega), hnx]
            have := sub_more s.data.toList b pos 1 (by omega)
            simp only [open_]
            rw [this, har]
            simp
      · have hhi : 128 ≤ (step (a :: r)).1 := step_ascii.2 (by omega)
        have hpa : spR (step (a :: r)).1 = false := by unfold spR; simp; omega
        have hrun := step_high (r := r) (by omega : 128 ≤ a.toNat)
        rw [har] at hw ⊢
        rw [hpa]
        obtain ⟨n, hn⟩ : ∃ n, (step (a :: r)).2 = n := ⟨_, rfl⟩
        rw [hn] at hw hrun ⊢
        have hnx := hdd n
        have hft : ∀ p, fields p (a :: r) = fields (p ++ (a :: r).take n) ((a :: r).drop n) := fun p => by
          conv => lhs; rw [← List.take_append_drop n (a :: r)]
          exact fields_run _ _ _ hrun
        rw [if_neg (by simp), hft]
        cases st with
        | none =>
          show (Lib.closeSpans s (Lib.spansFromP spR s f (pos + n) (some pos) acc)).map _ = _
          rw [ih (pos + n) (some pos) acc (by omega) (by omega) (fun a e => by cases e; omega), hnx]
          have := sub_more s.data.toList pos pos n (Nat.le_refl _)
          simp only [open_]
          rw [this, har]
          simp [sub]
        | some b =>
          have hb := hst b rfl
          show (Lib.closeSpans s (Lib.spansFromP spR s f (pos + n) (some b) acc)).map _ = _
          rw [ih (pos + n) (some b) acc (by omega) (by omega) (fun a e => by cases e; omega), hnx]
          have := sub_more s.data.toList b pos n (by omega)
          simp only [open_]
          rw [this, har]
    · have hd : s.data.toList.drop pos = [] := List.drop_eq_nil_of_le (by omega)
      obtain rfl : pos = s.size := by omega
      unfold Lib.spansFromP
      rw [if_neg hlt, hd]
      cases st with
      | none => simp [Lib.closeSpans, open_, fields]
      | some a =>
        have := sub_ne s.data.toList a s.size (hst a rfl) (by omega)
        simp [Lib.closeSpans, open_, fields, this]

/-- The library's parts are ours. -/
theorem goFields_eq (s : ByteArray) : (Lib.goFieldsP spR s).map (fun x => x.data.toList) = fields [] s.data.toList := by
  have h := spans_fields s s.size 0 none [] (by omega) (by omega) (fun a e => by cases e)
  rw [List.drop_zero] at h
  unfold Lib.goFieldsP Lib.spansOfP
  rw [List.map_map]
  have : ((fun x : ByteArray => x.data.toList) ∘ fun x : Nat × Nat => s.extract x.1 x.2) = fun x => sub s.data.toList x.1 x.2 := by
    funext x
    exact sub_ext s x.1 x.2
  rw [this, h]
  rfl

end Go.Proofs.Ytfiegofcjinmcaa.Txt
