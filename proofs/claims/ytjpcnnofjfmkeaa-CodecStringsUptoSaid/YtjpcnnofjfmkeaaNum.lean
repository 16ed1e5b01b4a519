/- The encoding of numbers in base 128, and the decoder that both programs run, as plain functions: what was encoded is decoded, what is decoded is the encoding, and a beginning of an encoding is not decoded. No program is imported. -/
import Derived.WalkKit
import Derived.Laws.BitsAllLaws
namespace Go.Proofs.Ytjpcnnofjfmkeaa.Num

def top : Nat := 18446744073709551616
def dig (b : UInt8) : Nat := b.toNat % 128

def enc (n : Nat) : List UInt8 :=
  if h : n < 128 then [UInt8.ofNat n] else UInt8.ofNat (128 + n % 128) :: enc (n / 128)
termination_by n
decreasing_by omega

def dec (i acc : Nat) : List UInt8 → Option (Nat × Nat)
  | [] => none
  | b :: l =>
    if top ≤ dig b * 2 ^ (7 * i) then none
    else if 128 ≤ b.toNat then dec (i + 1) (acc + dig b * 2 ^ (7 * i)) l
    else if dig b = 0 ∧ 0 < i then none
    else some (acc + dig b * 2 ^ (7 * i), i + 1)

/-- What the decoder returns: 0, 0 if there is no encoding. -/
def decN (l : List UInt8) : Nat × Nat := (dec 0 0 l).getD (0, 0)

theorem enc_small {n : Nat} (h : n < 128) : enc n = [UInt8.ofNat n] := by rw [enc, dif_pos h]
theorem enc_large {n : Nat} (h : ¬ n < 128) : enc n = UInt8.ofNat (128 + n % 128) :: enc (n / 128) := by rw [enc, dif_neg h]
theorem enc_pos (n : Nat) : 0 < (enc n).length := by
  by_cases h : n < 128
  · rw [enc_small h]; simp
  · rw [enc_large h]; simp

theorem pow_next (i : Nat) : 2 ^ (7 * (i + 1)) = 128 * 2 ^ (7 * i) := by
  rw [Nat.mul_add, Nat.pow_add]; omega
theorem pow_pos (i : Nat) : 0 < 2 ^ (7 * i) := Nat.pow_pos (by decide)

theorem enc_len {j n : Nat} (h : n < 128 ^ (j + 1)) : (enc n).length ≤ j + 1 := by
  induction j generalizing n with
  | zero => rw [enc_small (by omega)]; simp
  | succ j ih =>
    by_cases hn : n < 128
    · rw [enc_small hn]; simp
    · rw [enc_large hn]
      have : n / 128 < 128 ^ (j + 1) := by
        rw [Nat.div_lt_iff_lt_mul (by decide)]
        rw [Nat.pow_succ] at h; omega
      have := ih this
      simp; omega
theorem enc_len10 {n : Nat} (h : n < top) : (enc n).length ≤ 10 := enc_len (j := 9) (by unfold top at h; omega)

theorem dec_enc (n : Nat) : ∀ (i acc : Nat) (rest : List UInt8), acc + n * 2 ^ (7 * i) < top → (n ≠ 0 ∨ i = 0) →
    dec i acc (enc n ++ rest) = some (acc + n * 2 ^ (7 * i), i + (enc n).length) := by
  induction n using Nat.strongRecOn with
  | _ n ih =>
    intro i acc rest hb h0
    by_cases hn : n < 128
    · rw [enc_small hn]
      have hd : dig (UInt8.ofNat n) = n := by unfold dig; simp; omega
      have hv : (UInt8.ofNat n).toNat = n := by simp; omega
      simp only [List.cons_append, List.nil_append, dec, hd, hv, List.length_cons, List.length_nil]
      rw [if_neg (by omega), if_neg (by omega), if_neg (by omega)]
    · rw [enc_large hn]
      have hd : dig (UInt8.ofNat (128 + n % 128)) = n % 128 := by unfold dig; simp
      have hv : (UInt8.ofNat (128 + n % 128)).toNat = 128 + n % 128 := by simp; omega
      have hs : n * 2 ^ (7 * i) = (n % 128) * 2 ^ (7 * i) + n / 128 * 2 ^ (7 * (i + 1)) := by
        rw [pow_next, ← Nat.mul_assoc, ← Nat.add_mul]
        congr 1; omega
      simp only [List.cons_append, dec, hd, hv, List.length_cons]
      rw [if_neg (by omega), if_pos (by omega), ih (n / 128) (by omega) (i + 1) _ rest (by omega) (by omega)]
      congr 2 <;> omega

theorem decN_enc {n : Nat} (rest : List UInt8) (h : n < top) : decN (enc n ++ rest) = (n, (enc n).length) := by
  unfold decN
  rw [dec_enc n 0 0 rest (by simpa using h) (.inr rfl)]
  simp

theorem enc_of_dec (l : List UInt8) : ∀ {i acc n k : Nat}, dec i acc l = some (n, k) →
    ∃ m, n = acc + m * 2 ^ (7 * i) ∧ i < k ∧ k - i ≤ l.length ∧ l.take (k - i) = enc m ∧ (0 < i → m ≠ 0) := by
  induction l with
  | nil => intro i acc n k h; simp [dec] at h
  | cons b l ih =>
    intro i acc n k h
    have hlt := b.toNat_lt
    simp only [dec] at h
    split at h
    · cases h
    · split at h
      · obtain ⟨m, hn, hk, hl, ht, hm⟩ := ih h
        have hm0 := hm (by omega)
        refine ⟨dig b + 128 * m, ?_, by omega, by simp; omega, ?_, by omega⟩
        · rw [hn, pow_next, Nat.add_mul, Nat.add_assoc, Nat.mul_comm 128 m, Nat.mul_assoc]
        · rw [show k - i = (k - (i + 1)) + 1 from by omega, List.take_succ_cons, ht, enc_large (n := dig b + 128 * m) (by omega)]
          have hd : dig b < 128 := by unfold dig; omega
          congr 1
          · apply UInt8.toNat_inj.1
            unfold dig at *
            simp; omega
          · congr 1; omega
      · split at h
        · cases h
        · rename_i h1 h2 h3
          simp only [Option.some.injEq, Prod.mk.injEq] at h
          obtain ⟨rfl, rfl⟩ := h
          have hd : dig b = b.toNat := by unfold dig; omega
          refine ⟨dig b, rfl, by omega, by simp, ?_, by omega⟩
          rw [show i + 1 - i = 0 + 1 from by omega, List.take_succ_cons, List.take_zero, enc_small (by omega), hd]
          congr 1
          apply UInt8.toNat_inj.1
          simp

/-- What is kept round after round. -/
def Inv (i acc : Nat) : Prop := acc < 2 ^ (7 * i) ∧ acc < top
theorem inv_start : Inv 0 0 := by unfold Inv top; simp
theorem Inv.step {i acc d : Nat} (h : Inv i acc) (hd : d < 128) (hp : ¬ top ≤ d * 2 ^ (7 * i)) : Inv (i + 1) (acc + d * 2 ^ (7 * i)) := by
  obtain ⟨h1, h2⟩ := h
  have hlt : acc + d * 2 ^ (7 * i) < 2 ^ (7 * (i + 1)) := by
    rw [pow_next]
    have : (d + 1) * 2 ^ (7 * i) ≤ 128 * 2 ^ (7 * i) := Nat.mul_le_mul_right _ (by omega)
    rw [Nat.add_mul] at this
    omega
  refine ⟨hlt, ?_⟩
  by_cases hi : i ≤ 9
  · have e : top = 2 ^ (64 - 7 * i) * 2 ^ (7 * i) := by
      rw [← Nat.pow_add, show 64 - 7 * i + 7 * i = 64 from by omega]; rfl
    have hdl : d < 2 ^ (64 - 7 * i) := by
      rw [e] at hp
      exact Nat.lt_of_mul_lt_mul_right (Nat.lt_of_not_le hp)
    have : (d + 1) * 2 ^ (7 * i) ≤ 2 ^ (64 - 7 * i) * 2 ^ (7 * i) := Nat.mul_le_mul_right _ hdl
    rw [Nat.add_mul, ← e] at this
    omega
  · have hd0 : d = 0 := by
      rcases Nat.eq_zero_or_pos d with h | h
      · exact h
      · exfalso
        apply hp
        have h64 : (2 : Nat) ^ 64 ≤ 2 ^ (7 * i) := Nat.pow_le_pow_right (by decide) (by omega)
        have : 1 * 2 ^ (7 * i) ≤ d * 2 ^ (7 * i) := Nat.mul_le_mul_right _ h
        unfold top
        omega
    subst hd0
    simpa using h2

theorem dec_lt (l : List UInt8) : ∀ {i acc n k : Nat}, Inv i acc → dec i acc l = some (n, k) → n < top := by
  induction l with
  | nil => intro i acc n k _ h; simp [dec] at h
  | cons b l ih =>
    intro i acc n k hI h
    simp only [dec] at h
    split at h
    · cases h
    · rename_i hp
      have hs := hI.step (d := dig b) (by unfold dig; omega) hp
      split at h
      · exact ih hs h
      · split at h
        · cases h
        · simp only [Option.some.injEq, Prod.mk.injEq] at h
          obtain ⟨rfl, rfl⟩ := h
          exact hs.2

/-- Behind the tenth digit there is no number. -/
theorem dec_ten (l : List UInt8) : ∀ {i acc : Nat}, 10 ≤ i → dec i acc l = none := by
  induction l with
  | nil => intro i acc _; rfl
  | cons b l ih =>
    intro i acc hi
    simp only [dec]
    split
    · rfl
    · rename_i hp
      have hd0 : dig b = 0 := by
        rcases Nat.eq_zero_or_pos (dig b) with h | h
        · exact h
        · exfalso
          apply hp
          have h64 : (2 : Nat) ^ 64 ≤ 2 ^ (7 * i) := Nat.pow_le_pow_right (by decide) (by omega)
          have : 1 * 2 ^ (7 * i) ≤ dig b * 2 ^ (7 * i) := Nat.mul_le_mul_right _ h
          unfold top
          omega
      split
      · exact ih (by omega)
      · rw [if_pos ⟨hd0, by omega⟩]

theorem dec_more (l : List UInt8) (q : List UInt8) : ∀ {i acc : Nat} {r : Nat × Nat}, dec i acc l = some r → dec i acc (l ++ q) = some r := by
  induction l with
  | nil => intro i acc r h; simp [dec] at h
  | cons b l ih =>
    intro i acc r h
    simp only [dec, List.cons_append] at h ⊢
    split at h
    · cases h
    · split at h
      · rw [if_neg ‹_›, if_pos ‹_›]; exact ih h
      · rw [if_neg ‹_›, if_neg ‹_›]; exact h

/-- All that is said of what was decoded. -/
theorem decN_some {l : List UInt8} (h : (decN l).2 ≠ 0) : dec 0 0 l = some (decN l) ∧ (decN l).1 < top ∧ (decN l).2 ≤ l.length ∧ (decN l).2 ≤ 10 ∧ l.take (decN l).2 = enc (decN l).1 := by
  unfold decN at *
  cases hd : dec 0 0 l with
  | none => rw [hd] at h; simp at h
  | some r =>
    obtain ⟨n, k⟩ := r
    obtain ⟨m, hn, hk, hl, ht, _⟩ := enc_of_dec l hd
    have hlt := dec_lt l inv_start hd
    simp at hn hl ht
    subst hn
    have h10 := enc_len10 hlt
    have hk : k = (enc n).length := by rw [← ht]; simp; omega
    simp only [Option.getD_some]
    exact ⟨trivial, hlt, by omega, by omega, ht⟩
theorem decN_none {l : List UInt8} (h : (decN l).2 = 0) : dec 0 0 l = none ∧ (decN l).1 = 0 := by
  unfold decN at *
  cases hd : dec 0 0 l with
  | none => simp
  | some r =>
    obtain ⟨n, k⟩ := r
    obtain ⟨m, hn, hk, _⟩ := enc_of_dec l hd
    rw [hd] at h
    simp at h; omega
theorem decN_lt (l : List UInt8) : (decN l).1 < top := by
  by_cases h : (decN l).2 = 0
  · rw [(decN_none h).2]; decide
  · exact (decN_some h).2.1
theorem decN_le (l : List UInt8) : (decN l).2 ≤ l.length ∧ (decN l).2 ≤ 10 := by
  by_cases h : (decN l).2 = 0
  · rw [h]; omega
  · exact ⟨(decN_some h).2.2.1, (decN_some h).2.2.2.1⟩
theorem decN_len {l : List UInt8} (h : (decN l).2 ≠ 0) : (decN l).2 = (enc (decN l).1).length := by
  obtain ⟨_, _, h1, _, h2⟩ := decN_some h
  rw [← h2]; simp; omega

/-- A proper beginning of an encoding holds no number. -/
theorem decN_prefix {n : Nat} (h : n < top) {j : Nat} (hj : j < (enc n).length) : (decN ((enc n).take j)).2 = 0 := by
  apply Classical.byContradiction
  intro hne
  obtain ⟨hd, _, hl, _⟩ := decN_some hne
  have h1 := dec_more _ ((enc n).drop j) hd
  rw [List.take_append_drop] at h1
  have h2 := dec_enc n 0 0 [] (by simpa using h) (.inr rfl)
  rw [List.append_nil] at h2
  rw [h2] at h1
  have h3 := congrArg Prod.snd (Option.some.inj h1)
  simp at h3 hl
  omega

/-! The tests and the sums of a round, as the walk has them. -/
theorem over (d k : Nat) : (Go.IntKind.u64.wrap ((d : Int) * 2 ^ (7 * k)) / 2 ^ (7 * k) != (d : Int)) = decide (top ≤ d * 2 ^ (7 * k)) := by
  rw [Go.IntKind.wrap_u64]
  have hp := pow_pos k
  have e : ((d : Int) * 2 ^ (7 * k)) % 18446744073709551616 / 2 ^ (7 * k) = ((d * 2 ^ (7 * k) % top / 2 ^ (7 * k) : Nat) : Int) := by
    unfold top; simp
  rw [e]
  by_cases h : top ≤ d * 2 ^ (7 * k)
  · rw [decide_eq_true h, bne_iff_ne]
    intro e2
    have e3 : d * 2 ^ (7 * k) % top / 2 ^ (7 * k) = d := by omega
    have h1 := Nat.div_mul_le_self (d * 2 ^ (7 * k) % top) (2 ^ (7 * k))
    rw [e3] at h1
    have h2 := Nat.mod_lt (d * 2 ^ (7 * k)) (show 0 < top by decide)
    omega
  · rw [decide_eq_false h, bne_eq_false_iff_eq, Nat.mod_eq_of_lt (by omega), Nat.mul_div_cancel _ hp]

theorem join {i acc d : Nat} (h : Inv i acc) (hp : ¬ top ≤ d * 2 ^ (7 * i)) : Go.bits .or .u64 (acc : Int) (Go.IntKind.u64.wrap ((d : Int) * 2 ^ (7 * i))) = ((acc + d * 2 ^ (7 * i) : Nat) : Int) := by
  have e : Go.IntKind.u64.wrap ((d : Int) * 2 ^ (7 * i)) = ((d * 2 ^ (7 * i) : Nat) : Int) := by
    rw [Go.IntKind.wrap_u64]
    unfold top at hp
    have : (d : Int) * 2 ^ (7 * i) = ((d * 2 ^ (7 * i) : Nat) : Int) := by simp
    omega
  have h2 := h.2
  unfold top at h2 hp
  rw [e, Go.u64_or_nat _ _ h2 (by omega), Nat.or_comm, Go.nat_join (7 * i) _ _ (Nat.mul_mod_left _ _) h.1, Nat.add_comm]

theorem plus {i acc d : Nat} (h : Inv i acc) (hd : d < 128) (hp : ¬ top ≤ d * 2 ^ (7 * i)) : Go.IntKind.u64.wrap ((acc : Int) + Go.IntKind.u64.wrap ((d : Int) * 2 ^ (7 * i))) = ((acc + d * 2 ^ (7 * i) : Nat) : Int) := by
  have hs := (h.step hd hp).2
  unfold top at hs hp
  rw [Go.IntKind.wrap_u64, Go.IntKind.wrap_u64]
  have : (d : Int) * 2 ^ (7 * i) = ((d * 2 ^ (7 * i) : Nat) : Int) := by simp
  omega

theorem shl_any (yk : Go.IntKind) (x : Int) (k : Nat) : Go.Op.shift .shl .u64 x yk (7 * (k : Int)) = pure (.int .u64 (Go.IntKind.u64.wrap (x * 2 ^ (7 * k)))) := by
  have hn : ¬ (7 * (k : Int) < 0) := by omega
  have ht : (7 * (k : Int)).toNat = 7 * k := by omega
  simp only [Go.Op.shift, if_neg hn, ht]
  by_cases h : 7 * k ≤ 64
  · rw [show min (7 * k) Go.IntKind.u64.bits = 7 * k from by simp [Go.IntKind.bits]; omega]
  · rw [show min (7 * k) Go.IntKind.u64.bits = 64 from by simp [Go.IntKind.bits]; omega]
    congr 2
    rw [Go.IntKind.wrap_u64, Go.IntKind.wrap_u64, show 7 * k = 64 + (7 * k - 64) from by omega, Int.pow_add, ← Int.mul_assoc]
    have e1 : x * 2 ^ 64 % 18446744073709551616 = 0 := by omega
    have e2 : ∀ y : Int, x * 2 ^ 64 * y % 18446744073709551616 = 0 := by
      intro y
      rw [Int.mul_emod, e1]; simp
    rw [e1, e2]

theorem shr_any (yk : Go.IntKind) (y : Int) (k : Nat) : Go.Op.shift .shr .u64 (Go.IntKind.u64.wrap y) yk (7 * (k : Int)) = pure (.int .u64 (Go.IntKind.u64.wrap y / 2 ^ (7 * k))) := by
  have hn : ¬ (7 * (k : Int) < 0) := by omega
  have ht : (7 * (k : Int)).toNat = 7 * k := by omega
  simp only [Go.Op.shift, if_neg hn, ht]
  have hw : 0 ≤ Go.IntKind.u64.wrap y ∧ Go.IntKind.u64.wrap y < 18446744073709551616 := by
    rw [Go.IntKind.wrap_u64]; omega
  generalize Go.IntKind.u64.wrap y = z at *
  rw [Int.fdiv_eq_ediv_of_nonneg _ (Int.pow_nonneg (by decide))]
  by_cases h : 7 * k ≤ 64
  · rw [show min (7 * k) Go.IntKind.u64.bits = 7 * k from by simp [Go.IntKind.bits]; omega]
  · rw [show min (7 * k) Go.IntKind.u64.bits = 64 from by simp [Go.IntKind.bits]; omega]
    congr 2
    have hb : (2 : Int) ^ 64 ≤ 2 ^ (7 * k) := by
      have : (2 : Nat) ^ 64 ≤ 2 ^ (7 * k) := Nat.pow_le_pow_right (by decide) (by omega)
      exact_mod_cast this
    rw [Int.ediv_eq_zero_of_lt hw.1 (by omega), Int.ediv_eq_zero_of_lt hw.1 (by omega)]

/-- A loop's relation: 'acc' is what was read of the first k bytes behind offset o; the rest decodes to what the whole does. -/
def At (s : ByteArray) (o k acc : Nat) (r : Option (Nat × Nat)) : Prop := Inv k acc ∧ dec k acc (s.data.toList.drop (o + k)) = r
theorem At.start (s : ByteArray) (o : Nat) : At s o 0 0 (dec 0 0 (s.data.toList.drop o)) := ⟨inv_start, rfl⟩
theorem drop_cons (s : ByteArray) (k : Nat) (h : k < s.size) : s.data.toList.drop k = s[k] :: s.data.toList.drop (k + 1) := by
  rw [List.drop_eq_getElem_cons (by simpa using h)]; rfl
section
variable {s : ByteArray} {o k acc j : Nat} {r : Option (Nat × Nat)}
theorem At.done (h : At s o k acc r) (hk : s.size ≤ o + k) : r = none := by
  rw [← h.2, List.drop_eq_nil_of_le (by simpa using hk)]; rfl
theorem At.ten (h : At s o k acc r) (hk : 10 ≤ k) : r = none := by
  rw [← h.2, dec_ten _ hk]
theorem At.over (h : At s o k acc r) (hj : o + k = j) (hk : j < s.size) (ht : top ≤ dig s[j] * 2 ^ (7 * k)) : r = none := by
  subst hj
  rw [← h.2, drop_cons _ _ hk, dec, if_pos ht]
theorem At.more (h : At s o k acc r) (hj : o + k = j) (hk : j < s.size) (ht : ¬ top ≤ dig s[j] * 2 ^ (7 * k)) (hb : 128 ≤ s[j].toNat) : At s o (k + 1) (acc + dig s[j] * 2 ^ (7 * k)) r := by
  subst hj
  refine ⟨h.1.step (by unfold dig; omega) ht, ?_⟩
  rw [← h.2, drop_cons _ _ hk, dec, if_neg ht, if_pos hb]; rfl
theorem At.zero (h : At s o k acc r) (hj : o + k = j) (hk : j < s.size) (ht : ¬ top ≤ dig s[j] * 2 ^ (7 * k)) (hb : ¬ 128 ≤ s[j].toNat) (hz : dig s[j] = 0 ∧ 0 < k) : r = none := by
  subst hj
  rw [← h.2, drop_cons _ _ hk, dec, if_neg ht, if_neg hb, if_pos hz]
theorem At.last (h : At s o k acc r) (hj : o + k = j) (hk : j < s.size) (ht : ¬ top ≤ dig s[j] * 2 ^ (7 * k)) (hb : ¬ 128 ≤ s[j].toNat) (hz : ¬ (dig s[j] = 0 ∧ 0 < k)) : r = some (acc + dig s[j] * 2 ^ (7 * k), k + 1) := by
  subst hj
  rw [← h.2, drop_cons _ _ hk, dec, if_neg ht, if_neg hb, if_neg hz]
end

/-- The number that stands for an integer, and back. -/
def zig (n : Int) : Nat := if 0 ≤ n then (2 * n).toNat else (-2 * n - 1).toNat
def zag (n : Nat) : Int := if n % 2 = 0 then ((n / 2 : Nat) : Int) else -((n / 2 : Nat) : Int) - 1
theorem zag_zig (n : Int) : zag (zig n) = n := by
  unfold zig zag
  split <;> split <;> omega
theorem zig_zag (n : Nat) : zig (zag n) = n := by
  unfold zag
  split <;> unfold zig <;> split <;> omega
theorem zig_lt {n : Int} (h : -9223372036854775808 ≤ n) (h' : n ≤ 9223372036854775807) : zig n < top := by
  unfold zig top
  split <;> omega
theorem zag_range {n : Nat} (h : n < top) : -9223372036854775808 ≤ zag n ∧ zag n ≤ 9223372036854775807 := by
  unfold zag; unfold top at h
  split <;> omega

end Go.Proofs.Ytjpcnnofjfmkeaa.Num
