/- A number that is written is read again. -/
import Derived.Test.YtoiednecchbmnaaDoorK00
import Derived.Test.YtoiednecchbmnaaDoorK02
namespace Go.Proofs.YtoiednecchbmnaaDoor
set_option linter.unusedVariables false
namespace St
theorem dg_of {k : Nat} (h : k < 10) : dg (UInt8.ofNat (48 + k)) = true := by
  have : ∀ k : Fin 10, dg (UInt8.ofNat (48 + k.val)) = true := by decide +kernel
  exact this ⟨k, h⟩
theorem val_of {k : Nat} (h : k < 10) : (UInt8.ofNat (48 + k)).toNat - 48 = k := by
  have : ∀ k : Fin 10, (UInt8.ofNat (48 + k.val)).toNat - 48 = k.val := by decide +kernel
  exact this ⟨k, h⟩
theorem decD_small {u : Nat} (h : u < 10) : Lib.decDigits u = [UInt8.ofNat (48 + u)] := by rw [Lib.decDigits, dif_pos h]
theorem decD_big {u : Nat} (h : ¬ u < 10) : Lib.decDigits u = Lib.decDigits (u / 10) ++ [UInt8.ofNat (48 + u % 10)] := by rw [Lib.decDigits, dif_neg h]
theorem dec_snoc (l : Bs) (c : UInt8) : dec (l ++ [c]) = 10 * dec l + (c.toNat - 48) := by simp [dec, List.foldl_append]
theorem dec_app3 (l : Bs) (a b c : UInt8) : dec (l ++ [a, b, c]) = 1000 * dec l + dec [a, b, c] := by
  simp [dec, List.foldl_append]
  omega
theorem decD_all : ∀ (n u : Nat), u ≤ n → ∀ c ∈ Lib.decDigits u, dg c = true
  | n, u, h, c, hc => by
    by_cases hs : u < 10
    · rw [decD_small hs] at hc
      rw [List.mem_singleton] at hc
      rw [hc]
      exact dg_of hs
    · rw [decD_big hs] at hc
      rcases List.mem_append.1 hc with h1 | h1
      · cases n with
        | zero => omega
        | succ n => exact decD_all n (u / 10) (by omega) c h1
      · rw [List.mem_singleton] at h1
        rw [h1]
        exact dg_of (by omega)
theorem dec_decD : ∀ (n u : Nat), u ≤ n → dec (Lib.decDigits u) = u
  | n, u, h => by
    by_cases hs : u < 10
    · rw [decD_small hs]
      have := val_of hs
      simpa [dec] using this
    · cases n with
      | zero => omega
      | succ n => rw [decD_big hs, dec_snoc, dec_decD n (u / 10) (by omega), val_of (by omega)]; omega
theorem decD_len : ∀ (k u : Nat), u < 10 ^ (k + 1) → (Lib.decDigits u).length ≤ k + 1
  | k, u, h => by
    by_cases hs : u < 10
    · rw [decD_small hs]; simp
    · cases k with
      | zero => simp at h; omega
      | succ k =>
        rw [decD_big hs, List.length_append]
        have := decD_len k (u / 10) (by rw [Nat.pow_succ] at h; omega)
        simp
        omega
theorem decD_cons (u : Nat) : ∃ c t, Lib.decDigits u = c :: t ∧ dg c = true := by
  cases h : Lib.decDigits u with
  | nil =>
    exfalso
    by_cases hs : u < 10
    · rw [decD_small hs] at h; cases h
    · rw [decD_big hs] at h; simp at h
  | cons c t => exact ⟨c, t, rfl, decD_all u u (Nat.le_refl _) c (by rw [h]; simp)⟩
/-- What stands behind digits and is none, nor a point. -/
def NoD (r : Bs) : Prop := ∀ c t, r = c :: t → dg c = false ∧ c ≠ 46
theorem tw_digs : ∀ (d r : Bs), (∀ c ∈ d, dg c = true) → (∀ c t, r = c :: t → dg c = false) → (d ++ r).takeWhile dg = d ∧ (d ++ r).dropWhile dg = r
  | [], [], _, _ => ⟨rfl, rfl⟩
  | [], c :: r, _, h => by
    have := h c r rfl
    simp [this]
  | c :: d, r, hd, hr => by
    have h1 := hd c (by simp)
    have h2 := tw_digs d r (fun x hx => hd x (by simp [hx])) hr
    simp [h1, h2.1, h2.2]
theorem dec3 {m : Nat} (h : m < 1000) : (Lib.decDigits (1000 + m)).drop 1 = [UInt8.ofNat (48 + m / 100), UInt8.ofNat (48 + m / 10 % 10), UInt8.ofNat (48 + m % 10)] := by
  rw [decD_big (by omega), decD_big (by omega), decD_big (by omega), decD_small (by omega), show (1000 + m) % 10 = m % 10 by omega, show (1000 + m) / 10 % 10 = m / 10 % 10 by omega, show (1000 + m) / 10 / 10 % 10 = m / 100 by omega]
  rfl
theorem frac3 {m : Nat} (h : m < 1000) (h0 : m ≠ 0) : trimZ [UInt8.ofNat (48 + m / 100), UInt8.ofNat (48 + m / 10 % 10), UInt8.ofNat (48 + m % 10)] ≠ [] ∧ (trimZ [UInt8.ofNat (48 + m / 100), UInt8.ofNat (48 + m / 10 % 10), UInt8.ofNat (48 + m % 10)]).all dg = true ∧ (trimZ [UInt8.ofNat (48 + m / 100), UInt8.ofNat (48 + m / 10 % 10), UInt8.ofNat (48 + m % 10)] ++ [48, 48, 48]).take 3 = [UInt8.ofNat (48 + m / 100), UInt8.ofNat (48 + m / 10 % 10), UInt8.ofNat (48 + m % 10)] ∧ dec [UInt8.ofNat (48 + m / 100), UInt8.ofNat (48 + m / 10 % 10), UInt8.ofNat (48 + m % 10)] = m := by
  have : ∀ m : Fin 1000, m.val ≠ 0 → trimZ [UInt8.ofNat (48 + m.val / 100), UInt8.ofNat (48 + m.val / 10 % 10), UInt8.ofNat (48 + m.val % 10)] ≠ [] ∧ (trimZ [UInt8.ofNat (48 + m.val / 100), UInt8.ofNat (48 + m.val / 10 % 10), UInt8.ofNat (48 + m.val % 10)]).all dg = true ∧ (trimZ [UInt8.ofNat (48 + m.val / 100), UInt8.ofNat (48 + m.val / 10 % 10), UInt8.ofNat (48 + m.val % 10)] ++ [48, 48, 48]).take 3 = [UInt8.ofNat (48 + m.val / 100), UInt8.ofNat (48 + m.val / 10 % 10), UInt8.ofNat (48 + m.val % 10)] ∧ dec [UInt8.ofNat (48 + m.val / 100), UInt8.ofNat (48 + m.val / 10 % 10), UInt8.ofNat (48 + m.val % 10)] = m.val := by decide +kernel
  exact this ⟨m, h⟩ h0
theorem pre1 {c d : UInt8} {t : Bs} (h : d ≠ c) : [c].isPrefixOf (d :: t) = false := by simp [List.isPrefixOf]; exact fun e => h e.symm
theorem frac_no {u : Bs} (h : NoD u) : frac u = ([48, 48, 48], true, u) := by
  unfold frac
  cases u with
  | nil => rfl
  | cons c t => rw [pre1 (h c t rfl).2]; rfl
theorem unsig_fracU {n : Nat} (hn : n ≤ 1048576000) {u : Bs} (hu : NoD u) : unsig (fracU n ++ u) = (n, true, u) := by
  have hall : ∀ c ∈ Lib.decDigits (n / 1000), dg c = true := decD_all _ _ (Nat.le_refl _)
  have hne : (Lib.decDigits (n / 1000)).isEmpty = false := by
    obtain ⟨c, t, h, _⟩ := decD_cons (n / 1000)
    rw [h]; rfl
  have hlen : decide ((Lib.decDigits (n / 1000)).length ≤ 7) = true := by
    have := decD_len 6 (n / 1000) (by omega)
    simpa using this
  have hdec := dec_decD _ (n / 1000) (Nat.le_refl _)
  unfold fracU unsig
  by_cases h : n % 1000 = 0
  · rw [if_pos h]
    have h1 := tw_digs (Lib.decDigits (n / 1000)) u hall (fun c t e => (hu c t e).1)
    rw [h1.1, h1.2, frac_no hu, hne, hlen]
    simp only [dec_app3, hdec]
    have : (1000 * (n / 1000) + dec [48, 48, 48]) = n := by
      have : dec [48, 48, 48] = 0 := by decide
      omega
    rw [this]
    rfl
  · rw [if_neg h, dec3 (by omega)]
    obtain ⟨f1, f2, f3, f4⟩ := frac3 (show n % 1000 < 1000 by omega) h
    obtain ⟨T, hT⟩ : ∃ T, trimZ [UInt8.ofNat (48 + n % 1000 / 100), UInt8.ofNat (48 + n % 1000 / 10 % 10), UInt8.ofNat (48 + n % 1000 % 10)] = T := ⟨_, rfl⟩
    rw [hT] at f1 f2 f3 ⊢
    have h1 := tw_digs (Lib.decDigits (n / 1000)) (46 :: (T ++ u)) hall (fun c t e => by injection e with e1 e2; subst e1; rfl)
    rw [List.append_assoc, List.cons_append, h1.1, h1.2]
    have h2 := tw_digs T u (List.all_eq_true.1 f2) (fun c t e => (hu c t e).1)
    have hf : frac (46 :: (T ++ u)) = ([UInt8.ofNat (48 + n % 1000 / 100), UInt8.ofNat (48 + n % 1000 / 10 % 10), UInt8.ofNat (48 + n % 1000 % 10)], true, u) := by
      unfold frac
      rw [if_pos (by rfl), List.drop_succ_cons, List.drop_zero, h2.1, h2.2, f3]
      cases T with
      | nil => exact absurd rfl f1
      | cons a b => rfl
    rw [hf, hne, hlen]
    simp only [dec_app3, hdec, f4]
    rw [show 1000 * (n / 1000) + n % 1000 = n by omega]
    rfl
theorem fracU_cons (n : Nat) : ∃ c t, fracU n = c :: t ∧ dg c = true := by
  obtain ⟨c, t, h, hd⟩ := decD_cons (n / 1000)
  unfold fracU
  rw [h]
  by_cases h : n % 1000 = 0
  · rw [if_pos h]; exact ⟨c, t, rfl, hd⟩
  · rw [if_neg h]; exact ⟨c, _, rfl, hd⟩
theorem dg_ne {c : UInt8} (h : dg c = true) : c ≠ 45 ∧ c ≠ 43 ∧ c ≠ 46 ∧ c ≠ 97 := by
  refine ⟨?_, ?_, ?_, ?_⟩ <;> (intro e; subst e; cases h)
theorem thou_fmt {n : Int} (h1 : -1048576000 ≤ n) (h2 : n ≤ 1048576000) {u : Bs} (hu : NoD u) : thou (fmtNum n ++ u) = (n, true, u) := by
  have hs : sgn (fmtNum n ++ u) = (decide (n < 0), fracU n.natAbs ++ u) := by
    unfold sgn fmtNum
    by_cases h : n < 0
    · rw [if_pos h]; simp [List.isPrefixOf, h]
    · rw [if_neg h]
      obtain ⟨c, t, e, hd⟩ := fracU_cons n.natAbs
      have hn := dg_ne hd
      rw [e, List.cons_append, pre1 hn.1]
      unfold cutP
      rw [pre1 hn.2.1]
      simp [h]
  unfold thou
  rw [hs, unsig_fracU (by omega) hu]
  by_cases h : n < 0
  · simp [h]; omega
  · simp [h]; omega
/-- What stays as it is, in lower case and trimmed. -/
def Pl (l : Bs) : Prop := ∀ c ∈ l, Txt.lo c = c ∧ Txt.sp c = false
theorem Pl.lower {l : Bs} (h : Pl l) : l.map Txt.lo = l := by
  induction l with
  | nil => rfl
  | cons c t ih => rw [List.map_cons, (h c (by simp)).1, ih (fun x hx => h x (by simp [hx]))]
theorem trimL_id {l : Bs} (h : Pl l) : Txt.trimL l = l := by
  cases l with
  | nil => rfl
  | cons c t => simp [Txt.trimL, (h c (by simp)).2]
theorem Pl.trim {l : Bs} (h : Pl l) : Txt.trim l = l := by
  unfold Txt.trim Txt.trimR
  rw [trimL_id h, trimL_id (fun c hc => h c (List.mem_reverse.1 hc)), List.reverse_reverse]
theorem Pl.app {l m : Bs} (h : Pl l) (k : Pl m) : Pl (l ++ m) := fun c hc => (List.mem_append.1 hc).elim (h c) (k c)
theorem pl_dg {l : Bs} (h : ∀ c ∈ l, dg c = true) : Pl l := fun c hc => by
  have : ∀ c : Fin 256, dg (UInt8.ofNat c.val) = true → Txt.lo (UInt8.ofNat c.val) = UInt8.ofNat c.val ∧ Txt.sp (UInt8.ofNat c.val) = false := by decide +kernel
  have h2 := this ⟨c.toNat, c.toNat_lt⟩
  simp only [UInt8.ofNat_toNat] at h2
  exact h2 (h c hc)
theorem trimZ_mem {l : Bs} {c : UInt8} (h : c ∈ trimZ l) : c ∈ l := by
  unfold trimZ at h
  rw [List.mem_reverse] at h
  exact List.mem_reverse.1 ((List.dropWhile_sublist _).mem h)
theorem pl_fmt (n : Int) : Pl (fmtNum n) := by
  have hf : ∀ n, Pl (fracU n) := fun n => by
    unfold fracU
    have h1 : Pl (Lib.decDigits (n / 1000)) := pl_dg (decD_all _ _ (Nat.le_refl _))
    by_cases h : n % 1000 = 0
    · rw [if_pos h]; exact h1
    · rw [if_neg h]
      refine h1.app (fun c hc => ?_)
      rcases List.mem_cons.1 hc with e | e
      · subst e; decide
      · exact pl_dg (decD_all _ _ (Nat.le_refl _)) c (List.mem_of_mem_drop (trimZ_mem e))
  unfold fmtNum
  by_cases h : n < 0
  · rw [if_pos h]
    intro c hc
    rcases List.mem_cons.1 hc with e | e
    · subst e; decide
    · exact hf _ c e
  · rw [if_neg h]; exact hf _
theorem fmtNum_cons (n : Int) : ∃ c t, fmtNum n = c :: t ∧ c ≠ 97 := by
  unfold fmtNum
  by_cases h : n < 0
  · rw [if_pos h]; exact ⟨45, _, rfl, by decide⟩
  · rw [if_neg h]
    obtain ⟨c, t, e, hd⟩ := fracU_cons n.natAbs
    exact ⟨c, t, e, (dg_ne hd).2.2.2⟩
def pZ : Bs := [122, 45, 105, 110, 100, 101, 120]
def pL : Bs := [108, 101, 102, 116]
theorem auto_no (n : Int) (u : Bs) : valueAs [97, 117, 116, 111] (fmtNum n ++ u) = (⟨1, 0, [97, 117, 116, 111]⟩, false) := by
  have h : valueAs [97, 117, 116, 111] (fmtNum n ++ u) = (⟨1, 0, [97, 117, 116, 111]⟩, decide ([97, 117, 116, 111] = fmtNum n ++ u)) := rfl
  rw [h]
  obtain ⟨c, t, e, hd⟩ := fmtNum_cons n
  rw [e, List.cons_append]
  have : ¬ ([97, 117, 116, 111] = c :: (t ++ u)) := fun e => by injection e with e _; exact hd e.symm
  simp [this]
theorem back_int {n : Int} (h1 : -1048576000 ≤ n) (h2 : n ≤ 1048576000) (h3 : n.tmod 1000 = 0) : parse pZ (fmt ⟨2, n, []⟩) = (⟨2, n, []⟩, 0) := by
  have hf : fmt ⟨2, n, []⟩ = fmtNum n ++ [] := by rw [List.append_nil]; rfl
  have hp : Pl (fmtNum n ++ []) := (pl_fmt n).app (fun c hc => by cases hc)
  have hw : wordsOf pZ = some [[97, 117, 116, 111], wInt] := by decide +kernel
  have hv : valueOf [[97, 117, 116, 111], wInt] (fmtNum n ++ []) = (⟨2, n, []⟩, true) := by
    have hi : valueAs wInt (fmtNum n ++ []) = (⟨2, n, []⟩, true) := by
      show integer _ = _
      unfold integer number
      rw [thou_fmt h1 h2 (fun c t e => by cases e)]
      simp [h3]
    unfold valueOf
    rw [auto_no]
    simp only [Bool.false_eq_true, if_false]
    unfold valueOf
    rw [hi]
    rfl
  unfold parse
  rw [hw, hf, hp.lower, hp.trim]
  simp only [hv]
  rfl
theorem back_len {n : Int} (h1 : -1048576000 ≤ n) (h2 : n ≤ 1048576000) :
    parse pL (fmt ⟨3, n, []⟩) = (⟨3, n, []⟩, 0) ∧ parse pL (fmt ⟨4, n, []⟩) = (⟨4, n, []⟩, 0) ∧ parse pL (fmt ⟨5, n, []⟩) = (⟨5, n, []⟩, 0) := by
  have hw : wordsOf pL = some [[97, 117, 116, 111], wLen, wPct] := by decide +kernel
  have hpu : ∀ u : Bs, (u.all fun c => Txt.lo c == c && Txt.sp c == false) = true → Pl u := fun u h c hc => by
    have := List.all_eq_true.1 h c hc
    simpa using this
  refine ⟨?_, ?_, ?_⟩
  · have hp : Pl (fmtNum n ++ [112, 120]) := (pl_fmt n).app (hpu _ (by decide))
    have hi : valueAs wLen (fmtNum n ++ [112, 120]) = (⟨3, n, []⟩, true) := by
      show length _ = _
      unfold length
      rw [thou_fmt h1 h2 (fun c t e => by injection e with e _; subst e; decide)]
      rfl
    have hv : valueOf [[97, 117, 116, 111], wLen, wPct] (fmtNum n ++ [112, 120]) = (⟨3, n, []⟩, true) := by
      unfold valueOf
      rw [auto_no]
      simp only [Bool.false_eq_true, if_false]
      unfold valueOf
      rw [hi]
      rfl
    unfold parse
    rw [hw, show fmt ⟨3, n, []⟩ = fmtNum n ++ [112, 120] from rfl, hp.lower, hp.trim]
    simp only [hv]
    rfl
  · have hp : Pl (fmtNum n ++ [101, 109]) := (pl_fmt n).app (hpu _ (by decide))
    have hi : valueAs wLen (fmtNum n ++ [101, 109]) = (⟨4, n, []⟩, true) := by
      show length _ = _
      unfold length
      rw [thou_fmt h1 h2 (fun c t e => by injection e with e _; subst e; decide)]
      rfl
    have hv : valueOf [[97, 117, 116, 111], wLen, wPct] (fmtNum n ++ [101, 109]) = (⟨4, n, []⟩, true) := by
      unfold valueOf
      rw [auto_no]
      simp only [Bool.false_eq_true, if_false]
      unfold valueOf
      rw [hi]
      rfl
    unfold parse
    rw [hw, show fmt ⟨4, n, []⟩ = fmtNum n ++ [101, 109] from rfl, hp.lower, hp.trim]
    simp only [hv]
    rfl
  · have hp : Pl (fmtNum n ++ [37]) := (pl_fmt n).app (hpu _ (by decide))
    have ht : thou (fmtNum n ++ [37]) = (n, true, [37]) := thou_fmt h1 h2 (fun c t e => by injection e with e _; subst e; decide)
    have hi : valueAs wLen (fmtNum n ++ [37]) = (vnil, false) := by
      show length _ = _
      unfold length
      rw [ht]
      rfl
    have hi2 : valueAs wPct (fmtNum n ++ [37]) = (⟨5, n, []⟩, true) := by
      show percentage _ = _
      unfold percentage
      rw [ht]
      rfl
    have hv : valueOf [[97, 117, 116, 111], wLen, wPct] (fmtNum n ++ [37]) = (⟨5, n, []⟩, true) := by
      unfold valueOf
      rw [auto_no]
      simp only [Bool.false_eq_true, if_false]
      unfold valueOf
      rw [hi]
      simp only [Bool.false_eq_true, if_false]
      unfold valueOf
      rw [hi2]
      rfl
    unfold parse
    rw [hw, show fmt ⟨5, n, []⟩ = fmtNum n ++ [37] from rfl, hp.lower, hp.trim]
    simp only [hv]
    rfl
end St
end Go.Proofs.YtoiednecchbmnaaDoor
/- The number that digits stand for. -/
namespace Go.Proofs.YtoiednecchbmnaaDoor
open Go Go.RowKit
set_option linter.unusedVariables false
theorem dec_take {l : List UInt8} {i : Nat} (h : i < l.length) : St.dec (l.take (i + 1)) = 10 * St.dec (l.take i) + (l[i].toNat - 48) := by
  rw [List.take_succ_eq_append_getElem h, St.dec_snoc]
theorem fold_lt : ∀ (l : List UInt8) (n : Nat), (∀ c ∈ l, St.dg c = true) → l.foldl (fun n c => 10 * n + (c.toNat - 48)) n + 1 ≤ (n + 1) * 10 ^ l.length
  | [], n, _ => by simp
  | c :: t, n, h => by
    have h2 := h c (by simp)
    have h1 := fold_lt t (10 * n + (c.toNat - 48)) (fun x hx => h x (by simp [hx]))
    unfold St.dg at h2
    simp at h2
    rw [List.foldl_cons, List.length_cons, Nat.pow_succ]
    refine Nat.le_trans h1 ?_
    have : (10 * n + (c.toNat - 48) + 1) * 10 ^ t.length ≤ (10 * (n + 1)) * 10 ^ t.length := Nat.mul_le_mul_right _ (by omega)
    refine Nat.le_trans this (Nat.le_of_eq ?_)
    rw [Nat.mul_comm 10 (n + 1), Nat.mul_assoc, Nat.mul_comm 10]
theorem dec_lt (l : List UInt8) (h : ∀ c ∈ l, St.dg c = true) : St.dec l + 1 ≤ 10 ^ l.length := by
  have := fold_lt l 0 h
  simpa [St.dec] using this
set_option maxHeartbeats 1000000 in
theorem ydec_any (l : List UInt8) (w : World) (hl : l.length ≤ 10) (hd : ∀ c ∈ l, St.dg c = true) :
    Calls Tryd.prog 80 #[.string (tstr l)] w fun e w' => e = .returned (.int .i64 (St.dec l : Nat)) ∧ w = w' := by
  have e1 := tsize l
  have HD := Lib.hid hd
  clear hd
  go_enter Tryd.func80, Tryd.ntmps80
  go_wp2_with fail
  go_loopg [3, 7] l.length (fun gg u3 u7 wr => ∃ k : Nat, u3 = .int .i64 (St.dec (l.take k) : Nat) ∧ u7 = .int .i64 (k : Int) ∧ k ≤ l.length ∧ l.length - k ≤ gg ∧ wr = w)
  case atStart => exact ⟨0, rfl, rfl, Nat.zero_le _, Nat.le_refl _, rfl⟩
  case round =>
    obtain ⟨k, rfl, rfl, hk, hgg, rfl⟩ := hrel
    by_cases hlt : k < l.length
    · have hlt' : (k : Int) < (l.length : Int) := by omega
      have hg : l[k] = (tstr l)[k] := rfl
      have hdk := HD.out (l[k]) (List.getElem_mem hlt)
      unfold St.dg at hdk
      simp at hdk
      have hb1 : 48 ≤ (tstr l)[k].toNat := hdk.1
      have hb2 : (tstr l)[k].toNat ≤ 57 := hdk.2
      have hb : St.dec (l.take k) + 1 ≤ 10 ^ 10 := by
        have h1 := dec_lt (l.take k) (fun c hc => HD.out c (List.mem_of_mem_take hc))
        have h2 : (10 : Nat) ^ (l.take k).length ≤ 10 ^ 10 := Nat.pow_le_pow_right (by decide) (by rw [List.length_take]; omega)
        omega
      have HN := Lib.hid (dec_take hlt)
      obtain ⟨x, hx⟩ : ∃ x, St.dec (l.take k) = x := ⟨_, rfl⟩
      rw [hx] at hb
      have hb' : x ≤ 10000000000 := by omega
      have hb3 : (x : Int) ≤ 10000000000 := by omega
      have HG := Lib.hid (show l[k].toNat = (tstr l)[k].toNat from rfl)
      clear hb hdk hg
      rw [hx]
      go_wp2_with fail
      go_roundg (l.length - (k + 1))
      case rel => exact ⟨k + 1, by rw [HN.out, hx, HG.out]; go_num, by go_num, by omega, by omega, rfl⟩
      case measure => omega
    · have hlt' : ¬ (k : Int) < (l.length : Int) := by omega
      obtain rfl : k = l.length := by omega
      go_wp2_with fail
      go_ret
      exact ⟨rfl, rfl⟩
end Go.Proofs.YtoiednecchbmnaaDoor
