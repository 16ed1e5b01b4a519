/- The reference's values, over lists, are the chapter's. -/
import Derived.Test.YtoiednecchbmnaaDoorK00
import Derived.Test.YtoiednecchbmnaaDoorK03
namespace Go.Proofs.YtoiednecchbmnaaDoor
set_option linter.unusedVariables false
namespace St
/-- A longhand: its name, its keywords, the kind of what else it accepts. -/
def kinds : List (Bs × List Bs × Nat) :=
  [([98, 97, 99, 107, 103, 114, 111, 117, 110, 100], [[116, 114, 97, 110, 115, 112, 97, 114, 101, 110, 116]], 1),
   ([98, 111, 114, 100, 101, 114, 45, 98, 111, 116, 116, 111, 109, 45, 119, 105, 100, 116, 104], [], 2),
   ([98, 111, 114, 100, 101, 114, 45, 99, 111, 108, 111, 114], [], 1),
   ([98, 111, 114, 100, 101, 114, 45, 108, 101, 102, 116, 45, 119, 105, 100, 116, 104], [], 2),
   ([98, 111, 114, 100, 101, 114, 45, 114, 105, 103, 104, 116, 45, 119, 105, 100, 116, 104], [], 2),
   ([98, 111, 114, 100, 101, 114, 45, 116, 111, 112, 45, 119, 105, 100, 116, 104], [], 2),
   ([99, 111, 108, 111, 114], [], 1),
   ([100, 105, 115, 112, 108, 97, 121], [[98, 108, 111, 99, 107], [102, 108, 101, 120], [105, 110, 108, 105, 110, 101], [105, 110, 108, 105, 110, 101, 45, 98, 108, 111, 99, 107], [108, 105, 115, 116, 45, 105, 116, 101, 109], [110, 111, 110, 101], [116, 97, 98, 108, 101], [116, 97, 98, 108, 101, 45, 99, 101, 108, 108], [116, 97, 98, 108, 101, 45, 114, 111, 119], [116, 97, 98, 108, 101, 45, 114, 111, 119, 45, 103, 114, 111, 117, 112]], 0),
   ([102, 108, 101, 120, 45, 98, 97, 115, 105, 115], [[97, 117, 116, 111]], 3),
   ([102, 108, 101, 120, 45, 100, 105, 114, 101, 99, 116, 105, 111, 110], [[99, 111, 108, 117, 109, 110], [114, 111, 119]], 0),
   ([102, 108, 101, 120, 45, 103, 114, 111, 119], [], 5),
   ([102, 108, 101, 120, 45, 115, 104, 114, 105, 110, 107], [], 5),
   ([102, 108, 101, 120, 45, 119, 114, 97, 112], [[110, 111, 119, 114, 97, 112], [119, 114, 97, 112]], 0),
   ([102, 111, 110, 116, 45, 115, 105, 122, 101], [], 3),
   ([104, 101, 105, 103, 104, 116], [[97, 117, 116, 111]], 3),
   ([108, 101, 102, 116], [[97, 117, 116, 111]], 4),
   ([108, 105, 110, 101, 45, 104, 101, 105, 103, 104, 116], [[110, 111, 114, 109, 97, 108]], 7),
   ([109, 97, 114, 103, 105, 110, 45, 98, 111, 116, 116, 111, 109], [[97, 117, 116, 111]], 4),
   ([109, 97, 114, 103, 105, 110, 45, 108, 101, 102, 116], [[97, 117, 116, 111]], 4),
   ([109, 97, 114, 103, 105, 110, 45, 114, 105, 103, 104, 116], [[97, 117, 116, 111]], 4),
   ([109, 97, 114, 103, 105, 110, 45, 116, 111, 112], [[97, 117, 116, 111]], 4),
   ([109, 97, 120, 45, 119, 105, 100, 116, 104], [[110, 111, 110, 101]], 3),
   ([109, 105, 110, 45, 119, 105, 100, 116, 104], [], 3),
   ([111, 114, 100, 101, 114], [], 6),
   ([111, 118, 101, 114, 102, 108, 111, 119], [[104, 105, 100, 100, 101, 110], [115, 99, 114, 111, 108, 108], [118, 105, 115, 105, 98, 108, 101]], 0),
   ([112, 97, 100, 100, 105, 110, 103, 45, 98, 111, 116, 116, 111, 109], [], 3),
   ([112, 97, 100, 100, 105, 110, 103, 45, 108, 101, 102, 116], [], 3),
   ([112, 97, 100, 100, 105, 110, 103, 45, 114, 105, 103, 104, 116], [], 3),
   ([112, 97, 100, 100, 105, 110, 103, 45, 116, 111, 112], [], 3),
   ([112, 111, 115, 105, 116, 105, 111, 110], [[97, 98, 115, 111, 108, 117, 116, 101], [114, 101, 108, 97, 116, 105, 118, 101], [115, 116, 97, 116, 105, 99]], 0),
   ([116, 101, 120, 116, 45, 97, 108, 105, 103, 110], [[99, 101, 110, 116, 101, 114], [108, 101, 102, 116], [114, 105, 103, 104, 116]], 0),
   ([116, 111, 112], [[97, 117, 116, 111]], 4),
   ([118, 101, 114, 116, 105, 99, 97, 108, 45, 97, 108, 105, 103, 110], [[98, 111, 116, 116, 111, 109], [109, 105, 100, 100, 108, 101], [116, 111, 112]], 0),
   ([118, 105, 115, 105, 98, 105, 108, 105, 116, 121], [[104, 105, 100, 100, 101, 110], [118, 105, 115, 105, 98, 108, 101]], 0),
   ([119, 104, 105, 116, 101, 45, 115, 112, 97, 99, 101], [[110, 111, 114, 109, 97, 108], [110, 111, 119, 114, 97, 112], [112, 114, 101]], 0),
   ([119, 105, 100, 116, 104], [[97, 117, 116, 111]], 3),
   ([122, 45, 105, 110, 100, 101, 120], [[97, 117, 116, 111]], 6)]
def kOf (k : Nat) : List Bs := if k = 1 then [wColor] else if k = 2 then [wLenP] else if k = 3 then [wLenP, wPctP] else if k = 4 then [wLen, wPct] else if k = 5 then [wNumP] else if k = 6 then [wInt] else if k = 7 then [wNumP, wLenP, wPctP] else []
def wsOf (kw : List Bs) (k : Nat) : List Bs := if k = 1 then wColor :: kw else kw ++ kOf k
theorem longs_kinds : longs = kinds.map fun x => (x.1, wsOf x.2.1 x.2.2) := by decide +kernel
/-- The reference's size, count, color, and kinds; what is no value is vnil. -/
def rsize (percent pos : Bool) (s : Bs) : Va × Bool :=
  if (thou s).2.1 = false ∨ (pos = true ∧ (thou s).1 < 0) then (vnil, false)
  else if (thou s).2.2 = [112, 120] ∨ ((thou s).2.2 = [] ∧ (thou s).1 = 0) then (⟨3, (thou s).1, []⟩, true)
  else if (thou s).2.2 = [101, 109] then (⟨4, (thou s).1, []⟩, true)
  else if (thou s).2.2 = [37] ∧ percent = true then (⟨5, (thou s).1, []⟩, true)
  else (vnil, false)
def rcount (pos whole : Bool) (s : Bs) : Va × Bool :=
  if (thou s).2.1 = false ∨ (thou s).2.2 ≠ [] ∨ (pos = true ∧ (thou s).1 < 0) ∨ (whole = true ∧ (thou s).1.tmod 1000 ≠ 0) then (vnil, false) else (⟨2, (thou s).1, []⟩, true)
def rcolor (s : Bs) : Va × Bool := if (color s).2 then color s else (vnil, false)
def rkind (k : Nat) (s : Bs) : Va × Bool :=
  if k = 1 then rcolor s else if k = 2 then rsize false true s else if k = 3 then rsize true true s else if k = 4 then rsize true false s
  else if k = 5 then rcount true false s else if k = 6 then rcount false true s
  else if k = 7 then (if (rcount true false s).2 then rcount true false s else rsize true true s) else (vnil, false)
def rparse (kw : List Bs) (k : Nat) (s : Bs) : Va × Bool := if s ∈ kw ++ everyW then (⟨1, 0, s⟩, true) else rkind k s
/-- The program's answer. -/
def pv (ws : List Bs) (s : Bs) : Va × Bool := if (valueOf ws s).2 then ((valueOf ws s).1, true) else if (valueOf everyW s).2 then ((valueOf everyW s).1, true) else (vnil, false)
def plainW (x : Bs) : Bool := decide (x ≠ wColor ∧ x ≠ wNumP ∧ x ≠ wInt ∧ x ≠ wLen ∧ x ≠ wLenP ∧ x ≠ wPct ∧ x ≠ wPctP)
theorem valueAs_plain {x s : Bs} (h : plainW x = true) : valueAs x s = (⟨1, 0, x⟩, decide (x = s)) := by
  obtain ⟨h1, h2, h3, h4, h5, h6, h7⟩ := of_decide_eq_true h
  unfold valueAs
  rw [if_neg h1, if_neg h2, if_neg h3, if_neg h4, if_neg h5, if_neg h6, if_neg h7]
theorem valueOf_kw (b : List Bs) (s : Bs) : ∀ kw : List Bs, (∀ x ∈ kw, plainW x = true) → valueOf (kw ++ b) s = if s ∈ kw then (⟨1, 0, s⟩, true) else valueOf b s
  | [], _ => by simp
  | x :: t, h => by
    have ih := valueOf_kw b s t (fun y hy => h y (by simp [hy]))
    have hx := valueAs_plain (s := s) (h x (by simp))
    rw [List.cons_append]
    conv => lhs; unfold valueOf
    rw [hx]
    by_cases e : x = s
    · subst e; simp
    · have e2 : ¬ s = x := fun h => e h.symm
      simp only [e, decide_false, Bool.false_eq_true, if_false, ih, List.mem_cons, e2, false_or]
theorem valueOf_every (s : Bs) : valueOf everyW s = if s ∈ everyW then (⟨1, 0, s⟩, true) else (vnil, false) := by
  have := valueOf_kw [] s everyW (by decide)
  rw [List.append_nil] at this
  rw [this]
  rfl
theorem valueOf_one (x : Bs) (t : List Bs) (s : Bs) : valueOf (x :: t) s = if (valueAs x s).2 then ((valueAs x s).1, true) else valueOf t s := rfl
theorem as_lenP (s : Bs) : valueAs wLenP s = positive (length s) := rfl
theorem as_len (s : Bs) : valueAs wLen s = length s := rfl
theorem as_pctP (s : Bs) : valueAs wPctP s = positive (percentage s) := rfl
theorem as_pct (s : Bs) : valueAs wPct s = percentage s := rfl
theorem as_numP (s : Bs) : valueAs wNumP s = positive (number s) := rfl
theorem as_int (s : Bs) : valueAs wInt s = integer s := rfl
theorem as_col (s : Bs) : valueAs wColor s = color s := rfl
/-- What the forms of a kind give. -/
theorem kind_eq (k : Nat) (s : Bs) (hk : k ≤ 7) : valueOf (kOf k) s = if (rkind k s).2 then ((rkind k s).1, true) else (vnil, false) := by
  have hc : k = 0 ∨ k = 1 ∨ k = 2 ∨ k = 3 ∨ k = 4 ∨ k = 5 ∨ k = 6 ∨ k = 7 := by omega
  have hnil : valueOf [] s = (vnil, false) := rfl
  obtain ⟨n, ok, r, ht⟩ : ∃ n ok r, thou s = (n, ok, r) := ⟨_, _, _, rfl⟩
  rcases hc with rfl | rfl | rfl | rfl | rfl | rfl | rfl | rfl
  · rfl
  · show (if (color s).2 then ((color s).1, true) else (vnil, false)) = if (rcolor s).2 then _ else _
    unfold rkind rcolor
    by_cases h : (color s).2 = true
    · simp [h]
    · simp [h]
  · show valueOf [wLenP] s = if (rsize false true s).2 then ((rsize false true s).1, true) else _
    rw [valueOf_one, as_lenP, hnil]
    unfold positive length rsize
    rw [ht]
    cases ok <;> by_cases h1 : r = [112, 120] <;> by_cases h2 : r = [101, 109] <;> by_cases h3 : r = [] <;> by_cases h4 : n < 0 <;> by_cases h5 : n = 0 <;> simp_all [vnil] <;> first | omega | (simp only [if_neg (show ¬ n < 0 by omega)]; rfl) | (simp only [if_pos (show n < 0 by omega)]; rfl) | (simp [show ¬ n < 0 by omega])
  · show valueOf [wLenP, wPctP] s = if (rsize true true s).2 then ((rsize true true s).1, true) else _
    rw [valueOf_one, valueOf_one, as_lenP, as_pctP, hnil]
    unfold positive length percentage rsize
    rw [ht]
    cases ok <;> by_cases h1 : r = [112, 120] <;> by_cases h2 : r = [101, 109] <;> by_cases h3 : r = [] <;> by_cases h6 : r = [37] <;> by_cases h4 : n < 0 <;> by_cases h5 : n = 0 <;> simp_all [vnil] <;> first | omega | (simp only [if_neg (show ¬ n < 0 by omega)]; rfl) | (simp only [if_pos (show n < 0 by omega)]; rfl) | (simp [show ¬ n < 0 by omega])
  · show valueOf [wLen, wPct] s = if (rsize true false s).2 then ((rsize true false s).1, true) else _
    rw [valueOf_one, valueOf_one, as_len, as_pct, hnil]
    unfold length percentage rsize
    rw [ht]
    cases ok <;> by_cases h1 : r = [112, 120] <;> by_cases h2 : r = [101, 109] <;> by_cases h3 : r = [] <;> by_cases h6 : r = [37] <;> by_cases h5 : n = 0 <;> simp_all [vnil]
  · show valueOf [wNumP] s = if (rcount true false s).2 then ((rcount true false s).1, true) else _
    rw [valueOf_one, as_numP, hnil]
    unfold positive number rcount
    rw [ht]
    cases ok <;> by_cases h3 : r = [] <;> by_cases h4 : n < 0 <;> simp_all [vnil] <;> first | omega | (simp only [if_neg (show ¬ n < 0 by omega)]; rfl) | (simp only [if_pos (show n < 0 by omega)]; rfl) | (simp [show ¬ n < 0 by omega])
  · show valueOf [wInt] s = if (rcount false true s).2 then ((rcount false true s).1, true) else _
    rw [valueOf_one, as_int, hnil]
    unfold integer number rcount
    rw [ht]
    cases ok <;> by_cases h3 : r = [] <;> by_cases h4 : n.tmod 1000 = 0 <;> simp_all [vnil]
  · show valueOf [wNumP, wLenP, wPctP] s = if (if (rcount true false s).2 then rcount true false s else rsize true true s).2 then ((if (rcount true false s).2 then rcount true false s else rsize true true s).1, true) else _
    rw [valueOf_one, valueOf_one, valueOf_one, as_numP, as_lenP, as_pctP, hnil]
    unfold positive number length percentage rcount rsize
    rw [ht]
    cases ok <;> by_cases h1 : r = [112, 120] <;> by_cases h2 : r = [101, 109] <;> by_cases h3 : r = [] <;> by_cases h6 : r = [37] <;> by_cases h4 : n < 0 <;> by_cases h5 : n = 0 <;> simp_all [vnil] <;> first | omega | (simp only [if_neg (show ¬ n < 0 by omega)]; rfl) | (simp only [if_pos (show n < 0 by omega)]; rfl) | (simp [show ¬ n < 0 by omega])
theorem kw_ok : ∀ x ∈ kinds, (∀ y ∈ x.2.1, plainW y = true) ∧ x.2.2 ≤ 7 ∧ (x.2.2 = 1 → ∀ y ∈ x.2.1 ++ everyW, (color y).2 = false) := by
  have : (kinds.all fun x => (x.2.1.all fun y => plainW y) && decide (x.2.2 ≤ 7) && (decide (x.2.2 ≠ 1) || ((x.2.1 ++ everyW).all fun y => (color y).2 == false))) = true := by decide +kernel
  intro x hx
  have h := List.all_eq_true.1 this x hx
  rw [Bool.and_eq_true, Bool.and_eq_true] at h
  refine ⟨fun y hy => List.all_eq_true.1 h.1.1 y hy, of_decide_eq_true h.1.2, fun h1 y hy => ?_⟩
  have h2 : (decide (x.2.2 ≠ 1) || ((x.2.1 ++ everyW).all fun y => (color y).2 == false)) = true := h.2
  rw [show decide (x.2.2 ≠ 1) = false by rw [h1]; rfl, Bool.false_or] at h2
  exact eq_of_beq (List.all_eq_true.1 h2 y hy)
theorem every_no : ∀ s ∈ everyW, ∀ k, k ≠ 1 → (rkind k s).2 = false := by
  intro s hs k hk
  have ht : (thou s).2.1 = false := by
    have : (everyW.all fun s => (thou s).2.1 == false) = true := by decide +kernel
    simpa using List.all_eq_true.1 this s hs
  have h1 : ∀ a b, (rsize a b s).2 = false := fun a b => by unfold rsize; rw [if_pos (.inl ht)]
  have h2 : ∀ a b, (rcount a b s).2 = false := fun a b => by unfold rcount; rw [if_pos (.inl ht)]
  unfold rkind
  rw [if_neg hk]
  repeat' split
  all_goals first | exact h1 _ _ | exact h2 _ _ | rfl
theorem pv_eq {x : Bs × List Bs × Nat} (hx : x ∈ kinds) (s : Bs) : pv (wsOf x.2.1 x.2.2) s = if (rparse x.2.1 x.2.2 s).2 then ((rparse x.2.1 x.2.2 s).1, true) else (vnil, false) := by
  obtain ⟨h1, h2, h3⟩ := kw_ok x hx
  obtain ⟨name, kw, k⟩ := x
  simp only at h1 h2 h3 ⊢
  have hk := kind_eq k s h2
  have he := valueOf_every s
  unfold pv rparse
  by_cases h : k = 1
  · subst h
    have hw : wsOf kw 1 = [wColor] ++ (kw ++ []) := by rw [List.append_nil]; rfl
    have hkw := valueOf_kw [] s kw h1
    have hone : valueOf (wsOf kw 1) s = if (color s).2 then ((color s).1, true) else valueOf (kw ++ []) s := by rw [hw]; rfl
    rw [hone, hkw, he]
    by_cases hm : s ∈ kw ++ everyW
    · have hcs := h3 rfl s hm
      rw [if_pos hm, hcs]
      by_cases h4 : s ∈ kw
      · simp [h4]
      · have h5 : s ∈ everyW := (List.mem_append.1 hm).resolve_left h4
        simp [h4, h5, valueOf]
    · have h4 : ¬ s ∈ kw := fun h => hm (List.mem_append.2 (.inl h))
      have h5 : ¬ s ∈ everyW := fun h => hm (List.mem_append.2 (.inr h))
      rw [if_neg hm]
      show _ = if (rcolor s).2 then _ else _
      unfold rkind rcolor
      by_cases hc : (color s).2 = true
      · simp [hc]
      · simp [hc, h4, h5, valueOf]
  · have hw : wsOf kw k = kw ++ kOf k := by unfold wsOf; rw [if_neg h]
    rw [hw, valueOf_kw (kOf k) s kw h1, hk, he]
    by_cases h4 : s ∈ kw
    · simp [h4]
    · by_cases h5 : s ∈ everyW
      · have hr : (rkind k s).2 = true → False := fun hq => by rw [every_no s h5 k h] at hq; cases hq
        by_cases hq : (rkind k s).2 = true
        · exact (hr hq).elim
        · simp [h4, h5, hq]
      · by_cases hq : (rkind k s).2 = true
        · simp [h4, h5, hq]
        · simp [h4, h5, hq]
end St
end Go.Proofs.YtoiednecchbmnaaDoor
