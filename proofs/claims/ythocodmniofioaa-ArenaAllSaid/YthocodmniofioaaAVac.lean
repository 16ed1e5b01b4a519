/- An arena's lists: a slot that is taken, and rows of slots with any records. No program is imported. -/
import Derived.Test.YthocodmniofioaaAMod
namespace Go.Proofs.Ythocodmniofioaa.Ar
open Go Go.RowKit

def vac (cs : List (Option Int)) (fr : List Nat) : List (Option Int) × List Nat × Nat :=
  match fr.getLast? with
  | none => (cs ++ [none], [], cs.length)
  | some i => (cs, fr.dropLast, i)
theorem vac_nil (cs : List (Option Int)) : vac cs [] = (cs ++ [none], [], cs.length) := rfl
theorem vac_last (cs : List (Option Int)) (L : List Nat) (i : Nat) : vac cs (L ++ [i]) = (cs, L, i) := by unfold vac; simp
theorem vac_add (cs : List (Option Int)) (fr : List Nat) (v : Int) : add cs fr v = ((vac cs fr).1.set (vac cs fr).2.2 (some v), (vac cs fr).2.1, (vac cs fr).2.2) := by
  unfold add vac
  cases fr.getLast? with
  | none => simp
  | some i => rfl
theorem vac_get {cs : List (Option Int)} {fr : List Nat} (h : Ok cs fr) : (vac cs fr).1[(vac cs fr).2.2]? = some none := by
  unfold vac
  cases e : fr.getLast? with
  | none => simp
  | some i => exact h.2 i (List.mem_of_getLast? e)
theorem vac_len (cs : List (Option Int)) (fr : List Nat) : (vac cs fr).1.length ≤ cs.length + 1 := by
  unfold vac
  cases fr.getLast? with
  | none => simp
  | some i => exact Nat.le_succ _
theorem vac_live (cs : List (Option Int)) (fr : List Nat) : live (vac cs fr).1 = live cs := by
  unfold vac
  cases fr.getLast? with
  | none => simp [live]
  | some i => rfl
theorem live_cons (c : Option Int) (r : List (Option Int)) : live (c :: r) = live r + (if c.isSome then 1 else 0) := by
  cases c <;> simp [live]
theorem live_put {cs : List (Option Int)} {i : Nat} {c d : Option Int} (h : cs[i]? = some c) : live (cs.set i d) + (if c.isSome then 1 else 0) = live cs + (if d.isSome then 1 else 0) := by
  induction cs generalizing i with
  | nil => simp at h
  | cons x r ih =>
    cases i with
    | zero =>
      simp at h
      subst h
      rw [List.set_cons_zero, live_cons, live_cons]; omega
    | succ i =>
      rw [List.getElem?_cons_succ] at h
      have := ih h
      rw [List.set_cons_succ, live_cons, live_cons]; omega
theorem live_add {cs : List (Option Int)} {i : Nat} {v : Int} (h : cs[i]? = some none) : live (cs.set i (some v)) = live cs + 1 := by simpa using live_put (d := some v) h
theorem live_sub {cs : List (Option Int)} {i : Nat} {v : Int} (h : cs[i]? = some (some v)) : live (cs.set i none) + 1 = live cs := by simpa using live_put (d := none) h
theorem live_same {cs : List (Option Int)} {i : Nat} {v u : Int} (h : cs[i]? = some (some v)) : live (cs.set i (some u)) = live cs := by
  have := live_put (d := some u) h
  simp at this
  exact this
/-- A row of slots. -/
def rows (g : Option Int → List Value) (cs : List (Option Int)) : List Value := cs.flatMap g
variable {g : Option Int → List Value} {n : Nat}
theorem rows_append (a b : List (Option Int)) : rows g (a ++ b) = rows g a ++ rows g b := by simp [rows]
theorem rows_one (c : Option Int) : rows g [c] = g c := by simp [rows]
theorem rows_len (hn : ∀ c, (g c).length = n) (cs : List (Option Int)) : (rows g cs).length = cs.length * n := by
  induction cs with
  | nil => simp [rows]
  | cons c r ih =>
    have : rows g (c :: r) = g c ++ rows g r := rfl
    rw [this, List.length_append, hn, ih, List.length_cons, Nat.add_mul]; omega
theorem rows_get (hn : ∀ c, (g c).length = n) {cs : List (Option Int)} {i j : Nat} {c : Option Int} (h : cs[i]? = some c) (hj : j < n) : (rows g cs)[i * n + j]? = (g c)[j]? := by
  induction cs generalizing i with
  | nil => simp at h
  | cons d r ih =>
    have e : rows g (d :: r) = g d ++ rows g r := rfl
    cases i with
    | zero =>
      simp at h
      subst h
      rw [e, Nat.zero_mul, Nat.zero_add, List.getElem?_append_left (by rw [hn]; exact hj)]
    | succ i =>
      rw [List.getElem?_cons_succ] at h
      rw [e, List.getElem?_append_right (by rw [hn, Nat.add_mul]; omega), hn, show (i + 1) * n + j - n = i * n + j from by rw [Nat.add_mul]; omega]
      exact ih h
theorem rows_put (hn : ∀ c, (g c).length = n) {cs : List (Option Int)} {i : Nat} (h : i < cs.length) (x : Option Int) :
    (rows g cs).take (i * n) ++ g x ++ (rows g cs).drop (i * n + n) = rows g (cs.set i x) := by
  induction cs generalizing i with
  | nil => simp at h
  | cons d r ih =>
    have e : rows g (d :: r) = g d ++ rows g r := rfl
    cases i with
    | zero =>
      rw [List.set_cons_zero, e, Nat.zero_mul, List.take_zero, Nat.zero_add]
      have e2 : rows g (x :: r) = g x ++ rows g r := rfl
      rw [e2, List.drop_left' (hn d)]
      simp
    | succ i =>
      have e2 : rows g (d :: r.set i x) = g d ++ rows g (r.set i x) := rfl
      rw [List.set_cons_succ, e2, ← ih (by simpa using h), e]
      have h1 : (i + 1) * n = (g d).length + i * n := by rw [hn, Nat.add_mul]; omega
      rw [h1, Nat.add_assoc, List.take_append, List.drop_append, List.take_of_length_le (by omega), List.drop_eq_nil_of_le (by omega)]
      simp [List.append_assoc]
theorem set_seq2 (xs : List Value) (k : Nat) (a b : Value) (h : k + 2 ≤ xs.length) : (xs.set k a).set (k + 1) b = xs.take k ++ [a, b] ++ xs.drop (k + 2) := by
  induction xs generalizing k with
  | nil => simp at h
  | cons x r ih =>
    cases k with
    | zero =>
      cases r with
      | nil => simp at h
      | cons y r => rfl
    | succ k =>
      have := ih k (by simp at h; omega)
      simp only [List.set_cons_succ, this]
      rfl
theorem set_seq3 (xs : List Value) (k : Nat) (a b c : Value) (h : k + 3 ≤ xs.length) : ((xs.set k a).set (k + 1) b).set (k + 2) c = xs.take k ++ [a, b, c] ++ xs.drop (k + 3) := by
  induction xs generalizing k with
  | nil => simp at h
  | cons x r ih =>
    cases k with
    | zero =>
      match r, h with
      | y :: z :: r, _ => rfl
      | [_], h => simp at h
      | [], h => simp at h
    | succ k =>
      have := ih k (by simp at h; omega)
      simp only [List.set_cons_succ, this]
      rfl
theorem rows_fits (hn : ∀ c, (g c).length = n) {cs : List (Option Int)} {i : Nat} (h : i < cs.length) : i * n + n ≤ (rows g cs).length := by
  rw [rows_len hn]
  calc i * n + n = (i + 1) * n := by rw [Nat.add_mul]; omega
    _ ≤ cs.length * n := Nat.mul_le_mul_right _ h
theorem rows_set2 (hn : ∀ c, (g c).length = 2) {cs : List (Option Int)} {i : Nat} (h : i < cs.length) {x : Option Int} {a b : Value} (hx : g x = [a, b]) : ((rows g cs).set (i * 2) a).set (i * 2 + 1) b = rows g (cs.set i x) := by
  rw [set_seq2 _ _ _ _ (rows_fits hn h), ← rows_put hn h x, hx]
theorem rows_set3 (hn : ∀ c, (g c).length = 3) {cs : List (Option Int)} {i : Nat} (h : i < cs.length) {x : Option Int} {a b c : Value} (hx : g x = [a, b, c]) : (((rows g cs).set (i * 3) a).set (i * 3 + 1) b).set (i * 3 + 2) c = rows g (cs.set i x) := by
  rw [set_seq3 _ _ _ _ _ (rows_fits hn h), ← rows_put hn h x, hx]
theorem nodup_le : ∀ (n : Nat) (l : List Nat), l.Nodup → (∀ x ∈ l, x < n) → l.length ≤ n
  | 0, l, _, h => by
    cases l with
    | nil => exact Nat.le_refl _
    | cons x r => exact absurd (h x (by simp)) (by omega)
  | n + 1, l, hd, h => by
    have h1 : (l.erase n).length ≤ n := nodup_le n (l.erase n) (hd.erase n) fun x hx => by
      rw [hd.mem_erase_iff] at hx
      have := h x hx.2
      omega
    have h2 : l.length ≤ (l.erase n).length + 1 := by rw [List.length_erase]; split <;> omega
    omega
theorem Ok.len {cs : List (Option Int)} {fr : List Nat} (h : Ok cs fr) : fr.length ≤ cs.length :=
  nodup_le _ _ h.1 fun x hx => (List.getElem?_eq_some_iff.1 (h.2 x hx)).1
end Go.Proofs.Ythocodmniofioaa.Ar
