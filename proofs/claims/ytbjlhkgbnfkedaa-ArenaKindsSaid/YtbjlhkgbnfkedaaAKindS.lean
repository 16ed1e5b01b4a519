/- Three arenas of three kinds, and the row of their handles. -/
import Derived.Test.YtbjlhkgbnfkedaaAFilL
import Derived.Test.YtbjlhkgbnfkedaaAGetS
import Derived.Test.YtbjlhkgbnfkedaaAGetP
namespace Go.Proofs.Ytbjlhkgbnfkedaa
open Go Go.RowKit

abbrev AS (f : Int → ByteArray) (base : Nat) (w : World) (B : Nat) (b s : Int) (cs : List (Option Int)) (fr : List Nat) (F : Nat → Prop) : Prop :=
  AM 76 96 3 2 base w B b s cs.length (Ar.rows (slotS f) cs) fr (Ar.live cs) F
abbrev AP (f : Int → ByteArray) (base : Nat) (w : World) (B : Nat) (b s : Int) (cs : List (Option Int)) (fr : List Nat) (F : Nat → Prop) : Prop :=
  AM 80 99 3 3 base w B b s cs.length (Ar.rows (slotP f) cs) fr (Ar.live cs) F
structure KS (f : Int → ByteArray) (N : Nat) (w : World) (B1 B2 B3 : Nat) (b s : Int) (c1 c2 c3 : List (Option Int)) (f1 f2 f3 : List Nat) (F1 F2 F3 : Nat → Prop) (g : Value) (l : List Int) : Prop where
  a1 : AI N w B1 b s c1 f1 F1
  a2 : AS f N w B2 b s c2 f2 F2
  a3 : AP f N w B3 b s c3 f3 F3
  x12 : ∀ k, F1 k → ¬ F2 k
  x13 : ∀ k, F1 k → ¬ F3 k
  x23 : ∀ k, F2 k → ¬ F3 k
  r : w.ownsRow N 3 1 g l.length (ints l)
  r1 : ∀ k, g.ownBlock = some k → ¬ F1 k
  r2 : ∀ k, g.ownBlock = some k → ¬ F2 k
  r3 : ∀ k, g.ownBlock = some k → ¬ F3 k
section
variable {f : Int → ByteArray} {N B1 B2 B3 : Nat} {w w' : World} {b s : Int} {c1 c2 c3 c1' c2' c3' : List (Option Int)} {f1 f2 f3 f1' f2' f3' : List Nat} {F1 F2 F3 F1' F2' F3' : Nat → Prop} {g g' : Value} {l : List Int} {x : Int}
theorem KS.stepA (h : KS f N w B1 B2 B3 b s c1 c2 c3 f1 f2 f3 F1 F2 F3 g l) (hA : AI N w' B1 b s c1' f1' F1') (hs : AStep w w' F1 F1') : KS f N w' B1 B2 B3 b s c1' c2 c3 f1' f2 f3 F1' F2 F3 g l :=
  ⟨hA, h.a2.turns hs.1 (fun k hk hf => h.x12 k hf hk), h.a3.turns hs.1 (fun k hk hf => h.x13 k hf hk), fun k hk h2 => h.x12 k (hs.2 k (h.a2.lt k h2).2 hk) h2, fun k hk h2 => h.x13 k (hs.2 k (h.a3.lt k h2).2 hk) h2, h.x23,
    own_turns h.r hs.1 h.r1, fun k hk hf => h.r1 k hk (hs.2 k (h.r.lt k hk).2 hf), h.r2, h.r3⟩
theorem KS.stepB (h : KS f N w B1 B2 B3 b s c1 c2 c3 f1 f2 f3 F1 F2 F3 g l) (hA : AS f N w' B2 b s c2' f2' F2') (hs : AStep w w' F2 F2') : KS f N w' B1 B2 B3 b s c1 c2' c3 f1 f2' f3 F1 F2' F3 g l :=
  ⟨h.a1.turns hs.1 (fun k hk hf => h.x12 k hk hf), hA, h.a3.turns hs.1 (fun k hk hf => h.x23 k hf hk), fun k hk h2 => h.x12 k hk (hs.2 k (h.a1.lt k hk).2 h2), h.x13, fun k hk h2 => h.x23 k (hs.2 k (h.a3.lt k h2).2 hk) h2,
    own_turns h.r hs.1 h.r2, h.r1, fun k hk hf => h.r2 k hk (hs.2 k (h.r.lt k hk).2 hf), h.r3⟩
theorem KS.stepC (h : KS f N w B1 B2 B3 b s c1 c2 c3 f1 f2 f3 F1 F2 F3 g l) (hA : AP f N w' B3 b s c3' f3' F3') (hs : AStep w w' F3 F3') : KS f N w' B1 B2 B3 b s c1 c2 c3' f1 f2 f3' F1 F2 F3' g l :=
  ⟨h.a1.turns hs.1 (fun k hk hf => h.x13 k hk hf), h.a2.turns hs.1 (fun k hk hf => h.x23 k hk hf), hA, h.x12, fun k hk h2 => h.x13 k hk (hs.2 k (h.a1.lt k hk).2 h2), fun k hk h2 => h.x23 k hk (hs.2 k (h.a2.lt k hk).2 h2),
    own_turns h.r hs.1 h.r3, h.r1, h.r2, fun k hk hf => h.r3 k hk (hs.2 k (h.r.lt k hk).2 hf)⟩
theorem KS.below (h : KS f N w B1 B2 B3 b s c1 c2 c3 f1 f2 f3 F1 F2 F3 g l) (hb : Below w.heap.size w w') : KS f N w' B1 B2 B3 b s c1 c2 c3 f1 f2 f3 F1 F2 F3 g l :=
  ⟨h.a1.below hb, h.a2.below hb, h.a3.below hb, h.x12, h.x13, h.x23, own_turns (S := fun _ => False) h.r (.of_below hb) (fun _ _ => id), h.r1, h.r2, h.r3⟩
theorem KS.push (h : KS f N w B1 B2 B3 b s c1 c2 c3 f1 f2 f3 F1 F2 F3 g l) (ho : w'.ownsRow N 3 1 g' (l.length + 1) (ints l ++ ints [x])) (hg : w.grownBy w' g.ownBlock) (hf : Fresh w g g') :
    KS f N w' B1 B2 B3 b s c1 c2 c3 f1 f2 f3 F1 F2 F3 g' (l ++ [x]) ∧ Turns (fun k => g.ownBlock = some k) w w' := by
  obtain ⟨p1, p2, p3⟩ := Row.push h.a1 ⟨h.r, h.r1⟩ ho hg hf
  obtain ⟨q1, q2, _⟩ := Row.push h.a2 ⟨h.r, h.r2⟩ ho hg hf
  obtain ⟨s1, s2, _⟩ := Row.push h.a3 ⟨h.r, h.r3⟩ ho hg hf
  exact ⟨⟨p1, q1, s1, h.x12, h.x13, h.x23, p2.1, p2.2, q2.2, s2.2⟩, p3⟩
end
def ix (n : Nat) : List Int := (List.range n).map fun (i : Nat) => (i : Int)
theorem ix_len (n : Nat) : (ix n).length = n := by simp [ix]
theorem ix_get {n k : Nat} (h : k < n) : (ix n)[k]? = some (k : Int) := by simp [ix, h]
theorem fil_mem {n : Nat} {v : Int} : ∀ (ds : List Int) (p : List (Option Int) × List Nat), some v ∈ (Ar.filAt n ds p).1 → some v ∈ p.1
  | [], _, h => h
  | d :: ds, p, h => by
    have h1 := fil_mem ds (Ar.filStep n p d) h
    unfold Ar.filStep at h1
    split at h1
    · exact h1
    · unfold Ar.dropAt at h1
      split at h1
      · rcases List.mem_or_eq_of_mem_set h1 with h2 | h2
        · exact h2
        · cases h2
      · exact h1
theorem ix_rec {b s h v : Int} {n : Nat} {ds : List Int} (e : Ar.get b s (Ar.filAt n ds ((ix n).map some, [])).1 h = some v) : ∃ i : Nat, i < n ∧ v = (i : Int) := by
  obtain ⟨i, _, hi⟩ := Ar.get_some e
  have h1 := fil_mem ds _ (List.mem_of_getElem? hi)
  obtain ⟨a, ha, hav⟩ := List.mem_map.1 h1
  injection hav with hav
  subst hav
  unfold ix at ha
  obtain ⟨j, hj, rfl⟩ := List.mem_map.1 ha
  exact ⟨j, by simpa using hj, rfl⟩
end Go.Proofs.Ytbjlhkgbnfkedaa
