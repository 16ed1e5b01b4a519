/- For all strings pieces and all numbers take, the statement MarkupLate returns true: it makes no difference after which pieces tokens are taken, and how many; pieces and take read as before. -/
import Derived.WalkKit
import Derived.Laws.OwnMore
import Derived.Laws.IdiomStrings
import Derived.BigQuiet
import Derived.IntWalk
import Derived.Test.YtckmlbcpldpkpaaDoorProg
import Derived.Lib.SmallJoins
import Derived.Deep.Slices
import Derived.ChangeSame
import Derived.ProofKit
import Derived.SliceStrings
import Derived.Test.YtckmlbcpldpkpaaDoorRows
import Derived.Test.YtckmlbcpldpkpaaDoorCards
import Derived.Test.YtckmlbcpldpkpaaDoorTie
import Derived.PinnedBridge
import Derived.Lib.LaidU8T
import Derived.Lib.LaidIn
import Derived.Lay
import Derived.LaidMore
import Derived.SevenTiedAt
import Derived.SizedLaws
import Derived.ChangeOld
import Derived.Below
import Derived.OpenShut
import Derived.ShutString
import Derived.Test.YtckmlbcpldpkpaaDoorKA
import Derived.Test.YtckmlbcpldpkpaaDoorKB
import Derived.Test.YtckmlbcpldpkpaaDoorKC
import Derived.Test.YtckmlbcpldpkpaaDoorKG
namespace Go.Proofs.YtckmlbcpldpkpaaDoor
open Go
set_option linter.unusedVariables false

/-- Of the text P the decoder keeps d, the tokenizer rest, raw and ret; the tokens G are told. -/
def PcS (P d rest raw : List UInt8) (ret : Bool) (G : List Mk.Tok) : Prop :=
  ∃ R, (∀ x, Txt.rep (P ++ x) = R ++ Txt.rep (d ++ x)) ∧ ret = crS false R ∧
    (∀ u, Mk.toks true [] (Txt.newl false R ++ u) = (G ++ (Mk.toks true raw (rest ++ u)).1, (Mk.toks true raw (rest ++ u)).2)) ∧
    G.length + rest.length ≤ R.length ∧ raw.length ≤ 100 ∧ d.length ≤ 3
theorem PcS.start : PcS [] [] [] [] false [] := ⟨[], fun x => rfl, rfl, fun u => rfl, Nat.le_refl _, Nat.zero_le _, Nat.zero_le _⟩
section
variable {P d rest raw : List UInt8} {ret : Bool} {G : List Mk.Tok}
theorem PcS.feed {s l1 l2 : List UInt8} (h : PcS P d rest raw ret G) (hc : d ++ s = l1 ++ l2) (hcut : Txt.Cut l1 l2) :
    PcS (P ++ s) l2 (rest ++ Txt.newl ret (Txt.rep l1)) raw (crS ret (Txt.rep l1)) G := by
  obtain ⟨R, h1, h2, h3, h4, h5, h6⟩ := h
  refine ⟨R ++ Txt.rep l1, fun x => ?_, ?_, fun u => ?_, ?_, h5, cut_len hcut⟩
  · rw [List.append_assoc, h1, ← List.append_assoc d, hc, List.append_assoc l1, Txt.rep_cut hcut, List.append_assoc]
  · rw [crS_app, ← h2]
  · rw [newl_app, ← h2, List.append_assoc, h3, List.append_assoc]
  · rw [List.length_append, List.length_append]
    have := Txt.newl_len ret (Txt.rep l1)
    omega
theorem PcS.some {t : Mk.Tok} {r' s' : List UInt8} (h : PcS P d rest raw ret G) (hn : Mk.nxt false raw rest = (some t, r', s')) : PcS P d s' r' ret (G ++ [t]) := by
  obtain ⟨R, h1, h2, h3, h4, h5, h6⟩ := h
  have hl := Mk.nxt_lt hn
  have hr := nxt_raw (c := false) rest.length raw rest (Nat.le_refl _) h5
  rw [hn] at hr
  refine ⟨R, h1, h2, fun u => ?_, ?_, hr, h6⟩
  · rw [h3, Mk.toks_nxt_some hn]; simp
  · rw [List.length_append, List.length_singleton]; omega
theorem PcS.none {r' s' : List UInt8} (h : PcS P d rest raw ret G) (hn : Mk.nxt false raw rest = (none, r', s')) : PcS P d s' r' ret G := by
  obtain ⟨R, h1, h2, h3, h4, h5, h6⟩ := h
  have hl := Mk.nxt_le hn
  have hr := nxt_raw (c := false) rest.length raw rest (Nat.le_refl _) h5
  rw [hn] at hr
  exact ⟨R, h1, h2, fun u => by rw [h3, Mk.toks_nxt_none hn], by omega, hr, h6⟩
theorem PcS.done (h : PcS P d rest raw ret G) : G ++ (Mk.toks true raw (rest ++ Txt.newl ret (Txt.rep d))).1 = Mk.tokens (docText P) := by
  obtain ⟨R, h1, h2, h3, h4, h5, h6⟩ := h
  have e := h1 []
  rw [List.append_nil, List.append_nil] at e
  have e2 : docText P = Txt.newl false R ++ Txt.newl ret (Txt.rep d) := by
    unfold docText; rw [e, newl_app, ← h2]
  have h9 := congrArg Prod.fst (h3 (Txt.newl ret (Txt.rep d)))
  rw [← e2] at h9
  rw [← (Mk.toks_tokens _ _ (Nat.le_refl _)).1, h9]
theorem PcS.bounds (h : PcS P d rest raw ret G) (s : List UInt8) (hs : (P ++ s).length ≤ 1500) : (Txt.rep (d ++ s)).length + rest.length + G.length ≤ 4500 ∧ raw.length ≤ 100 ∧ d.length ≤ 3 := by
  obtain ⟨R, h1, h2, h3, h4, h5, h6⟩ := h
  have e := congrArg List.length (h1 s)
  have := Txt.rep_len (P ++ s)
  rw [List.length_append] at e
  exact ⟨by omega, h5, h6⟩
end

/-! The text that is tried at the end: a start tag. -/
theorem cut_b {l1 l2 : List UInt8} (h : [60, 98, 62] = l1 ++ l2) (hc : Txt.Cut l1 l2) : l1 = [60, 98, 62] ∧ l2 = [] := by
  rcases hc.1 with rfl | hb
  · exact ⟨by rw [h, List.append_nil], rfl⟩
  · exfalso
    match l1, h with
    | [], h => rw [List.nil_append] at h; subst h; exact absurd (Txt.beg_first hb) (by decide)
    | [a], h =>
      injection h with h1 h2
      have h2' : l2 = [98, 62] := h2.symm
      subst h2'
      exact absurd (Txt.beg_first hb) (by decide)
    | [a, b], h =>
      injection h with h1 h2
      injection h2 with h2 h3
      have h3' : l2 = [62] := h3.symm
      subst h3'
      exact absurd (Txt.beg_first hb) (by decide)
    | [a, b, c], h =>
      injection h with h1 h2
      injection h2 with h2 h3
      injection h3 with h3 h4
      have h4' : l2 = [] := h4.symm
      subst h4'
      cases hb
    | a :: b :: c :: d :: r, h => injection h with h1 h2; injection h2 with h2 h3; injection h3 with h3 h4; cases h4
theorem nxt_b : (Mk.nxt false [] [60, 98, 62]).1 = some ⟨1, [98], [], false, []⟩ := by
  have hs : Mk.start [98, 62] = some (⟨1, [98], [], false, []⟩, []) := by
    have e1 : List.dropWhile (fun c => !Mk.stopC c) [98, 62] = [62] := by decide
    have e2 : Mk.name [98, 62] = [98] := by decide
    unfold Mk.start
    rw [e1, e2, Mk.attrs_def]
    rfl
  have hr : Mk.rd [] false [60, 98, 62] = (some ⟨1, [98], [], false, []⟩, 3) := by
    unfold Mk.rd
    rw [if_pos rfl]
    unfold Mk.rdNormal
    rw [if_neg (by decide), if_neg (by decide), if_neg (by decide), if_neg (by decide), if_neg (by decide), if_pos (by decide)]
    unfold Mk.rdStart
    rw [show List.drop 1 ([60, 98, 62] : List UInt8) = [98, 62] from rfl, hs]
    rfl
  rw [Mk.nxt_some (by simp) (by rw [hr]; decide) (by rw [hr])]

end Go.Proofs.YtckmlbcpldpkpaaDoor

/- Appending a row that a slice names, whatever the slice, nil too. No program is imported. -/
namespace Go.Proofs.YtckmlbcpldpkpaaDoor
open Go Go.RowKit

variable {P : Program} {w : World}
/-- A row lies where it lay, or where nothing lay. -/
def Fresh (w : World) (v v' : Value) : Prop := v'.ownBlock = v.ownBlock ∨ ∀ k, v'.ownBlock = some k → w.heap.size ≤ k
/-- A row is the old one, or is new. -/
def NewOr (w : World) (v v' : Value) : Prop := ∀ k, v'.ownBlock = some k → v.ownBlock = some k ∨ w.heap.size ≤ k
theorem NewOr.same (w : World) (v : Value) : NewOr w v v := fun _ h => .inl h
theorem NewOr.nil (w : World) (v : Value) : NewOr w v (.slice none 0 0) := fun k h => by simp [Value.ownBlock] at h
theorem NewOr.of_own {w w' : World} {base size n : Nat} {e : TypeId} {v v' : Value} {xs : List Value} (h : w'.ownsRow base e size v' n xs) (hb : w.heap.size ≤ base) : NewOr w v v' := fun k hk => .inr (Nat.le_trans hb (h.lt k hk).1)
theorem append_fresh (base : Nat) (t ty e : TypeId) (i : TypeInfo) (z : Value) (size bytes : Nat) (ht : P.underlying t = some (.slice e)) (hi : P.info? e = some i) (hz : i.zero = some z)
    (hsize : i.size = size) (hby : i.bytes = bytes) (hzs : z.cells.size = size) (hsz : 0 < size)
    (v : Value) (n : Nat) (xs : List Value) (hown : w.ownsRow base e size v n xs)
    (a : Addr) (m c : Nat) (news : List Value) (hl : news.length = m * size) (hnews : ∀ j u, news[j]? = some u → w.cell? (a.add j) = some u) (h1 : ∀ u ∈ news, u.oneCell' = true)
    (h63 : n + m ≤ maxLen) (hbytes : (n + m) * bytes ≤ 140737488355328) {v' : Value} {w' : World}
    (hrun : (Builtin.append_ #[t, t] ty #[v, .slice (some a) m c]).run P w = .ok v' w') : Fresh w v v' := by
  have hsmall : n + m ≤ 9223372036854775807 := by simp only [maxLen] at h63; omega
  rcases hown.2 with ⟨rfl, rfl⟩ | ⟨g, cap, cur, rfl, hbg, hg, hnc, hcm, hcs, htake⟩
  · have hx : xs = [] := List.eq_nil_of_length_eq_zero (by simpa using hown.1)
    subst hx
    obtain ⟨v2, w2, hr, h2, _, _⟩ := run_append_own (P := P) w w.heap.size t ty e i z size bytes ht hi hz hsize hby hzs hsz _ _ _ (World.ownsRow_nil w w.heap.size e size) a m c news hl hnews h1 h63 hbytes (Nat.le_refl _)
    rw [hrun] at hr
    injection hr with hv _
    subst hv
    exact .inr fun k hk => (h2.lt k hk).1
  · subst hsize
    subst hby
    by_cases hroom : n + m ≤ cap
    · have hfit : n * i.size + news.length ≤ cur.size := by rw [hl, hcs, ← Nat.add_mul]; exact Nat.mul_le_mul_right _ hroom
      have hr := run_append_room (P := P) w t ty e i ht hi g n cap cur hg a m c news hl hnews h1 hroom hfit
      rw [hrun] at hr
      injection hr with hv _
      subst hv
      exact .inl (by simp [Value.ownBlock])
    · have holds : ∀ j u, xs[j]? = some u → w.cell? ((⟨g, 0, none⟩ : Addr).add j) = some u := hown.cells (g := g) rfl
      have hr := run_append_grow (P := P) w t ty e i z ht hi hz ⟨g, 0, none⟩ n cap xs hown.1 holds a m c news hl hnews (by omega) (by omega) (growslice_fits (by omega) hbytes)
      rw [hrun] at hr
      injection hr with hv _
      subst hv
      exact .inr fun k hk => by simp [Value.ownBlock] at hk; omega
theorem run_append_src (base base2 : Nat) (t ty e : TypeId) (i : TypeInfo) (z : Value) (size bytes : Nat) (ht : P.underlying t = some (.slice e)) (hi : P.info? e = some i) (hz : i.zero = some z)
    (hsize : i.size = size) (hby : i.bytes = bytes) (hzs : z.cells.size = size) (hsz : 0 < size)
    (v : Value) (n : Nat) (xs : List Value) (hown : w.ownsRow base e size v n xs) (v2 : Value) (m : Nat) (ys : List Value) (hsrc : w.ownsRow base2 e size v2 m ys) (h1 : ∀ u ∈ ys, u.oneCell' = true)
    (h63 : n + m ≤ maxLen) (hbytes : (n + m) * bytes ≤ 140737488355328) (hbase : base ≤ w.heap.size) :
    ∃ v' w', (Builtin.append_ #[t, t] ty #[v, v2]).run P w = .ok v' w' ∧ w'.ownsRow base e size v' (n + m) (xs ++ ys) ∧ w.grownBy w' v.ownBlock ∧ Fresh w v v' := by
  have hs := hsrc
  rcases hsrc.2 with ⟨rfl, rfl⟩ | ⟨g, cap, cur, rfl, _⟩
  · have hy : ys = [] := by
      have := hsrc.1
      rw [Nat.zero_mul] at this
      exact List.eq_nil_of_length_eq_zero this
    subst hy
    refine ⟨v, w, run_append_owned_none w base t ty e i size ht hi v n xs hown, by rw [List.append_nil, Nat.add_zero]; exact hown, ⟨rfl, rfl, rfl, Nat.le_refl _, fun _ _ _ => rfl⟩, .inl rfl⟩
  · obtain ⟨v', w', hr, h2, h3, _⟩ := run_append_own (P := P) w base t ty e i z size bytes ht hi hz hsize hby hzs hsz v n xs hown ⟨g, 0, none⟩ m cap ys hs.1 (hs.cells rfl) h1 h63 hbytes hbase
    exact ⟨v', w', hr, h2, h3, append_fresh base t ty e i z size bytes ht hi hz hsize hby hzs hsz v n xs hown ⟨g, 0, none⟩ m cap ys hs.1 (hs.cells rfl) h1 h63 hbytes hr⟩

theorem wpList_append_src {ops : Array Oper} {rest : List Oper} {o : Oper} {a : Act} {Q : Exit → Act → World → Prop} (hgd : o.guard = none) (s x : Operand) (t : TypeId)
    (ho : o.op = .call { callee := .builtin .append, args := #[s, x], argTypes := #[t, t] })
    (base base2 : Nat) (e : TypeId) (i : TypeInfo) (z : Value) (size bytes : Nat) (ht : P.underlying t = some (.slice e)) (hi : P.info? e = some i) (hz : i.zero = some z)
    (hsize : i.size = size) (hby : i.bytes = bytes) (hzs : z.cells.size = size) (hsz : 0 < size)
    (v : Value) (n : Nat) (xs : List Value) (hs : a.eval s = v) (hown : w.ownsRow base e size v n xs) (v2 : Value) (m : Nat) (ys : List Value) (hx : a.eval x = v2) (hsrc : w.ownsRow base2 e size v2 m ys) (h1 : ∀ u ∈ ys, u.oneCell' = true)
    (h63 : n + m ≤ maxLen) (hbytes : (n + m) * bytes ≤ 140737488355328) (hbase : base ≤ w.heap.size)
    (h : ∀ v' w', w'.ownsRow base e size v' (n + m) (xs ++ ys) → w.grownBy w' v.ownBlock → Fresh w v v' → wpList P ops Q rest (a.put o.dst v') w') : wpList P ops Q (o :: rest) a w := by
  refine wpList_plain hgd fun K hK => ?_
  obtain ⟨v', w', hr, h2, h3, h4⟩ := run_append_src (P := P) base base2 t o.type e i z size bytes ht hi hz hsize hby hzs hsz v n xs hown v2 m ys hsrc h1 h63 hbytes hbase
  unfold Oper.wp execOp
  simp only [ho, resolve, invoke, builtin, Sem.run_bind, Sem.run_pure, Result.andThen_ok, List.map_toArray, List.map_cons, List.map_nil, hs, hx, hr]
  exact hK _ _ (h v' w' h2 h3 h4)

/-- A guard: the goal is such a step. -/
theorem step_pre {c : Prop} [Decidable c] {A B : Prop} (h : if c then A else B) : if c then A else B := h
/-- At a step of a region that draws its order. -/
theorem step_append_src {ops : Array Oper} {o : Oper} {a : Act} {K : Act → World → Prop} {Q : Exit → Act → World → Prop} {E : Prop} (hgd : o.guard = none) (s x : Operand) (t : TypeId)
    (ho : o.op = .call { callee := .builtin .append, args := #[s, x], argTypes := #[t, t] })
    (base base2 : Nat) (e : TypeId) (i : TypeInfo) (z : Value) (size bytes : Nat) (ht : P.underlying t = some (.slice e)) (hi : P.info? e = some i) (hz : i.zero = some z)
    (hsize : i.size = size) (hby : i.bytes = bytes) (hzs : z.cells.size = size) (hsz : 0 < size)
    (v : Value) (n : Nat) (xs : List Value) (hs : a.eval s = v) (hown : w.ownsRow base e size v n xs) (v2 : Value) (m : Nat) (ys : List Value) (hx : a.eval x = v2) (hsrc : w.ownsRow base2 e size v2 m ys) (h1 : ∀ u ∈ ys, u.oneCell' = true)
    (h63 : n + m ≤ maxLen) (hbytes : (n + m) * bytes ≤ 140737488355328) (hbase : base ≤ w.heap.size)
    (h : ∀ v' w', w'.ownsRow base e size v' (n + m) (xs ++ ys) → w.grownBy w' v.ownBlock → Fresh w v v' → K (a.put o.dst v') w') :
    if Region.wanted o (yielded ops a.tmps) = true then Oper.wp P o a w K Q else E := by
  have hw : Region.wanted o (yielded ops a.tmps) = true := by simp [Region.wanted, hgd]
  rw [if_pos hw]
  obtain ⟨v', w', hr, h2, h3, h4⟩ := run_append_src (P := P) base base2 t o.type e i z size bytes ht hi hz hsize hby hzs hsz v n xs hown v2 m ys hsrc h1 h63 hbytes hbase
  unfold Oper.wp execOp
  simp only [ho, resolve, invoke, builtin, Sem.run_bind, Sem.run_pure, Result.andThen_ok, List.map_toArray, List.map_cons, List.map_nil, hs, hx, hr]
  exact h v' w' h2 h3 h4

end Go.Proofs.YtckmlbcpldpkpaaDoor

/- A tokenizer and a row of tokens in memory, and what steps leave of them. -/
namespace Go.Proofs.YtckmlbcpldpkpaaDoor
open Go Go.RowKit
set_option linter.unusedVariables false

/-- A row of tokens, one more behind it. -/
theorem TRow.push {w w5 : World} {base : Nat} {v v2 sl : Value} {l : List (Mk.Tok × Value)} {T : Mk.Tok} {o : Obj} (h : TRow w base v l) (ha : ARow 46 w base sl T.attrs)
    (ho : w5.ownsRow base 32 5 v2 (l.length + 1) (tcells (l ++ [(T, sl)]))) (hg : (w.alloc o).grownBy w5 v.ownBlock) : TRow w5 base v2 (l ++ [(T, sl)]) := by
  refine ⟨by rw [List.length_append]; exact ho, fun p hp => ?_⟩
  have hrow := World.ownsRow.alloc h.1 o
  rcases List.mem_append.1 hp with hp | hp
  · have h1 := (h.2 p hp).alloc o
    exact h1.grown hg (h1.unrow hrow (by decide))
  · obtain rfl : p = (T, sl) := by simpa using hp
    have h1 := ha.alloc o
    exact h1.grown hg (h1.unrow hrow (by decide))
/-- A row of tokens, another one behind it. -/
theorem TRow.cat {w w5 : World} {base : Nat} {v v2 v3 : Value} {l l2 : List (Mk.Tok × Value)} (h : TRow w base v l) (h2 : TRow w base v2 l2)
    (ho : w5.ownsRow base 32 5 v3 (l.length + l2.length) (tcells l ++ tcells l2)) (hg : w.grownBy w5 v.ownBlock) : TRow w5 base v3 (l ++ l2) := by
  refine ⟨by rw [List.length_append, tcells_append]; exact ho, fun p hp => ?_⟩
  rcases List.mem_append.1 hp with hp | hp
  · exact (h.2 p hp).grown hg ((h.2 p hp).unrow h.1 (by decide))
  · exact (h2.2 p hp).grown hg ((h2.2 p hp).unrow h.1 (by decide))
theorem tcells_one (l : List (Mk.Tok × Value)) (h : ∀ p ∈ l, p.2.oneCell' = true) : ∀ u ∈ tcells l, u.oneCell' = true := by
  intro u hu
  simp only [tcells, List.mem_flatMap] at hu
  obtain ⟨p, hp, hu⟩ := hu
  simp at hu
  rcases hu with rfl | rfl | rfl | rfl | rfl
  · rfl
  · rfl
  · exact h p hp
  · rfl
  · rfl
theorem TRow.one {w : World} {base : Nat} {v : Value} {l : List (Mk.Tok × Value)} (h : TRow w base v l) : ∀ u ∈ tcells l, u.oneCell' = true :=
  tcells_one l fun p hp => by
    obtain ⟨A, c, e⟩ := (h.2 p hp).form
    rw [e]; rfl

/-- What the loops over pieces work with. -/
structure PcM (w W : World) (b : Nat) (d rest raw : List UInt8) (ret : Bool) (v : Value) (l : List (Mk.Tok × Value)) : Prop where
  tz : TZ W b d rest raw ret
  row : TRow W w.heap.size v l
  bel : Below w.heap.size w W
  new : w.heap.size ≤ b
section
variable {w W W' : World} {b : Nat} {d rest raw d' rest' raw' : List UInt8} {ret ret' : Bool} {v : Value} {l : List (Mk.Tok × Value)}
theorem PcM.alloc (h : PcM w W b d rest raw ret v l) (o : Obj) : PcM w (W.alloc o) b d rest raw ret v l :=
  ⟨Whole.alloc h.tz o, h.row.alloc o, h.bel.alloc h.bel.size o, h.new⟩
theorem PcM.step (h : PcM w W b d rest raw ret v l) (hg : W.grownBy W' (some b)) (ht : TZ W' b d' rest' raw' ret') : PcM w W' b d' rest' raw' ret' v l := by
  have hz : Whole W b #[.string (tstr d), .string (tstr rest), .string (tstr raw), .bool ret] 27 := h.tz
  have hn := h.new
  exact ⟨ht, h.row.grown hg hz (by decide) (by decide), h.bel.grown hg h.bel.size (fun j hj => by injection hj; omega), hn⟩
theorem PcM.below (h : PcM w W b d rest raw ret v l) (hb : Below W.heap.size W W') : PcM w W' b d rest raw ret v l :=
  ⟨Whole.below h.tz hb (Whole.lt h.tz), h.row.below hb, h.bel.trans (hb.mono h.bel.size), h.new⟩
end

end Go.Proofs.YtckmlbcpldpkpaaDoor

/- The law's equal returns true for two rows with the same tokens. -/
namespace Go.Proofs.YtckmlbcpldpkpaaDoor
open Go Go.RowKit
set_option linter.unusedVariables false

theorem str_self (s : ByteArray) : (s.toList != s.toList) = false := by simp
set_option maxRecDepth 100000 in
set_option maxHeartbeats 4000000 in
theorem lequal_any (base1 base2 : Nat) (v1 v2 : Value) (l1 l2 : List (Mk.Tok × Value)) (w : World) (h1 : TRow w base1 v1 l1) (h2 : TRow w base2 v2 l2) (he : l1.map Prod.fst = l2.map Prod.fst)
    (hl : l1.length ≤ 100000) (hat : ∀ p ∈ l1, p.1.attrs.length ≤ 100000) :
    Calls Tryd.prog 9 #[v1, v2] w fun e w' => e = .returned (.bool true) ∧ Below w.heap.size w w' := by
  have hn : l1.length = l2.length := by have := congrArg List.length he; simpa using this
  obtain ⟨A1, c1, rfl⟩ := h1.form
  obtain ⟨A2, c2, rfl⟩ := h2.form
  have hk : ∀ i (h : i < l1.length) (h' : i < l2.length), l2[i].1 = l1[i].1 := fun i h h' => by
    have := List.getElem_of_eq he (i := i) (by rw [List.length_map]; exact h)
    simpa using this.symm
  have H1 := Lib.hid h1
  have H2 := Lib.hid h2
  have HK := Lib.hid hk
  have HN := Lib.hid hn
  have HAT := Lib.hid hat
  obtain ⟨n, hnn⟩ : ∃ n, l1.length = n := ⟨_, rfl⟩
  rw [← hn, hnn]
  rw [hnn] at hl
  have HNN := Lib.hid hnn
  clear h1 h2 he hn hk hnn hat
  go_enter Tryd.func9, Tryd.ntmps9
  go_wp2_with fail
  go_loopw [5] (fun i wr => ∃ k : Nat, k ≤ n ∧ i = .int .i64 k ∧ Below w.heap.size w wr) (fun i _ => n - (intOf i).toNat)
  case atStart => exact ⟨0, Nat.zero_le _, rfl, Below.refl _ _⟩
  case round =>
    obtain ⟨k, hk, rfl, hB⟩ := hrel
    by_cases hlt : k < n
    · have hlt' : (k : Int) < (n : Int) := by omega
      have hl1 : k < l1.length := by rw [HNN.out]; exact hlt
      have hl2 : k < l2.length := by rw [← HN.out]; exact hl1
      obtain ⟨g1, e1, hA1, _, hg1, a0, a1, a2, a3, a4⟩ := H1.out.at k hl1
      obtain ⟨g2, e2, hA2, _, hg2, b0, b1, b2, b3, b4⟩ := H2.out.at k hl2
      injection hA1 with hA1 _ hc1
      subst hA1 hc1
      injection hA2 with hA2 _ hc2
      subst hA2 hc2
      have r1 := H1.out.2 _ (List.getElem_mem hl1)
      have r2 := H2.out.2 _ (List.getElem_mem hl2)
      have hm9 := HAT.out _ (List.getElem_mem hl1)
      rw [HK.out k hl1 hl2] at b0 b1 b3 b4 r2
      generalize l1[k].1 = T at *
      generalize l1[k].2 = V1 at *
      generalize l2[k].2 = V2 at *
      obtain ⟨B1, f1, rfl⟩ := r1.form
      obtain ⟨B2, f2, rfl⟩ := r2.form
      replace a0 := (hB.cell hg1).trans a0
      replace a1 := (hB.cell hg1).trans a1
      replace a2 := (hB.cell hg1).trans a2
      replace a3 := (hB.cell hg1).trans a3
      replace a4 := (hB.cell hg1).trans a4
      replace b0 := (hB.cell hg2).trans b0
      replace b1 := (hB.cell hg2).trans b1
      replace b2 := (hB.cell hg2).trans b2
      replace b3 := (hB.cell hg2).trans b3
      replace b4 := (hB.cell hg2).trans b4
      obtain ⟨m, hm⟩ : ∃ m, T.attrs.length = m := ⟨_, rfl⟩
      rw [hm] at a2 b2 hm9
      have HM := Lib.hid hm
      have R1 := Lib.hid r1
      have R2 := Lib.hid r2
      obtain ⟨K, hK⟩ : ∃ K : Int, (T.kind : Int) = K := ⟨_, rfl⟩
      rw [hK] at a0 b0
      have qK : (K != K) = false := by simp
      generalize tstr T.name = NM at a1 b1
      generalize tstr T.text = TX at a4 b4
      generalize T.closed = CL at a3 b3
      have qN := str_self NM
      have qT := str_self TX
      have qC : (CL != CL) = false := by simp
      have qM : ((m : Int) != (m : Int)) = false := by simp
      have HB := Lib.hid hB
      clear r1 r2 hm hK hB
      go_wp2_with fail
      go_quiet (fail)
      go_wp2_with fail
      have HB9 := Lib.hid (below_drewN' HB.out nq)
      replace a2 : (wr.drewN nq).cell? _ = _ := a2
      replace b2 : (wr.drewN nq).cell? _ = _ := b2
      clear a0 a1 a3 a4 b0 b1 b3 b4 HB
      generalize wr.drewN nq = wo at *
      go_loopw [6] (fun j wr => ∃ q : Nat, q ≤ m ∧ j = .int .i64 q ∧ Below wo.heap.size wo wr) (fun j _ => m - (intOf j).toNat)
      case atStart => exact ⟨0, Nat.zero_le _, rfl, Below.refl _ _⟩
      case round =>
        obtain ⟨q, hq, rfl, hBx⟩ := hrel
        replace a2 := (hBx.cell (World.block_lt_of_cell? wo _ a2)).trans a2
        replace b2 := (hBx.cell (World.block_lt_of_cell? wo _ b2)).trans b2
        by_cases hql : q < m
        · have hql' : (q : Int) < (m : Int) := by omega
          have hqt : q < T.attrs.length := by rw [HM.out]; exact hql
          obtain ⟨x1, y1, hX1, _, hx1, s0, s1⟩ := R1.out.at q hqt
          obtain ⟨x2, y2, hX2, _, hx2, t0, t1⟩ := R2.out.at q hqt
          injection hX1 with hX1 _ hz1
          subst hX1 hz1
          injection hX2 with hX2 _ hz2
          subst hX2 hz2
          have hBB := HB9.out.trans (hBx.mono HB9.out.size)
          replace s0 := (hBB.cell hx1).trans s0
          replace s1 := (hBB.cell hx1).trans s1
          replace t0 := (hBB.cell hx2).trans t0
          replace t1 := (hBB.cell hx2).trans t1
          generalize tstr T.attrs[q].1 = S0 at s0 t0
          generalize tstr T.attrs[q].2 = S1 at s1 t1
          have HBX := Lib.hid hBx
          clear hBB hBx
          go_wp2_with fail
          go_quiet (fail)
          go_wp2_with fail
          go_roundw
          case rel => exact ⟨q + 1, by omega, by go_num, below_drewN' HBX.out nq⟩
          case measure => simp [intOf]; omega
        · have hql' : ¬ (q : Int) < (m : Int) := by omega
          obtain rfl : q = m := by omega
          go_wp2_with fail
          go_roundw
          case rel => exact ⟨k + 1, by omega, by go_num, HB9.out.trans (hBx.mono HB9.out.size)⟩
          case measure => simp [intOf]; omega
    · have hlt' : ¬ (k : Int) < (n : Int) := by omega
      go_wp2_with fail
      go_ret
      exact ⟨rfl, hB⟩

end Go.Proofs.YtckmlbcpldpkpaaDoor

/- The program's Next returns what the plain text says. -/
namespace Go.Proofs.YtckmlbcpldpkpaaDoor
open Go Go.RowKit
set_option linter.unusedVariables false

theorem toks_len (c : Bool) : ∀ (n : Nat) (raw s : List UInt8), s.length ≤ n → (Mk.toks c raw s).1.length ≤ s.length := by
  intro n
  induction n with
  | zero =>
    intro raw s hl
    rw [Mk.toks_stop (.inl (List.length_eq_zero_iff.1 (by omega)))]; exact Nat.zero_le _
  | succ n ih =>
    intro raw s hl
    have h1 := Mk.nxt_toks c s.length raw s (Nat.le_refl _)
    generalize Mk.nxt c raw s = x at h1
    obtain ⟨o, r', s'⟩ := x
    cases o with
    | none =>
      simp only at h1
      rw [h1.1]; exact Nat.zero_le _
    | some t =>
      simp only at h1
      have h2 := ih r' s' (by omega)
      rw [h1.1, List.length_cons]; omega
theorem PcM.push {w W W5 : World} {b : Nat} {d rest raw : List UInt8} {ret : Bool} {v v2 sl : Value} {l : List (Mk.Tok × Value)} {T : Mk.Tok} {o : Obj} (h : PcM w W b d rest raw ret v l)
    (ha : ARow 46 W w.heap.size sl T.attrs) (ho : W5.ownsRow w.heap.size 32 5 v2 (l.length + 1) (tcells l ++ tcells [(T, sl)])) (hg : (W.alloc o).grownBy W5 v.ownBlock) : PcM w W5 b d rest raw ret v2 (l ++ [(T, sl)]) := by
  have hz : Whole W b #[.string (tstr d), .string (tstr rest), .string (tstr raw), .bool ret] 27 := h.tz
  have hnb : some b ≠ v.ownBlock := by
    rcases h.row.1.2 with ⟨rfl, _⟩ | ⟨g, cap, cur, rfl, _, hg', _⟩
    · simp [Value.ownBlock]
    · intro e
      have e' : b = g := by simpa [Value.ownBlock] using e
      exact Whole.unlike (cs := cur) (t := 32) (show Whole W g cur _ from hg') hz (by decide) e'.symm
  have hb := h.bel.alloc h.bel.size o
  exact ⟨Whole.grown (Whole.alloc hz o) hg hnb, h.row.push ha (by rw [tcells_append]; exact ho) hg, hb.grown hg hb.size (fun j hj => (h.row.lt j hj).1), h.new⟩

theorem PcM.cat {w W W5 : World} {b : Nat} {d rest raw : List UInt8} {ret : Bool} {v v2 v3 : Value} {l l2 : List (Mk.Tok × Value)} (h : PcM w W b d rest raw ret v l)
    (h2 : TRow W w.heap.size v2 l2) (ho : W5.ownsRow w.heap.size 32 5 v3 (l.length + l2.length) (tcells l ++ tcells l2)) (hg : W.grownBy W5 v.ownBlock) : PcM w W5 b d rest raw ret v3 (l ++ l2) := by
  have hz : Whole W b #[.string (tstr d), .string (tstr rest), .string (tstr raw), .bool ret] 27 := h.tz
  have hnb : some b ≠ v.ownBlock := by
    rcases h.row.1.2 with ⟨rfl, _⟩ | ⟨g, cap, cur, rfl, _, hg', _⟩
    · simp [Value.ownBlock]
    · intro e
      have e' : b = g := by simpa [Value.ownBlock] using e
      exact Whole.unlike (cs := cur) (t := 32) (show Whole W g cur _ from hg') hz (by decide) e'.symm
  exact ⟨Whole.grown hz hg hnb, h.row.cat h2 ho hg, h.bel.grown hg h.bel.size (fun j hj => (h.row.lt j hj).1), h.new⟩

set_option maxRecDepth 100000 in
set_option maxHeartbeats 2000000 in
theorem knextf_any (b : Nat) (d rest raw : List UInt8) (ret : Bool) (w : World) (hE : ∀ w', w.grownBy w' (some b) → Env w') (h : TZ w b d rest raw ret) (hs : rest.length ≤ 20000) (hr : raw.length ≤ 100) :
    Calls Tryd.prog 7 #[.pointer (some ⟨b, 0, none⟩)] w fun e w' => ∃ sl, e = .returned (.tuple #[tokT ((Mk.nxt false raw rest).1.getD Mk.zeroTok) sl, .bool (Mk.nxt false raw rest).1.isSome]) ∧
      ARow 46 w' w.heap.size sl ((Mk.nxt false raw rest).1.getD Mk.zeroTok).attrs ∧ TZ w' b d (Mk.nxt false raw rest).2.2 (Mk.nxt false raw rest).2.1 ret ∧ w.grownBy w' (some b) := by
  have hW : Whole (w.alloc (.cells #[.int .i64 0, .string ⟨#[]⟩, .slice none 0 0, .bool false, .string ⟨#[]⟩] 32)) w.heap.size #[.int .i64 0, .string ⟨#[]⟩, .slice none 0 0, .bool false, .string ⟨#[]⟩] 32 := Whole.new _ _ _
  have hG : w.grownBy (w.alloc (.cells #[.int .i64 0, .string ⟨#[]⟩, .slice none 0 0, .bool false, .string ⟨#[]⟩] 32)) (some b) := World.grownBy_alloc _ _ _
  have h1 : TZ (w.alloc (.cells #[.int .i64 0, .string ⟨#[]⟩, .slice none 0 0, .bool false, .string ⟨#[]⟩] 32)) b d rest raw ret := Whole.alloc h _
  have hbl := Whole.lt h
  obtain ⟨W1, hW1⟩ : ∃ W1, w.alloc (.cells #[.int .i64 0, .string ⟨#[]⟩, .slice none 0 0, .bool false, .string ⟨#[]⟩] 32) = W1 := ⟨_, rfl⟩
  rw [hW1] at hW hG h1
  have hnx := knext_any b d rest raw ret false W1 (fun w' hg => hE w' (gb_trans hG hg)) h1 hs hr
  have HW := Lib.hid hW
  have HG := Lib.hid hG
  have HZ := Lib.hid h1
  clear hE h hW hG h1
  generalize Mk.nxt false raw rest = x at hnx ⊢
  obtain ⟨o, raw', rest'⟩ := x
  unfold NxOk at hnx
  simp only at hnx ⊢
  generalize o.getD Mk.zeroTok = T at hnx ⊢
  generalize o.isSome = ok at hnx ⊢
  go_enter Tryd.func7, Tryd.ntmps7
  go_wp2_with fail
  refine hnx.mono ?_
  clear hnx
  rintro e w4 ⟨v4, rfl, ⟨sl, hA, hT, rfl⟩, hg4⟩
  have hW4 := HW.out.grown hg4 (fun e => by injection e; omega)
  have hG4 := gb_trans HG.out hg4
  have hA4 := hA.mono' (base' := w.heap.size) HG.out.size
  clear hA
  obtain ⟨kd, nm9, ats, cl, tx⟩ := T
  unfold tokT
  simp only at hA4 ⊢
  obtain ⟨A9, cp9, rfl⟩ := hA4.form
  obtain ⟨f0, f1, f2, f3, f4⟩ := tok_free hW4
  obtain ⟨d0, d1, d2, d3, d4⟩ := tok_cells hW4
  go_wp2_with fail
  obtain ⟨X9, hX9, r9, g9⟩ := box5 hW4 (.int .i64 kd) (.string (tstr nm9)) (.slice A9 ats.length cp9) (.bool cl) (.string (tstr tx))
  rw [hX9]
  obtain ⟨c0, c1, c2, c3, c4⟩ := tok_cells r9
  have hT9 : TZ X9 b d rest' raw' ret := Whole.grown hT g9 (fun e => by injection e; omega)
  have hA9 := hA4.grown g9 (.inr (hA4.apart hW4 (by decide)))
  have hG9 : w.grownBy X9 (some b) := ⟨g9.os.trans hG4.os, g9.tape.trans hG4.tape, g9.output.trans hG4.output, Nat.le_trans hG4.size g9.size, fun k hk hn => (g9.block k (Nat.lt_of_lt_of_le hk hG4.size) (fun e => by injection e; omega)).trans (hG4.block k hk hn)⟩
  clear d0 d1 d2 d3 d4 f0 f1 f2 f3 f4 hX9
  refine bodyPost_ret (v := .tuple #[.agg #[.int .i64 kd, .string (tstr nm9), .slice A9 ats.length cp9, .bool cl, .string (tstr tx)], .bool ok]) ?_ rfl ⟨_, rfl, hA9, hT9, hG9⟩
  simp [results, Tryd.f7, go_sem, c0, c1, c2, c3, c4]

end Go.Proofs.YtckmlbcpldpkpaaDoor

/- Slices of strings that come in: what the walks are told of them. -/
namespace Go.Proofs.YtckmlbcpldpkpaaDoor
open Go Go.RowKit Go.Joins Go.ChangeShapes Go.WideShapes Go.Deep

/-- For each number below n there is a thing: a list of them. -/
theorem list_of {α : Type} [Inhabited α] {Q : Nat → α → Prop} {n : Nat} (h : ∀ i, i < n → ∃ x, Q i x) : ∃ l : List α, l.length = n ∧ ∀ i x, l[i]? = some x → Q i x := by
  have h2 : ∀ i, ∃ x, i < n → Q i x := fun i => by
    by_cases hi : i < n
    · obtain ⟨x, hx⟩ := h i hi
      exact ⟨x, fun _ => hx⟩
    · exact ⟨default, fun h' => absurd h' hi⟩
  obtain ⟨f, hf⟩ := Classical.axiomOfChoice h2
  refine ⟨(List.range n).map f, by simp, fun i x hx => ?_⟩
  have hlt := (List.getElem?_eq_some_iff.1 hx).1
  rw [List.length_map, List.length_range] at hlt
  have e : ((List.range n).map f)[i]? = some (f i) := by simp [hlt]
  rw [e] at hx
  injection hx with hx
  rw [← hx]
  exact hf i hlt
theorem add_plain (b o j : Nat) : (⟨b, o, none⟩ : Addr).add j = ⟨b, o + j, none⟩ := by unfold Addr.add; split <;> simp_all

/-- What the walk is told of a slice of strings: each lies in its cell. -/
def StrsIn (w : World) (A : Option Addr) (l : List ByteArray) : Prop :=
  ∀ (i : Nat) (x : ByteArray), l[i]? = some x → ∃ b o, A = some ⟨b, o, none⟩ ∧ w.cell? ⟨b, o + i, none⟩ = some (.string x)
theorem StrsIn.below {w w' : World} {A : Option Addr} {l : List ByteArray} (h : StrsIn w A l) (hb : Below w.heap.size w w') : StrsIn w' A l := by
  intro i x hi
  obtain ⟨b, o, h1, h2⟩ := h i x hi
  exact ⟨b, o, h1, (hb.cell (World.block_lt_of_cell? w _ h2)).trans h2⟩

set_option maxRecDepth 100000 in
theorem open_strs {H : Type} {enc : TypeId × Value → H} {w : World} {base : Nat} {spare : Nat → Bool} {held : Bool} {r : Reach} {b0 : Nat} {v : Value} {d : DataW H} {p : List MemPlace}
    (hv : Value.okWide Tryd.prog w r b0 22 v) (h : DataW.Trod enc Tryd.prog w base spare held 22 v d p) :
    ∃ (A : Option Addr) (cp : Nat) (l : List ByteArray), v = .slice A l.length cp ∧ StrsIn w A l ∧ l.length ≤ cp ∧ ∀ x ∈ l, x.size ≤ maxLen := by
  obtain ⟨A, len0, cap0, rfl⟩ := okWide_slice Tryd.underlying22 hv
  obtain ⟨fuel, hf⟩ := h
  have hC : Tryd.prog.cellsOf 9 = 1 := by kernel_rfl
  rcases open_slice Tryd.underlying22 hf with ⟨hcs, _⟩ | ⟨a, len, cap, m, n, D, Pl, hcs, _, hl, _, hm, _, hi⟩
  · simp [Value.cells] at hcs
    obtain ⟨rfl, rfl, rfl⟩ := hcs
    exact ⟨none, 0, [], rfl, fun i x hi => by simp at hi, Nat.le_refl _, fun x hx => by cases hx⟩
  · simp [Value.cells] at hcs
    obtain ⟨rfl, rfl, rfl⟩ := hcs
    rw [hC] at hi
    have hlm : len0 ≤ m := by rw [hm]; split <;> omega
    have key : ∀ i, i < len0 → ∃ x : ByteArray, x.size ≤ maxLen ∧ w.cell? ((a.add (i * 1)).add 0) = some (.string x) := by
      intro i hil
      obtain ⟨cs, hc, ht⟩ := hi i (by omega)
      obtain ⟨_, hcl, hat⟩ := World.cells?_some hc
      match cs, hcl with
      | [c0], _ =>
        obtain ⟨x0, e0, _, v0⟩ := DataW.trod_string Tryd.underlying9 ht
        simp only [List.cons.injEq, and_true] at e0
        subst e0
        exact ⟨x0, v0, hat 0 (by omega)⟩
    obtain ⟨l, hll, hlx⟩ := list_of key
    refine ⟨some a, cap0, l, by rw [hll], fun i x hx => ?_, by rw [hll]; exact hl, fun x hx => ?_⟩
    · obtain ⟨_, k0⟩ := hlx i x hx
      obtain ⟨b, o, sp⟩ := a
      have hsp : sp = none := by
        have hlt := (List.getElem?_eq_some_iff.1 hx).1
        obtain ⟨_, j0⟩ := hlx 0 _ (List.getElem?_eq_getElem (by omega))
        simpa [Addr.add] using World.cell?_spot j0
      subst hsp
      rw [add_plain, add_plain, Nat.mul_one] at k0
      exact ⟨b, o, rfl, k0⟩
    · obtain ⟨i, hi, e⟩ := List.getElem_of_mem hx
      exact (hlx i x (List.getElem?_eq_some_iff.2 ⟨hi, e⟩)).1

end Go.Proofs.YtckmlbcpldpkpaaDoor

/- What each token of a document is like. No program is imported. -/
namespace Go.Proofs.YtckmlbcpldpkpaaDoor.Mk
open Go
set_option linter.unusedVariables false

theorem lo_lo (c : UInt8) : Txt.lo (Txt.lo c) = Txt.lo c := by
  apply UInt8.toNat_inj.1
  have h1 := Txt.lo_num (Txt.lo c)
  have h2 := Txt.lo_num c
  split at h2
  · split at h1
    · omega
    · omega
  · split at h1
    · omega
    · omega
theorem lo_all (l : List UInt8) : (l.map Txt.lo).map Txt.lo = l.map Txt.lo := by
  rw [List.map_map]
  exact List.map_congr_left fun c _ => lo_lo c
/-- A row of attributes: names in lower case, not empty, different; at most 64. -/
structure GoodA (N : Nat) (l : List (List UInt8 × List UInt8)) : Prop where
  len : l.length ≤ 64
  ne : ∀ p ∈ l, p.1 ≠ []
  low : ∀ p ∈ l, p.1.map Txt.lo = p.1
  diff : l.Pairwise fun p q => p.1 ≠ q.1
  short : ∀ p ∈ l, p.1.length ≤ N
theorem GoodA.nil (N : Nat) : GoodA N [] := ⟨by decide, fun p hp => (by cases hp), fun p hp => (by cases hp), List.Pairwise.nil, fun p hp => (by cases hp)⟩
theorem GoodA.add {N : Nat} {l : List (List UInt8 × List UInt8)} (h : GoodA N l) {n : List UInt8} (v : List UInt8) (h1 : n ≠ []) (h2 : n.map Txt.lo = n) (h3 : n.length ≤ N) : GoodA N (addA l n v) := by
  refine ⟨addA_len l n v h.len, ?_, ?_, ?_, ?_⟩
  · unfold addA
    split
    · exact h.ne
    · split
      · intro p hp
        rcases List.mem_append.1 hp with hp | hp
        · exact h.ne p hp
        · rw [List.mem_singleton.1 hp]; exact h1
      · exact h.ne
  · unfold addA
    split
    · exact h.low
    · split
      · intro p hp
        rcases List.mem_append.1 hp with hp | hp
        · exact h.low p hp
        · rw [List.mem_singleton.1 hp]; exact h2
      · exact h.low
  · unfold addA
    split
    · exact h.diff
    · rename_i hn
      split
      · rw [List.pairwise_append]
        refine ⟨h.diff, List.pairwise_singleton _ _, fun p hp q hq => ?_⟩
        rw [List.mem_singleton.1 hq]
        intro e
        apply hn
        rw [List.any_eq_true]
        exact ⟨p, hp, by simpa using e⟩
      · exact h.diff
  · unfold addA
    split
    · exact h.short
    · split
      · intro p hp
        rcases List.mem_append.1 hp with hp | hp
        · exact h.short p hp
        · rw [List.mem_singleton.1 hp]; exact h3
      · exact h.short
theorem attr_good {l n v r : List UInt8} (h : attr l = some (n, v, r)) : n ≠ [] ∧ n.map Txt.lo = n ∧ n.length ≤ l.length := by
  unfold attr at h
  split at h
  · cases h
  · rename_i c t
    simp only at h
    have key : n = (c :: t.takeWhile inName).map Txt.lo := by
      split at h
      · exact (Prod.mk.inj (Option.some.inj h)).1.symm
      · split at h
        · obtain ⟨p, hp, e⟩ := Option.map_eq_some_iff.1 h
          exact (Prod.mk.inj e).1.symm
        · exact (Prod.mk.inj (Option.some.inj h)).1.symm
    rw [key]
    have ht := (List.takeWhile_sublist (l := t) inName).length_le
    exact ⟨by simp, lo_all _, by rw [List.length_map, List.length_cons, List.length_cons]; omega⟩
theorem attrs_good (N : Nat) : ∀ (n : Nat) (acc : List (List UInt8 × List UInt8)) (l : List UInt8) (p : List (List UInt8 × List UInt8) × Bool × List UInt8), l.length ≤ n → l.length ≤ N → GoodA N acc → attrs acc l = some p → GoodA N p.1 := by
  intro n
  induction n with
  | zero =>
    intro acc l p hl hN hg h
    have hn : l = [] := List.length_eq_zero_iff.1 (by omega)
    subst hn
    rw [attrs_def] at h
    cases h
  | succ n ih =>
    intro acc l p hl hN hg h
    have h1 := skip_le false l
    rw [attrs_def] at h
    cases hs : (skip false l).2 with
    | nil => rw [hs] at h; cases h
    | cons c r =>
      rw [hs, List.length_cons] at h1
      rw [hs] at h
      simp only at h
      split at h
      · obtain rfl := Option.some.inj h
        exact hg
      · cases ha : attr (c :: r) with
        | none => rw [ha] at h; cases h
        | some q =>
          obtain ⟨nm, v, t⟩ := q
          rw [ha] at h
          simp only at h
          have h2 := attr_le ha
          rw [List.length_cons] at h2
          obtain ⟨g1, g2, g3⟩ := attr_good ha
          rw [List.length_cons] at g3
          exact ih _ t p (by omega) (by omega) (hg.add v g1 g2 (by omega)) h
/-- A token with the fields of its kind. -/
structure GoodT (N : Nat) (t : Tok) : Prop where
  kind : 1 ≤ t.kind ∧ t.kind ≤ 5
  name : t.kind = 1 ∨ t.kind = 2 ↔ t.name ≠ []
  text : t.kind = 1 ∨ t.kind = 2 → t.text = []
  bare : t.kind ≠ 1 → t.attrs = [] ∧ t.closed = false
  full : t.kind = 3 → t.text ≠ []
  low : t.name.map Txt.lo = t.name
  attrs : GoodA N t.attrs
  short : t.name.length ≤ N
theorem isL_go {c : UInt8} (h : Ent.isL c = true) : stopC c = false := by
  unfold Ent.isL at h
  simp only [Bool.or_eq_true, Bool.and_eq_true, decide_eq_true_eq] at h
  unfold stopC Txt.sp
  simp only [Bool.or_eq_false_iff, beq_eq_false_iff_ne]
  omega
theorem name_ne {l : List UInt8} (h : letter l = true) : name l ≠ [] := by
  cases l with
  | nil => cases h
  | cons c r =>
    have hc : stopC c = false := isL_go h
    unfold name
    rw [List.takeWhile_cons_of_pos (by rw [hc]; rfl)]
    simp
theorem good_text (N : Nat) {l : List UInt8} (h : l ≠ []) : GoodT N (txt l) :=
  ⟨⟨Nat.le_of_ble_eq_true rfl, Nat.le_of_ble_eq_true rfl⟩, ⟨fun h => (by rcases h with h | h <;> cases h), fun h => absurd rfl h⟩, fun h => (by rcases h with h | h <;> cases h), fun _ => ⟨rfl, rfl⟩, fun _ => h, rfl, GoodA.nil _, Nat.zero_le _⟩
theorem good_comment (N : Nat) (l : List UInt8) : GoodT N ⟨4, [], [], false, l⟩ :=
  ⟨⟨Nat.le_of_ble_eq_true rfl, Nat.le_of_ble_eq_true rfl⟩, ⟨fun h => (by rcases h with h | h <;> cases h), fun h => absurd rfl h⟩, fun h => (by rcases h with h | h <;> cases h), fun _ => ⟨rfl, rfl⟩, fun h => (by cases h), rfl, GoodA.nil _, Nat.zero_le _⟩
theorem good_doctype (N : Nat) (l : List UInt8) : GoodT N ⟨5, [], [], false, l⟩ :=
  ⟨⟨Nat.le_of_ble_eq_true rfl, Nat.le_of_ble_eq_true rfl⟩, ⟨fun h => (by rcases h with h | h <;> cases h), fun h => absurd rfl h⟩, fun h => (by rcases h with h | h <;> cases h), fun _ => ⟨rfl, rfl⟩, fun h => (by cases h), rfl, GoodA.nil _, Nat.zero_le _⟩
theorem good_bogus (N : Nat) (b : Bool) (l : List UInt8) : GoodT N (bogus b l) := by
  unfold bogus
  split
  · exact good_doctype _ _
  · exact good_comment _ _
theorem name_le (l : List UInt8) : (name l).length ≤ l.length := by
  unfold name
  rw [List.length_map]
  exact (List.takeWhile_sublist _).length_le
theorem good_end {N : Nat} {l : List UInt8} (h : letter l = true) (hN : l.length ≤ N) : GoodT N ⟨2, name l, [], false, []⟩ :=
  ⟨⟨Nat.le_of_ble_eq_true rfl, Nat.le_of_ble_eq_true rfl⟩, ⟨fun _ => name_ne h, fun _ => .inr rfl⟩, fun _ => rfl, fun _ => ⟨rfl, rfl⟩, fun h => (by cases h), lo_all _, GoodA.nil _, Nat.le_trans (name_le l) hN⟩
theorem good_start {N : Nat} {l : List UInt8} {p : Tok × List UInt8} (h : letter l = true) (hN : l.length ≤ N) (hs : start l = some p) : GoodT N p.1 := by
  unfold start at hs
  obtain ⟨q, hq, rfl⟩ := Option.map_eq_some_iff.1 hs
  exact ⟨⟨Nat.le_of_ble_eq_true rfl, Nat.le_of_ble_eq_true rfl⟩, ⟨fun _ => name_ne h, fun _ => .inl rfl⟩, fun _ => rfl, fun h => absurd rfl h, fun h => (by cases h), lo_all _, attrs_good N _ _ _ _ (Nat.le_refl _) (Nat.le_trans (dropWhile_le _ _) hN) (GoodA.nil _) hq, Nat.le_trans (name_le l) hN⟩
theorem good_after (N : Nat) (t : Tok) (r : List UInt8) : ∀ x ∈ (after t r).1, GoodT N x := by
  unfold after
  split
  · intro x hx
    simp only at hx
    split at hx
    all_goals
      split at hx
      · cases hx
      · rename_i hne
        rw [List.mem_singleton.1 hx]
        exact good_text N hne
  · intro x hx; cases hx
theorem step_good {N : Nat} {l : List UInt8} {p : List Tok × List UInt8} (h0 : l ≠ []) (hN : l.length ≤ N) (h : step l = some p) : ∀ t ∈ p.1, GoodT N t := by
  unfold step at h
  split at h
  · obtain rfl := Option.some.inj h
    intro t ht
    rw [List.mem_singleton.1 ht]; exact good_comment _ _
  · split at h
    · rename_i hl
      obtain ⟨k, _, rfl⟩ := Option.map_eq_some_iff.1 h
      intro t ht
      rw [List.mem_singleton.1 ht]
      rw [Bool.and_eq_true] at hl
      exact good_end hl.2 (by rw [List.length_drop]; omega)
    · split at h
      · obtain rfl := Option.some.inj h
        intro t ht; cases ht
      · split at h
        · obtain rfl := Option.some.inj h
          intro t ht
          rw [List.mem_singleton.1 ht]; exact good_bogus _ _ _
        · split at h
          · rename_i hl
            rw [Bool.and_eq_true] at hl
            obtain ⟨q, hq, rfl⟩ := Option.map_eq_some_iff.1 h
            intro t ht
            rcases List.mem_cons.1 ht with rfl | ht
            · exact good_start hl.2 (by rw [List.length_drop]; omega) hq
            · exact good_after _ _ _ t ht
          · obtain rfl := Option.some.inj h
            intro t ht
            rw [List.mem_singleton.1 ht]
            refine good_text N ?_
            cases l with
            | nil => exact absurd rfl h0
            | cons c r =>
              rw [List.take_succ_cons]
              exact decode_ne (List.cons_ne_nil _ _)
theorem tokens_good (N : Nat) : ∀ (n : Nat) (l : List UInt8), l.length ≤ n → l.length ≤ N → ∀ t ∈ tokens l, GoodT N t := by
  intro n
  induction n with
  | zero =>
    intro l hl hN t ht
    have hn : l = [] := List.length_eq_zero_iff.1 (by omega)
    subst hn
    rw [tokens_nil] at ht; cases ht
  | succ n ih =>
    intro l hl hN t ht
    by_cases h0 : l = []
    · subst h0; rw [tokens_nil] at ht; cases ht
    cases hs : step l with
    | none => rw [tokens_none hs] at ht; cases ht
    | some p =>
      rw [tokens_some h0 hs] at ht
      rcases List.mem_append.1 ht with ht | ht
      · exact step_good h0 hN hs t ht
      · have := step_lt h0 hs
        exact ih p.2 (by omega) (by omega) t ht

theorem toks_len (c : Bool) : ∀ (n : Nat) (raw s : List UInt8), s.length ≤ n → (toks c raw s).1.length ≤ s.length := by
  intro n
  induction n with
  | zero =>
    intro raw s hl
    rw [toks_stop (.inl (List.length_eq_zero_iff.1 (by omega)))]; exact Nat.zero_le _
  | succ n ih =>
    intro raw s hl
    have h1 := nxt_toks c s.length raw s (Nat.le_refl _)
    generalize nxt c raw s = x at h1
    obtain ⟨o, r', s'⟩ := x
    cases o with
    | none =>
      simp only at h1
      rw [h1.1]; exact Nat.zero_le _
    | some t =>
      simp only at h1
      have h2 := ih r' s' (by omega)
      rw [h1.1, List.length_cons]; omega
theorem tokens_len (s : List UInt8) : (tokens s).length ≤ s.length := by
  rw [← (toks_tokens _ s (Nat.le_refl _)).1]
  exact toks_len _ _ _ _ (Nat.le_refl _)

end Go.Proofs.YtckmlbcpldpkpaaDoor.Mk

/- The statement MarkupPieces returns true: its walk. -/
namespace Go.Proofs.YtckmlbcpldpkpaaDoor
open Go Go.RowKit
set_option linter.unusedVariables false

theorem tokens_attrs {P : List UInt8} {G : List Mk.Tok} {r : List Mk.Tok} (h : G ++ r = Mk.tokens (docText P)) : ∀ t ∈ G, t.attrs.length ≤ 64 := fun t ht =>
  (Mk.tokens_good (docText P).length _ (docText P) (Nat.le_refl _) (Nat.le_refl _) t (by rw [← h]; exact List.mem_append.2 (.inl ht))).attrs.len
theorem push_map (l : List (Mk.Tok × Value)) (t : Mk.Tok) (sl : Value) : (l ++ [(t, sl)]).map Prod.fst = l.map Prod.fst ++ [t] := by simp

set_option maxRecDepth 100000 in
set_option maxHeartbeats 8000000 in
theorem pieces_walk (A : Option Addr) (cap : Nat) (ss : List ByteArray) (w : World) (hE : Env w) (hA : StrsIn w A ss) (hz : ∀ x ∈ ss, x.size ≤ 140737488351232) :
    Calls Tryd.prog 3 #[.slice A ss.length cap] w fun e w' => e = .returned (.bool true) ∧ Below w.heap.size w w' := by
  obtain ⟨i0, hi0, hz0, hz1, hz2⟩ := info_parts tokInfo
  by_cases hs : ss.length ≤ 60
  · have hs' : (ss.length : Int) ≤ 60 := by omega
    go_enter Tryd.func3, Tryd.ntmps3
    go_wp2_with fail
    refine (mawake_any w hE).mono ?_
    rintro e w1 ⟨rfl, hb1⟩
    have hA1 := hA.below hb1
    have HE1 := Lib.hid (hE.below hb1)
    have HB1 := Lib.hid hb1
    clear hb1 hA hE
    go_wp2_with fail
    go_loopw [4, 5, 6] (fun vg va vi wr => ∃ (k : Nat) (P d rest raw : List UInt8) (ret : Bool) (l : List (Mk.Tok × Value)), k ≤ ss.length ∧ vi = .int .i64 k ∧ va = .string (tstr P) ∧ P.length ≤ 1500 ∧ PcM w1 wr w1.heap.size d rest raw ret vg l ∧ PcS P d rest raw ret (l.map Prod.fst)) (fun _ _ vi _ => ss.length - (intOf vi).toNat)
    case atStart => exact ⟨0, [], [], [], [], false, [], Nat.zero_le _, rfl, rfl, Nat.zero_le _, ⟨Whole.new _ _ _, TRow.nil _ _, (Below.refl _ _).alloc (Nat.le_refl _) _, Nat.le_refl _⟩, PcS.start⟩
    case round =>
      obtain ⟨k, P, d, rest, raw, ret, l, hk, rfl, rfl, hP, hM, hS⟩ := hrel
      obtain ⟨Ag, cg, rfl⟩ := hM.row.form
      have hPs : (tstr P).size = P.length := tstr_size P
      by_cases hlt : k < ss.length
      · obtain ⟨xb, xo, rfl, hxc⟩ := hA1.below hM.bel k _ (List.getElem?_eq_getElem hlt)
        have hp0 : (k : Int) < (ss.length : Int) := by omega
        have hsz := hz _ (List.getElem_mem hlt)
        generalize ss[k] = s at hxc hsz
        have hsl : s.data.toList.length = s.size := rfl
        by_cases hbig : P.length + s.size ≤ 1500
        · have hbig' : ((tstr P).size : Int) + (s.size : Int) ≤ 1500 := by omega
          have hPA : (P ++ s.data.toList).length ≤ 1500 := by rw [List.length_append]; omega
          have hbd := hS.bounds s.data.toList hPA
          have had1 : ∀ W : World, (Op.stringOp .add (tstr P) s).run Tryd.prog W = .ok (.string (tstr (P ++ s.data.toList))) W := fun W => by
            rw [run_string_add_sum W _ _ (by omega), ← tstr_append]; rfl
          have hf := kfeed_any w1.heap.size d rest raw ret s wr (fun w' hg => HE1.out.below (hM.bel.grown hg hM.bel.size (fun j hj => by injection hj; omega))) hM.tz (by omega) (by omega) (by omega) (by omega)
          have HS := Lib.hid hS
          have HM := Lib.hid hM
          clear hS hM hbd
          go_wp2_with fail
          refine hf.mono ?_
          clear hf
          rintro e w3 ⟨l1, l2, rfl, hcat, hcut, hT3, hg3⟩
          have hM3 := HM.out.step hg3 hT3
          have hS3 := HS.out.feed hcat hcut
          clear hcat hcut hT3 hg3 HS HM had1
          generalize P ++ s.data.toList = P' at hS3 hPA ⊢
          generalize rest ++ Txt.newl ret (Txt.rep l1) = rest3 at hS3 hM3
          generalize crS ret (Txt.rep l1) = ret3 at hS3 hM3
          have HM3 := Lib.hid hM3
          have HS3 := Lib.hid hS3
          clear hM3 hS3
          go_wp2_with fail
          go_loopg [4] (20001) (fun gg vg wr => ∃ (rest raw : List UInt8) (l : List (Mk.Tok × Value)), PcM w1 wr w1.heap.size l2 rest raw ret3 vg l ∧ PcS P' l2 rest raw ret3 (l.map Prod.fst) ∧ rest.length ≤ gg)
          case atStart => exact ⟨rest3, raw, l, HM3.out, HS3.out, by have := HS3.out.bounds [] (by rw [List.append_nil]; exact hPA); omega⟩
          case round =>
            obtain ⟨rest4, raw4, l4, hM, hS, hgg⟩ := hrel
            obtain ⟨Ag, cg, rfl⟩ := hM.row.form
            have hbd := hS.bounds [] (by rw [List.append_nil]; exact hPA)
            have hnx := knextf_any w1.heap.size l2 rest4 raw4 ret3 wr (fun w' hg => HE1.out.below (hM.bel.grown hg hM.bel.size (fun j hj => by injection hj; omega))) hM.tz (by omega) hbd.2.1
            have hll : l4.length ≤ 4500 := by have := hbd.1; rw [List.length_map] at this; omega
            have HM := Lib.hid hM
            have HS := Lib.hid hS
            obtain ⟨⟨o, raw5, rest5⟩, hx⟩ : ∃ x, Mk.nxt false raw4 rest4 = x := ⟨_, rfl⟩
            rw [hx] at hnx
            have HX := Lib.hid hx
            clear hM hS hbd hx
            cases o with
            | none =>
              simp only [Option.getD_none, Option.isSome_none, tokT, Mk.zeroTok] at hnx
              go_wp2_with fail
              refine hnx.mono ?_
              clear hnx
              rintro e w5 ⟨sl, rfl, hA5, hT5, hg5⟩
              obtain ⟨As, cs, rfl⟩ := hA5.form
              have HS5 := Lib.hid (HS.out.none HX.out)
              have HM5 := Lib.hid (HM.out.step hg5 hT5)
              clear HM hT5 hA5 hg5
              go_wp2_with fail
              go_roundw
              case rel => exact ⟨k + 1, P', l2, rest5, raw5, ret3, l4, by omega, by go_num, rfl, hPA, HM5.out.alloc _, HS5.out⟩
              case measure => simp [intOf]; omega
            | some t =>
              obtain ⟨kd, nm9, ats, cl, tx⟩ := t
              simp only [Option.getD_some, Option.isSome_some, tokT] at hnx
              go_wp2_with fail
              refine hnx.mono ?_
              clear hnx
              rintro e w5 ⟨sl, rfl, hA5, hT5, hg5⟩
              obtain ⟨As, cs, rfl⟩ := hA5.form
              have HS5 := Lib.hid (HS.out.some HX.out)
              have hlt5 := Mk.nxt_lt HX.out
              have hM5 := HM.out.step hg5 hT5
              have hA5 := hA5.mono' (base' := w1.heap.size) HM.out.bel.size
              have hM6 := hM5.alloc (.cells #[.int .i64 kd, .string (tstr nm9), .slice As ats.length cs, .bool cl, .string (tstr tx)] 32)
              have hA6 := hA5.alloc (.cells #[.int .i64 kd, .string (tstr nm9), .slice As ats.length cs, .bool cl, .string (tstr tx)] 32)
              have hown := hM6.row.1
              have hlit := Whole.new (w5.alloc (.cells #[.int .i64 kd, .string (tstr nm9), .slice As ats.length cs, .bool cl, .string (tstr tx)] 32)) #[.int .i64 kd, .string (tstr nm9), .slice As ats.length cs, .bool cl, .string (tstr tx)] 32
              rw [World.size_alloc] at hlit
              have hbs := hM6.bel.size
              rw [World.size_alloc] at hbs
              have HM6 := Lib.hid (And.intro hM6 hA6)
              have HLIT := Lib.hid hlit
              clear HM hT5 hM5 hM6 hA5 hA6 hg5 hlit
              go_wp2_with (at_builtin; refine wpList_append_own _ rfl (.tmp 51) (.tmp 53) 28 rfl w1.heap.size 32 i0 (.agg #[.int .i64 0, .string ByteArray.empty, .slice none 0 0, .bool false, .string ByteArray.empty]) 5 72 Tryd.underlying28 hi0 hz0 hz1 hz2 rfl (by decide) _ l4.length (tcells l4) rfl (hown.alloc _) ⟨w5.heap.size + 1, 0, none⟩ 1 1 (tcells [(⟨kd, nm9, ats, cl, tx⟩, .slice As ats.length cs)]) rfl rfl ?c1 ?c2 ?c3 ?c4 ?c5 ?_)
              case c1 =>
                intro j u hj
                match j, hj with
                | 0, hj => simp [tcells] at hj; subst hj; exact HLIT.out.cell 0
                | 1, hj => simp [tcells] at hj; subst hj; exact HLIT.out.cell 1
                | 2, hj => simp [tcells] at hj; subst hj; exact HLIT.out.cell 2
                | 3, hj => simp [tcells] at hj; subst hj; exact HLIT.out.cell 3
                | 4, hj => simp [tcells] at hj; subst hj; exact HLIT.out.cell 4
              case c2 => intro u hu; simp [tcells] at hu; rcases hu with rfl | rfl | rfl | rfl | rfl <;> rfl
              case c3 => unfold maxLen; omega
              case c4 => omega
              case c5 => simp; omega
              intro v2 w7 ho7 hg7 _
              have hM7 := HM6.out.1.push HM6.out.2 ho7 hg7
              obtain ⟨A7, c7, rfl⟩ := hM7.row.form
              have HM7 := Lib.hid hM7
              clear hM7 ho7 hg7 hown
              go_wp2_with fail
              go_roundg rest5.length
              case rel => exact ⟨rest5, raw5, _, HM7.out, by rw [push_map]; exact HS5.out, Nat.le_refl _⟩
              case measure => omega
        · have hbig' : ¬ ((tstr P).size : Int) + (s.size : Int) ≤ 1500 := by omega
          have hbel := hM.bel
          clear hM hS
          go_wp2_with fail
          go_ret
          exact ⟨rfl, HB1.out.trans (hbel.mono HB1.out.size)⟩
      · obtain rfl : k = ss.length := by omega
        have hbd := hS.bounds [] (by rw [List.append_nil]; exact hP)
        rw [List.append_nil, List.length_map] at hbd
        have hfi := kfinish_any w1.heap.size d rest raw ret wr (fun w' hg => HE1.out.below (hM.bel.grown hg hM.bel.size (fun j hj => by injection hj; omega))) hM.tz (by omega) hbd.2.1 (by omega) (by omega)
        have hdone := hS.done
        have HM := Lib.hid hM
        clear hM hS hA1
        go_wp2_with fail
        refine hfi.mono ?_
        clear hfi
        rintro e w3 ⟨v3, l3, rfl, hl3, hR3, hT3, hg3⟩
        have hM3 := HM.out.step hg3 hT3
        have hR3 := hR3.mono HM.out.bel.size
        have hl3n : (l.map Prod.fst ++ l3.map Prod.fst).length ≤ 4500 := by
          have h8 := toks_len true _ raw (rest ++ Txt.newl ret (Txt.rep d)) (Nat.le_refl _)
          have h9 := Txt.newl_len ret (Txt.rep d)
          rw [← hl3, List.length_append] at h8
          rw [List.length_append, List.length_map]
          omega
        rw [← hl3] at hdone
        obtain ⟨A3, c3, rfl⟩ := hR3.form
        have hown := hM3.row.1
        have hsrc := hR3.1
        have hone := hR3.one
        have hbs := hM3.bel.size
        rw [List.length_append, List.length_map, List.length_map] at hl3n
        have HM3 := Lib.hid (And.intro hM3 hR3)
        clear HM hM3 hR3 hT3 hg3 hl3
        go_wp2_with (at_builtin; refine wpList_append_src rfl (.tmp 55) (.tmp 56) 28 rfl w1.heap.size w1.heap.size 32 i0 (.agg #[.int .i64 0, .string ByteArray.empty, .slice none 0 0, .bool false, .string ByteArray.empty]) 5 72 Tryd.underlying28 hi0 hz0 hz1 hz2 rfl (by decide) _ l.length (tcells l) rfl hown _ l3.length (tcells l3) rfl hsrc hone (by unfold maxLen; omega) (by omega) (by omega) ?_)
        intro v4 w4 ho4 hg4 _
        have hM4 := HM3.out.1.cat HM3.out.2 ho4 hg4
        obtain ⟨A4, c4, rfl⟩ := hM4.row.form
        have hf := kfeed_any w1.heap.size [] [] [] false ⟨#[60, 98, 62]⟩ w4 (fun w' hg => HE1.out.below (hM4.bel.grown hg hM4.bel.size (fun j hj => by injection hj; omega))) hM4.tz (by decide) (by decide) (by
          show (Txt.rep [60, 98, 62]).length ≤ 15000
          rw [Mk.rep_ascii (by decide)]; decide) (by
          show 0 + (Txt.rep [60, 98, 62]).length ≤ 20000
          rw [Mk.rep_ascii (by decide)]; decide)
        have HM4 := Lib.hid hM4
        clear HM3 hM4 ho4 hg4 hown hsrc hone
        go_wp2_with fail
        refine hf.mono ?_
        clear hf
        rintro e w5 ⟨l1, l2, rfl, hcat, hcut, hT5, hg5⟩
        obtain ⟨rfl, rfl⟩ := cut_b hcat hcut
        have hnb : ([] : List UInt8) ++ Txt.newl false (Txt.rep [60, 98, 62]) = [60, 98, 62] := by
          rw [Mk.rep_ascii (by decide), Txt.newl_same (by decide)]; rfl
        rw [hnb] at hT5
        have hM5 := HM4.out.step hg5 hT5
        generalize crS false (Txt.rep [60, 98, 62]) = ret5 at hM5 hT5
        have hnx := knextf_any w1.heap.size [] [60, 98, 62] [] ret5 w5 (fun w' hg => HE1.out.below (hM5.bel.grown hg hM5.bel.size (fun j hj => by injection hj; omega))) hM5.tz (by decide) (by decide)
        rw [nxt_b] at hnx
        simp only [Option.getD_some, Option.isSome_some, tokT] at hnx
        have HM5 := Lib.hid hM5
        clear HM4 hM5 hT5 hg5 hcat hcut hnb
        go_wp2_with fail
        refine hnx.mono ?_
        clear hnx
        rintro e w6 ⟨sl, rfl, hA6, hT6, hg6⟩
        have hM6 := HM5.out.step hg6 hT6
        obtain ⟨As, cs, rfl⟩ := hA6.form
        have hM7 := hM6.alloc (.cells #[.int .i64 1, .string (tstr [98]), .slice As 0 cs, .bool false, .string (tstr [])] 32)
        have hX7 := Whole.new w6 #[.int .i64 1, .string (tstr [98]), .slice As 0 cs, .bool false, .string (tstr [])] 32
        have hE7 := HE1.out.below hM7.bel
        have hrl := Txt.rep_len P
        have htk := fun W (hW : Env W) => ktokens_any (tstr P) W hW (by rw [tstr_size]; omega) (by rw [tstr_data]; omega)
        simp only [tstr_data] at htk
        have HM7 := Lib.hid (And.intro hM7 (And.intro hX7 hE7))
        clear HM5 hM6 hM7 hX7 hE7 hT6 hg6 hA6
        go_wp2_with fail
        refine (htk _ HM7.out.2.2).mono ?_
        clear htk
        rintro e w8 ⟨v8, l8, rfl, hl8, hR8, hb8⟩
        have hM8 := HM7.out.1.below hb8
        have hX8 := HM7.out.2.1.below hb8 HM7.out.2.1.lt
        have hE8 : (l ++ l3).map Prod.fst = l8.map Prod.fst := by rw [List.map_append, hdone, hl8]
        have hat := tokens_attrs (r := []) (P := P) (G := l.map Prod.fst ++ l3.map Prod.fst) (by rw [List.append_nil]; exact hdone)
        have heq := lequal_any w1.heap.size _ _ v8 (l ++ l3) l8 w8 hM8.row hR8 hE8 (by rw [List.length_append]; omega) (fun p hp => by
          have := hat p.1 (by rw [← List.map_append]; exact List.mem_map.2 ⟨p, hp, rfl⟩)
          omega)
        rw [List.length_append] at heq
        have HM8 := Lib.hid (And.intro hM8 hX8)
        clear HM7 hM8 hX8 hE8 hat hl8 hR8 hb8 hdone
        go_wp2_with fail
        refine heq.mono ?_
        clear heq
        rintro e w9 ⟨rfl, hb9⟩
        have hX9 := HM8.out.2.below hb9 HM8.out.2.lt
        have hB9 := HM8.out.1.bel.trans (hb9.mono HM8.out.1.bel.size)
        obtain ⟨d0, d1, _, _, _⟩ := tok_cells hX9
        have hq : ((tstr [98]).toList == [98]) = true := by rw [Lib.toList_data, tstr_data]; rfl
        clear hX9 HM8 hb9
        generalize tstr [98] = B at d1 hq
        go_wp2_with fail
        go_ret
        exact ⟨rfl, HB1.out.trans (hB9.mono HB1.out.size)⟩
  · have hs' : ¬ (ss.length : Int) ≤ 60 := by omega
    go_enter Tryd.func3, Tryd.ntmps3
    go_wp2_with fail
    refine (mawake_any w hE).mono ?_
    rintro e w1 ⟨rfl, hb1⟩
    go_wp2_with fail
    refine (mawake_any w1 (hE.below hb1)).mono ?_
    rintro e w2 ⟨rfl, hb2⟩
    go_wp2_with fail
    go_ret
    exact ⟨rfl, below_trans' hb1 hb2⟩

end Go.Proofs.YtckmlbcpldpkpaaDoor

/- A slice of numbers that came in, as the rows open it. No program is imported. -/
namespace Go.Proofs.YtckmlbcpldpkpaaDoor
open Go Go.RowKit

/-- What the walk is told of a slice of integers that came in. -/
def Ints (k : IntKind) (w : World) (A : Option Addr) (zs : List Int) : Prop :=
  ∀ i, i < zs.length → ∃ b o, A = some ⟨b, o, none⟩ ∧ b < w.heap.size ∧ w.cell? ⟨b, o + i, none⟩ = some (.int k (zs.getD i 0))
theorem Ints.below {k : IntKind} {w w' : World} {A : Option Addr} {zs : List Int} (h : Ints k w A zs) (hb : Below w.heap.size w w') : Ints k w' A zs := by
  intro i hi
  obtain ⟨b, o, h1, h2, h3⟩ := h i hi
  exact ⟨b, o, h1, by have := hb.size; omega, (hb.cell (p := ⟨b, o + i, none⟩) h2).trans h3⟩

/-- What the walk is told of a slice of integers: nil, or a row of cells with its numbers. -/
def IsRow (k : IntKind) (w : World) (a : Option Addr) (len cap : Nat) (zs : List Int) : Prop :=
  (a = none ∧ len = 0 ∧ cap = 0 ∧ zs = []) ∨
  ∃ x, a = some x ∧ len ≤ cap ∧ cap ≤ maxLen ∧ zs.length = cap ∧ (∀ i, i < zs.length → w.cell? (x.add i) = some (.int k (zs.getD i 0))) ∧ ∀ n ∈ zs, (Lit.int k n).wf = true
section
variable {k : IntKind} {w : World} {a : Option Addr} {len cap : Nat} {zs : List Int}
theorem IsRow.length (h : IsRow k w a len cap zs) : (zs.take len).length = len := by
  rcases h with ⟨_, rfl, _, rfl⟩ | ⟨x, _, hl, _, hz, _⟩
  · rfl
  · rw [List.length_take]; omega
theorem IsRow.max (h : IsRow k w a len cap zs) : len ≤ maxLen := by
  rcases h with ⟨_, rfl, _, rfl⟩ | ⟨x, _, hl, hm, _⟩
  · exact Nat.zero_le _
  · omega
theorem IsRow.wf (h : IsRow k w a len cap zs) : ∀ n ∈ zs.take len, (Lit.int k n).wf = true := by
  intro n hn
  rcases h with ⟨_, rfl, _, rfl⟩ | ⟨x, _, _, _, _, _, hw⟩
  · simp at hn
  · exact hw n (List.mem_of_mem_take hn)
theorem IsRow.ints (h : IsRow k w a len cap zs) : Ints k w a (zs.take len) := by
  intro i hi
  have hil : i < len := by rw [h.length] at hi; exact hi
  rcases h with ⟨_, rfl, _, rfl⟩ | ⟨x, rfl, hl, _, hz, hc, _⟩
  · omega
  · obtain ⟨b, o, sp⟩ := x
    have hci := hc i (by omega)
    have hsp : sp = none := by simpa [Addr.add] using World.cell?_spot (hc 0 (by omega))
    subst hsp
    have hadd : (⟨b, o, none⟩ : Addr).add i = ⟨b, o + i, none⟩ := by unfold Addr.add; split <;> simp_all
    rw [hadd] at hci
    refine ⟨b, o, rfl, World.block_lt_of_cell? w _ hci, ?_⟩
    rw [hci]
    simp [List.getD, hil]
end

end Go.Proofs.YtckmlbcpldpkpaaDoor

/- The statement MarkupLate returns true: its walk. -/
namespace Go.Proofs.YtckmlbcpldpkpaaDoor
open Go Go.RowKit
set_option linter.unusedVariables false

/-- A row of one token. -/
theorem TRow.lit {w : World} {base kd : Nat} {nm9 tx : List UInt8} {ats : List (List UInt8 × List UInt8)} {cl : Bool} {sl : Value} (ha : ARow 46 w base sl ats) (hb : base ≤ w.heap.size) :
    TRow (w.alloc (.cells #[.int .i64 kd, .string (tstr nm9), sl, .bool cl, .string (tstr tx)] 32)) base (.slice (some ⟨w.heap.size, 0, none⟩) 1 1) [(⟨kd, nm9, ats, cl, tx⟩, sl)] := by
  refine ⟨World.ownsRow_lit w #[.int .i64 kd, .string (tstr nm9), sl, .bool cl, .string (tstr tx)] 1 hb (by unfold maxLen; omega) rfl, fun p hp => ?_⟩
  obtain rfl : p = (⟨kd, nm9, ats, cl, tx⟩, sl) := by simpa using hp
  exact ha.alloc _
theorem rem4 {z : Int} (h0 : 0 ≤ z) (h1 : z ≤ 255) : ∃ m : Nat, Int.tmod z 4 = (m : Int) ∧ m ≤ 3 := by
  rw [Int.tmod_eq_emod_of_nonneg h0]
  exact ⟨(z % 4).toNat, by omega, by omega⟩

set_option maxRecDepth 100000 in
set_option maxHeartbeats 8000000 in
theorem late_walk (A : Option Addr) (cap : Nat) (ss : List ByteArray) (A2 : Option Addr) (len2 cap2 : Nat) (zs : List Int) (w : World) (hE : Env w) (hA : StrsIn w A ss) (hz : ∀ x ∈ ss, x.size ≤ 140737488351232) (hR : IsRow .u8 w A2 len2 cap2 zs) :
    Calls Tryd.prog 4 #[.slice A ss.length cap, .slice A2 len2 cap2] w fun e w' => e = .returned (.bool true) ∧ Below w.heap.size w w' := by
  obtain ⟨i0, hi0, hz0, hz1, hz2⟩ := info_parts tokInfo
  have hI := hR.ints
  have hIl := hR.length
  have hIw := hR.wf
  have hIm := hR.max
  generalize zs.take len2 = zt at hI hIl hIw
  clear hR
  have hml : len2 ≤ 9223372036854775807 := by unfold maxLen at hIm; omega
  have haw := fun W (hW : Env W) => mawake_any W hW
  by_cases hs : ss.length ≤ 60
  · have hs' : (ss.length : Int) ≤ 60 := by omega
    by_cases hs2 : len2 ≤ 60
    · have hs2' : (len2 : Int) ≤ 60 := by omega
      go_enter Tryd.func4, Tryd.ntmps4
      go_wp2_with fail
      refine (haw w hE).mono ?_
      rintro e w1 ⟨rfl, hb1⟩
      have hA1 := hA.below hb1
      have hI1 := hI.below hb1
      have HE1 := Lib.hid (hE.below hb1)
      have HB1 := Lib.hid hb1
      have HIW := Lib.hid hIw
      have HIL := Lib.hid hIl
      clear hb1 hA hI hE haw hIw hIl hIm hml
      go_wp2_with fail
      go_loopw [6, 7, 8] (fun vg va vi wr => ∃ (k : Nat) (P d rest raw : List UInt8) (ret : Bool) (l : List (Mk.Tok × Value)), k ≤ ss.length ∧ vi = .int .i64 k ∧ va = .string (tstr P) ∧ P.length ≤ 1500 ∧ PcM w1 wr w1.heap.size d rest raw ret vg l ∧ PcS P d rest raw ret (l.map Prod.fst)) (fun _ _ vi _ => ss.length - (intOf vi).toNat)
      case atStart => exact ⟨0, [], [], [], [], false, [], Nat.zero_le _, rfl, rfl, Nat.zero_le _, ⟨Whole.new _ _ _, TRow.nil _ _, (Below.refl _ _).alloc (Nat.le_refl _) _, Nat.le_refl _⟩, PcS.start⟩
      case round =>
        obtain ⟨k, P, d, rest, raw, ret, l, hk, rfl, rfl, hP, hM, hS⟩ := hrel
        obtain ⟨Ag, cg, rfl⟩ := hM.row.form
        have hPs : (tstr P).size = P.length := tstr_size P
        by_cases hlt : k < ss.length
        · obtain ⟨xb, xo, rfl, hxc⟩ := hA1.below hM.bel k _ (List.getElem?_eq_getElem hlt)
          have hp0 : (k : Int) < (ss.length : Int) := by omega
          have hsz := hz _ (List.getElem_mem hlt)
          generalize ss[k] = s at hxc hsz
          have hsl : s.data.toList.length = s.size := rfl
          by_cases hbig : P.length + s.size ≤ 1500
          · have hbig' : ((tstr P).size : Int) + (s.size : Int) ≤ 1500 := by omega
            have hPA : (P ++ s.data.toList).length ≤ 1500 := by rw [List.length_append]; omega
            have hbd := hS.bounds s.data.toList hPA
            have had1 : ∀ W : World, (Op.stringOp .add (tstr P) s).run Tryd.prog W = .ok (.string (tstr (P ++ s.data.toList))) W := fun W => by
              rw [run_string_add_sum W _ _ (by omega), ← tstr_append]; rfl
            have hf := kfeed_any w1.heap.size d rest raw ret s wr (fun w' hg => HE1.out.below (hM.bel.grown hg hM.bel.size (fun j hj => by injection hj; omega))) hM.tz (by omega) (by omega) (by omega) (by omega)
            have HS := Lib.hid hS
            have HM := Lib.hid hM
            clear hS hM hbd
            go_wp2_with fail
            refine hf.mono ?_
            clear hf
            rintro e w3 ⟨l1, l2, rfl, hcat, hcut, hT3, hg3⟩
            have hM3 := HM.out.step hg3 hT3
            have hS3 := HS.out.feed hcat hcut
            clear hcat hcut hT3 hg3 HS HM had1
            generalize P ++ s.data.toList = P' at hS3 hPA ⊢
            generalize rest ++ Txt.newl ret (Txt.rep l1) = rest3 at hS3 hM3
            generalize crS ret (Txt.rep l1) = ret3 at hS3 hM3
            have HM3 := Lib.hid hM3
            have HS3 := Lib.hid hS3
            clear hM3 hS3
            go_wp2_with fail
            go_loopw [6, 9] (fun vg vk wr => ∃ (q : Nat) (rest raw : List UInt8) (l : List (Mk.Tok × Value)), vk = .int .i64 q ∧ q ≤ 3 ∧ PcM w1 wr w1.heap.size l2 rest raw ret3 vg l ∧ PcS P' l2 rest raw ret3 (l.map Prod.fst)) (fun _ vk _ => 3 - (intOf vk).toNat)
            case atStart => exact ⟨0, rest3, raw, l, rfl, by omega, HM3.out, HS3.out⟩
            case round =>
              obtain ⟨q, rest4, raw4, l4, rfl, hq3, hM, hS⟩ := hrel
              obtain ⟨Ag, cg, rfl⟩ := hM.row.form
              by_cases hkt : k < zt.length
              · have hkl : (k : Int) < (len2 : Int) := by have := HIL.out; omega
                obtain ⟨tb, tof, rfl, htb, htc⟩ := hI1.below hM.bel k hkt
                have hw8 : 0 ≤ zt.getD k 0 ∧ zt.getD k 0 ≤ 255 := by
                  have := HIW.out (zt.getD k 0) (by rw [List.getD, List.getElem?_eq_getElem hkt]; exact List.getElem_mem hkt)
                  simpa [Lit.wf, IntKind.min, IntKind.max, IntKind.bits, IntKind.signed] using this
                generalize zt.getD k 0 = z at htc hw8
                obtain ⟨m, hm, hm3⟩ := rem4 hw8.1 hw8.2
                by_cases hqm : q < m
                · have hqmI : (q : Int) < (m : Int) := by omega
                  have hbd := hS.bounds [] (by rw [List.append_nil]; exact hPA)
                  have hll : l4.length ≤ 4500 := by have := hbd.1; rw [List.length_map] at this; omega
                  have hbl := Whole.lt hM.tz
                  obtain ⟨y0, y1, y2, y3⟩ := hM.tz.cells
                  have hBu : Below wr.heap.size wr (wr.alloc (.cells #[.string (tstr l2), .string (tstr rest4), .string (tstr raw4), .bool ret3] 27)) := (Below.refl _ _).alloc (Nat.le_refl _) _
                  have hTu : TZ (wr.alloc (.cells #[.string (tstr l2), .string (tstr rest4), .string (tstr raw4), .bool ret3] 27)) wr.heap.size l2 rest4 raw4 ret3 := Whole.new _ _ _
                  have hnx := knextf_any wr.heap.size l2 rest4 raw4 ret3 _ (fun w' hg => HE1.out.below (hM.bel.trans ((hBu.grown hg hBu.size (fun j hj => by injection hj; omega)).mono hM.bel.size))) hTu (by omega) hbd.2.1
                  have hrl : rest4.length ≤ 20000 := by omega
                  have hrw := hbd.2.1
                  obtain ⟨⟨o, raw5, rest5⟩, hx⟩ : ∃ x, Mk.nxt false raw4 rest4 = x := ⟨_, rfl⟩
                  rw [hx] at hnx
                  have HX := Lib.hid hx
                  have HM := Lib.hid hM
                  have HS := Lib.hid hS
                  have HBU := Lib.hid hBu
                  clear hM hS hbd hx hBu hTu
                  cases o with
                  | none =>
                    simp only [Option.getD_none, Option.isSome_none, tokT, Mk.zeroTok] at hnx
                    go_wp2_with fail
                    refine hnx.mono ?_
                    clear hnx
                    rintro e w5 ⟨sl, rfl, hA5, _, hg5⟩
                    obtain ⟨As, cs, rfl⟩ := hA5.form
                    have hM5 := HM.out.below (HBU.out.grown hg5 HBU.out.size (fun j hj => by injection hj; omega))
                    have hnx2 := fun o' => knextf_any w1.heap.size l2 rest4 raw4 ret3 (w5.alloc o') (fun w' hg => HE1.out.below ((hM5.alloc o').bel.grown hg (hM5.alloc o').bel.size (fun j hj => by injection hj; omega))) (hM5.alloc o').tz hrl hrw
                    rw [HX.out] at hnx2
                    simp only [Option.getD_none, Option.isSome_none, tokT, Mk.zeroTok] at hnx2
                    have HM5 := Lib.hid hM5
                    clear HM hM5 hA5 hg5 HBU y0 y1 y2 y3
                    go_wp2_with fail
                    refine (hnx2 _).mono ?_
                    clear hnx2
                    rintro e w7 ⟨sl2, rfl, hA7, hT7, hg7⟩
                    obtain ⟨As2, cs2, rfl⟩ := hA7.form
                    have HM7 := Lib.hid ((HM5.out.alloc _).step hg7 hT7)
                    have HS7 := Lib.hid (HS.out.none HX.out)
                    clear hA7 hT7 hg7 HM5
                    go_wp2_with fail
                    go_roundw
                    case rel => exact ⟨q + 1, rest5, raw5, l4, by go_num, by omega, HM7.out.alloc _, HS7.out⟩
                    case measure => simp [intOf]; omega
                  | some t =>
                    have HS5 := Lib.hid (HS.out.some HX.out)
                    have hta : t.attrs.length ≤ 64 := tokens_attrs (P := P') (G := l4.map Prod.fst ++ [t]) HS5.out.done t (by simp)
                    obtain ⟨kd, nm9, ats, cl, tx⟩ := t
                    simp only [Option.getD_some, Option.isSome_some, tokT] at hnx
                    simp only at hta
                    go_wp2_with fail
                    refine hnx.mono ?_
                    clear hnx
                    rintro e w5 ⟨sl, rfl, hA5, _, hg5⟩
                    obtain ⟨As, cs, rfl⟩ := hA5.form
                    have hB5 := HBU.out.grown hg5 HBU.out.size (fun j hj => by injection hj; omega)
                    have hM5 := HM.out.below hB5
                    have hb5 := hB5.size
                    have hA5 := hA5.mono' (base' := w1.heap.size) (Nat.le_trans HM.out.bel.size HBU.out.size)
                    have hM6 := hM5.alloc (.cells #[.int .i64 kd, .string (tstr nm9), .slice As ats.length cs, .bool cl, .string (tstr tx)] 32)
                    have hX6 := Whole.new w5 #[.int .i64 kd, .string (tstr nm9), .slice As ats.length cs, .bool cl, .string (tstr tx)] 32
                    have hA6 := hA5.alloc (.cells #[.int .i64 kd, .string (tstr nm9), .slice As ats.length cs, .bool cl, .string (tstr tx)] 32)
                    have hnx2 := knextf_any w1.heap.size l2 rest4 raw4 ret3 (w5.alloc (.cells #[.int .i64 kd, .string (tstr nm9), .slice As ats.length cs, .bool cl, .string (tstr tx)] 32)) (fun w' hg => HE1.out.below (hM6.bel.grown hg hM6.bel.size (fun j hj => by injection hj; omega))) hM6.tz hrl hrw
                    rw [HX.out] at hnx2
                    simp only [Option.getD_some, Option.isSome_some, tokT] at hnx2
                    have H6 := Lib.hid (And.intro hM6 (And.intro hX6 hA6))
                    clear HM hM5 hA5 hg5 HBU hB5 hM6 hX6 hA6 y0 y1 y2 y3
                    go_wp2_with fail
                    refine hnx2.mono ?_
                    clear hnx2
                    rintro e w7 ⟨sl2, rfl, hA7, hT7, hg7⟩
                    obtain ⟨As2, cs2, rfl⟩ := hA7.form
                    have hz6 : Whole _ w1.heap.size #[.string (tstr l2), .string (tstr rest4), .string (tstr raw4), .bool ret3] 27 := H6.out.1.tz
                    have hM7 := H6.out.1.step hg7 hT7
                    have hX7 := H6.out.2.1.grown hg7 (fun e => by injection e; omega)
                    have hA1 := H6.out.2.2.grown hg7 (.inr (H6.out.2.2.apart hz6 (by decide)))
                    have hA2 := hA7.mono' (base' := w1.heap.size) H6.out.1.bel.size
                    have hlt57 := hX7.lt
                    have hM8 := hM7.alloc (.cells #[.int .i64 kd, .string (tstr nm9), .slice As2 ats.length cs2, .bool cl, .string (tstr tx)] 32)
                    have hX8 := hX7.alloc (.cells #[.int .i64 kd, .string (tstr nm9), .slice As2 ats.length cs2, .bool cl, .string (tstr tx)] 32)
                    have hY8 := Whole.new w7 #[.int .i64 kd, .string (tstr nm9), .slice As2 ats.length cs2, .bool cl, .string (tstr tx)] 32
                    have hA18 := hA1.alloc (.cells #[.int .i64 kd, .string (tstr nm9), .slice As2 ats.length cs2, .bool cl, .string (tstr tx)] 32)
                    have hA28 := hA2.alloc (.cells #[.int .i64 kd, .string (tstr nm9), .slice As2 ats.length cs2, .bool cl, .string (tstr tx)] 32)
                    have hM9 := hM8.alloc (.cells #[.int .i64 kd, .string (tstr nm9), .slice As ats.length cs, .bool cl, .string (tstr tx)] 32)
                    have hX9 := hX8.alloc (.cells #[.int .i64 kd, .string (tstr nm9), .slice As ats.length cs, .bool cl, .string (tstr tx)] 32)
                    have hY9 := hY8.alloc (.cells #[.int .i64 kd, .string (tstr nm9), .slice As ats.length cs, .bool cl, .string (tstr tx)] 32)
                    have hA29 := hA28.alloc (.cells #[.int .i64 kd, .string (tstr nm9), .slice As ats.length cs, .bool cl, .string (tstr tx)] 32)
                    have hL1 := TRow.lit (kd := kd) (nm9 := nm9) (tx := tx) (cl := cl) hA18 hM8.bel.size
                    have hL1 := hL1.alloc (.cells #[.int .i64 kd, .string (tstr nm9), .slice As2 ats.length cs2, .bool cl, .string (tstr tx)] 32)
                    have hL2 := TRow.lit (kd := kd) (nm9 := nm9) (tx := tx) (cl := cl) hA29 hM9.bel.size
                    have hM10 := hM9.alloc (.cells #[.int .i64 kd, .string (tstr nm9), .slice As2 ats.length cs2, .bool cl, .string (tstr tx)] 32)
                    have hX10 := hX9.alloc (.cells #[.int .i64 kd, .string (tstr nm9), .slice As2 ats.length cs2, .bool cl, .string (tstr tx)] 32)
                    have hA110 := (hA18.alloc (.cells #[.int .i64 kd, .string (tstr nm9), .slice As ats.length cs, .bool cl, .string (tstr tx)] 32)).alloc (.cells #[.int .i64 kd, .string (tstr nm9), .slice As2 ats.length cs2, .bool cl, .string (tstr tx)] 32)
                    rw [World.size_alloc] at hL1
                    rw [World.size_alloc, World.size_alloc] at hL2
                    have heq := lequal_any w1.heap.size w1.heap.size _ _ _ _ _ hL1 hL2 rfl (Nat.le_of_ble_eq_true rfl) (fun p hp => by
                      obtain rfl : p = (⟨kd, nm9, ats, cl, tx⟩, .slice As ats.length cs) := by simpa using hp
                      show ats.length ≤ 100000; omega)
                    obtain ⟨d0, d1, d2, d3, d4⟩ := tok_cells hX8
                    obtain ⟨g0, g1, g2, g3, g4⟩ := tok_cells hY9
                    have H10 := Lib.hid (And.intro hM10 (And.intro hX10 hA110))
                    clear H6 hA7 hT7 hg7 hz6 hM7 hX7 hA1 hA2 hM8 hX8 hY8 hA18 hA28 hM9 hX9 hY9 hA29 hL1 hL2 hM10 hX10 hA110
                    go_wp2_with fail
                    refine heq.mono ?_
                    clear heq
                    rintro e w11 ⟨rfl, hb11⟩
                    have hM11 := H10.out.1.below hb11
                    have hX11 := H10.out.2.1.below hb11 H10.out.2.1.lt
                    have hA11 := H10.out.2.2.below hb11
                    have hown := hM11.row.1
                    have hlit := Whole.new w11 #[.int .i64 kd, .string (tstr nm9), .slice As ats.length cs, .bool cl, .string (tstr tx)] 32
                    obtain ⟨x0, x1, x2, x3, x4⟩ := tok_cells hX11
                    have hbs := hM11.bel.size
                    have H11 := Lib.hid (And.intro hM11 (And.intro hA11 hlit))
                    clear H10 hM11 hX11 hA11 hlit hb11 d0 d1 d2 d3 d4 g0 g1 g2 g3 g4
                    go_wp2_with (at_builtin; refine wpList_append_own _ rfl (.tmp 94) (.tmp 96) 28 rfl w1.heap.size 32 i0 (.agg #[.int .i64 0, .string ByteArray.empty, .slice none 0 0, .bool false, .string ByteArray.empty]) 5 72 Tryd.underlying28 hi0 hz0 hz1 hz2 rfl (by decide) _ l4.length (tcells l4) rfl (hown.alloc _) ⟨w11.heap.size, 0, none⟩ 1 1 (tcells [(⟨kd, nm9, ats, cl, tx⟩, .slice As ats.length cs)]) rfl rfl ?c1 ?c2 ?c3 ?c4 ?c5 ?_)
                    case c1 =>
                      intro j u hj
                      match j, hj with
                      | 0, hj => simp [tcells] at hj; subst hj; exact H11.out.2.2.cell 0
                      | 1, hj => simp [tcells] at hj; subst hj; exact H11.out.2.2.cell 1
                      | 2, hj => simp [tcells] at hj; subst hj; exact H11.out.2.2.cell 2
                      | 3, hj => simp [tcells] at hj; subst hj; exact H11.out.2.2.cell 3
                      | 4, hj => simp [tcells] at hj; subst hj; exact H11.out.2.2.cell 4
                    case c2 => intro u hu; simp [tcells] at hu; rcases hu with rfl | rfl | rfl | rfl | rfl <;> rfl
                    case c3 => unfold maxLen; omega
                    case c4 => omega
                    case c5 => simp; omega
                    intro v2 w12 ho12 hg12 _
                    have hM12 := H11.out.1.push H11.out.2.1 ho12 hg12
                    obtain ⟨A12, c12, rfl⟩ := hM12.row.form
                    have HM12 := Lib.hid hM12
                    clear hM12 ho12 hg12 hown H11 x0 x1 x2 x3 x4
                    go_wp2_with fail
                    go_roundw
                    case rel => exact ⟨q + 1, rest5, raw5, _, by go_num, by omega, HM12.out, by rw [push_map]; exact HS5.out⟩
                    case measure => simp [intOf]; omega
                · have hqmI : ¬ (q : Int) < (m : Int) := by omega
                  have HM := Lib.hid hM
                  have HS := Lib.hid hS
                  clear hM hS
                  go_wp2_with fail
                  go_roundw
                  case rel => exact ⟨k + 1, P', l2, rest4, raw4, ret3, l4, by omega, by go_num, rfl, hPA, HM.out, HS.out⟩
                  case measure => simp [intOf]; omega
              · have hkl : ¬ (k : Int) < (len2 : Int) := by have := HIL.out; omega
                have HM := Lib.hid hM
                have HS := Lib.hid hS
                clear hM hS
                go_wp2_with fail
                go_roundw
                case rel => exact ⟨k + 1, P', l2, rest4, raw4, ret3, l4, by omega, by go_num, rfl, hPA, HM.out, HS.out⟩
                case measure => simp [intOf]; omega
          · have hbig' : ¬ ((tstr P).size : Int) + (s.size : Int) ≤ 1500 := by omega
            have hbel := hM.bel
            clear hM hS
            go_wp2_with fail
            go_ret
            exact ⟨rfl, HB1.out.trans (hbel.mono HB1.out.size)⟩
        · obtain rfl : k = ss.length := by omega
          have hbd := hS.bounds [] (by rw [List.append_nil]; exact hP)
          rw [List.append_nil, List.length_map] at hbd
          have hfi := kfinish_any w1.heap.size d rest raw ret wr (fun w' hg => HE1.out.below (hM.bel.grown hg hM.bel.size (fun j hj => by injection hj; omega))) hM.tz (by omega) hbd.2.1 (by omega) (by omega)
          have hdone := hS.done
          have HM := Lib.hid hM
          clear hM hS hA1
          go_wp2_with fail
          refine hfi.mono ?_
          clear hfi
          rintro e w3 ⟨v3, l3, rfl, hl3, hR3, hT3, hg3⟩
          have hM3 := HM.out.step hg3 hT3
          have hR3 := hR3.mono HM.out.bel.size
          have hl3n : (l.map Prod.fst ++ l3.map Prod.fst).length ≤ 4500 := by
            have h8 := toks_len true _ raw (rest ++ Txt.newl ret (Txt.rep d)) (Nat.le_refl _)
            have h9 := Txt.newl_len ret (Txt.rep d)
            rw [← hl3, List.length_append] at h8
            rw [List.length_append, List.length_map]
            omega
          rw [← hl3] at hdone
          obtain ⟨A3, c3, rfl⟩ := hR3.form
          have hown := hM3.row.1
          have hsrc := hR3.1
          have hone := hR3.one
          have hbs := hM3.bel.size
          rw [List.length_append, List.length_map, List.length_map] at hl3n
          have HM3 := Lib.hid (And.intro hM3 hR3)
          clear HM hM3 hR3 hT3 hg3 hl3
          go_wp2_with (at_builtin; refine wpList_append_src rfl (.tmp 98) (.tmp 99) 28 rfl w1.heap.size w1.heap.size 32 i0 (.agg #[.int .i64 0, .string ByteArray.empty, .slice none 0 0, .bool false, .string ByteArray.empty]) 5 72 Tryd.underlying28 hi0 hz0 hz1 hz2 rfl (by decide) _ l.length (tcells l) rfl hown _ l3.length (tcells l3) rfl hsrc hone (by unfold maxLen; omega) (by omega) (by omega) ?_)
          intro v4 w4 ho4 hg4 _
          have hM4 := HM3.out.1.cat HM3.out.2 ho4 hg4
          obtain ⟨A4, c4, rfl⟩ := hM4.row.form
          have hE4 := HE1.out.below hM4.bel
          have hrl := Txt.rep_len P
          have htk := ktokens_any (tstr P) w4 hE4 (by rw [tstr_size]; omega) (by rw [tstr_data]; omega)
          simp only [tstr_data] at htk
          have HM4 := Lib.hid hM4
          clear HM3 hM4 ho4 hg4 hown hsrc hone hE4
          go_wp2_with fail
          refine htk.mono ?_
          clear htk
          rintro e w8 ⟨v8, l8, rfl, hl8, hR8, hb8⟩
          have hM8 := HM4.out.below hb8
          have hE8 : (l ++ l3).map Prod.fst = l8.map Prod.fst := by rw [List.map_append, hdone, hl8]
          have hat := tokens_attrs (r := []) (P := P) (G := l.map Prod.fst ++ l3.map Prod.fst) (by rw [List.append_nil]; exact hdone)
          have heq := lequal_any w1.heap.size _ _ v8 (l ++ l3) l8 w8 hM8.row hR8 hE8 (by rw [List.length_append]; omega) (fun p hp => by
            have := hat p.1 (by rw [← List.map_append]; exact List.mem_map.2 ⟨p, hp, rfl⟩)
            omega)
          rw [List.length_append] at heq
          have HM8 := Lib.hid hM8
          clear HM4 hM8 hE8 hat hl8 hR8 hb8 hdone
          go_wp2_with fail
          refine heq.mono ?_
          clear heq
          rintro e w9 ⟨rfl, hb9⟩
          have hB9 := HM8.out.bel.trans (hb9.mono HM8.out.bel.size)
          go_wp2_with fail
          go_ret
          exact ⟨rfl, HB1.out.trans (hB9.mono HB1.out.size)⟩
    · have hs2' : ¬ (len2 : Int) ≤ 60 := by omega
      go_enter Tryd.func4, Tryd.ntmps4
      go_wp2_with fail
      refine (haw w hE).mono ?_
      rintro e w1 ⟨rfl, hb1⟩
      go_wp2_with fail
      refine (haw w1 (hE.below hb1)).mono ?_
      rintro e w2 ⟨rfl, hb2⟩
      go_wp2_with fail
      go_ret
      exact ⟨rfl, below_trans' hb1 hb2⟩
  · have hs' : ¬ (ss.length : Int) ≤ 60 := by omega
    go_enter Tryd.func4, Tryd.ntmps4
    go_wp2_with fail
    refine (haw w hE).mono ?_
    rintro e w1 ⟨rfl, hb1⟩
    go_wp2_with fail
    refine (haw w1 (hE.below hb1)).mono ?_
    rintro e w2 ⟨rfl, hb2⟩
    go_wp2_with fail
    go_ret
    exact ⟨rfl, below_trans' hb1 hb2⟩

end Go.Proofs.YtckmlbcpldpkpaaDoor

namespace Go.Proofs.YtckmlbcpldpkpaaDoor.markupLate
open Go.ChangeShapes Go.WideShapes Go.ChangeAt Go.RowKit
open Go.ChangeMaps (open_string shut_string)
set_option linter.unusedVariables false

theorem own : ownKnob Tryd.prog.godebug = none := by kernel_rfl
theorem laidOut : laidOutB Tryd.prog = true := by kernel_rfl

theorem bu8 {n : Int} (h : (Lit.int .u8 n).wf = true) : 0 ≤ n ∧ n ≤ 255 := by
  simpa [Lit.wf, IntKind.min, IntKind.max, IntKind.bits, IntKind.signed] using h
theorem bi64 {n : Int} (h : (Lit.int .i64 n).wf = true) : -9223372036854775808 ≤ n ∧ n ≤ 9223372036854775807 := by
  simpa [Lit.wf, IntKind.min, IntKind.max, IntKind.bits, IntKind.signed] using h
theorem weight_mem {H : Type} {P : Program} {e : TypeId} {s : ByteArray} {l : List ByteArray} (h : s ∈ l) : s.data.toList.length ∈ DataW.weightsAll P e (strs (H := H) l) := by
  induction l with
  | nil => cases h
  | cons t l ih =>
    have e1 : strs (H := H) (t :: l) = .lit (.string t.data.toList) :: strs l := rfl
    rw [e1, DataW.weightsAll, DataW.weights]
    rcases List.mem_cons.1 h with rfl | h
    · exact List.mem_append_left _ (List.mem_singleton.2 rfl)
    · exact List.mem_append_right _ (ih h)
theorem strsIn_of {w : World} {x : Addr} {ss : List ByteArray} {len : Nat} (hl : len ≤ ss.length) (hc : ∀ i, i < ss.length → w.cell? (x.add i) = some (.string (ss.getD i ByteArray.empty))) : StrsIn w (some x) (ss.take len) := by
  intro i y hi
  have hil : i < len := by
    have := (List.getElem?_eq_some_iff.1 hi).1
    rw [List.length_take] at this; omega
  rw [List.getElem?_take_of_lt hil] at hi
  obtain ⟨b, o, sp⟩ := x
  have hci := hc i (by omega)
  have hsp : sp = none := by simpa [Addr.add] using World.cell?_spot (hc 0 (by omega))
  subst hsp
  rw [add_plain] at hci
  refine ⟨b, o, rfl, ?_⟩
  rw [hci, List.getD, hi]; rfl

open Go.Shelf Go.Lib in
theorem laid_lit {W : World} (h : laidMetH Tryd.prog Rows.markupLateRow.laid W) : Lit W := by
  rw [MakeChecks.laidMetH_plain _ _ _ (by kernel_rfl)] at h
  have e1 : Rows.laid_unicode_utf8_first = firstData := Pinned.utf8First_eq
  have e2 : (Rows.laid_unicode_utf8_acceptRanges : DataW Unit) = acceptData := by kernel_rfl
  exact utf8Tabs_of_readsT (U8Types.of196 Tryd.lays196) ⟨by kernel_rfl, by kernel_rfl, by kernel_rfl, by kernel_rfl, by kernel_rfl, by kernel_rfl, by kernel_rfl⟩
    (e1 ▸ Lib.laidMet.reads h (.tail _ (.tail _ (.head _)))) (e2 ▸ Lib.laidMet.reads h (.head _))
theorem laid_tab {W : World} (h : laidMetH Tryd.prog Rows.markupLateRow.laid W) : Tab W := by
  rw [MakeChecks.laidMetH_plain _ _ _ (by kernel_rfl)] at h
  exact tab_of (Lib.laidMet.reads h (.tail _ (.head _)))

/-! The step from the walk to the row. -/
set_option maxRecDepth 100000 in
theorem lifted (os : Os) (started : os.Started) (H : Type) (enc : TypeId × Value → H) :
    ReturnsInHanded {} Tryd.checked os 4 .any (fun w args => (Rows.markupLateSpec.pre enc Tryd.prog Tryd.f4 [] false w args ∧ laidMetH Tryd.prog Rows.markupLateRow.laid w) ∧ sizedMet enc Tryd.prog Tryd.f4 (OpenSpec.ofChange Rows.markupLateSpec) false w args) (Rows.markupLateSpec.post enc Tryd.prog Tryd.f4 false true false false) := by
  have key : ∀ (W : World) (base : Nat) (args : Array Value) (ds gs : List (DataW H)) (before : List MemPlace),
      (∀ (j : Nat) t v, Tryd.f4.params[j]? = some t → args[j]? = some v → Value.okWide Tryd.prog W .any base t v) →
      DataW.Whole enc Tryd.prog Tryd.f4.params.toList Rows.markupLateSpec.vars false W args.toList ds gs before →
      (DataW.weightsEach Tryd.prog (Tryd.f4.params.toList ++ Rows.markupLateSpec.plain.varTypes Tryd.prog) (ds ++ gs)).all (· ≤ reachBytes) = true →
      laidMetH Tryd.prog Rows.markupLateRow.laid W →
      W.ShapedOpen Tryd.prog →
      Calls Tryd.prog 4 args W fun e W' => ∃ v, e = .returned v ∧ Rows.markupLateSpec.post enc Tryd.prog Tryd.f4 false true false false W args v W' := by
    intro W base args ds gs before hval0 hW hsz0 hL hsh
    have hT : Env W := ⟨laid_lit hL, laid_tab hL, Tryd.maxLen W hsh⟩
    have hval : ∀ (j : Nat) t v, Tryd.f4.params[j]? = some t → args[j]? = some v → Value.okWide Tryd.prog W .any base t v := hval0
    have hsz : (DataW.weightsEach Tryd.prog (Tryd.f4.params.toList ++ Rows.markupLateSpec.plain.varTypes Tryd.prog) (ds ++ gs)).all (· ≤ reachBytes) = true := hsz0
    have hW' := hW
    obtain ⟨p, q, hA0, hV, rfl, hfz, hnd⟩ := hW
    have hA : DataW.TrodAll enc Tryd.prog W 0 (fun _ => true) true Tryd.f4.params.toList args.toList ds p := hA0
    rw [Tryd.params4] at hA hval hsz
    obtain ⟨v0, vs0, d0, ds0, p0, q0, hargs, rfl, rfl, h0, r0⟩ := trodAll_cons hA
    obtain ⟨v1, vs1, d1, ds1, p1, q1, rfl, rfl, rfl, h1, r1⟩ := trodAll_cons r0
    obtain ⟨rfl, rfl, rfl⟩ := trodAll_nil r1
    obtain rfl : args = #[v0, v1] := by cases args; simp_all
    obtain ⟨rfl, rfl⟩ := trodVars_none hV
    have k0 := h0
    have lt0 : ∀ x ∈ p0, x.block < W.heap.size := by obtain ⟨m, hm⟩ := k0; exact DataW.trod_lt m _ _ _ hm
    obtain ⟨a0, len0, cap0, rfl⟩ := okWide_slice Tryd.underlying22 (hval 0 22 v0 rfl rfl)
    obtain ⟨ss0, w0, hl0, hz0⟩ : ∃ ss : List ByteArray, StrsIn W a0 ss ∧ ss.length = len0 ∧ ∀ s ∈ ss, s.size ≤ 140737488351232 := by
      obtain ⟨fuel, hf⟩ := h0
      rcases open_strings Tryd.underlying22 Tryd.underlying9 (by kernel_rfl) hf with ⟨hcs, _⟩ | ⟨x, l, c, ss, hcs, _, hl, hm, hz, hx, hcell, _⟩
      · simp [Value.cells] at hcs
        obtain ⟨rfl, rfl, rfl⟩ := hcs
        exact ⟨[], fun i x hi => by simp at hi, rfl, fun s hs => by cases hs⟩
      · simp [Value.cells] at hcs
        obtain ⟨rfl, rfl, rfl⟩ := hcs
        injection hx with hx _
        subst hx
        have hzc : ss.length = cap0 := by simpa using hz
        refine ⟨ss.take len0, strsIn_of (by omega) hcell, by rw [List.length_take]; omega, fun s hs => ?_⟩
        have h1 := List.all_eq_true.1 hsz _ (DataW.weights_mem_each (j := 0) (t := 22) rfl rfl s.data.toList.length (by
          simp only [DataW.weights, Tryd.underlying22]
          exact List.mem_cons_of_mem _ (List.mem_append_left _ (weight_mem hs))))
        have h2 : s.data.toList.length ≤ reachBytes := by simpa using h1
        exact h2
    subst hl0
    obtain ⟨a1, len1, cap1, rfl⟩ := okWide_slice Tryd.underlying39 (hval 1 39 v1 rfl rfl)
    have k1 := h1
    have lt1 : ∀ x ∈ p1, x.block < W.heap.size := by obtain ⟨m, hm⟩ := k1; exact DataW.trod_lt m _ _ _ hm
    obtain ⟨z1, w1⟩ : ∃ zs, IsRow .u8 W a1 len1 cap1 zs := by
      obtain ⟨fuel, hf⟩ := h1
      rcases open_ints Tryd.underlying39 Tryd.underlying5 (by kernel_rfl) hf with ⟨hcs, _⟩ | ⟨x, l, c, zs, hcs, _, hl, hm, hz, _, hcell, hwz⟩
      · simp [Value.cells] at hcs
        obtain ⟨rfl, rfl, rfl⟩ := hcs
        exact ⟨[], .inl ⟨rfl, rfl, rfl, rfl⟩⟩
      · simp [Value.cells] at hcs
        obtain ⟨rfl, rfl, rfl⟩ := hcs
        exact ⟨zs, .inr ⟨_, rfl, hl, hm, by simpa using hz, hcell, hwz⟩⟩
    clear hA0 hval0 hsz0
    refine (late_walk a0 cap0 ss0 a1 len1 cap1 z1 W hT w0 hz0 w1).mono fun e W' ⟨he, bel⟩ => ?_
    subst he
    exact ⟨_, rfl, _, _, _, [], _, [], hW', trodAll_mk1 (shut_bool Tryd.underlying4 _), (trodAll_cons_mk (Below.trod laidOut (by kernel_rfl) (of_decide_eq_true (by kernel_rfl)) k0 bel lt0) (trodAll_cons_mk (Below.trod laidOut (by kernel_rfl) (of_decide_eq_true (by kernel_rfl)) k1 bel lt1) trodAll_mk0)), rfl, bel.frame _, fun h => by cases h⟩
  refine returnsInHanded_of_calls own started (by kernel_rfl)
    (ChangeSpec.witness_shaped (enc := enc) (C := Tryd.checked) (os := os) (X := fun w _ => laidMetH Tryd.prog Rows.markupLateRow.laid w) false (World.laidAll Tryd.prog os Rows.markupLateRow.laid) #[.slice none 0 0, .slice none 0 0] 8 (World.laidAll_os _ _ _)
      (World.shaped_of_ZipB (by kernel_rfl) (by kernel_rfl)) (by kernel_rfl) (by kernel_rfl) (by kernel_rfl)
      (by rw [MakeChecks.laidMetH_plain _ _ _ (by kernel_rfl)]; exact laidMet_laidAll _ (by kernel_rfl) (by kernel_rfl))) ?_
  intro w tape i _ hsh _ hok hpre _
  obtain ⟨_, _, _, fn', hfn', _, _, _, _, hval⟩ := hok
  obtain rfl : fn' = Tryd.f4 := Option.some.inj (hfn'.symm.trans Tryd.func4)
  obtain ⟨⟨⟨ds, gs, before, hw, _⟩, hlaid⟩, hz⟩ := hpre
  refine (key (w.forCall tape i) w.heap.size i.args ds gs before hval (DataW.Whole.of_heap (w' := w.forCall tape i) (by rfl) hw) (hz.weights hw) (hlaid.of_heap (by rfl)) hsh).mono fun e W' ⟨v, he, hp⟩ => ?_
  subst he
  exact ChangeSpec.post_blind hp

theorem over : Rows.markupLateRow.holds Tryd.pinned (OpenSpec.ofChange Rows.markupLateSpec) :=
  OpenClaim.holds_of_wide 4 Tryd.f4 rfl rfl rfl rfl rfl rfl rfl ⟨rfl, rfl, rfl, rfl, rfl⟩ rfl rfl rfl rfl rfl (by kernel_rfl) Tryd.func4 (by kernel_rfl)
    (of_decide_eq_true (by kernel_rfl)) (by unfold Func.isWrapper; first | (rw [if_pos (by decide +kernel)]; kernel_rfl) | (rw [if_neg (by decide +kernel)]; exact ⟨rfl, rfl⟩))
    (fun os started H enc _ => lifted os started H enc)

/-- The statement: the card, over the row. -/
theorem proved : Rows.MarkupLateCardSaid :=
  Claim7.holds_tied_plain_at .later [] [.data, .data, .pinned] true _ false over (fun _ h => by cases h) (by kernel_rfl) (fun _ h => by cases h) markupLate_row_tie rfl ⟨rfl, rfl⟩ (by kernel_rfl) rfl
    (fun f fn hf hfn => by
      obtain rfl : f = 4 := Option.some.inj ((show Tryd.prog.funcNamed Rows.markupLateRow.func = some 4 by kernel_rfl).symm.trans hf) |>.symm
      obtain rfl : fn = Tryd.f4 := (Option.some.inj (Tryd.func4.symm.trans hfn)).symm
      exact ⟨by kernel_rfl, fun j t ht => by
        rw [Tryd.params4] at ht
        have hm : t ∈ [22, 39] := by simpa using Array.mem_of_getElem? ht
        have hall : ([22, 39].all fun u => !Tryd.prog.wantsStandIn u) = true := by kernel_rfl
        exact (show Tryd.prog.wantsStandIn t = false by simpa using List.all_eq_true.1 hall t hm)⟩)
    (by kernel_rfl)
end Go.Proofs.YtckmlbcpldpkpaaDoor.markupLate
