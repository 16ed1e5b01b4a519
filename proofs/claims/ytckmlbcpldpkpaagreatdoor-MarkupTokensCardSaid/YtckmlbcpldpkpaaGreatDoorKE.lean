/- What the library says of HasSuffix, TrimPrefix, Index and Cut, over this program. -/
import Derived.Test.YtckmlbcpldpkpaaGreatDoorProg
import Derived.Shelf.Strings.Prefix
import Derived.Shelf.Strings.Search3
import Derived.Shelf.Strings.Cut
import Derived.Lib.IndexMore
import Derived.Test.YtckmlbcpldpkpaaGreatDoorKA
import Derived.Test.YtckmlbcpldpkpaaGreatDoorKC
import Derived.Test.YtckmlbcpldpkpaaGreatDoorKD
namespace Go.Proofs
open Go.Shelf

def Tryz.lays100_ren : Go.Shelf.Ren := ⟨fun | 100 => 56 | 207 => 65 | n => n, fun | 3 => 3 | 4 => 4 | 9 => 9 | n => n, fun | n => n⟩
theorem Tryz.lays100 : Go.Proofs.Lays.n100 Tryz.prog Tryz.lays100_ren := {
  mixed := by kernel_rfl
  f100 := Tryz.func56.trans (congrArg some (by kernel_rfl))
  f207 := Tryz.func65.trans (congrArg some (by kernel_rfl))
  t3 := Tryz.underlying3
  a3 := Tryz.isAgg3
  z3 := Tryz.sizeOf3
  v3 := Tryz.zeroValue3
  t4 := Tryz.underlying4
  a4 := Tryz.isAgg4
  z4 := Tryz.sizeOf4
  v4 := Tryz.zeroValue4
  t9 := Tryz.underlying9
  a9 := Tryz.isAgg9
  z9 := Tryz.sizeOf9
  v9 := Tryz.zeroValue9 }
def Tryz.lays101_ren : Go.Shelf.Ren := ⟨fun | 101 => 55 | 206 => 75 | 208 => 64 | n => n, fun | 3 => 3 | 4 => 4 | 9 => 9 | n => n, fun | n => n⟩
theorem Tryz.lays101 : Go.Proofs.Lays.n101 Tryz.prog Tryz.lays101_ren := {
  mixed := by kernel_rfl
  f101 := Tryz.func55.trans (congrArg some (by kernel_rfl))
  f206 := Tryz.func75.trans (congrArg some (by kernel_rfl))
  f208 := Tryz.func64.trans (congrArg some (by kernel_rfl))
  t3 := Tryz.underlying3
  a3 := Tryz.isAgg3
  z3 := Tryz.sizeOf3
  v3 := Tryz.zeroValue3
  t4 := Tryz.underlying4
  a4 := Tryz.isAgg4
  z4 := Tryz.sizeOf4
  v4 := Tryz.zeroValue4
  t9 := Tryz.underlying9
  a9 := Tryz.isAgg9
  z9 := Tryz.sizeOf9
  v9 := Tryz.zeroValue9 }
def Tryz.lays143_ren : Go.Shelf.Ren := ⟨fun | 143 => 93 | 217 => 117 | 219 => 115 | 224 => 128 | 225 => 127 | 266 => 130 | 267 => 129 | 314 => 140 | n => n, fun | 3 => 3 | 4 => 4 | 5 => 5 | 9 => 9 | 46 => 102 | 51 => 115 | 146 => 134 | n => n, fun | 1 => 2 | n => n⟩
theorem Tryz.lays143 : Go.Proofs.Lays.n143 Tryz.prog Tryz.lays143_ren := {
  mixed := by kernel_rfl
  f143 := Tryz.func93.trans (congrArg some (by kernel_rfl))
  f217 := Tryz.func117.trans (congrArg some (by kernel_rfl))
  f219 := Tryz.func115.trans (congrArg some (by kernel_rfl))
  f224 := Tryz.func128.trans (congrArg some (by kernel_rfl))
  f225 := Tryz.func127.trans (congrArg some (by kernel_rfl))
  f266 := Tryz.func130.trans (congrArg some (by kernel_rfl))
  f267 := Tryz.func129.trans (congrArg some (by kernel_rfl))
  f314 := Tryz.func140.trans (congrArg some (by kernel_rfl))
  t3 := Tryz.underlying3
  a3 := Tryz.isAgg3
  z3 := Tryz.sizeOf3
  v3 := Tryz.zeroValue3
  t4 := Tryz.underlying4
  a4 := Tryz.isAgg4
  z4 := Tryz.sizeOf4
  v4 := Tryz.zeroValue4
  t5 := Tryz.underlying5
  a5 := Tryz.isAgg5
  z5 := Tryz.sizeOf5
  v5 := Tryz.zeroValue5
  t9 := Tryz.underlying9
  a9 := Tryz.isAgg9
  z9 := Tryz.sizeOf9
  v9 := Tryz.zeroValue9
  t46 := Tryz.underlying102
  a46 := Tryz.isAgg102
  z46 := Tryz.sizeOf102
  v46 := Tryz.zeroValue102
  t51 := Tryz.underlying115
  a51 := Tryz.isAgg115
  z51 := Tryz.sizeOf115
  v51 := Tryz.zeroValue115
  t146 := Tryz.underlying134
  a146 := Tryz.isAgg134
  z146 := Tryz.sizeOf134
  v146 := Tryz.zeroValue134
  g1 := by kernel_rfl }
def Tryz.lays145_ren : Go.Shelf.Ren := ⟨fun | 145 => 103 | 217 => 117 | 219 => 115 | 220 => 120 | 224 => 128 | 225 => 127 | 266 => 130 | 267 => 129 | 314 => 140 | n => n, fun | 3 => 3 | 4 => 4 | 5 => 5 | 9 => 9 | 46 => 102 | 51 => 115 | 59 => 117 | 146 => 134 | n => n, fun | 1 => 2 | n => n⟩
theorem Tryz.lays145 : Go.Proofs.Lays.n145 Tryz.prog Tryz.lays145_ren := {
  mixed := by kernel_rfl
  f145 := Tryz.func103.trans (congrArg some (by kernel_rfl))
  f217 := Tryz.func117.trans (congrArg some (by kernel_rfl))
  f219 := Tryz.func115.trans (congrArg some (by kernel_rfl))
  f220 := Tryz.func120.trans (congrArg some (by kernel_rfl))
  f224 := Tryz.func128.trans (congrArg some (by kernel_rfl))
  f225 := Tryz.func127.trans (congrArg some (by kernel_rfl))
  f266 := Tryz.func130.trans (congrArg some (by kernel_rfl))
  f267 := Tryz.func129.trans (congrArg some (by kernel_rfl))
  f314 := Tryz.func140.trans (congrArg some (by kernel_rfl))
  t3 := Tryz.underlying3
  a3 := Tryz.isAgg3
  z3 := Tryz.sizeOf3
  v3 := Tryz.zeroValue3
  t4 := Tryz.underlying4
  a4 := Tryz.isAgg4
  z4 := Tryz.sizeOf4
  v4 := Tryz.zeroValue4
  t5 := Tryz.underlying5
  a5 := Tryz.isAgg5
  z5 := Tryz.sizeOf5
  v5 := Tryz.zeroValue5
  t9 := Tryz.underlying9
  a9 := Tryz.isAgg9
  z9 := Tryz.sizeOf9
  v9 := Tryz.zeroValue9
  t46 := Tryz.underlying102
  a46 := Tryz.isAgg102
  z46 := Tryz.sizeOf102
  v46 := Tryz.zeroValue102
  t51 := Tryz.underlying115
  a51 := Tryz.isAgg115
  z51 := Tryz.sizeOf115
  v51 := Tryz.zeroValue115
  t59 := Tryz.underlying117
  a59 := Tryz.isAgg117
  z59 := Tryz.sizeOf117
  v59 := Tryz.zeroValue117
  t146 := Tryz.underlying134
  a146 := Tryz.isAgg134
  z146 := Tryz.sizeOf134
  v146 := Tryz.zeroValue134
  g1 := by kernel_rfl }
open Go.RowKit in
theorem Tryz.hasSuffix (s p : ByteArray) (w : World) (hs : s.size ≤ 9223372036854775807) :
    Calls Tryz.prog 56 #[.string s, .string p] w fun e w' => e = .returned (.bool (Lib.hasSuffix s.data.toList p.data.toList)) ∧ w' = w := Any.strings_HasSuffix Tryz.lays100 s p w hs
open Go.RowKit in
theorem Tryz.trimPrefix (s p : ByteArray) (w : World) :
    Calls Tryz.prog 55 #[.string s, .string p] w fun e w' => e = .returned (.string ⟨(Lib.trimPrefix s.data.toList p.data.toList).toArray⟩) ∧ w' = w := Any.strings_TrimPrefix Tryz.lays101 s p w
open Go.RowKit in
theorem Tryz.index (s sub : ByteArray) (m : Int) (w : World) (hs : s.size < 4294967281) (hm : w.cell? ⟨2, 0, none⟩ = some (.int .i64 m)) :
    Calls Tryz.prog 93 #[.string s, .string sub] w fun e w' => e = .returned (.int .i64 (Lib.index s.data.toList sub.data.toList)) ∧ w' = w := Any.strings_Index Tryz.lays143 s sub m w hs hm
open Go.RowKit in
theorem Tryz.cut (s sep : ByteArray) (m : Int) (w : World) (hs : s.size < 4294967281) (hm : w.cell? ⟨2, 0, none⟩ = some (.int .i64 m)) :
    Calls Tryz.prog 103 #[.string s, .string sep] w fun e w' => e = .returned (.tuple #[.string ⟨(Lib.cut s.data.toList sep.data.toList).1.toArray⟩, .string ⟨(Lib.cut s.data.toList sep.data.toList).2.1.toArray⟩, .bool (Lib.cut s.data.toList sep.data.toList).2.2]) ∧ ∃ n, w' = w.drewN n := Any.strings_Cut Tryz.lays145 s sep m w hs hm
end Go.Proofs

/- A token in a variable and as a result; the program's lacksEnd. -/
namespace Go.Proofs.YtckmlbcpldpkpaaGreatDoor
open Go Go.RowKit
set_option linter.unusedVariables false

/-- A token as a value. -/
def tokT (t : Mk.Tok) (sl : Value) : Value := .agg #[.int .i64 t.kind, .string (tstr t.name), sl, .bool t.closed, .string (tstr t.text)]
def tokC (t : Mk.Tok) (sl : Value) : Array Value := #[.int .i64 t.kind, .string (tstr t.name), sl, .bool t.closed, .string (tstr t.text)]
def Mk.zeroTok : Mk.Tok := ⟨0, [], [], false, []⟩
/-- What a step answers: its token (or an empty one) and its size. -/
def RdOk (w' : World) (base : Nat) (x : Mk.Rd) (e : Ending) : Prop :=
  ∃ sl, ARow 39 w' base sl (x.1.getD Mk.zeroTok).attrs ∧ e = .returned (.tuple #[tokT (x.1.getD Mk.zeroTok) sl, .int .i64 x.2])
theorem RdOk.plain {w' : World} {base : Nat} {x : Mk.Rd} {e : Ending} (t : Mk.Tok) (n : Nat) (hx : x = (some t, n)) (ha : t.attrs = []) (he : e = .returned (.tuple #[.agg #[.int .i64 t.kind, .string (tstr t.name), .slice none 0 0, .bool t.closed, .string (tstr t.text)], .int .i64 n])) : RdOk w' base x e := by
  subst hx
  refine ⟨.slice none 0 0, ?_, he⟩
  show ARow _ _ _ _ t.attrs
  rw [ha]
  exact ARow.nil _ _ _
theorem RdOk.no {w' : World} {base : Nat} {x : Mk.Rd} {e : Ending} (n : Nat) (hx : x = (none, n)) (he : e = .returned (.tuple #[.agg #[.int .i64 0, .string ⟨#[]⟩, .slice none 0 0, .bool false, .string ⟨#[]⟩], .int .i64 n])) : RdOk w' base x e := by
  subst hx
  exact ⟨.slice none 0 0, ARow.nil _ _ _, he⟩

/-- Five cells stored one behind the other. -/
theorem box5 {W : World} {B : Nat} {x0 x1 x2 x3 x4 : Value} {T : TypeId} (r : Whole W B #[x0, x1, x2, x3, x4] T) (y0 y1 y2 y3 y4 : Value) :
    ∃ X, ((((W.setCell ⟨B, 0, none⟩ y0).setCell ⟨B, 1, none⟩ y1).setCell ⟨B, 2, none⟩ y2).setCell ⟨B, 3, none⟩ y3).setCell ⟨B, 4, none⟩ y4 = X ∧ Whole X B #[y0, y1, y2, y3, y4] T ∧ W.grownBy X (some B) := by
  refine ⟨_, rfl, ((((r.put 0 y0).put 1 y1).put 2 y2).put 3 y3).put 4 y4, ?_⟩
  exact gb_put (gb_put (gb_put (gb_put (gb_put (gb_of_below (Below.refl _ _) _) 0 y0) 1 y1) 2 y2) 3 y3) 4 y4
/-- A new block and what is written into it turn nothing that lay. -/
theorem below_box {w W X : World} {B : Nat} (hb : Below w.heap.size w W) (hg : W.grownBy X (some B)) (hB : w.heap.size ≤ B) : Below w.heap.size w X :=
  hb.grown hg hb.size (fun j hj => by injection hj; omega)
theorem tok_free {W : World} {B : Nat} {x0 x1 x2 x3 x4 : Value} {T : TypeId} (r : Whole W B #[x0, x1, x2, x3, x4] T) : W.frozen? ⟨B, 0, none⟩ = false ∧ W.frozen? ⟨B, 1, none⟩ = false ∧ W.frozen? ⟨B, 2, none⟩ = false ∧ W.frozen? ⟨B, 3, none⟩ = false ∧ W.frozen? ⟨B, 4, none⟩ = false := ⟨r.free 0, r.free 1, r.free 2, r.free 3, r.free 4⟩
theorem tok_cells {W : World} {B : Nat} {x0 x1 x2 x3 x4 : Value} {T : TypeId} (r : Whole W B #[x0, x1, x2, x3, x4] T) : W.cell? ⟨B, 0, none⟩ = some x0 ∧ W.cell? ⟨B, 1, none⟩ = some x1 ∧ W.cell? ⟨B, 2, none⟩ = some x2 ∧ W.cell? ⟨B, 3, none⟩ = some x3 ∧ W.cell? ⟨B, 4, none⟩ = some x4 := ⟨r.cell 0, r.cell 1, r.cell 2, r.cell 3, r.cell 4⟩
theorem below_drewN' {B : Nat} {a w : World} (h : Below B a w) (q : Nat) : Below B a (w.drewN q) := ⟨h.os, h.tape, h.output, h.size, h.block⟩
def tok0 : Array Value := #[.int .i64 0, .string ⟨#[]⟩, .slice none 0 0, .bool false, .string ⟨#[]⟩]

set_option maxRecDepth 100000 in
set_option maxHeartbeats 1000000 in
theorem klacks_any (s : ByteArray) (c : Bool) (w : World) (hs : s.size ≤ 20000) :
    Calls Tryz.prog 101 #[.string s, .bool c] w fun e w' => e = .returned (.tuple #[.agg #[.int .i64 0, .string ⟨#[]⟩, .slice none 0 0, .bool false, .string ⟨#[]⟩], .int .i64 ((Mk.lacks c s.data.toList).2 : Nat)]) ∧ Below w.heap.size w w' := by
  have hW : Whole (w.alloc (.cells #[.int .i64 0, .string ⟨#[]⟩, .slice none 0 0, .bool false, .string ⟨#[]⟩] 30)) w.heap.size #[.int .i64 0, .string ⟨#[]⟩, .slice none 0 0, .bool false, .string ⟨#[]⟩] 30 := Whole.new _ _ _
  have hB : Below w.heap.size w (w.alloc (.cells #[.int .i64 0, .string ⟨#[]⟩, .slice none 0 0, .bool false, .string ⟨#[]⟩] 30)) := (Below.refl _ _).alloc (Nat.le_refl _) _
  cases c with
  | true =>
    have HL := Lib.hid (show ((Mk.lacks true s.data.toList).2 : Nat) = s.size from rfl)
    go_enter Tryz.func101, Tryz.ntmps101
    go_wp2_with fail
    refine bodyPost_ret (v := .tuple #[.agg #[.int .i64 0, .string ⟨#[]⟩, .slice none 0 0, .bool false, .string ⟨#[]⟩], .int .i64 s.size]) ?_ rfl ⟨by rw [HL.out], hB⟩
    simp [results, Tryz.f101, go_sem]
  | false =>
    have HL := Lib.hid (show ((Mk.lacks false s.data.toList).2 : Nat) = 0 from rfl)
    go_enter Tryz.func101, Tryz.ntmps101
    go_wp2_with fail
    refine bodyPost_ret (v := .tuple #[.agg #[.int .i64 0, .string ⟨#[]⟩, .slice none 0 0, .bool false, .string ⟨#[]⟩], .int .i64 0]) ?_ rfl ⟨by rw [HL.out]; rfl, hB⟩
    simp [results, Tryz.f101, go_sem]

end Go.Proofs.YtckmlbcpldpkpaaGreatDoor

/- The program's readUpTo returns what the plain text says. -/
namespace Go.Proofs.YtckmlbcpldpkpaaGreatDoor
open Go Go.RowKit
set_option linter.unusedVariables false

theorem idx_find (p : List UInt8) : ∀ l : List UInt8, Lib.index l p = match Mk.find p l with | some k => (k : Int) | none => -1 := by
  intro l
  induction l with
  | nil =>
    unfold Lib.index Mk.find
    cases p with
    | nil => rfl
    | cons a r => rfl
  | cons c r ih =>
    unfold Lib.index
    by_cases h : p.isPrefixOf (c :: r) = true
    · rw [if_pos h, Mk.find_here h]; rfl
    · rw [if_neg h, Mk.find_next (Bool.eq_false_iff.2 h), ih]
      cases Mk.find p r with
      | none => rfl
      | some k =>
        have : ((k : Int) == -1) = false := by rw [beq_eq_false_iff_ne]; omega
        simp only [Option.map_some]
        rw [this]; simp
theorem cut_find_some {p l : List UInt8} {k : Nat} (h : Mk.find p l = some k) : Lib.cut l p = (l.take k, l.drop (k + p.length), true) := by
  unfold Lib.cut
  rw [idx_find, h]
  simp only
  rw [if_pos (by omega), Int.toNat_natCast]
theorem cut_find_none {p l : List UInt8} (h : Mk.find p l = none) : Lib.cut l p = (l, [], false) := by
  unfold Lib.cut
  rw [idx_find, h]
  rfl

set_option maxRecDepth 100000 in
set_option maxHeartbeats 1000000 in
theorem kupto_any (p : ByteArray) (kind start : Nat) (s : ByteArray) (c : Bool) (w : World) (hM : MaxLen w) (hs : s.size ≤ 20000) (hp : p.size ≤ 10) (hst : start ≤ s.size) (hk : kind ≤ 10) :
    Calls Tryz.prog 84 #[.string p, .int .i64 kind, .string s, .int .i64 start, .bool c] w fun e w' => RdOk w' w.heap.size (Mk.upto p.data.toList kind start c s.data.toList) e ∧ Below w.heap.size w w' := by
  obtain ⟨m, hm⟩ := hM
  have hW : Whole (w.alloc (.cells #[.int .i64 0, .string ⟨#[]⟩, .slice none 0 0, .bool false, .string ⟨#[]⟩] 30)) w.heap.size #[.int .i64 0, .string ⟨#[]⟩, .slice none 0 0, .bool false, .string ⟨#[]⟩] 30 := Whole.new _ _ _
  have hB : Below w.heap.size w (w.alloc (.cells #[.int .i64 0, .string ⟨#[]⟩, .slice none 0 0, .bool false, .string ⟨#[]⟩] 30)) := (Below.refl _ _).alloc (Nat.le_refl _) _
  have hm1 := (hB.cell (World.block_lt_of_cell? w _ hm)).trans hm
  have hx := drop_extract s start
  have hxs : (s.extract start s.size).size = s.size - start := by rw [ByteArray.size_extract]; omega
  have sl1 : ∀ W : World, (Instr.slice 9 (.string s) (some (.int .i64 start)) none none).run Tryz.prog W = .ok (.string (s.extract start s.size)) W := fun W => by
    rw [run_slice_string_l (ht := Tryz.underlying9) (h0 := by omega) (h1 := by omega)]; rfl
  obtain ⟨X, hX⟩ : ∃ X, s.extract start s.size = X := ⟨_, rfl⟩
  rw [hX] at hx hxs sl1
  have hcut := Tryz.cut X p m _ (by omega) hm1
  rw [hx] at hcut
  have hpl : p.data.toList.length = p.size := rfl
  have hsl : s.data.toList.length = s.size := rfl
  clear hX hm hm1
  cases hf : Mk.find p.data.toList (s.data.toList.drop start) with
  | some k =>
    rw [cut_find_some hf] at hcut
    have hle := Mk.find_le hf
    rw [List.length_drop, hpl, hsl] at hle
    obtain ⟨V, hV⟩ : ∃ V, (s.data.toList.drop start).take k = V := ⟨_, rfl⟩
    have hVl : V.length = k := by rw [← hV, List.length_take, List.length_drop, hsl]; omega
    have HU := Lib.hid (show Mk.upto p.data.toList kind start c s.data.toList = (some ⟨kind, [], [], false, V⟩, start + k + p.size) by unfold Mk.upto; rw [hf]; show (some (⟨kind, [], [], false, (s.data.toList.drop start).take k⟩ : Mk.Tok), _) = _; rw [hV]; rfl)
    have hVs : (tstr V).size = k := by rw [tstr_size]; exact hVl
    simp only at hcut
    rw [hV, show (⟨V.toArray⟩ : ByteArray) = tstr V from rfl] at hcut
    obtain ⟨S, hS⟩ : ∃ S, tstr V = S := ⟨_, rfl⟩
    rw [hS] at hcut hVs
    have HS := Lib.hid hS
    generalize (⟨(List.drop (k + p.data.toList.length) (List.drop start s.data.toList)).toArray⟩ : ByteArray) = R at hcut
    clear hS hV hVl hf hpl hsl hx
    go_enter Tryz.func84, Tryz.ntmps84
    go_wp2_with fail
    refine hcut.mono ?_
    clear hcut
    rintro e w1 ⟨rfl, n, rfl⟩
    have hW1 := hW.drewN n
    have hB1 := below_drewN' hB n
    clear hW hB
    generalize (w.alloc (.cells #[.int .i64 0, .string ⟨#[]⟩, .slice none 0 0, .bool false, .string ⟨#[]⟩] 30)).drewN n = W1 at hW1 hB1 ⊢
    obtain ⟨f0, f1, f2, f3, f4⟩ := tok_free hW1
    obtain ⟨d0, d1, d2, d3, d4⟩ := tok_cells hW1
    go_wp2_with fail
    obtain ⟨W2, hW2, r2, g2⟩ := box5 hW1 (.int .i64 kind) (.string ⟨#[]⟩) (.slice none 0 0) (.bool false) (.string S)
    rw [hW2]
    obtain ⟨c0, c1, c2, c3, c4⟩ := tok_cells r2
    have hB2 := below_box hB1 g2 (Nat.le_refl _)
    clear d0 d1 d2 d3 d4 f0 f1 f2 f3 f4 hW2
    refine bodyPost_ret (v := .tuple #[.agg #[.int .i64 kind, .string ⟨#[]⟩, .slice none 0 0, .bool false, .string S], .int .i64 ((start : Int) + (k : Int) + (p.size : Int))]) ?_ rfl ⟨?_, hB2⟩
    · simp [results, Tryz.f84, go_sem, c0, c1, c2, c3, c4]
    · refine RdOk.plain _ _ HU.out rfl ?_
      rw [HS.out]
      rw [show ((start + k + p.size : Nat) : Int) = (start : Int) + (k : Int) + (p.size : Int) from by omega]
      rfl
  | none =>
    rw [cut_find_none hf] at hcut
    simp only at hcut
    rw [show (⟨(s.data.toList.drop start).toArray⟩ : ByteArray) = X from by rw [← hx]] at hcut
    cases c with
    | true =>
      have HU := Lib.hid (show Mk.upto p.data.toList kind start true s.data.toList = (some ⟨kind, [], [], false, s.data.toList.drop start⟩, s.size) by unfold Mk.upto; rw [hf]; rfl)
      have HX := Lib.hid hx
      clear hf hpl hsl hx
      go_enter Tryz.func84, Tryz.ntmps84
      go_wp2_with fail
      refine hcut.mono ?_
      clear hcut
      rintro e w1 ⟨rfl, n, rfl⟩
      have hW1 := hW.drewN n
      have hB1 := below_drewN' hB n
      clear hW hB
      generalize (w.alloc (.cells #[.int .i64 0, .string ⟨#[]⟩, .slice none 0 0, .bool false, .string ⟨#[]⟩] 30)).drewN n = W1 at hW1 hB1 ⊢
      obtain ⟨f0, f1, f2, f3, f4⟩ := tok_free hW1
      obtain ⟨d0, d1, d2, d3, d4⟩ := tok_cells hW1
      go_wp2_with fail
      obtain ⟨W2, hW2, r2, g2⟩ := box5 hW1 (.int .i64 kind) (.string ⟨#[]⟩) (.slice none 0 0) (.bool false) (.string X)
      rw [hW2]
      obtain ⟨c0, c1, c2, c3, c4⟩ := tok_cells r2
      have hB2 := below_box hB1 g2 (Nat.le_refl _)
      clear d0 d1 d2 d3 d4 f0 f1 f2 f3 f4 hW2
      refine bodyPost_ret (v := .tuple #[.agg #[.int .i64 kind, .string ⟨#[]⟩, .slice none 0 0, .bool false, .string X], .int .i64 s.size]) ?_ rfl ⟨?_, hB2⟩
      · simp [results, Tryz.f84, go_sem, c0, c1, c2, c3, c4]
      · refine RdOk.plain _ _ HU.out rfl ?_
        rw [show tstr (s.data.toList.drop start) = X from by rw [← HX.out]; exact tstr_of X]
        rfl
    | false =>
      have HU := Lib.hid (show Mk.upto p.data.toList kind start false s.data.toList = (none, 0) by unfold Mk.upto; rw [hf]; rfl)
      clear hf hpl hsl hx
      go_enter Tryz.func84, Tryz.ntmps84
      go_wp2_with fail
      refine hcut.mono ?_
      clear hcut
      rintro e w1 ⟨rfl, n, rfl⟩
      have hW1 := hW.drewN n
      have hB1 := below_drewN' hB n
      clear hW hB
      generalize (w.alloc (.cells #[.int .i64 0, .string ⟨#[]⟩, .slice none 0 0, .bool false, .string ⟨#[]⟩] 30)).drewN n = W1 at hW1 hB1 ⊢
      obtain ⟨f0, f1, f2, f3, f4⟩ := tok_free hW1
      obtain ⟨d0, d1, d2, d3, d4⟩ := tok_cells hW1
      go_wp2_with fail
      obtain ⟨W2, hW2, r2, g2⟩ := box5 hW1 (.int .i64 0) (.string ⟨#[]⟩) (.slice none 0 0) (.bool false) (.string ⟨#[]⟩)
      rw [hW2]
      obtain ⟨c0, c1, c2, c3, c4⟩ := tok_cells r2
      have hB2 := below_box hB1 g2 (Nat.le_refl _)
      clear d0 d1 d2 d3 d4 f0 f1 f2 f3 f4 hW2
      refine bodyPost_ret (v := .tuple #[.agg #[.int .i64 0, .string ⟨#[]⟩, .slice none 0 0, .bool false, .string ⟨#[]⟩], .int .i64 0]) ?_ rfl ⟨?_, hB2⟩
      · simp [results, Tryz.f84, go_sem, c0, c1, c2, c3, c4]
      · exact RdOk.no _ HU.out rfl

end Go.Proofs.YtckmlbcpldpkpaaGreatDoor

/- The program's readEnd returns what the plain text says. -/
namespace Go.Proofs.YtckmlbcpldpkpaaGreatDoor
open Go Go.RowKit
set_option linter.unusedVariables false

theorem idxb_find (c : UInt8) : ∀ l : List UInt8, Lib.indexByte l c = match Mk.find [c] l with | some k => (k : Int) | none => -1 := by
  intro l
  induction l with
  | nil => rfl
  | cons a r ih =>
    unfold Lib.indexByte
    by_cases h : a = c
    · subst h
      rw [if_pos (by simp), Mk.find_here (by simp [List.isPrefixOf])]; rfl
    · rw [if_neg (by simpa using h), Mk.find_next (by rw [Bool.eq_false_iff]; intro e; simp [List.isPrefixOf] at e; exact h e.symm), ih]
      cases Mk.find [c] r with
      | none => rfl
      | some k =>
        have : ((k : Int) == -1) = false := by rw [beq_eq_false_iff_ne]; omega
        simp only [Option.map_some]
        rw [this]; simp
theorem find_get {c : UInt8} : ∀ {l : List UInt8} {k : Nat}, Mk.find [c] l = some k → l[k]? = some c := by
  intro l
  induction l with
  | nil => intro k h; cases h
  | cons a r ih =>
    intro k h
    by_cases e : [c].isPrefixOf (a :: r) = true
    · rw [Mk.find_here e] at h
      obtain rfl := Option.some.inj h
      have : c = a := by simpa [List.isPrefixOf] using e
      rw [this]; rfl
    · rw [Mk.find_next (Bool.eq_false_iff.2 e)] at h
      obtain ⟨j, hj, rfl⟩ := Option.map_eq_some_iff.1 h
      exact ih hj
theorem tw_before {p : UInt8 → Bool} : ∀ {l : List UInt8} {k : Nat} {c : UInt8}, l[k]? = some c → p c = false → (l.takeWhile p).length ≤ k := by
  intro l
  induction l with
  | nil => intro k c h; simp at h
  | cons a r ih =>
    intro k c h hp
    by_cases ha : p a = true
    · rw [List.takeWhile_cons_of_pos ha]
      cases k with
      | zero =>
        obtain rfl : a = c := by simpa using h
        rw [ha] at hp; cases hp
      | succ k =>
        have := ih (k := k) (c := c) (by simpa using h) hp
        simp only [List.length_cons]; omega
    · rw [List.takeWhile_cons_of_neg ha]; exact Nat.zero_le _
theorem tw_inside {p : UInt8 → Bool} : ∀ {l : List UInt8} {k : Nat} {c : UInt8} {r : List UInt8}, k < (l.takeWhile p).length → l.drop k = c :: r → p c = true := by
  intro l
  induction l with
  | nil => intro k c r h; simp at h
  | cons a t ih =>
    intro k c r h hd
    by_cases ha : p a = true
    · rw [List.takeWhile_cons_of_pos ha] at h
      cases k with
      | zero => obtain ⟨rfl, _⟩ := List.cons.inj hd; exact ha
      | succ k => exact ih (by simpa using h) hd
    · rw [List.takeWhile_cons_of_neg ha] at h; simp at h
theorem tw_end {p : UInt8 → Bool} : ∀ {l : List UInt8} {c : UInt8} {r : List UInt8}, l.drop (l.takeWhile p).length = c :: r → p c = false := by
  intro l
  induction l with
  | nil => intro c r h; simp at h
  | cons a t ih =>
    intro c r h
    by_cases ha : p a = true
    · rw [List.takeWhile_cons_of_pos ha, List.length_cons] at h
      exact ih h
    · rw [List.takeWhile_cons_of_neg ha] at h
      obtain ⟨rfl, _⟩ := List.cons.inj h
      exact Bool.eq_false_iff.2 ha

set_option maxRecDepth 100000 in
set_option maxHeartbeats 1000000 in
theorem kreadend_any (s : ByteArray) (c : Bool) (w : World) (hs : s.size ≤ 20000) (hp : [60, 47].isPrefixOf s.data.toList = true) :
    Calls Tryz.prog 81 #[.string s, .bool c] w fun e w' => RdOk w' w.heap.size (Mk.rdEnd c s.data.toList) e ∧ Below w.heap.size w w' := by
  have hW : Whole (w.alloc (.cells #[.int .i64 0, .string ⟨#[]⟩, .slice none 0 0, .bool false, .string ⟨#[]⟩] 30)) w.heap.size #[.int .i64 0, .string ⟨#[]⟩, .slice none 0 0, .bool false, .string ⟨#[]⟩] 30 := Whole.new _ _ _
  have hB : Below w.heap.size w (w.alloc (.cells #[.int .i64 0, .string ⟨#[]⟩, .slice none 0 0, .bool false, .string ⟨#[]⟩] 30)) := (Below.refl _ _).alloc (Nat.le_refl _) _
  generalize hW1 : w.alloc (.cells #[.int .i64 0, .string ⟨#[]⟩, .slice none 0 0, .bool false, .string ⟨#[]⟩] 30) = W1 at hW hB
  have hix := Tryz.indexByte s 62 W1
  rw [show (62 : Int).toNat.toUInt8 = 62 from rfl, idxb_find] at hix
  have hsl : s.data.toList.length = s.size := rfl
  cases hf : Mk.find [62] s.data.toList with
  | none =>
    rw [hf] at hix
    have hl := klacks_any s c W1 hs
    have HU := Lib.hid (show Mk.rdEnd c s.data.toList = (none, (Mk.lacks c s.data.toList).2) by unfold Mk.rdEnd; rw [hf]; rfl)
    simp only at hix
    generalize (Mk.lacks c s.data.toList).2 = n at hl HU
    clear hf hp hsl
    go_enter Tryz.func81, Tryz.ntmps81
    go_wp2_with fail
    refine hix.mono ?_
    clear hix
    rintro e w1 ⟨rfl, rfl⟩
    go_wp2_with fail
    refine hl.mono ?_
    clear hl
    rintro e w2 ⟨rfl, hb2⟩
    have hW2 := hW.below hb2 hW.lt
    have hB2 := hB.trans (hb2.mono hB.size)
    obtain ⟨f0, f1, f2, f3, f4⟩ := tok_free hW2
    obtain ⟨d0, d1, d2, d3, d4⟩ := tok_cells hW2
    clear hW hB hb2 hW1
    go_wp2_with fail
    obtain ⟨X, hX, r2, g2⟩ := box5 hW2 (.int .i64 0) (.string ⟨#[]⟩) (.slice none 0 0) (.bool false) (.string ⟨#[]⟩)
    rw [hX]
    obtain ⟨c0, c1, c2, c3, c4⟩ := tok_cells r2
    have hB3 := below_box hB2 g2 (Nat.le_refl _)
    clear d0 d1 d2 d3 d4 f0 f1 f2 f3 f4 hX
    refine bodyPost_ret (v := .tuple #[.agg #[.int .i64 0, .string ⟨#[]⟩, .slice none 0 0, .bool false, .string ⟨#[]⟩], .int .i64 n]) ?_ rfl ⟨?_, hB3⟩
    · simp [results, Tryz.f81, go_sem, c0, c1, c2, c3, c4]
    · exact RdOk.no _ HU.out rfl
  | some k =>
    rw [hf] at hix
    obtain ⟨N, hN⟩ : ∃ N, (s.data.toList.drop 2).takeWhile (fun c => !Mk.stopC c) = N := ⟨_, rfl⟩
    obtain ⟨r, hr⟩ := Mk.two_of hp
    have hget := find_get hf
    have hk2 : 2 ≤ k := by
      rw [hr] at hget
      match k, hget with
      | 0, h => exact absurd (Option.some.inj h) (by decide)
      | 1, h => exact absurd (Option.some.inj h) (by decide)
      | k + 2, _ => omega
    have hks := (List.getElem?_eq_some_iff.1 hget).1
    rw [hsl] at hks
    have hNk : 2 + N.length ≤ k := by
      have := tw_before (p := fun c => !Mk.stopC c) (l := s.data.toList.drop 2) (k := k - 2) (c := 62) (by rw [List.getElem?_drop, show 2 + (k - 2) = k from by omega]; exact hget) (by decide)
      rw [hN] at this; omega
    have hin : ∀ j (h : 2 + j < s.size), j < N.length → Mk.stopC s[2 + j] = false := fun j h hj => by
      have hd := drop_get s (2 + j) h
      rw [← List.drop_drop] at hd
      have := tw_inside (p := fun c => !Mk.stopC c) (by rw [hN]; exact hj) hd
      simpa using this
    have hend : ∀ h : 2 + N.length < s.size, Mk.stopC s[2 + N.length] = true := fun h => by
      have hd := drop_get s (2 + N.length) h
      rw [← List.drop_drop] at hd
      have := tw_end (p := fun c => !Mk.stopC c) (l := s.data.toList.drop 2) (by rw [hN]; exact hd)
      simpa using this
    have hsl2 : ∀ W : World, (Instr.slice 9 (.string s) (some (.int .i64 2)) (some (.int .i64 ((2 + N.length : Nat) : Int))) none).run Tryz.prog W = .ok (.string (tstr N)) W := fun W => by
      rw [run_slice_string W _ s _ _ _ _ Tryz.underlying9 (by omega) (by omega) (by omega)]
      have hx := textract s 2 N.length
      rw [← hN, tw_take, hN] at hx
      rw [← str_of_list hx]; rfl
    rw [show ((2 + N.length : Nat) : Int) = 2 + (N.length : Int) from by omega] at hsl2
    have HU := Lib.hid (show Mk.rdEnd c s.data.toList = (some ⟨2, N.map Txt.lo, [], false, []⟩, k + 1) by unfold Mk.rdEnd; rw [hf, ← hN]; rfl)
    have hlow := fun W => tlower_any (tstr N) W (by rw [tstr_size]; omega)
    rw [tstr_data] at hlow
    have HH := Lib.hid (And.intro hin hend)
    simp only at hix
    clear hf hp hsl hN hr hget hin hend
    go_enter Tryz.func81, Tryz.ntmps81
    go_wp2_with fail
    refine hix.mono ?_
    clear hix
    rintro e w1 ⟨rfl, rfl⟩
    clear hW1
    go_wp2_with fail
    go_loop [7] (fun a => ∃ j : Nat, a = .int .i64 ((2 + j : Nat) : Int) ∧ j ≤ N.length) (fun a => s.size - (intOf a).toNat)
    case atStart => exact ⟨0, rfl, Nat.zero_le _⟩
    case round =>
      obtain ⟨j, rfl, hj⟩ := hrel
      have hjs : 2 + j < s.size := by omega
      have hcall := kends_any s[2 + j] w1
      by_cases hlt : j < N.length
      · rw [HH.out.1 j hjs hlt] at hcall
        go_wp2_with fail
        refine hcall.mono ?_
        clear hcall
        rintro e w2 ⟨rfl, rfl⟩
        go_wp2_with fail
        go_round
        case rel => exact ⟨j + 1, by go_num, hlt⟩
        case measure => simp [intOf]; omega
      · obtain rfl : j = N.length := by omega
        rw [HH.out.2 hjs] at hcall
        go_wp2_with fail
        refine hcall.mono ?_
        clear hcall
        rintro e w2 ⟨rfl, rfl⟩
        go_wp2_with fail
        refine (hlow w1).mono ?_
        clear hlow
        rintro e w2 ⟨rfl, hb2⟩
        have hW2 := hW.below hb2 hW.lt
        have hB2 := hB.trans (hb2.mono hB.size)
        obtain ⟨f0, f1, f2, f3, f4⟩ := tok_free hW2
        obtain ⟨d0, d1, d2, d3, d4⟩ := tok_cells hW2
        obtain ⟨A, hA⟩ : ∃ A, N.map Txt.lo = A := ⟨_, rfl⟩
        rw [hA] at HU ⊢
        clear hW hB hb2 hA hsl2
        go_wp2_with fail
        obtain ⟨X, hX, r2, g2⟩ := box5 hW2 (.int .i64 2) (.string (tstr A)) (.slice none 0 0) (.bool false) (.string ⟨#[]⟩)
        rw [hX]
        obtain ⟨c0, c1, c2, c3, c4⟩ := tok_cells r2
        have hB3 := below_box hB2 g2 (Nat.le_refl _)
        clear d0 d1 d2 d3 d4 f0 f1 f2 f3 f4 hX
        refine bodyPost_ret (v := .tuple #[.agg #[.int .i64 2, .string (tstr A), .slice none 0 0, .bool false, .string ⟨#[]⟩], .int .i64 ((k : Int) + 1)]) ?_ rfl ⟨?_, hB3⟩
        · simp [results, Tryz.f81, go_sem, c0, c1, c2, c3, c4]
        · refine RdOk.plain _ _ HU.out rfl ?_
          rw [show ((k + 1 : Nat) : Int) = (k : Int) + 1 from by omega]
          rfl

end Go.Proofs.YtckmlbcpldpkpaaGreatDoor

/- The program's beginsConstruct and nextConstruct return what the plain texts say. -/
namespace Go.Proofs.YtckmlbcpldpkpaaGreatDoor
open Go Go.RowKit
set_option linter.unusedVariables false

theorem begins_two_def (a b : UInt8) (r : List UInt8) : Mk.begins (a :: b :: r) = (a.toNat == 60 && (Ent.isL b || b.toNat == 47 || b.toNat == 33 || b.toNat == 63)) := by
  have e : ∀ (n : UInt8) (c : UInt8), (n == c) = (c.toNat == n.toNat) := fun n c => by
    rw [Bool.eq_iff_iff, beq_iff_eq, beq_iff_eq, UInt8.toNat_inj]; exact eq_comm
  unfold Mk.begins
  simp only [List.isPrefixOf, List.drop_succ_cons, List.drop_zero, Mk.letter, Bool.and_true]
  rw [e 60 a, e 47 b, e 33 b, e 63 b]
  rfl
theorem begins_short {l : List UInt8} (h : l.length ≤ 1) : Mk.begins l = false := by
  rw [Bool.eq_false_iff]; intro e
  have := Mk.begins_two e
  omega

set_option maxRecDepth 100000 in
set_option maxHeartbeats 1000000 in
theorem kbegins_any (s : ByteArray) (w : World) (hs : s.size ≤ 20000) :
    Calls Tryz.prog 88 #[.string s] w fun e w' => e = .returned (.bool (Mk.begins s.data.toList)) ∧ w = w' := by
  by_cases h1 : 1 < s.size
  · have h0 : 0 < s.size := by omega
    have h1' : (1 : Int) < (s.size : Int) := by omega
    have hl : s.data.toList = s[0] :: s[1] :: s.data.toList.drop 2 := by
      have d0 := drop_get s 0 h0
      have d1 := drop_get s 1 h1
      rw [List.drop_zero] at d0
      rw [d0, d1]
      rfl
    have hb := begins_two_def s[0] s[1] (s.data.toList.drop 2)
    rw [← hl] at hb
    have hcall := kletter_any s[1] w
    have ha := s[0].toNat_lt
    have hbb := s[1].toNat_lt
    have HB := Lib.hid hb
    clear hl hb
    by_cases h60 : s[0].toNat = 60
    · have t60 : ((s[0].toNat : Int) == 60) = true := by rw [h60]; rfl
      cases hL : Ent.isL s[1] with
      | true =>
        rw [hL] at hcall
        have HR := Lib.hid (show Mk.begins s.data.toList = true by rw [HB.out, h60, hL]; rfl)
        clear h60 hL
        go_enter Tryz.func88, Tryz.ntmps88
        go_wp2_with fail
        refine hcall.mono ?_
        clear hcall
        rintro e w' ⟨rfl, rfl⟩
        go_wp2_with fail
        go_ret
        exact ⟨retB HR.out.symm, rfl⟩
      | false =>
        rw [hL] at hcall
        have HR := Lib.hid (show Mk.begins s.data.toList = (((s[1].toNat : Int) == 47) || ((s[1].toNat : Int) == 33) || ((s[1].toNat : Int) == 63)) by
          rw [HB.out, h60, hL, show ((s[1].toNat : Int) == 47) = (s[1].toNat == 47) from nat_beq _ 47, show ((s[1].toNat : Int) == 33) = (s[1].toNat == 33) from nat_beq _ 33, show ((s[1].toNat : Int) == 63) = (s[1].toNat == 63) from nat_beq _ 63]; rfl)
        clear h60 hL
        go_enter Tryz.func88, Tryz.ntmps88
        go_wp2_with fail
        refine hcall.mono ?_
        clear hcall
        rintro e w' ⟨rfl, rfl⟩
        go_wp2_with fail
        all_goals go_ret
        all_goals refine ⟨retB ?_, rfl⟩
        all_goals rw [HR.out]
        all_goals simp_all
    · have t60 : ((s[0].toNat : Int) == 60) = false := by rw [beq_eq_false_iff_ne]; omega
      have HR := Lib.hid (show Mk.begins s.data.toList = false by rw [HB.out, beq_eq_false_iff_ne.2 h60]; rfl)
      clear h60 hcall
      go_enter Tryz.func88, Tryz.ntmps88
      go_wp2_with fail
      go_ret
      exact ⟨retB HR.out.symm, rfl⟩
  · have h1' : ¬ (1 : Int) < (s.size : Int) := by omega
    have HR := Lib.hid (show Mk.begins s.data.toList = false from begins_short (by show s.size ≤ 1; omega))
    go_enter Tryz.func88, Tryz.ntmps88
    go_wp2_with fail
    go_ret
    exact ⟨retB HR.out.symm, rfl⟩

/-- The index of the next construct, -1 if it is not known. -/
def nxi (l : List UInt8) : Int := match Mk.nextC l with | some k => (k : Int) | none => -1
def NSt (l : List UInt8) (a : Nat) : Prop := Mk.nextC l = (Mk.nextC (l.drop a)).map (· + a)
theorem NSt.start (l : List UInt8) : NSt l 0 := by
  unfold NSt
  rw [List.drop_zero]
  cases Mk.nextC l <;> rfl
theorem nextC_none {l : List UInt8} (h : Mk.find [60] l = none) : Mk.nextC l = none := by
  induction l with
  | nil => rfl
  | cons c r ih =>
    have hc : c ≠ 60 := fun e => by subst e; rw [Mk.find_here (by simp [List.isPrefixOf])] at h; cases h
    rw [Mk.find_next (by rw [Bool.eq_false_iff]; intro e; simp [List.isPrefixOf] at e; exact hc e.symm)] at h
    unfold Mk.nextC
    rw [Mk.begins_no r hc, if_neg Bool.false_ne_true, ih (by simpa using h)]; rfl
theorem nextC_skip : ∀ {l : List UInt8} {i : Nat}, Mk.find [60] l = some i → Mk.nextC l = (Mk.nextC (l.drop i)).map (· + i) := by
  intro l
  induction l with
  | nil => intro i h; cases h
  | cons c r ih =>
    intro i h
    by_cases hc : c = 60
    · subst hc
      rw [Mk.find_here (by simp [List.isPrefixOf])] at h
      obtain rfl := Option.some.inj h
      rw [List.drop_zero]
      cases Mk.nextC (60 :: r) <;> rfl
    · rw [Mk.find_next (by rw [Bool.eq_false_iff]; intro e; simp [List.isPrefixOf] at e; exact hc e.symm)] at h
      obtain ⟨j, hj, rfl⟩ := Option.map_eq_some_iff.1 h
      conv => lhs; unfold Mk.nextC
      rw [Mk.begins_no r hc, if_neg Bool.false_ne_true, ih hj, List.drop_succ_cons]
      cases Mk.nextC (r.drop j) <;> rfl
theorem NSt.skip {l : List UInt8} {a i : Nat} (h : NSt l a) (hf : Mk.find [60] (l.drop a) = some i) : NSt l (a + i) := by
  unfold NSt at h ⊢
  rw [h, nextC_skip hf, List.drop_drop]
  cases Mk.nextC (l.drop (a + i)) with
  | none => rfl
  | some k => simp only [Option.map_some]; congr 1; omega
theorem NSt.next {l : List UInt8} {a : Nat} (h : NSt l a) (hl : a < l.length) (hb : Mk.begins (l.drop a) = false) : NSt l (a + 1) := by
  unfold NSt at h ⊢
  rw [h]
  have hd := List.drop_eq_getElem_cons hl
  rw [hd] at hb ⊢
  conv => lhs; unfold Mk.nextC
  rw [hb, if_neg Bool.false_ne_true]
  cases Mk.nextC (l.drop (a + 1)) with
  | none => rfl
  | some k => simp only [Option.map_some]; congr 1; omega
theorem NSt.none {l : List UInt8} {a : Nat} (h : NSt l a) (hf : Mk.find [60] (l.drop a) = none) : nxi l = -1 := by
  unfold NSt at h
  unfold nxi
  rw [h, nextC_none hf]; rfl
theorem NSt.here {l : List UInt8} {a : Nat} (h : NSt l a) (hb : Mk.begins (l.drop a) = true) : nxi l = a := by
  unfold NSt at h
  unfold nxi
  rw [h]
  cases hd : l.drop a with
  | nil => rw [hd] at hb; cases hb
  | cons c r =>
    rw [hd] at hb
    unfold Mk.nextC
    rw [if_pos hb]
    simp

set_option maxRecDepth 100000 in
set_option maxHeartbeats 1000000 in
theorem knextc_any (s : ByteArray) (w : World) (hs : s.size ≤ 20000) :
    Calls Tryz.prog 111 #[.string s] w fun e w' => e = .returned (.int .i64 (nxi s.data.toList)) ∧ w = w' := by
  have hsl : s.data.toList.length = s.size := rfl
  go_enter Tryz.func111, Tryz.ntmps111
  go_wp2_with fail
  go_loop [3] (fun a => ∃ k : Nat, a = .int .i64 k ∧ k ≤ s.size ∧ NSt s.data.toList k) (fun a => s.size - (intOf a).toNat)
  case atStart => exact ⟨0, rfl, Nat.zero_le _, NSt.start _⟩
  case round =>
    obtain ⟨k, rfl, hk, hst⟩ := hrel
    have hx := drop_extract s k
    have hxs : (s.extract k s.size).size = s.size - k := by rw [ByteArray.size_extract]; omega
    have sl1 : ∀ W : World, (Instr.slice 9 (.string s) (some (.int .i64 k)) none none).run Tryz.prog W = .ok (.string (s.extract k s.size)) W := fun W => by
      rw [run_slice_string_l (ht := Tryz.underlying9) (h0 := by omega) (h1 := by omega)]; rfl
    obtain ⟨X, hX⟩ : ∃ X, s.extract k s.size = X := ⟨_, rfl⟩
    rw [hX] at hx hxs sl1
    have hix := Tryz.indexByte X 60 w
    rw [show (60 : Int).toNat.toUInt8 = 60 from rfl, idxb_find, hx] at hix
    cases hf : Mk.find [60] (s.data.toList.drop k) with
    | none =>
      rw [hf] at hix
      have HR := Lib.hid (hst.none hf)
      simp only at hix
      clear hst hf hX hx
      go_wp2_with fail
      refine hix.mono ?_
      clear hix
      rintro e w' ⟨rfl, rfl⟩
      go_wp2_with fail
      go_ret
      exact ⟨by rw [HR.out]; rfl, rfl⟩
    | some i =>
      rw [hf] at hix
      have hle := Mk.find_le hf
      rw [List.length_drop, hsl] at hle
      simp only [List.length_cons, List.length_nil] at hle
      simp only at hix
      have hst2 := hst.skip hf
      obtain ⟨a, ha⟩ : ∃ a, k + i = a := ⟨_, rfl⟩
      rw [ha] at hst2
      have hal : a < s.size := by omega
      have hy := drop_extract s a
      have hys : (s.extract a s.size).size = s.size - a := by rw [ByteArray.size_extract]; omega
      have sl2 : ∀ W : World, (Instr.slice 9 (.string s) (some (.int .i64 a)) none none).run Tryz.prog W = .ok (.string (s.extract a s.size)) W := fun W => by
        rw [run_slice_string_l (ht := Tryz.underlying9) (h0 := by omega) (h1 := by omega)]; rfl
      obtain ⟨Y, hY⟩ : ∃ Y, s.extract a s.size = Y := ⟨_, rfl⟩
      rw [hY] at hy hys sl2
      rw [show ((a : Nat) : Int) = (k : Int) + (i : Int) from by omega] at sl2
      have hbg := kbegins_any Y w (by omega)
      rw [hy] at hbg
      cases hb : Mk.begins (s.data.toList.drop a) with
      | true =>
        rw [hb] at hbg
        have HR := Lib.hid (hst2.here hb)
        have HA := Lib.hid ha
        clear hst hst2 hf hX hx hY hy hb ha hxs hys
        go_wp2_with fail
        refine hix.mono ?_
        clear hix
        rintro e w' ⟨rfl, rfl⟩
        go_wp2_with fail
        refine hbg.mono ?_
        clear hbg
        rintro e w' ⟨rfl, rfl⟩
        go_wp2_with fail
        go_ret
        exact ⟨by rw [HR.out, ← HA.out]; rw [show ((k + i : Nat) : Int) = (k : Int) + (i : Int) from by omega]; rfl, rfl⟩
      | false =>
        rw [hb] at hbg
        have HS := Lib.hid (And.intro (hst2.next (by rw [hsl]; exact hal) hb) ha)
        clear hst hst2 hf hX hx hY hy hb ha hxs hys
        go_wp2_with fail
        refine hix.mono ?_
        clear hix
        rintro e w' ⟨rfl, rfl⟩
        go_wp2_with fail
        refine hbg.mono ?_
        clear hbg
        rintro e w' ⟨rfl, rfl⟩
        go_wp2_with fail
        go_round
        case rel => exact ⟨a + 1, by rw [← HS.out.2]; go_num, hal, HS.out.1⟩
        case measure => simp [intOf]; omega

end Go.Proofs.YtckmlbcpldpkpaaGreatDoor

/- The program's readText returns what the plain text says. -/
namespace Go.Proofs.YtckmlbcpldpkpaaGreatDoor
open Go Go.RowKit
set_option linter.unusedVariables false

theorem str_take (s : ByteArray) (k : Nat) (hk : k ≤ s.size) : s.extract 0 k = tstr (s.data.toList.take k) := str_of_list (take_extract s k)
set_option maxRecDepth 100000 in
set_option maxHeartbeats 1000000 in
theorem kreadtext_any (s : ByteArray) (c : Bool) (w : World) (hT : Tab w) (hs : s.size ≤ 20000) :
    Calls Tryz.prog 90 #[.string s, .bool c] w fun e w' => RdOk w' w.heap.size (Mk.rdText c s.data.toList) e ∧ Below w.heap.size w w' := by
  have hW : Whole (w.alloc (.cells #[.int .i64 0, .string ⟨#[]⟩, .slice none 0 0, .bool false, .string ⟨#[]⟩] 30)) w.heap.size #[.int .i64 0, .string ⟨#[]⟩, .slice none 0 0, .bool false, .string ⟨#[]⟩] 30 := Whole.new _ _ _
  have hB : Below w.heap.size w (w.alloc (.cells #[.int .i64 0, .string ⟨#[]⟩, .slice none 0 0, .bool false, .string ⟨#[]⟩] 30)) := (Below.refl _ _).alloc (Nat.le_refl _) _
  generalize hW1 : w.alloc (.cells #[.int .i64 0, .string ⟨#[]⟩, .slice none 0 0, .bool false, .string ⟨#[]⟩] 30) = W1 at hW hB
  have hn := knextc_any s W1 hs
  have hT1 := hT.below hB
  have hsl : s.data.toList.length = s.size := rfl
  clear hT
  -- from the size on
  have hdec : ∀ k, k ≤ s.size → ∀ W, Tab W → (∀ V : World, (Instr.slice 9 (.string s) none (some (.int .i64 k)) none).run Tryz.prog V = .ok (.string (tstr (s.data.toList.take k))) V) ∧
      Calls Tryz.prog 82 #[.string (tstr (s.data.toList.take k))] W fun e w' => e = .returned (.string (tstr (Ent.decode (s.data.toList.take k)))) ∧ Below W.heap.size W w' := fun k hk W hW => by
    refine ⟨fun V => ?_, ?_⟩
    · rw [run_slice_string_h (ht := Tryz.underlying9) (h0 := by omega) (h2 := by omega), Int.toNat_natCast, str_take s k hk]
    · have := tdecode_any (tstr (s.data.toList.take k)) W hW (by rw [tstr_size, List.length_take, hsl]; omega)
      rw [tstr_data] at this
      exact this
  cases hf : Mk.nextC s.data.toList with
  | some k =>
    have hle := Mk.nextC_le hf
    rw [hsl] at hle
    rw [show nxi s.data.toList = (k : Int) by unfold nxi; rw [hf]] at hn
    obtain ⟨sl1, hd⟩ := hdec k (by omega) W1 hT1
    have HU := Lib.hid (show Mk.rdText c s.data.toList = (some ⟨3, [], [], false, Ent.decode (s.data.toList.take k)⟩, k) by unfold Mk.rdText; rw [hf]; rfl)
    generalize tstr (s.data.toList.take k) = P at sl1 hd
    generalize Ent.decode (s.data.toList.take k) = D at hd HU
    clear hdec hf hsl hT1
    go_enter Tryz.func90, Tryz.ntmps90
    go_wp2_with fail
    refine hn.mono ?_
    clear hn
    rintro e w1 ⟨rfl, rfl⟩
    clear hW1
    go_wp2_with fail
    refine hd.mono ?_
    clear hd
    rintro e w2 ⟨rfl, hb2⟩
    have hW2 := hW.below hb2 hW.lt
    have hB2 := hB.trans (hb2.mono hB.size)
    clear hW hB hb2 sl1
    obtain ⟨f0, f1, f2, f3, f4⟩ := tok_free hW2
    obtain ⟨d0, d1, d2, d3, d4⟩ := tok_cells hW2
    go_wp2_with fail
    obtain ⟨X9, hX9, r9, g9⟩ := box5 hW2 (.int .i64 3) (.string ⟨#[]⟩) (.slice none 0 0) (.bool false) (.string (tstr D))
    rw [hX9]
    obtain ⟨c0, c1, c2, c3, c4⟩ := tok_cells r9
    have hB9 := below_box hB2 g9 (Nat.le_refl _)
    clear d0 d1 d2 d3 d4 f0 f1 f2 f3 f4 hX9
    refine bodyPost_ret (v := .tuple #[.agg #[.int .i64 3, .string ⟨#[]⟩, .slice none 0 0, .bool false, .string (tstr D)], .int .i64 (k : Int)]) ?_ rfl ⟨?_, hB9⟩
    · simp [results, Tryz.f90, go_sem, c0, c1, c2, c3, c4]
    · exact RdOk.plain _ _ HU.out rfl rfl
  | none =>
    rw [show nxi s.data.toList = -1 by unfold nxi; rw [hf]] at hn
    cases c with
    | true =>
      obtain ⟨sl1, hd⟩ := hdec s.size (Nat.le_refl _) W1 hT1
      rw [show s.data.toList.take s.size = s.data.toList from List.take_length] at sl1 hd
      have HU := Lib.hid (show Mk.rdText true s.data.toList = (some ⟨3, [], [], false, Ent.decode s.data.toList⟩, s.size) by unfold Mk.rdText; rw [hf]; rfl)
      generalize tstr s.data.toList = P at sl1 hd
      generalize Ent.decode s.data.toList = D at hd HU
      clear hdec hf hsl hT1
      go_enter Tryz.func90, Tryz.ntmps90
      go_wp2_with fail
      refine hn.mono ?_
      clear hn
      rintro e w1 ⟨rfl, rfl⟩
      clear hW1
      go_wp2_with fail
      refine hd.mono ?_
      clear hd
      rintro e w2 ⟨rfl, hb2⟩
      have hW2 := hW.below hb2 hW.lt
      have hB2 := hB.trans (hb2.mono hB.size)
      clear hW hB hb2 sl1
      obtain ⟨f0, f1, f2, f3, f4⟩ := tok_free hW2
      obtain ⟨d0, d1, d2, d3, d4⟩ := tok_cells hW2
      go_wp2_with fail
      obtain ⟨X9, hX9, r9, g9⟩ := box5 hW2 (.int .i64 3) (.string ⟨#[]⟩) (.slice none 0 0) (.bool false) (.string (tstr D))
      rw [hX9]
      obtain ⟨c0, c1, c2, c3, c4⟩ := tok_cells r9
      have hB9 := below_box hB2 g9 (Nat.le_refl _)
      clear d0 d1 d2 d3 d4 f0 f1 f2 f3 f4 hX9
      refine bodyPost_ret (v := .tuple #[.agg #[.int .i64 3, .string ⟨#[]⟩, .slice none 0 0, .bool false, .string (tstr D)], .int .i64 s.size]) ?_ rfl ⟨?_, hB9⟩
      · simp [results, Tryz.f90, go_sem, c0, c1, c2, c3, c4]
      · exact RdOk.plain _ _ HU.out rfl rfl
    | false =>
      have HU := Lib.hid (show Mk.rdText false s.data.toList = (none, 0) by unfold Mk.rdText; rw [hf]; rfl)
      clear hdec hf hsl hT1
      go_enter Tryz.func90, Tryz.ntmps90
      go_wp2_with fail
      refine hn.mono ?_
      clear hn
      rintro e w1 ⟨rfl, rfl⟩
      clear hW1
      obtain ⟨f0, f1, f2, f3, f4⟩ := tok_free hW
      obtain ⟨d0, d1, d2, d3, d4⟩ := tok_cells hW
      go_wp2_with fail
      obtain ⟨X9, hX9, r9, g9⟩ := box5 hW (.int .i64 0) (.string ⟨#[]⟩) (.slice none 0 0) (.bool false) (.string ⟨#[]⟩)
      rw [hX9]
      obtain ⟨c0, c1, c2, c3, c4⟩ := tok_cells r9
      have hB9 := below_box hB g9 (Nat.le_refl _)
      clear d0 d1 d2 d3 d4 f0 f1 f2 f3 f4 hX9
      refine bodyPost_ret (v := .tuple #[.agg #[.int .i64 0, .string ⟨#[]⟩, .slice none 0 0, .bool false, .string ⟨#[]⟩], .int .i64 0]) ?_ rfl ⟨?_, hB9⟩
      · simp [results, Tryz.f90, go_sem, c0, c1, c2, c3, c4]
      · exact RdOk.no _ HU.out rfl

end Go.Proofs.YtckmlbcpldpkpaaGreatDoor

/- The program's IsRaw, IsPlain, rawEnd and readRaw return what the plain texts say. -/
namespace Go.Proofs.YtckmlbcpldpkpaaGreatDoor
open Go Go.RowKit
set_option linter.unusedVariables false

set_option maxRecDepth 100000 in
set_option maxHeartbeats 1000000 in
theorem kisraw_any (s : ByteArray) (w : World) :
    Calls Tryz.prog 22 #[.string s] w fun e w' => e = .returned (.bool (Mk.rawName s.data.toList)) ∧ w = w' := by
  have HR := Lib.hid (show Mk.rawName s.data.toList = Mk.rawName s.toList by rw [Lib.toList_data])
  go_enter Tryz.func22, Tryz.ntmps22
  go_wp2_with fail
  all_goals go_ret
  all_goals refine ⟨retB ?_, rfl⟩
  all_goals rw [HR.out]
  all_goals unfold Mk.rawName
  all_goals simp_all

set_option maxRecDepth 100000 in
set_option maxHeartbeats 1000000 in
theorem kisplain_any (s : ByteArray) (w : World) :
    Calls Tryz.prog 24 #[.string s] w fun e w' => e = .returned (.bool (Mk.plainName s.data.toList)) ∧ w = w' := by
  have HR := Lib.hid (show Mk.plainName s.data.toList = Mk.plainName s.toList by rw [Lib.toList_data])
  go_enter Tryz.func24, Tryz.ntmps24
  go_wp2_with fail
  all_goals go_ret
  all_goals refine ⟨retB ?_, rfl⟩
  all_goals rw [HR.out]
  all_goals unfold Mk.plainName
  all_goals simp_all

/-- The index of the end of a raw element, -1 if it is not known. -/
def rxi (tag l : List UInt8) : Int := match Mk.rawEnd tag l with | some k => (k : Int) | none => -1
def RSt (tag l : List UInt8) (a : Nat) : Prop := Mk.rawEnd tag l = (Mk.rawEnd tag (l.drop a)).map (· + a)
theorem RSt.start (tag l : List UInt8) : RSt tag l 0 := by
  unfold RSt
  rw [List.drop_zero]
  cases Mk.rawEnd tag l <;> rfl
theorem closes_not {tag l : List UInt8} (h : [60, 47].isPrefixOf l = false) : Mk.closes tag l = false := by
  unfold Mk.closes
  rw [h]; rfl
theorem rawEnd_none {tag l : List UInt8} (h : Mk.find [60, 47] l = none) : Mk.rawEnd tag l = none := by
  induction l with
  | nil => rfl
  | cons c r ih =>
    by_cases hp : [60, 47].isPrefixOf (c :: r) = true
    · rw [Mk.find_here hp] at h; cases h
    · have hp := Bool.eq_false_iff.2 hp
      rw [Mk.find_next hp] at h
      unfold Mk.rawEnd
      rw [closes_not hp, if_neg Bool.false_ne_true, ih (by simpa using h)]; rfl
theorem rawEnd_skip {tag : List UInt8} : ∀ {l : List UInt8} {i : Nat}, Mk.find [60, 47] l = some i → Mk.rawEnd tag l = (Mk.rawEnd tag (l.drop i)).map (· + i) := by
  intro l
  induction l with
  | nil => intro i h; cases h
  | cons c r ih =>
    intro i h
    by_cases hp : [60, 47].isPrefixOf (c :: r) = true
    · rw [Mk.find_here hp] at h
      obtain rfl := Option.some.inj h
      rw [List.drop_zero]
      cases Mk.rawEnd tag (c :: r) <;> rfl
    · have hp := Bool.eq_false_iff.2 hp
      rw [Mk.find_next hp] at h
      obtain ⟨j, hj, rfl⟩ := Option.map_eq_some_iff.1 h
      conv => lhs; unfold Mk.rawEnd
      rw [closes_not hp, if_neg Bool.false_ne_true, ih hj, List.drop_succ_cons]
      cases Mk.rawEnd tag (r.drop j) <;> rfl
theorem find_there {p : List UInt8} : ∀ {l : List UInt8} {k : Nat}, Mk.find p l = some k → p.isPrefixOf (l.drop k) = true := by
  intro l
  induction l with
  | nil =>
    intro k h
    unfold Mk.find at h
    split at h
    · rename_i e; subst e; rfl
    · cases h
  | cons c r ih =>
    intro k h
    by_cases hp : p.isPrefixOf (c :: r) = true
    · rw [Mk.find_here hp] at h
      obtain rfl := Option.some.inj h
      exact hp
    · rw [Mk.find_next (Bool.eq_false_iff.2 hp)] at h
      obtain ⟨j, hj, rfl⟩ := Option.map_eq_some_iff.1 h
      exact ih hj
theorem RSt.skip {tag l : List UInt8} {a i : Nat} (h : RSt tag l a) (hf : Mk.find [60, 47] (l.drop a) = some i) : RSt tag l (a + i) := by
  unfold RSt at h ⊢
  rw [h, rawEnd_skip hf, List.drop_drop]
  cases Mk.rawEnd tag (l.drop (a + i)) with
  | none => rfl
  | some k => simp only [Option.map_some]; congr 1; omega
theorem RSt.next {tag l : List UInt8} {a : Nat} (h : RSt tag l a) (hp : [60, 47].isPrefixOf (l.drop a) = true) (hc : Mk.closes tag (l.drop a) = false) : RSt tag l (a + 2) := by
  unfold RSt at h ⊢
  obtain ⟨r, hr⟩ := Mk.two_of hp
  have e2 : l.drop (a + 2) = r := by rw [← List.drop_drop, hr]; rfl
  rw [h, e2]
  rw [hr] at hc ⊢
  conv => lhs; unfold Mk.rawEnd
  rw [hc, if_neg Bool.false_ne_true]
  conv => lhs; unfold Mk.rawEnd
  rw [closes_not (show [60, 47].isPrefixOf (47 :: r) = false from rfl), if_neg Bool.false_ne_true]
  cases Mk.rawEnd tag r with
  | none => rfl
  | some k => simp only [Option.map_some]; congr 1; omega
theorem RSt.none {tag l : List UInt8} {a : Nat} (h : RSt tag l a) (hf : Mk.find [60, 47] (l.drop a) = none) : rxi tag l = -1 := by
  unfold RSt at h
  unfold rxi
  rw [h, rawEnd_none hf]; rfl
theorem RSt.short {tag l : List UInt8} {a : Nat} (h : RSt tag l a) (hs : l.length ≤ a + 2 + tag.length) : rxi tag l = -1 := by
  unfold RSt at h
  unfold rxi
  rw [h]
  cases hr : Mk.rawEnd tag (l.drop a) with
  | none => rfl
  | some k =>
    have := Mk.rawEnd_le hr
    rw [List.length_drop] at this
    omega
theorem RSt.here {tag l : List UInt8} {a : Nat} (h : RSt tag l a) (hc : Mk.closes tag (l.drop a) = true) : rxi tag l = a := by
  unfold RSt at h
  unfold rxi
  rw [h, Mk.closes_zero hc]
  simp
/-- The test of the end, character by character. -/
theorem closes_at {tag : List UInt8} {s : ByteArray} {a : Nat} (hp : [60, 47].isPrefixOf (s.data.toList.drop a) = true) (hl : a + 2 + tag.length < s.size) :
    Mk.closes tag (s.data.toList.drop a) = (Mk.stopC s[a + 2 + tag.length] && (((s.data.toList.drop (a + 2)).take tag.length).map Txt.lo == tag)) := by
  unfold Mk.closes
  rw [hp, List.drop_drop, List.drop_drop, drop_get s (a + (2 + tag.length)) (by omega)]
  rw [Bool.true_and, Bool.and_comm]
  congr 1
  simp only [Nat.add_assoc]

set_option maxRecDepth 100000 in
set_option maxHeartbeats 2000000 in
theorem krawend_any (s nm : ByteArray) (w : World) (hM : MaxLen w) (hs : s.size ≤ 20000) (hn : nm.size ≤ 100) :
    Calls Tryz.prog 80 #[.string s, .string nm] w fun e w' => e = .returned (.int .i64 (rxi nm.data.toList s.data.toList)) ∧ Below w.heap.size w w' := by
  have hsl : s.data.toList.length = s.size := rfl
  have hnl : nm.data.toList.length = nm.size := rfl
  have HM := Lib.hid hM
  clear hM
  go_enter Tryz.func80, Tryz.ntmps80
  go_wp2_with fail
  go_loopw [5] (fun a wr => ∃ k : Nat, a = .int .i64 k ∧ k ≤ s.size ∧ RSt nm.data.toList s.data.toList k ∧ Below w.heap.size w wr) (fun a _ => s.size - (intOf a).toNat)
  case atStart => exact ⟨0, rfl, Nat.zero_le _, RSt.start _ _, Below.refl _ _⟩
  case round =>
    obtain ⟨k, rfl, hk, hst, hbel⟩ := hrel
    have hx := drop_extract s k
    have hxs : (s.extract k s.size).size = s.size - k := by rw [ByteArray.size_extract]; omega
    have sl1 : ∀ W : World, (Instr.slice 9 (.string s) (some (.int .i64 k)) none none).run Tryz.prog W = .ok (.string (s.extract k s.size)) W := fun W => by
      rw [run_slice_string_l (ht := Tryz.underlying9) (h0 := by omega) (h1 := by omega)]; rfl
    obtain ⟨X, hX⟩ : ∃ X, s.extract k s.size = X := ⟨_, rfl⟩
    rw [hX] at hx hxs sl1
    obtain ⟨m, hm⟩ := HM.out.below hbel
    have hix := Tryz.index X ⟨#[60, 47]⟩ m wr (by omega) hm
    rw [show (⟨#[60, 47]⟩ : ByteArray).data.toList = [60, 47] from rfl, idx_find, hx] at hix
    cases hf : Mk.find [60, 47] (s.data.toList.drop k) with
    | none =>
      rw [hf] at hix
      have HR := Lib.hid (hst.none hf)
      simp only at hix
      clear hst hf hX hx hm
      go_wp2_with fail
      refine hix.mono ?_
      clear hix
      rintro e w' ⟨rfl, rfl⟩
      go_wp2_with fail
      go_ret
      exact ⟨by rw [HR.out]; rfl, hbel⟩
    | some i =>
      rw [hf] at hix
      have hle := Mk.find_le hf
      have hth := find_there hf
      rw [List.drop_drop] at hth
      rw [List.length_drop, hsl] at hle
      simp only [List.length_cons, List.length_nil] at hle
      simp only at hix
      have hst2 := hst.skip hf
      by_cases hend : s.size ≤ k + i + 2 + nm.size
      · have HR := Lib.hid (hst2.short (by rw [hsl, hnl]; exact hend))
        have hend' : (s.size : Int) ≤ (k : Int) + (i : Int) + 2 + (nm.size : Int) := by omega
        clear hst hst2 hf hX hx hm hth hend
        go_wp2_with fail
        refine hix.mono ?_
        clear hix
        rintro e w' ⟨rfl, rfl⟩
        go_wp2_with fail
        go_ret
        exact ⟨by rw [HR.out]; rfl, hbel⟩
      · have hend' : ¬ (s.size : Int) ≤ (k : Int) + (i : Int) + 2 + (nm.size : Int) := by omega
        have hlt : k + i + 2 + nm.size < s.size := by omega
        have hcl := closes_at (tag := nm.data.toList) hth (by rw [hnl]; exact hlt)
        simp only [hnl] at hcl
        have hcall := kends_any s[k + i + 2 + nm.size] wr
        have sl2 : ∀ W : World, (Instr.slice 9 (.string s) (some (.int .i64 ((k : Int) + (i : Int) + 2))) (some (.int .i64 ((k : Int) + (i : Int) + 2 + (nm.size : Int)))) none).run Tryz.prog W = .ok (.string (tstr ((s.data.toList.drop (k + i + 2)).take nm.size))) W := fun W => by
          rw [run_slice_string W _ s _ _ _ _ Tryz.underlying9 (by omega) (by omega) (by omega)]
          rw [show ((k : Int) + (i : Int) + 2).toNat = k + i + 2 from by omega, show ((k : Int) + (i : Int) + 2 + (nm.size : Int)).toNat = k + i + 2 + nm.size from by omega, str_of_list (textract s (k + i + 2) nm.size)]
        have hlow := tlower_any (tstr ((s.data.toList.drop (k + i + 2)).take nm.size)) wr (by rw [tstr_size, List.length_take]; omega)
        rw [tstr_data] at hlow
        have hidx : ∀ h : k + i + 2 + nm.size < s.size, True := fun _ => trivial
        obtain ⟨A, hA⟩ : ∃ A, ((s.data.toList.drop (k + i + 2)).take nm.size).map Txt.lo = A := ⟨_, rfl⟩
        rw [hA] at hlow hcl
        generalize tstr ((s.data.toList.drop (k + i + 2)).take nm.size) = P at hlow sl2
        have heq : ((tstr A).toList == nm.toList) = (A == nm.data.toList) := by rw [Lib.toList_data, Lib.toList_data, tstr_data]
        cases hst3 : Mk.stopC s[k + i + 2 + nm.size] with
        | false =>
          rw [hst3] at hcall hcl
          have HN := Lib.hid (hst2.next hth hcl)
          clear hst hst2 hf hX hx hm hth hend hcl hlow sl2 heq hA hst3 hidx
          go_wp2_with fail
          refine hix.mono ?_
          clear hix
          rintro e w' ⟨rfl, rfl⟩
          go_wp2_with fail
          refine hcall.mono ?_
          clear hcall
          rintro e w2 ⟨rfl, rfl⟩
          go_wp2_with fail
          go_roundw
          case rel => exact ⟨k + i + 2, by go_num, by omega, HN.out, hbel⟩
          case measure => simp [intOf]; omega
        | true =>
          rw [hst3] at hcall hcl
          rw [Bool.true_and] at hcl
          cases hA2 : (A == nm.data.toList) with
          | false =>
            rw [hA2] at heq hcl
            have HN := Lib.hid (hst2.next hth hcl)
            clear hst hst2 hf hX hx hm hth hend hcl hA hst3 hidx hA2
            generalize tstr A = Q at hlow heq
            go_wp2_with fail
            refine hix.mono ?_
            clear hix
            rintro e w' ⟨rfl, rfl⟩
            go_wp2_with fail
            refine hcall.mono ?_
            clear hcall
            rintro e w2 ⟨rfl, rfl⟩
            go_wp2_with fail
            refine hlow.mono ?_
            clear hlow
            rintro e w3 ⟨rfl, hb3⟩
            have hbel3 := hbel.trans (hb3.mono hbel.size)
            clear hb3
            go_wp2_with fail
            go_roundw
            case rel => exact ⟨k + i + 2, by go_num, by omega, HN.out, hbel3⟩
            case measure => simp [intOf]; omega
          | true =>
            rw [hA2] at heq hcl
            have HN := Lib.hid (hst2.here hcl)
            clear hst hst2 hf hX hx hm hth hend hcl hA hst3 hidx hA2
            generalize tstr A = Q at hlow heq
            go_wp2_with fail
            refine hix.mono ?_
            clear hix
            rintro e w' ⟨rfl, rfl⟩
            go_wp2_with fail
            refine hcall.mono ?_
            clear hcall
            rintro e w2 ⟨rfl, rfl⟩
            go_wp2_with fail
            refine hlow.mono ?_
            clear hlow
            rintro e w3 ⟨rfl, hb3⟩
            have hbel3 := hbel.trans (hb3.mono hbel.size)
            clear hb3
            go_wp2_with fail
            go_ret
            exact ⟨by rw [HN.out]; rw [show ((k + i : Nat) : Int) = (k : Int) + (i : Int) from by omega]; rfl, hbel3⟩

end Go.Proofs.YtckmlbcpldpkpaaGreatDoor

/- The program's readRaw returns what the plain text says. -/
namespace Go.Proofs.YtckmlbcpldpkpaaGreatDoor
open Go Go.RowKit
set_option linter.unusedVariables false

theorem ARow.mono' {T : TypeId} {w : World} {base base' : Nat} {v : Value} {l : List (List UInt8 × List UInt8)} (h : ARow T w base v l) (hb : base' ≤ base) : ARow T w base' v l := by
  refine ⟨h.1, ?_⟩
  rcases h.2 with hn | ⟨g, cap, cur, rfl, h1, rest⟩
  · exact .inl hn
  · exact .inr ⟨g, cap, cur, rfl, Nat.le_trans hb h1, rest⟩
theorem RdOk.mk {w' : World} {base : Nat} {e : Ending} {sl : Value} (o : Option Mk.Tok) (n : Nat) (T : Mk.Tok) (hT : o.getD Mk.zeroTok = T) (hA : ARow 39 w' base sl T.attrs) (he : e = .returned (.tuple #[.agg #[.int .i64 T.kind, .string (tstr T.name), sl, .bool T.closed, .string (tstr T.text)], .int .i64 n])) : RdOk w' base (o, n) e := by
  subst hT
  exact ⟨sl, hA, he⟩

set_option maxRecDepth 100000 in
set_option maxHeartbeats 2000000 in
theorem kreadraw_any (s nm : ByteArray) (c : Bool) (w : World) (hE : Env w) (hs : s.size ≤ 20000) (hn : nm.size ≤ 100) :
    Calls Tryz.prog 72 #[.string s, .string nm, .bool c] w fun e w' => RdOk w' w.heap.size (Mk.rdRaw nm.data.toList c s.data.toList) e ∧ Below w.heap.size w w' := by
  have hW : Whole (w.alloc (.cells #[.int .i64 0, .string ⟨#[]⟩, .slice none 0 0, .bool false, .string ⟨#[]⟩] 30)) w.heap.size #[.int .i64 0, .string ⟨#[]⟩, .slice none 0 0, .bool false, .string ⟨#[]⟩] 30 := Whole.new _ _ _
  have hB : Below w.heap.size w (w.alloc (.cells #[.int .i64 0, .string ⟨#[]⟩, .slice none 0 0, .bool false, .string ⟨#[]⟩] 30)) := (Below.refl _ _).alloc (Nat.le_refl _) _
  generalize hW1 : w.alloc (.cells #[.int .i64 0, .string ⟨#[]⟩, .slice none 0 0, .bool false, .string ⟨#[]⟩] 30) = W1 at hW hB
  have hE1 := hE.below hB
  have hre := krawend_any s nm W1 hE1.max hs hn
  have hip := fun W => kisplain_any nm W
  have hsl : s.data.toList.length = s.size := rfl
  have HT0 := Lib.hid hE.tab
  clear hE
  cases hr : Mk.rawEnd nm.data.toList s.data.toList with
  | some k =>
    rw [show rxi nm.data.toList s.data.toList = (k : Int) by unfold rxi; rw [hr]] at hre
    have hle := Mk.rawEnd_le hr
    rw [hsl] at hle
    cases k with
    | zero =>
      have hHU := show Mk.rdRaw nm.data.toList c s.data.toList = Mk.rdEnd c s.data.toList by unfold Mk.rdRaw; rw [hr]
      have hend := fun W => kreadend_any s c W hs (Mk.closes_open (Mk.rawEnd_zero hr))
      generalize Mk.rdEnd c s.data.toList = x9 at hHU hend
      obtain ⟨o9, n9⟩ := x9
      have HU := Lib.hid hHU
      clear hHU hr hip hsl hle hE1
      go_enter Tryz.func72, Tryz.ntmps72
      go_wp2_with fail
      refine hre.mono ?_
      clear hre
      rintro e w1 ⟨rfl, hb1⟩
      clear hW1
      have hW1 := hW.below hb1 hW.lt
      have hB1 := hB.trans (hb1.mono hB.size)
      have hcall := hend w1
      clear hend
      have hW := hW1
      have hB := hB1
      clear hW1 hB1
      go_wp2_with fail
      refine hcall.mono ?_
      clear hcall
      rintro e w2 ⟨⟨sl, hA, rfl⟩, hb2⟩
      have hW2 := hW.below hb2 hW.lt
      have hB2 := hB.trans (hb2.mono hB.size)
      have hA2 := hA.mono' (base' := w.heap.size) hB.size
      clear hW hB hb2 hA
      obtain ⟨T9, hT9⟩ : ∃ T, o9.getD Mk.zeroTok = T := ⟨_, rfl⟩
      rw [hT9] at hA2 ⊢
      have HT := Lib.hid hT9
      clear hT9
      unfold tokT
      obtain ⟨kd, nm9, ats, cl, tx⟩ := T9
      simp only at hA2 ⊢
      obtain ⟨A9, cp9, rfl⟩ := hA2.form
      obtain ⟨f0, f1, f2, f3, f4⟩ := tok_free hW2
      obtain ⟨d0, d1, d2, d3, d4⟩ := tok_cells hW2
      go_wp2_with fail
      obtain ⟨X9, hX9, r9, g9⟩ := box5 hW2 (.int .i64 kd) (.string (tstr nm9)) (.slice A9 ats.length cp9) (.bool cl) (.string (tstr tx))
      rw [hX9]
      obtain ⟨c0, c1, c2, c3, c4⟩ := tok_cells r9
      have hB9 := below_box hB2 g9 (Nat.le_refl _)
      have hA9 := hA2.grown g9 (.inr (hA2.apart hW2 (by decide)))
      clear d0 d1 d2 d3 d4 f0 f1 f2 f3 f4 hX9
      refine bodyPost_ret (v := .tuple #[.agg #[.int .i64 kd, .string (tstr nm9), .slice A9 ats.length cp9, .bool cl, .string (tstr tx)], .int .i64 n9]) ?_ rfl ⟨?_, hB9⟩
      · simp [results, Tryz.f72, go_sem, c0, c1, c2, c3, c4]
      · rw [HU.out]
        exact RdOk.mk _ n9 _ HT.out hA9 rfl
    | succ k =>
      have hk0 : (((k + 1 : Nat) : Int) == 0) = false := by rw [beq_eq_false_iff_ne]; omega
      have hkn : ¬ ((k + 1 : Nat) : Int) < 0 := by omega
      have sl1 : ∀ V : World, (Instr.slice 9 (.string s) none (some (.int .i64 ((k + 1 : Nat) : Int))) none).run Tryz.prog V = .ok (.string (tstr (s.data.toList.take (k + 1)))) V := fun V => by
        rw [run_slice_string_h (ht := Tryz.underlying9) (h0 := by omega) (h2 := by omega), Int.toNat_natCast, str_take s (k + 1) (by omega)]
      have hdec : ∀ W, Tab W → Calls Tryz.prog 82 #[.string (tstr (s.data.toList.take (k + 1)))] W fun e w' => e = .returned (.string (tstr (Ent.decode (s.data.toList.take (k + 1))))) ∧ Below W.heap.size W w' := fun W hW => by
        have := tdecode_any (tstr (s.data.toList.take (k + 1))) W hW (by rw [tstr_size, List.length_take, hsl]; omega)
        rw [tstr_data] at this
        exact this
      have hHU := show Mk.rdRaw nm.data.toList c s.data.toList = (some ⟨3, [], [], false, Mk.rawTxt nm.data.toList (s.data.toList.take (k + 1))⟩, k + 1) by unfold Mk.rdRaw; rw [hr]; rfl
      clear hr hle hsl hE1
      generalize hL : s.data.toList.take (k + 1) = L at sl1 hdec hHU
      clear hL
      obtain ⟨k1, hk1⟩ : ∃ k1, k + 1 = k1 := ⟨_, rfl⟩
      rw [hk1] at hre hk0 hkn sl1 hHU
      clear hk1
      cases hpn : Mk.plainName nm.data.toList with
      | true =>
        have HU := Lib.hid (show Mk.rdRaw nm.data.toList c s.data.toList = (some ⟨3, [], [], false, Ent.decode L⟩, k1) by rw [hHU]; unfold Mk.rawTxt; rw [hpn]; rfl)
        generalize tstr L = P at sl1 hdec
        generalize Ent.decode L = D at hdec HU
        clear hHU
        go_enter Tryz.func72, Tryz.ntmps72
        go_wp2_with fail
        refine hre.mono ?_
        clear hre
        rintro e w1 ⟨rfl, hb1⟩
        clear hW1
        have hW1 := hW.below hb1 hW.lt
        have hB1 := hB.trans (hb1.mono hB.size)
        have hpl := hip w1
        rw [hpn] at hpl
        have hT1 := HT0.out.below hB1
        have hd := hdec w1 hT1
        clear hdec hpn
        go_wp2_with fail
        refine hpl.mono ?_
        clear hpl
        rintro e w2 ⟨rfl, rfl⟩
        go_wp2_with fail
        refine hd.mono ?_
        clear hd
        rintro e w3 ⟨rfl, hb3⟩
        have hW3 := hW1.below hb3 hW1.lt
        have hB3 := hB1.trans (hb3.mono hB1.size)
        clear hW hB hb1 hb3 sl1 hW1 hB1
        obtain ⟨f0, f1, f2, f3, f4⟩ := tok_free hW3
        obtain ⟨d0, d1, d2, d3, d4⟩ := tok_cells hW3
        go_wp2_with fail
        obtain ⟨X9, hX9, r9, g9⟩ := box5 hW3 (.int .i64 3) (.string ⟨#[]⟩) (.slice none 0 0) (.bool false) (.string (tstr D))
        rw [hX9]
        obtain ⟨c0, c1, c2, c3, c4⟩ := tok_cells r9
        have hB9 := below_box hB3 g9 (Nat.le_refl _)
        clear d0 d1 d2 d3 d4 f0 f1 f2 f3 f4 hX9
        refine bodyPost_ret (v := .tuple #[.agg #[.int .i64 3, .string ⟨#[]⟩, .slice none 0 0, .bool false, .string (tstr D)], .int .i64 (k1 : Int)]) ?_ rfl ⟨?_, hB9⟩
        · simp [results, Tryz.f72, go_sem, c0, c1, c2, c3, c4]
        · exact RdOk.plain _ _ HU.out rfl rfl
      | false =>
        have HU := Lib.hid (show Mk.rdRaw nm.data.toList c s.data.toList = (some ⟨3, [], [], false, L⟩, k1) by rw [hHU]; unfold Mk.rawTxt; rw [hpn]; rfl)
        generalize hP : tstr L = P at sl1 hdec
        have HP := Lib.hid hP
        clear hHU hP
        go_enter Tryz.func72, Tryz.ntmps72
        go_wp2_with fail
        refine hre.mono ?_
        clear hre
        rintro e w1 ⟨rfl, hb1⟩
        clear hW1
        have hW1 := hW.below hb1 hW.lt
        have hB1 := hB.trans (hb1.mono hB.size)
        have hpl := hip w1
        rw [hpn] at hpl
        clear hdec hpn
        go_wp2_with fail
        refine hpl.mono ?_
        clear hpl
        rintro e w2 ⟨rfl, rfl⟩
        clear hW hB hb1
        obtain ⟨f0, f1, f2, f3, f4⟩ := tok_free hW1
        obtain ⟨d0, d1, d2, d3, d4⟩ := tok_cells hW1
        go_wp2_with fail
        obtain ⟨X9, hX9, r9, g9⟩ := box5 hW1 (.int .i64 3) (.string ⟨#[]⟩) (.slice none 0 0) (.bool false) (.string P)
        rw [hX9]
        obtain ⟨c0, c1, c2, c3, c4⟩ := tok_cells r9
        have hB9 := below_box hB1 g9 (Nat.le_refl _)
        clear d0 d1 d2 d3 d4 f0 f1 f2 f3 f4 hX9
        refine bodyPost_ret (v := .tuple #[.agg #[.int .i64 3, .string ⟨#[]⟩, .slice none 0 0, .bool false, .string P], .int .i64 (k1 : Int)]) ?_ rfl ⟨?_, hB9⟩
        · simp [results, Tryz.f72, go_sem, c0, c1, c2, c3, c4]
        · exact RdOk.plain _ _ HU.out rfl (by rw [HP.out]; rfl)
  | none =>
    rw [show rxi nm.data.toList s.data.toList = -1 by unfold rxi; rw [hr]] at hre
    cases c with
    | false =>
      have HU := Lib.hid (show Mk.rdRaw nm.data.toList false s.data.toList = (none, 0) by unfold Mk.rdRaw; rw [hr]; rfl)
      clear hr hsl hip hE1
      go_enter Tryz.func72, Tryz.ntmps72
      go_wp2_with fail
      refine hre.mono ?_
      clear hre
      rintro e w1 ⟨rfl, hb1⟩
      clear hW1
      have hW1 := hW.below hb1 hW.lt
      have hB1 := hB.trans (hb1.mono hB.size)
      clear hW hB hb1
      obtain ⟨f0, f1, f2, f3, f4⟩ := tok_free hW1
      obtain ⟨d0, d1, d2, d3, d4⟩ := tok_cells hW1
      go_wp2_with fail
      obtain ⟨X9, hX9, r9, g9⟩ := box5 hW1 (.int .i64 0) (.string ⟨#[]⟩) (.slice none 0 0) (.bool false) (.string ⟨#[]⟩)
      rw [hX9]
      obtain ⟨c0, c1, c2, c3, c4⟩ := tok_cells r9
      have hB9 := below_box hB1 g9 (Nat.le_refl _)
      clear d0 d1 d2 d3 d4 f0 f1 f2 f3 f4 hX9
      refine bodyPost_ret (v := .tuple #[.agg #[.int .i64 0, .string ⟨#[]⟩, .slice none 0 0, .bool false, .string ⟨#[]⟩], .int .i64 0]) ?_ rfl ⟨?_, hB9⟩
      · simp [results, Tryz.f72, go_sem, c0, c1, c2, c3, c4]
      · exact RdOk.no _ HU.out rfl
    | true =>
      have hHU := show Mk.rdRaw nm.data.toList true s.data.toList = (some ⟨3, [], [], false, Mk.rawTxt nm.data.toList s.data.toList⟩, s.size) by unfold Mk.rdRaw; rw [hr]; rfl
      have sl1 : ∀ V : World, (Instr.slice 9 (.string s) none (some (.int .i64 s.size)) none).run Tryz.prog V = .ok (.string s) V := fun V => by
        rw [run_slice_string_h (ht := Tryz.underlying9) (h0 := by omega) (h2 := by omega), Int.toNat_natCast, str_take s s.size (Nat.le_refl _), show s.data.toList.take s.size = s.data.toList from List.take_length, tstr_of]
      have hdec : ∀ W, Tab W → Calls Tryz.prog 82 #[.string s] W fun e w' => e = .returned (.string (tstr (Ent.decode s.data.toList))) ∧ Below W.heap.size W w' := fun W hW => tdecode_any s W hW hs
      clear hr hsl hE1
      cases hpn : Mk.plainName nm.data.toList with
      | true =>
        have HU := Lib.hid (show Mk.rdRaw nm.data.toList true s.data.toList = (some ⟨3, [], [], false, Ent.decode s.data.toList⟩, s.size) by rw [hHU]; unfold Mk.rawTxt; rw [hpn]; rfl)
        generalize Ent.decode s.data.toList = D at hdec HU
        clear hHU
        go_enter Tryz.func72, Tryz.ntmps72
        go_wp2_with fail
        refine hre.mono ?_
        clear hre
        rintro e w1 ⟨rfl, hb1⟩
        clear hW1
        have hW1 := hW.below hb1 hW.lt
        have hB1 := hB.trans (hb1.mono hB.size)
        have hpl := hip w1
        rw [hpn] at hpl
        have hT1 := HT0.out.below hB1
        have hd := hdec w1 hT1
        clear hdec hpn
        go_wp2_with fail
        refine hpl.mono ?_
        clear hpl
        rintro e w2 ⟨rfl, rfl⟩
        go_wp2_with fail
        refine hd.mono ?_
        clear hd
        rintro e w3 ⟨rfl, hb3⟩
        have hW3 := hW1.below hb3 hW1.lt
        have hB3 := hB1.trans (hb3.mono hB1.size)
        clear hW hB hb1 hb3 sl1 hW1 hB1
        obtain ⟨f0, f1, f2, f3, f4⟩ := tok_free hW3
        obtain ⟨d0, d1, d2, d3, d4⟩ := tok_cells hW3
        go_wp2_with fail
        obtain ⟨X9, hX9, r9, g9⟩ := box5 hW3 (.int .i64 3) (.string ⟨#[]⟩) (.slice none 0 0) (.bool false) (.string (tstr D))
        rw [hX9]
        obtain ⟨c0, c1, c2, c3, c4⟩ := tok_cells r9
        have hB9 := below_box hB3 g9 (Nat.le_refl _)
        clear d0 d1 d2 d3 d4 f0 f1 f2 f3 f4 hX9
        refine bodyPost_ret (v := .tuple #[.agg #[.int .i64 3, .string ⟨#[]⟩, .slice none 0 0, .bool false, .string (tstr D)], .int .i64 s.size]) ?_ rfl ⟨?_, hB9⟩
        · simp [results, Tryz.f72, go_sem, c0, c1, c2, c3, c4]
        · exact RdOk.plain _ _ HU.out rfl rfl
      | false =>
        have HU := Lib.hid (show Mk.rdRaw nm.data.toList true s.data.toList = (some ⟨3, [], [], false, s.data.toList⟩, s.size) by rw [hHU]; unfold Mk.rawTxt; rw [hpn]; rfl)
        clear hHU
        go_enter Tryz.func72, Tryz.ntmps72
        go_wp2_with fail
        refine hre.mono ?_
        clear hre
        rintro e w1 ⟨rfl, hb1⟩
        clear hW1
        have hW1 := hW.below hb1 hW.lt
        have hB1 := hB.trans (hb1.mono hB.size)
        have hpl := hip w1
        rw [hpn] at hpl
        clear hdec hpn
        go_wp2_with fail
        refine hpl.mono ?_
        clear hpl
        rintro e w2 ⟨rfl, rfl⟩
        clear hW hB hb1
        obtain ⟨f0, f1, f2, f3, f4⟩ := tok_free hW1
        obtain ⟨d0, d1, d2, d3, d4⟩ := tok_cells hW1
        go_wp2_with fail
        obtain ⟨X9, hX9, r9, g9⟩ := box5 hW1 (.int .i64 3) (.string ⟨#[]⟩) (.slice none 0 0) (.bool false) (.string s)
        rw [hX9]
        obtain ⟨c0, c1, c2, c3, c4⟩ := tok_cells r9
        have hB9 := below_box hB1 g9 (Nat.le_refl _)
        clear d0 d1 d2 d3 d4 f0 f1 f2 f3 f4 hX9
        refine bodyPost_ret (v := .tuple #[.agg #[.int .i64 3, .string ⟨#[]⟩, .slice none 0 0, .bool false, .string s], .int .i64 s.size]) ?_ rfl ⟨?_, hB9⟩
        · simp [results, Tryz.f72, go_sem, c0, c1, c2, c3, c4]
        · exact RdOk.plain _ _ HU.out rfl (by rw [show tstr s.data.toList = s from tstr_of s]; rfl)

end Go.Proofs.YtckmlbcpldpkpaaGreatDoor

/- The program's readStart returns what the plain text says. -/
namespace Go.Proofs.YtckmlbcpldpkpaaGreatDoor
open Go Go.RowKit
set_option linter.unusedVariables false

theorem skip_gap : ∀ (l : List UInt8) (b : Bool), Mk.skip b l = (if l.takeWhile Mk.gap = [] then b else [47].isSuffixOf (l.takeWhile Mk.gap), l.dropWhile Mk.gap) := by
  intro l
  induction l with
  | nil => intro b; rfl
  | cons c r ih =>
    intro b
    unfold Mk.skip
    by_cases hg : Mk.gap c = true
    · rw [if_pos (show (Txt.sp c || c.toNat == 47) = true from hg), ih, List.takeWhile_cons_of_pos hg, List.dropWhile_cons_of_pos hg, if_neg (List.cons_ne_nil _ _)]
      congr 1
      by_cases hr : r.takeWhile Mk.gap = []
      · rw [if_pos hr, hr]
        rw [Bool.eq_iff_iff, List.isSuffixOf_iff_suffix, beq_iff_eq]
        constructor
        · intro h
          have : c = 47 := UInt8.toNat_inj.1 h
          rw [this]; exact List.suffix_refl _
        · intro h
          have := h.eq_of_length rfl
          have : (47 : UInt8) = c := by simpa using this
          rw [← this]; rfl
      · rw [if_neg hr]
        rw [Bool.eq_iff_iff, List.isSuffixOf_iff_suffix, List.isSuffixOf_iff_suffix]
        constructor
        · intro h; exact h.trans (List.suffix_cons _ _)
        · intro h
          rcases List.suffix_cons_iff.1 h with h | h
          · have := congrArg List.length h
            simp only [List.length_cons, List.length_nil] at this
            exact absurd (List.length_eq_zero_iff.1 (show (r.takeWhile Mk.gap).length = 0 by omega)) hr
          · exact h
    · rw [if_neg (show ¬ (Txt.sp c || c.toNat == 47) = true from hg), List.takeWhile_cons_of_neg hg, List.dropWhile_cons_of_neg hg]
      rfl
theorem skip_false (l : List UInt8) : Mk.skip false l = ([47].isSuffixOf (l.takeWhile Mk.gap), l.dropWhile Mk.gap) := by
  rw [skip_gap]
  split
  · rename_i h; rw [h]; rfl
  · rfl

/-- What the loop over a tag's attributes works with. -/
structure StA (W : World) (base ba bs br bt : Nat) (s : ByteArray) (NM : List UInt8) (i : Nat) (sl : Value) (acc : List (List UInt8 × List UInt8)) : Prop where
  pos : Pos W ba bs s i
  res : Whole W br #[.int .i64 0, .string ⟨#[]⟩, .slice none 0 0, .bool false, .string ⟨#[]⟩] 30
  tok : Whole W bt #[.int .i64 1, .string (tstr NM), sl, .bool false, .string ⟨#[]⟩] 30
  row : ARow 39 W base sl acc
  len : acc.length ≤ 64
  ne : br ≠ bt
section
variable {W W' : World} {base ba bs br bt : Nat} {s : ByteArray} {NM : List UInt8} {i j : Nat} {sl sl' : Value} {acc acc' : List (List UInt8 × List UInt8)}
theorem StA.move (h : StA W base ba bs br bt s NM i sl acc) (hg : W.grownBy W' (some ba)) (hP : Pos W' ba bs s j) : StA W' base ba bs br bt s NM j sl acc :=
  ⟨hP, h.res.grown hg (fun e => (h.res.unlike h.pos.1 (by decide)) (by injection e)), h.tok.grown hg (fun e => (h.tok.unlike h.pos.1 (by decide)) (by injection e)), h.row.grown hg (.inr (h.row.apart h.pos.1 (by decide))), h.len, h.ne⟩
theorem StA.below (h : StA W base ba bs br bt s NM i sl acc) (hb : Below W.heap.size W W') : StA W' base ba bs br bt s NM i sl acc :=
  ⟨h.pos.below hb, h.res.below hb h.res.lt, h.tok.below hb h.tok.lt, h.row.below hb, h.len, h.ne⟩
theorem StA.drew (h : StA W base ba bs br bt s NM i sl acc) : StA W.drew base ba bs br bt s NM i sl acc := ⟨⟨h.pos.1.drew, h.pos.2.drew⟩, h.res.drew, h.tok.drew, h.row, h.len, h.ne⟩
theorem whole_put {b : Nat} {cs cs' : Array Value} {T : TypeId} (h : Whole W b cs T) (i : Nat) (v : Value) (he : cs.setIfInBounds i v = cs') : Whole (W.setCell ⟨b, i, none⟩ v) b cs' T := he ▸ h.put i v
/-- The row has become another one, and the token holds it. -/
theorem StA.add (h : StA W base ba bs br bt s NM i sl acc) (hg : W.grownBy W' sl.ownBlock) (hr : ARow 39 W' base sl' acc') (hl : acc'.length ≤ 64) : StA (W'.setCell ⟨bt, 2, none⟩ sl') base ba bs br bt s NM i sl' acc' := by
  have k1 := h.pos.1.grown hg (fun e => h.row.apart h.pos.1 (by decide) e.symm)
  have k2 := h.pos.2.grown hg (fun e => h.row.apart h.pos.2 (by decide) e.symm)
  have k3 := h.res.grown hg (fun e => h.row.apart h.res (by decide) e.symm)
  have k4 := h.tok.grown hg (fun e => h.row.apart h.tok (by decide) e.symm)
  exact ⟨⟨k1.other (k1.unlike k4 (by decide)) _, k2.other (k2.unlike k4 (by decide)) _⟩, k3.other h.ne _, whole_put k4 2 sl' rfl, hr.other k4 (by decide) 2 sl', hl, h.ne⟩
end
theorem rdStart_def {c : Bool} {s : ByteArray} {N : List UInt8} (h1 : 1 ≤ s.size) (hN : (s.data.toList.drop 1).takeWhile (fun c => !Mk.stopC c) = N) :
    Mk.rdStart c s.data.toList = match Mk.attrs [] (s.data.toList.drop (1 + N.length)) with
      | some (a, cl, r) => (some ⟨1, N.map Txt.lo, a, cl, []⟩, s.size - r.length)
      | none => Mk.lacks c s.data.toList := by
  have hd := dw_drop (fun c => !Mk.stopC c) (s.data.toList.drop 1)
  rw [hN, List.drop_drop] at hd
  unfold Mk.rdStart Mk.start Mk.name
  rw [hd, hN]
  cases Mk.attrs [] ((s.data.toList.drop 1).dropWhile fun c => !Mk.stopC c) with
  | none => rfl
  | some p => rfl

set_option maxRecDepth 100000 in
set_option maxHeartbeats 4000000 in
theorem kreadstart_any (s : ByteArray) (c : Bool) (w : World) (hE : Env w) (hs : s.size ≤ 20000) (h1 : 1 ≤ s.size) :
    Calls Tryz.prog 89 #[.string s, .bool c] w fun e w' => RdOk w' w.heap.size (Mk.rdStart c s.data.toList) e ∧ Below w.heap.size w w' := by
  have hsl : s.data.toList.length = s.size := rfl
  have hBs : Below w.heap.size w (w.alloc (.cells #[.string s] 9)) := (Below.refl _ _).alloc (Nat.le_refl _) _
  have hS1 : Whole (w.alloc (.cells #[.string s] 9)) w.heap.size #[.string s] 9 := Whole.new _ _ _
  have hR1 := Whole.new (w.alloc (.cells #[.string s] 9)) #[.int .i64 0, .string ⟨#[]⟩, .slice none 0 0, .bool false, .string ⟨#[]⟩] 30
  have hBr := hBs.alloc (by simp) (.cells #[.int .i64 0, .string ⟨#[]⟩, .slice none 0 0, .bool false, .string ⟨#[]⟩] 30)
  have hS2 := hS1.alloc (.cells #[.int .i64 0, .string ⟨#[]⟩, .slice none 0 0, .bool false, .string ⟨#[]⟩] 30)
  have hA3 := Whole.new ((w.alloc (.cells #[.string s] 9)).alloc (.cells #[.int .i64 0, .string ⟨#[]⟩, .slice none 0 0, .bool false, .string ⟨#[]⟩] 30)) #[.int .i64 1] 3
  have hB3 := hBr.alloc (by simp; omega) (.cells #[.int .i64 1] 3)
  have hS3 := hS2.alloc (.cells #[.int .i64 1] 3)
  have hR3 := hR1.alloc (.cells #[.int .i64 1] 3)
  rw [World.size_alloc] at hR3 hA3
  rw [World.size_alloc] at hA3
  generalize hW3 : ((w.alloc (.cells #[.string s] 9)).alloc (.cells #[.int .i64 0, .string ⟨#[]⟩, .slice none 0 0, .bool false, .string ⟨#[]⟩] 30)).alloc (.cells #[.int .i64 1] 3) = W3 at hS3 hR3 hA3 hB3
  have hP3 : Pos W3 (w.heap.size + 1 + 1) w.heap.size s 1 := ⟨hA3, hS3⟩
  have hk := kskip_all ent_tag asks_tag hs hP3 (fun _ _ => trivial) h1
  obtain ⟨N, hN⟩ : ∃ N, (s.data.toList.drop 1).takeWhile (fun c => !Mk.stopC c) = N := ⟨_, rfl⟩
  have hNl : N.length ≤ s.size - 1 := by
    have := tw_len (fun c => !Mk.stopC c) (s.data.toList.drop 1)
    rw [hN, List.length_drop, hsl] at this
    exact this
  rw [hN] at hk
  have HU := Lib.hid (rdStart_def (c := c) h1 hN)
  have HE := Lib.hid hE
  clear hBs hS1 hR1 hBr hS2 hA3 hS3 hN hsl hE
  go_enter Tryz.func89, Tryz.ntmps89
  go_wp2_with fail
  refine hk.mono ?_
  clear hk
  rintro e w4 ⟨rfl, hP4, hg4⟩
  clear hW3
  have hR4 := hR3.grown hg4 (fun e => (hR3.unlike hP3.1 (by decide)) (by injection e))
  have hB4 := hB3.grown hg4 hB3.size (fun j hj => by injection hj; omega)
  have hlow := tlower_any (tstr N) w4 (by rw [tstr_size]; omega)
  rw [tstr_data] at hlow
  obtain ⟨A, hA⟩ : ∃ A, N.map Txt.lo = A := ⟨_, rfl⟩
  rw [hA] at HU hlow
  clear hg4 hP3 hR3 hB3 hA
  go_wp2_with fail
  refine hlow.mono ?_
  clear hlow
  rintro e w5 ⟨rfl, hb5⟩
  have hP5 := hP4.below hb5
  have hR5 := hR4.below hb5 hR4.lt
  have hB5 := hB4.trans (hb5.mono hB4.size)
  have hst : StA (w5.alloc (.cells #[.int .i64 1, .string (tstr A), .slice none 0 0, .bool false, .string ⟨#[]⟩] 30)) w.heap.size (w.heap.size + 1 + 1) w.heap.size (w.heap.size + 1) w5.heap.size s A (1 + N.length) (.slice none 0 0) [] :=
    ⟨hP5.alloc _, hR5.alloc _, Whole.new _ _ _, ARow.nil _ _ _, Nat.zero_le _, by have := hR5.lt; omega⟩
  have hB6 := hB5.alloc hB5.size (.cells #[.int .i64 1, .string (tstr A), .slice none 0 0, .bool false, .string ⟨#[]⟩] 30)
  have hlt5 := hR5.lt
  have HST := Lib.hid (And.intro hst hB6)
  clear hP4 hR4 hB4 hb5 hP5 hR5 hB5 hst hB6
  go_wp2_with fail
  go_loopg [] (s.size - (1 + N.length)) (fun gg wr => ∃ (i : Nat) (sl : Value) (acc : List (List UInt8 × List UInt8)), i ≤ s.size ∧ s.size - i ≤ gg ∧ StA wr w.heap.size (w.heap.size + 1 + 1) w.heap.size (w.heap.size + 1) w5.heap.size s A i sl acc ∧ Below w.heap.size w wr ∧ Mk.attrs [] (s.data.toList.drop (1 + N.length)) = Mk.attrs acc (s.data.toList.drop i))
  case atStart => exact ⟨1 + N.length, .slice none 0 0, [], by omega, Nat.le_refl _, HST.out.1, HST.out.2, rfl⟩
  case round =>
    obtain ⟨i, sl, acc, hi, hgg, hst, hB, hat⟩ := hrel
    clear HST
    have hdw := dw_drop Mk.gap (s.data.toList.drop i)
    rw [List.drop_drop] at hdw
    have hsk := skip_false (s.data.toList.drop i)
    have hGl := tw_len Mk.gap (s.data.toList.drop i)
    rw [List.length_drop, show s.data.toList.length = s.size from rfl] at hGl
    have hk := kskip_all ent_gap asks_gap hs hst.pos (fun _ _ => trivial) hi
    obtain ⟨G, hG⟩ : ∃ G, (s.data.toList.drop i).takeWhile Mk.gap = G := ⟨_, rfl⟩
    have hend : ∀ c r, s.data.toList.drop (i + G.length) = c :: r → Mk.gap c = false := fun c r h => by
      rw [← hG, ← List.drop_drop] at h
      exact tw_end h
    rw [hG] at hdw hsk hGl hk
    rw [← hdw] at hsk
    have had := Mk.attrs_def acc (s.data.toList.drop i)
    rw [hsk] at had
    simp only at had
    rw [had] at hat
    obtain ⟨i1, hi1⟩ : ∃ i1, i + G.length = i1 := ⟨_, rfl⟩
    rw [hi1] at hat hk hend
    have hii : i ≤ i1 := by omega
    have hi1s : i1 ≤ s.size := by omega
    have hGs : G.length ≤ 20000 := by omega
    have HAT := Lib.hid hat
    have HEND := Lib.hid hend
    clear hdw hsk hGl hG hend had hat hi1
    go_wp2_with fail
    refine hk.mono ?_
    clear hk
    rintro e w6 ⟨rfl, hP6, hg6⟩
    have hst6 := hst.move hg6 hP6
    have hB6 := hB.grown hg6 hB.size (fun j hj => by injection hj; omega)
    have ca : w6.cell? ⟨w.heap.size + 1 + 1, 0, none⟩ = some (.int .i64 i1) := hst6.pos.1.cell 0
    have cs : w6.cell? ⟨w.heap.size, 0, none⟩ = some (.string s) := hst6.pos.2.cell 0
    have hE6 := HE.out.below hB6
    clear hst hB hg6 hP6
    by_cases hlast : i1 = s.size
    · have heq : ((i1 : Int) == (s.size : Int)) = true := by rw [hlast]; simp
      have hl := klacks_any s c w6 hs
      have HR := Lib.hid (show Mk.rdStart c s.data.toList = (none, (Mk.lacks c s.data.toList).2) by
        rw [HU.out, HAT.out, drop_end s i1 (by omega)]; rfl)
      generalize (Mk.lacks c s.data.toList).2 = n at hl HR
      have H6 := Lib.hid hst6
      clear hst6 hlast hE6
      go_wp2_with fail
      refine hl.mono ?_
      clear hl
      rintro e w7 ⟨rfl, hb7⟩
      have hst7 := H6.out.below hb7
      have hB7 := hB6.trans (hb7.mono hB6.size)
      have hW7 := hst7.res
      clear hst7 hb7 hB6 ca cs
      obtain ⟨f0, f1, f2, f3, f4⟩ := tok_free hW7
      obtain ⟨d0, d1, d2, d3, d4⟩ := tok_cells hW7
      go_wp2_with fail
      obtain ⟨X9, hX9, r9, g9⟩ := box5 hW7 (.int .i64 0) (.string ⟨#[]⟩) (.slice none 0 0) (.bool false) (.string ⟨#[]⟩)
      rw [hX9]
      obtain ⟨c0, c1, c2, c3, c4⟩ := tok_cells r9
      have hB9 := below_box hB7 g9 (by omega)
      clear d0 d1 d2 d3 d4 f0 f1 f2 f3 f4 hX9
      refine bodyPost_ret (v := .tuple #[.agg #[.int .i64 0, .string ⟨#[]⟩, .slice none 0 0, .bool false, .string ⟨#[]⟩], .int .i64 n]) ?_ rfl ⟨?_, hB9⟩
      · simp [results, Tryz.f89, go_sem, c0, c1, c2, c3, c4]
      · exact RdOk.no _ HR.out rfl
    · have heq : ((i1 : Int) == (s.size : Int)) = false := by rw [beq_eq_false_iff_ne]; omega
      have hlt : i1 < s.size := by omega
      have hlt' : (i1 : Int) < (s.size : Int) := by omega
      have hd1 := drop_get s i1 hlt
      by_cases h62 : s[i1].toNat = 62
      · have t62 : ((s[i1].toNat : Int) == 62) = true := by rw [h62]; rfl
        have HR := Lib.hid (show Mk.rdStart c s.data.toList = (some ⟨1, A, acc, [47].isSuffixOf G, []⟩, i1 + 1) by
          rw [HU.out, HAT.out, hd1]
          simp only
          rw [if_pos h62]
          simp only [List.length_drop, show s.data.toList.length = s.size from rfl]
          rw [show s.size - (s.size - (i1 + 1)) = i1 + 1 from by omega])
        have hsf := fun W => Tryz.hasSuffix (tstr G) ⟨#[47]⟩ W (by rw [tstr_size]; omega)
        simp only [tstr_data, show Lib.hasSuffix G [47] = [47].isSuffixOf G from rfl] at hsf
        generalize [47].isSuffixOf G = B at hsf HR
        have hT6 := hst6.tok
        obtain ⟨f0, f1, f2, f3, f4⟩ := tok_free hT6
        obtain ⟨d0, d1, d2, d3, d4⟩ := tok_cells hT6
        have H6 := Lib.hid hst6
        clear hd1 h62 hlast hE6 hst6 hT6
        go_wp2_with fail
        refine (hsf w6).mono ?_
        clear hsf
        rintro e w7 ⟨rfl, rfl⟩
        go_wp2_with fail
        have t8 := whole_put H6.out.tok 3 (.bool B) rfl
        have r8 := H6.out.res.other (a := ⟨w5.heap.size, 3, none⟩) H6.out.ne (.bool B)
        have p8 := H6.out.pos.1.other (a := ⟨w5.heap.size, 3, none⟩) (H6.out.pos.1.unlike H6.out.tok (by decide)) (.bool B)
        have a8 := H6.out.row.other H6.out.tok (by decide) 3 (.bool B)
        have g8 : w7.grownBy (w7.setCell ⟨w5.heap.size, 3, none⟩ (.bool B)) (some w5.heap.size) := gb_put (gb_of_below (Below.refl _ _) _) 3 _
        have hB8 := hB6.grown g8 hB6.size (fun j hj => by injection hj; omega)
        clear ca cs d0 d1 d2 d3 d4 f0 f1 f2 f3 f4 g8
        generalize w7.setCell ⟨w5.heap.size, 3, none⟩ (.bool B) = W8 at t8 r8 p8 a8 hB8 ⊢
        obtain ⟨A9, cp9, rfl⟩ := a8.form
        have hA8 := Lib.hid a8
        have ca8 : W8.cell? ⟨w.heap.size + 1 + 1, 0, none⟩ = some (.int .i64 i1) := p8.cell 0
        obtain ⟨d0, d1, d2, d3, d4⟩ := tok_cells t8
        obtain ⟨e0, e1, e2, e3, e4⟩ := tok_cells r8
        obtain ⟨f0, f1, f2, f3, f4⟩ := tok_free r8
        go_region
        clear d0 d1 d2 d3 d4 e0 e1 e2 e3 e4 f0 f1 f2 f3 f4
        obtain ⟨X9, hX9, r9, g9⟩ := box5 r8 (.int .i64 1) (.string (tstr A)) (.slice A9 acc.length cp9) (.bool B) (.string ⟨#[]⟩)
        first | rw [hX9] | (obtain ⟨X9, hX9, r9, g9⟩ := box5 (r8.drew) (.int .i64 1) (.string (tstr A)) (.slice A9 acc.length cp9) (.bool B) (.string ⟨#[]⟩); rw [hX9])
        have hB9 := below_box hB8 g9 (by omega)
        have hA9 := hA8.out.grown g9 (.inr (hA8.out.apart r8 (by decide)))
        have hB9 : Below w.heap.size w X9.drew := ⟨hB9.os, hB9.tape, hB9.output, hB9.size, hB9.block⟩
        have hA9 : ARow 39 X9.drew w.heap.size (.slice A9 acc.length cp9) acc := hA9
        have r9 := r9.drew
        obtain ⟨c0, c1, c2, c3, c4⟩ := tok_cells r9
        clear hX9
        go_wp2_with fail
        refine bodyPost_ret (v := .tuple #[.agg #[.int .i64 1, .string (tstr A), .slice A9 acc.length cp9, .bool B, .string ⟨#[]⟩], .int .i64 ((i1 : Int) + 1)]) ?_ rfl ⟨?_, hB9⟩
        · simp [results, Tryz.f89, go_sem, c0, c1, c2, c3, c4]
        · rw [HR.out]
          exact RdOk.mk _ (i1 + 1) _ rfl hA9 (by rw [show ((i1 + 1 : Nat) : Int) = (i1 : Int) + 1 from by omega]; rfl)
      · have t62 : ((s[i1].toNat : Int) == 62) = false := by rw [beq_eq_false_iff_ne]; omega
        have hstop : Mk.stopC s[i1] = false := by
          have hg := HEND.out _ _ hd1
          unfold Mk.stopC
          unfold Mk.gap at hg
          rw [hg, beq_eq_false_iff_ne.2 h62]; rfl
        have hB6d : Below w.heap.size w w6.drew := ⟨hB6.os, hB6.tape, hB6.output, hB6.size, hB6.block⟩
        have hra := kreadattr_any (w.heap.size + 1 + 1) w.heap.size s i1 w6.drew hs hlt hst6.drew.pos hstop (fun w' hg => HE.out.below (hB6d.grown hg hB6d.size (fun j hj => by injection hj; omega)))
        unfold skipF at hra
        obtain ⟨A6, cp6, rfl⟩ := hst6.row.form
        have s6 : w6.cell? ⟨w5.heap.size, 2, none⟩ = some (.slice A6 acc.length cp6) := hst6.tok.cell 2
        have hnext : ∀ (nm v : List UInt8) (j : Nat) (w7 : World), AttAt s i1 j nm v → Pos w7 (w.heap.size + 1 + 1) w.heap.size s j → w6.drew.grownBy w7 (some (w.heap.size + 1 + 1)) →
            StA w7 w.heap.size (w.heap.size + 1 + 1) w.heap.size (w.heap.size + 1) w5.heap.size s A j (.slice A6 acc.length cp6) acc ∧ Below w.heap.size w w7 ∧ w7.cell? ⟨w5.heap.size, 2, none⟩ = some (.slice A6 acc.length cp6) ∧ w.heap.size ≤ w7.heap.size ∧ i1 < j ∧ j ≤ s.size ∧ Mk.attrs [] (s.data.toList.drop (1 + N.length)) = Mk.attrs (Mk.addA acc nm v) (s.data.toList.drop j) := fun nm v j w7 hA hP hg => by
          have hst7 := hst6.drew.move hg hP
          have hB7 := hB6d.grown hg hB6d.size (fun j hj => by injection hj; omega)
          refine ⟨hst7, hB7, hst7.tok.cell 2, hB7.size, hA.1, hA.2.1, ?_⟩
          rw [HAT.out]
          have h3 := hA.2.2
          rw [hd1] at h3 ⊢
          simp only
          rw [if_neg h62]
          cases hm : Mk.attr (s[i1] :: s.data.toList.drop (i1 + 1)) with
          | none =>
            rw [hm] at h3
            rw [drop_end s j (by omega), Mk.attrs_nil]
          | some p =>
            rw [hm] at h3
            obtain ⟨rfl, rfl, h4⟩ := h3
            rw [h4]
        have hafter : ∀ (nm v : List UInt8) (j : Nat) (w7 w8 : World) (sl' : Value), StA w7 w.heap.size (w.heap.size + 1 + 1) w.heap.size (w.heap.size + 1) w5.heap.size s A j (.slice A6 acc.length cp6) acc → Below w.heap.size w w7 → ARow 39 w8 w.heap.size sl' (Mk.addA acc nm v) → w7.grownBy w8 (Value.slice A6 acc.length cp6).ownBlock →
            StA (w8.setCell ⟨w5.heap.size, 2, none⟩ sl') w.heap.size (w.heap.size + 1 + 1) w.heap.size (w.heap.size + 1) w5.heap.size s A j sl' (Mk.addA acc nm v) ∧ Below w.heap.size w (w8.setCell ⟨w5.heap.size, 2, none⟩ sl') ∧ w8.cell? ⟨w5.heap.size, 2, none⟩ = some (.slice A6 acc.length cp6) ∧ w8.frozen? ⟨w5.heap.size, 2, none⟩ = false := fun nm v j w7 w8 sl' h7 hB7 hr hg => by
          have k4 := h7.tok.grown hg (fun e => h7.row.apart h7.tok (by decide) e.symm)
          have hB8 := hB7.grown hg hB7.size (fun j hj => (World.ownsRow.lt h7.row j hj).1)
          have g9 : w8.grownBy (w8.setCell ⟨w5.heap.size, 2, none⟩ sl') (some w5.heap.size) := gb_put (gb_of_below (Below.refl _ _) _) 2 _
          exact ⟨h7.add hg hr (Mk.addA_len _ _ _ h7.len), hB8.grown g9 hB8.size (fun j hj => by injection hj; omega), k4.cell 2, k4.free 2⟩
        have hacc := hst6.len
        have HN := Lib.hid (And.intro hnext hafter)
        have HRA := Lib.hid hra
        clear hd1 h62 hlast hE6 hst6 hstop hnext hafter hra hB6d
        go_wp2_with fail
        go_region_with (first
          | (go_at_call 110; refine HRA.out.mono ?_; rintro e w7 ⟨nm, v, j, rfl, hA7, hP7, hg7⟩; obtain ⟨h7, hB7, s7, z7, x7, y7, q7⟩ := HN.out.1 nm v j w7 hA7 hP7 hg7; have H7 := Lib.hid h7; have Q7 := Lib.hid q7; clear hA7 hP7 hg7 h7 q7)
          | (go_at_call 109; refine (kaddattr_any nm v w.heap.size (.slice A6 acc.length cp6) acc w7 hacc H7.out.row z7).mono ?_; rintro e w8 ⟨sl', rfl, hr8, hg8⟩; obtain ⟨A8, cp8, rfl⟩ := hr8.form; obtain ⟨h9, hB9, s8, f8⟩ := HN.out.2 nm v j w7 w8 _ H7.out hB7 hr8 hg8; have H9 := Lib.hid h9; clear hr8 hg8 h9))
        all_goals
          go_wp2_with fail
          go_roundg (s.size - j)
          case rel => exact ⟨j, _, Mk.addA acc nm v, y7, Nat.le_refl _, H9.out, hB9, Q7.out⟩
          case measure => omega

end Go.Proofs.YtckmlbcpldpkpaaGreatDoor
