/- For every slice of strings and every slice of bytes, of bulk at most the bound together, the statement CodecStrings returns true: the strings written behind the bytes are those of the reference, and reading gives them back; the arguments read as before. -/
import Derived.Test.YtjpcnnofjfmkeaaRows
import Derived.Test.YtjpcnnofjfmkeaaStrWalk
import Derived.SliceStrings
import Derived.JoinedCond
import Derived.SizedLaws
import Derived.ChangeOld
import Derived.Below
import Derived.WalkKit
import Derived.ProofKit
import Derived.OpenShut
import Derived.ShutString
namespace Go.Proofs.Ytjpcnnofjfmkeaa.codecStrings
open Go.ChangeShapes Go.WideShapes Go.ChangeAt Go.RowKit
open Go.ChangeMaps (open_string shut_string)
set_option linter.unusedVariables false

theorem own : ownKnob Try.prog.godebug = none := by kernel_rfl
theorem laidOut : laidOutB Try.prog = true := by kernel_rfl

/-! What the bound gives. -/
theorem bulk_strs {H : Type} (l : List ByteArray) : Rows.uptoBulkAll (strs (H := H) l) = sizes l + l.length := by
  induction l with
  | nil => simp [strs, sizes, Rows.uptoBulkAll]
  | cons s l ih =>
    have e : strs (H := H) (s :: l) = .lit (.string s.data.toList) :: strs l := rfl
    have e2 : s.data.toList.length = s.size := rfl
    rw [e, Rows.uptoBulkAll, ih, Rows.uptoBulk, e2, sizes, List.length_cons]; omega
theorem bulk_ints {H : Type} (l : List Int) : Rows.uptoBulkAll (lits (H := H) .u8 l) = l.length := by
  induction l with
  | nil => simp [lits, Rows.uptoBulkAll]
  | cons n l ih =>
    have e : lits (H := H) .u8 (n :: l) = .lit (.int .u8 n) :: lits .u8 l := rfl
    rw [e, Rows.uptoBulkAll, ih, Rows.uptoBulk, List.length_cons]
    · omega
    · intro b h; cases h
theorem bound {H : Type} {l : List (DataW H)} (hk : Rows.uptoSmall H l = true) : Rows.uptoBulkAll l ≤ 1048576 := of_decide_eq_true hk

/-! The two arguments. -/
theorem add_spot {x : Addr} {w : World} {v : Value} (h : w.cell? (x.add 0) = some v) : ∃ b o, x = ⟨b, o, none⟩ ∧ b < w.heap.size ∧ ∀ i, x.add i = ⟨b, o + i, none⟩ := by
  obtain ⟨b, o, sp⟩ := x
  have hsp : sp = none := by simpa [Addr.add] using World.cell?_spot h
  subst hsp
  refine ⟨b, o, rfl, World.block_lt_of_cell? w _ (by simpa [Addr.add] using h), fun i => ?_⟩
  unfold Addr.add; split <;> simp_all
theorem strs_of {w : World} {x : Addr} {ss : List ByteArray} {len : Nat} (hl : len ≤ ss.length) (hc : ∀ i, i < ss.length → w.cell? (x.add i) = some (.string (ss.getD i ByteArray.empty))) : Strs w (some x) (ss.take len) := by
  intro i hi
  have hil : i < len := by rw [List.length_take] at hi; omega
  obtain ⟨b, o, rfl, hb, ha⟩ := add_spot (hc 0 (by omega))
  have hci := hc i (by omega)
  rw [ha] at hci
  refine ⟨b, o, rfl, hb, ?_⟩
  rw [hci]
  simp [List.getD, hil]
def byte (n : Int) : UInt8 := UInt8.ofNat n.toNat
theorem byte_num {n : Int} (h : (Lit.int .u8 n).wf = true) : ((byte n).toNat : Int) = n := by
  have : 0 ≤ n ∧ n ≤ 255 := by simpa [Lit.wf, IntKind.min, IntKind.max, IntKind.bits, IntKind.signed] using h
  unfold byte
  rw [UInt8.toNat_ofNat']
  omega
theorem bytes_of {w : World} {a : Option Addr} {len cap : Nat} {zs : List Int} (h : IsRow .u8 w a len cap zs) : Bytes w a cap ((zs.take len).map byte) ∧ ((zs.take len).map byte).length = len := by
  refine ⟨?_, by rw [List.length_map, h.length]⟩
  have hw := h.wf
  rcases h with ⟨rfl, rfl, rfl, rfl⟩ | ⟨x, rfl, hl, hm, hz, hc, _⟩
  · exact .inl ⟨rfl, rfl, rfl⟩
  · refine .inr ⟨x, rfl, fun j u hu => ?_⟩
    have hj : j < len := by
      have := (List.getElem?_eq_some_iff.1 hu).1
      simp [bcells] at this; omega
    have hjz : j < zs.length := by omega
    have hu' : u = .int .u8 (zs.getD j 0) := by
      have hb := byte_num (hw zs[j] (by rw [List.mem_iff_getElem?]; exact ⟨j, by simp [hj, hjz]⟩))
      simp [bcells, hj, hjz] at hu
      rw [← hu, hb]
      simp [List.getD, hjz]
    rw [hu']
    exact hc j hjz

/-! The step from the walk to the row. -/
set_option maxRecDepth 100000 in
theorem contract (H : Type) (enc : TypeId × Value → H) (W : World) (base : Nat) (args : Array Value) (ds gs : List (DataW H)) (before : List MemPlace)
    (hval : ∀ (j : Nat) t v, Try.f4.params[j]? = some t → args[j]? = some v → Value.okWide Try.prog W .any base t v)
    (hW : DataW.Whole enc Try.prog Try.f4.params.toList Rows.codecStringsSpec.vars false W args.toList ds gs before) (hk : Rows.uptoSmall H (ds ++ gs) = true) :
    Calls Try.prog 4 args W fun e W' => ∃ v, e = .returned v ∧ Rows.codecStringsSpec.post enc Try.prog Try.f4 false true false false W args v W' := by
  have hW' := hW
  obtain ⟨p, q, hA0, hV, rfl, hfz, hnd⟩ := hW
  have hA : DataW.TrodAll enc Try.prog W 0 (fun _ => true) true Try.f4.params.toList args.toList ds p := hA0
  rw [Try.params4] at hA hval
  obtain ⟨v0, vs0, d0, ds0, p0, q0, hargs, rfl, rfl, h0, r0⟩ := trodAll_cons hA
  obtain ⟨v1, vs1, d1, ds1, p1, q1, rfl, rfl, rfl, h1, r1⟩ := trodAll_cons r0
  obtain ⟨rfl, rfl, rfl⟩ := trodAll_nil r1
  obtain rfl : args = #[v0, v1] := by cases args; simp_all
  obtain ⟨rfl, rfl⟩ := trodVars_none hV
  obtain ⟨a0, len0, cap0, rfl⟩ := okWide_slice Try.underlying43 (hval 0 43 v0 rfl rfl)
  obtain ⟨a1, len1, cap1, rfl⟩ := okWide_slice Try.underlying26 (hval 1 26 v1 rfl rfl)
  have k0 := h0
  have k1 := h1
  have lt0 : ∀ x ∈ p0, x.block < W.heap.size := by obtain ⟨m, hm⟩ := k0; exact DataW.trod_lt m _ _ _ hm
  have lt1 : ∀ x ∈ p1, x.block < W.heap.size := by obtain ⟨m, hm⟩ := k1; exact DataW.trod_lt m _ _ _ hm
  have hbulk := bound hk
  simp only [List.append_nil, Rows.uptoBulkAll] at hbulk
  obtain ⟨ss, w0, hsl, hsz⟩ : ∃ ss : List ByteArray, Strs W a0 ss ∧ ss.length = len0 ∧ sizes ss + ss.length ≤ Rows.uptoBulk d0 := by
    obtain ⟨fuel, hf⟩ := h0
    rcases open_strings Try.underlying43 Try.underlying9 (by kernel_rfl) hf with ⟨hcs, _⟩ | ⟨x, l, c, ss, hcs, _, hl, hm, hz, hx, hcell, _⟩
    · simp [Value.cells] at hcs
      obtain ⟨rfl, rfl, rfl⟩ := hcs
      exact ⟨[], fun i hi => by simp at hi, rfl, by simp [sizes]⟩
    · simp [Value.cells] at hcs
      obtain ⟨rfl, rfl, rfl⟩ := hcs
      injection hx with hx _
      have hzc : ss.length = cap0 := by simpa using hz
      refine ⟨ss.take len0, strs_of (by omega) hcell, by rw [List.length_take]; omega, ?_⟩
      rw [hx, Rows.uptoBulk, bulk_strs]; omega
  obtain ⟨z1, w1, hz1⟩ : ∃ zs, IsRow .u8 W a1 len1 cap1 zs ∧ len1 ≤ Rows.uptoBulk d1 := by
    obtain ⟨fuel, hf⟩ := h1
    rcases open_ints Try.underlying26 Try.underlying5 (by kernel_rfl) hf with ⟨hcs, _⟩ | ⟨x, l, c, zs, hcs, _, hl, hm, hz, hx, hcell, hwz⟩
    · simp [Value.cells] at hcs
      obtain ⟨rfl, rfl, rfl⟩ := hcs
      exact ⟨[], .inl ⟨rfl, rfl, rfl, rfl⟩, Nat.zero_le _⟩
    · simp [Value.cells] at hcs
      obtain ⟨rfl, rfl, rfl⟩ := hcs
      injection hx with hx _
      have hzc : zs.length = cap1 := by simpa using hz
      refine ⟨zs, .inr ⟨_, rfl, hl, hm, hzc, hcell, hwz⟩, ?_⟩
      rw [hx, Rows.uptoBulk, bulk_ints, List.length_take]; omega
  clear hA0
  simp only [List.append_nil] at hW'
  obtain ⟨hB, hBl⟩ := bytes_of w1
  have hwalk := strings_walk a0 cap0 ss a1 cap1 _ W w0 hB (by omega) (by omega) (by omega)
  rw [hsl, hBl] at hwalk
  refine hwalk.mono fun e W' ⟨he, bel⟩ => ?_
  subst he
  exact ⟨_, rfl, _, _, _, [], _, [], hW', trodAll_mk1 (shut_bool Try.underlying4 _), (trodAll_cons_mk (Below.trod laidOut (by kernel_rfl) (of_decide_eq_true (by kernel_rfl)) k0 bel lt0) (trodAll_cons_mk (Below.trod laidOut (by kernel_rfl) (of_decide_eq_true (by kernel_rfl)) k1 bel lt1) trodAll_mk0)), rfl, bel.frame _, fun h => by cases h⟩

set_option maxRecDepth 100000 in
theorem lifted (os : Os) (started : os.Started) (H : Type) (enc : TypeId × Value → H) (F : Stop.Interp) :
    ReturnsInHanded {} Try.checked os 4 .any ((Rows.OpenSpec.upto Rows.codecStringsSpec).pre6 enc Try.prog Try.f4 Rows.codecStringsUptoRow.domain false) (((Rows.OpenSpec.upto Rows.codecStringsSpec).at F).post enc Try.prog Try.f4 false true false false) := by
  refine returnsInHanded_of_cond (C := Try.checked) (s := Rows.OpenSpec.upto Rows.codecStringsSpec) (k := Rows.uptoSmall) rfl own started (by kernel_rfl) Try.func4
    (OpenSpec.witness (enc := enc) (C := Try.checked) (s := Rows.OpenSpec.upto Rows.codecStringsSpec) (k := Rows.uptoSmall) rfl false ⟨#[], #[.slice none 0 0, .slice none 0 0], []⟩ 8 (by kernel_rfl) (by kernel_rfl) (by kernel_rfl)
      (x := ([.nil, .nil], [], [])) (by kernel_rfl) rfl (by kernel_rfl)) ?_
  intro W base args ds gs before hval hW _ hk _
  exact contract H enc W base args ds gs before hval hW hk

/-- The statement, where what comes in is small. -/
theorem proved : Rows.CodecStringsUptoSaid :=
  OpenClaim.holds_of_cond 4 Try.f4 rfl rfl rfl rfl rfl rfl rfl ⟨rfl, rfl, rfl, rfl, rfl⟩ rfl rfl rfl rfl rfl (by kernel_rfl) Try.func4 (by kernel_rfl)
    (of_decide_eq_true (by kernel_rfl)) (by unfold Func.isWrapper; first | (rw [if_pos (by decide +kernel)]; kernel_rfl) | (rw [if_neg (by decide +kernel)]; exact ⟨rfl, rfl⟩))
    (fun os started H enc _ F => lifted os started H enc F)
end Go.Proofs.Ytjpcnnofjfmkeaa.codecStrings
