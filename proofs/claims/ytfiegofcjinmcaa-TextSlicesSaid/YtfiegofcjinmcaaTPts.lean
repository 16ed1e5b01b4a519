/- The reference's Points, Code and Join return what the plain texts say. -/
import Derived.Test.YtfiegofcjinmcaaTRep
import Derived.Lib.MinMax
namespace Go.Proofs.Ytfiegofcjinmcaa
open Go.RowKit

theorem strInfo : (Try.prog.info? 9).map (fun i => (i.zero, i.size, i.bytes)) = some (some (.string ByteArray.empty), 1, 16) := by kernel_rfl

/-- Strings as the cells of a row. -/
def scells (l : List (List UInt8)) : List Value := l.map fun c => .string (tstr c)
theorem scells_append (l m : List (List UInt8)) : scells (l ++ m) = scells l ++ scells m := by simp [scells]
theorem scells_length (l : List (List UInt8)) : (scells l).length = l.length := by simp [scells]

theorem flat_len {cs : List (List UInt8)} (h : ∀ c ∈ cs, Txt.Good c) : cs.length ≤ cs.flatten.length := by
  induction cs with
  | nil => simp
  | cons c cs ih =>
    have h1 := (h c List.mem_cons_self).four_at_most
    have h2 := ih (fun c' hc => h c' (List.mem_cons_of_mem _ hc))
    simp only [List.length_cons, List.flatten_cons, List.length_append]; omega

set_option maxRecDepth 100000 in
set_option maxHeartbeats 400000 in
theorem rpoints_any (s : ByteArray) (cs : List (List UInt8)) (w : World) (hs : s.size ≤ 10000) (hg : ∀ c ∈ cs, Txt.Good c) (hc : s.data.toList = cs.flatten) :
    Calls Try.prog 8 #[.string s] w fun e w' => ∃ v, e = .returned v ∧ w'.ownsRow w.heap.size 9 1 v cs.length (scells cs) ∧ Below w.heap.size w w' := by
  obtain ⟨i0, hi, hz0, hz1, hz2⟩ := info_parts strInfo
  have hfl := flat_len hg
  rw [← hc] at hfl
  have hll : s.data.toList.length = s.size := rfl
  rw [hll] at hfl
  go_enter Try.func8, Try.ntmps8
  go_wp2_with fail
  go_loopw [3, 4] (fun v i wr => ∃ (k : Nat) (d r : List (List UInt8)), cs = d ++ r ∧ k = d.flatten.length ∧ i = .int .i64 k ∧ wr.ownsRow w.heap.size 9 1 v d.length (scells d) ∧ Below w.heap.size w wr) (fun _ i _ => s.size - (intOf i).toNat)
  case atStart => exact ⟨0, [], cs, rfl, rfl, rfl, World.ownsRow_nil _ _ _ _, Below.refl _ _⟩
  case round =>
    obtain ⟨k, d, r, hcs, hk, rfl, hown, hbel⟩ := hrel
    obtain ⟨A, cp, rfl⟩ := own_form hown
    have hdl : d.length ≤ 10000 := by have := congrArg List.length hcs; rw [List.length_append] at this; omega
    have hkl : k ≤ s.size := by
      have := congrArg List.length hc
      rw [hcs, List.flatten_append, List.length_append, hll] at this
      omega
    have hdrop : s.data.toList.drop k = r.flatten := by rw [hc, hcs, List.flatten_append, hk, List.drop_left]
    cases r with
    | cons c r =>
      have hgc : Txt.Good c := hg c (by rw [hcs]; simp)
      have hb := Txt.Begins.other hgc r.flatten
      rw [List.take_length, ← List.flatten_cons, ← hdrop] at hb
      have hsz := Txt.size_begins hb
      have hn4 := hgc.four_at_most
      have hle := hb.le
      rw [List.length_drop, hll] at hle
      obtain ⟨n, hn⟩ : ∃ n, c.length = n := ⟨_, rfl⟩
      rw [hn] at hsz hn4 hle
      have hex : s.extract k (k + n) = tstr c := by
        rw [← tstr_of (s.extract k (k + n)), textract, hdrop, List.flatten_cons, ← hn, List.take_left]
      have hsl : ∀ W : World, (Instr.slice 9 (.string s) (some (.int .i64 k)) (some (.int .i64 ((k : Int) + n))) none).run Try.prog W = .ok (.string (tstr c)) W := fun W => by
        rw [run_slice_string W _ s _ _ _ _ Try.underlying9 (by omega) (by omega) (by omega), ← hex]; rfl
      have hmx : max (n : Int) 1 = n := by omega
      have HS := Lib.hid hsz
      have HC := Lib.hid hcs
      have HK := Lib.hid hk
      have HN := Lib.hid hn
      have hkb : k < s.size := by omega
      clear hsz hcs hb hex hdrop hk hn
      go_wp2_with fail
      refine (size_any s k wr (by omega) (by omega)).mono ?_
      rintro e w2 ⟨rfl, rfl⟩
      rw [HS.out]
      go_wp2_with (at_builtin; refine wpList_append_own _ rfl (.tmp 14) (.tmp 21) 23 rfl w.heap.size 9 i0 (.string ByteArray.empty) 1 16 Try.underlying23 hi hz0 hz1 hz2 rfl (by decide) _ d.length (scells d) rfl (hown.alloc _) ⟨wr.heap.size, 0, none⟩ 1 1 (scells [c]) rfl rfl ?c1 ?c2 ?c3 ?c4 ?c5 ?_)
      case c1 => intro j u hj; match j, hj with | 0, hj => simp [scells] at hj; subst hj; simp [Addr.add]
      case c2 => intro u hu; simp [scells] at hu; subst hu; rfl
      case c3 => unfold maxLen; omega
      case c4 => omega
      case c5 => have := hbel.size; simp; omega
      intro v2 w2 ho2 hg2 _
      have hb2 : Below w.heap.size w w2 := (hbel.alloc hbel.size _).grown hg2 (by have := hbel.size; simp; omega) (fun j hj => (hown.lt j hj).1)
      rw [← scells_append] at ho2
      have HB := Lib.hid hb2
      have HO := Lib.hid ho2
      clear ho2 hg2 hb2
      go_wp2_with fail
      go_roundw
      case rel => exact ⟨k + n, d ++ [c], r, by rw [HC.out, List.append_assoc]; rfl, by rw [HK.out, List.flatten_append, List.length_append]; simp [HN.out], by go_num, by rw [List.length_append]; exact HO.out, HB.out⟩
      case measure => simp [intOf]; omega
    | nil =>
      have ek : ¬ k < s.size := by have := congrArg List.length hdrop; rw [List.length_drop, hll] at this; simp at this; omega
      have hkk : k = s.size := by omega
      have HC : Hid (d = cs) := by rw [hcs, List.append_nil]; trivial
      clear hcs ek hdrop
      subst hkk
      go_wp2_with fail
      go_ret
      refine ⟨_, rfl, ?_, hbel⟩
      rw [← HC.out]; exact hown

end Go.Proofs.Ytfiegofcjinmcaa
