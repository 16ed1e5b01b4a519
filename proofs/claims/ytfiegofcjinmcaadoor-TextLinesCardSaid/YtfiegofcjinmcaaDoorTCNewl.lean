/- The program's Newlines returns what the plain text says. -/
import Derived.Test.YtfiegofcjinmcaaDoorTNlr
import Derived.Test.YtfiegofcjinmcaaDoorTRep
import Derived.Test.YtfiegofcjinmcaaDoorShRpl
namespace Go.Proofs.YtfiegofcjinmcaaDoor
open Go.RowKit

/-- A variable of the library's holds some number. -/
def MaxLen (w : World) : Prop := ∃ m, w.cell? ⟨2, 0, none⟩ = some (.int .i64 m)
theorem MaxLen.below {w w' : World} (h : MaxLen w) (hb : Below w.heap.size w w') : MaxLen w' := by
  obtain ⟨m, hm⟩ := h
  exact ⟨m, (hb.cell (World.block_lt_of_cell? w _ hm)).trans hm⟩

set_option maxHeartbeats 400000 in
theorem tnewlines_any (s : ByteArray) (w : World) (hs : s.size ≤ 10000) (hM : MaxLen w) :
    Calls Tryd.prog 13 #[.string s] w fun e w' => e = .returned (.string (tstr (Txt.newl false s.data.toList))) ∧ Below w.heap.size w w' := by
  obtain ⟨m, hm⟩ := hM
  have hcb := Lib.countB_le (tstr [13, 10]) (by decide) s.size s (Nat.le_refl _)
  have c1 := Tryd.replaceAll s (tstr [13, 10]) (tstr [10]) m w (by omega) hm (by decide) (by rw [show (tstr [10]).size = 1 from rfl]; omega)
  rw [tstr_data, tstr_data, Txt.replaceAll_ra _ _ _ (by decide)] at c1
  obtain ⟨L, hL⟩ : ∃ L, Txt.ra [13, 10] [10] s.data.toList = L := ⟨_, rfl⟩
  have hlen := Txt.two_len s.data.toList
  have hll : s.data.toList.length = s.size := rfl
  have hfin := Txt.newl_ra s.data.toList
  rw [hL] at c1 hlen hfin
  have hLs : (tstr L).size ≤ 10000 := by rw [tstr_size]; omega
  have hcb2 := Lib.countB_le (tstr [13]) (by decide) (tstr L).size (tstr L) (Nat.le_refl _)
  have c2 : ∀ W : World, W.cell? ⟨2, 0, none⟩ = some (.int .i64 m) → Calls Tryd.prog 24 #[.string (tstr L), .string (tstr [13]), .string (tstr [10])] W fun e w' => e = .returned (.string (tstr (Txt.newl false s.data.toList))) ∧ Below W.heap.size W w' := by
    intro W hW
    have c := Tryd.replaceAll (tstr L) (tstr [13]) (tstr [10]) m W (by omega) hW (by decide) (by rw [show (tstr [10]).size = 1 from rfl]; omega)
    rw [tstr_data, tstr_data, tstr_data, Txt.replaceAll_ra _ _ _ (by decide), hfin] at c
    exact c
  have HM := Lib.hid hm
  clear hm hL hfin hcb hcb2
  go_enter Tryd.func13, Tryd.ntmps13
  go_wp2_with fail
  refine c1.mono ?_
  rintro e w2 ⟨rfl, hb2⟩
  have hm2 := (hb2.cell (World.block_lt_of_cell? w _ HM.out)).trans HM.out
  have c2' := c2 w2 hm2
  clear hm2
  go_wp2_with fail
  refine c2'.mono ?_
  rintro e w3 ⟨rfl, hb3⟩
  go_wp2_with fail
  go_ret
  exact ⟨rfl, hb2.trans (hb3.mono hb2.size)⟩

end Go.Proofs.YtfiegofcjinmcaaDoor
