/- The library's two tables for UTF-8 lie in memory as the program lays them. -/
import Derived.Test.YtfiegofcjinmcaaDoorProg
import Derived.Shelf.Unicode.DecodeSlow
import Derived.Below
namespace Go.Proofs.YtfiegofcjinmcaaDoor
open Go Go.RowKit

def Lit (w : World) : Prop := Lib.Utf8Tabs 0 1 w
theorem lit_cell {w w' : World} {a : Addr} {v : Value} (h : w.cell? a = some v) (hb : Below w.heap.size w w') : w'.cell? a = some v := (hb.cell (World.block_lt_of_cell? w a h)).trans h
theorem Lit.below {w w' : World} (h : Lit w) (hb : Below w.heap.size w w') : Lit w' :=
  ⟨fun c hc => lit_cell (h.1 c hc) hb, fun i hi => ⟨lit_cell (h.2 i hi).1 hb, lit_cell (h.2 i hi).2 hb⟩⟩

end Go.Proofs.YtfiegofcjinmcaaDoor
