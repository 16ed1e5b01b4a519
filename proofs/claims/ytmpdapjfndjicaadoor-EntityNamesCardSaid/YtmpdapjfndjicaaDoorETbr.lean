/- The listed package variables read as the row says: so the program's table lies in memory. -/
import Derived.Test.YtmpdapjfndjicaaDoorRows
import Derived.Test.YtmpdapjfndjicaaDoorETab
import Derived.Lib.LaidU8
import Derived.Lib.LaidIn
import Derived.LaidMore
namespace Go.Proofs.YtmpdapjfndjicaaDoor
open Go Go.RowKit Go.Shelf Go.Lib

/-- A pair of a string and a number, read from its two cells. -/
theorem pair_cells {enc : TypeId × Value → Unit} {w : World} {fuel : Nat} {cs : List Value} {a : List UInt8} {z : Int} {p : List MemPlace}
    (h : DataW.trod enc Tryd.prog w 0 (fun _ => true) false fuel 36 cs = some (.agg [.lit (.string a), .lit (.int .i32 z)], p)) : cs[0]? = some (.string (tstr a)) ∧ cs[1]? = some (.int .i32 z) := by
  obtain ⟨xs, n, rfl, hx, hl, hxl, hall⟩ := DataW.trod_struct Tryd.underlying36 h
  have hl2 : cs.length = 2 := hl.trans (by kernel_rfl)
  have hxl2 : xs.length = 2 := hxl.trans rfl
  match xs, hxl2 with
  | [x0, x1], _ =>
    simp only [List.map_cons, List.map_nil, Prod.mk.injEq, DataW.agg.injEq, List.cons.injEq, and_true] at hx
    obtain ⟨⟨e0, e1⟩, _⟩ := hx
    match cs, hl2 with
    | [c0, c1], _ =>
      have h0 := hall 0 _ rfl
      have h1 := hall 1 _ rfl
      have k1 : Tryd.prog.cellsOf 9 = 1 := by kernel_rfl
      have k2 : Tryd.prog.cellsOf 21 = 1 := by kernel_rfl
      have h0' : DataW.trod enc Tryd.prog w 0 (fun _ => true) false n 9 [c0] = some x0 := by
        simpa [k1] using h0
      have h1' : DataW.trod enc Tryd.prog w 0 (fun _ => true) false n 21 [c1] = some x1 := by
        simpa [k2] using h1
      obtain ⟨s, hs, hx0, _⟩ := DataW.trod_string Tryd.underlying9 h0'
      obtain ⟨m, hm, hx1, _⟩ := DataW.trod_int Tryd.underlying21 h1'
      rw [hx0] at e0
      rw [hx1] at e1
      simp only [DataW.lit.injEq, Lit.string.injEq, Lit.int.injEq, true_and] at e0 e1
      simp only [List.cons.injEq, and_true] at hs hm
      subst hs hm e1
      refine ⟨?_, rfl⟩
      rw [e0]; rfl

def tabData : DataW Unit := .agg (Ent.tab.map fun p => .agg [.lit (.string p.1), .lit (.int .i32 (p.2 : Nat))])
theorem tabData_eq : (Rows.laid_knapsack_entity_table : DataW Unit) = tabData := by kernel_rfl

theorem tab_of {W : World} (h : VarReads Tryd.prog W "knapsack/entity.table" Rows.laid_knapsack_entity_table) : Tab W := by
  rw [tabData_eq] at h
  obtain ⟨g, t, cs, fuel, p, hg, hty, hvar, hd⟩ := h
  obtain rfl := Option.some.inj ((show Tryd.prog.globalNamed "knapsack/entity.table" = some 0 by kernel_rfl).symm.trans hg)
  obtain rfl := Option.some.inj ((show (Tryd.prog.globals[0]?).map (·.type) = some 37 by kernel_rfl).symm.trans hty)
  intro i hi
  obtain ⟨fuel', d, q, hdi, he⟩ := array_elem Tryd.underlying37 hd i hi
  have hit : i < Ent.tab.length := hi
  rw [List.getElem?_map, List.getElem?_eq_getElem hit] at hdi
  obtain rfl := (Option.some.inj hdi).symm
  have k2 : Tryd.prog.cellsOf 36 = 2 := by kernel_rfl
  rw [k2] at he
  obtain ⟨h0, h1⟩ := pair_cells he
  have hg' : Ent.tab.getD i ([], 0) = Ent.tab[i] := by rw [List.getD_eq_getElem?_getD, List.getElem?_eq_getElem hit]; rfl
  have e1 : tnm i = Ent.tab[i].1 := congrArg Prod.fst hg'
  have e2 : tpt i = Ent.tab[i].2 := congrArg Prod.snd hg'
  simp only [List.getElem?_take, List.getElem?_drop] at h0 h1
  constructor
  · rw [World.var?_cell hg hvar (i * 2), ← Array.getElem?_toList, e1]
    simpa using h0
  · rw [World.var?_cell hg hvar (i * 2 + 1), ← Array.getElem?_toList, e2]
    simpa using h1

end Go.Proofs.YtmpdapjfndjicaaDoor
