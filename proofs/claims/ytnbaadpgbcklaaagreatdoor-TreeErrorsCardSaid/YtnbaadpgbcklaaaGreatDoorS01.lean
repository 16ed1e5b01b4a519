/- Part of a proof about trees: NPtr, NLkw, NCut, NPla, NCtw, NIte, NFol, NWkw, NLop, NOth, NAcc, NDep, NHgt, NCon, NIns, NIn2, NIn3, NRm, TCVal, TBld, TCRep, NNam, NVnm, NRnm, NNew, TCLen, NVal, NCol, NMak, NSiz, NApI, NLin, NErb. -/
import Derived.Deep.DrawnRows
import Derived.Deep.RegionHeld3
import Derived.Deep.RegionWith
import Derived.Lib.FrozenHead
import Derived.Lib.MinMax
import Derived.Lib.OthersKept
import Derived.Lib.SliceRun
import Derived.LoopIn
import Derived.LoopNIn
import Derived.Outline
import Derived.OwnWalkIn
import Derived.RangeFuncBound
import Derived.RangeFuncBox
import Derived.RangeFuncCalls
import Derived.RangeFuncLeaves
import Derived.RangeFuncNested
import Derived.Shelf.Abstract
import Derived.Shelf.RegionOpen
import Derived.Sort.CutIn
import Derived.Sort.QuietIn
import Derived.Stop.RegionWithIn
import Derived.TacticsInMore
import Derived.WalkKit
import Derived.Test.YtnbaadpgbcklaaaGreatDoorGNDrp
import Derived.Test.YtnbaadpgbcklaaaGreatDoorGNTrw
import Derived.Test.YtnbaadpgbcklaaaGreatDoorGShBld
import Derived.Test.YtnbaadpgbcklaaaGreatDoorGShCon
import Derived.Test.YtnbaadpgbcklaaaGreatDoorGShLen
import Derived.Test.YtnbaadpgbcklaaaGreatDoorGShVal
set_option linter.unusedVariables false
set_option linter.unusedSimpArgs false
set_option linter.unusedSectionVars false
set_option maxHeartbeats 4000000
set_option maxRecDepth 100000
namespace Go.Proofs.YtnbaadpgbcklaaaGreatDoor
section
open Go.RowKit
def NP (w:World) (g o:Nat) (d:Tr.Nd):Prop:=∀ j,j<9→w.cell? ⟨g,o+j,none⟩=(Rn d)[j]?∧w.frozen? ⟨g,o+j,none⟩=false
section
variable {w w':World} {g o:Nat} {d:Tr.Nd}
theorem NP.cells (h:NP w g o d):w.cell? ⟨g,o,none⟩=some (.int .i64 d.kind)∧w.cell? ⟨g,o+1,none⟩=some (.string d.name)∧w.cell? ⟨g,o+2,none⟩=some (.slice d.av.a d.av.n d.av.c)∧w.cell? ⟨g,o+3,none⟩=some (.string d.data)∧w.cell? ⟨g,o+4,none⟩=some (.int .i64 d.pa)∧
  w.cell? ⟨g,o+5,none⟩=some (.int .i64 d.fi)∧w.cell? ⟨g,o+6,none⟩=some (.int .i64 d.la)∧w.cell? ⟨g,o+7,none⟩=some (.int .i64 d.pr)∧w.cell? ⟨g,o+8,none⟩=some (.int .i64 d.ne):=
 ⟨(h 0 (by omega)).1,(h 1 (by omega)).1,(h 2 (by omega)).1,(h 3 (by omega)).1,(h 4 (by omega)).1,(h 5 (by omega)).1,(h 6 (by omega)).1,(h 7 (by omega)).1,(h 8 (by omega)).1⟩
theorem NP.below (h:NP w g o d) (hb:Below w.heap.size w w'):NP w' g o d:=fun j hj=>by
 obtain⟨h1,h2⟩:=h j hj;have hlt:g<w.heap.size:=World.block_lt_of_cell? w _ h.cells.1;exact⟨(hb.cell (p:=⟨g,o+j,none⟩) hlt).trans h1,(hb.frozen (p:=⟨g,o+j,none⟩) hlt).trans h2⟩
theorem NP.of_whole {T:TypeId} (h:Whole w g (Rn d) T):NP w g 0 d:=fun j _=>by
 rw[Nat.zero_add];exact⟨h.cell j,h.free j⟩
end
def PtrTo (b s:Int) (vs:Value) (n g o:Nat) (h:Int):Prop:=∃ i c:Nat,i<n∧n≤100000∧Ar.hdl b s (i:Int)=h∧o=i*10+1∧vs=.slice (some ⟨g,0,none⟩) n c
section
variable {base B n live g o:Nat} {w:World} {b s root h:Int} {vs vf:Value} {R:Int→Option Tr.Nd} {fr:List Nat} {d d':Tr.Nd}
theorem TV.np (hM:TV base w B b s vs n R vf fr live root) (hp:PtrTo b s vs n g o h) (hd:R h=some d):NP w g o d:=by
 obtain⟨i,c,h1,h2,h3,rfl,rfl⟩:=hp;obtain⟨g',e,_,_,hc⟩:=hM.slot (by omega);obtain rfl:g=g':=by injection e with e;injection e
 intro j hj;have:=hc i (j+1) h1 (by omega);rw[h3,hd,P7,show CZ (true,d)=.bool true::(Rn d).toList from rfl,List.getElem?_cons_succ,Array.getElem?_toList] at this;rw[Nat.add_assoc,Nat.add_comm 1 j];exact this
theorem TV.mE {j:Nat} {v:Value} (hM:TV base w B b s vs n R vf fr live root) (hp:PtrTo b s vs n g o h) (hd:R h=some d) (f:Tr.Nd→Tr.Nd) (hf:f d=d') (hj:j<9) (hv:CZ (true,d')=(CZ (true,d)).set (j+1) v):
  TV base (w.setCell ⟨g,o+j,none⟩ v) B b s vs n (Tr.upd R h f) vf fr live root∧ay w (w.setCell ⟨g,o+j,none⟩ v) (aD B vs vf) (aD B vs vf):=by
 obtain⟨i,c,h1,h2,h3,rfl,rfl⟩:=hp;rw[←h3] at hd;have:=hM.K3 h1 h2 (by omega:j+1<10) hd f hf hv;rw[h3] at this;rw[Nat.add_assoc,Nat.add_comm 1 j];exact this
theorem Sound.upd {f:Tr.Nd→Tr.Nd} (hS:Sound b s n R fr live):Sound b s n (Tr.upd R h f) fr live:=by
 have key:∀ x,(Tr.upd R h f x).isSome=(R x).isSome:=fun x=>by
  unfold Tr.upd
  split
  ·rename_i e;rw[e];cases R h<;>rfl
  ·rfl
 refine⟨fun x hx=>hS.dom x (by rw[←key];exact hx),hS.nodup,fun i hi=>⟨(hS.free i hi).1,?_⟩,hS.count,hS.le⟩;have:=key (Ar.hdl b s (i:Int));rw[(hS.free i hi).2] at this;exact Option.not_isSome_iff_eq_none.1 (by rw[this];simp)
end
theorem ig (base B:Nat) (b s root h:Int) (live n:Nat) (R:Int→Option Tr.Nd) (fr:List Nat) (vs vf:Value) (d:Tr.Nd) (w:World) (hm:TV base w B b s vs n R vf fr live root) (hS:Sound b s n R fr live) (hd:R h=some d):
  Calls Tryz.prog 59 #[.pointer (some ⟨B,0,none⟩),.int .i64 h] w fun e w'=>∃ g o,e=.returned (.pointer (some ⟨g,o,none⟩))∧PtrTo b s vs n g o h∧Below w.heap.size w w':=by
 have hh:=(bR hS (h:=h) (by rw[hd];rfl)).1;obtain⟨A,c,A',c',rfl,rfl⟩:=hm.slices;rcases nJ (h:=h) hS with ⟨i,d',e1,e2,e3,e4⟩ | ⟨e1,_⟩
 rotate_left
 ·rw[hd] at e1;cases e1
 obtain⟨g,rfl,hgB,hgl,_⟩:=hm.slot (by omega);have hpt:nodeAt b s (.slice (some ⟨g,0,none⟩) n c) R h=some ⟨g,i*10+1,none⟩:=by
  have:Ar.idx b s h=i:=by unfold rO at e2;rw[e1] at e2;exact e2
  unfold nodeAt;rw[e1,this];rfl
 have hle:=hS.le
 go_enter Tryz.func59,Tryz.ntmps59
 go_wp2_with fail;refine (sU base B b s root h live n R fr _ _ w hm hS hh).mono ?_;rintro e w2 ⟨rfl,hb2⟩;rw[hpt];have HE:=zh e4;clear e1 e2 e4 hpt hS hm hd;go_wp2_with fail
 go_ret
 exact⟨g,_,rfl,⟨i,c,e3,hle,HE.out,rfl,rfl⟩,hb2⟩
theorem jO (base B:Nat) (b s root h:Int) (live n:Nat) (R:Int→Option Tr.Nd) (fr:List Nat) (vs vf:Value) (w:World) (hm:TV base w B b s vs n R vf fr live root) (hS:Sound b s n R fr live) (hh:lU h):
  Calls Tryz.prog 59 #[.pointer (some ⟨B,0,none⟩),.int .i64 h] w fun e w'=>∃ g o,e=.returned (.pointer (some ⟨g,o,none⟩))∧NP w' g o ((R h).getD Tr.wD)∧Below w.heap.size w w':=by
 cases hd:R h with
 | some d=>
  refine (ig base B b s root h live n R fr vs vf d w hm hS hd).mono ?_;rintro e w' ⟨g,o,rfl,hp,hb⟩;exact⟨g,o,rfl,(hm.below hb).np hp hd,hb⟩
 | none=>
  obtain⟨A,c,A',c',rfl,rfl⟩:=hm.slices;have hpt:nodeAt b s (.slice A n c) R h=none:=by unfold nodeAt;rw[hd]
  go_enter Tryz.func59,Tryz.ntmps59
  go_wp2_with fail;refine (sU base B b s root h live n R fr _ _ w hm hS hh).mono ?_;rintro e w2 ⟨rfl,hb2⟩;rw[hpt];clear hpt hS hm hd;have hb3:=hb2.alloc hb2.size (.cells (Rn Tr.wD) 42);have hY:=Whole.new w2 (Rn Tr.wD) 42;go_wp2_with fail
  go_ret
  exact⟨_,0,rfl,NP.of_whole hY,hb3⟩
theorem vT (base B:Nat) (b s root h:Int) (live n:Nat) (R:Int→Option Tr.Nd) (fr:List Nat) (vs vf:Value) (w:World) (hm:TV base w B b s vs n R vf fr live root) (hS:Sound b s n R fr live) (hh:lU h):
  Calls Tryz.prog 70 #[.pointer (some ⟨B,0,none⟩),.int .i64 h] w fun e w'=>e=.returned (.bool (R h).isSome)∧Below w.heap.size w w':=by
 obtain⟨A,c,A',c',rfl,rfl⟩:=hm.slices;rcases nJ (h:=h) hS with ⟨i,d',e1,e2,e3,e4⟩ | ⟨e1,_⟩
 ·obtain⟨g,rfl,hgB,hgl,_⟩:=hm.slot (by omega);have hpt:nodeAt b s (.slice (some ⟨g,0,none⟩) n c) R h=some ⟨g,i*10+1,none⟩:=by
   have:Ar.idx b s h=i:=by unfold rO at e2;rw[e1] at e2;exact e2
   unfold nodeAt;rw[e1,this];rfl
  rw[e1]
  go_enter Tryz.func70,Tryz.ntmps70
  go_wp2_with fail;refine (sU base B b s root h live n R fr _ _ w hm hS hh).mono ?_;rintro e w2 ⟨rfl,hb2⟩;rw[hpt];clear hpt hS hm e1 e2 e4;go_wp2_with fail
  go_ret
  exact⟨rfl,hb2⟩
 ·have hpt:nodeAt b s (.slice A n c) R h=none:=by unfold nodeAt;rw[e1]
  rw[e1]
  go_enter Tryz.func70,Tryz.ntmps70
  go_wp2_with fail;refine (sU base B b s root h live n R fr _ _ w hm hS hh).mono ?_;rintro e w2 ⟨rfl,hb2⟩;rw[hpt];clear hpt hS hm e1;go_wp2_with fail
  go_ret
  exact⟨rfl,hb2⟩
def zS (b s:Int) (vs:Value) (n g y:Nat) (p c:Int):Prop:=∃ o,(c=0∧PtrTo b s vs n g o p∧y=o+5)∨(c≠0∧PtrTo b s vs n g o c∧y=o+8)
def Gf (b s:Int) (vs:Value) (n g y:Nat) (p c:Int):Prop:=∃ o,(c=0∧PtrTo b s vs n g o p∧y=o+6)∨(c≠0∧PtrTo b s vs n g o c∧y=o+7)
def jy (R:Int→Option Tr.Nd) (p c v:Int):Int→Option Tr.Nd:=if c=0 then Tr.upd R p fun n=>{ n with fi:=v } else Tr.upd R c fun n=>{ n with ne:=v }
def qR (R:Int→Option Tr.Nd) (p c v:Int):Int→Option Tr.Nd:=if c=0 then Tr.upd R p fun n=>{ n with la:=v } else Tr.upd R c fun n=>{ n with pr:=v }
section
variable {base B n live g y:Nat} {w:World} {b s root p c:Int} {vs vf:Value} {R:Int→Option Tr.Nd} {fr:List Nat} {dp dc:Tr.Nd}
theorem zS.cell (h:zS b s vs n g y p c) (hM:TV base w B b s vs n R vf fr live root) (hp:R p=some dp) (hc:c≠0→R c=some dc):
  w.cell? ⟨g,y,none⟩=some (.int .i64 (if c=0 then dp.fi else dc.ne))∧w.frozen? ⟨g,y,none⟩=false:=by
 obtain⟨o,⟨h1,h2,rfl⟩ | ⟨h1,h2,rfl⟩⟩:=h
 ·rw[if_pos h1];exact hM.np h2 hp 5 (by omega)
 ·rw[if_neg h1];exact hM.np h2 (hc h1) 8 (by omega)
theorem Gf.cell (h:Gf b s vs n g y p c) (hM:TV base w B b s vs n R vf fr live root) (hp:R p=some dp) (hc:c≠0→R c=some dc):
  w.cell? ⟨g,y,none⟩=some (.int .i64 (if c=0 then dp.la else dc.pr))∧w.frozen? ⟨g,y,none⟩=false:=by
 obtain⟨o,⟨h1,h2,rfl⟩ | ⟨h1,h2,rfl⟩⟩:=h
 ·rw[if_pos h1];exact hM.np h2 hp 6 (by omega)
 ·rw[if_neg h1];exact hM.np h2 (hc h1) 7 (by omega)
theorem zS.put (h:zS b s vs n g y p c) (hM:TV base w B b s vs n R vf fr live root) (hp:R p=some dp) (hc:c≠0→R c=some dc) (v:Int):
  TV base (w.setCell ⟨g,y,none⟩ (.int .i64 v)) B b s vs n (jy R p c v) vf fr live root∧ay w (w.setCell ⟨g,y,none⟩ (.int .i64 v)) (aD B vs vf) (aD B vs vf):=by
 obtain⟨o,⟨h1,h2,rfl⟩ | ⟨h1,h2,rfl⟩⟩:=h
 ·unfold jy;rw[if_pos h1];exact hM.mE h2 hp _ rfl (by omega) rfl
 ·unfold jy;rw[if_neg h1];exact hM.mE h2 (hc h1) _ rfl (by omega) rfl
theorem Gf.put (h:Gf b s vs n g y p c) (hM:TV base w B b s vs n R vf fr live root) (hp:R p=some dp) (hc:c≠0→R c=some dc) (v:Int):
  TV base (w.setCell ⟨g,y,none⟩ (.int .i64 v)) B b s vs n (qR R p c v) vf fr live root∧ay w (w.setCell ⟨g,y,none⟩ (.int .i64 v)) (aD B vs vf) (aD B vs vf):=by
 obtain⟨o,⟨h1,h2,rfl⟩ | ⟨h1,h2,rfl⟩⟩:=h
 ·unfold qR;rw[if_pos h1];exact hM.mE h2 hp _ rfl (by omega) rfl
 ·unfold qR;rw[if_neg h1];exact hM.mE h2 (hc h1) _ rfl (by omega) rfl
end
theorem Cn (base B:Nat) (b s root p c:Int) (live n:Nat) (R:Int→Option Tr.Nd) (fr:List Nat) (vs vf:Value) (dp dc:Tr.Nd) (w:World) (hm:TV base w B b s vs n R vf fr live root) (hS:Sound b s n R fr live) (hp:R p=some dp) (hc:c≠0→R c=some dc):
  Calls Tryz.prog 130 #[.pointer (some ⟨B,0,none⟩),.int .i64 p,.int .i64 c] w fun e w'=>∃ g y,e=.returned (.pointer (some ⟨g,y,none⟩))∧zS b s vs n g y p c∧Below w.heap.size w w':=by
 by_cases h0:c=0
 ·go_enter Tryz.func130,Tryz.ntmps130
  go_wp2_with fail;refine (ig base B b s root p live n R fr vs vf dp w hm hS hp).mono ?_;rintro e w2 ⟨g,o,rfl,hpt,hb2⟩;have HP:=zh hpt;clear hpt hm hS hp hc;go_wp2_with fail
  go_ret
  exact⟨g,o+5,rfl,⟨o,.inl ⟨h0,HP.out,rfl⟩⟩,hb2⟩
 ·go_enter Tryz.func130,Tryz.ntmps130
  go_wp2_with fail;refine (ig base B b s root c live n R fr vs vf dc w hm hS (hc h0)).mono ?_;rintro e w2 ⟨g,o,rfl,hpt,hb2⟩;have HP:=zh hpt;clear hpt hm hS hp hc;go_wp2_with fail
  go_ret
  exact⟨g,o+8,rfl,⟨o,.inr ⟨h0,HP.out,rfl⟩⟩,hb2⟩
theorem zT (base B:Nat) (b s root p c:Int) (live n:Nat) (R:Int→Option Tr.Nd) (fr:List Nat) (vs vf:Value) (dp dc:Tr.Nd) (w:World) (hm:TV base w B b s vs n R vf fr live root) (hS:Sound b s n R fr live) (hp:R p=some dp) (hc:c≠0→R c=some dc):
  Calls Tryz.prog 131 #[.pointer (some ⟨B,0,none⟩),.int .i64 p,.int .i64 c] w fun e w'=>∃ g y,e=.returned (.pointer (some ⟨g,y,none⟩))∧Gf b s vs n g y p c∧Below w.heap.size w w':=by
 by_cases h0:c=0
 ·go_enter Tryz.func131,Tryz.ntmps131
  go_wp2_with fail;refine (ig base B b s root p live n R fr vs vf dp w hm hS hp).mono ?_;rintro e w2 ⟨g,o,rfl,hpt,hb2⟩;have HP:=zh hpt;clear hpt hm hS hp hc;go_wp2_with fail
  go_ret
  exact⟨g,o+6,rfl,⟨o,.inl ⟨h0,HP.out,rfl⟩⟩,hb2⟩
 ·go_enter Tryz.func131,Tryz.ntmps131
  go_wp2_with fail;refine (ig base B b s root c live n R fr vs vf dc w hm hS (hc h0)).mono ?_;rintro e w2 ⟨g,o,rfl,hpt,hb2⟩;have HP:=zh hpt;clear hpt hm hS hp hc;go_wp2_with fail
  go_ret
  exact⟨g,o+7,rfl,⟨o,.inr ⟨h0,HP.out,rfl⟩⟩,hb2⟩
end
section
open Go.RowKit
theorem zU {R:Int→Option Tr.Nd} {h x:Int} {f:Tr.Nd→Tr.Nd} (hx:(R x).isSome):∃ d,Tr.upd R h f x=some d:=by
 unfold Tr.upd
 split
 ·rename_i e;rw[e] at hx;obtain⟨d,hd⟩:=Option.isSome_iff_exists.1 hx;exact⟨f d,by rw[hd];rfl⟩
 ·exact Option.isSome_iff_exists.1 hx
theorem yI {R:Int→Option Tr.Nd} {h:Int} {f k:Tr.Nd→Tr.Nd}:Tr.upd (Tr.upd R h f) h k=Tr.upd R h (fun n=>k (f n)):=by
 funext x;by_cases e:x=h
 ·subst e;rw[Tr.upd_same,Tr.upd_same,Tr.upd_same];cases R x<;>rfl
 ·rw[Tr.upd_ne e,Tr.upd_ne e,Tr.upd_ne e]
theorem lS {R:Int→Option Tr.Nd} {p c v x:Int} (hx:(R x).isSome):∃ d,jy R p c v x=some d:=by
 unfold jy;split
 ·exact zU hx
 ·exact zU hx
theorem Sound.forth {b s:Int} {n live:Nat} {R:Int→Option Tr.Nd} {fr:List Nat} {p c v:Int} (hS:Sound b s n R fr live):Sound b s n (jy R p c v) fr live:=by
 unfold jy;split
 ·exact hS.upd
 ·exact hS.upd
theorem Sound.back {b s:Int} {n live:Nat} {R:Int→Option Tr.Nd} {fr:List Nat} {p c v:Int} (hS:Sound b s n R fr live):Sound b s n (qR R p c v) fr live:=by
 unfold qR;split
 ·exact hS.upd
 ·exact hS.upd
theorem Gg (R:Int→Option Tr.Nd) (p h c pv:Int):Tr.pY R p h c pv=qR (jy (Tr.upd R h fun n=>{ n with pa:=p,pr:=pv,ne:=c }) p pv h) p c h:=by
 unfold Tr.pY qR jy;rfl
theorem Sound.linked {b s:Int} {n live:Nat} {R:Int→Option Tr.Nd} {fr:List Nat} {p h c pv:Int} (hS:Sound b s n R fr live):Sound b s n (Tr.pY R p h c pv) fr live:=by
 rw[Gg];exact hS.upd.forth.back
theorem NU (base B:Nat) (b s root p h c:Int) (live n:Nat) (R:Int→Option Tr.Nd) (fr:List Nat) (vs vf:Value) (dp dh dc dv:Tr.Nd) (pv:Int) (w:World) (hm:TV base w B b s vs n R vf fr live root) (hS:Sound b s n R fr live)
  (hp:R p=some dp) (hh:R h=some dh) (hc:c≠0→R c=some dc) (hpv:pv=if c=0 then dp.la else dc.pr) (hv:pv≠0→R pv=some dv) (h1:h≠p) (h2:c≠0→h≠c) (h3:pv≠0→h≠pv):
  Calls Tryz.prog 74 #[.pointer (some ⟨B,0,none⟩),.int .i64 p,.int .i64 h,.int .i64 c] w fun e w'=>(∃ u,e=.returned u)∧TV base w' B b s vs n (Tr.pY R p h c pv) vf fr live root∧ay w w' (aD B vs vf) (aD B vs vf):=by
 rw[Gg];obtain⟨R1,Dp⟩:∃ R1,(Tr.upd R h fun n=>{ n with pa:=p,pr:=pv,ne:=c })=R1:=⟨_,rfl⟩
 have EZ:R1 h=some { dh with pa:=p,pr:=pv,ne:=c }:=by rw[←Dp];exact Tr.kK hh
 have E5:R1 p=some dp:=by rw[←Dp,Tr.upd_ne h1.symm];exact hp
 have e1c:c≠0→R1 c=some dc:=fun e=>by rw[←Dp,Tr.upd_ne (h2 e).symm];exact hc e
 have e1v:pv≠0→R1 pv=some dv:=fun e=>by rw[←Dp,Tr.upd_ne (h3 e).symm];exact hv e
 have hS1:Sound b s n R1 fr live:=by rw[←Dp];exact hS.upd
 obtain⟨R2,hR2⟩:∃ R2,jy R1 p pv h=R2:=⟨_,rfl⟩
 have hS2:Sound b s n R2 fr live:=by rw[←hR2];exact hS1.forth
 have Mg:R2 h=some { dh with pa:=p,pr:=pv,ne:=c }:=by
  rw[←hR2];unfold jy;split
  ·rw[Tr.upd_ne h1];exact EZ
  ·rename_i e;rw[Tr.upd_ne (h3 e)];exact EZ
 obtain⟨d2p,e2p⟩:∃ d,R2 p=some d:=by rw[←hR2];exact lS (by rw[E5];rfl)
 have R3:c≠0→∃ d,R2 c=some d:=fun e=>by rw[←hR2];exact lS (by rw[e1c e];rfl)
 obtain⟨d2c,TD⟩:∃ d,c≠0→R2 c=some d:=by
  by_cases e:c=0
  ·exact⟨Tr.wD,fun x=>absurd e x⟩
  ·obtain⟨d,hd⟩:=R3 e;exact⟨d,fun _=>hd⟩
 rw[Dp,hR2]
 go_enter Tryz.func74,Tryz.ntmps74
 go_wp2_with fail;refine (ig base B b s root h live n R fr vs vf dh w hm hS hh).mono ?_;rintro e w1 ⟨g,o,rfl,hpt,hb1⟩;have hm1:=hm.below hb1;go_wp2_with fail;refine (zT base B b s root p c live n R fr vs vf dp dc w1 hm1 hS hp hc).mono ?_;rintro e w2 ⟨g2,y,rfl,hbp,hb2⟩;have hm2:=hm1.below hb2;have fu:=hb1.trans (hb2.mono hb1.size);obtain⟨k1,_⟩:=hbp.cell hm2 hp hc;rw[←hpv] at k1;have hnp:=hm2.np hpt hh;obtain⟨_,_,_,_,t4,_,_,t7,t8⟩:=hnp.cells;have f4:=(hnp 4 (by omega)).2;have f7:=(hnp 7 (by omega)).2;have f8:=(hnp 8 (by omega)).2;obtain⟨w3,hw3⟩:∃ w3,(((w2.setCell ⟨g,o+4,none⟩ (.int .i64 p)).setCell ⟨g,o+7,none⟩ (.int .i64 pv)).setCell ⟨g,o+8,none⟩ (.int .i64 c))=w3:=⟨_,rfl⟩
 have GH:TV base w3 B b s vs n R1 vf fr live root∧ay w2 w3 (aD B vs vf) (aD B vs vf):=by
  obtain⟨a1,s1⟩:=hm2.mE (j:=4) (v:=.int .i64 p) hpt hh (fun n=>{ n with pa:=p }) rfl (by omega) rfl;obtain⟨a2,s2⟩:=a1.mE (j:=7) (v:=.int .i64 pv) hpt (Tr.kK hh) (fun n=>{ n with pr:=pv }) rfl (by omega) rfl;obtain⟨a3,s3⟩:=a2.mE (j:=8) (v:=.int .i64 c) hpt (Tr.kK (Tr.kK hh)) (fun n=>{ n with ne:=c }) rfl (by omega) rfl;rw[yI,yI] at a3;rw[←hw3,←Dp];exact⟨a3,(s1.trans s2).trans s3⟩
 obtain⟨GH,gy⟩:=GH;have hn3:=GH.np hpt EZ;obtain⟨_,_,_,_,_,_,_,q7,q8⟩:=hn3.cells;clear hm hm1 hm2 hnp hn3 Dp hpv;go_wp2_with fail;(try rw[hw3]);go_wp2_with fail;refine (Cn base B b s root p pv live n R1 fr vs vf dp dv w3 GH hS1 E5 e1v).mono ?_;rintro e w4 ⟨g4,y4,rfl,hfp,hb4⟩;have nZ:=GH.below hb4;obtain⟨k4,z4⟩:=hfp.cell nZ E5 e1v;obtain⟨NV,st5⟩:=hfp.put nZ E5 e1v h;rw[hR2] at NV;obtain⟨w5,eH⟩:∃ w5,w4.setCell ⟨g4,y4,none⟩ (.int .i64 h)=w5:=⟨_,rfl⟩
 rw[eH] at NV st5;obtain⟨_,_,_,_,_,_,_,_,v8⟩:=(NV.np hpt Mg).cells;clear q7 q8 GH nZ;go_wp2_with fail;(try rw[eH]);go_wp2_with fail;refine (zT base B b s root p c live n R2 fr vs vf d2p d2c w5 NV hS2 e2p TD).mono ?_;rintro e w6 ⟨g6,y6,rfl,WC,hb6⟩;have xK:=NV.below hb6;obtain⟨k6,z6⟩:=WC.cell xK e2p TD;obtain⟨qV,yh⟩:=WC.put xK e2p TD h;have HM:=zh qV;have HS:=zh ((ay.of_below fu).trans (gy.trans ((ay.of_below hb4).trans (st5.trans ((ay.of_below hb6).trans yh)))));clear NV xK qV gy st5 yh hw3 eH v8;go_wp2_with fail
 go_end0
 exact⟨⟨_,rfl⟩,HM.out,HS.out⟩
end
section
section
open Go.RowKit
namespace Tr
def jG (g:G) (h:Int):Int:=match g h with | none => -1 | some n=>if n.pa=0 then -1 else ((aj g n.pa).idxOf h:Nat)
structure Rec where
 kind:Int
 target:Int
 node:Int
 prev:Int
 next:Int
 index:Int
 name:ByteArray
 old:ByteArray
 had:Bool
 count:Int
 size:Int
def jH (g:G) (kind h:Int):Rec:=⟨kind,dI g h,h,prv (aj g (dI g h)) h,nu (aj g (dI g h)) h,jG g h,⟨#[]⟩,⟨#[]⟩,false,0,0⟩
theorem fq {l1 l2:List Int} {x:Int} (h:x∉l1):(l1++x::l2).idxOf x=l1.length:=by
 rw[List.idxOf_append,if_neg h];simp
end Tr
abbrev Y9 (r:Tr.Rec):Value:=.agg #[.int .i64 r.kind,.int .i64 r.target,.int .i64 r.node,.int .i64 r.prev,.int .i64 r.next,.int .i64 r.index,.string r.name,.string r.old,.bool r.had,.int .i64 r.count,.int .i64 r.size]
def Sr (r:Tr.Rec):List Value:=[.int .i64 r.kind,.int .i64 r.target,.int .i64 r.node,.int .i64 r.prev,.int .i64 r.next,.int .i64 r.index,.string r.name,.string r.old,.bool r.had,.int .i64 r.count,.int .i64 r.size]
def gT (l:List Tr.Rec):List Value:=l.flatMap Sr
def bO (base:Nat) (w:World) (v:Value) (l:List Tr.Rec):Prop:=w.ownsRow base 48 11 v l.length (gT l)
theorem bO.nil (base:Nat) (w:World):bO base w (.slice none 0 0) []:=World.ownsRow_nil _ _ _ _
theorem aS {g:Tr.G} {av:Int→Tr.Sl} {h:Int}:(Tr.raw g av h).isSome=(g h).isSome:=by
 unfold Tr.raw;cases g h<;>rfl
theorem wM (base B:Nat) (b s root h:Int) (live n:Nat) (g:Tr.G) (av:Int→Tr.Sl) (fr:List Nat) (vs vf:Value) (w:World) (hm:TV base w B b s vs n (Tr.raw g av) vf fr live root) (hS:Sound b s n (Tr.raw g av) fr live) (hw:Tr.WF 0 g) (hh:lU h):
  Calls Tryz.prog 17 #[.pointer (some ⟨B,0,none⟩),.int .i64 h] w fun e w'=>e=.returned (.int .i64 (Tr.jG g h))∧Below w.heap.size w w':=by
 cases eg:g h with
 | none=>
  have hr:Tr.jG g h = -1:=by unfold Tr.jG;rw[eg]
  go_enter Tryz.func17,Tryz.ntmps17
  go_wp2_with fail;refine (jO base B b s root h live n _ fr vs vf w hm hS hh).mono ?_;rintro e w2 ⟨gb,o,rfl,hnp,hb2⟩;rw[Tr.aV eg] at hnp;obtain⟨_,_,_,_,t4,_⟩:=hnp.cells;have HR:=zh hr;clear hm hS hnp hr eg;go_wp2_with fail
  go_ret
  exact⟨kJ HR.out.symm,hb2⟩
 | some nd=>
  by_cases hp:nd.pa=0
  ·have hr:Tr.jG g h = -1:=by unfold Tr.jG;rw[eg];simp[hp]
   go_enter Tryz.func17,Tryz.ntmps17
   go_wp2_with fail;refine (jO base B b s root h live n _ fr vs vf w hm hS hh).mono ?_;rintro e w2 ⟨gb,o,rfl,hnp,hb2⟩;rw[Tr.ah eg] at hnp;obtain⟨_,_,_,_,t4,_⟩:=hnp.cells;have X5:w2.cell? ⟨gb,o+4,none⟩=some (.int .i64 0):=by rw[t4];show some (Value.int .i64 nd.pa)=_;rw[hp]
   have HR:=zh hr;clear hm hS hnp hr eg t4 hp;go_wp2_with fail
   go_ret
   exact⟨kJ HR.out.symm,hb2⟩
  ·have hk:=hw.tO eg hp;obtain⟨l1,l2,e1⟩:=List.append_of_mem hk;have hnd:=hw.mX nd.pa;have h0:=hw.lX nd.pa;have hlen:(Tr.aj g nd.pa).length≤100000:=by
    have h1:((Tr.aj g nd.pa).map fun x=>(Ar.idx b s x).toNat).length≤n:=pG n _ (by
     rw[List.nodup_iff_pairwise_ne] at hnd ⊢;rw[List.pairwise_map];refine List.Pairwise.imp_of_mem (fun {x y} hx hy hne e=>hne ?_) hnd;obtain⟨mx,ex,_⟩:=hw.dS hx;obtain⟨my,ey,_⟩:=hw.dS hy;obtain⟨i,hi,ei⟩:=hS.dom x (by rw[aS,ex];rfl);obtain⟨j,hj,ej⟩:=hS.dom y (by rw[aS,ey];rfl);have hle:=hS.le;have a1:=Ar.nR b s i (by omega) (by omega);have a2:=Ar.nR b s j (by omega) (by omega);rw[ei] at a1;rw[ej] at a2;rw[←ei,←ej];have:(i:Int)=j:=by omega
     rw[this]) (fun k hk=>by
     obtain⟨x,hx,rfl⟩:=List.mem_map.1 hk;obtain⟨mx,ex,_⟩:=hw.dS hx;obtain⟨i,hi,ei⟩:=hS.dom x (by rw[aS,ex];rfl);have a1:=Ar.nR b s i (by omega) (by have:=hS.le;omega);rw[ei] at a1
     omega)
    rw[List.length_map] at h1;have:=hS.le;omega
   have hn1:h∉l1:=fun hx=>by rw[e1] at hnd;exact (List.nodup_append.1 hnd).2.2 h hx h (by simp) rfl
   have hr:Tr.jG g h=(l1.length:Int):=by
    unfold Tr.jG;rw[eg];simp only;rw[if_neg hp,e1,Tr.fq hn1]
   have hl1:l1.length≤100000:=by rw[e1,List.length_append] at hlen;omega
   have HR:=zh hr;have HK:=zh e1;have HS:=zh hS;clear hr hlen hk;have hc0:(nd.pa == 0)=false:=by simpa using hp
   go_enter Tryz.func17,Tryz.ntmps17
   go_wp2_with fail;refine (jO base B b s root h live n _ fr vs vf w hm hS hh).mono ?_;rintro e w2 ⟨gb,o,rfl,hnp,hb2⟩;rw[Tr.ah eg] at hnp;obtain⟨_,_,_,_,t4,_⟩:=hnp.cells;have X5:w2.cell? ⟨gb,o+4,none⟩=some (.int .i64 nd.pa):=t4;have HN:=zh hnp;have HE:=zh eg;clear t4 hnp hS e1 hnd h0;go_wp2_with fail
   go_loopw [5,6] (fun p i wr=>∃ (g' o':Nat) (l3 l4:List Int) (x:Int) (k:Nat) (m:Tr.GN),p=.pointer (some ⟨g',o',none⟩)∧Tr.aj g nd.pa=l3++x::l4∧g x=some m∧m.pa=nd.pa∧NP wr g' o' (Tr.fF g av x m)∧i=.int .i64 k∧k+l3.length=l1.length∧Below w.heap.size w wr) (fun _ i _=>l1.length - (intOf i).toNat)
   case atStart=>exact⟨gb,o,l1,l2,h,0,nd,rfl,HK.out,HE.out,rfl,HN.out,rfl,by omega,hb2⟩
   case round=>
    obtain⟨g',o',l3,l4,x,k,m,rfl,hk,hx,hmp,hnp,rfl,hkl,hbr⟩:=hrel;have hmr:=hm.below hbr;obtain⟨_,_,_,_,_,_,_,t7,_⟩:=hnp.cells;have hnd:=hw.mX nd.pa;have h0:=hw.lX nd.pa;rw[hk] at hnd h0;have hx4:x∉l4:=(List.nodup_cons.1 (List.nodup_append.1 hnd).2.1).1;have hpr:Tr.prv (Tr.aj g m.pa) x=Tr.gF l3:=by rw[hmp,hk];exact Tr.lD hx4
    have t7':wr.cell? ⟨g',o'+7,none⟩=some (.int .i64 (Tr.gF l3)):=by rw[t7,←hpr];rfl
    clear t7;by_cases hz:Tr.gF l3=0
    ·have hl3:l3=[]:=Tr.zI (fun hx=>h0 (by simp[hx])) hz;subst hl3;rw[Tr.PZ] at t7';have hkk:k=l1.length:=by simpa using hkl
     have HB:=zh hbr;have HKK:=zh hkk;clear hnp hmr hk hx hmp hnd h0 hpr hz hkl hbr hkk;go_wp2_with fail
     go_ret
     exact⟨kJ (by rw[HKK.out,HR.out]),HB.out⟩
    ·obtain⟨l5,y,rfl⟩:∃ l5 y,l3=l5++[y]:=by
      cases hl:l3 with
      | nil=>rw[hl] at hz;exact absurd rfl hz
      | cons a r=>exact⟨(a::r).dropLast,(a::r).getLast (by simp),(List.dropLast_concat_getLast _).symm⟩
     rw[Tr.zH] at hz t7';have hy:y∈Tr.aj g nd.pa:=by rw[hk];simp
     obtain⟨my,ey,hyp⟩:=hw.dS hy;have hc1:(y != 0)=true:=by simpa using hz
     have hyi:=(bR HS.out (h:=y) (by rw[aS,ey];rfl)).1;have hlx:k+1≤l1.length:=by simp at hkl;omega
     have GD:=zh hk;have HL2:=zh hkl;clear hnp hk hx hmp hnd h0 hpr hkl;go_wp2_with fail;refine (jO base B b s root y live n _ fr vs vf wr hmr HS.out hyi).mono ?_;rintro e w4 ⟨g4,o4,rfl,TF,hb4⟩;rw[Tr.ah ey] at TF;have hb5:=hbr.trans (hb4.mono hbr.size);have HN4:=zh TF;have HB:=zh hb5;clear TF hb5 hmr;go_wp2_with fail
     go_roundw
     case rel=>exact⟨g4,o4,l5,x::l4,y,k+1,my,rfl,by rw[GD.out];simp,ey,hyp,HN4.out,by go_num,by have:=HL2.out;simp at this;omega,HB.out⟩
     case measure=>simp[intOf];omega
end
end
section
open Go.RowKit
theorem NP.far {w w':World} {g o:Nat} {d:Tr.Nd} (h:NP w g o d) (hb:Below w.heap.size w w'):
  w'.cell? ⟨g,o+4,none⟩=some (.int .i64 d.pa)∧w'.cell? ⟨g,o+7,none⟩=some (.int .i64 d.pr)∧w'.cell? ⟨g,o+8,none⟩=some (.int .i64 d.ne):=by
 obtain⟨_,_,_,_,a,_,_,b,c⟩:=(h.below hb).cells;exact⟨a,b,c⟩
theorem PtrTo.foot {b s:Int} {vs vf:Value} {n g o B:Nat} {h:Int} (hp:PtrTo b s vs n g o h):aD B vs vf g:=by
 obtain⟨_,_,_,_,_,_,rfl⟩:=hp;exact .inr (.inl rfl)
theorem uN {W W':World} {gb o B:Nat} {v:Value} (h:W.cell? ⟨gb,o,none⟩=some v) (g:W.grownBy W' (some B)) (hn:gb≠B):W'.cell? ⟨gb,o,none⟩=some v:=by
 rw[←h];have:=g.block gb (World.block_lt_of_cell? W _ h) (fun e=>hn (by injection e));unfold World.cell?;simp only[this]
theorem jZ {W:World} {B:Nat} {x0 x1 x2 x3 x4 x5 x6 x7 x8 x9 x10:Value} {T:TypeId} (r:Whole W B #[x0,x1,x2,x3,x4,x5,x6,x7,x8,x9,x10] T) (y0 y1 y2 y3 y4 y5 y6 y7 y8 y9 wJ:Value):
  ∃ W',((((((((((W.setCell ⟨B,0,none⟩ y0).setCell ⟨B,1,none⟩ y1).setCell ⟨B,2,none⟩ y2).setCell ⟨B,3,none⟩ y3).setCell ⟨B,4,none⟩ y4).setCell ⟨B,5,none⟩ y5).setCell ⟨B,6,none⟩ y6).setCell ⟨B,7,none⟩ y7).setCell ⟨B,8,none⟩ y8).setCell ⟨B,9,none⟩ y9).setCell ⟨B,10,none⟩ wJ=W'∧Whole W' B #[y0,y1,y2,y3,y4,y5,y6,y7,y8,y9,wJ] T∧W.grownBy W' (some B):=by
 have r0:Whole _ B #[y0,x1,x2,x3,x4,x5,x6,x7,x8,x9,x10] T:=r.put 0 y0;have r1:Whole _ B #[y0,y1,x2,x3,x4,x5,x6,x7,x8,x9,x10] T:=r0.put 1 y1;have r2:Whole _ B #[y0,y1,y2,x3,x4,x5,x6,x7,x8,x9,x10] T:=r1.put 2 y2;have r3:Whole _ B #[y0,y1,y2,y3,x4,x5,x6,x7,x8,x9,x10] T:=r2.put 3 y3;have r4:Whole _ B #[y0,y1,y2,y3,y4,x5,x6,x7,x8,x9,x10] T:=r3.put 4 y4;have r5:Whole _ B #[y0,y1,y2,y3,y4,y5,x6,x7,x8,x9,x10] T:=r4.put 5 y5;have r6:Whole _ B #[y0,y1,y2,y3,y4,y5,y6,x7,x8,x9,x10] T:=r5.put 6 y6;have r7:Whole _ B #[y0,y1,y2,y3,y4,y5,y6,y7,x8,x9,x10] T:=r6.put 7 y7;have r8:Whole _ B #[y0,y1,y2,y3,y4,y5,y6,y7,y8,x9,x10] T:=r7.put 8 y8;have r9:Whole _ B #[y0,y1,y2,y3,y4,y5,y6,y7,y8,y9,x10] T:=r8.put 9 y9;have r10:Whole _ B #[y0,y1,y2,y3,y4,y5,y6,y7,y8,y9,wJ] T:=r9.put 10 wJ;exact⟨_,rfl,r10,aL (aL (aL (aL (aL (aL (aL (aL (aL (aL (aL (ak (Below.refl W.heap.size W) (some B)) 0 y0) 1 y1) 2 y2) 3 y3) 4 y4) 5 y5) 6 y6) 7 y7) 8 y8) 9 y9) 10 wJ⟩
theorem tC (base B:Nat) (b s root kind h:Int) (live n:Nat) (g:Tr.G) (av:Int→Tr.Sl) (fr:List Nat) (vs vf:Value) (nd:Tr.GN) (w:World) (hm:TV base w B b s vs n (Tr.raw g av) vf fr live root) (hS:Sound b s n (Tr.raw g av) fr live) (hw:Tr.WF 0 g) (eg:g h=some nd):
  Calls Tryz.prog 75 #[.pointer (some ⟨B,0,none⟩),.int .i64 kind,.int .i64 h] w fun e w'=>e=.returned (Y9 (Tr.jH g kind h))∧Below w.heap.size w w':=by
 have hh:=(bR hS (h:=h) (by rw[aS,eg];rfl)).1;have hr:Tr.jH g kind h=⟨kind,nd.pa,h,Tr.prv (Tr.aj g nd.pa) h,Tr.nu (Tr.aj g nd.pa) h,Tr.jG g h,⟨#[]⟩,⟨#[]⟩,false,0,0⟩:=by unfold Tr.jH;rw[Tr.aP eg]
 obtain⟨X,hX⟩:∃ X,Tr.jG g h=X:=⟨_,rfl⟩
 obtain⟨pr,hpr⟩:∃ X,Tr.prv (Tr.aj g nd.pa) h=X:=⟨_,rfl⟩
 obtain⟨ne,hne⟩:∃ X,Tr.nu (Tr.aj g nd.pa) h=X:=⟨_,rfl⟩
 obtain⟨pa,hpa⟩:∃ X,nd.pa=X:=⟨_,rfl⟩
 have hd4:(Tr.fF g av h nd).pa=pa:=hpa;have hd7:(Tr.fF g av h nd).pr=pr:=hpr;have Rq:(Tr.fF g av h nd).ne=ne:=hne;rw[hr,hX,hpr,hne,hpa];have hb1:=(Below.refl _ w).alloc (Nat.le_refl _) (.cells #[.int .i64 0,.int .i64 0,.int .i64 0,.int .i64 0,.int .i64 0,.int .i64 0,.string ⟨#[]⟩,.string ⟨#[]⟩,.bool false,.int .i64 0,.int .i64 0] 48);have hY:=Whole.new w #[.int .i64 0,.int .i64 0,.int .i64 0,.int .i64 0,.int .i64 0,.int .i64 0,.string ⟨#[]⟩,.string ⟨#[]⟩,.bool false,.int .i64 0,.int .i64 0] 48;have hm1:=hm.below hb1;have HH:=zh (And.intro hr (And.intro hpr (And.intro hne hpa)));clear hr hpr hne hpa
 go_enter Tryz.func75,Tryz.ntmps75
 go_wp2_with fail;refine (ig base B b s root h live n _ fr vs vf (Tr.fF g av h nd) _ hm1 hS (Tr.ah eg)).mono ?_;rintro e w2 ⟨gb,o,rfl,hpt,hb2⟩;have hm2:=hm1.below hb2;have hnp:=hm2.np hpt (Tr.ah eg);have hne0:gb≠w.heap.size:=by
  have:=(hm.lt gb (hpt.foot)).2;omega
 have hY2:=hY.below hb2 hY.lt;have fu:Below w.heap.size w w2:=hb1.trans (hb2.mono hb1.size);obtain⟨_,_,_,_,t4,_,_,t7,t8⟩:=hnp.cells;rw[hd4] at t4;rw[hd7] at t7;rw[Rq] at t8;have kf:=fun (W:World) (hb:Below w2.heap.size w2 W)=>hnp.far hb;rw[hd4,hd7,Rq] at kf;have kY:=fun (W:World) (hb:Below w2.heap.size w2 W)=>hY2.below hb hY2.lt;have kI:=fun (W:World) (hb:Below w2.heap.size w2 W)=>wM base B b s root h live n g av fr vs vf W (hm2.below hb) hS hw hh;rw[hX] at kI;have hbd:Below w2.heap.size w2 w2.drew:=⟨rfl,rfl,rfl,Nat.le_refl _,fun _ _=>rfl⟩
 have KF:=zh kf;have KY:=zh kY;have KI:=zh (kI _ hbd);have Bw:=zh hbd;have Qe:=zh fu;have HY2:=zh hY2;clear hm hm1 hm2 hS hnp hY hb1 hb2 hY2 hX eg kf kY kI hbd fu hd4 hd7 Rq;have hS0:w2.drew.cell? ⟨gb,o+4,none⟩=some (.int .i64 pa)∧w2.drew.cell? ⟨gb,o+7,none⟩=some (.int .i64 pr)∧w2.drew.cell? ⟨gb,o+8,none⟩=some (.int .i64 ne):=KF.out _ Bw.out;go_wp2_with fail
 go_region_held3 (fun W=>W.cell? ⟨gb,o+4,none⟩=some (.int .i64 pa)∧W.cell? ⟨gb,o+7,none⟩=some (.int .i64 pr)∧W.cell? ⟨gb,o+8,none⟩=some (.int .i64 ne)) (first | exact hS0 | assumption) (first | (go_at_call 17;refine KI.out.mono ?_;rintro e w5 ⟨rfl,hb5⟩;have NW:=Bw.out.trans (hb5.mono Bw.out.size);have hS5:=KF.out w5 NW;have qB:=KY.out w5 NW;have q0:w5.cell? ⟨w.heap.size,0,none⟩=some (.int .i64 0):=qB.cell 0;have z0:=qB.free 0 ;have q1:w5.cell? ⟨w.heap.size,1,none⟩=some (.int .i64 0):=qB.cell 1;have z1:=qB.free 1 ;have q2:w5.cell? ⟨w.heap.size,2,none⟩=some (.int .i64 0):=qB.cell 2;have z2:=qB.free 2 ;have q3:w5.cell? ⟨w.heap.size,3,none⟩=some (.int .i64 0):=qB.cell 3;have z3:=qB.free 3 ;have q4:w5.cell? ⟨w.heap.size,4,none⟩=some (.int .i64 0):=qB.cell 4;have z4:=qB.free 4 ;have q5:w5.cell? ⟨w.heap.size,5,none⟩=some (.int .i64 0):=qB.cell 5;have z5:=qB.free 5 ;have q6:w5.cell? ⟨w.heap.size,6,none⟩=some (.string ⟨#[]⟩):=qB.cell 6;have z6:=qB.free 6 ;have q7:w5.cell? ⟨w.heap.size,7,none⟩=some (.string ⟨#[]⟩):=qB.cell 7;have z7:=qB.free 7 ;have q8:w5.cell? ⟨w.heap.size,8,none⟩=some (.bool false):=qB.cell 8;have z8:=qB.free 8 ;have q9:w5.cell? ⟨w.heap.size,9,none⟩=some (.int .i64 0):=qB.cell 9;have z9:=qB.free 9 ;have q10:w5.cell? ⟨w.heap.size,10,none⟩=some (.int .i64 0):=qB.cell 10;have VI:=qB.free 10;obtain⟨w6,kQ,Mj,g6⟩:=jZ qB (.int .i64 kind) (.int .i64 pa) (.int .i64 h) (.int .i64 pr) (.int .i64 ne) (.int .i64 X) (.string ⟨#[]⟩) (.string ⟨#[]⟩) (.bool false) (.int .i64 0) (.int .i64 0);have y0:w6.cell? ⟨w.heap.size,0,none⟩=some (.int .i64 kind):=Mj.cell 0 ;have y1:w6.cell? ⟨w.heap.size,1,none⟩=some (.int .i64 pa):=Mj.cell 1 ;have y2:w6.cell? ⟨w.heap.size,2,none⟩=some (.int .i64 h):=Mj.cell 2 ;have y3:w6.cell? ⟨w.heap.size,3,none⟩=some (.int .i64 pr):=Mj.cell 3 ;have y4:w6.cell? ⟨w.heap.size,4,none⟩=some (.int .i64 ne):=Mj.cell 4 ;have y5:w6.cell? ⟨w.heap.size,5,none⟩=some (.int .i64 X):=Mj.cell 5 ;have y6:w6.cell? ⟨w.heap.size,6,none⟩=some (.string ⟨#[]⟩):=Mj.cell 6 ;have y7:w6.cell? ⟨w.heap.size,7,none⟩=some (.string ⟨#[]⟩):=Mj.cell 7 ;have y8:w6.cell? ⟨w.heap.size,8,none⟩=some (.bool false):=Mj.cell 8 ;have y9:w6.cell? ⟨w.heap.size,9,none⟩=some (.int .i64 0):=Mj.cell 9 ;have wJ:w6.cell? ⟨w.heap.size,10,none⟩=some (.int .i64 0):=Mj.cell 10;have hb6:=zh ((Qe.out.trans (NW.mono Qe.out.size)).grown g6 (Qe.out.trans (NW.mono Qe.out.size)).size (fun j hj=>by simp at hj;omega));have Rh:w6.cell? ⟨gb,o+4,none⟩=some (.int .i64 pa)∧w6.cell? ⟨gb,o+7,none⟩=some (.int .i64 pr)∧w6.cell? ⟨gb,o+8,none⟩=some (.int .i64 ne):=⟨(uN hS5.1 g6 hne0),(uN hS5.2.1 g6 hne0),(uN hS5.2.2 g6 hne0)⟩;clear qB Mj g6 NW hb5))
 go_wp2_with fail;refine bodyPost_ret (v:=Y9 ⟨kind,pa,h,pr,ne,X,⟨#[]⟩,⟨#[]⟩,false,0,0⟩) ?_ rfl ⟨rfl,hb6.out⟩;simp[results,Tryz.f75,go_sem,y0,y1,y2,y3,y4,y5,y6,y7,y8,y9,wJ]
theorem JY (R:Int→Option Tr.Nd) (h pa pr ne:Int):Tr.vK R h pa pr ne=Tr.upd (qR (jy R pa pr ne) pa ne pr) h fun n=>{ n with pa:=0,pr:=0,ne:=0 }:=by
 unfold Tr.vK qR jy;rfl
theorem Sound.vK {b s:Int} {n live:Nat} {R:Int→Option Tr.Nd} {fr:List Nat} {h pa pr ne:Int} (hS:Sound b s n R fr live):Sound b s n (Tr.vK R h pa pr ne) fr live:=by
 rw[JY];exact hS.forth.back.upd
theorem Lh {R:Int→Option Tr.Nd} {p c v x:Int} (h1:x≠p) (h2:c≠0→x≠c):jy R p c v x=R x:=by
 unfold jy;split
 ·exact Tr.upd_ne h1
 ·rename_i e;exact Tr.upd_ne (h2 e)
theorem NY {R:Int→Option Tr.Nd} {p c v x:Int} (h1:x≠p) (h2:c≠0→x≠c):qR R p c v x=R x:=by
 unfold qR;split
 ·exact Tr.upd_ne h1
 ·rename_i e;exact Tr.upd_ne (h2 e)
theorem some_or {R:Int→Option Tr.Nd} {c:Int} (h:c≠0→∃ d,R c=some d):∃ d,c≠0→R c=some d:=by
 by_cases e:c=0
 ·exact⟨Tr.wD,fun x=>absurd e x⟩
 ·obtain⟨d,hd⟩:=h e;exact⟨d,fun _=>hd⟩
theorem mM (w:World) (r:Tr.Rec) (base:Nat) (hb:base≤w.heap.size):bO base (w.alloc (.cells #[.int .i64 r.kind,.int .i64 r.target,.int .i64 r.node,.int .i64 r.prev,.int .i64 r.next,.int .i64 r.index,.string r.name,.string r.old,.bool r.had,.int .i64 r.count,.int .i64 r.size] 48)) (.slice (some ⟨w.heap.size,0,none⟩) 1 1) [r]:=
 World.ownsRow_lit (base:=base) (e:=48) (size:=11) w #[.int .i64 r.kind,.int .i64 r.target,.int .i64 r.node,.int .i64 r.prev,.int .i64 r.next,.int .i64 r.index,.string r.name,.string r.old,.bool r.had,.int .i64 r.count,.int .i64 r.size] 1 hb (by unfold maxLen;omega) rfl
theorem NZ (base B:Nat) (b s root h:Int) (live n:Nat) (g:Tr.G) (av:Int→Tr.Sl) (fr:List Nat) (vs vf:Value) (nd:Tr.GN) (w:World) (hm:TV base w B b s vs n (Tr.raw g av) vf fr live root) (hS:Sound b s n (Tr.raw g av) fr live) (eg:g h=some nd) (hp:nd.pa=0):
  Calls Tryz.prog 69 #[.pointer (some ⟨B,0,none⟩),.int .i64 h] w fun e w'=>e=.returned (.slice none 0 0)∧Below w.heap.size w w':=by
 go_enter Tryz.func69,Tryz.ntmps69
 go_wp2_with fail;refine (ig base B b s root h live n _ fr vs vf (Tr.fF g av h nd) _ hm hS (Tr.ah eg)).mono ?_;rintro e w2 ⟨gb,o,rfl,hpt,hb2⟩;have hnp:=(hm.below hb2).np hpt (Tr.ah eg);obtain⟨_,_,_,_,t4,_⟩:=hnp.cells;have X5:w2.cell? ⟨gb,o+4,none⟩=some (.int .i64 0):=by rw[t4];show some (Value.int .i64 nd.pa)=_;rw[hp]
 clear hm hS hnp t4 hp eg hpt;go_wp2_with fail
 go_ret
 exact⟨rfl,hb2⟩
theorem N7 (base B:Nat) (b s root h:Int) (live n:Nat) (g:Tr.G) (av:Int→Tr.Sl) (fr:List Nat) (vs vf:Value) (nd:Tr.GN) (w:World) (hm:TV base w B b s vs n (Tr.raw g av) vf fr live root) (hS:Sound b s n (Tr.raw g av) fr live) (hw:Tr.WF 0 g) (eg:g h=some nd) (hp:nd.pa≠0):
  Calls Tryz.prog 69 #[.pointer (some ⟨B,0,none⟩),.int .i64 h] w fun e w'=>∃ v,e=.returned v∧bO w.heap.size w' v [Tr.jH g 2 h]∧TV base w' B b s vs n (Tr.raw (Tr.jB g h) av) vf fr live root∧ay w w' (aD B vs vf) (aD B vs vf):=by
 rw[Tr.JR hw eg hp,JY];obtain⟨r,hr⟩:∃ r,Tr.jH g 2 h=r:=⟨_,rfl⟩
 obtain⟨q,ep,hk⟩:=hw.up h nd eg hp;have hkz:=hw.kG ep;have hps:h≠nd.pa:=fun e=>hw.iD eg e.symm;have hkq:=Tr.aR ep;have Li:Tr.prv (Tr.aj g nd.pa) h≠0→h≠Tr.prv (Tr.aj g nd.pa) h∧∃ d,Tr.raw g av (Tr.prv (Tr.aj g nd.pa) h)=some d:=fun e=>by
  have hm1:=Tr.JO e;obtain⟨m,e1,_⟩:=hw.dS hm1;refine⟨fun e2=>?_,_,Tr.ah e1⟩;rw[hkq] at e2 e;obtain⟨l1,l2,e3⟩:=List.append_of_mem hk;have hnd:=hw.nodup _ q ep;rw[e3] at hnd e2 e;have h2:h∉l2:=(List.nodup_cons.1 (List.nodup_append.1 hnd).2.1).1;rw[Tr.lD h2] at e2 e;exact (List.nodup_append.1 hnd).2.2 _ (Tr.oC e) h (by simp) e2.symm
 have Lj:Tr.nu (Tr.aj g nd.pa) h≠0→h≠Tr.nu (Tr.aj g nd.pa) h∧∃ d,Tr.raw g av (Tr.nu (Tr.aj g nd.pa) h)=some d:=fun e=>by
  have hm1:=Tr.Dy e;obtain⟨m,e1,_⟩:=hw.dS hm1;refine⟨fun e2=>?_,_,Tr.ah e1⟩;rw[hkq] at e2 e;obtain⟨l1,l2,e3⟩:=List.append_of_mem hk;have hnd:=hw.nodup _ q ep;rw[e3] at hnd e2 e;have h1:h∉l1:=fun hx=>(List.nodup_append.1 hnd).2.2 h hx h (by simp) rfl;have h2:h∉l2:=(List.nodup_cons.1 (List.nodup_append.1 hnd).2.1).1;rw[Tr.gV h1] at e2 e;exact h2 (by rw[e2];exact Tr.wU e)
 have er:=Tr.ah (av:=av) eg;have Uv:=Tr.ah (av:=av) ep;obtain⟨R,hR⟩:∃ R,Tr.raw g av=R:=⟨_,rfl⟩
 have hd4:(Tr.fF g av h nd).pa=nd.pa:=rfl;have hd7:(Tr.fF g av h nd).pr=Tr.prv (Tr.aj g nd.pa) h:=rfl;have Rq:(Tr.fF g av h nd).ne=Tr.nu (Tr.aj g nd.pa) h:=rfl;have kP:=fun (W:World) (hb:Below w.heap.size w W)=>tC base B b s root 2 h live n g av fr vs vf nd W (hm.below hb) hS hw eg;rw[hr] at kP;obtain⟨dh,hdh⟩:∃ d,Tr.fF g av h nd=d:=⟨_,rfl⟩
 rw[hdh] at er hd4 hd7 Rq;obtain⟨pr,hpr⟩:∃ X,Tr.prv (Tr.aj g nd.pa) h=X:=⟨_,rfl⟩
 obtain⟨ne,hne⟩:∃ X,Tr.nu (Tr.aj g nd.pa) h=X:=⟨_,rfl⟩
 obtain⟨pa,hpa⟩:∃ X,nd.pa=X:=⟨_,rfl⟩
 rw[hpa] at hpr hne;simp only[hpa,hpr,hne] at Li Lj hd4 hd7 Rq hps Uv hp ⊢;rw[hR] at hm hS er Uv Li Lj ⊢;rw[hr];have UK:=zh kP;clear kP hk hkz hkq hpr hne hpa hr hdh hR eg ep hw;obtain⟨dv,hv⟩:=some_or (R:=R) (c:=pr) (fun e=>(Li e).2);obtain⟨dn,hn⟩:=some_or (R:=R) (c:=ne) (fun e=>(Lj e).2);obtain⟨R1,Dp⟩:∃ R1,jy R pa pr ne=R1:=⟨_,rfl⟩
 have hS1:Sound b s n R1 fr live:=by rw[←Dp];exact hS.forth
 have EZ:R1 h=some dh:=by rw[←Dp,Lh hps (fun e=>(Li e).1)];exact er
 obtain⟨d1p,E5⟩:∃ d,R1 pa=some d:=by rw[←Dp];exact lS (by rw[Uv];rfl)
 obtain⟨d1n,e1n⟩:=some_or (R:=R1) (c:=ne) (fun e=>by rw[←Dp];exact lS (by rw[hn e];rfl));obtain⟨R2,hR2⟩:∃ R2,qR R1 pa ne pr=R2:=⟨_,rfl⟩
 have Mg:R2 h=some dh:=by rw[←hR2,NY hps (fun e=>(Lj e).1)];exact EZ
 rw[Dp,hR2];have HQ:=zh (And.intro Li Lj);clear Li Lj;have hc0:(pa == 0)=false:=by simpa using hp
 go_enter Tryz.func69,Tryz.ntmps69
 go_wp2_with fail;refine (ig base B b s root h live n _ fr vs vf dh _ hm hS er).mono ?_;rintro e w2 ⟨gb,o,rfl,hpt,hb2⟩;have hm2:=hm.below hb2;obtain⟨_,_,_,_,t4,_,_,_,_⟩:=(hm2.np hpt er).cells;rw[hd4] at t4;go_wp2_with fail;refine (UK.out w2 hb2).mono ?_;rintro e w3 ⟨rfl,hb3⟩;obtain⟨w4,hw4⟩:∃ w4,w3.alloc (.cells #[.int .i64 r.kind,.int .i64 r.target,.int .i64 r.node,.int .i64 r.prev,.int .i64 r.next,.int .i64 r.index,.string r.name,.string r.old,.bool r.had,.int .i64 r.count,.int .i64 r.size] 48)=w4:=⟨_,rfl⟩
 have hY:Whole w4 w3.heap.size #[.int .i64 r.kind,.int .i64 r.target,.int .i64 r.node,.int .i64 r.prev,.int .i64 r.next,.int .i64 r.index,.string r.name,.string r.old,.bool r.had,.int .i64 r.count,.int .i64 r.size] 48:=by rw[←hw4];exact Whole.new w3 _ _
 have WE:Below w2.heap.size w2 w4:=by rw[←hw4];exact hb3.alloc hb3.size _
 have bY:Below w.heap.size w w4:=hb2.trans (WE.mono hb2.size);have hbd:Below w.heap.size w w4.drew:=Below.drew bY;have nZ:=hm.below hbd;have kS:∀ (W:World) (R':Int→Option Tr.Nd),TV base W B b s vs n R' vf fr live root→R' h=some dh→W.cell? ⟨gb,o+4,none⟩=some (.int .i64 pa)∧W.cell? ⟨gb,o+7,none⟩=some (.int .i64 pr)∧W.cell? ⟨gb,o+8,none⟩=some (.int .i64 ne):=fun W R' a c=>by
  obtain⟨_,_,_,_,a4,_,_,a7,a8⟩:=(a.np hpt c).cells;rw[hd4] at a4;rw[hd7] at a7;rw[Rq] at a8;exact⟨a4,a7,a8⟩
 have hS0:w4.drew.cell? ⟨gb,o+4,none⟩=some (.int .i64 pa)∧w4.drew.cell? ⟨gb,o+7,none⟩=some (.int .i64 pr)∧w4.drew.cell? ⟨gb,o+8,none⟩=some (.int .i64 ne):=kS _ _ nZ er;have kF:=Cn base B b s root pa pr live n R fr vs vf _ dv w4.drew nZ hS Uv hv;have HKF:=zh kF;have RO:=zh nZ;have Bw:=zh hbd;have Zb:=zh er;have HK:=zh kS;have HE1:=zh EZ;have HE2:=zh Mg;have HR1:=zh Dp;have HR2:=zh hR2;have hgf:=(hm.lt gb hpt.foot).2;have hrl:w.heap.size≤w3.heap.size:=Nat.le_trans hb2.size hb3.size;have HF:=zh (fun (k:Nat) (hk:aD B vs vf k)=>(hm.lt k hk).2);clear hm hm2 nZ kF kS er t4 EZ Mg Dp hR2 hd4 hd7 Rq WE bY hbd;go_wp2_with fail;try rw[hw4]
 go_region_held3 (fun W=>W.cell? ⟨gb,o+4,none⟩=some (.int .i64 pa)∧W.cell? ⟨gb,o+7,none⟩=some (.int .i64 pr)∧W.cell? ⟨gb,o+8,none⟩=some (.int .i64 ne)) (first | exact hS0 | assumption) (first | (go_at_call 130;refine HKF.out.mono ?_;rintro e w5 ⟨g5,y5,rfl,hfp,hb5⟩;have NV:=RO.out.below hb5;obtain⟨k5,z5⟩:=hfp.cell NV Uv hv;have hS5:=HK.out w5 R NV Zb.out;obtain⟨xK,st6⟩:=hfp.put NV Uv hv ne;obtain⟨w6,kQ⟩:∃ w6,w5.setCell ⟨g5,y5,none⟩ (.int .i64 ne)=w6:=⟨_,rfl⟩;rw[kQ,HR1.out] at xK;rw[kQ] at st6;have Rh:=HK.out w6 R1 xK HE1.out;have HM6:=zh xK;have aal:=zh ((ay.of_below (F:=aD B vs vf) hb5).trans st6);clear NV xK st6 hfp))
 have WG:Below w6.heap.size w6 w6.drew:=⟨rfl,rfl,rfl,Nat.le_refl _,fun _ _=>rfl⟩
 have Qf:=HM6.out.below WG;have kB:=zT base B b s root pa ne live n R1 fr vs vf d1p d1n w6.drew Qf hS1 E5 e1n;have HKB:=zh kB;have aam:=zh Qf;have aan:w6.drew.cell? ⟨gb,o+4,none⟩=some (.int .i64 pa)∧w6.drew.cell? ⟨gb,o+7,none⟩=some (.int .i64 pr)∧w6.drew.cell? ⟨gb,o+8,none⟩=some (.int .i64 ne):=HK.out _ _ Qf HE1.out;have HY:=zh hY;clear kB Qf Rh hS0 hY;go_wp2_with fail
 go_region_held3 (fun W=>W.cell? ⟨gb,o+4,none⟩=some (.int .i64 pa)∧W.cell? ⟨gb,o+7,none⟩=some (.int .i64 pr)∧W.cell? ⟨gb,o+8,none⟩=some (.int .i64 ne)) (first | exact aan | assumption) (first | (go_at_call 131;refine HKB.out.mono ?_;rintro e w7 ⟨g7,y7,rfl,hbp,lK⟩;have qV:=aam.out.below lK;obtain⟨k7,z7⟩:=hbp.cell qV E5 e1n;have qW:=HK.out w7 R1 qV HE1.out;obtain⟨PE,st8⟩:=hbp.put qV E5 e1n pr;obtain⟨w8,hw8⟩:∃ w8,w7.setCell ⟨g7,y7,none⟩ (.int .i64 pr)=w8:=⟨_,rfl⟩;rw[hw8,HR2.out] at PE;rw[hw8] at st8;have hS8:=HK.out w8 R2 PE HE2.out;have HM8:=zh PE;have aao:=zh ((ay.of_below (F:=aD B vs vf) lK).trans st8);clear qV PE st8 hbp))
 have N8:=HM8.out.np hpt HE2.out;obtain⟨_,_,_,_,v4,_,_,v7,v8⟩:=N8.cells;have f4:=(N8 4 (by omega)).2;have f7:=(N8 7 (by omega)).2;have f8:=(N8 8 (by omega)).2;obtain⟨w9,wu⟩:∃ w9,(((w8.setCell ⟨gb,o+4,none⟩ (.int .i64 0)).setCell ⟨gb,o+7,none⟩ (.int .i64 0)).setCell ⟨gb,o+8,none⟩ (.int .i64 0))=w9:=⟨_,rfl⟩
 have tV:TV base w9 B b s vs n (Tr.upd R2 h fun n=>{ n with pa:=0,pr:=0,ne:=0 }) vf fr live root∧ay w8 w9 (aD B vs vf) (aD B vs vf):=by
  obtain⟨a1,s1⟩:=HM8.out.mE (j:=4) (v:=.int .i64 0) hpt HE2.out (fun n=>{ n with pa:=0 }) rfl (by omega) rfl;obtain⟨a2,s2⟩:=a1.mE (j:=7) (v:=.int .i64 0) hpt (Tr.kK HE2.out) (fun n=>{ n with pr:=0 }) rfl (by omega) rfl;obtain⟨a3,s3⟩:=a2.mE (j:=8) (v:=.int .i64 0) hpt (Tr.kK (Tr.kK HE2.out)) (fun n=>{ n with ne:=0 }) rfl (by omega) rfl;rw[yI,yI] at a3;rw[←wu];exact⟨a3,(s1.trans s2).trans s3⟩
 obtain⟨tV,xH⟩:=tV;have stA:ay w4 w9 (aD B vs vf) (aD B vs vf):=(ay.of_below (F:=aD B vs vf) (show Below w4.heap.size w4 w4.drew from⟨rfl,rfl,rfl,Nat.le_refl _,fun _ _=>rfl⟩)).trans (aal.out.trans ((ay.of_below (F:=aD B vs vf) WG).trans (aao.out.trans xH)));have GJ:=HY.out.turns stA.1 (fun hk=>by have:=HF.out _ hk;omega);have x0:w9.cell? ⟨w3.heap.size,0,none⟩=some (.int .i64 r.kind):=GJ.cell 0;have x1:w9.cell? ⟨w3.heap.size,1,none⟩=some (.int .i64 r.target):=GJ.cell 1;have x2:w9.cell? ⟨w3.heap.size,2,none⟩=some (.int .i64 r.node):=GJ.cell 2;have x3:w9.cell? ⟨w3.heap.size,3,none⟩=some (.int .i64 r.prev):=GJ.cell 3;have x4:w9.cell? ⟨w3.heap.size,4,none⟩=some (.int .i64 r.next):=GJ.cell 4;have x5:w9.cell? ⟨w3.heap.size,5,none⟩=some (.int .i64 r.index):=GJ.cell 5;have x6:w9.cell? ⟨w3.heap.size,6,none⟩=some (.string r.name):=GJ.cell 6;have x7:w9.cell? ⟨w3.heap.size,7,none⟩=some (.string r.old):=GJ.cell 7;have x8:w9.cell? ⟨w3.heap.size,8,none⟩=some (.bool r.had):=GJ.cell 8;have x9:w9.cell? ⟨w3.heap.size,9,none⟩=some (.int .i64 r.count):=GJ.cell 9;have x10:w9.cell? ⟨w3.heap.size,10,none⟩=some (.int .i64 r.size):=GJ.cell 10;have bY:Below w.heap.size w w4:=Bw.out.trans ⟨rfl,rfl,rfl,Nat.le_refl _,fun _ _=>rfl⟩;have Uo:ay w w9 (aD B vs vf) (aD B vs vf):=(ay.of_below (F:=aD B vs vf) bY).trans stA;have AQ:=Uo.1.size;have hbl:=(Below.refl _ w9).alloc (Nat.le_refl _) (.cells #[.int .i64 r.kind,.int .i64 r.target,.int .i64 r.node,.int .i64 r.prev,.int .i64 r.next,.int .i64 r.index,.string r.name,.string r.old,.bool r.had,.int .i64 r.count,.int .i64 r.size] 48);have SC:=zh (tV.below hbl);have AP:=zh (Uo.trans (.of_below hbl));have HRR:=zh (mM w9 r w.heap.size AQ);clear tV xH stA Uo GJ N8 v4 v7 v8 bY hbl;go_wp2_with fail;(try rw[wu]);go_wp2_with fail
 go_ret
 exact⟨_,rfl,HRR.out,SC.out,AP.out⟩
end
section
open Go.RowKit Go.Shelf
attribute [local go_sem] Oper.semAt_some
theorem tq (B:Nat) (h:Int) (w:World):
  Calls Tryz.prog 68 #[.pointer (some ⟨B,0,none⟩),.int .i64 h] w fun e w'=>
   e=.returned (.func (.func 129) #[] #[.pointer (some ⟨w.heap.size,0,none⟩),.pointer (some ⟨w.heap.size+1,0,none⟩)])∧w'=(w.alloc (.cells #[.pointer (some ⟨B,0,none⟩)] 29)).alloc (.cells #[.int .i64 h] 3):=by
 go_enter Tryz.func68,Tryz.ntmps68
 go_wp2_with fail
 go_ret
 exact⟨rfl,rfl⟩
theorem DZ (B:Nat) (h:Int) (w:World):
  Calls Tryz.prog 86 #[.pointer (some ⟨B,0,none⟩),.int .i64 h] w fun e w'=>
   e=.returned (.func (.func 143) #[] #[.pointer (some ⟨w.heap.size+1,0,none⟩),.pointer (some ⟨w.heap.size,0,none⟩)])∧w'=(w.alloc (.cells #[.pointer (some ⟨B,0,none⟩)] 29)).alloc (.cells #[.int .i64 h] 3):=by
 go_enter Tryz.func86,Tryz.ntmps86
 go_wp2_with fail
 go_ret
 exact⟨rfl,rfl⟩
structure RV (KI:World→Prop) (B bt bh:Nat) (b s h:Int) (l:List Int):Prop where
 read:∀ W,KI W→∃ (base n live:Nat) (vs vf:Value) (R:Int→Option Tr.Nd) (fr:List Nat) (root:Int),TV base W B b s vs n R vf fr live root∧Sound b s n R fr live∧((R h).getD Tr.wD).fi=Tr.fs l∧∀ x∈l,∃ e,R x=some e∧e.ne=Tr.nu l x
 below:∀ W W',Below W.heap.size W W'→KI W→KI W'
 box:∀ W,KI W→W.cell? ⟨bt,0,none⟩=some (.pointer (some ⟨B,0,none⟩))∧W.cell? ⟨bh,0,none⟩=some (.int .i64 h)
theorem wZ {l A C:List Int} {v:Int} (e:l=A++v::C) (hnd:l.Nodup) (h0:0∉l):Tr.nu l v=Tr.fs C∧l.idxOf v=A.length∧A.length+1≤l.idxOf (Tr.fs C):=by
 have hv:v∉A:=fun hm=>by rw[e] at hnd;exact (List.nodup_append.1 hnd).2.2 _ hm _ (by simp) rfl
 refine⟨by rw[e];exact Tr.gV hv,by rw[e];exact Tr.fq hv,?_⟩;cases C with
 | nil=>
  have:l.idxOf (0:Int)=l.length:=List.idxOf_eq_length h0;show _≤l.idxOf (0:Int);rw[this,e];simp
 | cons y r=>
  have e2:l=(A++[v])++y::r:=by rw[e];simp
  have hy:y∉A++[v]:=fun hm=>by rw[e2] at hnd;exact (List.nodup_append.1 hnd).2.2 _ hm _ (by simp) rfl
  show _≤l.idxOf y;rw[e2,Tr.fq hy];simp
theorem ER (KI:World→Prop) (B bt bh lp n:Nat) (b s h:Int) (l:List Int) (J Jx:List {x:Int // x∈l}→World→Prop) (W:World) (hK:RV KI B bt bh b s h l) (hh:lU h) (hnd:l.Nodup) (h0l:0∉l) (hn:2≤n)
  (hJ:AbidesFrom W.heap.size J)
  (hY:∀ pre x W1,J pre W1→pre.length<l.length→YieldAt Fence.wide (n - 1) Tryz.prog lp #[.int .i64 x.1] W1 fun e W'=>(e=.returned (.bool true)∧J (pre++[x]) W'∧(KI W1→KI W'))∨(e=.returned (.bool false)∧Jx (pre++[x]) W'))
  (hKW:KI W) (h0:J [] W):
  CallsIn Fence.wide n Tryz.prog 129 #[.func (.yield lp) #[] #[],.pointer (some ⟨bt,0,none⟩),.pointer (some ⟨bh,0,none⟩)] W fun e W'=>(∃ v,e=.returned v)∧
   ((∃ xs,xs=l.attach∧J xs W')∨(∃ pre,pre <+: l.attach∧Jx pre W')):=by
 obtain⟨base,m,live,vs,vf,R,fr,root,hT,hS,hfi,hne⟩:=hK.read W hKW;obtain⟨c0,c1⟩:=hK.box W hKW;refine callsIn_of_wp Tryz.func129 rfl trivial ?_ rfl;simp only[Tryz.ntmps129,List.size_toArray,List.length_cons,List.length_nil,Nat.reduceAdd,Nat.reduceSub,Array.replicate_succ,Array.replicate_zero,List.push_toArray,List.append_toArray,List.nil_append,List.cons_append]
 gi_wp2_with fail
 refine⟨trivial,fun _=>by omega,callsIn_wide.2 ((jO base B b s root h live m R fr vs vf W hT hS hh).mono ?_)⟩;rintro e w2 ⟨g,o,rfl,hnp,hb2⟩;obtain⟨_,_,_,_,_,t5,_,_,_⟩:=hnp.cells;rw[hfi] at t5;have aap:=hK.below W w2 hb2 hKW;have h02:J [] w2:=hJ [] W w2 none h0 (ak hb2 none) (fun r e=>by cases e);clear hT hS hfi hne hnp c0 c1
 gi_wp2_with fail
 gi_loopw [4] (fun k wr=>∃ pre rest:List {x:Int // x∈l},k=.int .i64 (Tr.fs (rest.map (·.1)))∧l.attach=pre++rest∧KI wr∧J pre wr) (fun k _=>l.length - l.idxOf (intOf k))
 case atStart=>exact⟨[],l.attach,by simp,rfl,aap,h02⟩
 case round=>
  obtain⟨pre,rest,rfl,hat,hKr,Rs⟩:=hrel;have hmap:pre.map (·.1)++rest.map (·.1)=l:=by
   have:=congrArg (List.map (·.1)) hat;rw[List.map_append,List.attach_map_subtype_val] at this;exact this.symm
  obtain⟨q0,q1⟩:=hK.box wr hKr;cases rest with
  | nil=>
   have hat':l.attach=pre:=by rw[hat,List.append_nil]
   have HA:=zh hat';clear hat hat' hmap hY hnd
   gi_wp2_with fail
   go_end0
   exact⟨⟨_,rfl⟩,.inl ⟨pre,HA.out.symm,Rs⟩⟩
  | cons x rest=>
   have hfs:Tr.fs ((x::rest).map (·.1))=x.1:=rfl;have hx0:x.1≠0:=fun e=>h0l (e▸x.2);have hc1:(x.1 != 0)=true:=by simpa using hx0
   have hlen:pre.length<l.length:=by
    have:=congrArg List.length hmap;simp at this;omega
   obtain⟨hnx,hidx,hidx2⟩:=wZ (A:=pre.map (·.1)) (v:=x.1) (C:=rest.map (·.1)) hmap.symm hnd h0l;rw[List.length_map] at hidx hidx2;rw[hfs];obtain⟨fn,tmps,assign,body,hy,hR⟩:=hY pre x wr Rs hlen;have HAT:=zh hat;have JC:=zh hnx;have WH:=zh (And.intro hidx hidx2);have hxm:=x.2;clear hat hmap hY hfs hnx hidx hidx2
   gi_wp2_with fail
   refine⟨fun _=>by omega,hR.mono ?_⟩;rintro e w3 (⟨rfl,hJ3,hk3⟩ | ⟨rfl,hJx3⟩)
   ·have hK3:=hk3 hKr;obtain⟨base,m,live,vs,vf,R,fr,root,hT,hS,_,hne⟩:=hK.read w3 hK3;obtain⟨c0,c1⟩:=hK.box w3 hK3;obtain⟨d,ed,hdn⟩:=hne x.1 hxm;have hxi:=(bR hS (h:=x.1) (by rw[ed];rfl)).1
    gi_wp2_with fail
    refine⟨trivial,fun _=>by omega,callsIn_wide.2 ((jO base B b s root x.1 live m R fr vs vf w3 hT hS hxi).mono ?_)⟩;rintro e w4 ⟨g,o,rfl,hnp,hb4⟩;rw[ed] at hnp;obtain⟨_,_,_,_,_,_,_,_,t8⟩:=hnp.cells;have t8':w4.cell? ⟨g,o+8,none⟩=some (.int .i64 (Tr.fs (rest.map (·.1)))):=by rw[t8,←JC.out,←hdn];rfl
    have hK4:=hK.below w3 w4 hb4 hK3;clear hT hS hne hnp t8 ed hdn
    gi_wp2_with fail
    go_roundw
    case rel=>
     exact⟨pre++[x],rest,rfl,by rw[HAT.out];simp,hK4,hJ _ w3 w4 none hJ3 (ak hb4 none) (fun r e=>by cases e)⟩
    case measure=>
     have:=WH.out;show l.length - l.idxOf (Tr.fs (rest.map (·.1)))<l.length - l.idxOf x.1;omega
   ·gi_wp2_with fail
    refine bodyPost_ret (results_none rfl _ _ _) rfl ?_;exact⟨⟨_,rfl⟩,.inr ⟨_,⟨rest,by rw[HAT.out];simp⟩,hJx3⟩⟩
structure WI (KI:World→Prop) (B bt bh:Nat) (b s h:Int) (l:List Int):Prop where
 read:∀ W,KI W→∃ (base n live:Nat) (vs vf:Value) (R:Int→Option Tr.Nd) (fr:List Nat) (root:Int),TV base W B b s vs n R vf fr live root∧Sound b s n R fr live∧(l=[]→R h=none)∧∀ x∈l,∃ e,R x=some e∧e.pa=Tr.nu l x
 below:∀ W W',Below W.heap.size W W'→KI W→KI W'
 box:∀ W,KI W→W.cell? ⟨bt,0,none⟩=some (.pointer (some ⟨B,0,none⟩))∧W.cell? ⟨bh,0,none⟩=some (.int .i64 h)
theorem TG (KI:World→Prop) (B bt bh lp n:Nat) (b s h:Int) (l:List Int) (J Jx:List {x:Int // x∈l}→World→Prop) (W:World) (hK:WI KI B bt bh b s h l) (hh:lU h) (hhd:l≠[]→Tr.fs l=h) (hnd:l.Nodup) (h0l:0∉l) (hn:2≤n)
  (hJ:AbidesFrom W.heap.size J)
  (hY:∀ pre x W1,J pre W1→pre.length<l.length→YieldAt Fence.wide (n - 1) Tryz.prog lp #[.int .i64 x.1] W1 fun e W'=>(e=.returned (.bool true)∧J (pre++[x]) W'∧(KI W1→KI W'))∨(e=.returned (.bool false)∧Jx (pre++[x]) W'))
  (hKW:KI W) (h0:J [] W):
  CallsIn Fence.wide n Tryz.prog 143 #[.func (.yield lp) #[] #[],.pointer (some ⟨bh,0,none⟩),.pointer (some ⟨bt,0,none⟩)] W fun e W'=>(∃ v,e=.returned v)∧
   ((∃ xs,xs=l.attach∧J xs W')∨(∃ pre,pre <+: l.attach∧Jx pre W')):=by
 obtain⟨c0,c1⟩:=hK.box W hKW;refine callsIn_of_wp Tryz.func143 rfl trivial ?_ rfl;simp only[Tryz.ntmps143,List.size_toArray,List.length_cons,List.length_nil,Nat.reduceAdd,Nat.reduceSub,Array.replicate_succ,Array.replicate_zero,List.push_toArray,List.append_toArray,List.nil_append,List.cons_append]
 gi_wp2_with fail
 gi_loopw [4] (fun k wr=>∃ (pre rest:List {x:Int // x∈l}) (y:Int),k=.int .i64 y∧(rest=[]→(l=[]∧y=h)∨y=0)∧(rest≠[]→y=Tr.fs (rest.map (·.1)))∧l.attach=pre++rest∧KI wr∧J pre wr) (fun k _=>l.length - l.idxOf (intOf k))
 case atStart=>
  refine⟨[],l.attach,h,rfl,fun e=>.inl ⟨by simpa using e,rfl⟩,fun e=>?_,rfl,hKW,h0⟩;rw[List.attach_map_subtype_val];exact (hhd (fun e'=>e (by simp[e']))).symm
 case round=>
  obtain⟨pre,rest,y,rfl,hr0,hr1,hat,hKr,Rs⟩:=hrel;have hmap:pre.map (·.1)++rest.map (·.1)=l:=by
   have:=congrArg (List.map (·.1)) hat;rw[List.map_append,List.attach_map_subtype_val] at this;exact this.symm
  obtain⟨q0,q1⟩:=hK.box wr hKr;obtain⟨base,m,live,vs,vf,R,fr,root,hT,hS,hnone,hne⟩:=hK.read wr hKr;cases rest with
  | nil=>
   have hy:R y=none∧lU y:=by
    rcases hr0 rfl with ⟨e1,e2⟩ | e
    ·rw[e2];exact⟨hnone e1,hh⟩
    ·rw[e];exact⟨hS.zero (Int.le_refl 0),by constructor<;>omega⟩
   have hat':l.attach=pre:=by rw[hat,List.append_nil]
   have HA:=zh hat';have HH:=zh (vT base B b s root y live m R fr vs vf wr hT hS hy.2);have YF:=zh hy.1;clear hat hat' hmap hY hnd hr0 hr1 hT hS hnone hne hy
   gi_wp2_with fail
   refine⟨trivial,fun _=>by omega,callsIn_wide.2 (HH.out.mono ?_)⟩;rintro e w4 ⟨rfl,hb4⟩;have TH:=hJ _ wr w4 none Rs (ak hb4 none) (fun r e=>by cases e);rw[YF.out]
   gi_wp2_with fail
   go_end0
   exact⟨⟨_,rfl⟩,.inl ⟨pre,HA.out.symm,TH⟩⟩
  | cons x rest=>
   have hyx:y=x.1:=hr1 (by simp);subst hyx;have hlen:pre.length<l.length:=by
    have:=congrArg List.length hmap;simp at this;omega
   obtain⟨hnx,hidx,hidx2⟩:=wZ (A:=pre.map (·.1)) (v:=x.1) (C:=rest.map (·.1)) hmap.symm hnd h0l;rw[List.length_map] at hidx hidx2;obtain⟨d,ed,hdn⟩:=hne x.1 x.2;have hxi:=(bR hS (h:=x.1) (by rw[ed];rfl)).1;have HH:=zh (vT base B b s root x.1 live m R fr vs vf wr hT hS hxi);have HAT:=zh hat;have JC:=zh hnx;have WH:=zh (And.intro hidx hidx2);have HED:=zh ed;have hxm:=x.2;clear hat hmap hnx hidx hidx2 hr0 hr1 hT hS hnone hne hdn ed
   gi_wp2_with fail
   refine⟨trivial,fun _=>by omega,callsIn_wide.2 (HH.out.mono ?_)⟩;rintro e w4 ⟨rfl,hb4⟩;have TH:=hJ _ wr w4 none Rs (ak hb4 none) (fun r e=>by cases e);have hK4:=hK.below wr w4 hb4 hKr;obtain⟨fn,tmps,assign,body,hy,hR⟩:=hY pre x w4 TH hlen;rw[HED.out];clear hY
   gi_wp2_with fail
   refine⟨fun _=>by omega,hR.mono ?_⟩;rintro e w3 (⟨rfl,hJ3,hk3⟩ | ⟨rfl,hJx3⟩)
   ·have hK3:=hk3 hK4;obtain⟨base,m,live,vs,vf,R,fr,root,hT,hS,_,hne⟩:=hK.read w3 hK3;obtain⟨c0,c1⟩:=hK.box w3 hK3;obtain⟨d,ed,hdn⟩:=hne x.1 hxm
    gi_wp2_with fail
    refine⟨trivial,fun _=>by omega,callsIn_wide.2 ((jO base B b s root x.1 live m R fr vs vf w3 hT hS hxi).mono ?_)⟩;rintro e w5 ⟨g,o,rfl,hnp,hb5⟩;rw[ed] at hnp;obtain⟨_,_,_,_,t4,_,_,_,_⟩:=hnp.cells;have X5:w5.cell? ⟨g,o+4,none⟩=some (.int .i64 (Tr.fs (rest.map (·.1)))):=by rw[t4,←JC.out,←hdn];rfl
    have RF:=hK.below w3 w5 hb5 hK3;clear hT hS hne hnp t4 ed hdn
    gi_wp2_with fail
    go_roundw
    case rel=>
     exact⟨pre++[x],rest,_,rfl,fun e=>.inr (by rw[e];rfl),fun _=>rfl,by rw[HAT.out];simp,RF,hJ _ w3 w5 none hJ3 (ak hb5 none) (fun r e=>by cases e)⟩
    case measure=>
     have:=WH.out;show l.length - l.idxOf (Tr.fs (rest.map (·.1)))<l.length - l.idxOf x.1;omega
   ·gi_wp2_with fail
    refine bodyPost_ret (results_none rfl _ _ _) rfl ?_;exact⟨⟨_,rfl⟩,.inr ⟨_,⟨rest,by rw[HAT.out];simp⟩,hJx3⟩⟩
end
section
open Go.RowKit Go.Shelf
theorem Bd (base B:Nat) (b s root x t:Int) (live n:Nat) (g:Tr.G) (av:Int→Tr.Sl) (fr:List Nat) (vs vf:Value) (nx:Tr.GN) (w:World) (hm:TV base w B b s vs n (Tr.raw g av) vf fr live root) (hS:Sound b s n (Tr.raw g av) fr live) (hw:Tr.WF 0 g) (ex:g x=some nx) (ht:t∈Tr.dz g x):
  Calls Tryz.prog 88 #[.pointer (some ⟨B,0,none⟩),.int .i64 x,.int .i64 t] w fun e w'=>e=.returned (.int .i64 (Tr.F6 g t x))∧Below w.heap.size w w':=by
 have hkx:=Tr.aR ex;have hki:∀ k∈Tr.aj g x,(g k).isSome:=fun k hk=>by obtain⟨m,e,_⟩:=hw.dS hk;rw[e];rfl
 have hk0:0∉Tr.aj g x:=hw.lX x;by_cases hz:Tr.fs nx.kids=0
 ·have hke:Tr.aj g x=[]:=Tr.tN hk0 (by rw[hkx];exact hz);have hr:Tr.F6 g t x=Tr.fs (Tr.rest g t (Tr.dz g x)):=by unfold Tr.F6;rw[hke];rfl
  obtain⟨X,hX⟩:∃ X,Tr.F6 g t x=X:=⟨_,rfl⟩
  rw[hX] at hr ⊢;have hgt:(g t).isSome:=(hw.eO x).1.mem ht;have ht0:t≠0:=fun e=>by rw[e,hw.zero] at hgt;cases hgt
  have HR:=zh hr;have HT:=zh ht;clear hr hX ht hke hki hk0 hkx
  go_enter Tryz.func88,Tryz.ntmps88
  go_wp2_with fail;refine (ig base B b s root x live n _ fr vs vf (Tr.fF g av x nx) w hm hS (Tr.ah ex)).mono ?_;rintro e w2 ⟨gb,o,rfl,hpt,hb2⟩;obtain⟨_,_,_,_,_,t5,_,_,_⟩:=((hm.below hb2).np hpt (Tr.ah ex)).cells;have t5':w2.cell? ⟨gb,o+5,none⟩=some (.int .i64 0):=by rw[t5,←hz];rfl
  have HE:=zh ex;clear t5 hz ex hpt;go_wp2_with fail
  go_loopw [1,8] (fun hv nv wr=>∃ (y:Int) (l:List Int),hv=.int .i64 y∧Tr.Up g y l∧t∈l∧X=Tr.fs (Tr.rest g t l)∧Below w.heap.size w wr) (fun hv _ _=>(Tr.dz g (intOf hv)).length)
  case atStart=>exact⟨x,Tr.dz g x,rfl,(hw.eO x).1,HT.out,HR.out,hb2⟩
  case round=>
   obtain⟨y,l,rfl,hu,htl,hX,hbr⟩:=hrel;have hlu:=hw.kL hu;cases hu with
   | out e=>cases htl
   | @node _ m l e hu=>
    by_cases WJ:y=t
    ·have hX0:X=0:=by rw[hX,WJ,Tr.zK];rfl
     have HX:=zh hX0;subst WJ;have hq:(y != y)=false:=by simp
     clear hX hX0 htl hu hlu;go_wp2_with fail
     go_ret
     exact⟨kJ HX.out.symm,hbr⟩
    ·have hy0:y≠0:=fun e1=>by rw[e1,hw.zero] at e;cases e
     have hq1:(y != t)=true:=by simpa using WJ
     have hq2:(y != 0)=true:=by simpa using hy0
     have hst:=hw.rest_step e WJ l;rw[←hX] at hst;have WK:t∈l:=by rcases List.mem_cons.1 htl with e1 | e1;exact absurd e1.symm WJ;exact e1
     have hmr:=hm.below hbr;have HST:=zh hst;have HE2:=zh e;have Xt:=zh WK;have HLU:=zh hlu;have HUU:=zh hu;clear hX hst htl WK hlu hu e;go_wp2_with fail;refine (ig base B b s root y live n _ fr vs vf (Tr.fF g av y m) wr hmr hS (Tr.ah HE2.out)).mono ?_;rintro e w4 ⟨gb4,o4,rfl,WL,hb4⟩;obtain⟨_,_,_,_,t4,_,_,_,t8⟩:=((hmr.below hb4).np WL (Tr.ah HE2.out)).cells;have X5:w4.cell? ⟨gb4,o4+4,none⟩=some (.int .i64 m.pa):=t4;have t8':w4.cell? ⟨gb4,o4+8,none⟩=some (.int .i64 (Tr.nu (Tr.aj g m.pa) y)):=t8;have hb5:Below w.heap.size w w4:=hbr.trans (hb4.mono hbr.size);obtain⟨N,hN⟩:∃ N,Tr.nu (Tr.aj g m.pa) y=N:=⟨_,rfl⟩
     rw[hN] at t8';have HN:=zh hN;clear t4 t8 hN hmr WL;by_cases hnz:N=0
     ·have hX2:X=Tr.fs (Tr.rest g t l):=by rw[HST.out,HN.out,if_pos hnz]
      subst hnz;have fE:=zh hX2;clear hX2;go_wp2_with fail
      go_roundw
      case rel=>exact⟨m.pa,l,rfl,HUU.out,Xt.out,fE.out,hb5⟩
      case measure=>
       show (Tr.dz g m.pa).length<(Tr.dz g y).length;rw[hw.bQ HE2.out];simp
     ·have hX2:X=N:=by rw[HST.out,HN.out,if_neg hnz]
      have hq3:(N != 0)=true:=by simpa using hnz
      have fE:=zh hX2;clear hX2;go_wp2_with fail
      go_ret
      exact⟨kJ fE.out.symm,hb5⟩
 ·have hr:Tr.F6 g t x=Tr.fs nx.kids:=by
   unfold Tr.F6;rw[Tr.JU hw _ hki,if_neg (fun e=>hz (by rw[←hkx,e];rfl)),hkx]
  rw[hr];have hq:(Tr.fs nx.kids != 0)=true:=by simpa using hz
  clear ht hkx hki hk0 hr
  go_enter Tryz.func88,Tryz.ntmps88
  go_wp2_with fail;refine (ig base B b s root x live n _ fr vs vf (Tr.fF g av x nx) w hm hS (Tr.ah ex)).mono ?_;rintro e w2 ⟨gb,o,rfl,hpt,hb2⟩;obtain⟨_,_,_,_,_,t5,_,_,_⟩:=((hm.below hb2).np hpt (Tr.ah ex)).cells;have t5':w2.cell? ⟨gb,o+5,none⟩=some (.int .i64 (Tr.fs nx.kids)):=t5;clear t5 hm hS hpt;go_wp2_with fail
  go_ret
  exact⟨rfl,hb2⟩
end
section
open Go.RowKit Go.Shelf
attribute [local go_sem] Oper.semAt_some
theorem oW (B:Nat) (h:Int) (w:World):
  Calls Tryz.prog 31 #[.pointer (some ⟨B,0,none⟩),.int .i64 h] w fun e w'=>
   e=.returned (.func (.func 87) #[] #[.pointer (some ⟨w.heap.size,0,none⟩),.pointer (some ⟨w.heap.size+1,0,none⟩)])∧w'=(w.alloc (.cells #[.pointer (some ⟨B,0,none⟩)] 29)).alloc (.cells #[.int .i64 h] 3):=by
 go_enter Tryz.func31,Tryz.ntmps31
 go_wp2_with fail
 go_ret
 exact⟨rfl,rfl⟩
structure WM (KI:World→Prop) (B bt bh:Nat) (b s h:Int) (g:Tr.G):Prop where
 read:∀ W,KI W→∃ (base n live:Nat) (vs vf:Value) (av:Int→Tr.Sl) (fr:List Nat) (root:Int),TV base W B b s vs n (Tr.raw g av) vf fr live root∧Sound b s n (Tr.raw g av) fr live
 below:∀ W W',Below W.heap.size W W'→KI W→KI W'
 box:∀ W,KI W→W.cell? ⟨bt,0,none⟩=some (.pointer (some ⟨B,0,none⟩))∧W.cell? ⟨bh,0,none⟩=some (.int .i64 h)
theorem N9 (KI:World→Prop) (B bt bh lp n:Nat) (b s h:Int) (g:Tr.G) (hw:Tr.WF 0 g) (J Jx:List {x:Int // x∈Tr.au g h}→World→Prop) (W:World) (hK:WM KI B bt bh b s h g) (hh:lU h) (hn:2≤n)
  (hJ:AbidesFrom W.heap.size J)
  (hY:∀ pre x W1,J pre W1→pre.length<(Tr.au g h).length→YieldAt Fence.wide (n - 1) Tryz.prog lp #[.int .i64 x.1] W1 fun e W'=>(e=.returned (.bool true)∧J (pre++[x]) W'∧(KI W1→KI W'))∨(e=.returned (.bool false)∧Jx (pre++[x]) W'))
  (hKW:KI W) (h0:J [] W):
  CallsIn Fence.wide n Tryz.prog 87 #[.func (.yield lp) #[] #[],.pointer (some ⟨bt,0,none⟩),.pointer (some ⟨bh,0,none⟩)] W fun e W'=>(∃ v,e=.returned v)∧
   ((∃ xs,xs=(Tr.au g h).attach∧J xs W')∨(∃ pre,pre <+: (Tr.au g h).attach∧Jx pre W')):=by
 obtain⟨c0,c1⟩:=hK.box W hKW;obtain⟨base,m,live,vs,vf,av,fr,root,hT,hS⟩:=hK.read W hKW;have HH:=zh (vT base B b s root h live m _ fr vs vf W hT hS hh);obtain⟨l,hl⟩:∃ l,Tr.au g h=l:=⟨_,rfl⟩
 cases eg:g h with
 | none=>
  have hnil:Tr.au g h=[]:=Tr.lq eg;have hraw:=Tr.aV (av:=av) eg;have HAT:=zh (show ([]:List {x:Int // x∈Tr.au g h})=(Tr.au g h).attach by
   symm;exact List.eq_nil_of_length_eq_zero (by rw[List.length_attach,hnil];rfl))
  have TI:=zh hraw;clear hT hS hY hl hnil hraw;refine callsIn_of_wp Tryz.func87 rfl trivial ?_ rfl;simp only[Tryz.ntmps87,List.size_toArray,List.length_cons,List.length_nil,Nat.reduceAdd,Nat.reduceSub,Array.replicate_succ,Array.replicate_zero,List.push_toArray,List.append_toArray,List.nil_append,List.cons_append]
  gi_wp2_with fail
  refine⟨trivial,fun _=>by omega,callsIn_wide.2 (HH.out.mono ?_)⟩;rintro e w4 ⟨rfl,hb4⟩;have TH:=hJ _ W w4 none h0 (ak hb4 none) (fun r e=>by cases e);rw[TI.out]
  gi_wp2_with fail
  refine bodyPost_ret (results_none rfl _ _ _) rfl ?_;exact⟨⟨_,rfl⟩,.inl ⟨[],HAT.out,TH⟩⟩
 | some nh=>
  have hraw:=Tr.ah (av:=av) eg;have hw1:=hw.dR eg;have hz:h≠0:=fun e=>by rw[e,hw.zero] at eg;cases eg
  have WO:=hw.qM h;have h0w:=hw.wV h;have TI:=zh hraw;clear hT hS hl hraw;refine callsIn_of_wp Tryz.func87 rfl trivial ?_ rfl;simp only[Tryz.ntmps87,List.size_toArray,List.length_cons,List.length_nil,Nat.reduceAdd,Nat.reduceSub,Array.replicate_succ,Array.replicate_zero,List.push_toArray,List.append_toArray,List.nil_append,List.cons_append]
  gi_wp2_with fail
  refine⟨trivial,fun _=>by omega,callsIn_wide.2 (HH.out.mono ?_)⟩;rintro e w4 ⟨rfl,hb4⟩;have TH:=hJ _ W w4 none h0 (ak hb4 none) (fun r e=>by cases e);have hK4:=hK.below W w4 hb4 hKW;rw[TI.out];obtain⟨d0,d1⟩:=hK.box w4 hK4;clear c0 c1
  gi_wp2_with fail
  gi_loopw [4] (fun k wr=>∃ pre rest:List {x:Int // x∈Tr.au g h},k=.int .i64 (Tr.fs (rest.map (·.1)))∧(Tr.au g h).attach=pre++rest∧(∀ y r,rest.map (·.1)=y::r→(g y).isSome∧h∈Tr.dz g y∧r=(Tr.aj g y).flatMap (Tr.au g)++Tr.rest g h (Tr.dz g y))∧KI wr∧J pre wr) (fun k _=>(Tr.au g h).length - (Tr.au g h).idxOf (intOf k))
  case atStart=>
   refine⟨[],(Tr.au g h).attach,by rw[List.attach_map_subtype_val,hw1];rfl,rfl,fun y r e=>?_,hK4,TH⟩;rw[List.attach_map_subtype_val,hw1] at e;injection e with e1 e2;subst e1;refine⟨by rw[eg];rfl,by rw[hw.bQ eg];simp,?_⟩;rw[hw.bQ eg,Tr.zK,List.append_nil,Tr.aR eg];exact e2.symm
  case round=>
   obtain⟨pre,rest,rfl,hat,hst,hKr,Rs⟩:=hrel;have hmap:pre.map (·.1)++rest.map (·.1)=Tr.au g h:=by
    have:=congrArg (List.map (·.1)) hat;rw[List.map_append,List.attach_map_subtype_val] at this;exact this.symm
   obtain⟨q0,q1⟩:=hK.box wr hKr;cases rest with
   | nil=>
    have hat':(Tr.au g h).attach=pre:=by rw[hat,List.append_nil]
    have HA:=zh hat';clear hat hat' hmap hY WO hst hw1 h0w
    gi_wp2_with fail
    go_end0
    exact⟨⟨_,rfl⟩,.inl ⟨pre,HA.out.symm,Rs⟩⟩
   | cons x rest=>
    have hfs:Tr.fs ((x::rest).map (·.1))=x.1:=rfl;have hx0:x.1≠0:=fun e=>h0w (e▸x.2);have hc1:(x.1 != 0)=true:=by simpa using hx0
    have hlen:pre.length<(Tr.au g h).length:=by
     have:=congrArg List.length hmap;simp at this;omega
    obtain⟨_,hidx,hidx2⟩:=wZ (A:=pre.map (·.1)) (v:=x.1) (C:=rest.map (·.1)) hmap.symm WO h0w;rw[List.length_map] at hidx hidx2;obtain⟨hgx,hux,hrx⟩:=hst x.1 (rest.map (·.1)) rfl;obtain⟨nx,ex⟩:=Option.isSome_iff_exists.1 hgx;have WQ:Tr.F6 g h x.1=Tr.fs (rest.map (·.1)):=by unfold Tr.F6;rw[←hrx]
    have WR:∀ y r,rest.map (·.1)=y::r→(g y).isSome∧h∈Tr.dz g y∧r=(Tr.aj g y).flatMap (Tr.au g)++Tr.rest g h (Tr.dz g y):=fun y r e=>hw.ND hux (hrx.symm.trans e);rw[hfs];obtain⟨fn,tmps,assign,body,hy,hR⟩:=hY pre x wr Rs hlen;have HAT:=zh hat;have WH:=zh (And.intro hidx hidx2);have aaq:=zh WQ;have aar:=zh WR;have HUX:=zh hux;have HEX:=zh ex;clear hat hmap hY hfs hidx hidx2 hst hgx hux hrx WQ WR hw1 ex
    gi_wp2_with fail
    refine⟨fun _=>by omega,hR.mono ?_⟩;rintro e w3 (⟨rfl,hJ3,hk3⟩ | ⟨rfl,hJx3⟩)
    ·have hK3:=hk3 hKr;obtain⟨base,m,live,vs,vf,av,fr,root,hT,hS⟩:=hK.read w3 hK3;obtain⟨c0,c1⟩:=hK.box w3 hK3;have HF:=zh (Bd base B b s root x.1 h live m g av fr vs vf nx w3 hT hS hw HEX.out HUX.out);clear hT hS
     gi_wp2_with fail
     refine⟨trivial,fun _=>by omega,callsIn_wide.2 (HF.out.mono ?_)⟩;rintro e w5 ⟨rfl,hb5⟩;have RF:=hK.below w3 w5 hb5 hK3;rw[aaq.out]
     gi_wp2_with fail
     go_roundw
     case rel=>
      exact⟨pre++[x],rest,rfl,by rw[HAT.out];simp,aar.out,RF,hJ _ w3 w5 none hJ3 (ak hb5 none) (fun r e=>by cases e)⟩
     case measure=>
      have:=WH.out;show (Tr.au g h).length - (Tr.au g h).idxOf (Tr.fs (rest.map (·.1)))<(Tr.au g h).length - (Tr.au g h).idxOf x.1;omega
    ·gi_wp2_with fail
     refine bodyPost_ret (results_none rfl _ _ _) rfl ?_;exact⟨⟨_,rfl⟩,.inr ⟨_,⟨rest,by rw[HAT.out];simp⟩,hJx3⟩⟩
end
section
open Go.RowKit Go.Shelf
attribute [local go_sem] Oper.semAt_some
structure LS (base B bt bh:Nat) (b s h:Int) (vs:Value) (n:Nat) (R:Int→Option Tr.Nd) (vf:Value) (fr:List Nat) (live:Nat) (root:Int) (W:World):Prop where
 tree:TV base W B b s vs n R vf fr live root
 bt:Whole W bt #[.pointer (some ⟨B,0,none⟩)] 29
 bh:Whole W bh #[.int .i64 h] 3
section
variable {base B bt bh n live:Nat} {b s h root:Int} {vs vf:Value} {R:Int→Option Tr.Nd} {fr:List Nat} {W W':World}
theorem LS.below (H:LS base B bt bh b s h vs n R vf fr live root W) (hb:Below W.heap.size W W'):LS base B bt bh b s h vs n R vf fr live root W':=
 ⟨H.tree.below hb,H.bt.below hb H.bt.lt,H.bh.below hb H.bh.lt⟩
theorem TV.others {row:Option Nat} (H:TV base W B b s vs n R vf fr live root) (hg:W.grownBy W' row) (hr:∀ r,row=some r→∃ o:Obj,W.heap[r]?=some o∧o.isCells=false):TV base W' B b s vs n R vf fr live root:=by
 refine H.turns (S:=fun k=>row=some k) (.aZ hg (fun k hk=>hk)) ?_;intro k hk e;obtain⟨o,ho,hc⟩:=hr k e;have hcell:∃ cs t fz,W.heap[k]?=some (.cells cs t fz):=by
  rcases hk with rfl | hk | hk
  ·exact⟨_,_,_,H.var⟩
  ·rcases H.row.2 with ⟨e1,_⟩ | ⟨g',cap,cur,e1,_,hg',_⟩
   ·rw[e1] at hk;simp[Value.ownBlock] at hk
   ·rw[e1] at hk;have:g'=k:=by simpa [Value.ownBlock] using hk
    rw[←this];exact⟨_,_,_,hg'⟩
  ·rcases H.free.2 with ⟨e1,_⟩ | ⟨g',cap,cur,e1,_,hg',_⟩
   ·rw[e1] at hk;simp[Value.ownBlock] at hk
   ·rw[e1] at hk;have:g'=k:=by simpa [Value.ownBlock] using hk
    rw[←this];exact⟨_,_,_,hg'⟩
 obtain⟨cs,t,fz,hx⟩:=hcell;rw[hx] at ho;obtain rfl:=Option.some.inj ho;cases hc
theorem bn {row:Option Nat} {k:Nat} {cs:Array Value} {t:TypeId} (H:Whole W k cs t) (hg:W.grownBy W' row) (hr:∀ r,row=some r→∃ o:Obj,W.heap[r]?=some o∧o.isCells=false):Whole W' k cs t:=
 H.grown hg (fun e=>by
  obtain⟨o,ho,hc⟩:=hr k e.symm;rw[show W.heap[k]?=_ from H] at ho;obtain rfl:=Option.some.inj ho
  cases hc)
theorem LS.others {row:Option Nat} (H:LS base B bt bh b s h vs n R vf fr live root W) (hg:W.grownBy W' row) (hr:∀ r,row=some r→∃ o:Obj,W.heap[r]?=some o∧o.isCells=false):LS base B bt bh b s h vs n R vf fr live root W':=
 ⟨H.tree.others hg hr,bn H.bt hg hr,bn H.bh hg hr⟩
theorem LS.set (H:LS base B bt bh b s h vs n R vf fr live root W) {m:Nat} (hm:¬ aD B vs vf m) (h1:m≠bt) (h2:m≠bh) (i:Nat) (v:Value):LS base B bt bh b s h vs n R vf fr live root (W.setCell ⟨m,i,none⟩ v):=
 ⟨H.tree.turns (S:=fun k=>k=m) (.aZ (aL (ak (Below.refl W.heap.size W) (some m)) i v) (fun j hj=>by simpa using hj.symm)) (fun k hk e=>hm (e▸hk)),H.bt.other (fun e=>h1 e.symm) _,H.bh.other (fun e=>h2 e.symm) _⟩
theorem LS.qO {P:World→Prop} {A B C:World} (h1:P A→P B) (h2:P B→P C):P A→P C:=fun x=>h2 (h1 x)
theorem LS.rE (w:World):∀ (W:World) (l:Nat) (o o':Obj),w.heap.size≤l→W.heap[l]?=some o→o.isCells=false→o.isWalk=false→LS base B bt bh b s h vs n R vf fr live root W→LS base B bt bh b s h vs n R vf fr live root (W.putObj l o'):=
 fun W l o o' _ hl hc _ H=>H.others (grownBy_putObj' W l o') (fun r e=>by cases e;exact⟨o,hl,hc⟩)
theorem yR {W W':World} (h:Below W.heap.size W W'):KeepsOthers W W':=⟨h.size,fun k o hk _=>(h.block k (Array.getElem?_eq_some_iff.1 hk).1).trans hk⟩
theorem LS.kids {g:Tr.G} {av:Int→Tr.Sl} (hS:Sound b s n (Tr.raw g av) fr live) (hw:Tr.WF 0 g):RV (LS base B bt bh b s h vs n (Tr.raw g av) vf fr live root) B bt bh b s h (Tr.aj g h) where
 read W H:=by
  refine⟨base,n,live,vs,vf,Tr.raw g av,fr,root,H.tree,hS,?_,fun x hx=>?_⟩
  ·cases e:g h with
   | none=>rw[Tr.aV e,Tr.fO e];rfl
   | some m=>rw[Tr.ah e,Tr.aR e];rfl
  ·obtain⟨m,e1,e2⟩:=hw.dS hx;refine⟨_,Tr.ah e1,?_⟩;show Tr.nu (Tr.aj g m.pa) x=_;rw[e2]
 below W W' hb H:=H.below hb
 box W H:=⟨H.bt.cell 0,H.bh.cell 0⟩
theorem Qg {g:Tr.G} (hw:Tr.WF 0 g):∀ (l:List Int) (x:Int),Tr.Up g x l→∀ y∈l,∃ m,g y=some m∧m.pa=Tr.nu l y:=by
 intro l
 induction l with
 | nil=>intro x _ y hy;cases hy
 | cons a r ih=>
  intro x u y hy;cases u with
  | @node _ m _ e u=>
   rcases List.mem_cons.1 hy with rfl | hy
   ·refine⟨m,e,?_⟩;rw[Tr.nu,if_pos rfl];cases u with
    | out e'=>
     rcases hw.pa e with h1 | ⟨p,h1,_⟩
     ·exact h1
     ·rw[e'] at h1;cases h1
    | node _ _=>rfl
   ·obtain⟨m',h1,h2⟩:=ih _ u y hy;refine⟨m',h1,?_⟩;rw[Tr.nu,if_neg]
    ·exact h2
    ·rintro rfl;exact hw.above e u hy
theorem LS.up {g:Tr.G} {av:Int→Tr.Sl} (hS:Sound b s n (Tr.raw g av) fr live) (hw:Tr.WF 0 g):WI (LS base B bt bh b s h vs n (Tr.raw g av) vf fr live root) B bt bh b s h (Tr.dz g h) where
 read W H:=by
  refine⟨base,n,live,vs,vf,Tr.raw g av,fr,root,H.tree,hS,fun e=>?_,fun x hx=>?_⟩
  ·cases e1:g h with
   | none=>exact Tr.aV e1
   | some m=>rw[hw.bQ e1] at e;cases e
  ·obtain⟨m,e1,e2⟩:=Qg hw _ _ (hw.eO h).1 x hx;exact⟨_,Tr.ah e1,e2⟩
 below W W' hb H:=H.below hb
 box W H:=⟨H.bt.cell 0,H.bh.cell 0⟩
theorem LS.walk {g:Tr.G} {av:Int→Tr.Sl} (hS:Sound b s n (Tr.raw g av) fr live):WM (LS base B bt bh b s h vs n (Tr.raw g av) vf fr live root) B bt bh b s h g where
 read W H:=⟨base,n,live,vs,vf,av,fr,root,H.tree,hS⟩
 below W W' hb H:=H.below hb
 box W H:=⟨H.bt.cell 0,H.bh.cell 0⟩
theorem Qh {g:Tr.G} (hw:Tr.WF 0 g) (h:Int):Tr.dz g h≠[]→Tr.fs (Tr.dz g h)=h:=fun e=>by
 cases eg:g h with
 | none=>rw[hw.lV eg] at e;exact absurd rfl e
 | some m=>rw[hw.bQ eg];rfl
theorem Qi {g:Tr.G} (hw:Tr.WF 0 g) (h:Int):0∉Tr.dz g h:=fun e=>by
 have:=(hw.eO h).1.mem e;rw[hw.zero] at this;cases this
theorem IV {g:Tr.G} {av:Int→Tr.Sl} (hS:Sound b s n (Tr.raw g av) fr live) (hw:Tr.WF 0 g) (hh:lU h) (k:Nat) (hk:2≤k) (w:World) (H:LS base B bt bh b s h vs n (Tr.raw g av) vf fr live root w):
  SeqStopsK Fence.wide k Tryz.prog 143 #[.pointer (some ⟨bh,0,none⟩),.pointer (some ⟨bt,0,none⟩)] (fun x:{x:Int // x∈Tr.dz g h}=>#[.int .i64 x.1])
   (fun A B'=>LS base B bt bh b s h vs n (Tr.raw g av) vf fr live root A→LS base B bt bh b s h vs n (Tr.raw g av) vf fr live root B') (fun xs=>xs=(Tr.dz g h).attach) (fun pre=>pre <+: (Tr.dz g h).attach) (Tr.dz g h).length w:=
 fun l J Jx W hW hJ _ hY h0=>TG _ B bt bh l k b s h (Tr.dz g h) J Jx W (LS.up hS hw) hh (Qh hw h) (hw.F5 h) (Qi hw h) hk hJ hY (H.below hW) h0
theorem zV {g:Tr.G} {av:Int→Tr.Sl} (hS:Sound b s n (Tr.raw g av) fr live) (hw:Tr.WF 0 g) (hh:lU h) (k:Nat) (hk:2≤k) (w:World) (H:LS base B bt bh b s h vs n (Tr.raw g av) vf fr live root w):
  SeqStopsK Fence.wide k Tryz.prog 129 #[.pointer (some ⟨bt,0,none⟩),.pointer (some ⟨bh,0,none⟩)] (fun x:{x:Int // x∈Tr.aj g h}=>#[.int .i64 x.1])
   (fun A B'=>LS base B bt bh b s h vs n (Tr.raw g av) vf fr live root A→LS base B bt bh b s h vs n (Tr.raw g av) vf fr live root B') (fun xs=>xs=(Tr.aj g h).attach) (fun pre=>pre <+: (Tr.aj g h).attach) (Tr.aj g h).length w:=
 fun l J Jx W hW hJ _ hY h0=>ER _ B bt bh l k b s h (Tr.aj g h) J Jx W (LS.kids hS hw) hh (hw.mX h) (hw.lX h) hk hJ hY (H.below hW) h0
theorem rD {g:Tr.G} {av:Int→Tr.Sl} (hS:Sound b s n (Tr.raw g av) fr live) (hw:Tr.WF 0 g) (hh:lU h) (k:Nat) (hk:2≤k) (w:World) (H:LS base B bt bh b s h vs n (Tr.raw g av) vf fr live root w):
  SeqStopsK Fence.wide k Tryz.prog 87 #[.pointer (some ⟨bt,0,none⟩),.pointer (some ⟨bh,0,none⟩)] (fun x:{x:Int // x∈Tr.au g h}=>#[.int .i64 x.1])
   (fun A B'=>LS base B bt bh b s h vs n (Tr.raw g av) vf fr live root A→LS base B bt bh b s h vs n (Tr.raw g av) vf fr live root B') (fun xs=>xs=(Tr.au g h).attach) (fun pre=>pre <+: (Tr.au g h).attach) (Tr.au g h).length w:=
 fun l J Jx W hW hJ _ hY h0=>N9 _ B bt bh l k b s h g hw J Jx W (LS.walk hS) hh hk hJ hY (H.below hW) h0
theorem LS.made {w:World} (H:TV base w B b s vs n R vf fr live root):LS base B w.heap.size (w.heap.size+1) b s h vs n R vf fr live root ((w.alloc (.cells #[.pointer (some ⟨B,0,none⟩)] 29)).alloc (.cells #[.int .i64 h] 3)):=by
 refine⟨H.below (((Below.refl _ w).alloc (Nat.le_refl _) _).alloc (by simp) _),(Whole.new w _ _).alloc _,?_⟩;have:=Whole.new (w.alloc (.cells #[.pointer (some ⟨B,0,none⟩)] 29)) #[.int .i64 h] 3
 rwa [World.size_alloc] at this
end
end
section
section
open Go.RowKit Go.Shelf
attribute [local go_sem] Oper.semAt_some
namespace Tr
def kindOf (g:G) (h:Int):Int:=match g h with | some n=>n.kind | none=>0
theorem iU {g:G} {h:Int} {n:GN} (e:g h=some n):kindOf g h=n.kind:=by unfold kindOf;rw[e]
def mH (g:G) (p h:Int):Bool:=(aj g p).any fun k=>k != h && kindOf g k == 2
end Tr
theorem Ll (base B:Nat) (b s root p h:Int) (live n:Nat) (g:Tr.G) (av:Int→Tr.Sl) (fr:List Nat) (vs vf:Value) (w:World) (hm:TV base w B b s vs n (Tr.raw g av) vf fr live root) (hS:Sound b s n (Tr.raw g av) fr live) (hw:Tr.WF 0 g) (hp:lU p):
  Calls Tryz.prog 132 #[.pointer (some ⟨B,0,none⟩),.int .i64 p,.int .i64 h] w fun e w'=>e=.returned (.bool (Tr.mH g p h))∧Below w.heap.size w w':=by
 have hlt:=hm.lt;refine (callsIn_wide (n:=8)).1 ?_;refine callsIn_of_wp_marks Tryz.func132 rfl trivial ?_ rfl;simp only[Tryz.ntmps132,List.size_toArray,List.length_cons,List.length_nil,Nat.reduceAdd,Nat.reduceSub,Array.replicate_succ,Array.replicate_zero,List.push_toArray,List.append_toArray,List.nil_append,List.cons_append];obtain⟨w1,hw1⟩:∃ w1,((w.alloc (.cells #[.pointer (some ⟨B,0,none⟩)] 29)).alloc (.cells #[.int .i64 h] 3)).alloc (.cells #[.bool false] 4)=w1:=⟨_,rfl⟩
 have hz1:w1.heap.size=w.heap.size+3:=by rw[←hw1];simp
 have hb1:Below w.heap.size w w1:=by rw[←hw1];exact (((Below.refl _ w).alloc (Nat.le_refl _) _).alloc (by simp) _).alloc (by simp;omega) _
 have hT1:Whole w1 w.heap.size #[.pointer (some ⟨B,0,none⟩)] 29:=by rw[←hw1];exact ((Whole.new w _ _).alloc _).alloc _
 have hA1:Whole w1 (w.heap.size+1) #[.int .i64 h] 3:=by
  have:=(Whole.new (w.alloc (.cells #[.pointer (some ⟨B,0,none⟩)] 29)) #[.int .i64 h] 3).alloc (.cells #[.bool false] 4);rw[World.size_alloc] at this;rw[←hw1];exact this
 have hX1:Whole w1 (w.heap.size+1+1) #[.bool false] 4:=by
  have:=Whole.new ((w.alloc (.cells #[.pointer (some ⟨B,0,none⟩)] 29)).alloc (.cells #[.int .i64 h] 3)) #[.bool false] 4;rw[World.size_alloc,World.size_alloc] at this;rw[←hw1];exact this
 have hL:=LS.made (h:=p) (hm.below hb1);have hsz2:((w1.alloc (.cells #[.pointer (some ⟨B,0,none⟩)] 29)).alloc (.cells #[.int .i64 p] 3)).heap.size=w1.heap.size+2:=by simp
 have hb2:Below w1.heap.size w1 ((w1.alloc (.cells #[.pointer (some ⟨B,0,none⟩)] 29)).alloc (.cells #[.int .i64 p] 3)):=((Below.refl _ w1).alloc (Nat.le_refl _) _).alloc (by simp) _;have hseq:=zV hS hw hp 7 (by omega) _ hL;have xk:=zh (tq B p w1);have t1:w1.cell? ⟨w.heap.size,0,none⟩=some (.pointer (some ⟨B,0,none⟩)):=hT1.cell 0
 gi_wp2_with fail
 try rw[hw1]
 gi_wp2_with fail
 refine⟨trivial,(callsIn_wide.2 xk.out).mono ?_⟩;rintro e w' ⟨rfl,hw'⟩;rw[←hw'] at hL hsz2 hb2 hseq;have hX2:=hX1.below hb2 hX1.lt;have hA2:=hA1.below hb2 hA1.lt;have QM:=hT1.below hb2 hT1.lt;have hB2:=hb1.trans (hb2.mono hb1.size);have gW:=zh hS;clear hm hS hX1 hw' hb2 xk hA1 hT1 t1
 gi_wp2_with fail
 rw[hz1] at hseq hL hsz2;have hm1:¬ aD B vs vf (w.heap.size+1+1):=fun hk=>by have:=(hlt _ hk).2;omega
 refine wpIn_rangeFunc_ownF (w:=w') rfl (by decide) (gf:=129) (lb:=#[.pointer (some ⟨w.heap.size+1+1+1,0,none⟩),.pointer (some ⟨w.heap.size+1+1+1+1,0,none⟩)]) rfl trivial (enters_of Tryz.func129 (by kernel_rfl) rfl) hseq LS.qO (LS.rE _) (Below.refl _ _) (fun _=>rfl)
  (fun pre W=>Whole W w.heap.size #[.pointer (some ⟨B,0,none⟩)] 29∧Whole W (w.heap.size+1) #[.int .i64 h] 3∧Whole W (w.heap.size+1+1) #[.bool false] 4∧LS base B (w.heap.size+1+1+1) (w.heap.size+1+1+1+1) b s p vs n (Tr.raw g av) vf fr live root W∧Below w.heap.size w W∧(pre.map (·.1)).any (fun k=>k != h && Tr.kindOf g k == 2)=false)
  (fun c _ W=>c=.ret∧Whole W (w.heap.size+1+1) #[.bool true] 4∧Below w.heap.size w W∧Tr.mH g p h=true)
  ?hI ?hIx ⟨QM,hA2,hX2,hL,hB2,rfl⟩ (fun x=>{ tmps:=#[.pointer (some ⟨B,0,none⟩),.int .i64 p,.int .i64 h,.pointer (some ⟨w.heap.size,0,none⟩),undef,.pointer (some ⟨w.heap.size+1,0,none⟩),.pointer (some ⟨w.heap.size+1+1,0,none⟩),.int .i64 x.1,.pointer (some ⟨B,0,none⟩),.int .i64 p,.func (.func 129) #[] #[.pointer (some ⟨w.heap.size+1+1+1,0,none⟩),.pointer (some ⟨w.heap.size+1+1+1+1,0,none⟩)],.int .i64 x.1,undef,undef,undef,undef,undef,undef,undef,undef,undef,undef,undef,undef],defers:=[] }) ?assign ?body ?done ?stop
 case hI=>
  rintro pre W W' row ⟨hT,h0,h1,h2,h3,h4⟩ hg hr;exact⟨bn hT hg (fun r e=>(hr r e).2),bn h0 hg (fun r e=>(hr r e).2),bn h1 hg (fun r e=>(hr r e).2),h2.others hg (fun r e=>(hr r e).2),h3.grown hg h3.size (fun r e=>by have:=(hr r e).1;omega),h4⟩
 case hIx=>
  rintro c pre W W' row ⟨h0,h1,h2,h3⟩ hg hr;exact⟨h0,bn h1 hg (fun r e=>(hr r e).2),h2.grown hg h2.size (fun r e=>by have:=(hr r e).1;omega),h3⟩
 case assign=>
  intro l x W K hK
  gi_wp2
  first | exact hK | simpa using hK
 case body=>
  rintro l pre x W ⟨hT,hA,hX,mR,hBW,hnot⟩ hlen;have t0:W.cell? ⟨w.heap.size,0,none⟩=some (.pointer (some ⟨B,0,none⟩)):=hT.cell 0;have a0:W.cell? ⟨w.heap.size+1,0,none⟩=some (.int .i64 h):=hA.cell 0;have c0:W.cell? ⟨w.heap.size+1+1,0,none⟩=some (.bool false):=hX.cell 0;have f0:=hX.free 0;obtain⟨mx,ex,_⟩:=hw.dS x.2;have hany:∀ v,(x.1 != h && Tr.kindOf g x.1 == 2)=v→((pre++[x]).map (·.1)).any (fun k=>k != h && Tr.kindOf g k == 2)=v:=fun v e=>by
   rw[List.map_append,List.any_append,hnot,Bool.false_or,←e];simp
  by_cases hxh:x.1=h
  ·have hq:(x.1 != h)=false:=by simpa using hxh
   have HF:=zh (And.intro hT (And.intro hA (And.intro hX (And.intro mR (And.intro hBW (hany false (by rw[hq];rfl)))))));clear hT hA hX mR hBW hnot hxh hany
   gi_wp2_with fail
   refine And.intro (by first | exact trivial | (intros;exact trivial)) ?_
   gi_wp2_with fail
   exact⟨KeepsOthers.refl _,fun h=>h,HF.out⟩
  ·have hq:(x.1 != h)=true:=by simpa using hxh
   have hxi:=(bR gW.out (h:=x.1) (by rw[aS,ex];rfl)).1;have HAT:=zh (jO base B b s root x.1 live n (Tr.raw g av) fr vs vf W mR.tree gW.out hxi);have HST:=zh (And.intro hT (And.intro hA (And.intro hX (And.intro mR hBW))));have aas:=zh hany;clear hT hA hX mR hBW hnot hany
   gi_wp2_with fail
   refine⟨trivial,(CallsIn.inRound l (callsIn_wide.2 HAT.out)).mono ?_⟩;rintro e w4 ⟨g4,o4,rfl,hnp,hb4⟩;rw[Tr.ah ex] at hnp;obtain⟨k0,_⟩:=hnp.cells;have k0':w4.cell? ⟨g4,o4,none⟩=some (.int .i64 mx.kind):=k0;obtain⟨hT,hA,hX,mR,hBW⟩:=HST.out;have Da:=hT.below hb4 hT.lt;have PS:=hA.below hb4 hA.lt;have bI:=hX.below hb4 hX.lt;have hL4:=mR.below hb4;have hB4:=hBW.trans (hb4.mono hBW.size);have c4:w4.cell? ⟨w.heap.size+1+1,0,none⟩=some (.bool false):=bI.cell 0;have f4:=bI.free 0;have hko:=yR hb4;have hkd:=Tr.iU ex;by_cases hk2:mx.kind=2
   ·have hq2:(mx.kind == 2)=true:=by simpa using hk2
    have yt:=bI.put 0 (.bool true);have htr:Tr.mH g p h=true:=by
     unfold Tr.mH;rw[List.any_eq_true];exact⟨x.1,x.2,by rw[hq,hkd,hk2];rfl⟩
    have HF:=zh (And.intro yt (And.intro (hB4.setCell (p:=⟨w.heap.size+1+1,0,none⟩) (by show _≤w.heap.size+1+1;omega) (.bool true)) htr));clear hT hA hX mR hBW Da PS bI hL4 hB4 yt htr hk2 hnp hkd k0
    gi_wp2_with fail
    exact⟨hko.trans (KeepsOthers.setCell _ _ _),rfl,HF.out⟩
   ·have hq2:(mx.kind == 2)=false:=by simpa using hk2
    have HF:=zh (And.intro Da (And.intro PS (And.intro bI (And.intro hL4 (And.intro hB4 (aas.out false (by rw[hq,hkd,hq2];rfl)))))));clear hT hA hX mR hBW Da PS bI hB4 hk2 hnp hkd k0
    gi_wp2_with fail
    exact⟨hko,fun _=>hL4,HF.out⟩
 case done=>
  rintro D xs W hD rfl ⟨_,_,hX,mR,hBW,hnot⟩ hK;rw[List.attach_map_subtype_val] at hnot;have c0:W.cell? ⟨w.heap.size+1+1,0,none⟩=some (.bool false):=hX.cell 0;have f0:=hX.free 0;have yt:=hX.put 0 (.bool false);have hKs:=(KeepsOthers.setCell W ⟨w.heap.size+1+1,0,none⟩ (.bool false)).same D _ hK rfl;have O6:=hBW.setCell (p:=⟨w.heap.size+1+1,0,none⟩) (by show _≤w.heap.size+1+1;omega) (.bool false);obtain⟨V,hV⟩:∃ V,W.setCell ⟨w.heap.size+1+1,0,none⟩ (.bool false)=V:=⟨_,rfl⟩
  rw[hV] at yt hKs O6;have c9:V.cell? ⟨w.heap.size+1+1,0,none⟩=some (.bool false):=yt.cell 0;have hca:=cell_kept c9 (grownBy_putObj' V D (.deferred none)) (fun r e=>by cases e;exact⟨_,hKs,rfl⟩);have HB:=zh (O6.trans (belowK_b (w:=w) (Nat.le_refl _) V D _ (.deferred none) (by omega) hKs rfl rfl));have HN:=zh hnot;clear hX mR hBW yt hnot O6
  gi_wp2_with fail
  refine⟨by simp,.inl ⟨_,_,rfl,run_takeDeferred hKs,?_⟩⟩;refine⟨.bool false,?_,?_,HB.out⟩
  ·simp[results,Tryz.f132,go_sem,hca]
  ·exact fP HN.out.symm
 case stop=>
  rintro D c pre W hD hsp ⟨rfl,hX,hBW,hmem⟩ hK;have c0:W.cell? ⟨w.heap.size+1+1,0,none⟩=some (.bool true):=hX.cell 0;have hca:=cell_kept c0 (grownBy_putObj' W D (.deferred none)) (fun r e=>by cases e;exact⟨_,hK,rfl⟩);have HB:=zh (hBW.trans (belowK_b (w:=w) (Nat.le_refl _) W D _ (.deferred none) (by omega) hK rfl rfl));have HN:=zh hmem;clear hX hBW hmem
  gi_wp2_with fail
  refine⟨by simp,.inl ⟨_,_,rfl,run_takeDeferred hK,?_⟩⟩;refine⟨.bool true,?_,?_,HB.out⟩
  ·simp[results,Tryz.f132,go_sem,hca]
  ·exact fP HN.out.symm
end
end
section
section
open Go.RowKit
namespace Tr
def gQ (g:G) (p h:Int):Bool:=
 if kindOf g p=2 then kindOf g h != 1 else if kindOf g p=1 then (kindOf g h == 4 || (kindOf g h == 2 && !mH g p h)) else false
end Tr
theorem rR (base B:Nat) (b s root p h:Int) (live n:Nat) (g:Tr.G) (av:Int→Tr.Sl) (fr:List Nat) (vs vf:Value) (np nh:Tr.GN) (w:World) (hm:TV base w B b s vs n (Tr.raw g av) vf fr live root) (hS:Sound b s n (Tr.raw g av) fr live) (hw:Tr.WF 0 g) (ep:g p=some np) (eh:g h=some nh):
  Calls Tryz.prog 71 #[.pointer (some ⟨B,0,none⟩),.int .i64 p,.int .i64 h] w fun e w'=>e=.returned (.bool (Tr.gQ g p h))∧Below w.heap.size w w':=by
 have hpi:=(bR hS (h:=p) (by rw[aS,ep];rfl)).1;have hkp:=Tr.iU ep;have hkh:=Tr.iU eh;obtain⟨kp,TJ⟩:∃ k,np.kind=k:=⟨_,rfl⟩
 obtain⟨kh,TK⟩:∃ k,nh.kind=k:=⟨_,rfl⟩
 rw[TJ] at hkp;rw[TK] at hkh;have hacc:Tr.gQ g p h=if kp=2 then kh != 1 else if kp=1 then (kh == 4 || (kh == 2 && !Tr.mH g p h)) else false:=by unfold Tr.gQ;rw[hkp,hkh]
 have hA:=fun (W:World) (hb:Below w.heap.size w W)=>ig base B b s root h live n _ fr vs vf _ W (hm.below hb) hS (Tr.ah (av:=av) eh);have hP:=fun (W:World) (hb:Below w.heap.size w W)=>ig base B b s root p live n _ fr vs vf _ W (hm.below hb) hS (Tr.ah (av:=av) ep);have hO:=fun (W:World) (hb:Below w.heap.size w W)=>Ll base B b s root p h live n g av fr vs vf W (hm.below hb) hS hw hpi;have kA:∀ (W:World) (gb o:Nat),Below w.heap.size w W→PtrTo b s vs n gb o h→W.cell? ⟨gb,o,none⟩=some (.int .i64 kh):=fun W gb o hb hpt=>by
  rw[←TK];exact ((hm.below hb).np hpt (Tr.ah (av:=av) eh)).cells.1
 have kP:∀ (W:World) (gb o:Nat),Below w.heap.size w W→PtrTo b s vs n gb o p→W.cell? ⟨gb,o,none⟩=some (.int .i64 kp):=fun W gb o hb hpt=>by
  rw[←TJ];exact ((hm.below hb).np hpt (Tr.ah (av:=av) ep)).cells.1
 rw[hacc];obtain⟨OT,hOT⟩:∃ O,Tr.mH g p h=O:=⟨_,rfl⟩
 rw[hOT] at hO ⊢;have HA:=zh hA;have HP:=zh hP;have HO:=zh hO;have KA:=zh kA;have KP:=zh kP;clear hA hP hO kA kP hm hS hacc hkp hkh TJ TK ep eh hOT hw;have main:∀ r:Bool,((kp=2∧r=(kh != 1))∨(kp=1∧kh=4∧r=true)∨(kp=1∧kh=2∧r=!OT)∨(kp=1∧kh≠4∧kh≠2∧r=false)∨(kp≠2∧kp≠1∧r=false))→
   Calls Tryz.prog 71 #[.pointer (some ⟨B,0,none⟩),.int .i64 p,.int .i64 h] w fun e w'=>e=.returned (.bool r)∧Below w.heap.size w w':=by
  intro r hr;have hq:((kp == 2)=true∧r=(kh != 1))∨((kp == 2)=false∧(kp == 1)=true∧(kh == 4)=true∧r=true)∨((kp == 2)=false∧(kp == 1)=true∧(kh == 4)=false∧(kh == 2)=true∧r=!OT)∨((kp == 2)=false∧(kp == 1)=true∧(kh == 4)=false∧(kh == 2)=false∧r=false)∨((kp == 2)=false∧(kp == 1)=false∧r=false):=by
   rcases hr with ⟨h1,h2⟩ | ⟨h1,h2,h3⟩ | ⟨h1,h2,h3⟩ | ⟨h1,h2,h3,h4⟩ | ⟨h1,h2,h3⟩
   ·exact .inl ⟨by simp[h1],h2⟩
   ·exact .inr (.inl ⟨by simp[h1],by simp[h1],by simp[h2],h3⟩)
   ·exact .inr (.inr (.inl ⟨by simp[h1],by simp[h1],by simp[h2],by simp[h2],h3⟩))
   ·exact .inr (.inr (.inr (.inl ⟨by simp[h1],by simp[h1],by simpa using h2,by simpa using h3,h4⟩)))
   ·exact .inr (.inr (.inr (.inr ⟨by simpa using h1,by simpa using h2,h3⟩)))
  clear hr;have HR:=zh hq;clear hq
  go_enter Tryz.func71,Tryz.ntmps71
  go_wp2_with fail;refine (HA.out w (Below.refl _ _)).mono ?_;rintro e w2 ⟨g2,o2,rfl,aat,hb2⟩;have c2:=KA.out w2 g2 o2 hb2 aat;go_wp2_with fail;refine (HP.out w2 hb2).mono ?_;rintro e w3 ⟨g3,o3,rfl,aau,hb3⟩;have dB:=hb2.trans (hb3.mono hb2.size);have c3:=KP.out w3 g3 o3 dB aau;rcases HR.out with ⟨h1,h2⟩ | ⟨h1,h2,h3,h4⟩ | ⟨h1,h2,h3,h4,h5⟩ | ⟨h1,h2,h3,h4,h5⟩ | ⟨h1,h2,h3⟩
  ·subst h2;go_wp2_with fail
   go_ret
   exact⟨rfl,dB⟩
  ·subst h4;go_wp2_with fail
   go_ret
   exact⟨rfl,dB⟩
  ·subst h5;go_wp2_with fail;refine (HO.out w3 dB).mono ?_;rintro e w4 ⟨rfl,hb4⟩;have bY:=dB.trans (hb4.mono dB.size);go_wp2_with fail
   go_ret
   exact⟨rfl,bY⟩
  ·subst h5;go_wp2_with fail
   go_ret
   exact⟨rfl,dB⟩
  ·subst h3;go_wp2_with fail
   go_ret
   exact⟨rfl,dB⟩
 refine main _ ?_;by_cases h1:kp=2
 ·left;exact⟨h1,by rw[if_pos h1]⟩
 ·right;by_cases h2:kp=1
  ·by_cases h3:kh=4
   ·left;exact⟨h2,h3,by rw[if_neg h1,if_pos h2,h3];rfl⟩
   ·right;by_cases h4:kh=2
    ·left;exact⟨h2,h4,by rw[if_neg h1,if_pos h2,h4];rfl⟩
    ·right;left;exact⟨h2,h3,h4,by rw[if_neg h1,if_pos h2];simp[h3,h4]⟩
  ·right;right;right;exact⟨h1,h2,by rw[if_neg h1,if_neg h2]⟩
end
end
section
open Go.RowKit Go.Shelf
attribute [local go_sem] Oper.semAt_some
theorem BL (base B:Nat) (b s root h:Int) (live n:Nat) (g:Tr.G) (av:Int→Tr.Sl) (fr:List Nat) (vs vf:Value) (w:World) (hm:TV base w B b s vs n (Tr.raw g av) vf fr live root) (hS:Sound b s n (Tr.raw g av) fr live) (hw:Tr.WF 0 g) (hh:lU h):
  Calls Tryz.prog 72 #[.pointer (some ⟨B,0,none⟩),.int .i64 h] w fun e w'=>e=.returned (.int .i64 ((Tr.dz g h).length:Nat))∧Below w.heap.size w w':=by
 have Gh:=(hw.eO h).2;have hlt:=hm.lt;refine (callsIn_wide (n:=8)).1 ?_;refine callsIn_of_wp_marks Tryz.func72 rfl trivial ?_ rfl;simp only[Tryz.ntmps72,List.size_toArray,List.length_cons,List.length_nil,Nat.reduceAdd,Nat.reduceSub,Array.replicate_succ,Array.replicate_zero,List.push_toArray,List.append_toArray,List.nil_append,List.cons_append]
 gi_wp2_with fail
 obtain⟨w1,hw1⟩:∃ w1,w.alloc (.cells #[.int .i64 0] 3)=w1:=⟨_,rfl⟩
 have hz1:w1.heap.size=w.heap.size+1:=by rw[←hw1];simp
 have hb1:Below w.heap.size w w1:=eP hw1;have hX1:Whole w1 w.heap.size #[.int .i64 0] 3:=by rw[←hw1];exact Whole.new w _ _
 have hL:=LS.made (h:=h) (hm.below hb1);have hsz2:((w1.alloc (.cells #[.pointer (some ⟨B,0,none⟩)] 29)).alloc (.cells #[.int .i64 h] 3)).heap.size=w1.heap.size+2:=by simp
 have hb2:Below w1.heap.size w1 ((w1.alloc (.cells #[.pointer (some ⟨B,0,none⟩)] 29)).alloc (.cells #[.int .i64 h] 3)):=((Below.refl _ w1).alloc (Nat.le_refl _) _).alloc (by simp) _;have hseq:=IV hS hw hh 7 (by omega) _ hL;have xk:=zh (DZ B h w1);(try rw[hw1]);refine⟨trivial,(callsIn_wide.2 xk.out).mono ?_⟩;rintro e w' ⟨rfl,hw'⟩;rw[←hw'] at hL hsz2 hb2 hseq;have hX2:=hX1.below hb2 hX1.lt;have hB2:=hb1.trans (hb2.mono hb1.size);clear hm hS hX1 hw' hb2 xk
 gi_wp2_with fail
 rw[hz1] at hseq hL hsz2;have hm1:¬ aD B vs vf w.heap.size:=fun hk=>by have:=(hlt _ hk).2;omega
 refine wpIn_rangeFunc_ownF (w:=w') rfl (by decide) (gf:=143) (lb:=#[.pointer (some ⟨w.heap.size+1+1,0,none⟩),.pointer (some ⟨w.heap.size+1,0,none⟩)]) rfl trivial (enters_of Tryz.func143 (by kernel_rfl) rfl) hseq LS.qO (LS.rE _) (Below.refl _ _) (fun _=>rfl)
  (fun pre W=>Whole W w.heap.size #[.int .i64 (pre.length:Nat)] 3∧LS base B (w.heap.size+1) (w.heap.size+1+1) b s h vs n (Tr.raw g av) vf fr live root W∧Below w.heap.size w W) (fun _ _ _=>False)
  ?hI ?hIx ⟨hX2,hL,hB2⟩ (fun x=>{ tmps:=#[.pointer (some ⟨B,0,none⟩),.int .i64 h,undef,undef,.int .i64 0,.pointer (some ⟨w.heap.size,0,none⟩),.pointer (some ⟨B,0,none⟩),.int .i64 h,.func (.func 143) #[] #[.pointer (some ⟨w.heap.size+1+1,0,none⟩),.pointer (some ⟨w.heap.size+1,0,none⟩)],.int .i64 x.1,undef,undef,undef],defers:=[] }) ?assign ?body ?done ?stop
 case hI=>
  rintro pre W W' row ⟨h1,h2,h3⟩ hg hr;exact⟨bn h1 hg (fun r e=>(hr r e).2),h2.others hg (fun r e=>(hr r e).2),h3.grown hg h3.size (fun r e=>by have:=(hr r e).1;omega)⟩
 case hIx=>intro c pre W W' row h _ _;exact h
 case assign=>
  intro l x W K hK
  gi_wp2
  simpa using hK
 case body=>
  rintro l pre x W ⟨hX,mR,hBW⟩ hlen;have c0:W.cell? ⟨w.heap.size,0,none⟩=some (.int .i64 (pre.length:Nat)):=hX.cell 0;have f0:=hX.free 0;have hpl:pre.length≤128:=by omega
  have yt:=hX.put 0 (.int .i64 ((pre.length:Int)+1));have hL':=mR.set hm1 (by omega) (by omega) 0 (.int .i64 ((pre.length:Int)+1));have HF:=zh (And.intro yt (And.intro hL' (hBW.setCell (p:=⟨w.heap.size,0,none⟩) (Nat.le_refl _) (.int .i64 ((pre.length:Int)+1)))));clear hX mR hBW yt hL'
  gi_wp2_with fail
  refine⟨KeepsOthers.setCell _ _ _,fun _=>HF.out.2.1,?_,HF.out.2.1,HF.out.2.2⟩;rw[List.length_append];exact HF.out.1
 case done=>
  rintro D xs W hD rfl ⟨hX,mR,hBW⟩ hK;rw[List.length_attach] at hX;have c0:W.cell? ⟨w.heap.size,0,none⟩=some (.int .i64 ((Tr.dz g h).length:Nat)):=hX.cell 0;have HB:=zh (hBW.trans (belowK_b (w:=w) (Nat.le_refl _) W D _ (.deferred none) (by omega) hK rfl rfl));clear hX mR hBW
  gi_wp2_with fail
  refine⟨by simp,.inl ⟨_,_,rfl,run_takeDeferred hK,?_⟩⟩;exact⟨_,results_tmp rfl _ _ _,rfl,HB.out⟩
 case stop=>
  rintro D c pre W _ _ h _;exact h.elim
end
section
open Go.RowKit Go.Shelf
attribute [local go_sem] Oper.semAt_some
def oQ (g:Tr.G) (l:List Int):Nat:=(l.map (Tr.gB g)).foldl max 0
theorem Co (g:Tr.G) (l:List Int) (x:Int):oQ g (l++[x])=max (oQ g l) (Tr.gB g x):=by simp[oQ]
theorem yS (base B:Nat) (b s root:Int) (live n:Nat) (g:Tr.G) (av:Int→Tr.Sl) (fr:List Nat) (vs vf:Value) (hS:Sound b s n (Tr.raw g av) fr live) (hw:Tr.WF 0 g):∀ h,(g h).isSome→∀ w,TV base w B b s vs n (Tr.raw g av) vf fr live root→
  Calls Tryz.prog 73 #[.pointer (some ⟨B,0,none⟩),.int .i64 h] w fun e w'=>e=.returned (.int .i64 (Tr.gB g h:Nat))∧Below w.heap.size w w':=by
 refine hw.induct fun h ih=>?_;intro hsome w hm;obtain⟨nh,eg⟩:=Option.isSome_iff_exists.1 hsome;have hh:=(bR hS (h:=h) (by rw[aS,eg];rfl)).1;have hkk:=Tr.aR eg;have hres:Tr.gB g h=oQ g (Tr.aj g h)+1:=by rw[hw.iF eg,hkk];rfl
 have hle:=hw.qz h;have IH:∀ k∈Tr.aj g h,∀ w,TV base w B b s vs n (Tr.raw g av) vf fr live root→Calls Tryz.prog 73 #[.pointer (some ⟨B,0,none⟩),.int .i64 k] w fun e w'=>e=.returned (.int .i64 (Tr.gB g k:Nat))∧Below w.heap.size w w':=fun k hk w hT=>by
  obtain⟨m,e,_⟩:=hw.dS hk;exact ih nh eg k (by rw[←hkk];exact hk) (by rw[e];rfl) w hT
 clear ih hsome hkk;have hlt:=hm.lt;rw[hres];rw[hres] at hle;refine (callsIn_wide (n:=8)).1 ?_;refine callsIn_of_wp_marks Tryz.func73 rfl trivial ?_ rfl;simp only[Tryz.ntmps73,List.size_toArray,List.length_cons,List.length_nil,Nat.reduceAdd,Nat.reduceSub,Array.replicate_succ,Array.replicate_zero,List.push_toArray,List.append_toArray,List.nil_append,List.cons_append]
 gi_wp2_with fail
 obtain⟨w1,hw1⟩:∃ w1,(w.alloc (.cells #[.pointer (some ⟨B,0,none⟩)] 29)).alloc (.cells #[.int .i64 0] 3)=w1:=⟨_,rfl⟩
 have hz1:w1.heap.size=w.heap.size+2:=by rw[←hw1];simp
 have hb1:Below w.heap.size w w1:=by rw[←hw1];exact ((Below.refl _ w).alloc (Nat.le_refl _) _).alloc (by simp) _
 have hT1:Whole w1 w.heap.size #[.pointer (some ⟨B,0,none⟩)] 29:=by rw[←hw1];exact (Whole.new w _ _).alloc _
 have hX1:Whole w1 (w.heap.size+1) #[.int .i64 0] 3:=by
  have:=Whole.new (w.alloc (.cells #[.pointer (some ⟨B,0,none⟩)] 29)) #[.int .i64 0] 3;rw[World.size_alloc] at this;rw[←hw1];exact this
 have hL:=LS.made (h:=h) (hm.below hb1);have hsz2:((w1.alloc (.cells #[.pointer (some ⟨B,0,none⟩)] 29)).alloc (.cells #[.int .i64 h] 3)).heap.size=w1.heap.size+2:=by simp
 have hb2:Below w1.heap.size w1 ((w1.alloc (.cells #[.pointer (some ⟨B,0,none⟩)] 29)).alloc (.cells #[.int .i64 h] 3)):=((Below.refl _ w1).alloc (Nat.le_refl _) _).alloc (by simp) _;have hseq:=zV hS hw hh 7 (by omega) _ hL;have xk:=zh (tq B h w1);have t1:w1.cell? ⟨w.heap.size,0,none⟩=some (.pointer (some ⟨B,0,none⟩)):=hT1.cell 0;have Ug:=zh IH;clear IH hres eg;(try rw[hw1]);refine⟨trivial,(callsIn_wide.2 xk.out).mono ?_⟩;rintro e w' ⟨rfl,hw'⟩;rw[←hw'] at hL hsz2 hb2 hseq;have hX2:=hX1.below hb2 hX1.lt;have QM:=hT1.below hb2 hT1.lt;have hB2:=hb1.trans (hb2.mono hb1.size);have gW:=zh hS;clear hm hS hX1 hw' hb2 xk hT1 t1
 gi_wp2_with fail
 rw[hz1] at hseq hL hsz2;have hm1:¬ aD B vs vf (w.heap.size+1):=fun hk=>by have:=(hlt _ hk).2;omega
 refine wpIn_rangeFunc_ownF (w:=w') rfl (by decide) (gf:=129) (lb:=#[.pointer (some ⟨w.heap.size+1+1,0,none⟩),.pointer (some ⟨w.heap.size+1+1+1,0,none⟩)]) rfl trivial (enters_of Tryz.func129 (by kernel_rfl) rfl) hseq LS.qO (LS.rE _) (Below.refl _ _) (fun _=>rfl)
  (fun pre W=>Whole W w.heap.size #[.pointer (some ⟨B,0,none⟩)] 29∧Whole W (w.heap.size+1) #[.int .i64 (oQ g (pre.map (·.1)):Nat)] 3∧LS base B (w.heap.size+1+1) (w.heap.size+1+1+1) b s h vs n (Tr.raw g av) vf fr live root W∧Below w.heap.size w W)
  (fun _ _ _=>False)
  ?hI ?hIx ⟨QM,hX2,hL,hB2⟩ (fun x=>{ tmps:=#[.pointer (some ⟨B,0,none⟩),.int .i64 h,.pointer (some ⟨w.heap.size,0,none⟩),undef,.int .i64 0,.pointer (some ⟨w.heap.size+1,0,none⟩),.int .i64 x.1,.pointer (some ⟨B,0,none⟩),.int .i64 h,.func (.func 129) #[] #[.pointer (some ⟨w.heap.size+1+1,0,none⟩),.pointer (some ⟨w.heap.size+1+1+1,0,none⟩)],.int .i64 x.1,undef,undef,undef,undef,undef,undef,undef],defers:=[] }) ?assign ?body ?done ?stop
 case hI=>
  rintro pre W W' row ⟨hT,h1,h2,h3⟩ hg hr;exact⟨bn hT hg (fun r e=>(hr r e).2),bn h1 hg (fun r e=>(hr r e).2),h2.others hg (fun r e=>(hr r e).2),h3.grown hg h3.size (fun r e=>by have:=(hr r e).1;omega)⟩
 case hIx=>rintro c pre W W' row h _ _;exact h
 case assign=>
  intro l x W K hK
  gi_wp2
  first | exact hK | simpa using hK
 case body=>
  rintro l pre x W ⟨hT,hX,mR,hBW⟩ hlen;have t0:W.cell? ⟨w.heap.size,0,none⟩=some (.pointer (some ⟨B,0,none⟩)):=hT.cell 0;have c0:W.cell? ⟨w.heap.size+1,0,none⟩=some (.int .i64 (oQ g (pre.map (·.1)):Nat)):=hX.cell 0;have f0:=hX.free 0;obtain⟨M,hM⟩:∃ M,oQ g (pre.map (·.1))=M:=⟨_,rfl⟩
  obtain⟨X,Uf⟩:∃ X,Tr.gB g x.1=X:=⟨_,rfl⟩
  rw[hM] at c0;have hKf:=fun (w4:World) (hb4:Below W.heap.size W w4)=>And.intro (hT.below hb4 hT.lt) (And.intro (hX.below hb4 hX.lt) (And.intro (mR.below hb4) (hBW.trans (hb4.mono hBW.size))));have hbd:Below W.heap.size W W.drew:=⟨rfl,rfl,rfl,Nat.le_refl _,fun _ _=>rfl⟩
  have HC:=zh (Ug.out x.1 x.2 W.drew (mR.below hbd).tree);rw[Uf] at HC;have HKF:=zh hKf;have Bw:=zh hbd;have HMM:=zh (And.intro hM Uf);clear hT hX mR hBW hKf hbd hM Uf;have hmx:max (M:Int) (X:Int)=((max M X:Nat):Int):=by omega
  gi_wp2_with fail
  gi_region_with (refine⟨trivial,?_⟩;gi_at_call 73;refine (CallsIn.inRound l (callsIn_wide.2 HC.out)).mono ?_;rintro e w4 ⟨rfl,hb4⟩;have hbW:=Bw.out.trans (hb4.mono Bw.out.size);obtain⟨Da,bI,hL4,hB4⟩:=HKF.out w4 hbW;rw[HMM.out.1] at bI;have k0:w4.cell? ⟨w.heap.size+1,0,none⟩=some (.int .i64 (M:Nat)):=bI.cell 0;have z0:=bI.free 0;have t4:w4.cell? ⟨w.heap.size,0,none⟩=some (.pointer (some ⟨B,0,none⟩)):=Da.cell 0;have hko:=yR hbW;have rz:=zh bI;have EN:=zh Da;have HL4:=zh hL4;have uG:=zh hB4;clear bI Da hL4 hB4 hb4 hbW)
  all_goals
   gi_wp2_with fail
   refine⟨hko.trans (KeepsOthers.setCell _ _ _),fun _=>HL4.out.set hm1 (by omega) (by omega) _ _,EN.out.other (by show w.heap.size≠w.heap.size+1;omega) _,?_,HL4.out.set hm1 (by omega) (by omega) _ _,uG.out.setCell (p:=⟨w.heap.size+1,0,none⟩) (Nat.le_succ _) _⟩;rw[List.map_append,List.map_cons,List.map_nil,Co,HMM.out.1,HMM.out.2];exact rz.out.put 0 _
 case done=>
  rintro D xs W hD rfl ⟨_,hX,mR,hBW⟩ hK;rw[List.attach_map_subtype_val] at hX;have c0:W.cell? ⟨w.heap.size+1,0,none⟩=some (.int .i64 (oQ g (Tr.aj g h):Nat)):=hX.cell 0;have HB:=zh (hBW.trans (belowK_b (w:=w) (Nat.le_refl _) W D _ (.deferred none) (by omega) hK rfl rfl));have WS:oQ g (Tr.aj g h)≤128:=by omega
  obtain⟨M,hM⟩:∃ M,oQ g (Tr.aj g h)=M:=⟨_,rfl⟩
  rw[hM] at c0 WS;have HM:=zh hM;clear hX mR hBW hM hle
  gi_wp2_with fail
  refine⟨by simp,.inl ⟨_,_,rfl,run_takeDeferred hK,?_⟩⟩;refine⟨_,results_tmp rfl _ _ _,?_,HB.out⟩;show Ending.returned (.int .i64 ((M:Int)+1))=_;exact kJ (by rw[HM.out];omega)
 case stop=>
  rintro D c pre W _ _ h _;exact h.elim
end
section
open Go.RowKit Go.Shelf
attribute [local go_sem] Oper.semAt_some
theorem qD (base B:Nat) (b s root a h:Int) (live n:Nat) (g:Tr.G) (av:Int→Tr.Sl) (fr:List Nat) (vs vf:Value) (w:World) (hm:TV base w B b s vs n (Tr.raw g av) vf fr live root) (hS:Sound b s n (Tr.raw g av) fr live) (hw:Tr.WF 0 g) (hh:lU h):
  Calls Tryz.prog 26 #[.pointer (some ⟨B,0,none⟩),.int .i64 a,.int .i64 h] w fun e w'=>e=.returned (.bool (decide (a∈Tr.dz g h)))∧Below w.heap.size w w':=by
 have hlt:=hm.lt;refine (callsIn_wide (n:=8)).1 ?_;refine callsIn_of_wp_marks Tryz.func26 rfl trivial ?_ rfl;simp only[Tryz.ntmps26,List.size_toArray,List.length_cons,List.length_nil,Nat.reduceAdd,Nat.reduceSub,Array.replicate_succ,Array.replicate_zero,List.push_toArray,List.append_toArray,List.nil_append,List.cons_append]
 gi_wp2_with fail
 obtain⟨w1,hw1⟩:∃ w1,(w.alloc (.cells #[.int .i64 a] 3)).alloc (.cells #[.bool false] 4)=w1:=⟨_,rfl⟩
 have hz1:w1.heap.size=w.heap.size+2:=by rw[←hw1];simp
 have hb1:Below w.heap.size w w1:=by rw[←hw1];exact ((Below.refl _ w).alloc (Nat.le_refl _) _).alloc (by simp) _
 have hA1:Whole w1 w.heap.size #[.int .i64 a] 3:=by rw[←hw1];exact (Whole.new w _ _).alloc _
 have hX1:Whole w1 (w.heap.size+1) #[.bool false] 4:=by
  have:=Whole.new (w.alloc (.cells #[.int .i64 a] 3)) #[.bool false] 4;rw[World.size_alloc] at this;rw[←hw1];exact this
 have hL:=LS.made (h:=h) (hm.below hb1);have hsz2:((w1.alloc (.cells #[.pointer (some ⟨B,0,none⟩)] 29)).alloc (.cells #[.int .i64 h] 3)).heap.size=w1.heap.size+2:=by simp
 have hb2:Below w1.heap.size w1 ((w1.alloc (.cells #[.pointer (some ⟨B,0,none⟩)] 29)).alloc (.cells #[.int .i64 h] 3)):=((Below.refl _ w1).alloc (Nat.le_refl _) _).alloc (by simp) _;have hseq:=IV hS hw hh 7 (by omega) _ hL;have xk:=zh (DZ B h w1);(try rw[hw1]);refine⟨trivial,(callsIn_wide.2 xk.out).mono ?_⟩;rintro e w' ⟨rfl,hw'⟩;rw[←hw'] at hL hsz2 hb2 hseq;have hX2:=hX1.below hb2 hX1.lt;have hA2:=hA1.below hb2 hA1.lt;have hB2:=hb1.trans (hb2.mono hb1.size);clear hm hS hX1 hw' hb2 xk hA1
 gi_wp2_with fail
 rw[hz1] at hseq hL hsz2;have hm1:¬ aD B vs vf (w.heap.size+1):=fun hk=>by have:=(hlt _ hk).2;omega
 refine wpIn_rangeFunc_ownF (w:=w') rfl (by decide) (gf:=143) (lb:=#[.pointer (some ⟨w.heap.size+1+1+1,0,none⟩),.pointer (some ⟨w.heap.size+1+1,0,none⟩)]) rfl trivial (enters_of Tryz.func143 (by kernel_rfl) rfl) hseq LS.qO (LS.rE _) (Below.refl _ _) (fun _=>rfl)
  (fun pre W=>Whole W w.heap.size #[.int .i64 a] 3∧Whole W (w.heap.size+1) #[.bool false] 4∧LS base B (w.heap.size+1+1) (w.heap.size+1+1+1) b s h vs n (Tr.raw g av) vf fr live root W∧Below w.heap.size w W∧a∉pre.map (·.1))
  (fun c _ W=>c=.ret∧Whole W (w.heap.size+1) #[.bool true] 4∧Below w.heap.size w W∧a∈Tr.dz g h)
  ?hI ?hIx ⟨hA2,hX2,hL,hB2,by simp⟩ (fun x=>{ tmps:=#[.pointer (some ⟨B,0,none⟩),.int .i64 a,.int .i64 h,undef,.pointer (some ⟨w.heap.size,0,none⟩),undef,.pointer (some ⟨w.heap.size+1,0,none⟩),.int .i64 x.1,.pointer (some ⟨B,0,none⟩),.int .i64 h,.func (.func 143) #[] #[.pointer (some ⟨w.heap.size+1+1+1,0,none⟩),.pointer (some ⟨w.heap.size+1+1,0,none⟩)],.int .i64 x.1,undef,undef,undef],defers:=[] }) ?assign ?body ?done ?stop
 case hI=>
  rintro pre W W' row ⟨h0,h1,h2,h3,h4⟩ hg hr;exact⟨bn h0 hg (fun r e=>(hr r e).2),bn h1 hg (fun r e=>(hr r e).2),h2.others hg (fun r e=>(hr r e).2),h3.grown hg h3.size (fun r e=>by have:=(hr r e).1;omega),h4⟩
 case hIx=>
  rintro c pre W W' row ⟨h0,h1,h2,h3⟩ hg hr;exact⟨h0,bn h1 hg (fun r e=>(hr r e).2),h2.grown hg h2.size (fun r e=>by have:=(hr r e).1;omega),h3⟩
 case assign=>
  intro l x W K hK
  gi_wp2
  first | exact hK | simpa using hK
 case body=>
  rintro l pre x W ⟨hA,hX,mR,hBW,hnot⟩ hlen;have a0:W.cell? ⟨w.heap.size,0,none⟩=some (.int .i64 a):=hA.cell 0;have c0:W.cell? ⟨w.heap.size+1,0,none⟩=some (.bool false):=hX.cell 0;have f0:=hX.free 0;by_cases hxa:x.1=a
  ·have hq:(x.1 == a)=true:=by simpa using hxa
   have yt:=hX.put 0 (.bool true);have HF:=zh (And.intro yt (And.intro (hBW.setCell (p:=⟨w.heap.size+1,0,none⟩) (Nat.le_succ _) (.bool true)) (show a∈Tr.dz g h from hxa▸x.2)));clear hA hX mR hBW yt hnot hxa
   gi_wp2_with fail
   exact⟨KeepsOthers.setCell _ _ _,rfl,HF.out⟩
  ·have hq:(x.1 == a)=false:=by simpa using hxa
   have HF:=zh (And.intro hA (And.intro hX (And.intro mR (And.intro hBW (show a∉(pre++[x]).map (·.1) by
    rw[List.map_append,List.mem_append];rintro (h1 | h1)
    ·exact hnot h1
    ·simp at h1;exact hxa h1.symm)))))
   clear hA hX mR hBW hnot hxa
   gi_wp2_with fail
   exact⟨KeepsOthers.refl _,fun h=>h,HF.out⟩
 case done=>
  rintro D xs W hD rfl ⟨_,hX,mR,hBW,hnot⟩ hK;rw[List.attach_map_subtype_val] at hnot;have c0:W.cell? ⟨w.heap.size+1,0,none⟩=some (.bool false):=hX.cell 0;have f0:=hX.free 0;have yt:=hX.put 0 (.bool false);have hKs:=(KeepsOthers.setCell W ⟨w.heap.size+1,0,none⟩ (.bool false)).same D _ hK rfl;have O6:=hBW.setCell (p:=⟨w.heap.size+1,0,none⟩) (Nat.le_succ _) (.bool false);obtain⟨V,hV⟩:∃ V,W.setCell ⟨w.heap.size+1,0,none⟩ (.bool false)=V:=⟨_,rfl⟩
  rw[hV] at yt hKs O6;have c9:V.cell? ⟨w.heap.size+1,0,none⟩=some (.bool false):=yt.cell 0;have hca:=cell_kept c9 (grownBy_putObj' V D (.deferred none)) (fun r e=>by cases e;exact⟨_,hKs,rfl⟩);have HB:=zh (O6.trans (belowK_b (w:=w) (Nat.le_refl _) V D _ (.deferred none) (by omega) hKs rfl rfl));have HN:=zh hnot;clear hX mR hBW yt hnot O6
  gi_wp2_with fail
  refine⟨by simp,.inl ⟨_,_,rfl,run_takeDeferred hKs,?_⟩⟩;refine⟨.bool false,?_,?_,HB.out⟩
  ·simp[results,Tryz.f26,go_sem,hca]
  ·exact fP (by simp[HN.out])
 case stop=>
  rintro D c pre W hD hsp ⟨rfl,hX,hBW,hmem⟩ hK;have c0:W.cell? ⟨w.heap.size+1,0,none⟩=some (.bool true):=hX.cell 0;have hca:=cell_kept c0 (grownBy_putObj' W D (.deferred none)) (fun r e=>by cases e;exact⟨_,hK,rfl⟩);have HB:=zh (hBW.trans (belowK_b (w:=w) (Nat.le_refl _) W D _ (.deferred none) (by omega) hK rfl rfl));have HN:=zh hmem;clear hX hBW hmem
  gi_wp2_with fail
  refine⟨by simp,.inl ⟨_,_,rfl,run_takeDeferred hK,?_⟩⟩;refine⟨.bool true,?_,?_,HB.out⟩
  ·simp[results,Tryz.f26,go_sem,hca]
  ·exact fP (by simp[HN.out])
end
section
open Go.RowKit
theorem bne_false {a c:Int} (h:a=c):(a != c)=false:=by simp[h]
theorem bne_true {a c:Int} (h:a≠c):(a != c)=true:=by simpa using h
theorem cK {a c:Int} (h:a≠c):(a == c)=false:=by simpa using h
theorem BM {a c:Int} (h:a=c):(a == c)=true:=by simpa using h
abbrev nG (k:Int):Value:=.tuple #[.slice none 0 0,.int .i64 k]
theorem iR (base B:Nat) (b s root p h c:Int) (live n:Nat) (R:Int→Option Tr.Nd) (fr:List Nat) (vs vf:Value) (w:World) (hm:TV base w B b s vs n R vf fr live root) (hS:Sound b s n R fr live) (hp:lU p) (hh:lU h) (hc:lU c)
  (hno:R p=none∨R h=none∨(c≠0∧R c=none)):
  Calls Tryz.prog 19 #[.pointer (some ⟨B,0,none⟩),.int .i64 p,.int .i64 h,.int .i64 c] w fun e w'=>e=.returned (nG 6)∧Below w.heap.size w w':=by
 have H:=fun (x:Int) (hx:lU x) (W:World) (hb:Below w.heap.size w W)=>vT base B b s root x live n R fr vs vf W (hm.below hb) hS hx;have HH:=zh H;clear hm hS H;cases e1:R p with
 | none=>
  go_enter Tryz.func19,Tryz.ntmps19
  go_wp2_with fail;refine (HH.out p hp w (Below.refl _ _)).mono ?_;rintro e w2 ⟨rfl,hb2⟩;rw[e1];clear e1 hno;go_wp2_with fail;go_ret2;exact⟨rfl,hb2⟩
 | some d1=>
  cases e2:R h with
  | none=>
   go_enter Tryz.func19,Tryz.ntmps19
   go_wp2_with fail;refine (HH.out p hp w (Below.refl _ _)).mono ?_;rintro e w2 ⟨rfl,hb2⟩;rw[e1];have H2:=HH.out h hh w2 hb2;rw[e2] at H2;clear e1 e2 hno;go_wp2_with fail;refine H2.mono ?_;rintro e w3 ⟨rfl,hb3⟩;have dB:=hb2.trans (hb3.mono hb2.size);clear H2;go_wp2_with fail;go_ret2;exact⟨rfl,dB⟩
  | some d2=>
   obtain⟨hc0,e3⟩:c≠0∧R c=none:=by
    rcases hno with h1 | h1 | h1
    ·rw[e1] at h1;cases h1
    ·rw[e2] at h1;cases h1
    ·exact h1
   have hq:=bne_true hc0
   go_enter Tryz.func19,Tryz.ntmps19
   go_wp2_with fail;refine (HH.out p hp w (Below.refl _ _)).mono ?_;rintro e w2 ⟨rfl,hb2⟩;rw[e1];have H2:=HH.out h hh w2 hb2;rw[e2] at H2;clear e1 e2 hno;go_wp2_with fail;refine H2.mono ?_;rintro e w3 ⟨rfl,hb3⟩;have dB:=hb2.trans (hb3.mono hb2.size);have H3:=HH.out c hc w3 dB;rw[e3] at H3;clear H2 e3;go_wp2_with fail;refine H3.mono ?_;rintro e w4 ⟨rfl,hb4⟩;have bY:=dB.trans (hb4.mono dB.size);clear H3;go_wp2_with fail;go_ret2;exact⟨rfl,bY⟩
structure rQ (base B:Nat) (b s root p h c:Int) (live n:Nat) (g:Tr.G) (av:Int→Tr.Sl) (fr:List Nat) (vs vf:Value) (np nh:Tr.GN) (w:World):Prop where
 tree:TV base w B b s vs n (Tr.raw g av) vf fr live root
 sound:Sound b s n (Tr.raw g av) fr live
 wf:Tr.WF 0 g
 ep:g p=some np
 eh:g h=some nh
 ec:c≠0→(g c).isSome
section
variable {base B n live:Nat} {b s root p h c:Int} {g:Tr.G} {av:Int→Tr.Sl} {fr:List Nat} {vs vf:Value} {np nh:Tr.GN} {w w':World}
theorem rQ.has (H:rQ base B b s root p h c live n g av fr vs vf np nh w) (hb:Below w.heap.size w w') {x:Int} (hx:(g x).isSome):
  Calls Tryz.prog 70 #[.pointer (some ⟨B,0,none⟩),.int .i64 x] w' fun e w2=>e=.returned (.bool true)∧Below w'.heap.size w' w2:=by
 have:=vT base B b s root x live n (Tr.raw g av) fr vs vf w' (H.tree.below hb) H.sound (bR H.sound (h:=x) (by rw[aS];exact hx)).1;rw[aS,hx] at this;exact this
theorem rQ.dI (H:rQ base B b s root p h c live n g av fr vs vf np nh w) (hb:Below w.heap.size w w') (hc:c≠0):
  Calls Tryz.prog 59 #[.pointer (some ⟨B,0,none⟩),.int .i64 c] w' fun e w2=>∃ gb o,e=.returned (.pointer (some ⟨gb,o,none⟩))∧w2.cell? ⟨gb,o+4,none⟩=some (.int .i64 (Tr.dI g c))∧Below w'.heap.size w' w2:=by
 obtain⟨m,em⟩:=Option.isSome_iff_exists.1 (H.ec hc);refine (ig base B b s root c live n _ fr vs vf _ w' (H.tree.below hb) H.sound (Tr.ah em)).mono ?_;rintro e w2 ⟨gb,o,rfl,hpt,hb2⟩;refine⟨gb,o,rfl,?_,hb2⟩;obtain⟨_,_,_,_,t4,_⟩:=(((H.tree.below hb).below hb2).np hpt (Tr.ah em)).cells;rw[t4,Tr.aP em];rfl
end
theorem Gi (base B:Nat) (b s root p h c:Int) (live n:Nat) (g:Tr.G) (av:Int→Tr.Sl) (fr:List Nat) (vs vf:Value) (np nh:Tr.GN) (w:World) (H:rQ base B b s root p h c live n g av fr vs vf np nh w)
  (hno:Tr.gQ g p h=false∨h∈Tr.dz g p∨(c≠0∧Tr.dI g c≠p)):
  Calls Tryz.prog 19 #[.pointer (some ⟨B,0,none⟩),.int .i64 p,.int .i64 h,.int .i64 c] w fun e w'=>e=.returned (nG 10)∧Below w.heap.size w w':=by
 have hpi:=(bR H.sound (h:=p) (by rw[aS,H.ep];rfl)).1;have HP:=zh (H.has (Below.refl _ w) (x:=p) (by rw[H.ep];rfl));have Py:=zh (fun (W:World) (hb:Below w.heap.size w W)=>H.has hb (x:=h) (by rw[H.eh];rfl));have OZ:=zh (fun (W:World) (hb:Below w.heap.size w W) (hc:c≠0)=>H.has hb (x:=c) (H.ec hc));have HA:=zh (fun (W:World) (hb:Below w.heap.size w W)=>rR base B b s root p h live n g av fr vs vf np nh W (H.tree.below hb) H.sound H.wf H.ep H.eh);have HC:=zh (fun (W:World) (hb:Below w.heap.size w W)=>qD base B b s root h p live n g av fr vs vf W (H.tree.below hb) H.sound H.wf hpi);have Ul:=zh (fun (W:World) (hb:Below w.heap.size w W) (hc:c≠0)=>H.dI hb hc);have HN:=zh hno;have HI:=zh H;clear H hno;have key:∀ (w2 w3:World),Below w2.heap.size w2 w3→Below w.heap.size w w2→Below w.heap.size w w3:=fun w2 w3 h h'=>h'.trans (h.mono h'.size);by_cases hc0:c=0
 ·have hq:=bne_false hc0
  go_enter Tryz.func19,Tryz.ntmps19
  go_wp2_with fail;refine HP.out.mono ?_;rintro e w2 ⟨rfl,hb2⟩;go_wp2_with fail;refine (Py.out w2 hb2).mono ?_;rintro e w3 ⟨rfl,hb3⟩;have dB:=key _ _ hb3 hb2;go_wp2_with fail;refine (HA.out w3 dB).mono ?_;rintro e w4 ⟨rfl,hb4⟩;have bY:=key _ _ hb4 dB;cases ha:Tr.gQ g p h with
  | false=>
   clear ha;go_wp2_with fail;go_ret2;exact⟨rfl,bY⟩
  | true=>
   have hu:decide (h∈Tr.dz g p)=true:=by
    rcases HN.out with h1 | h1 | ⟨h1,_⟩
    ·rw[ha] at h1;cases h1
    ·exact decide_eq_true h1
    ·exact absurd hc0 h1
   have uS:=HC.out w4 bY;rw[hu] at uS;clear ha hu;go_wp2_with fail;refine uS.mono ?_;rintro e w5 ⟨rfl,hb5⟩;have eu:=key _ _ hb5 bY;clear uS;go_wp2_with fail;go_ret2;exact⟨rfl,eu⟩
 ·have hq:=bne_true hc0
  go_enter Tryz.func19,Tryz.ntmps19
  go_wp2_with fail;refine HP.out.mono ?_;rintro e w2 ⟨rfl,hb2⟩;go_wp2_with fail;refine (Py.out w2 hb2).mono ?_;rintro e w3' ⟨rfl,EJ⟩;have rT:=key _ _ EJ hb2;go_wp2_with fail;refine (OZ.out w3' rT hc0).mono ?_;rintro e w3 ⟨rfl,hb3⟩;have dB:=key _ _ hb3 rT;go_wp2_with fail;refine (HA.out w3 dB).mono ?_;rintro e w4 ⟨rfl,hb4⟩;have bY:=key _ _ hb4 dB;cases ha:Tr.gQ g p h with
  | false=>
   clear ha;go_wp2_with fail;go_ret2;exact⟨rfl,bY⟩
  | true=>
   have uS:=HC.out w4 bY;by_cases hu:h∈Tr.dz g p
   ·rw[decide_eq_true hu] at uS;clear ha hu;go_wp2_with fail;refine uS.mono ?_;rintro e w5 ⟨rfl,hb5⟩;have eu:=key _ _ hb5 bY;clear uS;go_wp2_with fail;go_ret2;exact⟨rfl,eu⟩
   ·rw[decide_eq_false hu] at uS;have hpc:Tr.dI g c≠p:=by
     rcases HN.out with h1 | h1 | ⟨_,h1⟩
     ·rw[ha] at h1;cases h1
     ·exact absurd h1 hu
     ·exact h1
    have hq3:=bne_true hpc;clear ha hu hpc;go_wp2_with fail;refine uS.mono ?_;rintro e w5 ⟨rfl,hb5⟩;have eu:=key _ _ hb5 bY;have JB:=Ul.out w5 eu hc0;clear uS;go_wp2_with fail;refine JB.mono ?_;rintro e w6 ⟨gb,o,rfl,k4,hb6⟩;have iC:=key _ _ hb6 eu;clear JB;go_wp2_with fail;go_ret2;exact⟨rfl,iC⟩
end
section
section
open Go.RowKit
namespace Tr
def dN (g:G) (h:Int):G:=if dI g h=0 then g else jB g h
def fZ (g:G) (h:Int):List Rec:=if dI g h=0 then [] else [jH g 2 h]
section
variable {g:G} {h p c:Int} {n q:GN}
theorem WF.dN (w:WF 0 g) (e:g h=some n):WF 0 (dN g h):=by
 unfold Tr.dN;split
 ·exact w
 ·exact w.cut e
theorem wN (e:g h=some n):dN g h h=some { n with pa:=0 }:=by
 unfold dN
 split
 ·rename_i hp;rw[aP e] at hp;rw[e];cases n;simp only at hp;subst hp;rfl
 ·exact lG e
theorem xZ {x:Int} {m':GN} (ex:bP g p h c x=some m'):∃ m,g x=some m∧m.attrs=m'.attrs∧m.kind=m'.kind∧m.name=m'.name∧m.data=m'.data:=by
 unfold bP at ex
 split at ex
 ·rename_i e;subst e;cases eg:g x with
  | none=>rw[eg] at ex;cases ex
  | some m=>rw[eg] at ex;obtain rfl:=Option.some.inj ex;exact⟨m,rfl,rfl,rfl,rfl,rfl⟩
 ·split at ex
  ·rename_i e;subst e;cases eg:g x with
   | none=>rw[eg] at ex;cases ex
   | some m=>rw[eg] at ex;obtain rfl:=Option.some.inj ex;exact⟨m,rfl,rfl,rfl,rfl,rfl⟩
  ·exact⟨m',ex,rfl,rfl,rfl,rfl⟩
theorem WF.Dc (w:WF 0 g) (e:g h=some n) {x:Int} (hx:h∉dz g x):dz (Tr.dN g h) x=dz g x:=by
 unfold Tr.dN
 split
 ·rfl
 ·refine (w.cut e).kL ?_;have key:∀ (x:Int) (l:List Int),Up g x l→h∉l→Up (jB g h) x l:=by
   intro x l u
   induction u with
   | @out y e1=>
    intro _;refine .out ?_;have:=iy (g:=g) (h:=h) (x:=y);rw[e1] at this;exact Option.not_isSome_iff_eq_none.1 (by rw[this];simp)
   | @node y m l e1 u ih=>
    intro hm;simp only[List.mem_cons,not_or] at hm;have:=iy (g:=g) (h:=h) (x:=y);rw[e1] at this;obtain⟨m',em'⟩:=Option.isSome_iff_exists.1 this;obtain⟨m0,e0,h1,_⟩:=jN em' (fun e2=>hm.1 e2.symm);rw[e1] at e0;obtain rfl:=Option.some.inj e0;exact .node em' (by rw[h1];exact ih hm.2)
  exact key _ _ (w.eO x).1 hx
theorem WF.Jz (w:WF 0 g) (e:g h=some n):gB (Tr.dN g h) h=gB g h:=by
 have w1:=w.dN e;have key:∀ x,h∈dz g x→gB (Tr.dN g h) x=gB g x:=by
  refine w.induct fun x ih=>fun hx=>?_;cases ex:g x with
  | none=>rw[w.lV ex] at hx;cases hx
  | some m=>
   have Oa:∃ m',Tr.dN g h x=some m'∧m'.kids=m.kids:=by
    by_cases hxh:x=h
    ·rw[hxh,e] at ex;obtain rfl:=Option.some.inj ex;exact⟨{ n with pa:=0 },by rw[hxh];exact wN e,rfl⟩
    ·unfold Tr.dN
     split
     ·exact⟨m,ex,rfl⟩
     ·rw[yG hxh (fun e1=>by
       rw[aP e] at e1;rw[e1] at hx
       exact w.above e (w.eO n.pa).1 hx)]
      exact⟨m,ex,rfl⟩
   obtain⟨m',em',hk⟩:=Oa;rw[w1.iF em',w.iF ex,hk];refine congrArg (fun t:List Nat=>t.foldl max 0+1) (List.map_congr_left fun k hk2=>ih m ex k hk2 ?_);rw[w.jk ex hk2];exact List.mem_cons_of_mem _ hx
 exact key h (by rw[w.bQ e];simp)
def oL (g:G) (h c:Int):Int:=if c=h then nu (aj g (dI g h)) h else c
theorem E8 (w:WF 0 g) (e:g h=some n) (ep:g p=some q) (hu:h∉dz g p) (hc:c=0∨dI g c=p∧(g c).isSome):
  ∃ q1,Tr.dN g h p=some q1∧(oL g h c=0∨oL g h c∈q1.kids):=by
 have xG:p≠h:=fun e1=>by rw[w.bQ ep,e1] at hu;exact hu (by simp)
 have hpz:p≠0:=fun e1=>by rw[e1,w.zero] at ep;cases ep
 have Oa:∃ q1,Tr.dN g h p=some q1∧q1.kids=q.kids.erase h:=by
  unfold Tr.dN;by_cases hpa:dI g h=p
  ·rw[if_neg (by rw[hpa];exact hpz)];rw[aP e] at hpa;subst hpa;exact⟨_,JV e (fun e1=>xG e1) ep,rfl⟩
  ·have hnk:h∉q.kids:=fun hm=>by
    obtain⟨m,e1,e2⟩:=w.down p q h ep hm;exact hpa (by rw[aP e1];exact e2)
   refine⟨q,?_,(List.erase_of_not_mem hnk).symm⟩
   split
   ·exact ep
   ·rw[yG xG (fun e1=>hpa e1.symm)];exact ep
 obtain⟨q1,e1,e2⟩:=Oa;refine⟨q1,e1,?_⟩;rw[e2];unfold oL
 split
 ·rename_i hch;rcases hc with h0 | ⟨h1,_⟩
  ·rw[←hch,h0,w.zero] at e;cases e
  ·rw[hch] at h1;rw[h1,aR ep];by_cases hz:nu q.kids h=0
   ·exact .inl hz
   ·right;refine (List.mem_erase_of_ne ?_).2 (Dy hz);intro e3;have hk:=w.tO e (by rw[←aP e,h1];exact hpz);rw[←aP e,h1,aR ep] at hk;obtain⟨l1,l2,e4⟩:=List.append_of_mem hk;have hnd:=w.nodup p q ep;rw[e4] at hnd e3 hz;have h5:h∉l1:=fun hx=>(List.nodup_append.1 hnd).2.2 h hx h (by simp) rfl;rw[gV h5] at e3 hz;exact (List.nodup_cons.1 (List.nodup_append.1 hnd).2.1).1 (e3▸wU hz)
 ·rename_i hch;rcases hc with h0 | ⟨h1,h2⟩
  ·exact .inl h0
  ·right;obtain⟨m,em⟩:=Option.isSome_iff_exists.1 h2;rw[aP em] at h1;have hk:=w.tO em (by rw[h1];exact hpz);rw[h1,aR ep] at hk;exact (List.mem_erase_of_ne hch).2 hk
end
end Tr
theorem JA (base B:Nat) (b s root h:Int) (live n:Nat) (g:Tr.G) (av:Int→Tr.Sl) (fr:List Nat) (vs vf:Value) (nd:Tr.GN) (w:World) (hm:TV base w B b s vs n (Tr.raw g av) vf fr live root) (hS:Sound b s n (Tr.raw g av) fr live) (hw:Tr.WF 0 g) (eg:g h=some nd):
  Calls Tryz.prog 69 #[.pointer (some ⟨B,0,none⟩),.int .i64 h] w fun e w'=>∃ v,e=.returned v∧bO w.heap.size w' v (Tr.fZ g h)∧TV base w' B b s vs n (Tr.raw (Tr.dN g h) av) vf fr live root∧ay w w' (aD B vs vf) (aD B vs vf):=by
 unfold Tr.fZ Tr.dN;rw[Tr.aP eg];by_cases hp:nd.pa=0
 ·rw[if_pos hp,if_pos hp];refine (NZ base B b s root h live n g av fr vs vf nd w hm hS eg hp).mono ?_;rintro e w' ⟨rfl,hb⟩;exact⟨_,rfl,bO.nil _ _,hm.below hb,.of_below hb⟩
 ·rw[if_neg hp,if_neg hp];exact N7 base B b s root h live n g av fr vs vf nd w hm hS hw eg hp
theorem uF {b s:Int} {n live:Nat} {g:Tr.G} {av:Int→Tr.Sl} {fr:List Nat} {h:Int} {nd:Tr.GN} (hS:Sound b s n (Tr.raw g av) fr live) (hw:Tr.WF 0 g) (eg:g h=some nd):Sound b s n (Tr.raw (Tr.dN g h) av) fr live:=by
 unfold Tr.dN
 split
 ·exact hS
 ·rename_i hp;rw[Tr.aP eg] at hp;rw[Tr.JR hw eg hp];exact hS.vK
theorem qA {b s:Int} {n live:Nat} {g:Tr.G} {av:Int→Tr.Sl} {fr:List Nat} {p h c:Int} {nd q:Tr.GN} (hS:Sound b s n (Tr.raw g av) fr live) (hw:Tr.WF 0 g) (eh:g h=some nd) (hn:nd.pa=0) (ep:g p=some q) (hp:h≠p) (hc:c=0∨c∈q.kids):Sound b s n (Tr.raw (Tr.bP g p h c) av) fr live:=by
 rw[Tr.F4 hw eh hn ep hp hc];exact hS.linked
theorem sW (base B:Nat) (b s root p h c:Int) (live n:Nat) (g:Tr.G) (av:Int→Tr.Sl) (fr:List Nat) (vs vf:Value) (nd q:Tr.GN) (w:World) (hm:TV base w B b s vs n (Tr.raw g av) vf fr live root) (hS:Sound b s n (Tr.raw g av) fr live) (hw:Tr.WF 0 g)
  (eh:g h=some nd) (hn:nd.pa=0) (ep:g p=some q) (hp:h≠p) (hc:c=0∨c∈q.kids):
  Calls Tryz.prog 74 #[.pointer (some ⟨B,0,none⟩),.int .i64 p,.int .i64 h,.int .i64 c] w fun e w'=>(∃ u,e=.returned u)∧TV base w' B b s vs n (Tr.raw (Tr.bP g p h c) av) vf fr live root∧ay w w' (aD B vs vf) (aD B vs vf):=by
 rw[Tr.F4 hw eh hn ep hp hc];have hpz:p≠0:=fun e1=>by rw[e1,hw.zero] at ep;cases ep
 have hnk:h∉q.kids:=fun hm=>by
  obtain⟨m,h1,h2⟩:=hw.down p q h ep hm;rw[eh] at h1;obtain rfl:=Option.some.inj h1;exact hpz (by rw[←h2,hn])
 have hcm:c≠0→∃ mc,g c=some mc∧mc.pa=p:=fun e=>hw.down p q c ep (by rcases hc with h1 | h1;exact absurd h1 e;exact h1);have WT:(if c=0 then Tr.gF q.kids else Tr.prv q.kids c)≠0→(if c=0 then Tr.gF q.kids else Tr.prv q.kids c)∈q.kids:=fun e=>by
  split at e
  ·rename_i h1;rw[if_pos h1];exact Tr.oC e
  ·rename_i h1;rw[if_neg h1];exact Tr.JO e
 obtain⟨dc,hdc⟩:=some_or (R:=Tr.raw g av) (c:=c) (fun e=>by obtain⟨mc,e1,_⟩:=hcm e;exact⟨_,Tr.ah e1⟩);obtain⟨dv,hdv⟩:=some_or (R:=Tr.raw g av) (c:=if c=0 then Tr.gF q.kids else Tr.prv q.kids c) (fun e=>by obtain⟨mv,e1,_⟩:=hw.down p q _ ep (WT e);exact⟨_,Tr.ah e1⟩);refine NU base B b s root p h c live n _ fr vs vf _ _ dc dv _ w hm hS (Tr.ah ep) (Tr.ah eh) hdc ?_ hdv hp (fun e e1=>?_) (fun e e1=>hnk (by rw[e1];exact WT e))
 ·by_cases h1:c=0
  ·rw[if_pos h1,if_pos h1];rfl
  ·rw[if_neg h1,if_neg h1];obtain⟨mc,e1,e2⟩:=hcm h1;have:=hdc h1;rw[Tr.ah e1] at this;obtain rfl:=Option.some.inj this;show _=Tr.prv (Tr.aj g mc.pa) c;rw[e2,Tr.aR ep]
 ·rcases hc with h1 | h1
  ·exact e h1
  ·exact hnk (e1▸h1)
end
end
section
open Go.RowKit
theorem recInfo:(Tryz.prog.info? 48).map (fun i=>(i.zero,i.size,i.bytes))=some (some (.agg #[.int .i64 0,.int .i64 0,.int .i64 0,.int .i64 0,.int .i64 0,.int .i64 0,.string ⟨#[]⟩,.string ⟨#[]⟩,.bool false,.int .i64 0,.int .i64 0]),11,104):=by kernel_rfl
theorem lM (l m:List Tr.Rec):gT (l++m)=gT l++gT m:=by simp[gT]
theorem yU (r:Tr.Rec):∀ u∈gT [r],u.oneCell'=true:=fun u hu=>by
 simp only[gT,Sr,List.flatMap_cons,List.flatMap_nil,List.append_nil,List.mem_cons,List.not_mem_nil,or_false] at hu;rcases hu with rfl | rfl | rfl | rfl | rfl | rfl | rfl | rfl | rfl | rfl | rfl<;>rfl
theorem Lm {w:World} {b1 b2 size:Nat} {e:TypeId} {v:Value} {n:Nat} {xs:List Value} (h:w.ownsRow b1 e size v n xs) (hb:b2≤b1):w.ownsRow b2 e size v n xs:=by
 refine⟨h.1,?_⟩;rcases h.2 with hn | ⟨g,cap,cur,hv,h0,hr⟩
 ·exact .inl hn
 ·exact .inr ⟨g,cap,cur,hv,Nat.le_trans hb h0,hr⟩
theorem bO.lower {b1 b2:Nat} {w:World} {v:Value} {l:List Tr.Rec} (h:bO b1 w v l) (hb:b2≤b1):bO b2 w v l:=Lm h hb
theorem bO.below {b:Nat} {w w':World} {v:Value} {l:List Tr.Rec} (h:bO b w v l) (hb:Below w.heap.size w w'):bO b w' v l:=cB (S:=fun _=>False) h (.of_below hb) (fun _ _=>id)
section
variable {base B n live:Nat} {w w1:World} {b s root:Int} {vs vf:Value} {R:Int→Option Tr.Nd} {fr:List Nat}
theorem TV.apart {b2 size m:Nat} {e:TypeId} {v:Value} {xs:List Value} (hM:TV base w B b s vs n R vf fr live root) (h:w.ownsRow b2 e size v m xs) (h1:e≠83) (h2:e≠158) (h3:e≠3):∀ k,v.ownBlock=some k→¬ aD B vs vf k:=by
 rintro k hk (rfl | hx | hx)
 ·exact bH h hM.var h1 hk
 ·rcases own_ne h hM.row h2 with h4 | h4
  ·rw[h4] at hk;cases hk
  ·exact h4 (hk.trans hx.symm)
 ·rcases own_ne h hM.free h3 with h4 | h4
  ·rw[h4] at hk;cases hk
  ·exact h4 (hk.trans hx.symm)
theorem bO.step {b2:Nat} {v:Value} {l:List Tr.Rec} {F':Nat→Prop} (h:bO b2 w v l) (hM:TV base w B b s vs n R vf fr live root) (st:ay w w1 (aD B vs vf) F'):bO b2 w1 v l:=
 cB h st.1 (hM.apart h (by decide) (by decide) (by decide))
theorem TV.wO {b2:Nat} {v:Value} {l:List Tr.Rec} (hM:TV base w B b s vs n R vf fr live root) (h:bO b2 w v l) (g:w.grownBy w1 v.ownBlock):TV base w1 B b s vs n R vf fr live root:=
 hM.turns (S:=fun k=>v.ownBlock=some k) (.aZ g (fun k hk=>hk)) (fun k hk e=>hM.apart h (by decide) (by decide) (by decide) k e hk)
theorem ay.kZ {F F':Nat→Prop} {w2:World} {S:Nat→Prop} (st:ay w w1 F F') (h:Turns S w1 w2) (hS:∀ k,S k→w.heap.size≤k):ay w w2 F F':=
 ⟨st.1.trans h (fun _ _ x=>x) (fun k hk x=>absurd hk (Nat.not_lt.2 (hS k x))),st.2⟩
theorem rQ.next {p h c:Int} {g:Tr.G} {av:Int→Tr.Sl} {np nh:Tr.GN} {w':World} (H:rQ base B b s root p h c live n g av fr vs vf np nh w) (hb:Below w.heap.size w w'):
  Calls Tryz.prog 59 #[.pointer (some ⟨B,0,none⟩),.int .i64 h] w' fun e w2=>∃ gb o,e=.returned (.pointer (some ⟨gb,o,none⟩))∧w2.cell? ⟨gb,o+8,none⟩=some (.int .i64 (Tr.nu (Tr.aj g (Tr.dI g h)) h))∧Below w'.heap.size w' w2:=by
 refine (ig base B b s root h live n _ fr vs vf _ w' (H.tree.below hb) H.sound (Tr.ah H.eh)).mono ?_;rintro e w2 ⟨gb,o,rfl,hpt,hb2⟩;refine⟨gb,o,rfl,?_,hb2⟩;obtain⟨_,_,_,_,_,_,_,_,t8⟩:=(((H.tree.below hb).below hb2).np hpt (Tr.ah H.eh)).cells;rw[t8,Tr.aP H.eh];rfl
end
theorem D5 (base B:Nat) (b s root p h c:Int) (live n:Nat) (g:Tr.G) (av:Int→Tr.Sl) (fr:List Nat) (vs vf:Value) (np nh:Tr.GN) (w:World) (H:rQ base B b s root p h c live n g av fr vs vf np nh w)
  (hacc:Tr.gQ g p h=true) (hu:h∉Tr.dz g p) (hpc:c≠0→Tr.dI g c=p) (hlim:128<(Tr.dz g p).length+Tr.gB g h):
  Calls Tryz.prog 19 #[.pointer (some ⟨B,0,none⟩),.int .i64 p,.int .i64 h,.int .i64 c] w fun e w'=>e=.returned (nG 5)∧Below w.heap.size w w':=by
 have hpi:=(bR H.sound (h:=p) (by rw[aS,H.ep];rfl)).1;have HP:=zh (H.has (Below.refl _ w) (x:=p) (by rw[H.ep];rfl));have Py:=zh (fun (W:World) (hb:Below w.heap.size w W)=>H.has hb (x:=h) (by rw[H.eh];rfl));have OZ:=zh (fun (W:World) (hb:Below w.heap.size w W) (hc:c≠0)=>H.has hb (x:=c) (H.ec hc));have HA:=zh (fun (W:World) (hb:Below w.heap.size w W)=>rR base B b s root p h live n g av fr vs vf np nh W (H.tree.below hb) H.sound H.wf H.ep H.eh);have HC:=zh (fun (W:World) (hb:Below w.heap.size w W)=>qD base B b s root h p live n g av fr vs vf W (H.tree.below hb) H.sound H.wf hpi);have Ul:=zh (fun (W:World) (hb:Below w.heap.size w W) (hc:c≠0)=>H.dI hb hc);have hdl:=(H.wf.eO p).2;have hgl:=H.wf.qz h;have HD:=fun (W:World) (hb:Below w.heap.size w W)=>BL base B b s root p live n g av fr vs vf W (H.tree.below hb) H.sound H.wf hpi;have HG:=fun (W:World) (hb:Below w.heap.size w W)=>yS base B b s root live n g av fr vs vf H.sound H.wf h (by rw[H.eh];rfl) W (H.tree.below hb);have key:∀ (w2 w3:World),Below w2.heap.size w2 w3→Below w.heap.size w w2→Below w.heap.size w w3:=fun w2 w3 h h'=>h'.trans (h.mono h'.size);clear H;obtain⟨D,hD⟩:∃ D,(Tr.dz g p).length=D:=⟨_,rfl⟩
 obtain⟨X,hX⟩:∃ X,Tr.gB g h=X:=⟨_,rfl⟩
 rw[hD] at HD hdl hlim;rw[hX] at HG hgl hlim;have hXl:X≤129:=by omega
 replace HD:=zh HD;replace HG:=zh HG;have hq9:decide ((128:Int)<(D:Int)+(X:Int))=true:=decide_eq_true (by omega);by_cases hc0:c=0
 ·subst hc0;have hq:((0:Int) != 0)=false:=rfl
  go_enter Tryz.func19,Tryz.ntmps19
  go_wp2_with fail;refine HP.out.mono ?_;rintro e w2 ⟨rfl,hb2⟩;go_wp2_with fail;refine (Py.out w2 hb2).mono ?_;rintro e w3 ⟨rfl,hb3⟩;have dB:=key _ _ hb3 hb2;have Df:=HA.out w3 dB;rw[hacc] at Df;go_wp2_with fail;refine Df.mono ?_;rintro e w4 ⟨rfl,hb4⟩;have bY:=key _ _ hb4 dB;have uS:=HC.out w4 bY;rw[decide_eq_false hu] at uS;clear Df;go_wp2_with fail;refine uS.mono ?_;rintro e w5 ⟨rfl,hb5⟩;have eu:=key _ _ hb5 bY;clear uS;go_wp2_with fail;refine (HD.out w5 eu).mono ?_;rintro e w6 ⟨rfl,hb6⟩;have iC:=key _ _ hb6 eu;go_wp2_with fail;refine (HG.out w6 iC).mono ?_;rintro e w7 ⟨rfl,lK⟩;have qZ:=key _ _ lK iC;go_wp2_with fail;go_ret2;exact⟨rfl,qZ⟩
 ·have hq:=bne_true hc0;replace hpc:=hpc hc0
  go_enter Tryz.func19,Tryz.ntmps19
  go_wp2_with fail;refine HP.out.mono ?_;rintro e w2 ⟨rfl,hb2⟩;go_wp2_with fail;refine (Py.out w2 hb2).mono ?_;rintro e w3' ⟨rfl,EJ⟩;have rT:=key _ _ EJ hb2;go_wp2_with fail;refine (OZ.out w3' rT hc0).mono ?_;rintro e w3 ⟨rfl,hb3⟩;have dB:=key _ _ hb3 rT;have Df:=HA.out w3 dB;rw[hacc] at Df;go_wp2_with fail;refine Df.mono ?_;rintro e w4 ⟨rfl,hb4⟩;have bY:=key _ _ hb4 dB;have uS:=HC.out w4 bY;rw[decide_eq_false hu] at uS;clear Df;go_wp2_with fail;refine uS.mono ?_;rintro e VH ⟨rfl,M7⟩;have xJ:=key _ _ M7 bY;have JB:=Ul.out VH xJ hc0;rw[hpc] at JB;clear uS;go_wp2_with fail;refine JB.mono ?_;rintro e w5 ⟨gb,o,rfl,k4,hb5⟩;have eu:=key _ _ hb5 xJ;have hpp:(p != p)=false:=by simp
  clear JB;go_wp2_with fail;refine (HD.out w5 eu).mono ?_;rintro e w6 ⟨rfl,hb6⟩;have iC:=key _ _ hb6 eu;go_wp2_with fail;refine (HG.out w6 iC).mono ?_;rintro e w7 ⟨rfl,lK⟩;have qZ:=key _ _ lK iC;go_wp2_with fail;go_ret2;exact⟨rfl,qZ⟩
end
section
open Go Go.RowKit
def fM (l:List (ByteArray×ByteArray)):List Value:=l.flatMap fun p=>[.string p.1,.string p.2]
theorem jM (l m:List (ByteArray×ByteArray)):fM (l++m)=fM l++fM m:=by simp[fM]
theorem qG (l:List (ByteArray×ByteArray)):(fM l).length=l.length*2:=by
 induction l with
 | nil=>rfl
 | cons p r ih=>
  have e:fM (p::r)=[.string p.1,.string p.2]++fM r:=rfl;rw[e,List.length_append,ih];simp only[List.length_cons,List.length_nil];omega
theorem gN (l:List (ByteArray×ByteArray)):∀ u∈fM l,u.oneCell'=true:=by
 intro u hu;simp only[fM,List.mem_flatMap] at hu;obtain⟨p,_,hu⟩:=hu;simp at hu;rcases hu with rfl | rfl<;>rfl
theorem gH:∀ (l:List (ByteArray×ByteArray)) (i:Nat) (p:ByteArray×ByteArray),l[i]?=some p→(fM l)[i*2]?=some (.string p.1)∧(fM l)[i*2+1]?=some (.string p.2):=by
 intro l
 induction l with
 | nil=>intro i p h;simp at h
 | cons q r ih=>
  intro i p h;have e:fM (q::r)=[.string q.1,.string q.2]++fM r:=rfl;cases i with
  | zero=>simp at h;subst h;exact⟨rfl,rfl⟩
  | succ i=>
   obtain⟨h1,h2⟩:=ih i p (by simpa using h);refine⟨?_,?_⟩
   ·rw[e,show (i+1)*2=i*2+2 from by omega];exact h1
   ·rw[e,show (i+1)*2+1=(i*2+1)+2 from by omega];exact h2
theorem Mr (l:List (ByteArray×ByteArray)) (i:Nat):(fM l).take (i*2)=fM (l.take i):=by
 induction l generalizing i with
 | nil=>simp[fM]
 | cons q r ih=>
  have e:fM (q::r)=.string q.1::.string q.2::fM r:=rfl;cases i with
  | zero=>simp[fM]
  | succ i=>
   have e2:fM ((q::r).take (i+1))=.string q.1::.string q.2::fM (r.take i):=rfl;rw[e,e2,show (i+1)*2=i*2+1+1 from by omega,List.take_succ_cons,List.take_succ_cons,ih]
theorem Ms (l:List (ByteArray×ByteArray)) (i:Nat):(fM l).drop (i*2)=fM (l.drop i):=by
 induction l generalizing i with
 | nil=>simp[fM]
 | cons q r ih=>
  have e:fM (q::r)=.string q.1::.string q.2::fM r:=rfl;cases i with
  | zero=>simp
  | succ i=>rw[e,show (i+1)*2=i*2+1+1 from by omega,List.drop_succ_cons,List.drop_succ_cons,ih];rfl
theorem yC (l:List (ByteArray×ByteArray)) (i:Nat) (p:ByteArray×ByteArray) (h:l[i]?=some p) (v:ByteArray):(fM l).set (i*2+1) (.string v)=fM (l.set i (p.1,v)):=by
 induction l generalizing i with
 | nil=>simp at h
 | cons q r ih=>
  have e:fM (q::r)=.string q.1::.string q.2::fM r:=rfl;cases i with
  | zero=>simp at h;subst h;rfl
  | succ i=>
   rw[e,show (i+1)*2+1=(i*2+1)+1+1 from by omega,List.set_cons_succ,List.set_cons_succ,ih i (by simpa using h)];rfl
theorem BR (l:List Int) (i:Nat):(ints l).take i=ints (l.take i):=by simp[ints]
theorem BS (l:List Int) (i:Nat):(ints l).drop i=ints (l.drop i):=by simp[ints]
structure RS where
 kind:Int
 name:ByteArray
 a:Tr.Sl
 at':List (ByteArray×ByteArray)
 data:ByteArray
 pa:Int
 k:Tr.Sl
 kids:List Int
 gone:Bool
def pR (x:RS):List Value:=[.int .i64 x.kind,.string x.name,x.a.v,.string x.data,.int .i64 x.pa,x.k.v,.bool x.gone]
theorem tH:∀ c,(pR c).length=7:=fun _=>rfl
theorem lN (x:RS):∀ u∈pR x,u.oneCell'=true:=by
 intro u hu;simp only[pR,List.mem_cons,List.not_mem_nil,or_false] at hu;rcases hu with rfl | rfl | rfl | rfl | rfl | rfl | rfl<;>rfl
def bg (f:Nat→RS) (i:Nat) (u:RS→RS):Nat→RS:=fun j=>if j=i then u (f i) else f j
theorem jS (f:Nat→RS) (i:Nat) (u:RS→RS):bg f i u i=u (f i):=if_pos rfl
theorem jd {f:Nat→RS} {i j:Nat} {u:RS→RS} (h:j≠i):bg f i u j=f j:=if_neg h
structure MV (base:Nat) (w:World) (M:Nat) (vs:Value) (m:Nat) (f:Nat→RS):Prop where
 low:base≤M
 var:Whole w M #[vs] 70
 row:w.ownsRow base 67 7 vs m (bS pR m f)
 ar:∀ i,i<m→TR w base 96 2 (f i).a.v (f i).at'.length (fM (f i).at')
 kr:∀ i,i<m→TR w base 3 1 (f i).k.v (f i).kids.length (ints (f i).kids)
 aa:∀ i j,i<m→j<m→i≠j→∀ x,(f i).a.v.ownBlock=some x→(f j).a.v.ownBlock≠some x
 kk:∀ i j,i<m→j<m→i≠j→∀ x,(f i).k.v.ownBlock=some x→(f j).k.v.ownBlock≠some x
def aB (M:Nat) (vs:Value) (m:Nat) (f:Nat→RS):Nat→Prop:=fun x=>x=M∨vs.ownBlock=some x∨∃ i,i<m∧((f i).a.v.ownBlock=some x∨(f i).k.v.ownBlock=some x)
section
variable {base M m:Nat} {w w1 w':World} {vs v':Value} {f:Nat→RS}
theorem TR.PK {w:World} {base b size n:Nat} {e t:TypeId} {v:Value} {xs:List Value} {cs:Array Value} (h:TR w base e size v n xs) (hb:Whole w b cs t) (hn:e≠t):v.ownBlock=none∨v.ownBlock≠some b:=.inr (h.unlike hb hn)
theorem MV.lt (h:MV base w M vs m f):∀ x,aB M vs m f x→base≤x∧x<w.heap.size:=by
 rintro x (rfl | hx | ⟨i,hi,hx | hx⟩)
 ·exact⟨h.low,h.var.lt⟩
 ·exact h.row.lt x hx
 ·exact (h.ar i hi).lt x hx
 ·exact (h.kr i hi).lt x hx
theorem MV.turns {S:Nat→Prop} (h:MV base w M vs m f) (ht:Turns S w w') (hn:∀ x,aB M vs m f x→¬ S x):MV base w' M vs m f:=
 ⟨h.low,h.var.turns ht (hn M (.inl rfl)),cB h.row ht (fun k hk=>hn k (.inr (.inl hk))),fun i hi=>(h.ar i hi).turns ht (fun k hk=>hn k (.inr (.inr ⟨i,hi,.inl hk⟩))),fun i hi=>(h.kr i hi).turns ht (fun k hk=>hn k (.inr (.inr ⟨i,hi,.inr hk⟩))),h.aa,h.kk⟩
theorem MV.below (h:MV base w M vs m f) (hb:Below w.heap.size w w'):MV base w' M vs m f:=h.turns (S:=fun _=>False) (.of_below hb) fun _ _=>id
theorem MV.cell (h:MV base w M vs m f):w.cell? ⟨M,0,none⟩=some vs∧w.frozen? ⟨M,0,none⟩=false:=⟨h.var.cell 0,h.var.free 0⟩
theorem MV.form (h:MV base w M vs m f):∃ A c,vs=.slice A m c:=aF (aH h.row)
theorem MV.node {A:Option Addr} {c:Nat} (h:MV base w M (.slice A m c) m f) (hl:0<m):∃ g,A=some ⟨g,0,none⟩∧g≠M∧base≤g∧g<w.heap.size∧∀ i j,i<m→j<7→w.cell? ⟨g,i*7+j,none⟩=(pR (f i))[j]?∧w.frozen? ⟨g,i*7+j,none⟩=false:=by
 obtain⟨g,rfl,hlt,_⟩:=iY (aH h.row) hl;refine⟨g,rfl,fun e=>bH h.row h.var (by decide) (by simp[Value.ownBlock,e]),(h.row.lt g (by simp[Value.ownBlock])).1,hlt,fun i j hi hj=>⟨?_,h.row.frozenAt _⟩⟩;have hb:i*7+j<m*7:=by omega
 rw[h.row.cellAt _ hb];exact jL tH _ hi hj
theorem MV.Lp {b:Nat} (h:MV base w M vs m f) (g:w.grownBy w' (some b)) (hb:∀ i,i<m→(f i).a.v.ownBlock≠some b∧(f i).k.v.ownBlock≠some b):
  (∀ i,i<m→TR w' base 96 2 (f i).a.v (f i).at'.length (fM (f i).at'))∧(∀ i,i<m→TR w' base 3 1 (f i).k.v (f i).kids.length (ints (f i).kids)):=
 ⟨fun i hi=>(h.ar i hi).kept g (.inr (hb i hi).1),fun i hi=>(h.kr i hi).kept g (.inr (hb i hi).2)⟩
theorem dL {b1 b2 s1 s2 n1 n2:Nat} {e1 e2:TypeId} {v1 v2:Value} {x1 x2:List Value} (h1:TR w b1 e1 s1 v1 n1 x1) (h2:w.ownsRow b2 e2 s2 v2 n2 x2) (hn:e1≠e2):∀ k,v2.ownBlock=some k→v1.ownBlock≠some k:=fun k hk hk1=>h1.ne (TR.jJ h2) hn k hk1 hk
theorem MV.put {g c i j:Nat} {v:Value} (h:MV base w M (.slice (some ⟨g,0,none⟩) m c) m f) (hi:i<m) (hj:j<7) (u:RS→RS) (hv:pR (u (f i))=(pR (f i)).set j v) (ha:(u (f i)).a=(f i).a∧(u (f i)).at'=(f i).at'∧(u (f i)).k=(f i).k∧(u (f i)).kids=(f i).kids):
  MV base (w.setCell ⟨g,i*7+j,none⟩ v) M (.slice (some ⟨g,0,none⟩) m c) m (bg f i u)∧ay w (w.setCell ⟨g,i*7+j,none⟩ v) (aB M (.slice (some ⟨g,0,none⟩) m c) m f) (aB M (.slice (some ⟨g,0,none⟩) m c) m (bg f i u)):=by
 obtain⟨o1,g1⟩:=h.row.stored (i*7+j) v;have hne:∀ i,i<m→(f i).a.v.ownBlock≠some g∧(f i).k.v.ownBlock≠some g:=fun i hi=>⟨dL (h.ar i hi) h.row (by decide) g (by simp[Value.ownBlock]),dL (h.kr i hi) h.row (by decide) g (by simp[Value.ownBlock])⟩
 obtain⟨r1,r2⟩:=h.Lp g1 hne;have q:∀ x,(bg f i u x).a=(f x).a∧(bg f i u x).at'=(f x).at'∧(bg f i u x).k=(f x).k∧(bg f i u x).kids=(f x).kids:=fun x=>by
  unfold bg;split
  ·rename_i e;subst e;exact ha
  ·exact⟨rfl,rfl,rfl,rfl⟩
 have hF:aB M (.slice (some ⟨g,0,none⟩) m c) m (bg f i u)=aB M (.slice (some ⟨g,0,none⟩) m c) m f:=by
  funext x;unfold aB;simp only[(q _).1,(q _).2.2.1]
 refine⟨⟨h.low,h.var.grown g1 (fun e=>bH h.row h.var (by decide) e.symm),?_,fun x hx=>?_,fun x hx=>?_,fun x y hx hy e=>?_,fun x y hx hy e=>?_⟩,?_⟩
 ·have e:(bS pR m f).set (i*7+j) v=bS pR m (bg f i u):=by
   rw[qH tH _ (u (f i)) v hi hj hv];exact je fun k _=>by unfold bg;rfl
  rw[←e];exact o1
 ·rw[(q x).1,(q x).2.1];exact r1 x hx
 ·rw[(q x).2.2.1,(q x).2.2.2];exact r2 x hx
 ·rw[(q x).1,(q y).1];exact h.aa x y hx hy e
 ·rw[(q x).2.2.1,(q y).2.2.1];exact h.kk x y hx hy e
 ·rw[hF];exact .pU (.aZ g1 (fun k hk=>.inr (.inl (by simpa [Value.ownBlock] using hk))))
end
end
section
open Go.RowKit
theorem zW (s:ByteArray) (w:World) (hs:s.size≤20000) (hT:Lit w):
  Calls Tryz.prog 137 #[.string s] w fun e w'=>e=.returned (.bool (decide (bJ.rep s.data.toList=s.data.toList)))∧Below w.heap.size w w':=by
 have hR:=Tryz.FV s w (by omega) hT;rw[bJ.Lb] at hR
 go_enter Tryz.func137,Tryz.ntmps137
 go_wp2_with fail;refine hR.mono ?_;rintro e w2 ⟨rfl,hb⟩;go_wp2_with fail
 go_ret
 exact⟨rfl,hb⟩
end
section
open Go Go.RowKit Go.Shelf
def acc (a:Int) (pre:List (Nat×List UInt8)):List Value:=pre.flatMap fun x=>if a≤(x.1:Int) then Lib.runeCells ((code x.2:Nat):Int) else []
theorem Gj (a:Int) (pre:List (Nat×List UInt8)) (x:Nat×List UInt8):acc a (pre++[x])=acc a pre++(if a≤(x.1:Int) then Lib.runeCells ((code x.2:Nat):Int) else []):=by
 simp[acc,List.flatMap_append]
theorem Qj (a:Int) (pre:List (Nat×List UInt8)):(acc a pre).length≤4*pre.length:=by
 induction pre with
 | nil=>simp[acc]
 | cons x r ih=>
  have h4:=Lib.runeCells_le ((code x.2:Nat):Int);have:acc a (x::r)=(if a≤(x.1:Int) then Lib.runeCells ((code x.2:Nat):Int) else [])++acc a r:=by simp[acc]
  rw[this,List.length_append,List.length_cons]
  split
  ·omega
  ·simp only[List.length_nil];omega
theorem zX (cs:List (List UInt8)) (k:Nat) (h:k<cs.length):(enum cs).take (k+1)=(enum cs).take k++[(k,cs.getD k [])]:=by
 have hd:cs.drop k=cs.getD k []::cs.drop (k+1):=by
  rw[List.drop_eq_getElem_cons h];simp[List.getD,h]
 exact (drop_cons hd).2.2.2
theorem Ob (a:Int) (cs:List (List UInt8)) (hg:∀ c∈cs,bJ.Good c):∀ k,k≤cs.length→acc a ((enum cs).take k)=Lib.byteCells (seg cs a.toNat k).flatten:=by
 intro k
 induction k with
 | zero=>intro _;rw[nA cs _ 0 (Nat.zero_le _)];rfl
 | succ k ih=>
  intro h;have hk:k<cs.length:=h;rw[zX cs k hk,Gj,ih (by omega)];have hgc:bJ.Good (cs.getD k []):=hg _ (by simp[List.getD,hk]);by_cases hak:a≤(k:Int)
  ·rw[if_pos hak,IQ hgc,Gb cs a.toNat k (by omega) hk,List.flatten_append];simp[Lib.byteCells]
  ·rw[if_neg hak,nA cs _ k (by omega),nA cs _ (k+1) (by omega)];rfl
theorem vU {T e:TypeId} {B b:Nat} {bs:List Value} {W W':World} {row:Option Nat} (h:Lib.IsBuilderF T e B b bs W) (hg:W.grownBy W' row)
  (hr:∀ r,row=some r→∃ o:Obj,W.heap[r]?=some o∧o.isCells=false):Lib.IsBuilderF T e B b bs W':=by
 have hone:∀ p,Lib.BuilderAtF T e B b p bs W→Lib.BuilderAtF T e B b p bs W':=by
  rintro p ⟨hB,v,hb,hown,hne⟩;have hbl:b<W.heap.size:=(Array.getElem?_eq_some_iff.1 hb).1;refine⟨hB,v,?_,hown.kept hg ?_,hne⟩
  ·rw[hg.block b hbl ?_]
   ·exact hb
   ·intro e;obtain⟨o,ho,hc⟩:=hr b e.symm;rw[hb] at ho;obtain rfl:=Option.some.inj ho;cases hc
  ·by_cases hv:v.ownBlock=none
   ·exact .inl hv
   ·right;intro e;obtain⟨r,hvr⟩:=Option.ne_none_iff_exists'.1 hv;obtain⟨o,ho,hc⟩:=hr r (by rw[←e,hvr]);obtain⟨c,fz,hcc⟩:=Lib.ownsRowF_kind hown r hvr;rw[hcc] at ho;obtain rfl:=Option.some.inj ho;cases hc
 rcases h with h | h
 ·exact .inl (hone _ h)
 ·exact .inr (hone _ h)
theorem zY {b:Nat} {bs:List Value} {W W':World} (h:Lib.OthersKept 5 (some b) W W') (hs:W.heap.size≤W'.heap.size) (hb:Lib.IsBuilderF 130 5 b b bs W):KeepsOthers W W':=by
 refine⟨hs,fun k o hk ho=>h k o hk (fun e=>?_) (fun c fz e=>?_)⟩
 ·obtain rfl:=Option.some.inj e;rcases hb with ⟨_,v,hc,_⟩ | ⟨_,v,hc,_⟩<;>
  ·rw[hc] at hk;obtain rfl:=Option.some.inj hk;cases ho
 ·subst e;cases ho
theorem uO {T e:TypeId} {B b:Nat} {bs:List Value} {W:World} (h:Lib.IsBuilderF T e B b bs W):b<W.heap.size:=by
 rcases h with h | h<;>exact h.lt
theorem uy {T e:TypeId} {B b:Nat} {bs:List Value} {W W':World} (h:Lib.IsBuilderF T e B b bs W) (hb:Below W.heap.size W W'):Lib.IsBuilderF T e B b bs W':=by
 have hone:∀ p,Lib.BuilderAtF T e B b p bs W→Lib.BuilderAtF T e B b p bs W':=by
  rintro p ⟨hB,v,hc,hown,hne⟩;have hbl:b<W.heap.size:=(Array.getElem?_eq_some_iff.1 hc).1;refine⟨hB,v,(hb.block b hbl).trans hc,⟨hown.1,?_⟩,hne⟩;rcases hown.2 with hn | ⟨g,cap,cur,fz,rfl,hg,hgg,rest⟩
  ·exact .inl hn
  ·exact .inr ⟨g,cap,cur,fz,rfl,hg,(hb.block g (Array.getElem?_eq_some_iff.1 hgg).1).trans hgg,rest⟩
 rcases h with h | h
 ·exact .inl (hone _ h)
 ·exact .inr (hone _ h)
theorem qU {e:TypeId} {b D:Nat} {bs:List Value} {T:TypeId} {W W':World} (h:Lib.OthersKept e (some b) W W') (hK:W.heap[D]?=some (.deferred (some []))) (hb:Lib.IsBuilderF T e b b bs W):W'.heap[D]?=some (.deferred (some [])):=by
 refine h D _ hK (fun x=>?_) (fun c fz x=>by cases x);obtain rfl:=Option.some.inj x;rcases hb with ⟨_,v,hc,_⟩ | ⟨_,v,hc,_⟩<;>rw[hc] at hK<;>cases hK
end
section
open Go.RowKit Go.Shelf
attribute [local go_sem] Oper.semAt_some
theorem Qk (cs:List (List UInt8)) (hg:∀ c∈cs,bJ.Good c):acc 0 (enum cs)=Lib.byteCells cs.flatten:=by
 have h:=Ob 0 cs hg cs.length (Nat.le_refl _);rw[←lZ cs,List.take_length,lZ] at h;rw[h];unfold seg;rw[List.take_length];rfl
theorem iq (s:ByteArray) (w:World) (hs:s.size≤20000) (hT:Lit w):
  Calls Tryz.prog 80 #[.string s] w fun e w'=>e=.returned (.string (fJ (bJ.rep s.data.toList)))∧Below w.heap.size w w':=by
 have hV:=zW s w hs hT;by_cases hv:bJ.rep s.data.toList=s.data.toList
 ·rw[decide_eq_true hv] at hV;have hres:fJ (bJ.rep s.data.toList)=s:=by rw[hv,tJ]
  rw[hres]
  go_enter Tryz.func80,Tryz.ntmps80
  go_wp2_with fail;refine hV.mono ?_;rintro e w2 ⟨rfl,hb⟩;go_wp2_with fail
  go_ret
  exact⟨rfl,hb⟩
 ·rw[decide_eq_false hv] at hV;clear hv;obtain⟨cs,hcs⟩:∃ cs,bJ.chunks s.data.toList=cs:=⟨_,rfl⟩
  have iE:bJ.rep s.data.toList=cs.flatten:=by rw[←hcs];rfl
  have hgood:=bJ.cO s.data.toList;have hcl:=bJ.uK s.data.toList;have hll:s.data.toList.length=s.size:=rfl;rw[hcs] at hgood hcl;rw[iE];have hall:=Qk cs hgood;have Nq:=zh hcs;clear hgood hcs iE;refine (callsIn_wide (n:=5)).1 ?_;refine callsIn_of_wp_marks Tryz.func80 rfl trivial ?_ rfl;simp only[Tryz.ntmps80,List.size_toArray,List.length_cons,List.length_nil,Nat.reduceAdd,Nat.reduceSub,Array.replicate_succ,Array.replicate_zero,List.push_toArray,List.append_toArray,List.nil_append,List.cons_append]
  gi_wp2_with fail
  refine⟨trivial,(callsIn_wide.2 hV).mono ?_⟩;rintro e w2 ⟨rfl,hb2⟩;obtain⟨W1,hW1⟩:∃ W1,w2.alloc (.cells #[.pointer none,.slice none 0 0] 130)=W1:=⟨_,rfl⟩
  gi_wp2_with fail
  refine⟨trivial,(callsIn_wide.2 (Gc s W1 (by omega))).mono ?_⟩;rintro e w4 ⟨lb,rfl,hw4,hst⟩;rw[Nq.out] at hst
  gi_wp2_with fail
  rw[←hw4];have hsz2:=hb2.size;have hB0:Below w.heap.size w W1:=by rw[←hW1];exact hb2.alloc hsz2 _
  have hsz1:W1.heap.size=w2.heap.size+1:=by rw[←hW1];simp
  have D6:Lib.IsBuilderF 130 5 w2.heap.size w2.heap.size [] W1:=by
   have:=Lib.IsBuilderF.of (Lib.fresh_isBuilder 130 5 w2);rw[hW1] at this;exact this
  have hb4:Below W1.heap.size W1 w4:=by rw[hw4];exact (Below.refl _ _).alloc (Nat.le_refl _) _
  have aaX:w4.heap.size=w2.heap.size+2:=by rw[hw4];simp[hsz1]
  have aav:=uy D6 hb4;have hB4:Below w.heap.size w w4:=hB0.trans (hb4.mono (by omega));have aaw:=hst w2.heap.size (by omega);clear hst hb4 hw4 hW1 D6 hB0 hV hb2;refine wpIn_rangeFunc_ownF (w:=w4) rfl (by decide) (gf:=163) (lb:=lb) rfl trivial (enters_of Tryz.func163 (by kernel_rfl) rfl) aaw Keep.trans Keep.put (Below.refl _ _) (fun _=>rfl)
   (fun pre W=>Lib.IsBuilderF 130 5 w2.heap.size w2.heap.size (acc 0 pre) W∧Below w.heap.size w W)
   (fun _ _ _=>False)
   ?hI ?hIx ?h0
   (fun x=>{ tmps:=#[.string s,undef,.string ⟨#[]⟩,.pointer (some ⟨w2.heap.size,0,none⟩),undef,.int .i32 (code x.2:Nat),.string s,.bool false,undef,.string s,.func (.func 163) #[] lb,.int .i64 (x.1:Nat),.int .i32 (code x.2:Nat),undef,undef,undef],defers:=[] }) ?assign ?body ?done ?stop
  case hI=>
   rintro pre W W' row ⟨h1,h5⟩ hg hr;have hr':∀ r,row=some r→∃ o:Obj,W.heap[r]?=some o∧o.isCells=false:=fun r e=>(hr r e).2;exact⟨vU h1 hg hr',h5.grown hg (by have:=h5.size;omega) (fun k hk=>by have:=(hr k hk).1;omega)⟩
  case hIx=>exact fun _ _ _ _ _ hs _ _=>hs
  case h0=>exact⟨aav,hB4⟩
  case assign=>
   intro l x W K hK
   gi_wp2
   exact hK
  case body=>
   rintro l pre x W ⟨h1,h5⟩ hlen;have hcx:=Qa x.2;have hal:=Qj 0 pre;have hW2:w2.heap.size<W.heap.size:=uO h1;have hsn:=Gj 0 pre x;rw[if_pos (by omega)] at hsn
   gi_wp2_with fail
   refine⟨trivial,(CallsIn.inRound l (callsIn_wide.2 (Tryz.KW w2.heap.size w2.heap.size (acc 0 pre) (code x.2:Nat) (by omega) (by omega) W h1 (by omega) (by omega)))).mono ?_⟩;rintro e w5 ⟨rfl,hb5,zZ,hk5⟩
   gi_wp2_with fail
   refine⟨zY hk5 zZ.size h1,Keep.of hk5 zZ.size,?_,h5.trans (zZ.mono (by omega))⟩;rw[hsn];exact .inr hb5
  case done=>
   rintro D xs W hD rfl ⟨h1,h5⟩ hK;rw[hall] at h1;have hK1:∀ W',Lib.OthersKept 5 (some w2.heap.size) W W'→W'.heap[D]?=some (.deferred (some [])):=fun W' h=>qU h hK h1;have hW2:w2.heap.size<W.heap.size:=uO h1
   gi_wp2_with fail
   refine⟨trivial,(callsIn_wide.2 (Tryz.uq w2.heap.size w2.heap.size _ W h1 (by omega))).mono ?_⟩;rintro e w5 ⟨rfl,hb5,zZ,hk5⟩
   gi_wp2_with fail
   refine⟨by simp,.inl ⟨_,_,rfl,run_takeDeferred (hK1 _ hk5),?_⟩⟩;refine⟨_,results_tmp rfl _ _ _,rfl,?_⟩;exact (h5.trans (zZ.mono (by omega))).trans (belowK_b (w:=w) (Nat.le_refl _) _ D _ _ (by omega) (hK1 _ hk5) rfl rfl)
  case stop=>
   rintro D c pre W hD _ h _;exact h.elim
end
section
section
open Go.RowKit
namespace Nm
def bad (c:UInt8):Bool:=bJ.sp c || c.toNat == 47 || c.toNat == 62 || (decide (65≤c.toNat) && decide (c.toNat≤90))
def plain (s:ByteArray):Bool:=!(s.data.toList.any bad) && decide (bJ.rep s.data.toList=s.data.toList)
def attr (s:ByteArray):Bool:=decide (s.data.toList≠[]) && !((s.data.toList.drop 1).contains 61) && plain s
theorem Cq {l:List UInt8} {k:Nat} (h:k<l.length) (h0:(l.take k).any bad=false):(l.take (k+1)).any bad=bad l[k]:=by
 rw[List.take_succ_eq_append_getElem h,List.any_append,h0,Bool.false_or];simp
end Nm
theorem xg (s:ByteArray) (w:World) (hs:s.size≤20000) (hT:Lit w):
  Calls Tryz.prog 126 #[.string s] w fun e w'=>e=.returned (.bool (Nm.plain s))∧Below w.heap.size w w':=by
 have hll:s.data.toList.length=s.size:=rfl
 go_enter Tryz.func126,Tryz.ntmps126
 go_wp2_with fail
 go_loopw [7] (fun i wr=>∃ k:Nat,i=.int .i64 k∧k≤s.size∧(s.data.toList.take k).any Nm.bad=false∧Below w.heap.size w wr) (fun i _=>s.size - (intOf i).toNat)
 case atStart=>exact⟨0,rfl,Nat.zero_le _,rfl,Below.refl _ _⟩
 case round=>
  obtain⟨k,rfl,hk,hany,hbr⟩:=hrel;by_cases hlt:k<s.size
  ·have hkl:k<s.data.toList.length:=hlt;have hnext:=Nm.Cq hkl hany;have hget:s.data.toList[k]=s[k]:=rfl;rw[hget] at hnext;obtain⟨c,hc⟩:∃ c,s[k]=c:=⟨_,rfl⟩
   have hcl:=c.toNat_lt;rw[hc] at hnext;have hq:(Nm.bad c=true∧(bJ.sp c=true∨(bJ.sp c=false∧((c.toNat:Int) == 47)=true)∨(bJ.sp c=false∧((c.toNat:Int) == 47)=false∧((c.toNat:Int) == 62)=true)∨(bJ.sp c=false∧((c.toNat:Int) == 47)=false∧((c.toNat:Int) == 62)=false∧decide ((65:Int)≤(c.toNat:Int))=true∧decide ((c.toNat:Int)≤90)=true)))∨
     (Nm.bad c=false∧bJ.sp c=false∧((c.toNat:Int) == 47)=false∧((c.toNat:Int) == 62)=false∧(decide ((65:Int)≤(c.toNat:Int))=false∨(decide ((65:Int)≤(c.toNat:Int))=true∧decide ((c.toNat:Int)≤90)=false))):=by
    unfold Nm.bad;cases bJ.sp c with
    | true=>left;exact⟨rfl,.inl rfl⟩
    | false=>
     simp only[Bool.false_or,Bool.or_eq_true,beq_iff_eq,Bool.and_eq_true,decide_eq_true_eq,Bool.or_eq_false_iff,beq_eq_false_iff_ne,ne_eq,Bool.and_eq_false_iff,decide_eq_false_iff_not,true_and,false_or,Bool.false_eq_true];omega
   have hneg:Nm.bad c=true→Nm.plain s=false:=fun e=>by
    unfold Nm.plain;rw[Bool.and_eq_false_iff];left;rw[Bool.not_eq_false',List.any_eq_true];exact⟨c,by rw[←hc];exact List.getElem_mem hkl,e⟩
   have HN:=zh hneg;have HX:=zh hnext;clear hneg hnext hany hget;rcases hq with ⟨hb,hq⟩ | ⟨hb,h1,h2,h3,hq⟩
   ·have HB:=zh hb;clear hb;rcases hq with h1 | ⟨h1,h2⟩ | ⟨h1,h2,h3⟩ | ⟨h1,h2,h3,h4,h5⟩
    all_goals
     go_wp2_with fail;refine (vR c wr).mono ?_;rintro e w2 ⟨rfl,hb2⟩;have hb5:Below w.heap.size w w2:=hbr.trans (hb2.mono hbr.size);go_wp2_with fail
     go_ret
     exact⟨fP (HN.out HB.out).symm,hb5⟩
   ·have HB:=zh hb;clear hb;rcases hq with h4 | ⟨h4,h5⟩
    all_goals
     go_wp2_with fail;refine (vR c wr).mono ?_;rintro e w2 ⟨rfl,hb2⟩;have hb5:Below w.heap.size w w2:=hbr.trans (hb2.mono hbr.size);go_wp2_with fail
     go_roundw
     case rel=>exact⟨k+1,by go_num,by omega,by rw[HX.out,HB.out],hb5⟩
     case measure=>simp[intOf];omega
  ·have hkk:k=s.size:=by omega
   have hall:Nm.plain s=decide (bJ.rep s.data.toList=s.data.toList):=by
    unfold Nm.plain;rw[hkk,←hll,List.take_length] at hany;rw[hany];rfl
   have HV:=zh (zW s wr hs (hT.below hbr));have HA:=zh hall;clear hall hany;subst hkk;go_wp2_with fail;refine HV.out.mono ?_;rintro e w2 ⟨rfl,hb2⟩;have hb5:Below w.heap.size w w2:=hbr.trans (hb2.mono hbr.size);go_wp2_with fail
   go_ret
   exact⟨fP HA.out.symm,hb5⟩
theorem Ql (s:ByteArray) (i:Nat):(s.extract i s.size).data.toList=s.data.toList.drop i:=by
 rw[ByteArray.data_extract,Array.toList_extract];show (s.data.toList.drop i).take (s.data.toList.length - i)=_;rw[List.take_of_length_le (by rw[List.length_drop];omega)]
theorem Lr (l:List UInt8) (c:UInt8):decide (0≤Lib.indexByte l c)=l.contains c:=by
 induction l with
 | nil=>rfl
 | cons b r ih=>
  unfold Lib.indexByte;by_cases h:b=c
  ·subst h;simp
  ·have hbc:(b == c)=false:=by simpa using h
   have hcb:(c == b)=false:=by simpa using fun e=>h e.symm
   rw[hbc,List.contains_cons,hcb,Bool.false_or,←ih];have hge : -1≤Lib.indexByte r c:=by
    clear ih hbc hcb h
    induction r with
    | nil=>exact (by decide:(-1:Int) ≤ -1)
    | cons d r ih2=>
     unfold Lib.indexByte
     split
     ·omega
     ·split
      ·omega
      ·omega
   by_cases h2:Lib.indexByte r c = -1
   ·rw[h2];rfl
   ·have:(Lib.indexByte r c == -1)=false:=by simpa using h2
    rw[this];simp only[Bool.false_eq_true,if_false];rw[Bool.eq_iff_iff,decide_eq_true_eq,decide_eq_true_eq];omega
theorem mV (s:ByteArray) (w:World) (hs:s.size≤20000) (hT:Lit w):
  Calls Tryz.prog 79 #[.string s] w fun e w'=>e=.returned (.bool (Nm.attr s))∧Below w.heap.size w w':=by
 have hP:=xg s w hs hT;by_cases he:s.data.toList=[]
 ·have hse:s=⟨#[]⟩:=by
   cases s with
   | mk d=>cases d with | mk l=>simp at he;subst he;rfl
  have hr:Nm.attr s=false:=by unfold Nm.attr;rw[he];rfl
  have HR:=zh hr;clear hr hP he;subst hse
  go_enter Tryz.func79,Tryz.ntmps79
  go_wp2_with fail
  go_ret
  exact⟨fP HR.out.symm,Below.refl _ _⟩
 ·have hpos:0<s.size:=by
   rcases Nat.eq_zero_or_pos s.size with h | h
   ·exact absurd (List.eq_nil_of_length_eq_zero (show s.data.toList.length=0 from h)) he
   ·exact h
  have hne0:(s.toList == [])=false:=by
   rw[Lib.toList_data,beq_eq_false_iff_ne];exact he
  have hne:(s.toList != [])=true:=by
   rw[bne,hne0];rfl
  have hrun:∀ W:World,(Instr.slice 9 (.string s) (some (.int .i64 1)) none none).run Tryz.prog W=.ok (.string (s.extract 1 s.size)) W:=fun W=>by
   rw[run_slice_string_l (ht:=Tryz.underlying9) (h0:=by omega) (h1:=by omega)];rfl
  have hcon:∀ W:World,Calls Tryz.prog 136 #[.string (s.extract 1 s.size),.string ⟨#[61]⟩] W fun e w'=>e=.returned (.bool ((s.data.toList.drop 1).contains 61))∧w'=W:=fun W=>by
   rw[←Ql,←Lr];exact Tryz.contains_one _ 61 W
  have hat:Nm.attr s=(!((s.data.toList.drop 1).contains 61) && Nm.plain s):=by
   unfold Nm.attr;rw[decide_eq_true he,Bool.true_and]
  obtain⟨cn,hcn⟩:∃ cn,(s.data.toList.drop 1).contains 61=cn:=⟨_,rfl⟩
  rw[hcn] at hcon hat;have HAT:=zh hat;clear hat hcn he;cases cn
  ·go_enter Tryz.func79,Tryz.ntmps79
   go_wp2_with fail;refine (hcon w).mono ?_;rintro e w2 ⟨rfl,rfl⟩;go_wp2_with fail;refine hP.mono ?_;rintro e w2 ⟨rfl,hb⟩;go_wp2_with fail
   go_ret
   exact⟨fP HAT.out.symm,hb⟩
  ·go_enter Tryz.func79,Tryz.ntmps79
   go_wp2_with fail;refine (hcon w).mono ?_;rintro e w2 ⟨rfl,rfl⟩;go_wp2_with fail
   go_ret
   exact⟨fP HAT.out.symm,Below.refl _ _⟩
def Nm.fits (s:ByteArray):Bool:=decide ((bJ.rep s.data.toList).length≤1048576)
theorem Ac (s:ByteArray) (w:World) (hs:s.size≤20000) (hT:Lit w):
  Calls Tryz.prog 127 #[.string s] w fun e w'=>e=.returned (.bool (Nm.fits s))∧Below w.heap.size w w':=by
 have hrl:=bJ.mP s.data.toList;have hll:s.data.toList.length=s.size:=rfl;have hF:Nm.fits s=decide ((((bJ.rep s.data.toList).length:Nat):Int)≤1048576):=by
  unfold Nm.fits;rw[Bool.eq_iff_iff,decide_eq_true_eq,decide_eq_true_eq];omega
 have HF:=zh hF;clear hF
 go_enter Tryz.func127,Tryz.ntmps127
 go_wp2_with fail;refine (iq s w hs hT).mono ?_;rintro e w2 ⟨rfl,hb⟩;go_wp2_with fail
 go_ret
 exact⟨fP (by rw[HF.out];rfl),hb⟩
end
end
section
open Go.RowKit
def Nm.elem (s:ByteArray):Bool:=match s.data.toList with
 | []=>false
 | c::_=>decide (97≤c.toNat) && decide (c.toNat≤122) && Nm.plain s
theorem Oc {P:Program} {t k0 e0:TypeId} (h:P.underlying t=some (TypeDesc.map k0 e0)) (k:Int) (W:World):(Instr.makeMap t (some (.int .i64 k))).run P W=.ok (.map (some W.heap.size)) (W.alloc (.map #[] 0)):=by
 unfold Instr.makeMap;simp only[Sem.run_bind,run_underlying h,Result.andThen,asInt,asIntOf,Sem.run_pure];rfl
theorem IW (d:Tr.Nd) (w:World) (hn:d.av.n=0) (hs:d.name.size≤20000) (hT:Lit w):
  Calls Tryz.prog 63 #[Pj d] w fun e w'=>e=.returned (.bool (d.kind != 2 || Nm.elem d.name))∧Below w.heap.size w w':=by
 obtain⟨k,nm,⟨a,n,c⟩,dt,pa,fi,la,pr,ne⟩:=d;dsimp only at hn hs ⊢;subst hn;by_cases hk:k=2
 ·have hk2:(k != 2)=false:=by simpa using hk
  subst hk;obtain⟨w1,hw1⟩:∃ w1,w.alloc (.cells #[.int .i64 2,.string nm,.slice a 0 c,.string dt,.int .i64 pa,.int .i64 fi,.int .i64 la,.int .i64 pr,.int .i64 ne] 42)=w1:=⟨_,rfl⟩
  have hb1:Below w.heap.size w w1:=eP hw1;have hX1:Whole w1 w.heap.size #[.int .i64 2,.string nm,.slice a 0 c,.string dt,.int .i64 pa,.int .i64 fi,.int .i64 la,.int .i64 pr,.int .i64 ne] 42:=by rw[←hw1];exact Whole.new w _ _
  have e0:w1.cell? ⟨w.heap.size,0,none⟩=some (.int .i64 2):=hX1.cell 0;have e1:w1.cell? ⟨w.heap.size,1,none⟩=some (.string nm):=hX1.cell 1;have e2:w1.cell? ⟨w.heap.size,2,none⟩=some (.slice a 0 c):=hX1.cell 2;have hP:=xg nm;have hmk:=fun W=>Oc Tryz.underlying160 0 W;have X6:Below w1.heap.size w1 (w1.alloc (.map #[] 0)):=(Below.refl _ w1).alloc (Nat.le_refl _) _;have hX2:=hX1.below X6 hX1.lt;have QM:Lit (w1.alloc (.map #[] 0)):=(hT.below hb1).below X6;have hb2:=hb1.trans (X6.mono hb1.size);have m1:(w1.alloc (.map #[] 0)).cell? ⟨w.heap.size,1,none⟩=some (.string nm):=hX2.cell 1;have m2:(w1.alloc (.map #[] 0)).cell? ⟨w.heap.size,2,none⟩=some (.slice a 0 c):=hX2.cell 2;clear X6
  go_enter Tryz.func63,Tryz.ntmps63
  have hel:Nm.elem nm=(match nm.data.toList with | []=>false | c::_=>decide (97≤c.toNat) && decide (c.toNat≤122) && Nm.plain nm):=rfl;have hll:nm.data.toList.length=nm.size:=rfl;have HE:=zh hel;clear hel;go_wp2_with fail
  go_loopw [16] (fun i wr=>i=.int .i64 0∧wr=w1.alloc (.map #[] 0)) (fun _ _=>0)
  case atStart=>exact⟨rfl,rfl⟩
  case round=>
   obtain⟨rfl,rfl⟩:=hrel;cases hnm:nm.data.toList with
   | nil=>
    have hne0:(nm.toList == [])=true:=by rw[Lib.toList_data,hnm];rfl
    have hne:(nm.toList != [])=false:=by rw[bne,hne0];rfl
    have hr:Nm.elem nm=false:=by rw[HE.out,hnm]
    have HR:=zh hr;clear hr hll hP hT hs;go_wp2_with fail
    go_ret
    exact⟨fP (by simp[HR.out]),hb2⟩
   | cons c0 r=>
    have hne0:(nm.toList == [])=false:=by rw[Lib.toList_data,hnm];rfl
    have hne:(nm.toList != [])=true:=by rw[bne,hne0];rfl
    have hr:Nm.elem nm=(decide (97≤c0.toNat) && decide (c0.toNat≤122) && Nm.plain nm):=by rw[HE.out,hnm]
    have hpos:0<nm.size:=by rw[←hll,hnm];simp
    have hget:nm[0]=c0:=by
     have:nm.data.toList[0]'(by rw[hnm];simp)=c0:=by simp[hnm]
     exact this
    have hem:nm.toList.isEmpty=false:=by rw[Lib.toList_data,hnm];rfl
    clear hll;by_cases h1:97≤c0.toNat
    ·by_cases h2:c0.toNat≤122
     ·have hr':Nm.elem nm=Nm.plain nm:=by rw[hr,decide_eq_true h1,decide_eq_true h2];simp
      have HR:=zh hr';have HP:=zh (hP _ hs QM);have Rt:(97:Int)≤(c0.toNat:Int):=by omega
      have WU:(c0.toNat:Int)≤122:=by omega
      clear hr hr' hT hP hs hnm;go_wp2_with fail;refine HP.out.mono ?_;rintro e w4 ⟨rfl,hb4⟩;go_wp2_with fail
      go_ret
      exact⟨fP (by simp[HR.out]),hb2.trans (hb4.mono hb2.size)⟩
     ·have hr':Nm.elem nm=false:=by rw[hr,decide_eq_false h2];simp
      have HR:=zh hr';have Rt:(97:Int)≤(c0.toNat:Int):=by omega
      have WU:¬ (c0.toNat:Int)≤122:=by omega
      clear hr hr' hT hP hs hnm;go_wp2_with fail
      go_ret
      exact⟨fP (by simp[HR.out]),hb2⟩
    ·have hr':Nm.elem nm=false:=by rw[hr,decide_eq_false h1];simp
     have HR:=zh hr';have Rt:¬ (97:Int)≤(c0.toNat:Int):=by omega
     clear hr hr' hT hP hs hnm;go_wp2_with fail
     go_ret
     exact⟨fP (by simp[HR.out]),hb2⟩
 ·have hk2:(k != 2)=true:=by simpa using hk
  go_enter Tryz.func63,Tryz.ntmps63
  go_wp2_with fail
  go_ret
  exact⟨fP (by rw[hk2];rfl),(Below.refl _ w).alloc (Nat.le_refl _) _⟩
theorem rV (d:Tr.Nd) (w:World) (hn:d.av.n=0) (hk:d.kind≠2):
  Calls Tryz.prog 63 #[Pj d] w fun e w'=>e=.returned (.bool true)∧Below w.heap.size w w':=by
 obtain⟨k,nm,⟨a,n,c⟩,dt,pa,fi,la,pr,ne⟩:=d;dsimp only at hn hk ⊢;have hk2:(k != 2)=true:=by simpa using hk
 go_enter Tryz.func63,Tryz.ntmps63
 go_wp2_with fail
 go_ret
 exact⟨rfl,(Below.refl _ w).alloc (Nat.le_refl _) _⟩
theorem rW (d:Tr.Nd) (w:World) (hn:d.av.n=0) (hs:d.data.size≤20000) (hT:Lit w):
  Calls Tryz.prog 64 #[Pj d] w fun e w'=>e=.returned (.bool (Nm.fits d.data))∧Below w.heap.size w w':=by
 obtain⟨k,nm,⟨a,n,c⟩,dt,pa,fi,la,pr,ne⟩:=d;dsimp only at hn hs ⊢;subst hn;obtain⟨w1,hw1⟩:∃ w1,w.alloc (.cells #[.int .i64 k,.string nm,.slice a 0 c,.string dt,.int .i64 pa,.int .i64 fi,.int .i64 la,.int .i64 pr,.int .i64 ne] 42)=w1:=⟨_,rfl⟩
 have hb1:Below w.heap.size w w1:=eP hw1;have hX1:Whole w1 w.heap.size #[.int .i64 k,.string nm,.slice a 0 c,.string dt,.int .i64 pa,.int .i64 fi,.int .i64 la,.int .i64 pr,.int .i64 ne] 42:=by rw[←hw1];exact Whole.new w _ _
 have e2:w1.cell? ⟨w.heap.size,2,none⟩=some (.slice a 0 c):=hX1.cell 2;have e3:w1.cell? ⟨w.heap.size,3,none⟩=some (.string dt):=hX1.cell 3;have HF:=zh (Ac dt w1 hs (hT.below hb1));clear hT hX1
 go_enter Tryz.func64,Tryz.ntmps64
 go_wp2_with fail
 go_loopw [8] (fun i wr=>i=.int .i64 0∧wr=w1) (fun _ _=>0)
 case atStart=>exact⟨rfl,rfl⟩
 case round=>
  obtain⟨rfl,rfl⟩:=hrel;go_wp2_with fail;refine HF.out.mono ?_;rintro e w4 ⟨rfl,hb4⟩;go_wp2_with fail
  go_ret
  exact⟨rfl,hb1.trans (hb4.mono hb1.size)⟩
def Nm.uz (s:ByteArray):Bool:=decide (s.data.toList≠[]) && Nm.plain s
theorem sI (s:ByteArray) (w:World) (hs:s.size≤10000):
  Calls Tryz.prog 156 #[.string s] w fun e w'=>e=.returned (.bool (Nm.uz s))∧Below w.heap.size w w':=by
 have hll:s.data.toList.length=s.size:=rfl
 go_enter Tryz.func156,Tryz.ntmps156
 go_wp2_with fail
 go_loopw [3] (fun i wr=>∃ k:Nat,i=.int .i64 k∧k≤s.size∧(s.data.toList.take k).any Nm.bad=false∧wr=w) (fun i _=>s.size - (intOf i).toNat)
 case atStart=>exact⟨0,rfl,Nat.zero_le _,rfl,rfl⟩
 case round=>
  obtain⟨k,rfl,hk,hany,rfl⟩:=hrel;by_cases hlt:k<s.size
  ·have hkl:k<s.data.toList.length:=hlt;have hnext:=Nm.Cq hkl hany;have hget:s.data.toList[k]=s[k]:=rfl;rw[hget] at hnext;obtain⟨c,hc⟩:∃ c,s[k]=c:=⟨_,rfl⟩
   have hcl:=c.toNat_lt;rw[hc] at hnext;have hq:(Nm.bad c=true∧(bJ.sp c=true∨(bJ.sp c=false∧((c.toNat:Int) == 47)=true)∨(bJ.sp c=false∧((c.toNat:Int) == 47)=false∧((c.toNat:Int) == 62)=true)∨(bJ.sp c=false∧((c.toNat:Int) == 47)=false∧((c.toNat:Int) == 62)=false∧decide ((65:Int)≤(c.toNat:Int))=true∧decide ((c.toNat:Int)≤90)=true)))∨
     (Nm.bad c=false∧bJ.sp c=false∧((c.toNat:Int) == 47)=false∧((c.toNat:Int) == 62)=false∧(decide ((65:Int)≤(c.toNat:Int))=false∨(decide ((65:Int)≤(c.toNat:Int))=true∧decide ((c.toNat:Int)≤90)=false))):=by
    unfold Nm.bad;cases bJ.sp c with
    | true=>left;exact⟨rfl,.inl rfl⟩
    | false=>
     simp only[Bool.false_or,Bool.or_eq_true,beq_iff_eq,Bool.and_eq_true,decide_eq_true_eq,Bool.or_eq_false_iff,beq_eq_false_iff_ne,ne_eq,Bool.and_eq_false_iff,decide_eq_false_iff_not,true_and,false_or,Bool.false_eq_true];omega
   have hneg:Nm.bad c=true→Nm.uz s=false:=fun e=>by
    have:Nm.plain s=false:=by
     unfold Nm.plain;rw[Bool.and_eq_false_iff];left;rw[Bool.not_eq_false',List.any_eq_true];exact⟨c,by rw[←hc];exact List.getElem_mem hkl,e⟩
    unfold Nm.uz;rw[this,Bool.and_false]
   have HN:=zh hneg;have HX:=zh hnext;clear hneg hnext hany hget;rcases hq with ⟨hb,hq⟩ | ⟨hb,h1,h2,h3,hq⟩
   ·have HB:=zh hb;clear hb;rcases hq with h1 | ⟨h1,h2⟩ | ⟨h1,h2,h3⟩ | ⟨h1,h2,h3,h4,h5⟩
    all_goals
     go_wp2_with fail;refine (Ck c wr).mono ?_;rintro e w2 ⟨rfl,hw2⟩;obtain rfl:=hw2;go_wp2_with fail
     go_ret
     exact⟨fP (HN.out HB.out).symm,Below.refl _ _⟩
   ·have HB:=zh hb;clear hb;rcases hq with h4 | ⟨h4,h5⟩
    all_goals
     go_wp2_with fail;refine (Ck c wr).mono ?_;rintro e w2 ⟨rfl,hw2⟩;obtain rfl:=hw2;go_wp2_with fail
     go_roundw
     case rel=>exact⟨k+1,by go_num,by omega,by rw[HX.out,HB.out],trivial⟩
     case measure=>simp[intOf];omega
  ·have hkk:k=s.size:=by omega
   have hall:Nm.plain s=decide (bJ.rep s.data.toList=s.data.toList):=by
    unfold Nm.plain;rw[hkk,←hll,List.take_length] at hany;rw[hany];rfl
   have HV:=zh (jT s wr hs);have hat:Nm.uz s=(decide (s.data.toList≠[]) && decide (bJ.rep s.data.toList=s.data.toList)):=by unfold Nm.uz;rw[hall]
   have HA:=zh hat;clear hall hany hat;subst hkk;by_cases he:s.data.toList=[]
   ·have hne0:(s.toList == [])=true:=by rw[Lib.toList_data,he];rfl
    have hne:(s.toList != [])=false:=by rw[bne,hne0];rfl
    have hr:Nm.uz s=false:=by rw[HA.out,he];rfl
    have HR:=zh hr;clear hr he;go_wp2_with fail
    go_ret
    exact⟨fP HR.out.symm,Below.refl _ _⟩
   ·have hne0:(s.toList == [])=false:=by rw[Lib.toList_data,beq_eq_false_iff_ne];exact he
    have hne:(s.toList != [])=true:=by rw[bne,hne0];rfl
    have hr:Nm.uz s=decide (bJ.rep s.data.toList=s.data.toList):=by rw[HA.out,decide_eq_true he,Bool.true_and]
    have hcm:((fJ (bJ.rep s.data.toList)).toList == s.toList)=decide (bJ.rep s.data.toList=s.data.toList):=by
     rw[Lib.toList_data,Lib.toList_data,Bool.eq_iff_iff,beq_iff_eq,decide_eq_true_eq];rfl
    have HR:=zh (hr.trans hcm.symm);clear hr he hcm;go_wp2_with fail;refine HV.out.mono ?_;rintro e w2 ⟨rfl,hb2⟩;go_wp2_with fail
    go_ret
    exact⟨fP HR.out.symm,hb2⟩
theorem vE (s:ByteArray) (w:World) (hs:s.size≤10000):
  Calls Tryz.prog 110 #[.string s] w fun e w'=>e=.returned (.bool (Nm.elem s))∧Below w.heap.size w w':=by
 have hP:=sI s w hs;have hll:s.data.toList.length=s.size:=rfl;have HE:Hid (Nm.elem s=(match s.data.toList with | []=>false | c::_=>decide (97≤c.toNat) && decide (c.toNat≤122) && Nm.plain s)):=zh rfl
 go_enter Tryz.func110,Tryz.ntmps110
 cases hnm:s.data.toList with
 | nil=>
  have hne0:(s.toList == [])=true:=by rw[Lib.toList_data,hnm];rfl
  have hne:(s.toList != [])=false:=by rw[bne,hne0];rfl
  have hr:Nm.elem s=false:=by rw[HE.out,hnm]
  have HR:=zh hr;clear hr hll hP hs;go_wp2_with fail
  go_ret
  exact⟨fP HR.out.symm,Below.refl _ _⟩
 | cons c0 r=>
  have hne0:(s.toList == [])=false:=by rw[Lib.toList_data,hnm];rfl
  have hne:(s.toList != [])=true:=by rw[bne,hne0];rfl
  have hr:Nm.elem s=(decide (97≤c0.toNat) && decide (c0.toNat≤122) && Nm.plain s):=by rw[HE.out,hnm]
  have hra:Nm.uz s=Nm.plain s:=by unfold Nm.uz;rw[hnm];simp
  rw[hra] at hP;have hpos:0<s.size:=by rw[←hll,hnm];simp
  have hget:s[0]=c0:=by
   have:s.data.toList[0]'(by rw[hnm];simp)=c0:=by simp[hnm]
   exact this
  have hem:s.toList.isEmpty=false:=by rw[Lib.toList_data,hnm];rfl
  clear hll;by_cases h1:97≤c0.toNat
  ·by_cases h2:c0.toNat≤122
   ·have hr':Nm.elem s=Nm.plain s:=by rw[hr,decide_eq_true h1,decide_eq_true h2];simp
    have HR:=zh hr';have HP:=zh hP;have Rt:(97:Int)≤(c0.toNat:Int):=by omega
    have WU:(c0.toNat:Int)≤122:=by omega
    clear hr hr' hP hs hnm hra;go_wp2_with fail;refine HP.out.mono ?_;rintro e w4 ⟨rfl,hb4⟩;go_wp2_with fail
    go_ret
    exact⟨fP HR.out.symm,hb4⟩
   ·have hr':Nm.elem s=false:=by rw[hr,decide_eq_false h2];simp
    have HR:=zh hr';have Rt:(97:Int)≤(c0.toNat:Int):=by omega
    have WU:¬ (c0.toNat:Int)≤122:=by omega
    clear hr hr' hP hs hnm hra;go_wp2_with fail
    go_ret
    exact⟨fP HR.out.symm,Below.refl _ _⟩
  ·have hr':Nm.elem s=false:=by rw[hr,decide_eq_false h1];simp
   have HR:=zh hr';have Rt:¬ (97:Int)≤(c0.toNat:Int):=by omega
   clear hr hr' hP hs hnm hra;go_wp2_with fail
   go_ret
   exact⟨fP HR.out.symm,Below.refl _ _⟩
theorem Od {l:List UInt8} {k:Nat} (hk:1≤k) (hkl:k<l.length) (h0:((l.take k).drop 1).contains 61=false):((l.take (k+1)).drop 1).contains 61=(l[k] == 61):=by
 rw[List.take_succ_eq_append_getElem hkl,List.drop_append_of_le_length (by rw[List.length_take];omega),List.contains_eq_any_beq,List.any_append,←List.contains_eq_any_beq,h0,Bool.false_or];simp only[List.any_cons,List.any_nil,Bool.or_false];rw[Bool.eq_iff_iff,beq_iff_eq,beq_iff_eq];exact eq_comm
theorem oz (s:ByteArray) (w:World) (hs:s.size≤10000):
  Calls Tryz.prog 111 #[.string s] w fun e w'=>e=.returned (.bool (Nm.attr s))∧Below w.heap.size w w':=by
 have hll:s.data.toList.length=s.size:=rfl;have HE:Hid (Nm.attr s=(decide (s.data.toList≠[]) && !((s.data.toList.drop 1).contains 61) && Nm.plain s)):=zh rfl
 go_enter Tryz.func111,Tryz.ntmps111
 go_wp2_with fail
 go_loopw [3] (fun i wr=>∃ k:Nat,i=.int .i64 k∧1≤k∧(k≤s.size∨k=1)∧Hid (((s.data.toList.take k).drop 1).contains 61=false)∧wr=w) (fun i _=>s.size - (intOf i).toNat)
 case atStart=>exact⟨1,rfl,Nat.le_refl _,.inr rfl,zh (by cases s.data.toList<;>simp),rfl⟩
 case round=>
  obtain⟨k,rfl,hk1,hk,H0,rfl⟩:=hrel;by_cases hlt:k<s.size
  ·have hkl:k<s.data.toList.length:=hlt;have hnext:=Od hk1 hkl H0.out;have hget:s.data.toList[k]=s[k]:=rfl;rw[hget] at hnext;obtain⟨c,hc⟩:∃ c,s[k]=c:=⟨_,rfl⟩
   have hcl:=c.toNat_lt;rw[hc] at hnext;have q1:(k:Int)<(s.size:Int):=by omega
   cases he:(c == 61) with
   | true=>
    have q2:((c.toNat:Int) == 61)=true:=by
     have:c=61:=by simpa using he
     subst this;rfl
    have hr:Nm.attr s=false:=by
     rw[HE.out];have:(s.data.toList.drop 1).contains 61=true:=by
      rw[List.contains_iff_mem];have hm:(61:UInt8)∈(s.data.toList.take (k+1)).drop 1:=by rw[←List.contains_iff_mem,hnext,he]
      have e1:(s.data.toList.take (k+1)).drop 1=(s.data.toList.drop 1).take k:=by rw[List.drop_take];simp
      rw[e1] at hm;exact List.mem_of_mem_take hm
     rw[this];simp
    have HR:=zh hr;clear hr hnext he;go_wp2_with fail
    go_ret
    exact⟨fP HR.out.symm,Below.refl _ _⟩
   | false=>
    have q2:((c.toNat:Int) == 61)=false:=by
     refine (beq_eq_false_iff_ne.2) fun e=>?_;have e2:c=61:=by
      apply UInt8.toNat_inj.1;have:(61:UInt8).toNat=61:=rfl;omega
     rw[e2] at he;cases he
    have HN:=zh (hnext.trans he);clear hnext he;go_wp2_with fail
    go_roundw
    case rel=>exact⟨k+1,by go_num,by omega,.inl (by omega),zh HN.out,trivial⟩
    case measure=>simp[intOf];omega
  ·have q1:¬ (k:Int)<(s.size:Int):=by omega
   have hr:Nm.attr s=Nm.uz s:=by
    rw[HE.out];have:(s.data.toList.drop 1).contains 61=false:=by
     have h0:=H0.out
     rwa [List.take_of_length_le (by omega)] at h0
    rw[this,Bool.not_false,Bool.and_true];rfl
   have HP:=zh (sI s wr hs);have HR:=zh hr;clear hr;go_wp2_with fail;refine HP.out.mono ?_;rintro e w2 ⟨rfl,hb2⟩;go_wp2_with fail
   go_ret
   exact⟨fP HR.out.symm,hb2⟩
abbrev p8:Tr.GN:=⟨1,⟨#[]⟩,[],⟨#[]⟩,0,[]⟩
abbrev wB:Int→Tr.Sl:=fun _=>⟨none,0,0⟩
abbrev AA:Tr.G:=fun _=>none
theorem JZ (h:Int):Tr.fC wB h ⟨none,0,0⟩=wB:=by
 funext x;unfold Tr.fC;split<;>rfl
theorem J3 (b s:Int) (w:World):
  Calls Tryz.prog 45 #[xD b s] w fun e w'=>∃ B vs vf,e=.returned (.pointer (some ⟨B,0,none⟩))∧
   TV w.heap.size w' B b s vs 1 (Tr.raw (Tr.dJ AA (Ar.hdl b s 0) p8) wB) vf [] 1 (Ar.hdl b s 0)∧Sound b s 1 (Tr.raw (Tr.dJ AA (Ar.hdl b s 0) p8) wB) [] 1∧Tr.WF 0 (Tr.dJ AA (Ar.hdl b s 0) p8)∧Below w.heap.size w w':=by
 have hb1:Below w.heap.size w (w.alloc (.cells #[.int .i64 b,.int .i64 s] 28)):=(Below.refl _ w).alloc (Nat.le_refl _) _;have hX:=Whole.new w #[.int .i64 b,.int .i64 s] 28;obtain⟨w1,hw1⟩:∃ w1,w.alloc (.cells #[.int .i64 b,.int .i64 s] 28)=w1:=⟨_,rfl⟩
 rw[hw1] at hb1 hX;have s0:w1.cell? ⟨w.heap.size,0,none⟩=some (.int .i64 b):=hX.cell 0;have s1:w1.cell? ⟨w.heap.size,1,none⟩=some (.int .i64 s):=hX.cell 1
 go_enter Tryz.func45,Tryz.ntmps45
 go_wp2_with fail;(try rw[hw1]);go_wp2_with fail;refine (ME b s w1).mono ?_;rintro e w2 ⟨rfl,hb2⟩;have eU:=hb1.trans (hb2.mono hb1.size);obtain⟨w3,hw3⟩:∃ w3,w2.alloc (.cells #[.int .i64 b,.int .i64 s,.slice none 0 0,.slice none 0 0,.int .i64 0,.int .i64 0] 83)=w3:=⟨_,rfl⟩
 have hV:Whole w3 w2.heap.size #[.int .i64 b,.int .i64 s,.slice none 0 0,.slice none 0 0,.int .i64 0,.int .i64 0] 83:=by rw[←hw3];exact Whole.new w2 _ _
 have hb3:Below w2.heap.size w2 w3:=eP hw3;have mo:=eU.trans (hb3.mono eU.size);have hT:TV w.heap.size w3 w2.heap.size b s (.slice none 0 0) 0 (Tr.raw AA wB) (.slice none 0 0) [] 0 0:=⟨hV,eU.size,World.ownsRow_nil _ _ _ _,World.ownsRow_nil _ _ _ _⟩
 have hS:Sound b s 0 (Tr.raw AA wB) [] 0:=⟨fun _ e=>absurd e (by simp[Tr.raw]),List.nodup_nil,fun _ e=>absurd e (by simp),rfl,by omega⟩
 have HA:=zh (nM w.heap.size w2.heap.size b s 0 0 0 (Tr.raw AA wB) [] _ _ ⟨1,⟨#[]⟩,⟨none,0,0⟩,⟨#[]⟩,0,0,0,0,0⟩ w3 hT hS mo.size (by omega));clear hX s0 s1 hw1;go_wp2_with fail;(try rw[hw3]);refine HA.out.mono ?_;rintro e w4 ⟨vs',bN,rfl,Da,hst⟩;have hH:Ar.hdl b s 0≠0:=by have:=(ou (b:=b) (s:=s) (i:=0) (by omega)).1;intro e;rw[show ((0:Nat):Int)=0 from rfl,e] at this;omega
 have Uw:=(jF hS (by omega)).2.2.2.2 ⟨1,⟨#[]⟩,⟨none,0,0⟩,⟨#[]⟩,0,0,0,0,0⟩;rw[zJ] at Da Uw ⊢;dsimp only at Da Uw ⊢;obtain⟨H,hHe⟩:∃ H,Ar.hdl b s ((0:Nat):Int)=H:=⟨_,rfl⟩
 have TL:Ar.hdl b s 0=H:=hHe;rw[hHe] at Da Uw ⊢;rw[TL] at hH;have hraw:Tr.pI (Tr.raw AA wB) H (some ⟨1,⟨#[]⟩,⟨none,0,0⟩,⟨#[]⟩,0,0,0,0,0⟩)=Tr.raw (Tr.dJ AA H p8) wB:=
  (Tr.sV (g:=AA) (h:=H) (m:=p8) (av:=wB) (s:=⟨none,0,0⟩) rfl rfl rfl rfl).symm.trans (by rw[JZ])
 rw[hraw] at Da Uw;obtain⟨RD,WV⟩:=Da.rooted H;have f5:=Da.var.free 5;obtain⟨_,_,_,_,_,r5⟩:=Da.cells;have hlo:∀ k,aD w2.heap.size (.slice none 0 0) (.slice none 0 0) k→w.heap.size≤k:=by
  rintro k (rfl | hk | hk)
  ·exact eU.size
  ·cases hk
  ·cases hk
 have WW:=(hst.trans WV).1.below mo.size hlo;have HF:=zh (And.intro RD (And.intro Uw (And.intro (Tr.WF.add Tr.WF.empty (m:=p8) rfl hH rfl rfl) (mo.trans (WW.mono (Nat.le_refl _))))));have HE:=zh TL;clear hT hS HA Da Uw hraw RD WV hst hlo WW hHe TL hH;go_wp2_with fail
 go_ret
 rw[HE.out];exact⟨_,_,_,rfl,HF.out⟩
theorem rY (s:ByteArray) (w:World) (hs:s.size≤10000):
  Calls Tryz.prog 81 #[.string s] w fun e w'=>e=.returned (.int .i64 ((bJ.chunks s.data.toList).length:Nat))∧Below w.heap.size w w':=by
 have hR:=Tryz.runeCount s w (by omega);rw[bJ.runeCount_eq] at hR
 go_enter Tryz.func81,Tryz.ntmps81
 go_wp2_with fail;refine hR.mono ?_;rintro e w2 ⟨rfl,pos,rfl⟩;go_wp2_with fail
 go_ret
 exact⟨rfl,(Below.refl _ w).alloc (Nat.le_refl _) _⟩
end
section
open Go.RowKit Go.Shelf
attribute [local go_sem] Oper.semAt_some
theorem Bq {G X:Prop} (use:X→G) (k:X):G:=use k
end
section
open Go.RowKit Go.Shelf
attribute [local go_sem] Oper.semAt_some
theorem yL:(Tryz.prog.info? 3).map (fun i=>(i.zero,i.size,i.bytes))=some (some (.int .i64 0),1,8):=by kernel_rfl
theorem fI (w:World) (e:TypeId) (v:Value):∀ j u,[v][j]?=some u→(w.alloc (.cells #[v] e)).cell? ((⟨w.heap.size,0,none⟩:Addr).add j)=some u:=by
 intro j u hj;have hg:(w.alloc (.cells #[v] e)).heap[w.heap.size]?=some (.cells #[v] e (0,0)):=heap_alloc_new w _;rw[Addr.add_lit,cell_of_row _ _ _ _ e (0,0) hg];simpa using hj
theorem LS.D7 {base B bt bh:Nat} {b s root h:Int} {vs vf:Value} {n:Nat} {R:Int→Option Tr.Nd} {fr:List Nat} {live:Nat} {W W':World} {m:Nat} (H:LS base B bt bh b s h vs n R vf fr live root W) (hb:Below m W W') (hF:∀ k,aD B vs vf k→base≤k∧k<m) (h1:bt<m) (h2:bh<m):LS base B bt bh b s h vs n R vf fr live root W':=
 ⟨H.tree.turns (S:=fun k=>m≤k) ⟨hb.os,hb.tape,hb.output,hb.size,fun k _ hn=>hb.block k (Nat.lt_of_not_le hn)⟩ (fun k hk e=>absurd (hF k hk).2 (Nat.not_lt.2 e)),H.bt.below hb h1,H.bh.below hb h2⟩
theorem Cr (l:List Int) (x:Int):ints l++[.int .i64 x]=ints (l++[x]):=(List.map_append (f:=fun i:Int=>Value.int .i64 i) (l₁:=l) (l₂:=[x])).symm
theorem iV {w:World} {b1 b2 size:Nat} {e:TypeId} {v:Value} {n:Nat} {xs:List Value} (h:w.ownsRow b1 e size v n xs) (hb:b2≤b1):w.ownsRow b2 e size v n xs:=by
 refine⟨h.1,?_⟩;rcases h.2 with hn | ⟨g,cap,cur,hv,hb',hr⟩
 ·exact .inl hn
 ·exact .inr ⟨g,cap,cur,hv,by omega,hr⟩
theorem Ls (base B bt bh:Nat) (b s root h:Int) (live n:Nat) (g:Tr.G) (av:Int→Tr.Sl) (fr:List Nat) (vs vf:Value) (w:World) (hS:Sound b s n (Tr.raw g av) fr live) (hw:Tr.WF 0 g) (hh:lU h) (hL:LS base B bt bh b s h vs n (Tr.raw g av) vf fr live root w) (Gh:(Tr.aj g h).length≤100000):
  Calls Tryz.prog 128 #[.slice none 0 0,.func (.func 129) #[] #[.pointer (some ⟨bt,0,none⟩),.pointer (some ⟨bh,0,none⟩)]] w fun e w'=>∃ v,e=.returned v∧w'.ownsRow w.heap.size 3 1 v (Tr.aj g h).length (ints (Tr.aj g h))∧Below w.heap.size w w':=by
 obtain⟨i0,hi,hz0,hz1,hz2⟩:=info_parts yL;have hlt:=hL.tree.lt;have Oe:=hL.bt.lt;have Og:=hL.bh.lt;obtain⟨w1,hw1⟩:∃ w1,w.alloc (.cells #[.slice none 0 0] 31)=w1:=⟨_,rfl⟩
 have hz1':w1.heap.size=w.heap.size+1:=by rw[←hw1];simp
 have hb1:Below w.heap.size w w1:=eP hw1;have hX1:Boxed w1 w.heap.size 31 (.slice none 0 0):=by rw[←hw1];exact Boxed.new w _ _
 have hL1:=hL.below hb1;have hseq:=zV hS hw hh 7 (by omega) w1 hL1;have hm1:¬ aD B vs vf w.heap.size:=fun hk=>by have:=(hlt _ hk).2;omega
 have HL:=zh hL1;clear hL hL1;refine (callsIn_wide (n:=8)).1 ?_;refine callsIn_of_wp_marks Tryz.func128 rfl trivial ?_ rfl;simp only[Tryz.ntmps128,List.size_toArray,List.length_cons,List.length_nil,Nat.reduceAdd,Nat.reduceSub,Array.replicate_succ,Array.replicate_zero,List.push_toArray,List.append_toArray,List.nil_append,List.cons_append]
 gi_wp2_with fail
 (try rw[hw1]);(try gi_wp2_with fail);refine wpIn_rangeFunc_ownF (w:=w1) rfl (by decide) (gf:=129) (lb:=#[.pointer (some ⟨bt,0,none⟩),.pointer (some ⟨bh,0,none⟩)]) rfl trivial (enters_of Tryz.func129 (by kernel_rfl) rfl) hseq LS.qO (LS.rE _) (Below.refl _ _) (fun _=>rfl)
  (fun pre W=>(∃ v,Boxed W w.heap.size 31 v∧W.ownsRow (w.heap.size+1) 3 1 v pre.length (ints (pre.map (·.1))))∧LS base B bt bh b s h vs n (Tr.raw g av) vf fr live root W∧Below w.heap.size w W) (fun _ _ _=>False)
  ?hI ?hIx ⟨⟨_,hX1,World.ownsRow_nil _ _ _ _⟩,HL.out,hb1⟩ (fun x=>{ tmps:=#[.slice none 0 0,.func (.func 129) #[] #[.pointer (some ⟨bt,0,none⟩),.pointer (some ⟨bh,0,none⟩)],.pointer (some ⟨w.heap.size,0,none⟩),undef,.slice none 0 0,.int .i64 x.1,.func (.func 129) #[] #[.pointer (some ⟨bt,0,none⟩),.pointer (some ⟨bh,0,none⟩)],.int .i64 x.1,undef,undef,undef,undef,undef],defers:=[] }) ?assign ?body ?done ?stop
 case hI=>
  rintro pre W W' row ⟨⟨v,h1,h2⟩,h3,h4⟩ hg hr;refine⟨⟨v,h1.kept hg (fun e'=>?_),h2.kept hg ?_⟩,h3.others hg (fun r e=>(hr r e).2),h4.grown hg h4.size (fun r e=>by have:=(hr r e).1;omega)⟩
  ·obtain⟨o,ho,hc⟩:=(hr _ e'.symm).2;rw[show W.heap[w.heap.size]?=_ from h1] at ho;cases ho;cases hc
  ·rcases h2.2 with ⟨rfl,_⟩ | ⟨g,cap,cur,rfl,_,hgb,_⟩
   ·exact .inl rfl
   ·refine .inr fun e'=>?_;obtain⟨o,ho,hc⟩:=(hr g (by rw[←e'];rfl)).2;rw[hgb] at ho;cases ho;cases hc
 case hIx=>intro c pre W W' row h _ _;exact h
 case assign=>
  intro l x W K hK
  gi_wp2
  first | exact hK | simpa using hK
 case body=>
  rintro l pre x W ⟨⟨v,hv,hrow⟩,mR,hBW⟩ hlen;obtain⟨Av,cv,rfl⟩:=aF (aH hrow);have hc:=hv.cell;have hfz:=hv.frozen;have hpl:pre.length≤100000:=by omega
  have hsz:w.heap.size+1≤W.heap.size:=hv.lt;have hrow':=hrow.alloc (.cells #[.int .i64 x.1] 3);have HLW:=zh mR;have GL:=zh hBW;have HV:=zh hv;have Dr:=zh hrow;clear mR hBW hrow
  gi_wp2_with (gi_at_builtin;refine wpListIn_append_own _ rfl _ _ 31 rfl (w.heap.size+1) 3 i0 (.int .i64 0) 1 8 Tryz.underlying31 hi hz0 hz1 hz2 rfl (by decide) _ _ _ rfl hrow' ⟨W.heap.size,0,none⟩ 1 1 [.int .i64 x.1] rfl rfl (fI _ _ _) (by simp[Value.oneCell']) ?c1 ?c2 ?c3 ?_)
  case c1=>unfold maxLen;omega
  case c2=>omega
  case c3=>rw[World.size_alloc];omega
  intro v2 w2 o2 g2 _;have hmap:ints pre.unattach++[.int .i64 x.1]=ints ((pre++[x]).map (·.1)):=by rw[List.map_append];exact Cr _ _
  rw[hmap] at o2;obtain⟨A2,c2,rfl⟩:=aF (aH o2);have rX:=iV Dr.out (Nat.le_succ w.heap.size);obtain⟨q1,q2,_,q4,q5⟩:=Boxed.appended HV.out (by decide) rX (by omega) (Nat.le_refl _) (iV o2 (Nat.le_succ w.heap.size)) g2;have q3:=o2.kept (grownBy_setCell' w2 w.heap.size (.slice A2 (pre.length+1) c2)) (.inr (q1.not_row (by decide) o2).symm);have qc:=q1.cell;have qf:=q1.frozen;have HL2:=zh (LS.D7 HLW.out q5 hlt Oe Og);have HK:Hid (LS base B bt bh b s h vs n (Tr.raw g av) vf fr live root W→LS base B bt bh b s h vs n (Tr.raw g av) vf fr live root (w2.setCell ⟨w.heap.size,0,none⟩ (.slice A2 (pre.length+1) c2))):=zh (fun H=>LS.D7 H q5 hlt Oe Og);have HB2:=zh (GL.out.trans q5);have Q2:=zh q2;have Q3:=zh q3;have Q4:=zh q4;clear q2 q3 q4 q5 q1 rX o2 g2
  gi_wp2_with fail
  exact⟨Q4.out,HK.out,⟨_,Q2.out,by rw[List.length_append];exact Q3.out⟩,HL2.out,HB2.out⟩
 case done=>
  rintro D xs W hD rfl ⟨⟨v,hv,hrow⟩,mR,hBW⟩ hK;obtain⟨Av,cv,rfl⟩:=aF (aH hrow);rw[List.length_attach] at hv;have hc:=hv.cell;have hr2:W.ownsRow w.heap.size 3 1 (.slice Av (Tr.aj g h).length cv) (Tr.aj g h).length (ints (Tr.aj g h)):=by
   rw[List.length_attach,List.attach_map_subtype_val] at hrow;exact iV hrow (by omega)
  have HB:=zh (And.intro (ownsRow_putObj hr2 (.deferred none) hK rfl) (hBW.trans (belowK_b (w:=w) (Nat.le_refl _) W D _ (.deferred none) (by omega) hK rfl rfl)));clear hrow hr2 mR hBW hv
  gi_wp2_with fail
  refine⟨by simp,.inl ⟨_,_,rfl,run_takeDeferred hK,?_⟩⟩;exact⟨_,results_tmp rfl _ _ _,.slice Av (Tr.aj g h).length cv,rfl,HB.out.1,HB.out.2⟩
 case stop=>
  rintro D c pre W _ _ h _;exact h.elim
theorem Lu (base B bt bh:Nat) (b s root h:Int) (live n:Nat) (g:Tr.G) (av:Int→Tr.Sl) (fr:List Nat) (vs vf:Value) (w:World) (hS:Sound b s n (Tr.raw g av) fr live) (hw:Tr.WF 0 g) (hh:lU h) (hL:LS base B bt bh b s h vs n (Tr.raw g av) vf fr live root w) (Gh:(Tr.au g h).length≤100000):
  Calls Tryz.prog 128 #[.slice none 0 0,.func (.func 87) #[] #[.pointer (some ⟨bt,0,none⟩),.pointer (some ⟨bh,0,none⟩)]] w fun e w'=>∃ v,e=.returned v∧w'.ownsRow w.heap.size 3 1 v (Tr.au g h).length (ints (Tr.au g h))∧Below w.heap.size w w':=by
 obtain⟨i0,hi,hz0,hz1,hz2⟩:=info_parts yL;have hlt:=hL.tree.lt;have Oe:=hL.bt.lt;have Og:=hL.bh.lt;obtain⟨w1,hw1⟩:∃ w1,w.alloc (.cells #[.slice none 0 0] 31)=w1:=⟨_,rfl⟩
 have hz1':w1.heap.size=w.heap.size+1:=by rw[←hw1];simp
 have hb1:Below w.heap.size w w1:=eP hw1;have hX1:Boxed w1 w.heap.size 31 (.slice none 0 0):=by rw[←hw1];exact Boxed.new w _ _
 have hL1:=hL.below hb1;have hseq:=rD hS hw hh 7 (by omega) w1 hL1;have hm1:¬ aD B vs vf w.heap.size:=fun hk=>by have:=(hlt _ hk).2;omega
 have HL:=zh hL1;clear hL hL1;refine (callsIn_wide (n:=8)).1 ?_;refine callsIn_of_wp_marks Tryz.func128 rfl trivial ?_ rfl;simp only[Tryz.ntmps128,List.size_toArray,List.length_cons,List.length_nil,Nat.reduceAdd,Nat.reduceSub,Array.replicate_succ,Array.replicate_zero,List.push_toArray,List.append_toArray,List.nil_append,List.cons_append]
 gi_wp2_with fail
 (try rw[hw1]);(try gi_wp2_with fail);refine wpIn_rangeFunc_ownF (w:=w1) rfl (by decide) (gf:=87) (lb:=#[.pointer (some ⟨bt,0,none⟩),.pointer (some ⟨bh,0,none⟩)]) rfl trivial (enters_of Tryz.func87 (by kernel_rfl) rfl) hseq LS.qO (LS.rE _) (Below.refl _ _) (fun _=>rfl)
  (fun pre W=>(∃ v,Boxed W w.heap.size 31 v∧W.ownsRow (w.heap.size+1) 3 1 v pre.length (ints (pre.map (·.1))))∧LS base B bt bh b s h vs n (Tr.raw g av) vf fr live root W∧Below w.heap.size w W) (fun _ _ _=>False)
  ?hI ?hIx ⟨⟨_,hX1,World.ownsRow_nil _ _ _ _⟩,HL.out,hb1⟩ (fun x=>{ tmps:=#[.slice none 0 0,.func (.func 87) #[] #[.pointer (some ⟨bt,0,none⟩),.pointer (some ⟨bh,0,none⟩)],.pointer (some ⟨w.heap.size,0,none⟩),undef,.slice none 0 0,.int .i64 x.1,.func (.func 87) #[] #[.pointer (some ⟨bt,0,none⟩),.pointer (some ⟨bh,0,none⟩)],.int .i64 x.1,undef,undef,undef,undef,undef],defers:=[] }) ?assign ?body ?done ?stop
 case hI=>
  rintro pre W W' row ⟨⟨v,h1,h2⟩,h3,h4⟩ hg hr;refine⟨⟨v,h1.kept hg (fun e'=>?_),h2.kept hg ?_⟩,h3.others hg (fun r e=>(hr r e).2),h4.grown hg h4.size (fun r e=>by have:=(hr r e).1;omega)⟩
  ·obtain⟨o,ho,hc⟩:=(hr _ e'.symm).2;rw[show W.heap[w.heap.size]?=_ from h1] at ho;cases ho;cases hc
  ·rcases h2.2 with ⟨rfl,_⟩ | ⟨g,cap,cur,rfl,_,hgb,_⟩
   ·exact .inl rfl
   ·refine .inr fun e'=>?_;obtain⟨o,ho,hc⟩:=(hr g (by rw[←e'];rfl)).2;rw[hgb] at ho;cases ho;cases hc
 case hIx=>intro c pre W W' row h _ _;exact h
 case assign=>
  intro l x W K hK
  gi_wp2
  first | exact hK | simpa using hK
 case body=>
  rintro l pre x W ⟨⟨v,hv,hrow⟩,mR,hBW⟩ hlen;obtain⟨Av,cv,rfl⟩:=aF (aH hrow);have hc:=hv.cell;have hfz:=hv.frozen;have hpl:pre.length≤100000:=by omega
  have hsz:w.heap.size+1≤W.heap.size:=hv.lt;have hrow':=hrow.alloc (.cells #[.int .i64 x.1] 3);have HLW:=zh mR;have GL:=zh hBW;have HV:=zh hv;have Dr:=zh hrow;clear mR hBW hrow
  gi_wp2_with (gi_at_builtin;refine wpListIn_append_own _ rfl _ _ 31 rfl (w.heap.size+1) 3 i0 (.int .i64 0) 1 8 Tryz.underlying31 hi hz0 hz1 hz2 rfl (by decide) _ _ _ rfl hrow' ⟨W.heap.size,0,none⟩ 1 1 [.int .i64 x.1] rfl rfl (fI _ _ _) (by simp[Value.oneCell']) ?c1 ?c2 ?c3 ?_)
  case c1=>unfold maxLen;omega
  case c2=>omega
  case c3=>rw[World.size_alloc];omega
  intro v2 w2 o2 g2 _;have hmap:ints pre.unattach++[.int .i64 x.1]=ints ((pre++[x]).map (·.1)):=by rw[List.map_append];exact Cr _ _
  rw[hmap] at o2;obtain⟨A2,c2,rfl⟩:=aF (aH o2);have rX:=iV Dr.out (Nat.le_succ w.heap.size);obtain⟨q1,q2,_,q4,q5⟩:=Boxed.appended HV.out (by decide) rX (by omega) (Nat.le_refl _) (iV o2 (Nat.le_succ w.heap.size)) g2;have q3:=o2.kept (grownBy_setCell' w2 w.heap.size (.slice A2 (pre.length+1) c2)) (.inr (q1.not_row (by decide) o2).symm);have qc:=q1.cell;have qf:=q1.frozen;have HL2:=zh (LS.D7 HLW.out q5 hlt Oe Og);have HK:Hid (LS base B bt bh b s h vs n (Tr.raw g av) vf fr live root W→LS base B bt bh b s h vs n (Tr.raw g av) vf fr live root (w2.setCell ⟨w.heap.size,0,none⟩ (.slice A2 (pre.length+1) c2))):=zh (fun H=>LS.D7 H q5 hlt Oe Og);have HB2:=zh (GL.out.trans q5);have Q2:=zh q2;have Q3:=zh q3;have Q4:=zh q4;clear q2 q3 q4 q5 q1 rX o2 g2
  gi_wp2_with fail
  exact⟨Q4.out,HK.out,⟨_,Q2.out,by rw[List.length_append];exact Q3.out⟩,HL2.out,HB2.out⟩
 case done=>
  rintro D xs W hD rfl ⟨⟨v,hv,hrow⟩,mR,hBW⟩ hK;obtain⟨Av,cv,rfl⟩:=aF (aH hrow);rw[List.length_attach] at hv;have hc:=hv.cell;have hr2:W.ownsRow w.heap.size 3 1 (.slice Av (Tr.au g h).length cv) (Tr.au g h).length (ints (Tr.au g h)):=by
   rw[List.length_attach,List.attach_map_subtype_val] at hrow;exact iV hrow (by omega)
  have HB:=zh (And.intro (ownsRow_putObj hr2 (.deferred none) hK rfl) (hBW.trans (belowK_b (w:=w) (Nat.le_refl _) W D _ (.deferred none) (by omega) hK rfl rfl)));clear hrow hr2 mR hBW hv
  gi_wp2_with fail
  refine⟨by simp,.inl ⟨_,_,rfl,run_takeDeferred hK,?_⟩⟩;exact⟨_,results_tmp rfl _ _ _,.slice Av (Tr.au g h).length cv,rfl,HB.out.1,HB.out.2⟩
 case stop=>
  rintro D c pre W _ _ h _;exact h.elim
end
section
open Go.RowKit
theorem IX (w:World):
  Calls Tryz.prog 66 #[.slice none 0 0] w fun e w'=>e=.returned (.slice none 0 0)∧Below w.heap.size w w':=by
 have hcmp:∀ (w:World) (a:Option Addr) (n c:Nat),(binOp .eql 40 (.slice a n c) (.slice none 0 0)).run Tryz.prog w=.ok (.bool a.isNone) w:=fun w a n c=>Lib.run_eql_slice_nil w _ _ a n c 0 0 Tryz.underlying40
 go_enter Tryz.func66,Tryz.ntmps66
 go_wp2_with fail
 go_ret
 exact⟨rfl,Below.refl _ _⟩
theorem D8 (w:World):
  Calls Tryz.prog 109 #[.slice none 0 0] w fun e w'=>e=.returned (.slice none 0 0)∧Below w.heap.size w w':=by
 go_enter Tryz.func109,Tryz.ntmps109
 go_wp2_with fail;refine (IX w).mono ?_;rintro e w1 ⟨rfl,hb1⟩;go_wp2_with fail
 go_loopw [9] (fun i wr=>i=.int .i64 0∧wr=w1) (fun _ _=>0)
 case atStart=>exact⟨rfl,rfl⟩
 case round=>
  obtain⟨rfl,rfl⟩:=hrel;go_wp2_with fail
  go_ret
  exact⟨rfl,hb1⟩
abbrev Gl (nm:ByteArray):Tr.GN:=⟨2,nm,[],⟨#[]⟩,0,[]⟩
theorem oD:bJ.rep []=[]:=List.eq_nil_of_length_eq_zero (by have:=bJ.mP [];simp at this;simpa using this)
theorem Oh:Nm.fits ⟨#[]⟩=true:=by
 unfold Nm.fits;rw[show (⟨#[]⟩:ByteArray).data.toList=[] from rfl,oD];rfl
theorem Lx (base B:Nat) (b s root:Int) (live n:Nat) (g:Tr.G) (av:Int→Tr.Sl) (fr:List Nat) (vs vf:Value) (nm:ByteArray) (w:World) (hm:TV base w B b s vs n (Tr.raw g av) vf fr live root) (hS:Sound b s n (Tr.raw g av) fr live) (hw:Tr.WF 0 g) (hbase:base≤w.heap.size) (hn:n<100000) (hl:live<20000) (hs:nm.size≤20000) (hnm:Nm.elem nm=true) (hT:Lit w):
  Calls Tryz.prog 46 #[.pointer (some ⟨B,0,none⟩),.int .i64 2,.string nm,.string ⟨#[]⟩,.slice none 0 0] w fun e w'=>∃ (h:Int) (vs' bN:Value) (n':Nat) (fr':List Nat),e=.returned (.tuple #[.int .i64 h,.int .i64 0])∧n'≤n+1∧
   g h=none∧h≠0∧TV base w' B b s vs' n' (Tr.raw (Tr.dJ g h (Gl nm)) (Tr.fC av h ⟨none,0,0⟩)) bN fr' (live+1) root∧Sound b s n' (Tr.raw (Tr.dJ g h (Gl nm)) (Tr.fC av h ⟨none,0,0⟩)) fr' (live+1)∧Tr.WF 0 (Tr.dJ g h (Gl nm))∧ay w w' (aD B vs vf) (aD B vs' bN):=by
 go_enter Tryz.func46,Tryz.ntmps46
 go_wp2_with fail;obtain⟨w1,hw1⟩:∃ w1,w.alloc (.cells #[.int .i64 2,.string ⟨#[]⟩,.slice none 0 0,.string ⟨#[]⟩,.int .i64 0,.int .i64 0,.int .i64 0,.int .i64 0,.int .i64 0] 42)=w1:=⟨_,rfl⟩
 rw[hw1];have hb1:Below w.heap.size w w1:=eP hw1;have hX1:Whole w1 w.heap.size #[.int .i64 2,.string ⟨#[]⟩,.slice none 0 0,.string ⟨#[]⟩,.int .i64 0,.int .i64 0,.int .i64 0,.int .i64 0,.int .i64 0] 42:=by rw[←hw1];exact Whole.new w _ _
 refine (D8 w1).mono ?_;rintro e w2 ⟨rfl,hb2⟩;have hX2:=hX1.below hb2 hX1.lt;have eU:=hb1.trans (hb2.mono hb1.size);have q1:w2.cell? ⟨w.heap.size,1,none⟩=some (.string ⟨#[]⟩):=hX2.cell 1;have q2:w2.cell? ⟨w.heap.size,2,none⟩=some (.slice none 0 0):=hX2.cell 2;have f1:=hX2.free 1;have f2:=hX2.free 2;have WX:Whole (w2.setCell ⟨w.heap.size,1,none⟩ (.string nm)) w.heap.size #[.int .i64 2,.string nm,.slice none 0 0,.string ⟨#[]⟩,.int .i64 0,.int .i64 0,.int .i64 0,.int .i64 0,.int .i64 0] 42:=hX2.put 1 (.string nm);have bq:Whole ((w2.setCell ⟨w.heap.size,1,none⟩ (.string nm)).setCell ⟨w.heap.size,2,none⟩ (.slice none 0 0)) w.heap.size #[.int .i64 2,.string nm,.slice none 0 0,.string ⟨#[]⟩,.int .i64 0,.int .i64 0,.int .i64 0,.int .i64 0,.int .i64 0] 42:=WX.put 2 (.slice none 0 0);have mo:Below w.heap.size w ((w2.setCell ⟨w.heap.size,1,none⟩ (.string nm)).setCell ⟨w.heap.size,2,none⟩ (.slice none 0 0)):=(eU.setCell (p:=⟨w.heap.size,1,none⟩) (Nat.le_refl _) _).setCell (p:=⟨w.heap.size,2,none⟩) (Nat.le_refl _) _;obtain⟨w3,hw3⟩:∃ w3,(w2.setCell ⟨w.heap.size,1,none⟩ (.string nm)).setCell ⟨w.heap.size,2,none⟩ (.slice none 0 0)=w3:=⟨_,rfl⟩
 rw[hw3] at bq mo;have Ay:=IW ⟨2,nm,⟨none,0,0⟩,⟨#[]⟩,0,0,0,0,0⟩ w3 rfl hs (hT.below mo);dsimp only at Ay;rw[hnm,Bool.or_true] at Ay;have HV:=zh Ay;clear Ay;have k0:w3.cell? ⟨w.heap.size,0,none⟩=some (.int .i64 2):=bq.cell 0;have k1:w3.cell? ⟨w.heap.size,1,none⟩=some (.string nm):=bq.cell 1;have k2:w3.cell? ⟨w.heap.size,2,none⟩=some (.slice none 0 0):=bq.cell 2;have k3:w3.cell? ⟨w.heap.size,3,none⟩=some (.string ⟨#[]⟩):=bq.cell 3;have k4:w3.cell? ⟨w.heap.size,4,none⟩=some (.int .i64 0):=bq.cell 4;have k5:w3.cell? ⟨w.heap.size,5,none⟩=some (.int .i64 0):=bq.cell 5;have k6:w3.cell? ⟨w.heap.size,6,none⟩=some (.int .i64 0):=bq.cell 6;have k7:w3.cell? ⟨w.heap.size,7,none⟩=some (.int .i64 0):=bq.cell 7;have k8:w3.cell? ⟨w.heap.size,8,none⟩=some (.int .i64 0):=bq.cell 8;clear hX1 hb1 hb2 WX eU hw1;go_wp2_with fail;(try rw[hw3]);go_wp2_with fail;refine HV.out.mono ?_;rintro e w4 ⟨rfl,hb4⟩;have bI:=bq.below hb4 bq.lt;have ko:=mo.trans (hb4.mono mo.size);replace k0:w4.cell? ⟨w.heap.size,0,none⟩=some (.int .i64 2):=bI.cell 0;replace k1:w4.cell? ⟨w.heap.size,1,none⟩=some (.string nm):=bI.cell 1;replace k2:w4.cell? ⟨w.heap.size,2,none⟩=some (.slice none 0 0):=bI.cell 2;replace k3:w4.cell? ⟨w.heap.size,3,none⟩=some (.string ⟨#[]⟩):=bI.cell 3;replace k4:w4.cell? ⟨w.heap.size,4,none⟩=some (.int .i64 0):=bI.cell 4;replace k5:w4.cell? ⟨w.heap.size,5,none⟩=some (.int .i64 0):=bI.cell 5;replace k6:w4.cell? ⟨w.heap.size,6,none⟩=some (.int .i64 0):=bI.cell 6;replace k7:w4.cell? ⟨w.heap.size,7,none⟩=some (.int .i64 0):=bI.cell 7;replace k8:w4.cell? ⟨w.heap.size,8,none⟩=some (.int .i64 0):=bI.cell 8;have nZ:=hm.below ko;have hlv:¬ (20000:Int)≤(live:Int):=by omega
 go_wp2_with fail;refine (pO base B b s root live n _ fr vs vf w4 nZ).mono ?_;rintro e w5 ⟨rfl,eH⟩;obtain rfl:=eH.symm;have hwl:=rW ⟨2,nm,⟨none,0,0⟩,⟨#[]⟩,0,0,0,0,0⟩ w4 rfl (by show (0:Nat)≤20000;omega) (hT.below ko);dsimp only at hwl;rw[Oh] at hwl;have O1:=zh hwl;clear hwl;go_wp2_with fail;refine O1.out.mono ?_;rintro e w6 ⟨rfl,hb6⟩;have gI:=bI.below hb6 bI.lt;have oK:=ko.trans (hb6.mono ko.size);replace k0:w6.cell? ⟨w.heap.size,0,none⟩=some (.int .i64 2):=gI.cell 0;replace k1:w6.cell? ⟨w.heap.size,1,none⟩=some (.string nm):=gI.cell 1;replace k2:w6.cell? ⟨w.heap.size,2,none⟩=some (.slice none 0 0):=gI.cell 2;replace k3:w6.cell? ⟨w.heap.size,3,none⟩=some (.string ⟨#[]⟩):=gI.cell 3;replace k4:w6.cell? ⟨w.heap.size,4,none⟩=some (.int .i64 0):=gI.cell 4;replace k5:w6.cell? ⟨w.heap.size,5,none⟩=some (.int .i64 0):=gI.cell 5;replace k6:w6.cell? ⟨w.heap.size,6,none⟩=some (.int .i64 0):=gI.cell 6;replace k7:w6.cell? ⟨w.heap.size,7,none⟩=some (.int .i64 0):=gI.cell 7;replace k8:w6.cell? ⟨w.heap.size,8,none⟩=some (.int .i64 0):=gI.cell 8;obtain⟨v1,v2,v3,v4,v5⟩:=jF hS hn;have hgn:g (Ar.hdl b s ((eB n fr).2.2:Nat))=none:=by
  have:=aS (g:=g) (av:=av) (h:=Ar.hdl b s ((eB n fr).2.2:Nat));rw[v4] at this;exact Option.not_isSome_iff_eq_none.1 (by rw[←this];simp)
 have hH0:Ar.hdl b s ((eB n fr).2.2:Nat)≠0:=by
  have:=(ou (b:=b) (s:=s) (i:=(eB n fr).2.2) (by omega)).1;omega
 have hAdd:=nM base B b s root live n _ fr vs vf ⟨2,nm,⟨none,0,0⟩,⟨#[]⟩,0,0,0,0,0⟩ w6.drew (hm.below (Below.drew oK)) hS (by have:=oK.size;show base≤w6.heap.size;omega) hn;have qW:=v5 ⟨2,nm,⟨none,0,0⟩,⟨#[]⟩,0,0,0,0,0⟩;rw[←Tr.sV (g:=g) (h:=Ar.hdl b s ((eB n fr).2.2:Nat)) (m:=Gl nm) (av:=av) (s:=⟨none,0,0⟩) hgn hw.zero rfl rfl] at hAdd qW;have wm:=Tr.WF.add hw (m:=Gl nm) hgn hH0 rfl rfl;have qE:ay w w6.drew (aD B vs vf) (aD B vs vf):=.of_below (Below.drew oK);obtain⟨H,hH⟩:∃ H,Ar.hdl b s ((eB n fr).2.2:Nat)=H:=⟨_,rfl⟩
 rw[hH] at hgn hH0 hAdd qW wm;have HA:=zh hAdd;have HQ:=zh (And.intro v2 (And.intro hgn (And.intro hH0 (And.intro qW (And.intro wm qE)))));clear v1 v2 v3 v4 v5 hgn hH0 hAdd qW wm qE hH;go_wp2_with fail
 go_region_with (refine HA.out.mono ?_;rintro e w7 ⟨vs',bN,rfl,M8,hst⟩;have JD:=zh (And.intro M8 hst);clear M8 hst)
 go_wp2_with fail;go_ret2;obtain⟨v2,hgn,hH0,qW,wm,qE⟩:=HQ.out;exact⟨_,_,_,_,_,rfl,v2,hgn,hH0,JD.out.1,qW,wm,qE.trans JD.out.2⟩
end
section
open Go.RowKit Go.Shelf
attribute [local go_sem] Oper.semAt_some
theorem LA (base B:Nat) (b s root h:Int) (live n:Nat) (g:Tr.G) (av:Int→Tr.Sl) (fr:List Nat) (vs vf:Value) (w:World) (hm:TV base w B b s vs n (Tr.raw g av) vf fr live root) (hS:Sound b s n (Tr.raw g av) fr live) (hw:Tr.WF 0 g) (hh:lU h) (Gh:(Tr.au g h).length≤1000000):
  Calls Tryz.prog 92 #[.pointer (some ⟨B,0,none⟩),.int .i64 h] w fun e w'=>e=.returned (.int .i64 ((Tr.au g h).length:Nat))∧Below w.heap.size w w':=by
 have hlt:=hm.lt;refine (callsIn_wide (n:=8)).1 ?_;refine callsIn_of_wp_marks Tryz.func92 rfl trivial ?_ rfl;simp only[Tryz.ntmps92,List.size_toArray,List.length_cons,List.length_nil,Nat.reduceAdd,Nat.reduceSub,Array.replicate_succ,Array.replicate_zero,List.push_toArray,List.append_toArray,List.nil_append,List.cons_append]
 gi_wp2_with fail
 obtain⟨w1,hw1⟩:∃ w1,w.alloc (.cells #[.int .i64 0] 3)=w1:=⟨_,rfl⟩
 have hz1:w1.heap.size=w.heap.size+1:=by rw[←hw1];simp
 have hb1:Below w.heap.size w w1:=eP hw1;have hX1:Whole w1 w.heap.size #[.int .i64 0] 3:=by rw[←hw1];exact Whole.new w _ _
 have hL:=LS.made (h:=h) (hm.below hb1);have hsz2:((w1.alloc (.cells #[.pointer (some ⟨B,0,none⟩)] 29)).alloc (.cells #[.int .i64 h] 3)).heap.size=w1.heap.size+2:=by simp
 have hb2:Below w1.heap.size w1 ((w1.alloc (.cells #[.pointer (some ⟨B,0,none⟩)] 29)).alloc (.cells #[.int .i64 h] 3)):=((Below.refl _ w1).alloc (Nat.le_refl _) _).alloc (by simp) _;have hseq:=rD hS hw hh 7 (by omega) _ hL;have xk:=zh (oW B h w1);(try rw[hw1]);refine⟨trivial,(callsIn_wide.2 xk.out).mono ?_⟩;rintro e w' ⟨rfl,hw'⟩;rw[←hw'] at hL hsz2 hb2 hseq;have hX2:=hX1.below hb2 hX1.lt;have hB2:=hb1.trans (hb2.mono hb1.size);clear hm hS hX1 hw' hb2 xk
 gi_wp2_with fail
 rw[hz1] at hseq hL hsz2;have hm1:¬ aD B vs vf w.heap.size:=fun hk=>by have:=(hlt _ hk).2;omega
 refine wpIn_rangeFunc_ownF (w:=w') rfl (by decide) (gf:=87) (lb:=#[.pointer (some ⟨w.heap.size+1,0,none⟩),.pointer (some ⟨w.heap.size+1+1,0,none⟩)]) rfl trivial (enters_of Tryz.func87 (by kernel_rfl) rfl) hseq LS.qO (LS.rE _) (Below.refl _ _) (fun _=>rfl)
  (fun pre W=>Whole W w.heap.size #[.int .i64 (pre.length:Nat)] 3∧LS base B (w.heap.size+1) (w.heap.size+1+1) b s h vs n (Tr.raw g av) vf fr live root W∧Below w.heap.size w W) (fun _ _ _=>False)
  ?hI ?hIx ⟨hX2,hL,hB2⟩ (fun x=>{ tmps:=#[.pointer (some ⟨B,0,none⟩),.int .i64 h,undef,undef,.int .i64 0,.pointer (some ⟨w.heap.size,0,none⟩),.pointer (some ⟨B,0,none⟩),.int .i64 h,.func (.func 87) #[] #[.pointer (some ⟨w.heap.size+1,0,none⟩),.pointer (some ⟨w.heap.size+1+1,0,none⟩)],.int .i64 x.1,undef,undef,undef],defers:=[] }) ?assign ?body ?done ?stop
 case hI=>
  rintro pre W W' row ⟨h1,h2,h3⟩ hg hr;exact⟨bn h1 hg (fun r e=>(hr r e).2),h2.others hg (fun r e=>(hr r e).2),h3.grown hg h3.size (fun r e=>by have:=(hr r e).1;omega)⟩
 case hIx=>intro c pre W W' row h _ _;exact h
 case assign=>
  intro l x W K hK
  gi_wp2
  simpa using hK
 case body=>
  rintro l pre x W ⟨hX,mR,hBW⟩ hlen;have c0:W.cell? ⟨w.heap.size,0,none⟩=some (.int .i64 (pre.length:Nat)):=hX.cell 0;have f0:=hX.free 0;have hpl:pre.length≤1000000:=by omega
  have yt:=hX.put 0 (.int .i64 ((pre.length:Int)+1));have hL':=mR.set hm1 (by omega) (by omega) 0 (.int .i64 ((pre.length:Int)+1));have HF:=zh (And.intro yt (And.intro hL' (hBW.setCell (p:=⟨w.heap.size,0,none⟩) (Nat.le_refl _) (.int .i64 ((pre.length:Int)+1)))));clear hX mR hBW yt hL'
  gi_wp2_with fail
  refine⟨KeepsOthers.setCell _ _ _,fun _=>HF.out.2.1,?_,HF.out.2.1,HF.out.2.2⟩;rw[List.length_append];exact HF.out.1
 case done=>
  rintro D xs W hD rfl ⟨hX,mR,hBW⟩ hK;rw[List.length_attach] at hX;have c0:W.cell? ⟨w.heap.size,0,none⟩=some (.int .i64 ((Tr.au g h).length:Nat)):=hX.cell 0;have HB:=zh (hBW.trans (belowK_b (w:=w) (Nat.le_refl _) W D _ (.deferred none) (by omega) hK rfl rfl));clear hX mR hBW
  gi_wp2_with fail
  refine⟨by simp,.inl ⟨_,_,rfl,run_takeDeferred hK,?_⟩⟩;exact⟨_,results_tmp rfl _ _ _,rfl,HB.out⟩
 case stop=>
  rintro D c pre W _ _ h _;exact h.elim
end
section
open Go.RowKit
section
variable {F:Fence} {N:Nat} {P:Program} {w:World}
theorem nE {ops:Array Oper} {o:Oper} {a:Act} {K:Act→World→Prop} {Q:Exit→Act→World→Prop} {E:Prop} (hgd:o.guard=none) (s x:Operand) (t:TypeId)
  (ho:o.op=.call { callee:=.builtin .append,args:=#[s,x],argTypes:=#[t,t] })
  (base:Nat) (e:TypeId) (i:TypeInfo) (z:Value) (size bytes:Nat) (ht:P.underlying t=some (.slice e)) (hi:P.info? e=some i) (hz:i.zero=some z)
  (hsize:i.size=size) (hby:i.bytes=bytes) (hzs:z.cells.size=size) (hsz:0<size)
  (v:Value) (n:Nat) (xs:List Value) (hs:a.eval s=v) (hown:TR w base e size v n xs) (v2:Value) (m:Nat) (ys:List Value) (hx:a.eval x=v2) (hyl:ys.length=m*size)
  (hsrc:(v2=.slice none 0 0∧m=0)∨∃ a c,v2=.slice (some a) m c∧∀ j u,ys[j]?=some u→w.cell? (a.add j)=some u) (h1:∀ u∈ys,u.oneCell'=true)
  (h63:n+m≤maxLen) (hbytes:(n+m)*bytes≤140737488355328) (hbase:base≤w.heap.size)
  (h:∀ v' w',TR w' base e size v' (n+m) (xs++ys)→w.grownBy w' v.ownBlock→mI w v v'→K (a.put o.dst v') w'):
  if Region.wanted o (yielded ops a.tmps)=true then Oper.wpIn F N P o a w K Q else E:=by
 have hw:Region.wanted o (yielded ops a.tmps)=true:=by simp[Region.wanted,hgd]
 rw[if_pos hw];obtain⟨v',w',hr,h2,h3,h4⟩:=mF (P:=P) base t o.type e i z size bytes ht hi hz hsize hby hzs hsz v n xs hown v2 m ys hyl hsrc h1 h63 hbytes hbase;unfold Oper.wpIn;rw[Oper.semAt_eq _ _ _ (fun c hc=>by rw[ho] at hc;cases hc)];refine⟨fun f hf=>?_,?_⟩
 ·unfold Oper.about at hf;simp[ho,resolve,Sem.run_pure,Target.leads] at hf
 ·unfold execOp;simp only[ho,resolve,invoke,builtin,Sem.run_bind,Sem.run_pure,Result.andThen_ok,List.map_toArray,List.map_cons,List.map_nil,hs,hx,hr];exact h v' w' h2 h3 h4
end
end
section
namespace Tr
open Go Go.RowKit
def Line (g:G):Int→List Int→Prop
 | _,[]=>True
 | q,x::r=>(∃ m,g x=some m∧m.pa=q∧m.kids=r.take 1)∧Line g x r
theorem Line.congr {g g':G}:∀ {l:List Int} {q:Int},Line g q l→(∀ x∈l,g' x=g x)→Line g' q l
 | [],_,_,_=>trivial
 | x::r,q,⟨⟨m,h1,h2,h3⟩,h4⟩,h=>⟨⟨m,(h x (by simp)).trans h1,h2,h3⟩,h4.congr fun y hy=>h y (by simp[hy])⟩
theorem Line.mem {g:G}:∀ {l:List Int} {q:Int},Line g q l→∀ x∈l,(g x).isSome
 | _::_,_,⟨⟨_,h1,_,_⟩,h4⟩,y,hy=>by
  rcases List.mem_cons.1 hy with rfl | hy
  ·rw[h1];rfl
  ·exact h4.mem y hy
theorem Line.link {g:G} {p h:Int} {r:List Int}:∀ {l:List Int} {q:Int},Line g q (l++[p])→Line g 0 (h::r)→((l++[p])++h::r).Nodup→Line (bP g p h 0) q ((l++[p])++h::r)
 | [],q,⟨⟨m,h1,h2,h3⟩,_⟩,⟨⟨mh,k1,k2,k3⟩,k4⟩,hn=>by
  have xG:p≠h:=fun e=>by subst e;simp at hn
  have hr:∀ x∈r,x≠h∧x≠p:=fun x hx=>by
   simp at hn;exact⟨fun e=>hn.2.1 (e▸hx),fun e=>hn.1.2 (e▸hx)⟩
  refine⟨⟨_,nS h1 xG,h2,?_⟩,⟨⟨_,iB k1,rfl,k3⟩,k4.congr fun x hx=>sF (hr x hx).1 (hr x hx).2⟩⟩;show iL m.kids 0 h=_;rw[h3];rfl
 | x::l,q,⟨⟨m,h1,h2,h3⟩,h4⟩,k,hn=>by
  have hn2:((l++[p])++h::r).Nodup:=(List.nodup_cons.1 hn).2;have hx:x∉(l++[p])++h::r:=(List.nodup_cons.1 hn).1;refine⟨⟨m,by rw[sF (fun e=>hx (by simp[e])) (fun e=>hx (by simp[e]))];exact h1,h2,?_⟩,Line.link h4 k hn2⟩;rw[h3];cases l<;>simp
theorem Line.hgt {g:G} (w:WF 0 g):∀ {r:List Int} {x q:Int},Line g q (x::r)→gB g x=(x::r).length
 | [],x,q,⟨⟨m,h1,h2,h3⟩,_⟩=>by rw[w.iF h1,h3];rfl
 | y::r,x,q,⟨⟨m,h1,h2,h3⟩,h4⟩=>by
  rw[w.iF h1,h3,List.take_succ_cons,List.take_zero,List.map_cons,List.map_nil,h4.hgt w];simp
theorem Line.up {g:G} {p:Int}:∀ {l:List Int} {q:Int} {u:List Int},Line g q (l++[p])→Up g q u→Up g p ((l++[p]).reverse++u)
 | [],q,u,⟨⟨m,h1,h2,h3⟩,_⟩,hu=>.node h1 (h2▸hu)
 | x::l,q,u,⟨⟨m,h1,h2,h3⟩,h4⟩,hu=>by
  have:=h4.up (u:=x::u) (.node h1 (h2▸hu));simpa using this
theorem Line.dz {g:G} (w:WF 0 g) {p:Int} {l:List Int} (h:Line g 0 (l++[p])):dz g p=(l++[p]).reverse:=by
 have h1:=h.up (u:=[]) (.out w.zero);rw[List.append_nil] at h1;exact (w.eO p).1.one h1
structure Deep (g:G) (root:Int) (c d:List Int) (ok:ByteArray→Prop):Prop where
 wf:WF 0 g
 main:Line g 0 (root::c)
 side:Line g 0 d
 nodup:((root::c)++d).Nodup
 doc:∀ m,g root=some m→m.kind=1∧m.attrs=[]∧m.data=⟨#[]⟩
 elem:∀ x m,g x=some m→x≠root→m.kind=2∧ok m.name∧m.attrs=[]∧m.data=⟨#[]⟩
section
variable {g:G} {root h p:Int} {c d l:List Int} {ok:ByteArray→Prop}
theorem Deep.start {H:Int} (hH:H≠0):Deep (dJ (fun _=>none) H ⟨1,⟨#[]⟩,[],⟨#[]⟩,0,[]⟩) H [] [] ok where
 wf:=WF.empty.add rfl hH rfl rfl
 main:=⟨⟨_,bX _ _ _,rfl,rfl⟩,trivial⟩
 side:=trivial
 nodup:=by simp
 doc m e:=by rw[bX] at e;obtain rfl:=Option.some.inj e;exact⟨rfl,rfl,rfl⟩
 elem x m e hx:=by rw[cu hx] at e;cases e
theorem Deep.not_mem (D:Deep g root c d ok) (hn:g h=none):h∉(root::c)++d:=fun hm=>by
 have:(g h).isSome:=by
  rcases List.mem_append.1 hm with hm | hm
  ·exact D.main.mem h hm
  ·exact D.side.mem h hm
 rw[hn] at this;cases this
theorem Deep.add (D:Deep g root c d ok) (hn:g h=none) (h0:h≠0) {nm:ByteArray} (hok:ok nm):Deep (dJ g h ⟨2,nm,[],⟨#[]⟩,0,[]⟩) root c d ok∧Line (dJ g h ⟨2,nm,[],⟨#[]⟩,0,[]⟩) 0 [h]:=by
 have hm:=D.not_mem hn;refine⟨⟨D.wf.add hn h0 rfl rfl,D.main.congr fun x hx=>cu (fun e=>hm (by rw[←e];exact List.mem_append_left _ hx)),D.side.congr fun x hx=>cu (fun e=>hm (by rw[←e];exact List.mem_append_right _ hx)),D.nodup,fun m e=>?_,fun x m e hx=>?_⟩,⟨⟨_,bX _ _ _,rfl,rfl⟩,trivial⟩⟩
 ·rw[cu (fun e=>hm (by rw[←e];simp))] at e;exact D.doc m e
 ·by_cases e1:x=h
  ·subst e1;rw[bX] at e;obtain rfl:=Option.some.inj e;exact⟨rfl,hok,rfl,rfl⟩
  ·rw[cu e1] at e;exact D.elem x m e hx
theorem LB (e:dI g h=0):dN g h=g:=by unfold dN;rw[if_pos e]
theorem LC (h0:h≠0):oL g h 0=0:=by unfold oL;rw[if_neg (Ne.symm h0)]
theorem Deep.joined (D:Deep g root c d ok) {r:List Int} (hp:Line g 0 (l++[p])) (hh:Line g 0 (h::r)) (hn:((l++[p])++h::r).Nodup) (hr:h≠root) (hlim:(l++[p]).length+(h::r).length≤128):
  h≠0∧(g p).isSome∧(g h).isSome∧dI g h=0∧h∉dz g p∧(dz g p).length+gB g h=(l++[p]).length+(h::r).length∧WF 0 (bP g p h 0)∧Line (bP g p h 0) 0 ((l++[p])++h::r)∧
   (∀ m,bP g p h 0 root=some m→m.kind=1∧m.attrs=[]∧m.data=⟨#[]⟩)∧(∀ x m,bP g p h 0 x=some m→x≠root→m.kind=2∧ok m.name∧m.attrs=[]∧m.data=⟨#[]⟩):=by
 have w:=D.wf;obtain⟨mp,ep⟩:=Option.isSome_iff_exists.1 (hp.mem p (by simp));obtain⟨⟨mh,eh,hpa,hk⟩,_⟩:=id hh;have h0:h≠0:=fun e=>by rw[e,w.zero] at eh;cases eh
 have hup:=hp.dz w;have uP:=hh.hgt w;have hnu:h∉dz g p:=by
  rw[hup];intro hm;have hm2:h∈l++[p]:=List.mem_reverse.1 hm;exact (List.nodup_append.1 hn).2.2 h hm2 h (by simp) rfl
 have hlen:(dz g p).length+gB g h=(l++[p]).length+(h::r).length:=by rw[hup,uP,List.length_reverse]
 refine⟨h0,by rw[ep];rfl,by rw[eh];rfl,by rw[aP eh];exact hpa,hnu,hlen,w.link eh hpa ep hnu (by rw[hlen];exact hlim),hp.link hh hn,fun m e=>?_,fun x m e hx=>?_⟩
 ·obtain⟨m0,e0,e1,e2,e3,e4⟩:=xZ e;obtain⟨k1,k2,k3⟩:=D.doc m0 e0;exact⟨by rw[←e2];exact k1,by rw[←e1];exact k2,by rw[←e4];exact k3⟩
 ·obtain⟨m0,e0,e1,e2,e3,e4⟩:=xZ e;obtain⟨k1,k2,k3,k4⟩:=D.elem x m0 e0 hx;exact⟨by rw[←e2];exact k1,by rw[←e3];exact k2,by rw[←e1];exact k3,by rw[←e4];exact k4⟩
theorem Deep.may (D:Deep g root c d ok) (hp:Line g 0 (l++[p])) {m:GN} (eh:g h=some m) (hr:h≠root):gQ g p h=true:=by
 obtain⟨mp,ep⟩:=Option.isSome_iff_exists.1 (hp.mem p (by simp));have hkh:kindOf g h=2:=by rw[iU eh];exact (D.elem h m eh hr).1
 unfold gQ;rw[hkh];by_cases e:p=root
 ·subst e;have hkp:kindOf g p=1:=by rw[iU ep];exact (D.doc mp ep).1
  have hks:aj g p=[]:=by
   have:∀ (l:List Int) (q:Int),Line g q (l++[p])→∃ m,g p=some m∧m.kids=[]:=by
    intro l
    induction l with
    | nil=>rintro q ⟨⟨m,h1,_,h3⟩,_⟩;exact⟨m,h1,h3⟩
    | cons x r ih=>rintro q ⟨_,h4⟩;exact ih x h4
   obtain⟨m,h1,h2⟩:=this l 0 hp;rw[aR h1];exact h2
  have ho:mH g p h=false:=by unfold mH;rw[hks];rfl
  rw[hkp,ho];rfl
 ·have hkp:kindOf g p=2:=by rw[iU ep];exact (D.elem p mp ep e).1
  rw[hkp];rfl
end
end Tr
end
section
open Go.RowKit Go.Shelf
attribute [local go_sem] Oper.semAt_some
theorem IY (B:Nat) (k:Int) (nm dt:ByteArray) (w:World) (h2:k≠2) (h3:k≠3) (h4:k≠4):
  Calls Tryz.prog 46 #[.pointer (some ⟨B,0,none⟩),.int .i64 k,.string nm,.string dt,.slice none 0 0] w fun e w'=>e=.returned (.tuple #[.int .i64 0,.int .i64 1])∧Below w.heap.size w w':=by
 have q2:(k == 2)=false:=by simpa using h2
 have q3:(k == 3)=false:=by simpa using h3
 have q4:(k == 4)=false:=by simpa using h4
 obtain⟨w1,hw1⟩:∃ w1,w.alloc (.cells #[.int .i64 k,.string ⟨#[]⟩,.slice none 0 0,.string ⟨#[]⟩,.int .i64 0,.int .i64 0,.int .i64 0,.int .i64 0,.int .i64 0] 42)=w1:=⟨_,rfl⟩
 have HB:=zh (show Below w.heap.size w w1 by rw[←hw1];exact (Below.refl _ w).alloc (Nat.le_refl _) _);have HW:=zh hw1;clear h2 h3 h4 hw1
 go_enter Tryz.func46,Tryz.ntmps46
 go_wp2_with fail;rw[HW.out];(try go_wp2_with fail);go_ret2;exact⟨rfl,HB.out⟩
theorem xE (B:Nat) (k:Int) (w:World) (h2:k≠2) (h3:k≠3) (h4:k≠4):
  Calls Tryz.prog 35 #[.pointer (some ⟨B,0,none⟩),.int .i64 k] w fun e w'=>e=.returned (.bool true)∧Below w.heap.size w w':=by
 have HM:=zh (IY B k ⟨#[112]⟩ ⟨#[120]⟩ w h2 h3 h4);clear h2 h3 h4
 go_enter Tryz.func35,Tryz.ntmps35
 go_wp2_with fail;refine HM.out.mono ?_;rintro e w2 ⟨rfl,hb⟩;go_wp2_with fail
 go_ret
 exact⟨rfl,hb⟩
theorem MX (base B:Nat) (b s root h:Int) (live n:Nat) (g:Tr.G) (av:Int→Tr.Sl) (fr:List Nat) (vs vf:Value) (w:World) (hm:TV base w B b s vs n (Tr.raw g av) vf fr live root) (hS:Sound b s n (Tr.raw g av) fr live) (hw:Tr.WF 0 g) (hh:lU h) (e1:g h=none):
  Calls Tryz.prog 28 #[.pointer (some ⟨B,0,none⟩),.int .i64 h] w fun e w'=>e=.returned (.int .i64 0)∧Below w.heap.size w w':=by
 have hno:∀ x:{x:Int // x∈Tr.dz g h},False:=fun x=>by have h9:x.1∈([]:List Int):=hw.lV e1▸x.2;cases h9
 have hlt:=hm.lt;refine (callsIn_wide (n:=8)).1 ?_;refine callsIn_of_wp_marks Tryz.func28 rfl trivial ?_ rfl;simp only[Tryz.ntmps28,List.size_toArray,List.length_cons,List.length_nil,Nat.reduceAdd,Nat.reduceSub,Array.replicate_succ,Array.replicate_zero,List.push_toArray,List.append_toArray,List.nil_append,List.cons_append]
 gi_wp2_with fail
 obtain⟨w1,hw1⟩:∃ w1,w.alloc (.cells #[.int .i64 0] 3)=w1:=⟨_,rfl⟩
 have hz1:w1.heap.size=w.heap.size+1:=by rw[←hw1];simp
 have hb1:Below w.heap.size w w1:=eP hw1;have hX1:Whole w1 w.heap.size #[.int .i64 0] 3:=by rw[←hw1];exact Whole.new w _ _
 have hL:=LS.made (h:=h) (hm.below hb1);have hsz2:((w1.alloc (.cells #[.pointer (some ⟨B,0,none⟩)] 29)).alloc (.cells #[.int .i64 h] 3)).heap.size=w1.heap.size+2:=by simp
 have hb2:Below w1.heap.size w1 ((w1.alloc (.cells #[.pointer (some ⟨B,0,none⟩)] 29)).alloc (.cells #[.int .i64 h] 3)):=((Below.refl _ w1).alloc (Nat.le_refl _) _).alloc (by simp) _;have hseq:=IV hS hw hh 7 (by omega) _ hL;have xk:=zh (DZ B h w1);(try rw[hw1]);refine⟨trivial,(callsIn_wide.2 xk.out).mono ?_⟩;rintro e w' ⟨rfl,hw'⟩;rw[←hw'] at hL hsz2 hb2 hseq;have hX2:=hX1.below hb2 hX1.lt;have hB2:=hb1.trans (hb2.mono hb1.size);clear hm hS hX1 hw' hb2 xk e1
 gi_wp2_with fail
 rw[hz1] at hseq hL hsz2;refine wpIn_rangeFunc_ownF (w:=w') rfl (by decide) (gf:=143) (lb:=#[.pointer (some ⟨w.heap.size+1+1,0,none⟩),.pointer (some ⟨w.heap.size+1,0,none⟩)]) rfl trivial (enters_of Tryz.func143 (by kernel_rfl) rfl) hseq LS.qO (LS.rE _) (Below.refl _ _) (fun _=>rfl)
  (fun pre W=>Whole W w.heap.size #[.int .i64 0] 3∧LS base B (w.heap.size+1) (w.heap.size+1+1) b s h vs n (Tr.raw g av) vf fr live root W∧Below w.heap.size w W) (fun _ _ _=>False)
  ?hI ?hIx ⟨hX2,hL,hB2⟩ (fun x=>{ tmps:=#[],defers:=[] }) ?assign ?body ?done ?stop
 case hI=>
  rintro pre W W' row ⟨h1,h2,h3⟩ hg hr;exact⟨bn h1 hg (fun r e=>(hr r e).2),h2.others hg (fun r e=>(hr r e).2),h3.grown hg h3.size (fun r e=>by have:=(hr r e).1;omega)⟩
 case hIx=>intro c pre W W' row h _ _;exact h
 case assign=>intro l x;exact (hno x).elim
 case body=>intro l pre x;exact (hno x).elim
 case done=>
  rintro D xs W hD rfl ⟨hX,mR,hBW⟩ hK;have c0:W.cell? ⟨w.heap.size,0,none⟩=some (.int .i64 0):=hX.cell 0;have HB:=zh (hBW.trans (belowK_b (w:=w) (Nat.le_refl _) W D _ (.deferred none) (by omega) hK rfl rfl));clear hX mR hBW
  gi_wp2_with fail
  refine⟨by simp,.inl ⟨_,_,rfl,run_takeDeferred hK,?_⟩⟩;exact⟨_,results_tmp rfl _ _ _,rfl,HB.out⟩
 case stop=>
  rintro D c pre W _ _ h _;exact h.elim
theorem Db (base B:Nat) (b s root h:Int) (live n:Nat) (g:Tr.G) (av:Int→Tr.Sl) (fr:List Nat) (vs vf:Value) (w:World) (hm:TV base w B b s vs n (Tr.raw g av) vf fr live root) (hS:Sound b s n (Tr.raw g av) fr live) (hw:Tr.WF 0 g) (hh:lU h) (e1:g h=none):
  Calls Tryz.prog 32 #[.pointer (some ⟨B,0,none⟩),.int .i64 h] w fun e w'=>e=.returned (.string ⟨#[]⟩)∧Below w.heap.size w w':=by
 have hno:∀ x:{x:Int // x∈Tr.au g h},False:=fun x=>by have h9:x.1∈([]:List Int):=Tr.lq e1▸x.2;cases h9
 have hlt:=hm.lt;obtain⟨w0,hw0⟩:∃ w0,w.alloc (.cells #[.pointer (some ⟨B,0,none⟩)] 29)=w0:=⟨_,rfl⟩
 have hb0:Below w.heap.size w w0:=eP hw0;have hz0:w0.heap.size=w.heap.size+1:=by rw[←hw0];simp
 have hT0:Whole w0 w.heap.size #[.pointer (some ⟨B,0,none⟩)] 29:=by rw[←hw0];exact Whole.new w _ _
 obtain⟨w1,hw1⟩:∃ w1,w0.alloc (.cells #[.pointer none,.slice none 0 0] 130)=w1:=⟨_,rfl⟩
 have hz1:w1.heap.size=w.heap.size+2:=by rw[←hw1];simp[hz0]
 have TM:Below w0.heap.size w0 w1:=eP hw1;have hb1:=hb0.trans (TM.mono hb0.size);have hT1:=hT0.below TM hT0.lt;have D6:Lib.IsBuilderF 130 5 w0.heap.size w0.heap.size [] w1:=by
  have:=Lib.IsBuilderF.of (Lib.fresh_isBuilder 130 5 w0);rw[hw1] at this;exact this
 rw[hz0] at D6;have hL:=LS.made (h:=h) (hm.below hb1);have hsz2:((w1.alloc (.cells #[.pointer (some ⟨B,0,none⟩)] 29)).alloc (.cells #[.int .i64 h] 3)).heap.size=w1.heap.size+2:=by simp
 have hb2:Below w1.heap.size w1 ((w1.alloc (.cells #[.pointer (some ⟨B,0,none⟩)] 29)).alloc (.cells #[.int .i64 h] 3)):=((Below.refl _ w1).alloc (Nat.le_refl _) _).alloc (by simp) _;have hseq:=rD hS hw hh 7 (by omega) _ hL;have xk:=zh (oW B h w1);have t1:w1.cell? ⟨w.heap.size,0,none⟩=some (.pointer (some ⟨B,0,none⟩)):=hT1.cell 0;have HZ:=zh (And.intro hw0 (And.intro hw1 (And.intro hz0 hz1)));have HBL:=zh (And.intro hb1 (And.intro hb2 (And.intro D6 (And.intro hL hseq))));have WY:=zh hsz2;clear hw0 hw1 hz0 hz1 hb1 hb2 hb0 TM D6 hL hseq hsz2 hm hS hlt hT0 hT1 e1;refine (callsIn_wide (n:=8)).1 ?_;refine callsIn_of_wp_marks Tryz.func32 rfl trivial ?_ rfl;simp only[Tryz.ntmps32,List.size_toArray,List.length_cons,List.length_nil,Nat.reduceAdd,Nat.reduceSub,Array.replicate_succ,Array.replicate_zero,List.push_toArray,List.append_toArray,List.nil_append,List.cons_append]
 gi_wp2_with fail
 (try rw[HZ.out.1]);(try rw[HZ.out.2.1]);(try gi_wp2_with fail);refine⟨trivial,(callsIn_wide.2 xk.out).mono ?_⟩;rintro e w' ⟨rfl,hw'⟩;obtain⟨hb1,hb2,D6,hL,hseq⟩:=HBL.out;have hsz2:=WY.out;rw[←hw'] at hL hsz2 hb2 hseq;obtain⟨-,-,hz0,hz1⟩:=HZ.out;have aax:=uy D6 hb2;have hB2:=hb1.trans (hb2.mono hb1.size);have HW0:=zh hz0;clear hw' hb2 xk D6 hz0 HZ HBL WY t1
 gi_wp2_with fail
 rw[hz1] at hseq hL hsz2;refine wpIn_rangeFunc_ownF (w:=w') rfl (by decide) (gf:=87) (lb:=#[.pointer (some ⟨w.heap.size+2,0,none⟩),.pointer (some ⟨w.heap.size+2+1,0,none⟩)]) rfl trivial (enters_of Tryz.func87 (by kernel_rfl) rfl) hseq LS.qO (LS.rE _) (Below.refl _ _) (fun _=>rfl)
  (fun pre W=>Lib.IsBuilderF 130 5 (w.heap.size+1) (w.heap.size+1) [] W∧LS base B (w.heap.size+2) (w.heap.size+2+1) b s h vs n (Tr.raw g av) vf fr live root W∧Below w.heap.size w W) (fun _ _ _=>False)
  ?hI ?hIx ⟨aax,hL,hB2⟩ (fun x=>{ tmps:=#[],defers:=[] }) ?assign ?body ?done ?stop
 case hI=>
  rintro pre W W' row ⟨h1,h2,h3⟩ hg hr;exact⟨vU h1 hg (fun r e=>(hr r e).2),h2.others hg (fun r e=>(hr r e).2),h3.grown hg h3.size (fun r e=>by have:=(hr r e).1;omega)⟩
 case hIx=>intro c pre W W' row h _ _;exact h
 case assign=>intro l x;exact (hno x).elim
 case body=>intro l pre x;exact (hno x).elim
 case done=>
  rintro D xs W hD rfl ⟨h1,mR,hBW⟩ hK;have hK1:∀ W',Lib.OthersKept 5 (some (w.heap.size+1)) W W'→W'.heap[D]?=some (.deferred (some [])):=fun W' h=>qU h hK h1;have hW2:(w.heap.size+1)<W.heap.size:=uO h1;clear mR
  gi_wp2_with fail
  refine⟨trivial,(callsIn_wide.2 (Tryz.uq (w.heap.size+1) (w.heap.size+1) [] W h1 (by omega))).mono ?_⟩;rintro e w5 ⟨rfl,hb5,zZ,hk5⟩
  gi_wp2_with fail
  refine⟨by simp,.inl ⟨_,_,rfl,run_takeDeferred (hK1 _ hk5),?_⟩⟩;refine⟨_,results_tmp rfl _ _ _,rfl,?_⟩;exact (hBW.trans (zZ.mono (by omega))).trans (belowK_b (w:=w) (Nat.le_refl _) _ D _ _ (by omega) (hK1 _ hk5) rfl rfl)
 case stop=>
  rintro D c pre W _ _ h _;exact h.elim
end
end Go.Proofs.YtnbaadpgbcklaaaGreatDoor
