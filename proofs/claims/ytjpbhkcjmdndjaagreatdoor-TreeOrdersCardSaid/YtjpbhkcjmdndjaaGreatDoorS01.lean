/- Part of a proof about trees. -/
import Derived.Deep.DrawnRows
import Derived.Deep.RegionHeld3
import Derived.Deep.RegionWith
import Derived.Lib.FrozenHead
import Derived.Lib.MinMax
import Derived.Lib.OthersKept
import Derived.Lib.SliceRun
import Derived.LoopIn
import Derived.LoopNIn
import Derived.Outline
import Derived.OwnWalkIn
import Derived.RangeFuncBound
import Derived.RangeFuncBox
import Derived.RangeFuncCalls
import Derived.RangeFuncLeaves
import Derived.RangeFuncNested
import Derived.Shelf.Abstract
import Derived.Shelf.RegionOpen
import Derived.Sort.CutIn
import Derived.Sort.QuietIn
import Derived.Stop.RegionWithIn
import Derived.TacticsInMore
import Derived.WalkKit
import Derived.Test.YtjpbhkcjmdndjaaGreatDoorGNDrp
import Derived.Test.YtjpbhkcjmdndjaaGreatDoorGNTrw
import Derived.Test.YtjpbhkcjmdndjaaGreatDoorGShBld
import Derived.Test.YtjpbhkcjmdndjaaGreatDoorGShCon
import Derived.Test.YtjpbhkcjmdndjaaGreatDoorGShLen
import Derived.Test.YtjpbhkcjmdndjaaGreatDoorGShVal
set_option linter.unusedVariables false
set_option linter.unusedSimpArgs false
set_option linter.unusedSectionVars false
set_option maxHeartbeats 4000000
set_option maxRecDepth 100000
namespace Go.Proofs.YtjpbhkcjmdndjaaGreatDoor
section
open Go.RowKit
def NP (w:World) (g o:Nat) (d:Tr.Nd):Prop:=∀ j,j<9→w.cell? ⟨g,o+j,none⟩=(TP d)[j]?∧w.frozen? ⟨g,o+j,none⟩=false
section
variable {w w':World} {g o:Nat} {d:Tr.Nd}
theorem NP.cells (h:NP w g o d):w.cell? ⟨g,o,none⟩=some (.int .i64 d.kind)∧w.cell? ⟨g,o+1,none⟩=some (.string d.name)∧w.cell? ⟨g,o+2,none⟩=some (.slice d.av.a d.av.n d.av.c)∧w.cell? ⟨g,o+3,none⟩=some (.string d.data)∧w.cell? ⟨g,o+4,none⟩=some (.int .i64 d.pa)∧
  w.cell? ⟨g,o+5,none⟩=some (.int .i64 d.fi)∧w.cell? ⟨g,o+6,none⟩=some (.int .i64 d.la)∧w.cell? ⟨g,o+7,none⟩=some (.int .i64 d.pr)∧w.cell? ⟨g,o+8,none⟩=some (.int .i64 d.ne):=
 ⟨(h 0 (by omega)).1,(h 1 (by omega)).1,(h 2 (by omega)).1,(h 3 (by omega)).1,(h 4 (by omega)).1,(h 5 (by omega)).1,(h 6 (by omega)).1,(h 7 (by omega)).1,(h 8 (by omega)).1⟩
theorem NP.below (h:NP w g o d) (hb:Below w.heap.size w w'):NP w' g o d:=fun j hj=>by
 obtain⟨h1,h2⟩:=h j hj;have hlt:g<w.heap.size:=World.block_lt_of_cell? w _ h.cells.1;exact⟨(hb.cell (p:=⟨g,o+j,none⟩) hlt).trans h1,(hb.frozen (p:=⟨g,o+j,none⟩) hlt).trans h2⟩
theorem NP.of_whole {T:TypeId} (h:Whole w g (TP d) T):NP w g 0 d:=fun j _=>by
 rw[Nat.zero_add];exact⟨h.cell j,h.free j⟩
end
def PtrTo (b s:Int) (vs:Value) (n g o:Nat) (h:Int):Prop:=∃ i c:Nat,i<n∧n≤100000∧Ar.hdl b s (i:Int)=h∧o=i*10+1∧vs=.slice (some ⟨g,0,none⟩) n c
section
variable {base B n live g o:Nat} {w:World} {b s root h:Int} {vs vf:Value} {R:Int→Option Tr.Nd} {fr:List Nat} {d d':Tr.Nd}
theorem TV.np (hM:TV base w B b s vs n R vf fr live root) (hp:PtrTo b s vs n g o h) (hd:R h=some d):NP w g o d:=by
 obtain⟨i,c,h1,h2,h3,rfl,rfl⟩:=hp;obtain⟨g',e,_,_,hc⟩:=hM.slot (by omega);obtain rfl:g=g':=by injection e with e;injection e
 intro j hj;have:=hc i (j+1) h1 (by omega);rw[h3,hd,RG,show DL (true,d)=.bool true::(TP d).toList from rfl,List.getElem?_cons_succ,Array.getElem?_toList] at this;rw[Nat.add_assoc,Nat.add_comm 1 j];exact this
theorem TV.mQ {j:Nat} {v:Value} (hM:TV base w B b s vs n R vf fr live root) (hp:PtrTo b s vs n g o h) (hd:R h=some d) (f:Tr.Nd→Tr.Nd) (hf:f d=d') (hj:j<9) (hv:DL (true,d')=(DL (true,d)).set (j+1) v):
  TV base (w.setCell ⟨g,o+j,none⟩ v) B b s vs n (Tr.upd R h f) vf fr live root∧aB w (w.setCell ⟨g,o+j,none⟩ v) (aD B vs vf) (aD B vs vf):=by
 obtain⟨i,c,h1,h2,h3,rfl,rfl⟩:=hp;rw[←h3] at hd;have:=hM.Mx h1 h2 (by omega:j+1<10) hd f hf hv;rw[h3] at this;rw[Nat.add_assoc,Nat.add_comm 1 j];exact this
theorem Sound.upd {f:Tr.Nd→Tr.Nd} (hS:Sound b s n R fr live):Sound b s n (Tr.upd R h f) fr live:=by
 have key:∀ x,(Tr.upd R h f x).isSome=(R x).isSome:=fun x=>by
  unfold Tr.upd
  split
  ·rename_i e;rw[e];cases R h<;>rfl
  ·rfl
 refine⟨fun x hx=>hS.dom x (by rw[←key];exact hx),hS.nodup,fun i hi=>⟨(hS.free i hi).1,?_⟩,hS.count,hS.le⟩;have:=key (Ar.hdl b s (i:Int));rw[(hS.free i hi).2] at this;exact Option.not_isSome_iff_eq_none.1 (by rw[this];simp)
end
theorem gW (base B:Nat) (b s root h:Int) (live n:Nat) (R:Int→Option Tr.Nd) (fr:List Nat) (vs vf:Value) (d:Tr.Nd) (w:World) (hm:TV base w B b s vs n R vf fr live root) (hS:Sound b s n R fr live) (hd:R h=some d):
  Calls Tryz.prog 43 #[.pointer (some ⟨B,0,none⟩),.int .i64 h] w fun e w'=>∃ g o,e=.returned (.pointer (some ⟨g,o,none⟩))∧PtrTo b s vs n g o h∧Below w.heap.size w w':=by
 have hh:=(bN hS (h:=h) (by rw[hd];rfl)).1;obtain⟨A,c,A',c',rfl,rfl⟩:=hm.slices;rcases nP (h:=h) hS with ⟨i,d',e1,e2,e3,e4⟩ | ⟨e1,_⟩
 rotate_left
 ·rw[hd] at e1;cases e1
 obtain⟨g,rfl,hgB,hgl,_⟩:=hm.slot (by omega);have hpt:nodeAt b s (.slice (some ⟨g,0,none⟩) n c) R h=some ⟨g,i*10+1,none⟩:=by
  have:Ar.idx b s h=i:=by unfold rP at e2;rw[e1] at e2;exact e2
  unfold nodeAt;rw[e1,this];rfl
 have hle:=hS.le
 go_enter Tryz.func43,Tryz.ntmps43
 go_wp2_with fail;refine (tq base B b s root h live n R fr _ _ w hm hS hh).mono ?_;rintro e w2 ⟨rfl,hb2⟩;rw[hpt];have HE:=zh e4;clear e1 e2 e4 hpt hS hm hd;go_wp2_with fail
 go_ret
 exact⟨g,_,rfl,⟨i,c,e3,hle,HE.out,rfl,rfl⟩,hb2⟩
theorem jW (base B:Nat) (b s root h:Int) (live n:Nat) (R:Int→Option Tr.Nd) (fr:List Nat) (vs vf:Value) (w:World) (hm:TV base w B b s vs n R vf fr live root) (hS:Sound b s n R fr live) (hh:kM h):
  Calls Tryz.prog 43 #[.pointer (some ⟨B,0,none⟩),.int .i64 h] w fun e w'=>∃ g o,e=.returned (.pointer (some ⟨g,o,none⟩))∧NP w' g o ((R h).getD Tr.Bl)∧Below w.heap.size w w':=by
 cases hd:R h with
 | some d=>
  refine (gW base B b s root h live n R fr vs vf d w hm hS hd).mono ?_;rintro e w' ⟨g,o,rfl,hp,hb⟩;exact⟨g,o,rfl,(hm.below hb).np hp hd,hb⟩
 | none=>
  obtain⟨A,c,A',c',rfl,rfl⟩:=hm.slices;have hpt:nodeAt b s (.slice A n c) R h=none:=by unfold nodeAt;rw[hd]
  go_enter Tryz.func43,Tryz.ntmps43
  go_wp2_with fail;refine (tq base B b s root h live n R fr _ _ w hm hS hh).mono ?_;rintro e w2 ⟨rfl,hb2⟩;rw[hpt];clear hpt hS hm hd;have hb3:=hb2.alloc hb2.size (.cells (TP Tr.Bl) 97);have hY:=Whole.new w2 (TP Tr.Bl) 97;go_wp2_with fail
  go_ret
  exact⟨_,0,rfl,NP.of_whole hY,hb3⟩
theorem wC (base B:Nat) (b s root h:Int) (live n:Nat) (R:Int→Option Tr.Nd) (fr:List Nat) (vs vf:Value) (w:World) (hm:TV base w B b s vs n R vf fr live root) (hS:Sound b s n R fr live) (hh:kM h):
  Calls Tryz.prog 41 #[.pointer (some ⟨B,0,none⟩),.int .i64 h] w fun e w'=>e=.returned (.bool (R h).isSome)∧Below w.heap.size w w':=by
 obtain⟨A,c,A',c',rfl,rfl⟩:=hm.slices;rcases nP (h:=h) hS with ⟨i,d',e1,e2,e3,e4⟩ | ⟨e1,_⟩
 ·obtain⟨g,rfl,hgB,hgl,_⟩:=hm.slot (by omega);have hpt:nodeAt b s (.slice (some ⟨g,0,none⟩) n c) R h=some ⟨g,i*10+1,none⟩:=by
   have:Ar.idx b s h=i:=by unfold rP at e2;rw[e1] at e2;exact e2
   unfold nodeAt;rw[e1,this];rfl
  rw[e1]
  go_enter Tryz.func41,Tryz.ntmps41
  go_wp2_with fail;refine (tq base B b s root h live n R fr _ _ w hm hS hh).mono ?_;rintro e w2 ⟨rfl,hb2⟩;rw[hpt];clear hpt hS hm e1 e2 e4;go_wp2_with fail
  go_ret
  exact⟨rfl,hb2⟩
 ·have hpt:nodeAt b s (.slice A n c) R h=none:=by unfold nodeAt;rw[e1]
  rw[e1]
  go_enter Tryz.func41,Tryz.ntmps41
  go_wp2_with fail;refine (tq base B b s root h live n R fr _ _ w hm hS hh).mono ?_;rintro e w2 ⟨rfl,hb2⟩;rw[hpt];clear hpt hS hm e1;go_wp2_with fail
  go_ret
  exact⟨rfl,hb2⟩
def AA (b s:Int) (vs:Value) (n g y:Nat) (p c:Int):Prop:=∃ o,(c=0∧PtrTo b s vs n g o p∧y=o+5)∨(c≠0∧PtrTo b s vs n g o c∧y=o+8)
def G5 (b s:Int) (vs:Value) (n g y:Nat) (p c:Int):Prop:=∃ o,(c=0∧PtrTo b s vs n g o p∧y=o+6)∨(c≠0∧PtrTo b s vs n g o c∧y=o+7)
def jG (R:Int→Option Tr.Nd) (p c v:Int):Int→Option Tr.Nd:=if c=0 then Tr.upd R p fun n=>{ n with fi:=v } else Tr.upd R c fun n=>{ n with ne:=v }
def qU (R:Int→Option Tr.Nd) (p c v:Int):Int→Option Tr.Nd:=if c=0 then Tr.upd R p fun n=>{ n with la:=v } else Tr.upd R c fun n=>{ n with pr:=v }
section
variable {base B n live g y:Nat} {w:World} {b s root p c:Int} {vs vf:Value} {R:Int→Option Tr.Nd} {fr:List Nat} {dp dc:Tr.Nd}
theorem AA.cell (h:AA b s vs n g y p c) (hM:TV base w B b s vs n R vf fr live root) (hp:R p=some dp) (hc:c≠0→R c=some dc):
  w.cell? ⟨g,y,none⟩=some (.int .i64 (if c=0 then dp.fi else dc.ne))∧w.frozen? ⟨g,y,none⟩=false:=by
 obtain⟨o,⟨h1,h2,rfl⟩ | ⟨h1,h2,rfl⟩⟩:=h
 ·rw[if_pos h1];exact hM.np h2 hp 5 (by omega)
 ·rw[if_neg h1];exact hM.np h2 (hc h1) 8 (by omega)
theorem G5.cell (h:G5 b s vs n g y p c) (hM:TV base w B b s vs n R vf fr live root) (hp:R p=some dp) (hc:c≠0→R c=some dc):
  w.cell? ⟨g,y,none⟩=some (.int .i64 (if c=0 then dp.la else dc.pr))∧w.frozen? ⟨g,y,none⟩=false:=by
 obtain⟨o,⟨h1,h2,rfl⟩ | ⟨h1,h2,rfl⟩⟩:=h
 ·rw[if_pos h1];exact hM.np h2 hp 6 (by omega)
 ·rw[if_neg h1];exact hM.np h2 (hc h1) 7 (by omega)
theorem AA.put (h:AA b s vs n g y p c) (hM:TV base w B b s vs n R vf fr live root) (hp:R p=some dp) (hc:c≠0→R c=some dc) (v:Int):
  TV base (w.setCell ⟨g,y,none⟩ (.int .i64 v)) B b s vs n (jG R p c v) vf fr live root∧aB w (w.setCell ⟨g,y,none⟩ (.int .i64 v)) (aD B vs vf) (aD B vs vf):=by
 obtain⟨o,⟨h1,h2,rfl⟩ | ⟨h1,h2,rfl⟩⟩:=h
 ·unfold jG;rw[if_pos h1];exact hM.mQ h2 hp _ rfl (by omega) rfl
 ·unfold jG;rw[if_neg h1];exact hM.mQ h2 (hc h1) _ rfl (by omega) rfl
theorem G5.put (h:G5 b s vs n g y p c) (hM:TV base w B b s vs n R vf fr live root) (hp:R p=some dp) (hc:c≠0→R c=some dc) (v:Int):
  TV base (w.setCell ⟨g,y,none⟩ (.int .i64 v)) B b s vs n (qU R p c v) vf fr live root∧aB w (w.setCell ⟨g,y,none⟩ (.int .i64 v)) (aD B vs vf) (aD B vs vf):=by
 obtain⟨o,⟨h1,h2,rfl⟩ | ⟨h1,h2,rfl⟩⟩:=h
 ·unfold qU;rw[if_pos h1];exact hM.mQ h2 hp _ rfl (by omega) rfl
 ·unfold qU;rw[if_neg h1];exact hM.mQ h2 (hc h1) _ rfl (by omega) rfl
end
theorem Dc (base B:Nat) (b s root p c:Int) (live n:Nat) (R:Int→Option Tr.Nd) (fr:List Nat) (vs vf:Value) (dp dc:Tr.Nd) (w:World) (hm:TV base w B b s vs n R vf fr live root) (hS:Sound b s n R fr live) (hp:R p=some dp) (hc:c≠0→R c=some dc):
  Calls Tryz.prog 96 #[.pointer (some ⟨B,0,none⟩),.int .i64 p,.int .i64 c] w fun e w'=>∃ g y,e=.returned (.pointer (some ⟨g,y,none⟩))∧AA b s vs n g y p c∧Below w.heap.size w w':=by
 by_cases h0:c=0
 ·go_enter Tryz.func96,Tryz.ntmps96
  go_wp2_with fail;refine (gW base B b s root p live n R fr vs vf dp w hm hS hp).mono ?_;rintro e w2 ⟨g,o,rfl,hpt,hb2⟩;have HP:=zh hpt;clear hpt hm hS hp hc;go_wp2_with fail
  go_ret
  exact⟨g,o+5,rfl,⟨o,.inl ⟨h0,HP.out,rfl⟩⟩,hb2⟩
 ·go_enter Tryz.func96,Tryz.ntmps96
  go_wp2_with fail;refine (gW base B b s root c live n R fr vs vf dc w hm hS (hc h0)).mono ?_;rintro e w2 ⟨g,o,rfl,hpt,hb2⟩;have HP:=zh hpt;clear hpt hm hS hp hc;go_wp2_with fail
  go_ret
  exact⟨g,o+8,rfl,⟨o,.inr ⟨h0,HP.out,rfl⟩⟩,hb2⟩
theorem AJ (base B:Nat) (b s root p c:Int) (live n:Nat) (R:Int→Option Tr.Nd) (fr:List Nat) (vs vf:Value) (dp dc:Tr.Nd) (w:World) (hm:TV base w B b s vs n R vf fr live root) (hS:Sound b s n R fr live) (hp:R p=some dp) (hc:c≠0→R c=some dc):
  Calls Tryz.prog 97 #[.pointer (some ⟨B,0,none⟩),.int .i64 p,.int .i64 c] w fun e w'=>∃ g y,e=.returned (.pointer (some ⟨g,y,none⟩))∧G5 b s vs n g y p c∧Below w.heap.size w w':=by
 by_cases h0:c=0
 ·go_enter Tryz.func97,Tryz.ntmps97
  go_wp2_with fail;refine (gW base B b s root p live n R fr vs vf dp w hm hS hp).mono ?_;rintro e w2 ⟨g,o,rfl,hpt,hb2⟩;have HP:=zh hpt;clear hpt hm hS hp hc;go_wp2_with fail
  go_ret
  exact⟨g,o+6,rfl,⟨o,.inl ⟨h0,HP.out,rfl⟩⟩,hb2⟩
 ·go_enter Tryz.func97,Tryz.ntmps97
  go_wp2_with fail;refine (gW base B b s root c live n R fr vs vf dc w hm hS (hc h0)).mono ?_;rintro e w2 ⟨g,o,rfl,hpt,hb2⟩;have HP:=zh hpt;clear hpt hm hS hp hc;go_wp2_with fail
  go_ret
  exact⟨g,o+7,rfl,⟨o,.inr ⟨h0,HP.out,rfl⟩⟩,hb2⟩
end
section
open Go.RowKit
theorem AO {R:Int→Option Tr.Nd} {h x:Int} {f:Tr.Nd→Tr.Nd} (hx:(R x).isSome):∃ d,Tr.upd R h f x=some d:=by
 unfold Tr.upd
 split
 ·rename_i e;rw[e] at hx;obtain⟨d,hd⟩:=Option.isSome_iff_exists.1 hx;exact⟨f d,by rw[hd];rfl⟩
 ·exact Option.isSome_iff_exists.1 hx
theorem za {R:Int→Option Tr.Nd} {h:Int} {f k:Tr.Nd→Tr.Nd}:Tr.upd (Tr.upd R h f) h k=Tr.upd R h (fun n=>k (f n)):=by
 funext x;by_cases e:x=h
 ·subst e;rw[Tr.upd_same,Tr.upd_same,Tr.upd_same];cases R x<;>rfl
 ·rw[Tr.upd_ne e,Tr.upd_ne e,Tr.upd_ne e]
theorem l6 {R:Int→Option Tr.Nd} {p c v x:Int} (hx:(R x).isSome):∃ d,jG R p c v x=some d:=by
 unfold jG;split
 ·exact AO hx
 ·exact AO hx
theorem Sound.forth {b s:Int} {n live:Nat} {R:Int→Option Tr.Nd} {fr:List Nat} {p c v:Int} (hS:Sound b s n R fr live):Sound b s n (jG R p c v) fr live:=by
 unfold jG;split
 ·exact hS.upd
 ·exact hS.upd
theorem Sound.back {b s:Int} {n live:Nat} {R:Int→Option Tr.Nd} {fr:List Nat} {p c v:Int} (hS:Sound b s n R fr live):Sound b s n (qU R p c v) fr live:=by
 unfold qU;split
 ·exact hS.upd
 ·exact hS.upd
theorem G6 (R:Int→Option Tr.Nd) (p h c pv:Int):Tr.qh R p h c pv=qU (jG (Tr.upd R h fun n=>{ n with pa:=p,pr:=pv,ne:=c }) p pv h) p c h:=by
 unfold Tr.qh qU jG;rfl
theorem Sound.linked {b s:Int} {n live:Nat} {R:Int→Option Tr.Nd} {fr:List Nat} {p h c pv:Int} (hS:Sound b s n R fr live):Sound b s n (Tr.qh R p h c pv) fr live:=by
 rw[G6];exact hS.upd.forth.back
theorem Pv (base B:Nat) (b s root p h c:Int) (live n:Nat) (R:Int→Option Tr.Nd) (fr:List Nat) (vs vf:Value) (dp dh dc dv:Tr.Nd) (pv:Int) (w:World) (hm:TV base w B b s vs n R vf fr live root) (hS:Sound b s n R fr live)
  (hp:R p=some dp) (hh:R h=some dh) (hc:c≠0→R c=some dc) (hpv:pv=if c=0 then dp.la else dc.pr) (hv:pv≠0→R pv=some dv) (h1:h≠p) (h2:c≠0→h≠c) (h3:pv≠0→h≠pv):
  Calls Tryz.prog 57 #[.pointer (some ⟨B,0,none⟩),.int .i64 p,.int .i64 h,.int .i64 c] w fun e w'=>(∃ u,e=.returned u)∧TV base w' B b s vs n (Tr.qh R p h c pv) vf fr live root∧aB w w' (aD B vs vf) (aD B vs vf):=by
 rw[G6];obtain⟨R1,Ec⟩:=eX ((Tr.upd R h fun n=>{ n with pa:=p,pr:=pv,ne:=c }))
 have FK:R1 h=some { dh with pa:=p,pr:=pv,ne:=c }:=by rw[←Ec];exact Tr.lF hh
 have FL:R1 p=some dp:=by rw[←Ec,Tr.upd_ne h1.symm];exact hp
 have e1c:c≠0→R1 c=some dc:=fun e=>by rw[←Ec,Tr.upd_ne (h2 e).symm];exact hc e
 have e1v:pv≠0→R1 pv=some dv:=fun e=>by rw[←Ec,Tr.upd_ne (h3 e).symm];exact hv e
 have hS1:Sound b s n R1 fr live:=by rw[←Ec];exact hS.upd
 obtain⟨R2,hR2⟩:=eX (jG R1 p pv h)
 have hS2:Sound b s n R2 fr live:=by rw[←hR2];exact hS1.forth
 have NI:R2 h=some { dh with pa:=p,pr:=pv,ne:=c }:=by
  rw[←hR2];unfold jG;split
  ·rw[Tr.upd_ne h1];exact FK
  ·rename_i e;rw[Tr.upd_ne (h3 e)];exact FK
 obtain⟨d2p,e2p⟩:∃ d,R2 p=some d:=by rw[←hR2];exact l6 (by rw[FL];rfl)
 have Ux:c≠0→∃ d,R2 c=some d:=fun e=>by rw[←hR2];exact l6 (by rw[e1c e];rfl)
 obtain⟨d2c,Vw⟩:∃ d,c≠0→R2 c=some d:=by
  by_cases e:c=0
  ·exact⟨Tr.Bl,fun x=>absurd e x⟩
  ·obtain⟨d,hd⟩:=Ux e;exact⟨d,fun _=>hd⟩
 rw[Ec,hR2]
 go_enter Tryz.func57,Tryz.ntmps57
 go_wp2_with fail;refine (gW base B b s root h live n R fr vs vf dh w hm hS hh).mono ?_;rintro e w1 ⟨g,o,rfl,hpt,hb1⟩;have hm1:=hm.below hb1;go_wp2_with fail;refine (AJ base B b s root p c live n R fr vs vf dp dc w1 hm1 hS hp hc).mono ?_;rintro e w2 ⟨g2,y,rfl,hbp,hb2⟩;have hm2:=hm1.below hb2;have eU:=hb1.trans (hb2.mono hb1.size);obtain⟨k1,_⟩:=hbp.cell hm2 hp hc;rw[←hpv] at k1;have hnp:=hm2.np hpt hh;obtain⟨_,_,_,_,t4,_,_,t7,t8⟩:=hnp.cells;have f4:=(hnp 4 (by omega)).2;have f7:=(hnp 7 (by omega)).2;have f8:=(hnp 8 (by omega)).2;obtain⟨w3,hw3⟩:=eX ((((w2.setCell ⟨g,o+4,none⟩ (.int .i64 p)).setCell ⟨g,o+7,none⟩ (.int .i64 pv)).setCell ⟨g,o+8,none⟩ (.int .i64 c)))
 have IG:TV base w3 B b s vs n R1 vf fr live root∧aB w2 w3 (aD B vs vf) (aD B vs vf):=by
  obtain⟨a1,s1⟩:=hm2.mQ (j:=4) (v:=.int .i64 p) hpt hh (fun n=>{ n with pa:=p }) rfl (by omega) rfl;obtain⟨a2,s2⟩:=a1.mQ (j:=7) (v:=.int .i64 pv) hpt (Tr.lF hh) (fun n=>{ n with pr:=pv }) rfl (by omega) rfl;obtain⟨a3,s3⟩:=a2.mQ (j:=8) (v:=.int .i64 c) hpt (Tr.lF (Tr.lF hh)) (fun n=>{ n with ne:=c }) rfl (by omega) rfl;rw[za,za] at a3;rw[←hw3,←Ec];exact⟨a3,(s1.trans s2).trans s3⟩
 obtain⟨IG,fK⟩:=IG;have hn3:=IG.np hpt FK;obtain⟨_,_,_,_,_,_,_,q7,q8⟩:=hn3.cells;clear hm hm1 hm2 hnp hn3 Ec hpv;go_wp2_with fail;(try rw[hw3]);go_wp2_with fail;refine (Dc base B b s root p pv live n R1 fr vs vf dp dv w3 IG hS1 FL e1v).mono ?_;rintro e w4 ⟨g4,y4,rfl,hfp,hb4⟩;have mJ:=IG.below hb4;obtain⟨k4,z4⟩:=hfp.cell mJ FL e1v;obtain⟨Pw,st5⟩:=hfp.put mJ FL e1v h;rw[hR2] at Pw;obtain⟨w5,fT⟩:=eX (w4.setCell ⟨g4,y4,none⟩ (.int .i64 h))
 rw[fT] at Pw st5;obtain⟨_,_,_,_,_,_,_,_,v8⟩:=(Pw.np hpt NI).cells;clear q7 q8 IG mJ;go_wp2_with fail;(try rw[fT]);go_wp2_with fail;refine (AJ base B b s root p c live n R2 fr vs vf d2p d2c w5 Pw hS2 e2p Vw).mono ?_;rintro e w6 ⟨g6,y6,rfl,YI,hb6⟩;have xX:=Pw.below hb6;obtain⟨k6,z6⟩:=YI.cell xX e2p Vw;obtain⟨qW,yJ⟩:=YI.put xX e2p Vw h;have HM:=zh qW;have HS:=zh ((aB.of_below eU).trans (fK.trans ((aB.of_below hb4).trans (st5.trans ((aB.of_below hb6).trans yJ)))));clear Pw xX qW fK st5 yJ hw3 fT v8;go_wp2_with fail
 go_end0
 exact⟨⟨_,rfl⟩,HM.out,HS.out⟩
end
section
section
open Go.RowKit
namespace Tr
def eF (g:G) (h:Int):Int:=match g h with | none => -1 | some n=>if n.pa=0 then -1 else ((au g n.pa).idxOf h:Nat)
structure Rec where
 kind:Int
 target:Int
 node:Int
 prev:Int
 next:Int
 index:Int
 name:ByteArray
 old:ByteArray
 had:Bool
 count:Int
 size:Int
def jO (g:G) (kind h:Int):Rec:=⟨kind,dG g h,h,prv (au g (dG g h)) h,nK (au g (dG g h)) h,eF g h,⟨#[]⟩,⟨#[]⟩,false,0,0⟩
theorem dX {l1 l2:List Int} {x:Int} (h:x∉l1):(l1++x::l2).idxOf x=l1.length:=by
 rw[List.idxOf_append,if_neg h];simp
end Tr
abbrev rcV (r:Tr.Rec):Value:=.agg #[.int .i64 r.kind,.int .i64 r.target,.int .i64 r.node,.int .i64 r.prev,.int .i64 r.next,.int .i64 r.index,.string r.name,.string r.old,.bool r.had,.int .i64 r.count,.int .i64 r.size]
def UD (r:Tr.Rec):List Value:=[.int .i64 r.kind,.int .i64 r.target,.int .i64 r.node,.int .i64 r.prev,.int .i64 r.next,.int .i64 r.index,.string r.name,.string r.old,.bool r.had,.int .i64 r.count,.int .i64 r.size]
def gY (l:List Tr.Rec):List Value:=l.flatMap UD
def bH (base:Nat) (w:World) (v:Value) (l:List Tr.Rec):Prop:=w.ownsRow base 68 11 v l.length (gY l)
theorem bH.nil (base:Nat) (w:World):bH base w (.slice none 0 0) []:=World.ownsRow_nil _ _ _ _
theorem aM {g:Tr.G} {av:Int→Tr.Sl} {h:Int}:(Tr.raw g av h).isSome=(g h).isSome:=by
 unfold Tr.raw;cases g h<;>rfl
theorem xD (base B:Nat) (b s root h:Int) (live n:Nat) (g:Tr.G) (av:Int→Tr.Sl) (fr:List Nat) (vs vf:Value) (w:World) (hm:TV base w B b s vs n (Tr.raw g av) vf fr live root) (hS:Sound b s n (Tr.raw g av) fr live) (hw:Tr.WF 0 g) (hh:kM h):
  Calls Tryz.prog 38 #[.pointer (some ⟨B,0,none⟩),.int .i64 h] w fun e w'=>e=.returned (.int .i64 (Tr.eF g h))∧Below w.heap.size w w':=by
 cases eg:g h with
 | none=>
  have hr:Tr.eF g h = -1:=by unfold Tr.eF;rw[eg]
  go_enter Tryz.func38,Tryz.ntmps38
  go_wp2_with fail;refine (jW base B b s root h live n _ fr vs vf w hm hS hh).mono ?_;rintro e w2 ⟨gb,o,rfl,hnp,hb2⟩;rw[Tr.bG eg] at hnp;obtain⟨_,_,_,_,t4,_⟩:=hnp.cells;have HR:=zh hr;clear hm hS hnp hr eg;go_wp2_with fail
  go_ret
  exact⟨kD HR.out.symm,hb2⟩
 | some nd=>
  by_cases hp:nd.pa=0
  ·have hr:Tr.eF g h = -1:=by unfold Tr.eF;rw[eg];simp[hp]
   go_enter Tryz.func38,Tryz.ntmps38
   go_wp2_with fail;refine (jW base B b s root h live n _ fr vs vf w hm hS hh).mono ?_;rintro e w2 ⟨gb,o,rfl,hnp,hb2⟩;rw[Tr.aj eg] at hnp;obtain⟨_,_,_,_,t4,_⟩:=hnp.cells;have t4':w2.cell? ⟨gb,o+4,none⟩=some (.int .i64 0):=by rw[t4];show some (Value.int .i64 nd.pa)=_;rw[hp]
   have HR:=zh hr;clear hm hS hnp hr eg t4 hp;go_wp2_with fail
   go_ret
   exact⟨kD HR.out.symm,hb2⟩
  ·have hk:=hw.tT eg hp;obtain⟨l1,l2,e1⟩:=List.append_of_mem hk;have hnd:=hw.lD nd.pa;have h0:=hw.mE nd.pa;have hlen:(Tr.au g nd.pa).length≤100000:=by
    have h1:((Tr.au g nd.pa).map fun x=>(Ar.idx b s x).toNat).length≤n:=pV n _ (by
     rw[List.nodup_iff_pairwise_ne] at hnd ⊢;rw[List.pairwise_map];refine List.Pairwise.imp_of_mem (fun {x y} hx hy hne e=>hne ?_) hnd;obtain⟨mx,ex,_⟩:=hw.dO hx;obtain⟨my,ey,_⟩:=hw.dO hy;obtain⟨i,hi,ei⟩:=hS.dom x (by rw[aM,ex];rfl);obtain⟨j,hj,ej⟩:=hS.dom y (by rw[aM,ey];rfl);have hle:=hS.le;have a1:=Ar.nX b s i (by omega) (by omega);have a2:=Ar.nX b s j (by omega) (by omega);rw[ei] at a1;rw[ej] at a2;rw[←ei,←ej];have:(i:Int)=j:=by omega
     rw[this]) (fun k hk=>by
     obtain⟨x,hx,rfl⟩:=List.mem_map.1 hk;obtain⟨mx,ex,_⟩:=hw.dO hx;obtain⟨i,hi,ei⟩:=hS.dom x (by rw[aM,ex];rfl);have a1:=Ar.nX b s i (by omega) (by have:=hS.le;omega);rw[ei] at a1
     omega)
    rw[List.length_map] at h1;have:=hS.le;omega
   have hn1:h∉l1:=fun hx=>by rw[e1] at hnd;exact (List.nodup_append.1 hnd).2.2 h hx h (by simp) rfl
   have hr:Tr.eF g h=(l1.length:Int):=by
    unfold Tr.eF;rw[eg];simp only;rw[if_neg hp,e1,Tr.dX hn1]
   have hl1:l1.length≤100000:=by rw[e1,List.length_append] at hlen;omega
   have HR:=zh hr;have HK:=zh e1;have HS:=zh hS;clear hr hlen hk;have hc0:(nd.pa == 0)=false:=by simpa using hp
   go_enter Tryz.func38,Tryz.ntmps38
   go_wp2_with fail;refine (jW base B b s root h live n _ fr vs vf w hm hS hh).mono ?_;rintro e w2 ⟨gb,o,rfl,hnp,hb2⟩;rw[Tr.aj eg] at hnp;obtain⟨_,_,_,_,t4,_⟩:=hnp.cells;have t4':w2.cell? ⟨gb,o+4,none⟩=some (.int .i64 nd.pa):=t4;have HN:=zh hnp;have HE:=zh eg;clear t4 hnp hS e1 hnd h0;go_wp2_with fail
   go_loopw [5,6] (fun p i wr=>∃ (g' o':Nat) (l3 l4:List Int) (x:Int) (k:Nat) (m:Tr.GN),p=.pointer (some ⟨g',o',none⟩)∧Tr.au g nd.pa=l3++x::l4∧g x=some m∧m.pa=nd.pa∧NP wr g' o' (Tr.fA g av x m)∧i=.int .i64 k∧k+l3.length=l1.length∧Below w.heap.size w wr) (fun _ i _=>l1.length - (intOf i).toNat)
   case atStart=>exact⟨gb,o,l1,l2,h,0,nd,rfl,HK.out,HE.out,rfl,HN.out,rfl,by omega,hb2⟩
   case round=>
    obtain⟨g',o',l3,l4,x,k,m,rfl,hk,hx,hmp,hnp,rfl,hkl,hbr⟩:=hrel;have hmr:=hm.below hbr;obtain⟨_,_,_,_,_,_,_,t7,_⟩:=hnp.cells;have hnd:=hw.lD nd.pa;have h0:=hw.mE nd.pa;rw[hk] at hnd h0;have hx4:x∉l4:=(List.nodup_cons.1 (List.nodup_append.1 hnd).2.1).1;have hpr:Tr.prv (Tr.au g m.pa) x=Tr.dN l3:=by rw[hmp,hk];exact Tr.lT hx4
    have t7':wr.cell? ⟨g',o'+7,none⟩=some (.int .i64 (Tr.dN l3)):=by rw[t7,←hpr];rfl
    clear t7;by_cases hz:Tr.dN l3=0
    ·have hl3:l3=[]:=Tr.Af (fun hx=>h0 (by simp[hx])) hz;subst hl3;rw[Tr.RB] at t7';have hkk:k=l1.length:=by simpa using hkl
     have HB:=zh hbr;have HKK:=zh hkk;clear hnp hmr hk hx hmp hnd h0 hpr hz hkl hbr hkk;go_wp2_with fail
     go_ret
     exact⟨kD (by rw[HKK.out,HR.out]),HB.out⟩
    ·obtain⟨l5,y,rfl⟩:∃ l5 y,l3=l5++[y]:=by
      cases hl:l3 with
      | nil=>rw[hl] at hz;exact absurd rfl hz
      | cons a r=>exact⟨(a::r).dropLast,(a::r).getLast (by simp),(List.dropLast_concat_getLast _).symm⟩
     rw[Tr.lC] at hz t7';have hy:y∈Tr.au g nd.pa:=by rw[hk];simp
     obtain⟨my,ey,hyp⟩:=hw.dO hy;have hc1:(y != 0)=true:=by simpa using hz
     have hyi:=(bN HS.out (h:=y) (by rw[aM,ey];rfl)).1;have hlx:k+1≤l1.length:=by simp at hkl;omega
     have ES:=zh hk;have HL2:=zh hkl;clear hnp hk hx hmp hnd h0 hpr hkl;go_wp2_with fail;refine (jW base B b s root y live n _ fr vs vf wr hmr HS.out hyi).mono ?_;rintro e w4 ⟨g4,o4,rfl,Vx,hb4⟩;rw[Tr.aj ey] at Vx;have hb5:=hbr.trans (hb4.mono hbr.size);have HN4:=zh Vx;have HB:=zh hb5;clear Vx hb5 hmr;go_wp2_with fail
     go_roundw
     case rel=>exact⟨g4,o4,l5,x::l4,y,k+1,my,rfl,by rw[ES.out];simp,ey,hyp,HN4.out,by go_num,by have:=HL2.out;simp at this;omega,HB.out⟩
     case measure=>simp[intOf];omega
end
end
section
open Go.RowKit
theorem NP.far {w w':World} {g o:Nat} {d:Tr.Nd} (h:NP w g o d) (hb:Below w.heap.size w w'):
  w'.cell? ⟨g,o+4,none⟩=some (.int .i64 d.pa)∧w'.cell? ⟨g,o+7,none⟩=some (.int .i64 d.pr)∧w'.cell? ⟨g,o+8,none⟩=some (.int .i64 d.ne):=by
 obtain⟨_,_,_,_,a,_,_,b,c⟩:=(h.below hb).cells;exact⟨a,b,c⟩
theorem PtrTo.foot {b s:Int} {vs vf:Value} {n g o B:Nat} {h:Int} (hp:PtrTo b s vs n g o h):aD B vs vf g:=by
 obtain⟨_,_,_,_,_,_,rfl⟩:=hp;exact .inr (.inl rfl)
theorem uU {W W':World} {gb o B:Nat} {v:Value} (h:W.cell? ⟨gb,o,none⟩=some v) (g:W.grownBy W' (some B)) (hn:gb≠B):W'.cell? ⟨gb,o,none⟩=some v:=by
 rw[←h];have:=g.block gb (World.block_lt_of_cell? W _ h) (fun e=>hn (by injection e));unfold World.cell?;simp only[this]
theorem kQ {W:World} {B:Nat} {x0 x1 x2 x3 x4 x5 x6 x7 x8 x9 x10:Value} {T:TypeId} (r:Whole W B #[x0,x1,x2,x3,x4,x5,x6,x7,x8,x9,x10] T) (y0 y1 y2 y3 y4 y5 y6 y7 y8 y9 wP:Value):
  ∃ W',((((((((((W.setCell ⟨B,0,none⟩ y0).setCell ⟨B,1,none⟩ y1).setCell ⟨B,2,none⟩ y2).setCell ⟨B,3,none⟩ y3).setCell ⟨B,4,none⟩ y4).setCell ⟨B,5,none⟩ y5).setCell ⟨B,6,none⟩ y6).setCell ⟨B,7,none⟩ y7).setCell ⟨B,8,none⟩ y8).setCell ⟨B,9,none⟩ y9).setCell ⟨B,10,none⟩ wP=W'∧Whole W' B #[y0,y1,y2,y3,y4,y5,y6,y7,y8,y9,wP] T∧W.grownBy W' (some B):=by
 have r0:Whole _ B #[y0,x1,x2,x3,x4,x5,x6,x7,x8,x9,x10] T:=r.put 0 y0;have r1:Whole _ B #[y0,y1,x2,x3,x4,x5,x6,x7,x8,x9,x10] T:=r0.put 1 y1;have r2:Whole _ B #[y0,y1,y2,x3,x4,x5,x6,x7,x8,x9,x10] T:=r1.put 2 y2;have r3:Whole _ B #[y0,y1,y2,y3,x4,x5,x6,x7,x8,x9,x10] T:=r2.put 3 y3;have r4:Whole _ B #[y0,y1,y2,y3,y4,x5,x6,x7,x8,x9,x10] T:=r3.put 4 y4;have r5:Whole _ B #[y0,y1,y2,y3,y4,y5,x6,x7,x8,x9,x10] T:=r4.put 5 y5;have r6:Whole _ B #[y0,y1,y2,y3,y4,y5,y6,x7,x8,x9,x10] T:=r5.put 6 y6;have r7:Whole _ B #[y0,y1,y2,y3,y4,y5,y6,y7,x8,x9,x10] T:=r6.put 7 y7;have r8:Whole _ B #[y0,y1,y2,y3,y4,y5,y6,y7,y8,x9,x10] T:=r7.put 8 y8;have r9:Whole _ B #[y0,y1,y2,y3,y4,y5,y6,y7,y8,y9,x10] T:=r8.put 9 y9;have r10:Whole _ B #[y0,y1,y2,y3,y4,y5,y6,y7,y8,y9,wP] T:=r9.put 10 wP;exact⟨_,rfl,r10,aO (aO (aO (aO (aO (aO (aO (aO (aO (aO (aO (ay (Below.refl W.heap.size W) (some B)) 0 y0) 1 y1) 2 y2) 3 y3) 4 y4) 5 y5) 6 y6) 7 y7) 8 y8) 9 y9) 10 wP⟩
theorem tH (base B:Nat) (b s root kind h:Int) (live n:Nat) (g:Tr.G) (av:Int→Tr.Sl) (fr:List Nat) (vs vf:Value) (nd:Tr.GN) (w:World) (hm:TV base w B b s vs n (Tr.raw g av) vf fr live root) (hS:Sound b s n (Tr.raw g av) fr live) (hw:Tr.WF 0 g) (eg:g h=some nd):
  Calls Tryz.prog 58 #[.pointer (some ⟨B,0,none⟩),.int .i64 kind,.int .i64 h] w fun e w'=>e=.returned (rcV (Tr.jO g kind h))∧Below w.heap.size w w':=by
 have hh:=(bN hS (h:=h) (by rw[aM,eg];rfl)).1;have hr:Tr.jO g kind h=⟨kind,nd.pa,h,Tr.prv (Tr.au g nd.pa) h,Tr.nK (Tr.au g nd.pa) h,Tr.eF g h,⟨#[]⟩,⟨#[]⟩,false,0,0⟩:=by unfold Tr.jO;rw[Tr.aL eg]
 obtain⟨X,hX⟩:=eX (Tr.eF g h)
 obtain⟨pr,hpr⟩:=eX (Tr.prv (Tr.au g nd.pa) h)
 obtain⟨ne,hne⟩:=eX (Tr.nK (Tr.au g nd.pa) h)
 obtain⟨pa,hpa⟩:=eX (nd.pa)
 have hd4:(Tr.fA g av h nd).pa=pa:=hpa;have hd7:(Tr.fA g av h nd).pr=pr:=hpr;have TT:(Tr.fA g av h nd).ne=ne:=hne;rw[hr,hX,hpr,hne,hpa];have hb1:=(Below.refl _ w).alloc (Nat.le_refl _) (.cells #[.int .i64 0,.int .i64 0,.int .i64 0,.int .i64 0,.int .i64 0,.int .i64 0,.string ⟨#[]⟩,.string ⟨#[]⟩,.bool false,.int .i64 0,.int .i64 0] 68);have hY:=Whole.new w #[.int .i64 0,.int .i64 0,.int .i64 0,.int .i64 0,.int .i64 0,.int .i64 0,.string ⟨#[]⟩,.string ⟨#[]⟩,.bool false,.int .i64 0,.int .i64 0] 68;have hm1:=hm.below hb1;have HH:=zh (And.intro hr (And.intro hpr (And.intro hne hpa)));clear hr hpr hne hpa
 go_enter Tryz.func58,Tryz.ntmps58
 go_wp2_with fail;refine (gW base B b s root h live n _ fr vs vf (Tr.fA g av h nd) _ hm1 hS (Tr.aj eg)).mono ?_;rintro e w2 ⟨gb,o,rfl,hpt,hb2⟩;have hm2:=hm1.below hb2;have hnp:=hm2.np hpt (Tr.aj eg);have hne0:gb≠w.heap.size:=by
  have:=(hm.lt gb (hpt.foot)).2;omega
 have hY2:=hY.below hb2 hY.lt;have eU:Below w.heap.size w w2:=hb1.trans (hb2.mono hb1.size);obtain⟨_,_,_,_,t4,_,_,t7,t8⟩:=hnp.cells;rw[hd4] at t4;rw[hd7] at t7;rw[TT] at t8;have kf:=fun (W:World) (hb:Below w2.heap.size w2 W)=>hnp.far hb;rw[hd4,hd7,TT] at kf;have kY:=fun (W:World) (hb:Below w2.heap.size w2 W)=>hY2.below hb hY2.lt;have kI:=fun (W:World) (hb:Below w2.heap.size w2 W)=>xD base B b s root h live n g av fr vs vf W (hm2.below hb) hS hw hh;rw[hX] at kI;have hbd:Below w2.heap.size w2 w2.drew:=⟨rfl,rfl,rfl,Nat.le_refl _,fun _ _=>rfl⟩
 have KF:=zh kf;have KY:=zh kY;have KI:=zh (kI _ hbd);have ET:=zh hbd;have RP:=zh eU;have HY2:=zh hY2;clear hm hm1 hm2 hS hnp hY hb1 hb2 hY2 hX eg kf kY kI hbd eU hd4 hd7 TT;have hS0:w2.drew.cell? ⟨gb,o+4,none⟩=some (.int .i64 pa)∧w2.drew.cell? ⟨gb,o+7,none⟩=some (.int .i64 pr)∧w2.drew.cell? ⟨gb,o+8,none⟩=some (.int .i64 ne):=KF.out _ ET.out;go_wp2_with fail
 go_region_held3 (fun W=>W.cell? ⟨gb,o+4,none⟩=some (.int .i64 pa)∧W.cell? ⟨gb,o+7,none⟩=some (.int .i64 pr)∧W.cell? ⟨gb,o+8,none⟩=some (.int .i64 ne)) (first | exact hS0 | assumption) (first | (go_at_call 38;refine KI.out.mono ?_;rintro e w5 ⟨rfl,hb5⟩;have Px:=ET.out.trans (hb5.mono ET.out.size);have hS5:=KF.out w5 Px;have sK:=KY.out w5 Px;have q0:w5.cell? ⟨w.heap.size,0,none⟩=some (.int .i64 0):=sK.cell 0;have z0:=sK.free 0 ;have q1:w5.cell? ⟨w.heap.size,1,none⟩=some (.int .i64 0):=sK.cell 1;have z1:=sK.free 1 ;have q2:w5.cell? ⟨w.heap.size,2,none⟩=some (.int .i64 0):=sK.cell 2;have z2:=sK.free 2 ;have q3:w5.cell? ⟨w.heap.size,3,none⟩=some (.int .i64 0):=sK.cell 3;have z3:=sK.free 3 ;have q4:w5.cell? ⟨w.heap.size,4,none⟩=some (.int .i64 0):=sK.cell 4;have z4:=sK.free 4 ;have q5:w5.cell? ⟨w.heap.size,5,none⟩=some (.int .i64 0):=sK.cell 5;have z5:=sK.free 5 ;have q6:w5.cell? ⟨w.heap.size,6,none⟩=some (.string ⟨#[]⟩):=sK.cell 6;have z6:=sK.free 6 ;have q7:w5.cell? ⟨w.heap.size,7,none⟩=some (.string ⟨#[]⟩):=sK.cell 7;have z7:=sK.free 7 ;have q8:w5.cell? ⟨w.heap.size,8,none⟩=some (.bool false):=sK.cell 8;have z8:=sK.free 8 ;have q9:w5.cell? ⟨w.heap.size,9,none⟩=some (.int .i64 0):=sK.cell 9;have z9:=sK.free 9 ;have q10:w5.cell? ⟨w.heap.size,10,none⟩=some (.int .i64 0):=sK.cell 10;have XJ:=sK.free 10;obtain⟨w6,jM,NR,g6⟩:=kQ sK (.int .i64 kind) (.int .i64 pa) (.int .i64 h) (.int .i64 pr) (.int .i64 ne) (.int .i64 X) (.string ⟨#[]⟩) (.string ⟨#[]⟩) (.bool false) (.int .i64 0) (.int .i64 0);have y0:w6.cell? ⟨w.heap.size,0,none⟩=some (.int .i64 kind):=NR.cell 0 ;have y1:w6.cell? ⟨w.heap.size,1,none⟩=some (.int .i64 pa):=NR.cell 1 ;have y2:w6.cell? ⟨w.heap.size,2,none⟩=some (.int .i64 h):=NR.cell 2 ;have y3:w6.cell? ⟨w.heap.size,3,none⟩=some (.int .i64 pr):=NR.cell 3 ;have y4:w6.cell? ⟨w.heap.size,4,none⟩=some (.int .i64 ne):=NR.cell 4 ;have y5:w6.cell? ⟨w.heap.size,5,none⟩=some (.int .i64 X):=NR.cell 5 ;have y6:w6.cell? ⟨w.heap.size,6,none⟩=some (.string ⟨#[]⟩):=NR.cell 6 ;have y7:w6.cell? ⟨w.heap.size,7,none⟩=some (.string ⟨#[]⟩):=NR.cell 7 ;have y8:w6.cell? ⟨w.heap.size,8,none⟩=some (.bool false):=NR.cell 8 ;have y9:w6.cell? ⟨w.heap.size,9,none⟩=some (.int .i64 0):=NR.cell 9 ;have wP:w6.cell? ⟨w.heap.size,10,none⟩=some (.int .i64 0):=NR.cell 10;have hb6:=zh ((RP.out.trans (Px.mono RP.out.size)).grown g6 (RP.out.trans (Px.mono RP.out.size)).size (fun j hj=>by simp at hj;omega));have TI:w6.cell? ⟨gb,o+4,none⟩=some (.int .i64 pa)∧w6.cell? ⟨gb,o+7,none⟩=some (.int .i64 pr)∧w6.cell? ⟨gb,o+8,none⟩=some (.int .i64 ne):=⟨(uU hS5.1 g6 hne0),(uU hS5.2.1 g6 hne0),(uU hS5.2.2 g6 hne0)⟩;clear sK NR g6 Px hb5))
 go_wp2_with fail;refine bodyPost_ret (v:=rcV ⟨kind,pa,h,pr,ne,X,⟨#[]⟩,⟨#[]⟩,false,0,0⟩) ?_ rfl ⟨rfl,hb6.out⟩;simp[results,Tryz.f58,go_sem,y0,y1,y2,y3,y4,y5,y6,y7,y8,y9,wP]
theorem Le (R:Int→Option Tr.Nd) (h pa pr ne:Int):Tr.vW R h pa pr ne=Tr.upd (qU (jG R pa pr ne) pa ne pr) h fun n=>{ n with pa:=0,pr:=0,ne:=0 }:=by
 unfold Tr.vW qU jG;rfl
theorem Sound.vW {b s:Int} {n live:Nat} {R:Int→Option Tr.Nd} {fr:List Nat} {h pa pr ne:Int} (hS:Sound b s n R fr live):Sound b s n (Tr.vW R h pa pr ne) fr live:=by
 rw[Le];exact hS.forth.back.upd
theorem MR {R:Int→Option Tr.Nd} {p c v x:Int} (h1:x≠p) (h2:c≠0→x≠c):jG R p c v x=R x:=by
 unfold jG;split
 ·exact Tr.upd_ne h1
 ·rename_i e;exact Tr.upd_ne (h2 e)
theorem Py {R:Int→Option Tr.Nd} {p c v x:Int} (h1:x≠p) (h2:c≠0→x≠c):qU R p c v x=R x:=by
 unfold qU;split
 ·exact Tr.upd_ne h1
 ·rename_i e;exact Tr.upd_ne (h2 e)
theorem some_or {R:Int→Option Tr.Nd} {c:Int} (h:c≠0→∃ d,R c=some d):∃ d,c≠0→R c=some d:=by
 by_cases e:c=0
 ·exact⟨Tr.Bl,fun x=>absurd e x⟩
 ·obtain⟨d,hd⟩:=h e;exact⟨d,fun _=>hd⟩
theorem ng (w:World) (r:Tr.Rec) (base:Nat) (hb:base≤w.heap.size):bH base (w.alloc (.cells #[.int .i64 r.kind,.int .i64 r.target,.int .i64 r.node,.int .i64 r.prev,.int .i64 r.next,.int .i64 r.index,.string r.name,.string r.old,.bool r.had,.int .i64 r.count,.int .i64 r.size] 68)) (.slice (some ⟨w.heap.size,0,none⟩) 1 1) [r]:=
 World.ownsRow_lit (base:=base) (e:=68) (size:=11) w #[.int .i64 r.kind,.int .i64 r.target,.int .i64 r.node,.int .i64 r.prev,.int .i64 r.next,.int .i64 r.index,.string r.name,.string r.old,.bool r.had,.int .i64 r.count,.int .i64 r.size] 1 hb (by unfold maxLen;omega) rfl
theorem Pz (base B:Nat) (b s root h:Int) (live n:Nat) (g:Tr.G) (av:Int→Tr.Sl) (fr:List Nat) (vs vf:Value) (nd:Tr.GN) (w:World) (hm:TV base w B b s vs n (Tr.raw g av) vf fr live root) (hS:Sound b s n (Tr.raw g av) fr live) (eg:g h=some nd) (hp:nd.pa=0):
  Calls Tryz.prog 56 #[.pointer (some ⟨B,0,none⟩),.int .i64 h] w fun e w'=>e=.returned (.slice none 0 0)∧Below w.heap.size w w':=by
 go_enter Tryz.func56,Tryz.ntmps56
 go_wp2_with fail;refine (gW base B b s root h live n _ fr vs vf (Tr.fA g av h nd) _ hm hS (Tr.aj eg)).mono ?_;rintro e w2 ⟨gb,o,rfl,hpt,hb2⟩;have hnp:=(hm.below hb2).np hpt (Tr.aj eg);obtain⟨_,_,_,_,t4,_⟩:=hnp.cells;have t4':w2.cell? ⟨gb,o+4,none⟩=some (.int .i64 0):=by rw[t4];show some (Value.int .i64 nd.pa)=_;rw[hp]
 clear hm hS hnp t4 hp eg hpt;go_wp2_with fail
 go_ret
 exact⟨rfl,hb2⟩
theorem PD (base B:Nat) (b s root h:Int) (live n:Nat) (g:Tr.G) (av:Int→Tr.Sl) (fr:List Nat) (vs vf:Value) (nd:Tr.GN) (w:World) (hm:TV base w B b s vs n (Tr.raw g av) vf fr live root) (hS:Sound b s n (Tr.raw g av) fr live) (hw:Tr.WF 0 g) (eg:g h=some nd) (hp:nd.pa≠0):
  Calls Tryz.prog 56 #[.pointer (some ⟨B,0,none⟩),.int .i64 h] w fun e w'=>∃ v,e=.returned v∧bH w.heap.size w' v [Tr.jO g 2 h]∧TV base w' B b s vs n (Tr.raw (Tr.iZ g h) av) vf fr live root∧aB w w' (aD B vs vf) (aD B vs vf):=by
 rw[Tr.K9 hw eg hp,Le];obtain⟨r,hr⟩:=eX (Tr.jO g 2 h)
 obtain⟨q,ep,hk⟩:=hw.up h nd eg hp;have hkz:=hw.lq ep;have hps:h≠nd.pa:=fun e=>hw.iO eg e.symm;have hkq:=Tr.aH ep;have MU:Tr.prv (Tr.au g nd.pa) h≠0→h≠Tr.prv (Tr.au g nd.pa) h∧∃ d,Tr.raw g av (Tr.prv (Tr.au g nd.pa) h)=some d:=fun e=>by
  have hm1:=Tr.K7 e;obtain⟨m,e1,_⟩:=hw.dO hm1;refine⟨fun e2=>?_,_,Tr.aj e1⟩;rw[hkq] at e2 e;obtain⟨l1,l2,e3⟩:=List.append_of_mem hk;have hnd:=hw.nodup _ q ep;rw[e3] at hnd e2 e;have h2:h∉l2:=(List.nodup_cons.1 (List.nodup_append.1 hnd).2.1).1;rw[Tr.lT h2] at e2 e;exact (List.nodup_append.1 hnd).2.2 _ (Tr.oI e) h (by simp) e2.symm
 have MW:Tr.nK (Tr.au g nd.pa) h≠0→h≠Tr.nK (Tr.au g nd.pa) h∧∃ d,Tr.raw g av (Tr.nK (Tr.au g nd.pa) h)=some d:=fun e=>by
  have hm1:=Tr.Em e;obtain⟨m,e1,_⟩:=hw.dO hm1;refine⟨fun e2=>?_,_,Tr.aj e1⟩;rw[hkq] at e2 e;obtain⟨l1,l2,e3⟩:=List.append_of_mem hk;have hnd:=hw.nodup _ q ep;rw[e3] at hnd e2 e;have h1:h∉l1:=fun hx=>(List.nodup_append.1 hnd).2.2 h hx h (by simp) rfl;have h2:h∉l2:=(List.nodup_cons.1 (List.nodup_append.1 hnd).2.1).1;rw[Tr.ig h1] at e2 e;exact h2 (by rw[e2];exact Tr.xu e)
 have er:=Tr.aj (av:=av) eg;have WM:=Tr.aj (av:=av) ep;obtain⟨R,hR⟩:=eX (Tr.raw g av)
 have hd4:(Tr.fA g av h nd).pa=nd.pa:=rfl;have hd7:(Tr.fA g av h nd).pr=Tr.prv (Tr.au g nd.pa) h:=rfl;have TT:(Tr.fA g av h nd).ne=Tr.nK (Tr.au g nd.pa) h:=rfl;have kP:=fun (W:World) (hb:Below w.heap.size w W)=>tH base B b s root 2 h live n g av fr vs vf nd W (hm.below hb) hS hw eg;rw[hr] at kP;obtain⟨dh,hdh⟩:=eX (Tr.fA g av h nd)
 rw[hdh] at er hd4 hd7 TT;obtain⟨pr,hpr⟩:=eX (Tr.prv (Tr.au g nd.pa) h)
 obtain⟨ne,hne⟩:=eX (Tr.nK (Tr.au g nd.pa) h)
 obtain⟨pa,hpa⟩:=eX (nd.pa)
 rw[hpa] at hpr hne;simp only[hpa,hpr,hne] at MU MW hd4 hd7 TT hps WM hp ⊢;rw[hR] at hm hS er WM MU MW ⊢;rw[hr];have Xb:=zh kP;clear kP hk hkz hkq hpr hne hpa hr hdh hR eg ep hw;obtain⟨dv,hv⟩:=some_or (R:=R) (c:=pr) (fun e=>(MU e).2);obtain⟨dn,hn⟩:=some_or (R:=R) (c:=ne) (fun e=>(MW e).2);obtain⟨R1,Ec⟩:=eX (jG R pa pr ne)
 have hS1:Sound b s n R1 fr live:=by rw[←Ec];exact hS.forth
 have FK:R1 h=some dh:=by rw[←Ec,MR hps (fun e=>(MU e).1)];exact er
 obtain⟨d1p,FL⟩:∃ d,R1 pa=some d:=by rw[←Ec];exact l6 (by rw[WM];rfl)
 obtain⟨d1n,e1n⟩:=some_or (R:=R1) (c:=ne) (fun e=>by rw[←Ec];exact l6 (by rw[hn e];rfl));obtain⟨R2,hR2⟩:=eX (qU R1 pa ne pr)
 have NI:R2 h=some dh:=by rw[←hR2,Py hps (fun e=>(MW e).1)];exact FK
 rw[Ec,hR2];have HQ:=zh (And.intro MU MW);clear MU MW;have hc0:(pa == 0)=false:=by simpa using hp
 go_enter Tryz.func56,Tryz.ntmps56
 go_wp2_with fail;refine (gW base B b s root h live n _ fr vs vf dh _ hm hS er).mono ?_;rintro e w2 ⟨gb,o,rfl,hpt,hb2⟩;have hm2:=hm.below hb2;obtain⟨_,_,_,_,t4,_,_,_,_⟩:=(hm2.np hpt er).cells;rw[hd4] at t4;go_wp2_with fail;refine (Xb.out w2 hb2).mono ?_;rintro e w3 ⟨rfl,hb3⟩;obtain⟨w4,hw4⟩:=eX (w3.alloc (.cells #[.int .i64 r.kind,.int .i64 r.target,.int .i64 r.node,.int .i64 r.prev,.int .i64 r.next,.int .i64 r.index,.string r.name,.string r.old,.bool r.had,.int .i64 r.count,.int .i64 r.size] 68))
 have hY:Whole w4 w3.heap.size #[.int .i64 r.kind,.int .i64 r.target,.int .i64 r.node,.int .i64 r.prev,.int .i64 r.next,.int .i64 r.index,.string r.name,.string r.old,.bool r.had,.int .i64 r.count,.int .i64 r.size] 68:=by rw[←hw4];exact Whole.new w3 _ _
 have YJ:Below w2.heap.size w2 w4:=by rw[←hw4];exact hb3.alloc hb3.size _
 have bU:Below w.heap.size w w4:=hb2.trans (YJ.mono hb2.size);have hbd:Below w.heap.size w w4.drew:=Below.drew bU;have mJ:=hm.below hbd;have kS:∀ (W:World) (R':Int→Option Tr.Nd),TV base W B b s vs n R' vf fr live root→R' h=some dh→W.cell? ⟨gb,o+4,none⟩=some (.int .i64 pa)∧W.cell? ⟨gb,o+7,none⟩=some (.int .i64 pr)∧W.cell? ⟨gb,o+8,none⟩=some (.int .i64 ne):=fun W R' a c=>by
  obtain⟨_,_,_,_,a4,_,_,a7,a8⟩:=(a.np hpt c).cells;rw[hd4] at a4;rw[hd7] at a7;rw[TT] at a8;exact⟨a4,a7,a8⟩
 have hS0:w4.drew.cell? ⟨gb,o+4,none⟩=some (.int .i64 pa)∧w4.drew.cell? ⟨gb,o+7,none⟩=some (.int .i64 pr)∧w4.drew.cell? ⟨gb,o+8,none⟩=some (.int .i64 ne):=kS _ _ mJ er;have kF:=Dc base B b s root pa pr live n R fr vs vf _ dv w4.drew mJ hS WM hv;have HKF:=zh kF;have RQ:=zh mJ;have ET:=zh hbd;have HER:=zh er;have HK:=zh kS;have XO:=zh FK;have HE2:=zh NI;have HR1:=zh Ec;have HR2:=zh hR2;have hgf:=(hm.lt gb hpt.foot).2;have hrl:w.heap.size≤w3.heap.size:=Nat.le_trans hb2.size hb3.size;have HF:=zh (fun (k:Nat) (hk:aD B vs vf k)=>(hm.lt k hk).2);clear hm hm2 mJ kF kS er t4 FK NI Ec hR2 hd4 hd7 TT YJ bU hbd;go_wp2_with fail;try rw[hw4]
 go_region_held3 (fun W=>W.cell? ⟨gb,o+4,none⟩=some (.int .i64 pa)∧W.cell? ⟨gb,o+7,none⟩=some (.int .i64 pr)∧W.cell? ⟨gb,o+8,none⟩=some (.int .i64 ne)) (first | exact hS0 | assumption) (first | (go_at_call 96;refine HKF.out.mono ?_;rintro e w5 ⟨g5,y5,rfl,hfp,hb5⟩;have Pw:=RQ.out.below hb5;obtain⟨k5,z5⟩:=hfp.cell Pw WM hv;have hS5:=HK.out w5 R Pw HER.out;obtain⟨xX,st6⟩:=hfp.put Pw WM hv ne;obtain⟨w6,jM⟩:=eX (w5.setCell ⟨g5,y5,none⟩ (.int .i64 ne));rw[jM,HR1.out] at xX;rw[jM] at st6;have TI:=HK.out w6 R1 xX XO.out;have HM6:=zh xX;have abf:=zh ((aB.of_below (F:=aD B vs vf) hb5).trans st6);clear Pw xX st6 hfp))
 have YK:Below w6.heap.size w6 w6.drew:=⟨rfl,rfl,rfl,Nat.le_refl _,fun _ _=>rfl⟩
 have RU:=HM6.out.below YK;have kB:=AJ base B b s root pa ne live n R1 fr vs vf d1p d1n w6.drew RU hS1 FL e1n;have HKB:=zh kB;have abg:=zh RU;have abh:w6.drew.cell? ⟨gb,o+4,none⟩=some (.int .i64 pa)∧w6.drew.cell? ⟨gb,o+7,none⟩=some (.int .i64 pr)∧w6.drew.cell? ⟨gb,o+8,none⟩=some (.int .i64 ne):=HK.out _ _ RU XO.out;have HY:=zh hY;clear kB RU TI hS0 hY;go_wp2_with fail
 go_region_held3 (fun W=>W.cell? ⟨gb,o+4,none⟩=some (.int .i64 pa)∧W.cell? ⟨gb,o+7,none⟩=some (.int .i64 pr)∧W.cell? ⟨gb,o+8,none⟩=some (.int .i64 ne)) (first | exact abh | assumption) (first | (go_at_call 97;refine HKB.out.mono ?_;rintro e w7 ⟨g7,y7,rfl,hbp,nL⟩;have qW:=abg.out.below nL;obtain⟨k7,z7⟩:=hbp.cell qW FL e1n;have pO:=HK.out w7 R1 qW XO.out;obtain⟨Rm,st8⟩:=hbp.put qW FL e1n pr;obtain⟨w8,hw8⟩:=eX (w7.setCell ⟨g7,y7,none⟩ (.int .i64 pr));rw[hw8,HR2.out] at Rm;rw[hw8] at st8;have hS8:=HK.out w8 R2 Rm HE2.out;have HM8:=zh Rm;have abj:=zh ((aB.of_below (F:=aD B vs vf) nL).trans st8);clear qW Rm st8 hbp))
 have PE:=HM8.out.np hpt HE2.out;obtain⟨_,_,_,_,v4,_,_,v7,v8⟩:=PE.cells;have f4:=(PE 4 (by omega)).2;have f7:=(PE 7 (by omega)).2;have f8:=(PE 8 (by omega)).2;obtain⟨w9,wK⟩:=eX ((((w8.setCell ⟨gb,o+4,none⟩ (.int .i64 0)).setCell ⟨gb,o+7,none⟩ (.int .i64 0)).setCell ⟨gb,o+8,none⟩ (.int .i64 0)))
 have tY:TV base w9 B b s vs n (Tr.upd R2 h fun n=>{ n with pa:=0,pr:=0,ne:=0 }) vf fr live root∧aB w8 w9 (aD B vs vf) (aD B vs vf):=by
  obtain⟨a1,s1⟩:=HM8.out.mQ (j:=4) (v:=.int .i64 0) hpt HE2.out (fun n=>{ n with pa:=0 }) rfl (by omega) rfl;obtain⟨a2,s2⟩:=a1.mQ (j:=7) (v:=.int .i64 0) hpt (Tr.lF HE2.out) (fun n=>{ n with pr:=0 }) rfl (by omega) rfl;obtain⟨a3,s3⟩:=a2.mQ (j:=8) (v:=.int .i64 0) hpt (Tr.lF (Tr.lF HE2.out)) (fun n=>{ n with ne:=0 }) rfl (by omega) rfl;rw[za,za] at a3;rw[←wK];exact⟨a3,(s1.trans s2).trans s3⟩
 obtain⟨tY,xU⟩:=tY;have stA:aB w4 w9 (aD B vs vf) (aD B vs vf):=(aB.of_below (F:=aD B vs vf) (show Below w4.heap.size w4 w4.drew from⟨rfl,rfl,rfl,Nat.le_refl _,fun _ _=>rfl⟩)).trans (abf.out.trans ((aB.of_below (F:=aD B vs vf) YK).trans (abj.out.trans xU)));have II:=HY.out.turns stA.1 (fun hk=>by have:=HF.out _ hk;omega);have x0:w9.cell? ⟨w3.heap.size,0,none⟩=some (.int .i64 r.kind):=II.cell 0;have x1:w9.cell? ⟨w3.heap.size,1,none⟩=some (.int .i64 r.target):=II.cell 1;have x2:w9.cell? ⟨w3.heap.size,2,none⟩=some (.int .i64 r.node):=II.cell 2;have x3:w9.cell? ⟨w3.heap.size,3,none⟩=some (.int .i64 r.prev):=II.cell 3;have x4:w9.cell? ⟨w3.heap.size,4,none⟩=some (.int .i64 r.next):=II.cell 4;have x5:w9.cell? ⟨w3.heap.size,5,none⟩=some (.int .i64 r.index):=II.cell 5;have x6:w9.cell? ⟨w3.heap.size,6,none⟩=some (.string r.name):=II.cell 6;have x7:w9.cell? ⟨w3.heap.size,7,none⟩=some (.string r.old):=II.cell 7;have x8:w9.cell? ⟨w3.heap.size,8,none⟩=some (.bool r.had):=II.cell 8;have x9:w9.cell? ⟨w3.heap.size,9,none⟩=some (.int .i64 r.count):=II.cell 9;have x10:w9.cell? ⟨w3.heap.size,10,none⟩=some (.int .i64 r.size):=II.cell 10;have bU:Below w.heap.size w w4:=ET.out.trans ⟨rfl,rfl,rfl,Nat.le_refl _,fun _ _=>rfl⟩;have WE:aB w w9 (aD B vs vf) (aD B vs vf):=(aB.of_below (F:=aD B vs vf) bU).trans stA;have BD:=WE.1.size;have hbl:=(Below.refl _ w9).alloc (Nat.le_refl _) (.cells #[.int .i64 r.kind,.int .i64 r.target,.int .i64 r.node,.int .i64 r.prev,.int .i64 r.next,.int .i64 r.index,.string r.name,.string r.old,.bool r.had,.int .i64 r.count,.int .i64 r.size] 68);have UU:=zh (tY.below hbl);have BA:=zh (WE.trans (.of_below hbl));have HRR:=zh (ng w9 r w.heap.size BD);clear tY xU stA WE II PE v4 v7 v8 bU hbl;go_wp2_with fail;(try rw[wK]);go_wp2_with fail
 go_ret
 exact⟨_,rfl,HRR.out,UU.out,BA.out⟩
end
section
open Go.RowKit Go.Shelf
attribute [local go_sem] Oper.semAt_some
theorem wS (B:Nat) (h:Int) (w:World):
  Calls Tryz.prog 95 #[.pointer (some ⟨B,0,none⟩),.int .i64 h] w fun e w'=>
   e=.returned (.func (.func 116) #[] #[.pointer (some ⟨w.heap.size,0,none⟩),.pointer (some ⟨w.heap.size+1,0,none⟩)])∧w'=(w.alloc (.cells #[.pointer (some ⟨B,0,none⟩)] 29)).alloc (.cells #[.int .i64 h] 3):=by
 go_enter Tryz.func95,Tryz.ntmps95
 go_wp2_with fail
 go_ret
 exact⟨rfl,rfl⟩
theorem ze (B:Nat) (h:Int) (w:World):
  Calls Tryz.prog 39 #[.pointer (some ⟨B,0,none⟩),.int .i64 h] w fun e w'=>
   e=.returned (.func (.func 84) #[] #[.pointer (some ⟨w.heap.size+1,0,none⟩),.pointer (some ⟨w.heap.size,0,none⟩)])∧w'=(w.alloc (.cells #[.pointer (some ⟨B,0,none⟩)] 29)).alloc (.cells #[.int .i64 h] 3):=by
 go_enter Tryz.func39,Tryz.ntmps39
 go_wp2_with fail
 go_ret
 exact⟨rfl,rfl⟩
structure Ut (KI:World→Prop) (B bt bh:Nat) (b s h:Int) (l:List Int):Prop where
 read:∀ W,KI W→∃ (base n live:Nat) (vs vf:Value) (R:Int→Option Tr.Nd) (fr:List Nat) (root:Int),TV base W B b s vs n R vf fr live root∧Sound b s n R fr live∧((R h).getD Tr.Bl).fi=Tr.fs l∧∀ x∈l,∃ e,R x=some e∧e.ne=Tr.nK l x
 below:∀ W W',Below W.heap.size W W'→KI W→KI W'
 box:∀ W,KI W→W.cell? ⟨bt,0,none⟩=some (.pointer (some ⟨B,0,none⟩))∧W.cell? ⟨bh,0,none⟩=some (.int .i64 h)
theorem xE {l A C:List Int} {v:Int} (e:l=A++v::C) (hnd:l.Nodup) (h0:0∉l):Tr.nK l v=Tr.fs C∧l.idxOf v=A.length∧A.length+1≤l.idxOf (Tr.fs C):=by
 have hv:v∉A:=fun hm=>by rw[e] at hnd;exact (List.nodup_append.1 hnd).2.2 _ hm _ (by simp) rfl
 refine⟨by rw[e];exact Tr.ig hv,by rw[e];exact Tr.dX hv,?_⟩;cases C with
 | nil=>
  have:l.idxOf (0:Int)=l.length:=List.idxOf_eq_length h0;show _≤l.idxOf (0:Int);rw[this,e];simp
 | cons y r=>
  have e2:l=(A++[v])++y::r:=by rw[e];simp
  have hy:y∉A++[v]:=fun hm=>by rw[e2] at hnd;exact (List.nodup_append.1 hnd).2.2 _ hm _ (by simp) rfl
  show _≤l.idxOf y;rw[e2,Tr.dX hy];simp
theorem FD (KI:World→Prop) (B bt bh lp n:Nat) (b s h:Int) (l:List Int) (J Jx:List {x:Int // x∈l}→World→Prop) (W:World) (hK:Ut KI B bt bh b s h l) (hh:kM h) (hnd:l.Nodup) (h0l:0∉l) (hn:2≤n)
  (hJ:AbidesFrom W.heap.size J)
  (hY:∀ pre x W1,J pre W1→pre.length<l.length→YieldAt Fence.wide (n - 1) Tryz.prog lp #[.int .i64 x.1] W1 fun e W'=>(e=.returned (.bool true)∧J (pre++[x]) W'∧(KI W1→KI W'))∨(e=.returned (.bool false)∧Jx (pre++[x]) W'))
  (hKW:KI W) (h0:J [] W):
  CallsIn Fence.wide n Tryz.prog 116 #[.func (.yield lp) #[] #[],.pointer (some ⟨bt,0,none⟩),.pointer (some ⟨bh,0,none⟩)] W fun e W'=>(∃ v,e=.returned v)∧
   ((∃ xs,xs=l.attach∧J xs W')∨(∃ pre,pre <+: l.attach∧Jx pre W')):=by
 obtain⟨base,m,live,vs,vf,R,fr,root,hT,hS,hfi,hne⟩:=hK.read W hKW;obtain⟨c0,c1⟩:=hK.box W hKW;refine callsIn_of_wp Tryz.func116 rfl trivial ?_ rfl;simp only[Tryz.ntmps116,pT,Nat.reduceAdd,Nat.reduceSub]
 gi_wp2_with fail
 refine⟨trivial,fun _=>by omega,callsIn_wide.2 ((jW base B b s root h live m R fr vs vf W hT hS hh).mono ?_)⟩;rintro e w2 ⟨g,o,rfl,hnp,hb2⟩;obtain⟨_,_,_,_,_,t5,_,_,_⟩:=hnp.cells;rw[hfi] at t5;have abk:=hK.below W w2 hb2 hKW;have h02:J [] w2:=hJ [] W w2 none h0 (ay hb2 none) (fun r e=>by cases e);clear hT hS hfi hne hnp c0 c1
 gi_wp2_with fail
 gi_loopw [4] (fun k wr=>∃ pre rest:List {x:Int // x∈l},k=.int .i64 (Tr.fs (rest.map (·.1)))∧l.attach=pre++rest∧KI wr∧J pre wr) (fun k _=>l.length - l.idxOf (intOf k))
 case atStart=>exact⟨[],l.attach,by simp,rfl,abk,h02⟩
 case round=>
  obtain⟨pre,rest,rfl,hat,hKr,TU⟩:=hrel;have hmap:pre.map (·.1)++rest.map (·.1)=l:=by
   have:=congrArg (List.map (·.1)) hat;rw[List.map_append,List.attach_map_subtype_val] at this;exact this.symm
  obtain⟨q0,q1⟩:=hK.box wr hKr;cases rest with
  | nil=>
   have hat':l.attach=pre:=by rw[hat,List.append_nil]
   have HA:=zh hat';clear hat hat' hmap hY hnd
   gi_wp2_with fail
   go_end0
   exact⟨⟨_,rfl⟩,.inl ⟨pre,HA.out.symm,TU⟩⟩
  | cons x rest=>
   have hfs:Tr.fs ((x::rest).map (·.1))=x.1:=rfl;have hx0:x.1≠0:=fun e=>h0l (e▸x.2);have hc1:(x.1 != 0)=true:=by simpa using hx0
   have hlen:pre.length<l.length:=by
    have:=congrArg List.length hmap;simp at this;omega
   obtain⟨hnx,hidx,hidx2⟩:=xE (A:=pre.map (·.1)) (v:=x.1) (C:=rest.map (·.1)) hmap.symm hnd h0l;rw[List.length_map] at hidx hidx2;rw[hfs];obtain⟨fn,tmps,assign,body,hy,hR⟩:=hY pre x wr TU hlen;have HAT:=zh hat;have IE:=zh hnx;have YL:=zh (And.intro hidx hidx2);have hxm:=x.2;clear hat hmap hY hfs hnx hidx hidx2
   gi_wp2_with fail
   refine⟨fun _=>by omega,hR.mono ?_⟩;rintro e w3 (⟨rfl,hJ3,hk3⟩ | ⟨rfl,hJx3⟩)
   ·have hK3:=hk3 hKr;obtain⟨base,m,live,vs,vf,R,fr,root,hT,hS,_,hne⟩:=hK.read w3 hK3;obtain⟨c0,c1⟩:=hK.box w3 hK3;obtain⟨d,ed,hdn⟩:=hne x.1 hxm;have hxi:=(bN hS (h:=x.1) (by rw[ed];rfl)).1
    gi_wp2_with fail
    refine⟨trivial,fun _=>by omega,callsIn_wide.2 ((jW base B b s root x.1 live m R fr vs vf w3 hT hS hxi).mono ?_)⟩;rintro e w4 ⟨g,o,rfl,hnp,hb4⟩;rw[ed] at hnp;obtain⟨_,_,_,_,_,_,_,_,t8⟩:=hnp.cells;have t8':w4.cell? ⟨g,o+8,none⟩=some (.int .i64 (Tr.fs (rest.map (·.1)))):=by rw[t8,←IE.out,←hdn];rfl
    have hK4:=hK.below w3 w4 hb4 hK3;clear hT hS hne hnp t8 ed hdn
    gi_wp2_with fail
    go_roundw
    case rel=>
     exact⟨pre++[x],rest,rfl,by rw[HAT.out];simp,hK4,hJ _ w3 w4 none hJ3 (ay hb4 none) (fun r e=>by cases e)⟩
    case measure=>
     have:=YL.out;show l.length - l.idxOf (Tr.fs (rest.map (·.1)))<l.length - l.idxOf x.1;omega
   ·gi_wp2_with fail
    refine bodyPost_ret (results_none rfl _ _ _) rfl ?_;exact⟨⟨_,rfl⟩,.inr ⟨_,⟨rest,by rw[HAT.out];simp⟩,hJx3⟩⟩
structure YM (KI:World→Prop) (B bt bh:Nat) (b s h:Int) (l:List Int):Prop where
 read:∀ W,KI W→∃ (base n live:Nat) (vs vf:Value) (R:Int→Option Tr.Nd) (fr:List Nat) (root:Int),TV base W B b s vs n R vf fr live root∧Sound b s n R fr live∧(l=[]→R h=none)∧∀ x∈l,∃ e,R x=some e∧e.pa=Tr.nK l x
 below:∀ W W',Below W.heap.size W W'→KI W→KI W'
 box:∀ W,KI W→W.cell? ⟨bt,0,none⟩=some (.pointer (some ⟨B,0,none⟩))∧W.cell? ⟨bh,0,none⟩=some (.int .i64 h)
theorem Vy (KI:World→Prop) (B bt bh lp n:Nat) (b s h:Int) (l:List Int) (J Jx:List {x:Int // x∈l}→World→Prop) (W:World) (hK:YM KI B bt bh b s h l) (hh:kM h) (hhd:l≠[]→Tr.fs l=h) (hnd:l.Nodup) (h0l:0∉l) (hn:2≤n)
  (hJ:AbidesFrom W.heap.size J)
  (hY:∀ pre x W1,J pre W1→pre.length<l.length→YieldAt Fence.wide (n - 1) Tryz.prog lp #[.int .i64 x.1] W1 fun e W'=>(e=.returned (.bool true)∧J (pre++[x]) W'∧(KI W1→KI W'))∨(e=.returned (.bool false)∧Jx (pre++[x]) W'))
  (hKW:KI W) (h0:J [] W):
  CallsIn Fence.wide n Tryz.prog 84 #[.func (.yield lp) #[] #[],.pointer (some ⟨bh,0,none⟩),.pointer (some ⟨bt,0,none⟩)] W fun e W'=>(∃ v,e=.returned v)∧
   ((∃ xs,xs=l.attach∧J xs W')∨(∃ pre,pre <+: l.attach∧Jx pre W')):=by
 obtain⟨c0,c1⟩:=hK.box W hKW;refine callsIn_of_wp Tryz.func84 rfl trivial ?_ rfl;simp only[Tryz.ntmps84,pT,Nat.reduceAdd,Nat.reduceSub]
 gi_wp2_with fail
 gi_loopw [4] (fun k wr=>∃ (pre rest:List {x:Int // x∈l}) (y:Int),k=.int .i64 y∧(rest=[]→(l=[]∧y=h)∨y=0)∧(rest≠[]→y=Tr.fs (rest.map (·.1)))∧l.attach=pre++rest∧KI wr∧J pre wr) (fun k _=>l.length - l.idxOf (intOf k))
 case atStart=>
  refine⟨[],l.attach,h,rfl,fun e=>.inl ⟨by simpa using e,rfl⟩,fun e=>?_,rfl,hKW,h0⟩;rw[List.attach_map_subtype_val];exact (hhd (fun e'=>e (by simp[e']))).symm
 case round=>
  obtain⟨pre,rest,y,rfl,hr0,hr1,hat,hKr,TU⟩:=hrel;have hmap:pre.map (·.1)++rest.map (·.1)=l:=by
   have:=congrArg (List.map (·.1)) hat;rw[List.map_append,List.attach_map_subtype_val] at this;exact this.symm
  obtain⟨q0,q1⟩:=hK.box wr hKr;obtain⟨base,m,live,vs,vf,R,fr,root,hT,hS,hnone,hne⟩:=hK.read wr hKr;cases rest with
  | nil=>
   have hy:R y=none∧kM y:=by
    rcases hr0 rfl with ⟨e1,e2⟩ | e
    ·rw[e2];exact⟨hnone e1,hh⟩
    ·rw[e];exact⟨hS.zero (Int.le_refl 0),by constructor<;>omega⟩
   have hat':l.attach=pre:=by rw[hat,List.append_nil]
   have HA:=zh hat';have HH:=zh (wC base B b s root y live m R fr vs vf wr hT hS hy.2);have HY0:=zh hy.1;clear hat hat' hmap hY hnd hr0 hr1 hT hS hnone hne hy
   gi_wp2_with fail
   refine⟨trivial,fun _=>by omega,callsIn_wide.2 (HH.out.mono ?_)⟩;rintro e w4 ⟨rfl,hb4⟩;have Vz:=hJ _ wr w4 none TU (ay hb4 none) (fun r e=>by cases e);rw[HY0.out]
   gi_wp2_with fail
   go_end0
   exact⟨⟨_,rfl⟩,.inl ⟨pre,HA.out.symm,Vz⟩⟩
  | cons x rest=>
   have hyx:y=x.1:=hr1 (by simp);subst hyx;have hlen:pre.length<l.length:=by
    have:=congrArg List.length hmap;simp at this;omega
   obtain⟨hnx,hidx,hidx2⟩:=xE (A:=pre.map (·.1)) (v:=x.1) (C:=rest.map (·.1)) hmap.symm hnd h0l;rw[List.length_map] at hidx hidx2;obtain⟨d,ed,hdn⟩:=hne x.1 x.2;have hxi:=(bN hS (h:=x.1) (by rw[ed];rfl)).1;have HH:=zh (wC base B b s root x.1 live m R fr vs vf wr hT hS hxi);have HAT:=zh hat;have IE:=zh hnx;have YL:=zh (And.intro hidx hidx2);have HED:=zh ed;have hxm:=x.2;clear hat hmap hnx hidx hidx2 hr0 hr1 hT hS hnone hne hdn ed
   gi_wp2_with fail
   refine⟨trivial,fun _=>by omega,callsIn_wide.2 (HH.out.mono ?_)⟩;rintro e w4 ⟨rfl,hb4⟩;have Vz:=hJ _ wr w4 none TU (ay hb4 none) (fun r e=>by cases e);have hK4:=hK.below wr w4 hb4 hKr;obtain⟨fn,tmps,assign,body,hy,hR⟩:=hY pre x w4 Vz hlen;rw[HED.out];clear hY
   gi_wp2_with fail
   refine⟨fun _=>by omega,hR.mono ?_⟩;rintro e w3 (⟨rfl,hJ3,hk3⟩ | ⟨rfl,hJx3⟩)
   ·have hK3:=hk3 hK4;obtain⟨base,m,live,vs,vf,R,fr,root,hT,hS,_,hne⟩:=hK.read w3 hK3;obtain⟨c0,c1⟩:=hK.box w3 hK3;obtain⟨d,ed,hdn⟩:=hne x.1 hxm
    gi_wp2_with fail
    refine⟨trivial,fun _=>by omega,callsIn_wide.2 ((jW base B b s root x.1 live m R fr vs vf w3 hT hS hxi).mono ?_)⟩;rintro e w5 ⟨g,o,rfl,hnp,hb5⟩;rw[ed] at hnp;obtain⟨_,_,_,_,t4,_,_,_,_⟩:=hnp.cells;have t4':w5.cell? ⟨g,o+4,none⟩=some (.int .i64 (Tr.fs (rest.map (·.1)))):=by rw[t4,←IE.out,←hdn];rfl
    have Qz:=hK.below w3 w5 hb5 hK3;clear hT hS hne hnp t4 ed hdn
    gi_wp2_with fail
    go_roundw
    case rel=>
     exact⟨pre++[x],rest,_,rfl,fun e=>.inr (by rw[e];rfl),fun _=>rfl,by rw[HAT.out];simp,Qz,hJ _ w3 w5 none hJ3 (ay hb5 none) (fun r e=>by cases e)⟩
    case measure=>
     have:=YL.out;show l.length - l.idxOf (Tr.fs (rest.map (·.1)))<l.length - l.idxOf x.1;omega
   ·gi_wp2_with fail
    refine bodyPost_ret (results_none rfl _ _ _) rfl ?_;exact⟨⟨_,rfl⟩,.inr ⟨_,⟨rest,by rw[HAT.out];simp⟩,hJx3⟩⟩
end
section
open Go.RowKit Go.Shelf
theorem BO (base B:Nat) (b s root x t:Int) (live n:Nat) (g:Tr.G) (av:Int→Tr.Sl) (fr:List Nat) (vs vf:Value) (nx:Tr.GN) (w:World) (hm:TV base w B b s vs n (Tr.raw g av) vf fr live root) (hS:Sound b s n (Tr.raw g av) fr live) (hw:Tr.WF 0 g) (ex:g x=some nx) (ht:t∈Tr.aY g x):
  Calls Tryz.prog 42 #[.pointer (some ⟨B,0,none⟩),.int .i64 x,.int .i64 t] w fun e w'=>e=.returned (.int .i64 (Tr.GL g t x))∧Below w.heap.size w w':=by
 have hkx:=Tr.aH ex;have hki:∀ k∈Tr.au g x,(g k).isSome:=fun k hk=>by obtain⟨m,e,_⟩:=hw.dO hk;rw[e];rfl
 have hk0:0∉Tr.au g x:=hw.mE x;by_cases hz:Tr.fs nx.kids=0
 ·have hke:Tr.au g x=[]:=Tr.tQ hk0 (by rw[hkx];exact hz);have hr:Tr.GL g t x=Tr.fs (Tr.rest g t (Tr.aY g x)):=by unfold Tr.GL;rw[hke];rfl
  obtain⟨X,hX⟩:=eX (Tr.GL g t x)
  rw[hX] at hr ⊢;have hgt:(g t).isSome:=(hw.bY x).1.mem ht;have ht0:t≠0:=fun e=>by rw[e,hw.zero] at hgt;cases hgt
  have HR:=zh hr;have HT:=zh ht;clear hr hX ht hke hki hk0 hkx
  go_enter Tryz.func42,Tryz.ntmps42
  go_wp2_with fail;refine (gW base B b s root x live n _ fr vs vf (Tr.fA g av x nx) w hm hS (Tr.aj ex)).mono ?_;rintro e w2 ⟨gb,o,rfl,hpt,hb2⟩;obtain⟨_,_,_,_,_,t5,_,_,_⟩:=((hm.below hb2).np hpt (Tr.aj ex)).cells;have t5':w2.cell? ⟨gb,o+5,none⟩=some (.int .i64 0):=by rw[t5,←hz];rfl
  have HE:=zh ex;clear t5 hz ex hpt;go_wp2_with fail
  go_loopw [1,8] (fun hv nv wr=>∃ (y:Int) (l:List Int),hv=.int .i64 y∧Tr.Up g y l∧t∈l∧X=Tr.fs (Tr.rest g t l)∧Below w.heap.size w wr) (fun hv _ _=>(Tr.aY g (intOf hv)).length)
  case atStart=>exact⟨x,Tr.aY g x,rfl,(hw.bY x).1,HT.out,HR.out,hb2⟩
  case round=>
   obtain⟨y,l,rfl,hu,htl,hX,hbr⟩:=hrel;have hlu:=hw.iq hu;cases hu with
   | out e=>cases htl
   | @node _ m l e hu=>
    by_cases YN:y=t
    ·have hX0:X=0:=by rw[hX,YN,Tr.Ai];rfl
     have HX:=zh hX0;subst YN;have hq:(y != y)=false:=by simp
     clear hX hX0 htl hu hlu;go_wp2_with fail
     go_ret
     exact⟨kD HX.out.symm,hbr⟩
    ·have hy0:y≠0:=fun e1=>by rw[e1,hw.zero] at e;cases e
     have hq1:(y != t)=true:=by simpa using YN
     have hq2:(y != 0)=true:=by simpa using hy0
     have hst:=hw.rest_step e YN l;rw[←hX] at hst;have YO:t∈l:=by rcases List.mem_cons.1 htl with e1 | e1;exact absurd e1.symm YN;exact e1
     have hmr:=hm.below hbr;have HST:=zh hst;have HE2:=zh e;have Zt:=zh YO;have HLU:=zh hlu;have HUU:=zh hu;clear hX hst htl YO hlu hu e;go_wp2_with fail;refine (gW base B b s root y live n _ fr vs vf (Tr.fA g av y m) wr hmr hS (Tr.aj HE2.out)).mono ?_;rintro e w4 ⟨YP,o4,rfl,MX,hb4⟩;obtain⟨_,_,_,_,t4,_,_,_,t8⟩:=((hmr.below hb4).np MX (Tr.aj HE2.out)).cells;have t4':w4.cell? ⟨YP,o4+4,none⟩=some (.int .i64 m.pa):=t4;have t8':w4.cell? ⟨YP,o4+8,none⟩=some (.int .i64 (Tr.nK (Tr.au g m.pa) y)):=t8;have hb5:Below w.heap.size w w4:=hbr.trans (hb4.mono hbr.size);obtain⟨N,hN⟩:=eX (Tr.nK (Tr.au g m.pa) y)
     rw[hN] at t8';have HN:=zh hN;clear t4 t8 hN hmr MX;by_cases hnz:N=0
     ·have hX2:X=Tr.fs (Tr.rest g t l):=by rw[HST.out,HN.out,if_pos hnz]
      subst hnz;have gM:=zh hX2;clear hX2;go_wp2_with fail
      go_roundw
      case rel=>exact⟨m.pa,l,rfl,HUU.out,Zt.out,gM.out,hb5⟩
      case measure=>
       show (Tr.aY g m.pa).length<(Tr.aY g y).length;rw[hw.bC HE2.out];simp
     ·have hX2:X=N:=by rw[HST.out,HN.out,if_neg hnz]
      have hq3:(N != 0)=true:=by simpa using hnz
      have gM:=zh hX2;clear hX2;go_wp2_with fail
      go_ret
      exact⟨kD gM.out.symm,hb5⟩
 ·have hr:Tr.GL g t x=Tr.fs nx.kids:=by
   unfold Tr.GL;rw[Tr.La hw _ hki,if_neg (fun e=>hz (by rw[←hkx,e];rfl)),hkx]
  rw[hr];have hq:(Tr.fs nx.kids != 0)=true:=by simpa using hz
  clear ht hkx hki hk0 hr
  go_enter Tryz.func42,Tryz.ntmps42
  go_wp2_with fail;refine (gW base B b s root x live n _ fr vs vf (Tr.fA g av x nx) w hm hS (Tr.aj ex)).mono ?_;rintro e w2 ⟨gb,o,rfl,hpt,hb2⟩;obtain⟨_,_,_,_,_,t5,_,_,_⟩:=((hm.below hb2).np hpt (Tr.aj ex)).cells;have t5':w2.cell? ⟨gb,o+5,none⟩=some (.int .i64 (Tr.fs nx.kids)):=t5;clear t5 hm hS hpt;go_wp2_with fail
  go_ret
  exact⟨rfl,hb2⟩
end
section
open Go.RowKit Go.Shelf
attribute [local go_sem] Oper.semAt_some
theorem pI (B:Nat) (h:Int) (w:World):
  Calls Tryz.prog 15 #[.pointer (some ⟨B,0,none⟩),.int .i64 h] w fun e w'=>
   e=.returned (.func (.func 40) #[] #[.pointer (some ⟨w.heap.size,0,none⟩),.pointer (some ⟨w.heap.size+1,0,none⟩)])∧w'=(w.alloc (.cells #[.pointer (some ⟨B,0,none⟩)] 29)).alloc (.cells #[.int .i64 h] 3):=by
 go_enter Tryz.func15,Tryz.ntmps15
 go_wp2_with fail
 go_ret
 exact⟨rfl,rfl⟩
structure YQ (KI:World→Prop) (B bt bh:Nat) (b s h:Int) (g:Tr.G):Prop where
 read:∀ W,KI W→∃ (base n live:Nat) (vs vf:Value) (av:Int→Tr.Sl) (fr:List Nat) (root:Int),TV base W B b s vs n (Tr.raw g av) vf fr live root∧Sound b s n (Tr.raw g av) fr live
 below:∀ W W',Below W.heap.size W W'→KI W→KI W'
 box:∀ W,KI W→W.cell? ⟨bt,0,none⟩=some (.pointer (some ⟨B,0,none⟩))∧W.cell? ⟨bh,0,none⟩=some (.int .i64 h)
theorem PG (KI:World→Prop) (B bt bh lp n:Nat) (b s h:Int) (g:Tr.G) (hw:Tr.WF 0 g) (J Jx:List {x:Int // x∈Tr.ak g h}→World→Prop) (W:World) (hK:YQ KI B bt bh b s h g) (hh:kM h) (hn:2≤n)
  (hJ:AbidesFrom W.heap.size J)
  (hY:∀ pre x W1,J pre W1→pre.length<(Tr.ak g h).length→YieldAt Fence.wide (n - 1) Tryz.prog lp #[.int .i64 x.1] W1 fun e W'=>(e=.returned (.bool true)∧J (pre++[x]) W'∧(KI W1→KI W'))∨(e=.returned (.bool false)∧Jx (pre++[x]) W'))
  (hKW:KI W) (h0:J [] W):
  CallsIn Fence.wide n Tryz.prog 40 #[.func (.yield lp) #[] #[],.pointer (some ⟨bt,0,none⟩),.pointer (some ⟨bh,0,none⟩)] W fun e W'=>(∃ v,e=.returned v)∧
   ((∃ xs,xs=(Tr.ak g h).attach∧J xs W')∨(∃ pre,pre <+: (Tr.ak g h).attach∧Jx pre W')):=by
 obtain⟨c0,c1⟩:=hK.box W hKW;obtain⟨base,m,live,vs,vf,av,fr,root,hT,hS⟩:=hK.read W hKW;have HH:=zh (wC base B b s root h live m _ fr vs vf W hT hS hh);obtain⟨l,hl⟩:=eX (Tr.ak g h)
 cases eg:g h with
 | none=>
  have hnil:Tr.ak g h=[]:=Tr.nY eg;have hraw:=Tr.bG (av:=av) eg;have HAT:=zh (show ([]:List {x:Int // x∈Tr.ak g h})=(Tr.ak g h).attach by
   symm;exact List.eq_nil_of_length_eq_zero (by rw[List.length_attach,hnil];rfl))
  have VA:=zh hraw;clear hT hS hY hl hnil hraw;refine callsIn_of_wp Tryz.func40 rfl trivial ?_ rfl;simp only[Tryz.ntmps40,pT,Nat.reduceAdd,Nat.reduceSub]
  gi_wp2_with fail
  refine⟨trivial,fun _=>by omega,callsIn_wide.2 (HH.out.mono ?_)⟩;rintro e w4 ⟨rfl,hb4⟩;have Vz:=hJ _ W w4 none h0 (ay hb4 none) (fun r e=>by cases e);rw[VA.out]
  gi_wp2_with fail
  refine bodyPost_ret (results_none rfl _ _ _) rfl ?_;exact⟨⟨_,rfl⟩,.inl ⟨[],HAT.out,Vz⟩⟩
 | some nh=>
  have hraw:=Tr.aj (av:=av) eg;have hw1:=hw.dx eg;have hz:h≠0:=fun e=>by rw[e,hw.zero] at eg;cases eg
  have YR:=hw.lN h;have h0w:=hw.xw h;have VA:=zh hraw;clear hT hS hl hraw;refine callsIn_of_wp Tryz.func40 rfl trivial ?_ rfl;simp only[Tryz.ntmps40,pT,Nat.reduceAdd,Nat.reduceSub]
  gi_wp2_with fail
  refine⟨trivial,fun _=>by omega,callsIn_wide.2 (HH.out.mono ?_)⟩;rintro e w4 ⟨rfl,hb4⟩;have Vz:=hJ _ W w4 none h0 (ay hb4 none) (fun r e=>by cases e);have hK4:=hK.below W w4 hb4 hKW;rw[VA.out];obtain⟨d0,d1⟩:=hK.box w4 hK4;clear c0 c1
  gi_wp2_with fail
  gi_loopw [4] (fun k wr=>∃ pre rest:List {x:Int // x∈Tr.ak g h},k=.int .i64 (Tr.fs (rest.map (·.1)))∧(Tr.ak g h).attach=pre++rest∧(∀ y r,rest.map (·.1)=y::r→(g y).isSome∧h∈Tr.aY g y∧r=(Tr.au g y).flatMap (Tr.ak g)++Tr.rest g h (Tr.aY g y))∧KI wr∧J pre wr) (fun k _=>(Tr.ak g h).length - (Tr.ak g h).idxOf (intOf k))
  case atStart=>
   refine⟨[],(Tr.ak g h).attach,by rw[List.attach_map_subtype_val,hw1];rfl,rfl,fun y r e=>?_,hK4,Vz⟩;rw[List.attach_map_subtype_val,hw1] at e;injection e with e1 e2;subst e1;refine⟨by rw[eg];rfl,by rw[hw.bC eg];simp,?_⟩;rw[hw.bC eg,Tr.Ai,List.append_nil,Tr.aH eg];exact e2.symm
  case round=>
   obtain⟨pre,rest,rfl,hat,hst,hKr,TU⟩:=hrel;have hmap:pre.map (·.1)++rest.map (·.1)=Tr.ak g h:=by
    have:=congrArg (List.map (·.1)) hat;rw[List.map_append,List.attach_map_subtype_val] at this;exact this.symm
   obtain⟨q0,q1⟩:=hK.box wr hKr;cases rest with
   | nil=>
    have hat':(Tr.ak g h).attach=pre:=by rw[hat,List.append_nil]
    have HA:=zh hat';clear hat hat' hmap hY YR hst hw1 h0w
    gi_wp2_with fail
    go_end0
    exact⟨⟨_,rfl⟩,.inl ⟨pre,HA.out.symm,TU⟩⟩
   | cons x rest=>
    have hfs:Tr.fs ((x::rest).map (·.1))=x.1:=rfl;have hx0:x.1≠0:=fun e=>h0w (e▸x.2);have hc1:(x.1 != 0)=true:=by simpa using hx0
    have hlen:pre.length<(Tr.ak g h).length:=by
     have:=congrArg List.length hmap;simp at this;omega
    obtain⟨_,hidx,hidx2⟩:=xE (A:=pre.map (·.1)) (v:=x.1) (C:=rest.map (·.1)) hmap.symm YR h0w;rw[List.length_map] at hidx hidx2;obtain⟨hgx,hux,hrx⟩:=hst x.1 (rest.map (·.1)) rfl;obtain⟨nx,ex⟩:=Option.isSome_iff_exists.1 hgx;have YS:Tr.GL g h x.1=Tr.fs (rest.map (·.1)):=by unfold Tr.GL;rw[←hrx]
    have YT:∀ y r,rest.map (·.1)=y::r→(g y).isSome∧h∈Tr.aY g y∧r=(Tr.au g y).flatMap (Tr.ak g)++Tr.rest g h (Tr.aY g y):=fun y r e=>hw.Pb hux (hrx.symm.trans e);rw[hfs];obtain⟨fn,tmps,assign,body,hy,hR⟩:=hY pre x wr TU hlen;have HAT:=zh hat;have YL:=zh (And.intro hidx hidx2);have abl:=zh YS;have abm:=zh YT;have HUX:=zh hux;have HEX:=zh ex;clear hat hmap hY hfs hidx hidx2 hst hgx hux hrx YS YT hw1 ex
    gi_wp2_with fail
    refine⟨fun _=>by omega,hR.mono ?_⟩;rintro e w3 (⟨rfl,hJ3,hk3⟩ | ⟨rfl,hJx3⟩)
    ·have hK3:=hk3 hKr;obtain⟨base,m,live,vs,vf,av,fr,root,hT,hS⟩:=hK.read w3 hK3;obtain⟨c0,c1⟩:=hK.box w3 hK3;have HF:=zh (BO base B b s root x.1 h live m g av fr vs vf nx w3 hT hS hw HEX.out HUX.out);clear hT hS
     gi_wp2_with fail
     refine⟨trivial,fun _=>by omega,callsIn_wide.2 (HF.out.mono ?_)⟩;rintro e w5 ⟨rfl,hb5⟩;have Qz:=hK.below w3 w5 hb5 hK3;rw[abl.out]
     gi_wp2_with fail
     go_roundw
     case rel=>
      exact⟨pre++[x],rest,rfl,by rw[HAT.out];simp,abm.out,Qz,hJ _ w3 w5 none hJ3 (ay hb5 none) (fun r e=>by cases e)⟩
     case measure=>
      have:=YL.out;show (Tr.ak g h).length - (Tr.ak g h).idxOf (Tr.fs (rest.map (·.1)))<(Tr.ak g h).length - (Tr.ak g h).idxOf x.1;omega
    ·gi_wp2_with fail
     refine bodyPost_ret (results_none rfl _ _ _) rfl ?_;exact⟨⟨_,rfl⟩,.inr ⟨_,⟨rest,by rw[HAT.out];simp⟩,hJx3⟩⟩
end
section
open Go.RowKit Go.Shelf
attribute [local go_sem] Oper.semAt_some
structure LS (base B bt bh:Nat) (b s h:Int) (vs:Value) (n:Nat) (R:Int→Option Tr.Nd) (vf:Value) (fr:List Nat) (live:Nat) (root:Int) (W:World):Prop where
 tree:TV base W B b s vs n R vf fr live root
 bt:Whole W bt #[.pointer (some ⟨B,0,none⟩)] 29
 bh:Whole W bh #[.int .i64 h] 3
section
variable {base B bt bh n live:Nat} {b s h root:Int} {vs vf:Value} {R:Int→Option Tr.Nd} {fr:List Nat} {W W':World}
theorem LS.below (H:LS base B bt bh b s h vs n R vf fr live root W) (hb:Below W.heap.size W W'):LS base B bt bh b s h vs n R vf fr live root W':=
 ⟨H.tree.below hb,H.bt.below hb H.bt.lt,H.bh.below hb H.bh.lt⟩
theorem TV.others {row:Option Nat} (H:TV base W B b s vs n R vf fr live root) (hg:W.grownBy W' row) (hr:∀ r,row=some r→∃ o:Obj,W.heap[r]?=some o∧o.isCells=false):TV base W' B b s vs n R vf fr live root:=by
 refine H.turns (S:=fun k=>row=some k) (.aT hg (fun k hk=>hk)) ?_;intro k hk e;obtain⟨o,ho,hc⟩:=hr k e;have hcell:∃ cs t fz,W.heap[k]?=some (.cells cs t fz):=by
  rcases hk with rfl | hk | hk
  ·exact⟨_,_,_,H.var⟩
  ·rcases H.row.2 with ⟨e1,_⟩ | ⟨g',cap,cur,e1,_,hg',_⟩
   ·rw[e1] at hk;simp[Value.ownBlock] at hk
   ·rw[e1] at hk;have:g'=k:=by simpa [Value.ownBlock] using hk
    rw[←this];exact⟨_,_,_,hg'⟩
  ·rcases H.free.2 with ⟨e1,_⟩ | ⟨g',cap,cur,e1,_,hg',_⟩
   ·rw[e1] at hk;simp[Value.ownBlock] at hk
   ·rw[e1] at hk;have:g'=k:=by simpa [Value.ownBlock] using hk
    rw[←this];exact⟨_,_,_,hg'⟩
 obtain⟨cs,t,fz,hx⟩:=hcell;rw[hx] at ho;obtain rfl:=Option.some.inj ho;cases hc
theorem aS {row:Option Nat} {k:Nat} {cs:Array Value} {t:TypeId} (H:Whole W k cs t) (hg:W.grownBy W' row) (hr:∀ r,row=some r→∃ o:Obj,W.heap[r]?=some o∧o.isCells=false):Whole W' k cs t:=
 H.grown hg (fun e=>by
  obtain⟨o,ho,hc⟩:=hr k e.symm;rw[show W.heap[k]?=_ from H] at ho;obtain rfl:=Option.some.inj ho
  cases hc)
theorem LS.others {row:Option Nat} (H:LS base B bt bh b s h vs n R vf fr live root W) (hg:W.grownBy W' row) (hr:∀ r,row=some r→∃ o:Obj,W.heap[r]?=some o∧o.isCells=false):LS base B bt bh b s h vs n R vf fr live root W':=
 ⟨H.tree.others hg hr,aS H.bt hg hr,aS H.bh hg hr⟩
theorem LS.set (H:LS base B bt bh b s h vs n R vf fr live root W) {m:Nat} (hm:¬ aD B vs vf m) (h1:m≠bt) (h2:m≠bh) (i:Nat) (v:Value):LS base B bt bh b s h vs n R vf fr live root (W.setCell ⟨m,i,none⟩ v):=
 ⟨H.tree.turns (S:=fun k=>k=m) (.aT (aO (ay (Below.refl W.heap.size W) (some m)) i v) (fun j hj=>by simpa using hj.symm)) (fun k hk e=>hm (e▸hk)),H.bt.other (fun e=>h1 e.symm) _,H.bh.other (fun e=>h2 e.symm) _⟩
theorem LS.pJ {P:World→Prop} {A B C:World} (h1:P A→P B) (h2:P B→P C):P A→P C:=fun x=>h2 (h1 x)
theorem LS.qP (w:World):∀ (W:World) (l:Nat) (o o':Obj),w.heap.size≤l→W.heap[l]?=some o→o.isCells=false→o.isWalk=false→LS base B bt bh b s h vs n R vf fr live root W→LS base B bt bh b s h vs n R vf fr live root (W.putObj l o'):=
 fun W l o o' _ hl hc _ H=>H.others (grownBy_putObj' W l o') (fun r e=>by cases e;exact⟨o,hl,hc⟩)
theorem l9 {W W':World} (h:Below W.heap.size W W'):KeepsOthers W W':=⟨h.size,fun k o hk _=>(h.block k (Array.getElem?_eq_some_iff.1 hk).1).trans hk⟩
theorem LS.kids {g:Tr.G} {av:Int→Tr.Sl} (hS:Sound b s n (Tr.raw g av) fr live) (hw:Tr.WF 0 g):Ut (LS base B bt bh b s h vs n (Tr.raw g av) vf fr live root) B bt bh b s h (Tr.au g h) where
 read W H:=by
  refine⟨base,n,live,vs,vf,Tr.raw g av,fr,root,H.tree,hS,?_,fun x hx=>?_⟩
  ·cases e:g h with
   | none=>rw[Tr.bG e,Tr.iE e];rfl
   | some m=>rw[Tr.aj e,Tr.aH e];rfl
  ·obtain⟨m,e1,e2⟩:=hw.dO hx;refine⟨_,Tr.aj e1,?_⟩;show Tr.nK (Tr.au g m.pa) x=_;rw[e2]
 below W W' hb H:=H.below hb
 box W H:=⟨H.bt.cell 0,H.bh.cell 0⟩
theorem RV {g:Tr.G} (hw:Tr.WF 0 g):∀ (l:List Int) (x:Int),Tr.Up g x l→∀ y∈l,∃ m,g y=some m∧m.pa=Tr.nK l y:=by
 intro l
 induction l with
 | nil=>intro x _ y hy;cases hy
 | cons a r ih=>
  intro x u y hy;cases u with
  | @node _ m _ e u=>
   rcases List.mem_cons.1 hy with rfl | hy
   ·refine⟨m,e,?_⟩;rw[Tr.nK,if_pos rfl];cases u with
    | out e'=>
     rcases hw.pa e with h1 | ⟨p,h1,_⟩
     ·exact h1
     ·rw[e'] at h1;cases h1
    | node _ _=>rfl
   ·obtain⟨m',h1,h2⟩:=ih _ u y hy;refine⟨m',h1,?_⟩;rw[Tr.nK,if_neg]
    ·exact h2
    ·rintro rfl;exact hw.above e u hy
theorem LS.up {g:Tr.G} {av:Int→Tr.Sl} (hS:Sound b s n (Tr.raw g av) fr live) (hw:Tr.WF 0 g):YM (LS base B bt bh b s h vs n (Tr.raw g av) vf fr live root) B bt bh b s h (Tr.aY g h) where
 read W H:=by
  refine⟨base,n,live,vs,vf,Tr.raw g av,fr,root,H.tree,hS,fun e=>?_,fun x hx=>?_⟩
  ·cases e1:g h with
   | none=>exact Tr.bG e1
   | some m=>rw[hw.bC e1] at e;cases e
  ·obtain⟨m,e1,e2⟩:=RV hw _ _ (hw.bY h).1 x hx;exact⟨_,Tr.aj e1,e2⟩
 below W W' hb H:=H.below hb
 box W H:=⟨H.bt.cell 0,H.bh.cell 0⟩
theorem LS.walk {g:Tr.G} {av:Int→Tr.Sl} (hS:Sound b s n (Tr.raw g av) fr live):YQ (LS base B bt bh b s h vs n (Tr.raw g av) vf fr live root) B bt bh b s h g where
 read W H:=⟨base,n,live,vs,vf,av,fr,root,H.tree,hS⟩
 below W W' hb H:=H.below hb
 box W H:=⟨H.bt.cell 0,H.bh.cell 0⟩
theorem RX {g:Tr.G} (hw:Tr.WF 0 g) (h:Int):Tr.aY g h≠[]→Tr.fs (Tr.aY g h)=h:=fun e=>by
 cases eg:g h with
 | none=>rw[hw.kU eg] at e;exact absurd rfl e
 | some m=>rw[hw.bC eg];rfl
theorem RY {g:Tr.G} (hw:Tr.WF 0 g) (h:Int):0∉Tr.aY g h:=fun e=>by
 have:=(hw.bY h).1.mem e;rw[hw.zero] at this;cases this
theorem EF {g:Tr.G} {av:Int→Tr.Sl} (hS:Sound b s n (Tr.raw g av) fr live) (hw:Tr.WF 0 g) (hh:kM h) (k:Nat) (hk:2≤k) (w:World) (H:LS base B bt bh b s h vs n (Tr.raw g av) vf fr live root w):
  SeqStopsK Fence.wide k Tryz.prog 84 #[.pointer (some ⟨bh,0,none⟩),.pointer (some ⟨bt,0,none⟩)] (fun x:{x:Int // x∈Tr.aY g h}=>#[.int .i64 x.1])
   (fun A B'=>LS base B bt bh b s h vs n (Tr.raw g av) vf fr live root A→LS base B bt bh b s h vs n (Tr.raw g av) vf fr live root B') (fun xs=>xs=(Tr.aY g h).attach) (fun pre=>pre <+: (Tr.aY g h).attach) (Tr.aY g h).length w:=
 fun l J Jx W hW hJ _ hY h0=>Vy _ B bt bh l k b s h (Tr.aY g h) J Jx W (LS.up hS hw) hh (RX hw h) (hw.GK h) (RY hw h) hk hJ hY (H.below hW) h0
theorem AP {g:Tr.G} {av:Int→Tr.Sl} (hS:Sound b s n (Tr.raw g av) fr live) (hw:Tr.WF 0 g) (hh:kM h) (k:Nat) (hk:2≤k) (w:World) (H:LS base B bt bh b s h vs n (Tr.raw g av) vf fr live root w):
  SeqStopsK Fence.wide k Tryz.prog 116 #[.pointer (some ⟨bt,0,none⟩),.pointer (some ⟨bh,0,none⟩)] (fun x:{x:Int // x∈Tr.au g h}=>#[.int .i64 x.1])
   (fun A B'=>LS base B bt bh b s h vs n (Tr.raw g av) vf fr live root A→LS base B bt bh b s h vs n (Tr.raw g av) vf fr live root B') (fun xs=>xs=(Tr.au g h).attach) (fun pre=>pre <+: (Tr.au g h).attach) (Tr.au g h).length w:=
 fun l J Jx W hW hJ _ hY h0=>FD _ B bt bh l k b s h (Tr.au g h) J Jx W (LS.kids hS hw) hh (hw.lD h) (hw.mE h) hk hJ hY (H.below hW) h0
theorem rF {g:Tr.G} {av:Int→Tr.Sl} (hS:Sound b s n (Tr.raw g av) fr live) (hw:Tr.WF 0 g) (hh:kM h) (k:Nat) (hk:2≤k) (w:World) (H:LS base B bt bh b s h vs n (Tr.raw g av) vf fr live root w):
  SeqStopsK Fence.wide k Tryz.prog 40 #[.pointer (some ⟨bt,0,none⟩),.pointer (some ⟨bh,0,none⟩)] (fun x:{x:Int // x∈Tr.ak g h}=>#[.int .i64 x.1])
   (fun A B'=>LS base B bt bh b s h vs n (Tr.raw g av) vf fr live root A→LS base B bt bh b s h vs n (Tr.raw g av) vf fr live root B') (fun xs=>xs=(Tr.ak g h).attach) (fun pre=>pre <+: (Tr.ak g h).attach) (Tr.ak g h).length w:=
 fun l J Jx W hW hJ _ hY h0=>PG _ B bt bh l k b s h g hw J Jx W (LS.walk hS) hh hk hJ hY (H.below hW) h0
theorem LS.made {w:World} (H:TV base w B b s vs n R vf fr live root):LS base B w.heap.size (w.heap.size+1) b s h vs n R vf fr live root ((w.alloc (.cells #[.pointer (some ⟨B,0,none⟩)] 29)).alloc (.cells #[.int .i64 h] 3)):=by
 refine⟨H.below (((Below.refl _ w).alloc (Nat.le_refl _) _).alloc (by simp) _),(Whole.new w _ _).alloc _,?_⟩;have:=Whole.new (w.alloc (.cells #[.pointer (some ⟨B,0,none⟩)] 29)) #[.int .i64 h] 3
 rwa [World.size_alloc] at this
end
end
section
section
open Go.RowKit Go.Shelf
attribute [local go_sem] Oper.semAt_some
namespace Tr
def kindOf (g:G) (h:Int):Int:=match g h with | some n=>n.kind | none=>0
theorem dA {g:G} {h:Int} {n:GN} (e:g h=some n):kindOf g h=n.kind:=by unfold kindOf;rw[e]
def jH (g:G) (p h:Int):Bool:=(au g p).any fun k=>k != h && kindOf g k == 2
end Tr
theorem MZ (base B:Nat) (b s root p h:Int) (live n:Nat) (g:Tr.G) (av:Int→Tr.Sl) (fr:List Nat) (vs vf:Value) (w:World) (hm:TV base w B b s vs n (Tr.raw g av) vf fr live root) (hS:Sound b s n (Tr.raw g av) fr live) (hw:Tr.WF 0 g) (hp:kM p):
  Calls Tryz.prog 94 #[.pointer (some ⟨B,0,none⟩),.int .i64 p,.int .i64 h] w fun e w'=>e=.returned (.bool (Tr.jH g p h))∧Below w.heap.size w w':=by
 have hlt:=hm.lt;refine (callsIn_wide (n:=8)).1 ?_;refine callsIn_of_wp_marks Tryz.func94 rfl trivial ?_ rfl;simp only[Tryz.ntmps94,pT,Nat.reduceAdd,Nat.reduceSub];obtain⟨w1,hw1⟩:=eX (((w.alloc (.cells #[.pointer (some ⟨B,0,none⟩)] 29)).alloc (.cells #[.int .i64 h] 3)).alloc (.cells #[.bool false] 4))
 have hz1:w1.heap.size=w.heap.size+3:=by rw[←hw1];simp
 have hb1:Below w.heap.size w w1:=by rw[←hw1];exact (((Below.refl _ w).alloc (Nat.le_refl _) _).alloc (by simp) _).alloc (by simp;omega) _
 have hT1:Whole w1 w.heap.size #[.pointer (some ⟨B,0,none⟩)] 29:=by rw[←hw1];exact ((Whole.new w _ _).alloc _).alloc _
 have hA1:Whole w1 (w.heap.size+1) #[.int .i64 h] 3:=by
  have:=(Whole.new (w.alloc (.cells #[.pointer (some ⟨B,0,none⟩)] 29)) #[.int .i64 h] 3).alloc (.cells #[.bool false] 4);rw[World.size_alloc] at this;rw[←hw1];exact this
 have hX1:Whole w1 (w.heap.size+1+1) #[.bool false] 4:=by
  have:=Whole.new ((w.alloc (.cells #[.pointer (some ⟨B,0,none⟩)] 29)).alloc (.cells #[.int .i64 h] 3)) #[.bool false] 4;rw[World.size_alloc,World.size_alloc] at this;rw[←hw1];exact this
 have hL:=LS.made (h:=p) (hm.below hb1);have hsz2:((w1.alloc (.cells #[.pointer (some ⟨B,0,none⟩)] 29)).alloc (.cells #[.int .i64 p] 3)).heap.size=w1.heap.size+2:=by simp
 have hb2:Below w1.heap.size w1 ((w1.alloc (.cells #[.pointer (some ⟨B,0,none⟩)] 29)).alloc (.cells #[.int .i64 p] 3)):=((Below.refl _ w1).alloc (Nat.le_refl _) _).alloc (by simp) _;have hseq:=AP hS hw hp 7 (by omega) _ hL;have xK:=zh (wS B p w1);have t1:w1.cell? ⟨w.heap.size,0,none⟩=some (.pointer (some ⟨B,0,none⟩)):=hT1.cell 0
 gi_wp2_with fail
 try rw[hw1]
 gi_wp2_with fail
 refine⟨trivial,(callsIn_wide.2 xK.out).mono ?_⟩;rintro e w' ⟨rfl,hw'⟩;rw[←hw'] at hL hsz2 hb2 hseq;have hX2:=hX1.below hb2 hX1.lt;have hA2:=hA1.below hb2 hA1.lt;have IC:=hT1.below hb2 hT1.lt;have hB2:=hb1.trans (hb2.mono hb1.size);have iU:=zh hS;clear hm hS hX1 hw' hb2 xK hA1 hT1 t1
 gi_wp2_with fail
 rw[hz1] at hseq hL hsz2;have hm1:¬ aD B vs vf (w.heap.size+1+1):=fun hk=>by have:=(hlt _ hk).2;omega
 refine wpIn_rangeFunc_ownF (w:=w') rfl (by decide) (gf:=116) (lb:=#[.pointer (some ⟨w.heap.size+1+1+1,0,none⟩),.pointer (some ⟨w.heap.size+1+1+1+1,0,none⟩)]) rfl trivial (enters_of Tryz.func116 (by kernel_rfl) rfl) hseq LS.pJ (LS.qP _) (Below.refl _ _) (fun _=>rfl)
  (fun pre W=>Whole W w.heap.size #[.pointer (some ⟨B,0,none⟩)] 29∧Whole W (w.heap.size+1) #[.int .i64 h] 3∧Whole W (w.heap.size+1+1) #[.bool false] 4∧LS base B (w.heap.size+1+1+1) (w.heap.size+1+1+1+1) b s p vs n (Tr.raw g av) vf fr live root W∧Below w.heap.size w W∧(pre.map (·.1)).any (fun k=>k != h && Tr.kindOf g k == 2)=false)
  (fun c _ W=>c=.ret∧Whole W (w.heap.size+1+1) #[.bool true] 4∧Below w.heap.size w W∧Tr.jH g p h=true)
  ?hI ?hIx ⟨IC,hA2,hX2,hL,hB2,rfl⟩ (fun x=>{ tmps:=#[.pointer (some ⟨B,0,none⟩),.int .i64 p,.int .i64 h,.pointer (some ⟨w.heap.size,0,none⟩),undef,.pointer (some ⟨w.heap.size+1,0,none⟩),.pointer (some ⟨w.heap.size+1+1,0,none⟩),.int .i64 x.1,.pointer (some ⟨B,0,none⟩),.int .i64 p,.func (.func 116) #[] #[.pointer (some ⟨w.heap.size+1+1+1,0,none⟩),.pointer (some ⟨w.heap.size+1+1+1+1,0,none⟩)],.int .i64 x.1,undef,undef,undef,undef,undef,undef,undef,undef,undef,undef,undef,undef],defers:=[] }) ?assign ?body ?done ?stop
 case hI=>
  rintro pre W W' row ⟨hT,h0,h1,h2,h3,h4⟩ hg hr;exact⟨aS hT hg (fun r e=>(hr r e).2),aS h0 hg (fun r e=>(hr r e).2),aS h1 hg (fun r e=>(hr r e).2),h2.others hg (fun r e=>(hr r e).2),h3.grown hg h3.size (fun r e=>by have:=(hr r e).1;omega),h4⟩
 case hIx=>
  rintro c pre W W' row ⟨h0,h1,h2,h3⟩ hg hr;exact⟨h0,aS h1 hg (fun r e=>(hr r e).2),h2.grown hg h2.size (fun r e=>by have:=(hr r e).1;omega),h3⟩
 case assign=>
  intro l x W K hK
  gi_wp2
  first | exact hK | simpa using hK
 case body=>
  rintro l pre x W ⟨hT,hA,hX,kJ,hBW,hnot⟩ hlen;have t0:W.cell? ⟨w.heap.size,0,none⟩=some (.pointer (some ⟨B,0,none⟩)):=hT.cell 0;have a0:W.cell? ⟨w.heap.size+1,0,none⟩=some (.int .i64 h):=hA.cell 0;have c0:W.cell? ⟨w.heap.size+1+1,0,none⟩=some (.bool false):=hX.cell 0;have f0:=hX.free 0;obtain⟨mx,ex,_⟩:=hw.dO x.2;have hany:∀ v,(x.1 != h && Tr.kindOf g x.1 == 2)=v→((pre++[x]).map (·.1)).any (fun k=>k != h && Tr.kindOf g k == 2)=v:=fun v e=>by
   rw[List.map_append,List.any_append,hnot,Bool.false_or,←e];simp
  by_cases hxh:x.1=h
  ·have hq:(x.1 != h)=false:=by simpa using hxh
   have HF:=zh (And.intro hT (And.intro hA (And.intro hX (And.intro kJ (And.intro hBW (hany false (by rw[hq];rfl)))))));clear hT hA hX kJ hBW hnot hxh hany
   gi_wp2_with fail
   refine And.intro (by first | exact trivial | (intros;exact trivial)) ?_
   gi_wp2_with fail
   exact⟨KeepsOthers.refl _,fun h=>h,HF.out⟩
  ·have hq:(x.1 != h)=true:=by simpa using hxh
   have hxi:=(bN iU.out (h:=x.1) (by rw[aM,ex];rfl)).1;have HAT:=zh (jW base B b s root x.1 live n (Tr.raw g av) fr vs vf W kJ.tree iU.out hxi);have HST:=zh (And.intro hT (And.intro hA (And.intro hX (And.intro kJ hBW))));have abn:=zh hany;clear hT hA hX kJ hBW hnot hany
   gi_wp2_with fail
   refine⟨trivial,(CallsIn.inRound l (callsIn_wide.2 HAT.out)).mono ?_⟩;rintro e w4 ⟨g4,o4,rfl,hnp,hb4⟩;rw[Tr.aj ex] at hnp;obtain⟨k0,_⟩:=hnp.cells;have k0':w4.cell? ⟨g4,o4,none⟩=some (.int .i64 mx.kind):=k0;obtain⟨hT,hA,hX,kJ,hBW⟩:=HST.out;have DU:=hT.below hb4 hT.lt;have Ru:=hA.below hb4 hA.lt;have bB:=hX.below hb4 hX.lt;have hL4:=kJ.below hb4;have hB4:=hBW.trans (hb4.mono hBW.size);have c4:w4.cell? ⟨w.heap.size+1+1,0,none⟩=some (.bool false):=bB.cell 0;have f4:=bB.free 0;have hko:=l9 hb4;have hkd:=Tr.dA ex;by_cases hk2:mx.kind=2
   ·have hq2:(mx.kind == 2)=true:=by simpa using hk2
    have Bt:=bB.put 0 (.bool true);have htr:Tr.jH g p h=true:=by
     unfold Tr.jH;rw[List.any_eq_true];exact⟨x.1,x.2,by rw[hq,hkd,hk2];rfl⟩
    have HF:=zh (And.intro Bt (And.intro (hB4.setCell (p:=⟨w.heap.size+1+1,0,none⟩) (by show _≤w.heap.size+1+1;omega) (.bool true)) htr));clear hT hA hX kJ hBW DU Ru bB hL4 hB4 Bt htr hk2 hnp hkd k0
    gi_wp2_with fail
    exact⟨hko.trans (KeepsOthers.setCell _ _ _),rfl,HF.out⟩
   ·have hq2:(mx.kind == 2)=false:=by simpa using hk2
    have HF:=zh (And.intro DU (And.intro Ru (And.intro bB (And.intro hL4 (And.intro hB4 (abn.out false (by rw[hq,hkd,hq2];rfl)))))));clear hT hA hX kJ hBW DU Ru bB hB4 hk2 hnp hkd k0
    gi_wp2_with fail
    exact⟨hko,fun _=>hL4,HF.out⟩
 case done=>
  rintro D xs W hD rfl ⟨_,_,hX,kJ,hBW,hnot⟩ hK;rw[List.attach_map_subtype_val] at hnot;have c0:W.cell? ⟨w.heap.size+1+1,0,none⟩=some (.bool false):=hX.cell 0;have f0:=hX.free 0;have Bt:=hX.put 0 (.bool false);have hKs:=(KeepsOthers.setCell W ⟨w.heap.size+1+1,0,none⟩ (.bool false)).same D _ hK rfl;have QI:=hBW.setCell (p:=⟨w.heap.size+1+1,0,none⟩) (by show _≤w.heap.size+1+1;omega) (.bool false);obtain⟨V,hV⟩:=eX (W.setCell ⟨w.heap.size+1+1,0,none⟩ (.bool false))
  rw[hV] at Bt hKs QI;have c9:V.cell? ⟨w.heap.size+1+1,0,none⟩=some (.bool false):=Bt.cell 0;have hca:=cell_kept c9 (grownBy_putObj' V D (.deferred none)) (fun r e=>by cases e;exact⟨_,hKs,rfl⟩);have HB:=zh (QI.trans (belowK_b (w:=w) (Nat.le_refl _) V D _ (.deferred none) (by omega) hKs rfl rfl));have HN:=zh hnot;clear hX kJ hBW Bt hnot QI
  gi_wp2_with fail
  refine⟨by simp,.inl ⟨_,_,rfl,run_takeDeferred hKs,?_⟩⟩;refine⟨.bool false,?_,?_,HB.out⟩
  ·simp[results,Tryz.f94,go_sem,hca]
  ·exact fI HN.out.symm
 case stop=>
  rintro D c pre W hD hsp ⟨rfl,hX,hBW,hmem⟩ hK;have c0:W.cell? ⟨w.heap.size+1+1,0,none⟩=some (.bool true):=hX.cell 0;have hca:=cell_kept c0 (grownBy_putObj' W D (.deferred none)) (fun r e=>by cases e;exact⟨_,hK,rfl⟩);have HB:=zh (hBW.trans (belowK_b (w:=w) (Nat.le_refl _) W D _ (.deferred none) (by omega) hK rfl rfl));have HN:=zh hmem;clear hX hBW hmem
  gi_wp2_with fail
  refine⟨by simp,.inl ⟨_,_,rfl,run_takeDeferred hK,?_⟩⟩;refine⟨.bool true,?_,?_,HB.out⟩
  ·simp[results,Tryz.f94,go_sem,hca]
  ·exact fI HN.out.symm
end
end
section
section
open Go.RowKit
namespace Tr
def dW (g:G) (p h:Int):Bool:=
 if kindOf g p=2 then kindOf g h != 1 else if kindOf g p=1 then (kindOf g h == 4 || (kindOf g h == 2 && !jH g p h)) else false
end Tr
theorem rT (base B:Nat) (b s root p h:Int) (live n:Nat) (g:Tr.G) (av:Int→Tr.Sl) (fr:List Nat) (vs vf:Value) (np nh:Tr.GN) (w:World) (hm:TV base w B b s vs n (Tr.raw g av) vf fr live root) (hS:Sound b s n (Tr.raw g av) fr live) (hw:Tr.WF 0 g) (ep:g p=some np) (eh:g h=some nh):
  Calls Tryz.prog 53 #[.pointer (some ⟨B,0,none⟩),.int .i64 p,.int .i64 h] w fun e w'=>e=.returned (.bool (Tr.dW g p h))∧Below w.heap.size w w':=by
 have hpi:=(bN hS (h:=p) (by rw[aM,ep];rfl)).1;have hkp:=Tr.dA ep;have hkh:=Tr.dA eh;obtain⟨kp,VJ⟩:=eX (np.kind)
 obtain⟨kh,VK⟩:=eX (nh.kind)
 rw[VJ] at hkp;rw[VK] at hkh;have hacc:Tr.dW g p h=if kp=2 then kh != 1 else if kp=1 then (kh == 4 || (kh == 2 && !Tr.jH g p h)) else false:=by unfold Tr.dW;rw[hkp,hkh]
 have hA:=fun (W:World) (hb:Below w.heap.size w W)=>gW base B b s root h live n _ fr vs vf _ W (hm.below hb) hS (Tr.aj (av:=av) eh);have hP:=fun (W:World) (hb:Below w.heap.size w W)=>gW base B b s root p live n _ fr vs vf _ W (hm.below hb) hS (Tr.aj (av:=av) ep);have hO:=fun (W:World) (hb:Below w.heap.size w W)=>MZ base B b s root p h live n g av fr vs vf W (hm.below hb) hS hw hpi;have kA:∀ (W:World) (gb o:Nat),Below w.heap.size w W→PtrTo b s vs n gb o h→W.cell? ⟨gb,o,none⟩=some (.int .i64 kh):=fun W gb o hb hpt=>by
  rw[←VK];exact ((hm.below hb).np hpt (Tr.aj (av:=av) eh)).cells.1
 have kP:∀ (W:World) (gb o:Nat),Below w.heap.size w W→PtrTo b s vs n gb o p→W.cell? ⟨gb,o,none⟩=some (.int .i64 kp):=fun W gb o hb hpt=>by
  rw[←VJ];exact ((hm.below hb).np hpt (Tr.aj (av:=av) ep)).cells.1
 rw[hacc];obtain⟨OT,hOT⟩:=eX (Tr.jH g p h)
 rw[hOT] at hO ⊢;have HA:=zh hA;have HP:=zh hP;have HO:=zh hO;have KA:=zh kA;have KP:=zh kP;clear hA hP hO kA kP hm hS hacc hkp hkh VJ VK ep eh hOT hw;have main:∀ r:Bool,((kp=2∧r=(kh != 1))∨(kp=1∧kh=4∧r=true)∨(kp=1∧kh=2∧r=!OT)∨(kp=1∧kh≠4∧kh≠2∧r=false)∨(kp≠2∧kp≠1∧r=false))→
   Calls Tryz.prog 53 #[.pointer (some ⟨B,0,none⟩),.int .i64 p,.int .i64 h] w fun e w'=>e=.returned (.bool r)∧Below w.heap.size w w':=by
  intro r hr;have hq:((kp == 2)=true∧r=(kh != 1))∨((kp == 2)=false∧(kp == 1)=true∧(kh == 4)=true∧r=true)∨((kp == 2)=false∧(kp == 1)=true∧(kh == 4)=false∧(kh == 2)=true∧r=!OT)∨((kp == 2)=false∧(kp == 1)=true∧(kh == 4)=false∧(kh == 2)=false∧r=false)∨((kp == 2)=false∧(kp == 1)=false∧r=false):=by
   rcases hr with ⟨h1,h2⟩ | ⟨h1,h2,h3⟩ | ⟨h1,h2,h3⟩ | ⟨h1,h2,h3,h4⟩ | ⟨h1,h2,h3⟩
   ·exact .inl ⟨by simp[h1],h2⟩
   ·exact .inr (.inl ⟨by simp[h1],by simp[h1],by simp[h2],h3⟩)
   ·exact .inr (.inr (.inl ⟨by simp[h1],by simp[h1],by simp[h2],by simp[h2],h3⟩))
   ·exact .inr (.inr (.inr (.inl ⟨by simp[h1],by simp[h1],by simpa using h2,by simpa using h3,h4⟩)))
   ·exact .inr (.inr (.inr (.inr ⟨by simpa using h1,by simpa using h2,h3⟩)))
  clear hr;have HR:=zh hq;clear hq
  go_enter Tryz.func53,Tryz.ntmps53
  go_wp2_with fail;refine (HA.out w (Below.refl _ _)).mono ?_;rintro e w2 ⟨g2,o2,rfl,abo,hb2⟩;have c2:=KA.out w2 g2 o2 hb2 abo;go_wp2_with fail;refine (HP.out w2 hb2).mono ?_;rintro e w3 ⟨g3,o3,rfl,abp,hb3⟩;have dB:=hb2.trans (hb3.mono hb2.size);have c3:=KP.out w3 g3 o3 dB abp;rcases HR.out with ⟨h1,h2⟩ | ⟨h1,h2,h3,h4⟩ | ⟨h1,h2,h3,h4,h5⟩ | ⟨h1,h2,h3,h4,h5⟩ | ⟨h1,h2,h3⟩
  ·subst h2;go_wp2_with fail
   go_ret
   exact⟨rfl,dB⟩
  ·subst h4;go_wp2_with fail
   go_ret
   exact⟨rfl,dB⟩
  ·subst h5;go_wp2_with fail;refine (HO.out w3 dB).mono ?_;rintro e w4 ⟨rfl,hb4⟩;have bU:=dB.trans (hb4.mono dB.size);go_wp2_with fail
   go_ret
   exact⟨rfl,bU⟩
  ·subst h5;go_wp2_with fail
   go_ret
   exact⟨rfl,dB⟩
  ·subst h3;go_wp2_with fail
   go_ret
   exact⟨rfl,dB⟩
 refine main _ ?_;by_cases h1:kp=2
 ·left;exact⟨h1,by rw[if_pos h1]⟩
 ·right;by_cases h2:kp=1
  ·by_cases h3:kh=4
   ·left;exact⟨h2,h3,by rw[if_neg h1,if_pos h2,h3];rfl⟩
   ·right;by_cases h4:kh=2
    ·left;exact⟨h2,h4,by rw[if_neg h1,if_pos h2,h4];rfl⟩
    ·right;left;exact⟨h2,h3,h4,by rw[if_neg h1,if_pos h2];simp[h3,h4]⟩
  ·right;right;right;exact⟨h1,h2,by rw[if_neg h1,if_neg h2]⟩
end
end
section
open Go.RowKit Go.Shelf
attribute [local go_sem] Oper.semAt_some
theorem Cv (base B:Nat) (b s root h:Int) (live n:Nat) (g:Tr.G) (av:Int→Tr.Sl) (fr:List Nat) (vs vf:Value) (w:World) (hm:TV base w B b s vs n (Tr.raw g av) vf fr live root) (hS:Sound b s n (Tr.raw g av) fr live) (hw:Tr.WF 0 g) (hh:kM h):
  Calls Tryz.prog 54 #[.pointer (some ⟨B,0,none⟩),.int .i64 h] w fun e w'=>e=.returned (.int .i64 ((Tr.aY g h).length:Nat))∧Below w.heap.size w w':=by
 have AQ:=(hw.bY h).2;have hlt:=hm.lt;refine (callsIn_wide (n:=8)).1 ?_;refine callsIn_of_wp_marks Tryz.func54 rfl trivial ?_ rfl;simp only[Tryz.ntmps54,pT,Nat.reduceAdd,Nat.reduceSub]
 gi_wp2_with fail
 obtain⟨w1,hw1⟩:=eX (w.alloc (.cells #[.int .i64 0] 3))
 have hz1:w1.heap.size=w.heap.size+1:=by rw[←hw1];simp
 have hb1:Below w.heap.size w w1:=gU hw1;have hX1:Whole w1 w.heap.size #[.int .i64 0] 3:=by rw[←hw1];exact Whole.new w _ _
 have hL:=LS.made (h:=h) (hm.below hb1);have hsz2:((w1.alloc (.cells #[.pointer (some ⟨B,0,none⟩)] 29)).alloc (.cells #[.int .i64 h] 3)).heap.size=w1.heap.size+2:=by simp
 have hb2:Below w1.heap.size w1 ((w1.alloc (.cells #[.pointer (some ⟨B,0,none⟩)] 29)).alloc (.cells #[.int .i64 h] 3)):=((Below.refl _ w1).alloc (Nat.le_refl _) _).alloc (by simp) _;have hseq:=EF hS hw hh 7 (by omega) _ hL;have xK:=zh (ze B h w1);(try rw[hw1]);refine⟨trivial,(callsIn_wide.2 xK.out).mono ?_⟩;rintro e w' ⟨rfl,hw'⟩;rw[←hw'] at hL hsz2 hb2 hseq;have hX2:=hX1.below hb2 hX1.lt;have hB2:=hb1.trans (hb2.mono hb1.size);clear hm hS hX1 hw' hb2 xK
 gi_wp2_with fail
 rw[hz1] at hseq hL hsz2;have hm1:¬ aD B vs vf w.heap.size:=fun hk=>by have:=(hlt _ hk).2;omega
 refine wpIn_rangeFunc_ownF (w:=w') rfl (by decide) (gf:=84) (lb:=#[.pointer (some ⟨w.heap.size+1+1,0,none⟩),.pointer (some ⟨w.heap.size+1,0,none⟩)]) rfl trivial (enters_of Tryz.func84 (by kernel_rfl) rfl) hseq LS.pJ (LS.qP _) (Below.refl _ _) (fun _=>rfl)
  (fun pre W=>Whole W w.heap.size #[.int .i64 (pre.length:Nat)] 3∧LS base B (w.heap.size+1) (w.heap.size+1+1) b s h vs n (Tr.raw g av) vf fr live root W∧Below w.heap.size w W) (fun _ _ _=>False)
  ?hI ?hIx ⟨hX2,hL,hB2⟩ (fun x=>{ tmps:=#[.pointer (some ⟨B,0,none⟩),.int .i64 h,undef,undef,.int .i64 0,.pointer (some ⟨w.heap.size,0,none⟩),.pointer (some ⟨B,0,none⟩),.int .i64 h,.func (.func 84) #[] #[.pointer (some ⟨w.heap.size+1+1,0,none⟩),.pointer (some ⟨w.heap.size+1,0,none⟩)],.int .i64 x.1,undef,undef,undef],defers:=[] }) ?assign ?body ?done ?stop
 case hI=>
  rintro pre W W' row ⟨h1,h2,h3⟩ hg hr;exact⟨aS h1 hg (fun r e=>(hr r e).2),h2.others hg (fun r e=>(hr r e).2),h3.grown hg h3.size (fun r e=>by have:=(hr r e).1;omega)⟩
 case hIx=>intro c pre W W' row h _ _;exact h
 case assign=>
  intro l x W K hK
  gi_wp2
  simpa using hK
 case body=>
  rintro l pre x W ⟨hX,kJ,hBW⟩ hlen;have c0:W.cell? ⟨w.heap.size,0,none⟩=some (.int .i64 (pre.length:Nat)):=hX.cell 0;have f0:=hX.free 0;have hpl:pre.length≤128:=by omega
  have Bt:=hX.put 0 (.int .i64 ((pre.length:Int)+1));have hL':=kJ.set hm1 (by omega) (by omega) 0 (.int .i64 ((pre.length:Int)+1));have HF:=zh (And.intro Bt (And.intro hL' (hBW.setCell (p:=⟨w.heap.size,0,none⟩) (Nat.le_refl _) (.int .i64 ((pre.length:Int)+1)))));clear hX kJ hBW Bt hL'
  gi_wp2_with fail
  refine⟨KeepsOthers.setCell _ _ _,fun _=>HF.out.2.1,?_,HF.out.2.1,HF.out.2.2⟩;rw[List.length_append];exact HF.out.1
 case done=>
  rintro D xs W hD rfl ⟨hX,kJ,hBW⟩ hK;rw[List.length_attach] at hX;have c0:W.cell? ⟨w.heap.size,0,none⟩=some (.int .i64 ((Tr.aY g h).length:Nat)):=hX.cell 0;have HB:=zh (hBW.trans (belowK_b (w:=w) (Nat.le_refl _) W D _ (.deferred none) (by omega) hK rfl rfl));clear hX kJ hBW
  gi_wp2_with fail
  refine⟨by simp,.inl ⟨_,_,rfl,run_takeDeferred hK,?_⟩⟩;exact⟨_,results_tmp rfl _ _ _,rfl,HB.out⟩
 case stop=>
  rintro D c pre W _ _ h _;exact h.elim
end
section
open Go.RowKit Go.Shelf
attribute [local go_sem] Oper.semAt_some
def oZ (g:Tr.G) (l:List Int):Nat:=(l.map (Tr.gF g)).foldl max 0
theorem Df (g:Tr.G) (l:List Int) (x:Int):oZ g (l++[x])=max (oZ g l) (Tr.gF g x):=by simp[oZ]
theorem zy (base B:Nat) (b s root:Int) (live n:Nat) (g:Tr.G) (av:Int→Tr.Sl) (fr:List Nat) (vs vf:Value) (hS:Sound b s n (Tr.raw g av) fr live) (hw:Tr.WF 0 g):∀ h,(g h).isSome→∀ w,TV base w B b s vs n (Tr.raw g av) vf fr live root→
  Calls Tryz.prog 55 #[.pointer (some ⟨B,0,none⟩),.int .i64 h] w fun e w'=>e=.returned (.int .i64 (Tr.gF g h:Nat))∧Below w.heap.size w w':=by
 refine hw.induct fun h ih=>?_;intro hsome w hm;obtain⟨nh,eg⟩:=Option.isSome_iff_exists.1 hsome;have hh:=(bN hS (h:=h) (by rw[aM,eg];rfl)).1;have hkk:=Tr.aH eg;have hres:Tr.gF g h=oZ g (Tr.au g h)+1:=by rw[hw.iQ eg,hkk];rfl
 have hle:=hw.qC h;have IH:∀ k∈Tr.au g h,∀ w,TV base w B b s vs n (Tr.raw g av) vf fr live root→Calls Tryz.prog 55 #[.pointer (some ⟨B,0,none⟩),.int .i64 k] w fun e w'=>e=.returned (.int .i64 (Tr.gF g k:Nat))∧Below w.heap.size w w':=fun k hk w hT=>by
  obtain⟨m,e,_⟩:=hw.dO hk;exact ih nh eg k (by rw[←hkk];exact hk) (by rw[e];rfl) w hT
 clear ih hsome hkk;have hlt:=hm.lt;rw[hres];rw[hres] at hle;refine (callsIn_wide (n:=8)).1 ?_;refine callsIn_of_wp_marks Tryz.func55 rfl trivial ?_ rfl;simp only[Tryz.ntmps55,pT,Nat.reduceAdd,Nat.reduceSub]
 gi_wp2_with fail
 obtain⟨w1,hw1⟩:=eX ((w.alloc (.cells #[.pointer (some ⟨B,0,none⟩)] 29)).alloc (.cells #[.int .i64 0] 3))
 have hz1:w1.heap.size=w.heap.size+2:=by rw[←hw1];simp
 have hb1:Below w.heap.size w w1:=by rw[←hw1];exact ((Below.refl _ w).alloc (Nat.le_refl _) _).alloc (by simp) _
 have hT1:Whole w1 w.heap.size #[.pointer (some ⟨B,0,none⟩)] 29:=by rw[←hw1];exact (Whole.new w _ _).alloc _
 have hX1:Whole w1 (w.heap.size+1) #[.int .i64 0] 3:=by
  have:=Whole.new (w.alloc (.cells #[.pointer (some ⟨B,0,none⟩)] 29)) #[.int .i64 0] 3;rw[World.size_alloc] at this;rw[←hw1];exact this
 have hL:=LS.made (h:=h) (hm.below hb1);have hsz2:((w1.alloc (.cells #[.pointer (some ⟨B,0,none⟩)] 29)).alloc (.cells #[.int .i64 h] 3)).heap.size=w1.heap.size+2:=by simp
 have hb2:Below w1.heap.size w1 ((w1.alloc (.cells #[.pointer (some ⟨B,0,none⟩)] 29)).alloc (.cells #[.int .i64 h] 3)):=((Below.refl _ w1).alloc (Nat.le_refl _) _).alloc (by simp) _;have hseq:=AP hS hw hh 7 (by omega) _ hL;have xK:=zh (wS B h w1);have t1:w1.cell? ⟨w.heap.size,0,none⟩=some (.pointer (some ⟨B,0,none⟩)):=hT1.cell 0;have Wp:=zh IH;clear IH hres eg;(try rw[hw1]);refine⟨trivial,(callsIn_wide.2 xK.out).mono ?_⟩;rintro e w' ⟨rfl,hw'⟩;rw[←hw'] at hL hsz2 hb2 hseq;have hX2:=hX1.below hb2 hX1.lt;have IC:=hT1.below hb2 hT1.lt;have hB2:=hb1.trans (hb2.mono hb1.size);have iU:=zh hS;clear hm hS hX1 hw' hb2 xK hT1 t1
 gi_wp2_with fail
 rw[hz1] at hseq hL hsz2;have hm1:¬ aD B vs vf (w.heap.size+1):=fun hk=>by have:=(hlt _ hk).2;omega
 refine wpIn_rangeFunc_ownF (w:=w') rfl (by decide) (gf:=116) (lb:=#[.pointer (some ⟨w.heap.size+1+1,0,none⟩),.pointer (some ⟨w.heap.size+1+1+1,0,none⟩)]) rfl trivial (enters_of Tryz.func116 (by kernel_rfl) rfl) hseq LS.pJ (LS.qP _) (Below.refl _ _) (fun _=>rfl)
  (fun pre W=>Whole W w.heap.size #[.pointer (some ⟨B,0,none⟩)] 29∧Whole W (w.heap.size+1) #[.int .i64 (oZ g (pre.map (·.1)):Nat)] 3∧LS base B (w.heap.size+1+1) (w.heap.size+1+1+1) b s h vs n (Tr.raw g av) vf fr live root W∧Below w.heap.size w W)
  (fun _ _ _=>False)
  ?hI ?hIx ⟨IC,hX2,hL,hB2⟩ (fun x=>{ tmps:=#[.pointer (some ⟨B,0,none⟩),.int .i64 h,.pointer (some ⟨w.heap.size,0,none⟩),undef,.int .i64 0,.pointer (some ⟨w.heap.size+1,0,none⟩),.int .i64 x.1,.pointer (some ⟨B,0,none⟩),.int .i64 h,.func (.func 116) #[] #[.pointer (some ⟨w.heap.size+1+1,0,none⟩),.pointer (some ⟨w.heap.size+1+1+1,0,none⟩)],.int .i64 x.1,undef,undef,undef,undef,undef,undef,undef],defers:=[] }) ?assign ?body ?done ?stop
 case hI=>
  rintro pre W W' row ⟨hT,h1,h2,h3⟩ hg hr;exact⟨aS hT hg (fun r e=>(hr r e).2),aS h1 hg (fun r e=>(hr r e).2),h2.others hg (fun r e=>(hr r e).2),h3.grown hg h3.size (fun r e=>by have:=(hr r e).1;omega)⟩
 case hIx=>rintro c pre W W' row h _ _;exact h
 case assign=>
  intro l x W K hK
  gi_wp2
  first | exact hK | simpa using hK
 case body=>
  rintro l pre x W ⟨hT,hX,kJ,hBW⟩ hlen;have t0:W.cell? ⟨w.heap.size,0,none⟩=some (.pointer (some ⟨B,0,none⟩)):=hT.cell 0;have c0:W.cell? ⟨w.heap.size+1,0,none⟩=some (.int .i64 (oZ g (pre.map (·.1)):Nat)):=hX.cell 0;have f0:=hX.free 0;obtain⟨M,hM⟩:=eX (oZ g (pre.map (·.1)))
  obtain⟨X,Wm⟩:=eX (Tr.gF g x.1)
  rw[hM] at c0;have hKf:=fun (w4:World) (hb4:Below W.heap.size W w4)=>And.intro (hT.below hb4 hT.lt) (And.intro (hX.below hb4 hX.lt) (And.intro (kJ.below hb4) (hBW.trans (hb4.mono hBW.size))));have hbd:Below W.heap.size W W.drew:=⟨rfl,rfl,rfl,Nat.le_refl _,fun _ _=>rfl⟩
  have HC:=zh (Wp.out x.1 x.2 W.drew (kJ.below hbd).tree);rw[Wm] at HC;have HKF:=zh hKf;have ET:=zh hbd;have HMM:=zh (And.intro hM Wm);clear hT hX kJ hBW hKf hbd hM Wm;have hmx:max (M:Int) (X:Int)=((max M X:Nat):Int):=by omega
  gi_wp2_with fail
  gi_region_with (refine⟨trivial,?_⟩;gi_at_call 55;refine (CallsIn.inRound l (callsIn_wide.2 HC.out)).mono ?_;rintro e w4 ⟨rfl,hb4⟩;have hbW:=ET.out.trans (hb4.mono ET.out.size);obtain⟨DU,bB,hL4,hB4⟩:=HKF.out w4 hbW;rw[HMM.out.1] at bB;have k0:w4.cell? ⟨w.heap.size+1,0,none⟩=some (.int .i64 (M:Nat)):=bB.cell 0;have z0:=bB.free 0;have t4:w4.cell? ⟨w.heap.size,0,none⟩=some (.pointer (some ⟨B,0,none⟩)):=DU.cell 0;have hko:=l9 hbW;have uH:=zh bB;have FH:=zh DU;have WO:=zh hL4;have ow:=zh hB4;clear bB DU hL4 hB4 hb4 hbW)
  all_goals
   gi_wp2_with fail
   refine⟨hko.trans (KeepsOthers.setCell _ _ _),fun _=>WO.out.set hm1 (by omega) (by omega) _ _,FH.out.other (by show w.heap.size≠w.heap.size+1;omega) _,?_,WO.out.set hm1 (by omega) (by omega) _ _,ow.out.setCell (p:=⟨w.heap.size+1,0,none⟩) (Nat.le_succ _) _⟩;rw[List.map_append,List.map_cons,List.map_nil,Df,HMM.out.1,HMM.out.2];exact uH.out.put 0 _
 case done=>
  rintro D xs W hD rfl ⟨_,hX,kJ,hBW⟩ hK;rw[List.attach_map_subtype_val] at hX;have c0:W.cell? ⟨w.heap.size+1,0,none⟩=some (.int .i64 (oZ g (Tr.au g h):Nat)):=hX.cell 0;have HB:=zh (hBW.trans (belowK_b (w:=w) (Nat.le_refl _) W D _ (.deferred none) (by omega) hK rfl rfl));have YU:oZ g (Tr.au g h)≤128:=by omega
  obtain⟨M,hM⟩:=eX (oZ g (Tr.au g h))
  rw[hM] at c0 YU;have HM:=zh hM;clear hX kJ hBW hM hle
  gi_wp2_with fail
  refine⟨by simp,.inl ⟨_,_,rfl,run_takeDeferred hK,?_⟩⟩;refine⟨_,results_tmp rfl _ _ _,?_,HB.out⟩;show Ending.returned (.int .i64 ((M:Int)+1))=_;exact kD (by rw[HM.out];omega)
 case stop=>
  rintro D c pre W _ _ h _;exact h.elim
end
section
open Go.RowKit Go.Shelf
attribute [local go_sem] Oper.semAt_some
theorem nA (base B:Nat) (b s root a h:Int) (live n:Nat) (g:Tr.G) (av:Int→Tr.Sl) (fr:List Nat) (vs vf:Value) (w:World) (hm:TV base w B b s vs n (Tr.raw g av) vf fr live root) (hS:Sound b s n (Tr.raw g av) fr live) (hw:Tr.WF 0 g) (hh:kM h):
  Calls Tryz.prog 10 #[.pointer (some ⟨B,0,none⟩),.int .i64 a,.int .i64 h] w fun e w'=>e=.returned (.bool (decide (a∈Tr.aY g h)))∧Below w.heap.size w w':=by
 have hlt:=hm.lt;refine (callsIn_wide (n:=8)).1 ?_;refine callsIn_of_wp_marks Tryz.func10 rfl trivial ?_ rfl;simp only[Tryz.ntmps10,pT,Nat.reduceAdd,Nat.reduceSub]
 gi_wp2_with fail
 obtain⟨w1,hw1⟩:=eX ((w.alloc (.cells #[.int .i64 a] 3)).alloc (.cells #[.bool false] 4))
 have hz1:w1.heap.size=w.heap.size+2:=by rw[←hw1];simp
 have hb1:Below w.heap.size w w1:=by rw[←hw1];exact ((Below.refl _ w).alloc (Nat.le_refl _) _).alloc (by simp) _
 have hA1:Whole w1 w.heap.size #[.int .i64 a] 3:=by rw[←hw1];exact (Whole.new w _ _).alloc _
 have hX1:Whole w1 (w.heap.size+1) #[.bool false] 4:=by
  have:=Whole.new (w.alloc (.cells #[.int .i64 a] 3)) #[.bool false] 4;rw[World.size_alloc] at this;rw[←hw1];exact this
 have hL:=LS.made (h:=h) (hm.below hb1);have hsz2:((w1.alloc (.cells #[.pointer (some ⟨B,0,none⟩)] 29)).alloc (.cells #[.int .i64 h] 3)).heap.size=w1.heap.size+2:=by simp
 have hb2:Below w1.heap.size w1 ((w1.alloc (.cells #[.pointer (some ⟨B,0,none⟩)] 29)).alloc (.cells #[.int .i64 h] 3)):=((Below.refl _ w1).alloc (Nat.le_refl _) _).alloc (by simp) _;have hseq:=EF hS hw hh 7 (by omega) _ hL;have xK:=zh (ze B h w1);(try rw[hw1]);refine⟨trivial,(callsIn_wide.2 xK.out).mono ?_⟩;rintro e w' ⟨rfl,hw'⟩;rw[←hw'] at hL hsz2 hb2 hseq;have hX2:=hX1.below hb2 hX1.lt;have hA2:=hA1.below hb2 hA1.lt;have hB2:=hb1.trans (hb2.mono hb1.size);clear hm hS hX1 hw' hb2 xK hA1
 gi_wp2_with fail
 rw[hz1] at hseq hL hsz2;have hm1:¬ aD B vs vf (w.heap.size+1):=fun hk=>by have:=(hlt _ hk).2;omega
 refine wpIn_rangeFunc_ownF (w:=w') rfl (by decide) (gf:=84) (lb:=#[.pointer (some ⟨w.heap.size+1+1+1,0,none⟩),.pointer (some ⟨w.heap.size+1+1,0,none⟩)]) rfl trivial (enters_of Tryz.func84 (by kernel_rfl) rfl) hseq LS.pJ (LS.qP _) (Below.refl _ _) (fun _=>rfl)
  (fun pre W=>Whole W w.heap.size #[.int .i64 a] 3∧Whole W (w.heap.size+1) #[.bool false] 4∧LS base B (w.heap.size+1+1) (w.heap.size+1+1+1) b s h vs n (Tr.raw g av) vf fr live root W∧Below w.heap.size w W∧a∉pre.map (·.1))
  (fun c _ W=>c=.ret∧Whole W (w.heap.size+1) #[.bool true] 4∧Below w.heap.size w W∧a∈Tr.aY g h)
  ?hI ?hIx ⟨hA2,hX2,hL,hB2,by simp⟩ (fun x=>{ tmps:=#[.pointer (some ⟨B,0,none⟩),.int .i64 a,.int .i64 h,undef,.pointer (some ⟨w.heap.size,0,none⟩),undef,.pointer (some ⟨w.heap.size+1,0,none⟩),.int .i64 x.1,.pointer (some ⟨B,0,none⟩),.int .i64 h,.func (.func 84) #[] #[.pointer (some ⟨w.heap.size+1+1+1,0,none⟩),.pointer (some ⟨w.heap.size+1+1,0,none⟩)],.int .i64 x.1,undef,undef,undef],defers:=[] }) ?assign ?body ?done ?stop
 case hI=>
  rintro pre W W' row ⟨h0,h1,h2,h3,h4⟩ hg hr;exact⟨aS h0 hg (fun r e=>(hr r e).2),aS h1 hg (fun r e=>(hr r e).2),h2.others hg (fun r e=>(hr r e).2),h3.grown hg h3.size (fun r e=>by have:=(hr r e).1;omega),h4⟩
 case hIx=>
  rintro c pre W W' row ⟨h0,h1,h2,h3⟩ hg hr;exact⟨h0,aS h1 hg (fun r e=>(hr r e).2),h2.grown hg h2.size (fun r e=>by have:=(hr r e).1;omega),h3⟩
 case assign=>
  intro l x W K hK
  gi_wp2
  first | exact hK | simpa using hK
 case body=>
  rintro l pre x W ⟨hA,hX,kJ,hBW,hnot⟩ hlen;have a0:W.cell? ⟨w.heap.size,0,none⟩=some (.int .i64 a):=hA.cell 0;have c0:W.cell? ⟨w.heap.size+1,0,none⟩=some (.bool false):=hX.cell 0;have f0:=hX.free 0;by_cases hxa:x.1=a
  ·have hq:(x.1 == a)=true:=by simpa using hxa
   have Bt:=hX.put 0 (.bool true);have HF:=zh (And.intro Bt (And.intro (hBW.setCell (p:=⟨w.heap.size+1,0,none⟩) (Nat.le_succ _) (.bool true)) (show a∈Tr.aY g h from hxa▸x.2)));clear hA hX kJ hBW Bt hnot hxa
   gi_wp2_with fail
   exact⟨KeepsOthers.setCell _ _ _,rfl,HF.out⟩
  ·have hq:(x.1 == a)=false:=by simpa using hxa
   have HF:=zh (And.intro hA (And.intro hX (And.intro kJ (And.intro hBW (show a∉(pre++[x]).map (·.1) by
    rw[List.map_append,List.mem_append];rintro (h1 | h1)
    ·exact hnot h1
    ·simp at h1;exact hxa h1.symm)))))
   clear hA hX kJ hBW hnot hxa
   gi_wp2_with fail
   exact⟨KeepsOthers.refl _,fun h=>h,HF.out⟩
 case done=>
  rintro D xs W hD rfl ⟨_,hX,kJ,hBW,hnot⟩ hK;rw[List.attach_map_subtype_val] at hnot;have c0:W.cell? ⟨w.heap.size+1,0,none⟩=some (.bool false):=hX.cell 0;have f0:=hX.free 0;have Bt:=hX.put 0 (.bool false);have hKs:=(KeepsOthers.setCell W ⟨w.heap.size+1,0,none⟩ (.bool false)).same D _ hK rfl;have QI:=hBW.setCell (p:=⟨w.heap.size+1,0,none⟩) (Nat.le_succ _) (.bool false);obtain⟨V,hV⟩:=eX (W.setCell ⟨w.heap.size+1,0,none⟩ (.bool false))
  rw[hV] at Bt hKs QI;have c9:V.cell? ⟨w.heap.size+1,0,none⟩=some (.bool false):=Bt.cell 0;have hca:=cell_kept c9 (grownBy_putObj' V D (.deferred none)) (fun r e=>by cases e;exact⟨_,hKs,rfl⟩);have HB:=zh (QI.trans (belowK_b (w:=w) (Nat.le_refl _) V D _ (.deferred none) (by omega) hKs rfl rfl));have HN:=zh hnot;clear hX kJ hBW Bt hnot QI
  gi_wp2_with fail
  refine⟨by simp,.inl ⟨_,_,rfl,run_takeDeferred hKs,?_⟩⟩;refine⟨.bool false,?_,?_,HB.out⟩
  ·simp[results,Tryz.f10,go_sem,hca]
  ·exact fI (by simp[HN.out])
 case stop=>
  rintro D c pre W hD hsp ⟨rfl,hX,hBW,hmem⟩ hK;have c0:W.cell? ⟨w.heap.size+1,0,none⟩=some (.bool true):=hX.cell 0;have hca:=cell_kept c0 (grownBy_putObj' W D (.deferred none)) (fun r e=>by cases e;exact⟨_,hK,rfl⟩);have HB:=zh (hBW.trans (belowK_b (w:=w) (Nat.le_refl _) W D _ (.deferred none) (by omega) hK rfl rfl));have HN:=zh hmem;clear hX hBW hmem
  gi_wp2_with fail
  refine⟨by simp,.inl ⟨_,_,rfl,run_takeDeferred hK,?_⟩⟩;refine⟨.bool true,?_,?_,HB.out⟩
  ·simp[results,Tryz.f10,go_sem,hca]
  ·exact fI (by simp[HN.out])
end
section
open Go.RowKit
theorem bne_false {a c:Int} (h:a=c):(a != c)=false:=by simp[h]
theorem bne_true {a c:Int} (h:a≠c):(a != c)=true:=by simpa using h
theorem bZ {a c:Int} (h:a≠c):(a == c)=false:=by simpa using h
theorem Cw {a c:Int} (h:a=c):(a == c)=true:=by simpa using h
abbrev ou (k:Int):Value:=.tuple #[.slice none 0 0,.int .i64 k]
theorem l8 (base B:Nat) (b s root p h c:Int) (live n:Nat) (R:Int→Option Tr.Nd) (fr:List Nat) (vs vf:Value) (w:World) (hm:TV base w B b s vs n R vf fr live root) (hS:Sound b s n R fr live) (hp:kM p) (hh:kM h) (hc:kM c)
  (hno:R p=none∨R h=none∨(c≠0∧R c=none)):
  Calls Tryz.prog 19 #[.pointer (some ⟨B,0,none⟩),.int .i64 p,.int .i64 h,.int .i64 c] w fun e w'=>e=.returned (ou 6)∧Below w.heap.size w w':=by
 have H:=fun (x:Int) (hx:kM x) (W:World) (hb:Below w.heap.size w W)=>wC base B b s root x live n R fr vs vf W (hm.below hb) hS hx;have HH:=zh H;clear hm hS H;cases e1:R p with
 | none=>
  go_enter Tryz.func19,Tryz.ntmps19
  go_wp2_with fail;refine (HH.out p hp w (Below.refl _ _)).mono ?_;rintro e w2 ⟨rfl,hb2⟩;rw[e1];clear e1 hno;go_wp2_with fail;go_ret2;exact⟨rfl,hb2⟩
 | some d1=>
  cases e2:R h with
  | none=>
   go_enter Tryz.func19,Tryz.ntmps19
   go_wp2_with fail;refine (HH.out p hp w (Below.refl _ _)).mono ?_;rintro e w2 ⟨rfl,hb2⟩;rw[e1];have H2:=HH.out h hh w2 hb2;rw[e2] at H2;clear e1 e2 hno;go_wp2_with fail;refine H2.mono ?_;rintro e w3 ⟨rfl,hb3⟩;have dB:=hb2.trans (hb3.mono hb2.size);clear H2;go_wp2_with fail;go_ret2;exact⟨rfl,dB⟩
  | some d2=>
   obtain⟨hc0,e3⟩:c≠0∧R c=none:=by
    rcases hno with h1 | h1 | h1
    ·rw[e1] at h1;cases h1
    ·rw[e2] at h1;cases h1
    ·exact h1
   have hq:=bne_true hc0
   go_enter Tryz.func19,Tryz.ntmps19
   go_wp2_with fail;refine (HH.out p hp w (Below.refl _ _)).mono ?_;rintro e w2 ⟨rfl,hb2⟩;rw[e1];have H2:=HH.out h hh w2 hb2;rw[e2] at H2;clear e1 e2 hno;go_wp2_with fail;refine H2.mono ?_;rintro e w3 ⟨rfl,hb3⟩;have dB:=hb2.trans (hb3.mono hb2.size);have H3:=HH.out c hc w3 dB;rw[e3] at H3;clear H2 e3;go_wp2_with fail;refine H3.mono ?_;rintro e w4 ⟨rfl,hb4⟩;have bU:=dB.trans (hb4.mono dB.size);clear H3;go_wp2_with fail;go_ret2;exact⟨rfl,bU⟩
structure rR (base B:Nat) (b s root p h c:Int) (live n:Nat) (g:Tr.G) (av:Int→Tr.Sl) (fr:List Nat) (vs vf:Value) (np nh:Tr.GN) (w:World):Prop where
 tree:TV base w B b s vs n (Tr.raw g av) vf fr live root
 sound:Sound b s n (Tr.raw g av) fr live
 wf:Tr.WF 0 g
 ep:g p=some np
 eh:g h=some nh
 ec:c≠0→(g c).isSome
section
variable {base B n live:Nat} {b s root p h c:Int} {g:Tr.G} {av:Int→Tr.Sl} {fr:List Nat} {vs vf:Value} {np nh:Tr.GN} {w w':World}
theorem rR.has (H:rR base B b s root p h c live n g av fr vs vf np nh w) (hb:Below w.heap.size w w') {x:Int} (hx:(g x).isSome):
  Calls Tryz.prog 41 #[.pointer (some ⟨B,0,none⟩),.int .i64 x] w' fun e w2=>e=.returned (.bool true)∧Below w'.heap.size w' w2:=by
 have:=wC base B b s root x live n (Tr.raw g av) fr vs vf w' (H.tree.below hb) H.sound (bN H.sound (h:=x) (by rw[aM];exact hx)).1;rw[aM,hx] at this;exact this
theorem rR.dG (H:rR base B b s root p h c live n g av fr vs vf np nh w) (hb:Below w.heap.size w w') (hc:c≠0):
  Calls Tryz.prog 43 #[.pointer (some ⟨B,0,none⟩),.int .i64 c] w' fun e w2=>∃ gb o,e=.returned (.pointer (some ⟨gb,o,none⟩))∧w2.cell? ⟨gb,o+4,none⟩=some (.int .i64 (Tr.dG g c))∧Below w'.heap.size w' w2:=by
 obtain⟨m,em⟩:=Option.isSome_iff_exists.1 (H.ec hc);refine (gW base B b s root c live n _ fr vs vf _ w' (H.tree.below hb) H.sound (Tr.aj em)).mono ?_;rintro e w2 ⟨gb,o,rfl,hpt,hb2⟩;refine⟨gb,o,rfl,?_,hb2⟩;obtain⟨_,_,_,_,t4,_⟩:=(((H.tree.below hb).below hb2).np hpt (Tr.aj em)).cells;rw[t4,Tr.aL em];rfl
end
theorem G7 (base B:Nat) (b s root p h c:Int) (live n:Nat) (g:Tr.G) (av:Int→Tr.Sl) (fr:List Nat) (vs vf:Value) (np nh:Tr.GN) (w:World) (H:rR base B b s root p h c live n g av fr vs vf np nh w)
  (hno:Tr.dW g p h=false∨h∈Tr.aY g p∨(c≠0∧Tr.dG g c≠p)):
  Calls Tryz.prog 19 #[.pointer (some ⟨B,0,none⟩),.int .i64 p,.int .i64 h,.int .i64 c] w fun e w'=>e=.returned (ou 10)∧Below w.heap.size w w':=by
 have hpi:=(bN H.sound (h:=p) (by rw[aM,H.ep];rfl)).1;have HP:=zh (H.has (Below.refl _ w) (x:=p) (by rw[H.ep];rfl));have QW:=zh (fun (W:World) (hb:Below w.heap.size w W)=>H.has hb (x:=h) (by rw[H.eh];rfl));have QB:=zh (fun (W:World) (hb:Below w.heap.size w W) (hc:c≠0)=>H.has hb (x:=c) (H.ec hc));have HA:=zh (fun (W:World) (hb:Below w.heap.size w W)=>rT base B b s root p h live n g av fr vs vf np nh W (H.tree.below hb) H.sound H.wf H.ep H.eh);have HC:=zh (fun (W:World) (hb:Below w.heap.size w W)=>nA base B b s root h p live n g av fr vs vf W (H.tree.below hb) H.sound H.wf hpi);have Ws:=zh (fun (W:World) (hb:Below w.heap.size w W) (hc:c≠0)=>H.dG hb hc);have HN:=zh hno;have HI:=zh H;clear H hno;have key:∀ (w2 w3:World),Below w2.heap.size w2 w3→Below w.heap.size w w2→Below w.heap.size w w3:=fun w2 w3 h h'=>h'.trans (h.mono h'.size);by_cases hc0:c=0
 ·have hq:=bne_false hc0
  go_enter Tryz.func19,Tryz.ntmps19
  go_wp2_with fail;refine HP.out.mono ?_;rintro e w2 ⟨rfl,hb2⟩;go_wp2_with fail;refine (QW.out w2 hb2).mono ?_;rintro e w3 ⟨rfl,hb3⟩;have dB:=key _ _ hb3 hb2;go_wp2_with fail;refine (HA.out w3 dB).mono ?_;rintro e w4 ⟨rfl,hb4⟩;have bU:=key _ _ hb4 dB;cases ha:Tr.dW g p h with
  | false=>
   clear ha;go_wp2_with fail;go_ret2;exact⟨rfl,bU⟩
  | true=>
   have hu:decide (h∈Tr.aY g p)=true:=by
    rcases HN.out with h1 | h1 | ⟨h1,_⟩
    ·rw[ha] at h1;cases h1
    ·exact decide_eq_true h1
    ·exact absurd hc0 h1
   have uY:=HC.out w4 bU;rw[hu] at uY;clear ha hu;go_wp2_with fail;refine uY.mono ?_;rintro e w5 ⟨rfl,hb5⟩;have dY:=key _ _ hb5 bU;clear uY;go_wp2_with fail;go_ret2;exact⟨rfl,dY⟩
 ·have hq:=bne_true hc0
  go_enter Tryz.func19,Tryz.ntmps19
  go_wp2_with fail;refine HP.out.mono ?_;rintro e w2 ⟨rfl,hb2⟩;go_wp2_with fail;refine (QW.out w2 hb2).mono ?_;rintro e w3' ⟨rfl,Fz⟩;have rU:=key _ _ Fz hb2;go_wp2_with fail;refine (QB.out w3' rU hc0).mono ?_;rintro e w3 ⟨rfl,hb3⟩;have dB:=key _ _ hb3 rU;go_wp2_with fail;refine (HA.out w3 dB).mono ?_;rintro e w4 ⟨rfl,hb4⟩;have bU:=key _ _ hb4 dB;cases ha:Tr.dW g p h with
  | false=>
   clear ha;go_wp2_with fail;go_ret2;exact⟨rfl,bU⟩
  | true=>
   have uY:=HC.out w4 bU;by_cases hu:h∈Tr.aY g p
   ·rw[decide_eq_true hu] at uY;clear ha hu;go_wp2_with fail;refine uY.mono ?_;rintro e w5 ⟨rfl,hb5⟩;have dY:=key _ _ hb5 bU;clear uY;go_wp2_with fail;go_ret2;exact⟨rfl,dY⟩
   ·rw[decide_eq_false hu] at uY;have hpc:Tr.dG g c≠p:=by
     rcases HN.out with h1 | h1 | ⟨_,h1⟩
     ·rw[ha] at h1;cases h1
     ·exact absurd h1 hu
     ·exact h1
    have hq3:=bne_true hpc;clear ha hu hpc;go_wp2_with fail;refine uY.mono ?_;rintro e w5 ⟨rfl,hb5⟩;have dY:=key _ _ hb5 bU;have KN:=Ws.out w5 dY hc0;clear uY;go_wp2_with fail;refine KN.mono ?_;rintro e w6 ⟨gb,o,rfl,k4,hb6⟩;have iM:=key _ _ hb6 dY;clear KN;go_wp2_with fail;go_ret2;exact⟨rfl,iM⟩
end
section
section
open Go.RowKit
namespace Tr
def dD (g:G) (h:Int):G:=if dG g h=0 then g else iZ g h
def fU (g:G) (h:Int):List Rec:=if dG g h=0 then [] else [jO g 2 h]
section
variable {g:G} {h p c:Int} {n q:GN}
theorem WF.dD (w:WF 0 g) (e:g h=some n):WF 0 (dD g h):=by
 unfold Tr.dD;split
 ·exact w
 ·exact w.cut e
theorem wU (e:g h=some n):dD g h h=some { n with pa:=0 }:=by
 unfold dD
 split
 ·rename_i hp;rw[aL e] at hp;rw[e];cases n;simp only at hp;subst hp;rfl
 ·exact lV e
theorem yE {x:Int} {m':GN} (ex:bg g p h c x=some m'):∃ m,g x=some m∧m.attrs=m'.attrs∧m.kind=m'.kind∧m.name=m'.name∧m.data=m'.data:=by
 unfold bg at ex
 split at ex
 ·rename_i e;subst e;cases eg:g x with
  | none=>rw[eg] at ex;cases ex
  | some m=>rw[eg] at ex;obtain rfl:=Option.some.inj ex;exact⟨m,rfl,rfl,rfl,rfl,rfl⟩
 ·split at ex
  ·rename_i e;subst e;cases eg:g x with
   | none=>rw[eg] at ex;cases ex
   | some m=>rw[eg] at ex;obtain rfl:=Option.some.inj ex;exact⟨m,rfl,rfl,rfl,rfl,rfl⟩
  ·exact⟨m',ex,rfl,rfl,rfl,rfl⟩
theorem WF.DV (w:WF 0 g) (e:g h=some n) {x:Int} (hx:h∉aY g x):aY (Tr.dD g h) x=aY g x:=by
 unfold Tr.dD
 split
 ·rfl
 ·refine (w.cut e).iq ?_;have key:∀ (x:Int) (l:List Int),Up g x l→h∉l→Up (iZ g h) x l:=by
   intro x l u
   induction u with
   | @out y e1=>
    intro _;refine .out ?_;have:=iF (g:=g) (h:=h) (x:=y);rw[e1] at this;exact Option.not_isSome_iff_eq_none.1 (by rw[this];simp)
   | @node y m l e1 u ih=>
    intro hm;simp only[List.mem_cons,not_or] at hm;have:=iF (g:=g) (h:=h) (x:=y);rw[e1] at this;obtain⟨m',em'⟩:=Option.isSome_iff_exists.1 this;obtain⟨m0,e0,h1,_⟩:=jV em' (fun e2=>hm.1 e2.symm);rw[e1] at e0;obtain rfl:=Option.some.inj e0;exact .node em' (by rw[h1];exact ih hm.2)
  exact key _ _ (w.bY x).1 hx
theorem WF.KL (w:WF 0 g) (e:g h=some n):gF (Tr.dD g h) h=gF g h:=by
 have w1:=w.dD e;have key:∀ x,h∈aY g x→gF (Tr.dD g h) x=gF g x:=by
  refine w.induct fun x ih=>fun hx=>?_;cases ex:g x with
  | none=>rw[w.kU ex] at hx;cases hx
  | some m=>
   have Lf:∃ m',Tr.dD g h x=some m'∧m'.kids=m.kids:=by
    by_cases hxh:x=h
    ·rw[hxh,e] at ex;obtain rfl:=Option.some.inj ex;exact⟨{ n with pa:=0 },by rw[hxh];exact wU e,rfl⟩
    ·unfold Tr.dD
     split
     ·exact⟨m,ex,rfl⟩
     ·rw[yY hxh (fun e1=>by
       rw[aL e] at e1;rw[e1] at hx
       exact w.above e (w.bY n.pa).1 hx)]
      exact⟨m,ex,rfl⟩
   obtain⟨m',em',hk⟩:=Lf;rw[w1.iQ em',w.iQ ex,hk];refine congrArg (fun t:List Nat=>t.foldl max 0+1) (List.map_congr_left fun k hk2=>ih m ex k hk2 ?_);rw[w.jA ex hk2];exact List.mem_cons_of_mem _ hx
 exact key h (by rw[w.bC e];simp)
def oQ (g:G) (h c:Int):Int:=if c=h then nK (au g (dG g h)) h else c
theorem FM (w:WF 0 g) (e:g h=some n) (ep:g p=some q) (hu:h∉aY g p) (hc:c=0∨dG g c=p∧(g c).isSome):
  ∃ q1,Tr.dD g h p=some q1∧(oQ g h c=0∨oQ g h c∈q1.kids):=by
 have wT:p≠h:=fun e1=>by rw[w.bC ep,e1] at hu;exact hu (by simp)
 have hpz:p≠0:=fun e1=>by rw[e1,w.zero] at ep;cases ep
 have Lf:∃ q1,Tr.dD g h p=some q1∧q1.kids=q.kids.erase h:=by
  unfold Tr.dD;by_cases hpa:dG g h=p
  ·rw[if_neg (by rw[hpa];exact hpz)];rw[aL e] at hpa;subst hpa;exact⟨_,Lb e (fun e1=>wT e1) ep,rfl⟩
  ·have hnk:h∉q.kids:=fun hm=>by
    obtain⟨m,e1,e2⟩:=w.down p q h ep hm;exact hpa (by rw[aL e1];exact e2)
   refine⟨q,?_,(List.erase_of_not_mem hnk).symm⟩
   split
   ·exact ep
   ·rw[yY wT (fun e1=>hpa e1.symm)];exact ep
 obtain⟨q1,e1,e2⟩:=Lf;refine⟨q1,e1,?_⟩;rw[e2];unfold oQ
 split
 ·rename_i hch;rcases hc with h0 | ⟨h1,_⟩
  ·rw[←hch,h0,w.zero] at e;cases e
  ·rw[hch] at h1;rw[h1,aH ep];by_cases hz:nK q.kids h=0
   ·exact .inl hz
   ·right;refine (List.mem_erase_of_ne ?_).2 (Em hz);intro e3;have hk:=w.tT e (by rw[←aL e,h1];exact hpz);rw[←aL e,h1,aH ep] at hk;obtain⟨l1,l2,e4⟩:=List.append_of_mem hk;have hnd:=w.nodup p q ep;rw[e4] at hnd e3 hz;have h5:h∉l1:=fun hx=>(List.nodup_append.1 hnd).2.2 h hx h (by simp) rfl;rw[ig h5] at e3 hz;exact (List.nodup_cons.1 (List.nodup_append.1 hnd).2.1).1 (e3▸xu hz)
 ·rename_i hch;rcases hc with h0 | ⟨h1,h2⟩
  ·exact .inl h0
  ·right;obtain⟨m,em⟩:=Option.isSome_iff_exists.1 h2;rw[aL em] at h1;have hk:=w.tT em (by rw[h1];exact hpz);rw[h1,aH ep] at hk;exact (List.mem_erase_of_ne hch).2 hk
end
end Tr
theorem KM (base B:Nat) (b s root h:Int) (live n:Nat) (g:Tr.G) (av:Int→Tr.Sl) (fr:List Nat) (vs vf:Value) (nd:Tr.GN) (w:World) (hm:TV base w B b s vs n (Tr.raw g av) vf fr live root) (hS:Sound b s n (Tr.raw g av) fr live) (hw:Tr.WF 0 g) (eg:g h=some nd):
  Calls Tryz.prog 56 #[.pointer (some ⟨B,0,none⟩),.int .i64 h] w fun e w'=>∃ v,e=.returned v∧bH w.heap.size w' v (Tr.fU g h)∧TV base w' B b s vs n (Tr.raw (Tr.dD g h) av) vf fr live root∧aB w w' (aD B vs vf) (aD B vs vf):=by
 unfold Tr.fU Tr.dD;rw[Tr.aL eg];by_cases hp:nd.pa=0
 ·rw[if_pos hp,if_pos hp];refine (Pz base B b s root h live n g av fr vs vf nd w hm hS eg hp).mono ?_;rintro e w' ⟨rfl,hb⟩;exact⟨_,rfl,bH.nil _ _,hm.below hb,.of_below hb⟩
 ·rw[if_neg hp,if_neg hp];exact PD base B b s root h live n g av fr vs vf nd w hm hS hw eg hp
theorem uK {b s:Int} {n live:Nat} {g:Tr.G} {av:Int→Tr.Sl} {fr:List Nat} {h:Int} {nd:Tr.GN} (hS:Sound b s n (Tr.raw g av) fr live) (hw:Tr.WF 0 g) (eg:g h=some nd):Sound b s n (Tr.raw (Tr.dD g h) av) fr live:=by
 unfold Tr.dD
 split
 ·exact hS
 ·rename_i hp;rw[Tr.aL eg] at hp;rw[Tr.K9 hw eg hp];exact hS.vW
theorem qD {b s:Int} {n live:Nat} {g:Tr.G} {av:Int→Tr.Sl} {fr:List Nat} {p h c:Int} {nd q:Tr.GN} (hS:Sound b s n (Tr.raw g av) fr live) (hw:Tr.WF 0 g) (eh:g h=some nd) (hn:nd.pa=0) (ep:g p=some q) (hp:h≠p) (hc:c=0∨c∈q.kids):Sound b s n (Tr.raw (Tr.bg g p h c) av) fr live:=by
 rw[Tr.GJ hw eh hn ep hp hc];exact hS.linked
theorem tF (base B:Nat) (b s root p h c:Int) (live n:Nat) (g:Tr.G) (av:Int→Tr.Sl) (fr:List Nat) (vs vf:Value) (nd q:Tr.GN) (w:World) (hm:TV base w B b s vs n (Tr.raw g av) vf fr live root) (hS:Sound b s n (Tr.raw g av) fr live) (hw:Tr.WF 0 g)
  (eh:g h=some nd) (hn:nd.pa=0) (ep:g p=some q) (hp:h≠p) (hc:c=0∨c∈q.kids):
  Calls Tryz.prog 57 #[.pointer (some ⟨B,0,none⟩),.int .i64 p,.int .i64 h,.int .i64 c] w fun e w'=>(∃ u,e=.returned u)∧TV base w' B b s vs n (Tr.raw (Tr.bg g p h c) av) vf fr live root∧aB w w' (aD B vs vf) (aD B vs vf):=by
 rw[Tr.GJ hw eh hn ep hp hc];have hpz:p≠0:=fun e1=>by rw[e1,hw.zero] at ep;cases ep
 have hnk:h∉q.kids:=fun hm=>by
  obtain⟨m,h1,h2⟩:=hw.down p q h ep hm;rw[eh] at h1;obtain rfl:=Option.some.inj h1;exact hpz (by rw[←h2,hn])
 have hcm:c≠0→∃ mc,g c=some mc∧mc.pa=p:=fun e=>hw.down p q c ep (by rcases hc with h1 | h1;exact absurd h1 e;exact h1);have YV:(if c=0 then Tr.dN q.kids else Tr.prv q.kids c)≠0→(if c=0 then Tr.dN q.kids else Tr.prv q.kids c)∈q.kids:=fun e=>by
  split at e
  ·rename_i h1;rw[if_pos h1];exact Tr.oI e
  ·rename_i h1;rw[if_neg h1];exact Tr.K7 e
 obtain⟨dc,hdc⟩:=some_or (R:=Tr.raw g av) (c:=c) (fun e=>by obtain⟨mc,e1,_⟩:=hcm e;exact⟨_,Tr.aj e1⟩);obtain⟨dv,hdv⟩:=some_or (R:=Tr.raw g av) (c:=if c=0 then Tr.dN q.kids else Tr.prv q.kids c) (fun e=>by obtain⟨mv,e1,_⟩:=hw.down p q _ ep (YV e);exact⟨_,Tr.aj e1⟩);refine Pv base B b s root p h c live n _ fr vs vf _ _ dc dv _ w hm hS (Tr.aj ep) (Tr.aj eh) hdc ?_ hdv hp (fun e e1=>?_) (fun e e1=>hnk (by rw[e1];exact YV e))
 ·by_cases h1:c=0
  ·rw[if_pos h1,if_pos h1];rfl
  ·rw[if_neg h1,if_neg h1];obtain⟨mc,e1,e2⟩:=hcm h1;have:=hdc h1;rw[Tr.aj e1] at this;obtain rfl:=Option.some.inj this;show _=Tr.prv (Tr.au g mc.pa) c;rw[e2,Tr.aH ep]
 ·rcases hc with h1 | h1
  ·exact e h1
  ·exact hnk (e1▸h1)
end
end
section
open Go.RowKit
theorem recInfo:(Tryz.prog.info? 68).map (fun i=>(i.zero,i.size,i.bytes))=some (some (.agg #[.int .i64 0,.int .i64 0,.int .i64 0,.int .i64 0,.int .i64 0,.int .i64 0,.string ⟨#[]⟩,.string ⟨#[]⟩,.bool false,.int .i64 0,.int .i64 0]),11,104):=by kernel_rfl
theorem lY (l m:List Tr.Rec):gY (l++m)=gY l++gY m:=by simp[gY]
theorem zB (r:Tr.Rec):∀ u∈gY [r],u.oneCell'=true:=fun u hu=>by
 simp only[gY,UD,List.flatMap_cons,List.flatMap_nil,List.append_nil,List.mem_cons,List.not_mem_nil,or_false] at hu;rcases hu with rfl | rfl | rfl | rfl | rfl | rfl | rfl | rfl | rfl | rfl | rfl<;>rfl
theorem M0 {w:World} {b1 b2 size:Nat} {e:TypeId} {v:Value} {n:Nat} {xs:List Value} (h:w.ownsRow b1 e size v n xs) (hb:b2≤b1):w.ownsRow b2 e size v n xs:=by
 refine⟨h.1,?_⟩;rcases h.2 with hn | ⟨g,cap,cur,hv,h0,hr⟩
 ·exact .inl hn
 ·exact .inr ⟨g,cap,cur,hv,Nat.le_trans hb h0,hr⟩
theorem bH.lower {b1 b2:Nat} {w:World} {v:Value} {l:List Tr.Rec} (h:bH b1 w v l) (hb:b2≤b1):bH b2 w v l:=M0 h hb
theorem bH.below {b:Nat} {w w':World} {v:Value} {l:List Tr.Rec} (h:bH b w v l) (hb:Below w.heap.size w w'):bH b w' v l:=bW (S:=fun _=>False) h (.of_below hb) (fun _ _=>id)
section
variable {base B n live:Nat} {w w1:World} {b s root:Int} {vs vf:Value} {R:Int→Option Tr.Nd} {fr:List Nat}
theorem TV.apart {b2 size m:Nat} {e:TypeId} {v:Value} {xs:List Value} (hM:TV base w B b s vs n R vf fr live root) (h:w.ownsRow b2 e size v m xs) (h1:e≠66) (h2:e≠131) (h3:e≠3):∀ k,v.ownBlock=some k→¬ aD B vs vf k:=by
 rintro k hk (rfl | hx | hx)
 ·exact bA h hM.var h1 hk
 ·rcases own_ne h hM.row h2 with h4 | h4
  ·rw[h4] at hk;cases hk
  ·exact h4 (hk.trans hx.symm)
 ·rcases own_ne h hM.free h3 with h4 | h4
  ·rw[h4] at hk;cases hk
  ·exact h4 (hk.trans hx.symm)
theorem bH.step {b2:Nat} {v:Value} {l:List Tr.Rec} {F':Nat→Prop} (h:bH b2 w v l) (hM:TV base w B b s vs n R vf fr live root) (st:aB w w1 (aD B vs vf) F'):bH b2 w1 v l:=
 bW h st.1 (hM.apart h (by decide) (by decide) (by decide))
theorem TV.wV {b2:Nat} {v:Value} {l:List Tr.Rec} (hM:TV base w B b s vs n R vf fr live root) (h:bH b2 w v l) (g:w.grownBy w1 v.ownBlock):TV base w1 B b s vs n R vf fr live root:=
 hM.turns (S:=fun k=>v.ownBlock=some k) (.aT g (fun k hk=>hk)) (fun k hk e=>hM.apart h (by decide) (by decide) (by decide) k e hk)
theorem aB.lM {F F':Nat→Prop} {w2:World} {S:Nat→Prop} (st:aB w w1 F F') (h:Turns S w1 w2) (hS:∀ k,S k→w.heap.size≤k):aB w w2 F F':=
 ⟨st.1.trans h (fun _ _ x=>x) (fun k hk x=>absurd hk (Nat.not_lt.2 (hS k x))),st.2⟩
theorem rR.next {p h c:Int} {g:Tr.G} {av:Int→Tr.Sl} {np nh:Tr.GN} {w':World} (H:rR base B b s root p h c live n g av fr vs vf np nh w) (hb:Below w.heap.size w w'):
  Calls Tryz.prog 43 #[.pointer (some ⟨B,0,none⟩),.int .i64 h] w' fun e w2=>∃ gb o,e=.returned (.pointer (some ⟨gb,o,none⟩))∧w2.cell? ⟨gb,o+8,none⟩=some (.int .i64 (Tr.nK (Tr.au g (Tr.dG g h)) h))∧Below w'.heap.size w' w2:=by
 refine (gW base B b s root h live n _ fr vs vf _ w' (H.tree.below hb) H.sound (Tr.aj H.eh)).mono ?_;rintro e w2 ⟨gb,o,rfl,hpt,hb2⟩;refine⟨gb,o,rfl,?_,hb2⟩;obtain⟨_,_,_,_,_,_,_,_,t8⟩:=(((H.tree.below hb).below hb2).np hpt (Tr.aj H.eh)).cells;rw[t8,Tr.aL H.eh];rfl
end
theorem EH (base B:Nat) (b s root p h c:Int) (live n:Nat) (g:Tr.G) (av:Int→Tr.Sl) (fr:List Nat) (vs vf:Value) (np nh:Tr.GN) (w:World) (H:rR base B b s root p h c live n g av fr vs vf np nh w)
  (hacc:Tr.dW g p h=true) (hu:h∉Tr.aY g p) (hpc:c≠0→Tr.dG g c=p) (hlim:128<(Tr.aY g p).length+Tr.gF g h):
  Calls Tryz.prog 19 #[.pointer (some ⟨B,0,none⟩),.int .i64 p,.int .i64 h,.int .i64 c] w fun e w'=>e=.returned (ou 5)∧Below w.heap.size w w':=by
 have hpi:=(bN H.sound (h:=p) (by rw[aM,H.ep];rfl)).1;have HP:=zh (H.has (Below.refl _ w) (x:=p) (by rw[H.ep];rfl));have QW:=zh (fun (W:World) (hb:Below w.heap.size w W)=>H.has hb (x:=h) (by rw[H.eh];rfl));have QB:=zh (fun (W:World) (hb:Below w.heap.size w W) (hc:c≠0)=>H.has hb (x:=c) (H.ec hc));have HA:=zh (fun (W:World) (hb:Below w.heap.size w W)=>rT base B b s root p h live n g av fr vs vf np nh W (H.tree.below hb) H.sound H.wf H.ep H.eh);have HC:=zh (fun (W:World) (hb:Below w.heap.size w W)=>nA base B b s root h p live n g av fr vs vf W (H.tree.below hb) H.sound H.wf hpi);have Ws:=zh (fun (W:World) (hb:Below w.heap.size w W) (hc:c≠0)=>H.dG hb hc);have hdl:=(H.wf.bY p).2;have hgl:=H.wf.qC h;have HD:=fun (W:World) (hb:Below w.heap.size w W)=>Cv base B b s root p live n g av fr vs vf W (H.tree.below hb) H.sound H.wf hpi;have HG:=fun (W:World) (hb:Below w.heap.size w W)=>zy base B b s root live n g av fr vs vf H.sound H.wf h (by rw[H.eh];rfl) W (H.tree.below hb);have key:∀ (w2 w3:World),Below w2.heap.size w2 w3→Below w.heap.size w w2→Below w.heap.size w w3:=fun w2 w3 h h'=>h'.trans (h.mono h'.size);clear H;obtain⟨D,hD⟩:=eX ((Tr.aY g p).length)
 obtain⟨X,hX⟩:=eX (Tr.gF g h)
 rw[hD] at HD hdl hlim;rw[hX] at HG hgl hlim;have hXl:X≤129:=by omega
 replace HD:=zh HD;replace HG:=zh HG;have hq9:decide ((128:Int)<(D:Int)+(X:Int))=true:=decide_eq_true (by omega);by_cases hc0:c=0
 ·subst hc0;have hq:((0:Int) != 0)=false:=rfl
  go_enter Tryz.func19,Tryz.ntmps19
  go_wp2_with fail;refine HP.out.mono ?_;rintro e w2 ⟨rfl,hb2⟩;go_wp2_with fail;refine (QW.out w2 hb2).mono ?_;rintro e w3 ⟨rfl,hb3⟩;have dB:=key _ _ hb3 hb2;have DW:=HA.out w3 dB;rw[hacc] at DW;go_wp2_with fail;refine DW.mono ?_;rintro e w4 ⟨rfl,hb4⟩;have bU:=key _ _ hb4 dB;have uY:=HC.out w4 bU;rw[decide_eq_false hu] at uY;clear DW;go_wp2_with fail;refine uY.mono ?_;rintro e w5 ⟨rfl,hb5⟩;have dY:=key _ _ hb5 bU;clear uY;go_wp2_with fail;refine (HD.out w5 dY).mono ?_;rintro e w6 ⟨rfl,hb6⟩;have iM:=key _ _ hb6 dY;go_wp2_with fail;refine (HG.out w6 iM).mono ?_;rintro e w7 ⟨rfl,nL⟩;have qX:=key _ _ nL iM;go_wp2_with fail;go_ret2;exact⟨rfl,qX⟩
 ·have hq:=bne_true hc0;replace hpc:=hpc hc0
  go_enter Tryz.func19,Tryz.ntmps19
  go_wp2_with fail;refine HP.out.mono ?_;rintro e w2 ⟨rfl,hb2⟩;go_wp2_with fail;refine (QW.out w2 hb2).mono ?_;rintro e w3' ⟨rfl,Fz⟩;have rU:=key _ _ Fz hb2;go_wp2_with fail;refine (QB.out w3' rU hc0).mono ?_;rintro e w3 ⟨rfl,hb3⟩;have dB:=key _ _ hb3 rU;have DW:=HA.out w3 dB;rw[hacc] at DW;go_wp2_with fail;refine DW.mono ?_;rintro e w4 ⟨rfl,hb4⟩;have bU:=key _ _ hb4 dB;have uY:=HC.out w4 bU;rw[decide_eq_false hu] at uY;clear DW;go_wp2_with fail;refine uY.mono ?_;rintro e XI ⟨rfl,FV⟩;have xW:=key _ _ FV bU;have KN:=Ws.out XI xW hc0;rw[hpc] at KN;clear uY;go_wp2_with fail;refine KN.mono ?_;rintro e w5 ⟨gb,o,rfl,k4,hb5⟩;have dY:=key _ _ hb5 xW;have hpp:(p != p)=false:=by simp
  clear KN;go_wp2_with fail;refine (HD.out w5 dY).mono ?_;rintro e w6 ⟨rfl,hb6⟩;have iM:=key _ _ hb6 dY;go_wp2_with fail;refine (HG.out w6 iM).mono ?_;rintro e w7 ⟨rfl,nL⟩;have qX:=key _ _ nL iM;go_wp2_with fail;go_ret2;exact⟨rfl,qX⟩
end
section
open Go Go.RowKit
def fJ (l:List (ByteArray×ByteArray)):List Value:=l.flatMap fun p=>[.string p.1,.string p.2]
theorem jU (l m:List (ByteArray×ByteArray)):fJ (l++m)=fJ l++fJ m:=by simp[fJ]
theorem qG (l:List (ByteArray×ByteArray)):(fJ l).length=l.length*2:=by
 induction l with
 | nil=>rfl
 | cons p r ih=>
  have e:fJ (p::r)=[.string p.1,.string p.2]++fJ r:=rfl;rw[e,List.length_append,ih];simp only[List.length_cons,List.length_nil];omega
theorem gV (l:List (ByteArray×ByteArray)):∀ u∈fJ l,u.oneCell'=true:=by
 intro u hu;simp only[fJ,List.mem_flatMap] at hu;obtain⟨p,_,hu⟩:=hu;simp at hu;rcases hu with rfl | rfl<;>rfl
theorem jk:∀ (l:List (ByteArray×ByteArray)) (i:Nat) (p:ByteArray×ByteArray),l[i]?=some p→(fJ l)[i*2]?=some (.string p.1)∧(fJ l)[i*2+1]?=some (.string p.2):=by
 intro l
 induction l with
 | nil=>intro i p h;simp at h
 | cons q r ih=>
  intro i p h;have e:fJ (q::r)=[.string q.1,.string q.2]++fJ r:=rfl;cases i with
  | zero=>simp at h;subst h;exact⟨rfl,rfl⟩
  | succ i=>
   obtain⟨h1,h2⟩:=ih i p (by simpa using h);refine⟨?_,?_⟩
   ·rw[e,show (i+1)*2=i*2+2 from by omega];exact h1
   ·rw[e,show (i+1)*2+1=(i*2+1)+2 from by omega];exact h2
theorem NW (l:List (ByteArray×ByteArray)) (i:Nat):(fJ l).take (i*2)=fJ (l.take i):=by
 induction l generalizing i with
 | nil=>simp[fJ]
 | cons q r ih=>
  have e:fJ (q::r)=.string q.1::.string q.2::fJ r:=rfl;cases i with
  | zero=>simp[fJ]
  | succ i=>
   have e2:fJ ((q::r).take (i+1))=.string q.1::.string q.2::fJ (r.take i):=rfl;rw[e,e2,show (i+1)*2=i*2+1+1 from by omega,List.take_succ_cons,List.take_succ_cons,ih]
theorem NY (l:List (ByteArray×ByteArray)) (i:Nat):(fJ l).drop (i*2)=fJ (l.drop i):=by
 induction l generalizing i with
 | nil=>simp[fJ]
 | cons q r ih=>
  have e:fJ (q::r)=.string q.1::.string q.2::fJ r:=rfl;cases i with
  | zero=>simp
  | succ i=>rw[e,show (i+1)*2=i*2+1+1 from by omega,List.drop_succ_cons,List.drop_succ_cons,ih];rfl
theorem yS (l:List (ByteArray×ByteArray)) (i:Nat) (p:ByteArray×ByteArray) (h:l[i]?=some p) (v:ByteArray):(fJ l).set (i*2+1) (.string v)=fJ (l.set i (p.1,v)):=by
 induction l generalizing i with
 | nil=>simp at h
 | cons q r ih=>
  have e:fJ (q::r)=.string q.1::.string q.2::fJ r:=rfl;cases i with
  | zero=>simp at h;subst h;rfl
  | succ i=>
   rw[e,show (i+1)*2+1=(i*2+1)+1+1 from by omega,List.set_cons_succ,List.set_cons_succ,ih i (by simpa using h)];rfl
theorem CJ (l:List Int) (i:Nat):(ints l).take i=ints (l.take i):=by simp[ints]
theorem CK (l:List Int) (i:Nat):(ints l).drop i=ints (l.drop i):=by simp[ints]
structure RS where
 kind:Int
 name:ByteArray
 a:Tr.Sl
 at':List (ByteArray×ByteArray)
 data:ByteArray
 pa:Int
 k:Tr.Sl
 kids:List Int
 gone:Bool
def p8 (x:RS):List Value:=[.int .i64 x.kind,.string x.name,x.a.v,.string x.data,.int .i64 x.pa,x.k.v,.bool x.gone]
theorem tK:∀ c,(p8 c).length=7:=fun _=>rfl
theorem lZ (x:RS):∀ u∈p8 x,u.oneCell'=true:=by
 intro u hu;simp only[p8,List.mem_cons,List.not_mem_nil,or_false] at hu;rcases hu with rfl | rfl | rfl | rfl | rfl | rfl | rfl<;>rfl
def aV (f:Nat→RS) (i:Nat) (u:RS→RS):Nat→RS:=fun j=>if j=i then u (f i) else f j
theorem ku (f:Nat→RS) (i:Nat) (u:RS→RS):aV f i u i=u (f i):=if_pos rfl
theorem iW {f:Nat→RS} {i j:Nat} {u:RS→RS} (h:j≠i):aV f i u j=f j:=if_neg h
structure MV (base:Nat) (w:World) (M:Nat) (vs:Value) (m:Nat) (f:Nat→RS):Prop where
 low:base≤M
 var:Whole w M #[vs] 55
 row:w.ownsRow base 52 7 vs m (bQ p8 m f)
 ar:∀ i,i<m→TR w base 74 2 (f i).a.v (f i).at'.length (fJ (f i).at')
 kr:∀ i,i<m→TR w base 3 1 (f i).k.v (f i).kids.length (ints (f i).kids)
 aa:∀ i j,i<m→j<m→i≠j→∀ x,(f i).a.v.ownBlock=some x→(f j).a.v.ownBlock≠some x
 kk:∀ i j,i<m→j<m→i≠j→∀ x,(f i).k.v.ownBlock=some x→(f j).k.v.ownBlock≠some x
def aC (M:Nat) (vs:Value) (m:Nat) (f:Nat→RS):Nat→Prop:=fun x=>x=M∨vs.ownBlock=some x∨∃ i,i<m∧((f i).a.v.ownBlock=some x∨(f i).k.v.ownBlock=some x)
section
variable {base M m:Nat} {w w1 w':World} {vs v':Value} {f:Nat→RS}
theorem TR.Rp {w:World} {base b size n:Nat} {e t:TypeId} {v:Value} {xs:List Value} {cs:Array Value} (h:TR w base e size v n xs) (hb:Whole w b cs t) (hn:e≠t):v.ownBlock=none∨v.ownBlock≠some b:=.inr (h.unlike hb hn)
theorem MV.lt (h:MV base w M vs m f):∀ x,aC M vs m f x→base≤x∧x<w.heap.size:=by
 rintro x (rfl | hx | ⟨i,hi,hx | hx⟩)
 ·exact⟨h.low,h.var.lt⟩
 ·exact h.row.lt x hx
 ·exact (h.ar i hi).lt x hx
 ·exact (h.kr i hi).lt x hx
theorem MV.turns {S:Nat→Prop} (h:MV base w M vs m f) (ht:Turns S w w') (hn:∀ x,aC M vs m f x→¬ S x):MV base w' M vs m f:=
 ⟨h.low,h.var.turns ht (hn M (.inl rfl)),bW h.row ht (fun k hk=>hn k (.inr (.inl hk))),fun i hi=>(h.ar i hi).turns ht (fun k hk=>hn k (.inr (.inr ⟨i,hi,.inl hk⟩))),fun i hi=>(h.kr i hi).turns ht (fun k hk=>hn k (.inr (.inr ⟨i,hi,.inr hk⟩))),h.aa,h.kk⟩
theorem MV.below (h:MV base w M vs m f) (hb:Below w.heap.size w w'):MV base w' M vs m f:=h.turns (S:=fun _=>False) (.of_below hb) fun _ _=>id
theorem MV.cell (h:MV base w M vs m f):w.cell? ⟨M,0,none⟩=some vs∧w.frozen? ⟨M,0,none⟩=false:=⟨h.var.cell 0,h.var.free 0⟩
theorem MV.form (h:MV base w M vs m f):∃ A c,vs=.slice A m c:=aF (aG h.row)
theorem MV.node {A:Option Addr} {c:Nat} (h:MV base w M (.slice A m c) m f) (hl:0<m):∃ g,A=some ⟨g,0,none⟩∧g≠M∧base≤g∧g<w.heap.size∧∀ i j,i<m→j<7→w.cell? ⟨g,i*7+j,none⟩=(p8 (f i))[j]?∧w.frozen? ⟨g,i*7+j,none⟩=false:=by
 obtain⟨g,rfl,hlt,_⟩:=jX (aG h.row) hl;refine⟨g,rfl,fun e=>bA h.row h.var (by decide) (by simp[Value.ownBlock,e]),(h.row.lt g (by simp[Value.ownBlock])).1,hlt,fun i j hi hj=>⟨?_,h.row.frozenAt _⟩⟩;have hb:i*7+j<m*7:=by omega
 rw[h.row.cellAt _ hb];exact jT tK _ hi hj
theorem MV.M4 {b:Nat} (h:MV base w M vs m f) (g:w.grownBy w' (some b)) (hb:∀ i,i<m→(f i).a.v.ownBlock≠some b∧(f i).k.v.ownBlock≠some b):
  (∀ i,i<m→TR w' base 74 2 (f i).a.v (f i).at'.length (fJ (f i).at'))∧(∀ i,i<m→TR w' base 3 1 (f i).k.v (f i).kids.length (ints (f i).kids)):=
 ⟨fun i hi=>(h.ar i hi).kept g (.inr (hb i hi).1),fun i hi=>(h.kr i hi).kept g (.inr (hb i hi).2)⟩
theorem dR {b1 b2 s1 s2 n1 n2:Nat} {e1 e2:TypeId} {v1 v2:Value} {x1 x2:List Value} (h1:TR w b1 e1 s1 v1 n1 x1) (h2:w.ownsRow b2 e2 s2 v2 n2 x2) (hn:e1≠e2):∀ k,v2.ownBlock=some k→v1.ownBlock≠some k:=fun k hk hk1=>h1.ne (TR.jQ h2) hn k hk1 hk
theorem MV.put {g c i j:Nat} {v:Value} (h:MV base w M (.slice (some ⟨g,0,none⟩) m c) m f) (hi:i<m) (hj:j<7) (u:RS→RS) (hv:p8 (u (f i))=(p8 (f i)).set j v) (ha:(u (f i)).a=(f i).a∧(u (f i)).at'=(f i).at'∧(u (f i)).k=(f i).k∧(u (f i)).kids=(f i).kids):
  MV base (w.setCell ⟨g,i*7+j,none⟩ v) M (.slice (some ⟨g,0,none⟩) m c) m (aV f i u)∧aB w (w.setCell ⟨g,i*7+j,none⟩ v) (aC M (.slice (some ⟨g,0,none⟩) m c) m f) (aC M (.slice (some ⟨g,0,none⟩) m c) m (aV f i u)):=by
 obtain⟨o1,g1⟩:=h.row.stored (i*7+j) v;have hne:∀ i,i<m→(f i).a.v.ownBlock≠some g∧(f i).k.v.ownBlock≠some g:=fun i hi=>⟨dR (h.ar i hi) h.row (by decide) g (by simp[Value.ownBlock]),dR (h.kr i hi) h.row (by decide) g (by simp[Value.ownBlock])⟩
 obtain⟨r1,r2⟩:=h.M4 g1 hne;have q:∀ x,(aV f i u x).a=(f x).a∧(aV f i u x).at'=(f x).at'∧(aV f i u x).k=(f x).k∧(aV f i u x).kids=(f x).kids:=fun x=>by
  unfold aV;split
  ·rename_i e;subst e;exact ha
  ·exact⟨rfl,rfl,rfl,rfl⟩
 have hF:aC M (.slice (some ⟨g,0,none⟩) m c) m (aV f i u)=aC M (.slice (some ⟨g,0,none⟩) m c) m f:=by
  funext x;unfold aC;simp only[(q _).1,(q _).2.2.1]
 refine⟨⟨h.low,h.var.grown g1 (fun e=>bA h.row h.var (by decide) e.symm),?_,fun x hx=>?_,fun x hx=>?_,fun x y hx hy e=>?_,fun x y hx hy e=>?_⟩,?_⟩
 ·have e:(bQ p8 m f).set (i*7+j) v=bQ p8 m (aV f i u):=by
   rw[qH tK _ (u (f i)) v hi hj hv];exact jm fun k _=>by unfold aV;rfl
  rw[←e];exact o1
 ·rw[(q x).1,(q x).2.1];exact r1 x hx
 ·rw[(q x).2.2.1,(q x).2.2.2];exact r2 x hx
 ·rw[(q x).1,(q y).1];exact h.aa x y hx hy e
 ·rw[(q x).2.2.1,(q y).2.2.1];exact h.kk x y hx hy e
 ·rw[hF];exact .p9 (.aT g1 (fun k hk=>.inr (.inl (by simpa [Value.ownBlock] using hk))))
end
end
section
open Go.RowKit
theorem AU (s:ByteArray) (w:World) (hs:s.size≤20000) (hT:Lit w):
  Calls Tryz.prog 89 #[.string s] w fun e w'=>e=.returned (.bool (decide (bD.rep s.data.toList=s.data.toList)))∧Below w.heap.size w w':=by
 have hR:=Tryz.Gy s w (by omega) hT;rw[bD.MK] at hR
 go_enter Tryz.func89,Tryz.ntmps89
 go_wp2_with fail;refine hR.mono ?_;rintro e w2 ⟨rfl,hb⟩;go_wp2_with fail
 go_ret
 exact⟨rfl,hb⟩
end
section
open Go Go.RowKit Go.Shelf
def acc (a:Int) (pre:List (Nat×List UInt8)):List Value:=pre.flatMap fun x=>if a≤(x.1:Int) then Lib.runeCells ((code x.2:Nat):Int) else []
theorem G8 (a:Int) (pre:List (Nat×List UInt8)) (x:Nat×List UInt8):acc a (pre++[x])=acc a pre++(if a≤(x.1:Int) then Lib.runeCells ((code x.2:Nat):Int) else []):=by
 simp[acc,List.flatMap_append]
theorem RZ (a:Int) (pre:List (Nat×List UInt8)):(acc a pre).length≤4*pre.length:=by
 induction pre with
 | nil=>simp[acc]
 | cons x r ih=>
  have h4:=Lib.runeCells_le ((code x.2:Nat):Int);have:acc a (x::r)=(if a≤(x.1:Int) then Lib.runeCells ((code x.2:Nat):Int) else [])++acc a r:=by simp[acc]
  rw[this,List.length_append,List.length_cons]
  split
  ·omega
  ·simp only[List.length_nil];omega
theorem AV (cs:List (List UInt8)) (k:Nat) (h:k<cs.length):(enum cs).take (k+1)=(enum cs).take k++[(k,cs.getD k [])]:=by
 have hd:cs.drop k=cs.getD k []::cs.drop (k+1):=by
  rw[List.drop_eq_getElem_cons h];simp[List.getD,h]
 exact (drop_cons hd).2.2.2
theorem PI (a:Int) (cs:List (List UInt8)) (hg:∀ c∈cs,bD.Good c):∀ k,k≤cs.length→acc a ((enum cs).take k)=Lib.byteCells (seg cs a.toNat k).flatten:=by
 intro k
 induction k with
 | zero=>intro _;rw[nN cs _ 0 (Nat.zero_le _)];rfl
 | succ k ih=>
  intro h;have hk:k<cs.length:=h;rw[AV cs k hk,G8,ih (by omega)];have hgc:bD.Good (cs.getD k []):=hg _ (by simp[List.getD,hk]);by_cases hak:a≤(k:Int)
  ·rw[if_pos hak,JY hgc,GX cs a.toNat k (by omega) hk,List.flatten_append];simp[Lib.byteCells]
  ·rw[if_neg hak,nN cs _ k (by omega),nN cs _ (k+1) (by omega)];rfl
theorem wD {T e:TypeId} {B b:Nat} {bs:List Value} {W W':World} {row:Option Nat} (h:Lib.IsBuilderF T e B b bs W) (hg:W.grownBy W' row)
  (hr:∀ r,row=some r→∃ o:Obj,W.heap[r]?=some o∧o.isCells=false):Lib.IsBuilderF T e B b bs W':=by
 have hone:∀ p,Lib.BuilderAtF T e B b p bs W→Lib.BuilderAtF T e B b p bs W':=by
  rintro p ⟨hB,v,hb,hown,hne⟩;have hbl:b<W.heap.size:=(Array.getElem?_eq_some_iff.1 hb).1;refine⟨hB,v,?_,hown.kept hg ?_,hne⟩
  ·rw[hg.block b hbl ?_]
   ·exact hb
   ·intro e;obtain⟨o,ho,hc⟩:=hr b e.symm;rw[hb] at ho;obtain rfl:=Option.some.inj ho;cases hc
  ·by_cases hv:v.ownBlock=none
   ·exact .inl hv
   ·right;intro e;obtain⟨r,hvr⟩:=Option.ne_none_iff_exists'.1 hv;obtain⟨o,ho,hc⟩:=hr r (by rw[←e,hvr]);obtain⟨c,fz,hcc⟩:=Lib.ownsRowF_kind hown r hvr;rw[hcc] at ho;obtain rfl:=Option.some.inj ho;cases hc
 rcases h with h | h
 ·exact .inl (hone _ h)
 ·exact .inr (hone _ h)
theorem sM {b:Nat} {bs:List Value} {W W':World} (h:Lib.OthersKept 5 (some b) W W') (hs:W.heap.size≤W'.heap.size) (hb:Lib.IsBuilderF 93 5 b b bs W):KeepsOthers W W':=by
 refine⟨hs,fun k o hk ho=>h k o hk (fun e=>?_) (fun c fz e=>?_)⟩
 ·obtain rfl:=Option.some.inj e;rcases hb with ⟨_,v,hc,_⟩ | ⟨_,v,hc,_⟩<;>
  ·rw[hc] at hk;obtain rfl:=Option.some.inj hk;cases ho
 ·subst e;cases ho
theorem qN {T e:TypeId} {B b:Nat} {bs:List Value} {W:World} (h:Lib.IsBuilderF T e B b bs W):b<W.heap.size:=by
 rcases h with h | h<;>exact h.lt
theorem pq {T e:TypeId} {B b:Nat} {bs:List Value} {W W':World} (h:Lib.IsBuilderF T e B b bs W) (hb:Below W.heap.size W W'):Lib.IsBuilderF T e B b bs W':=by
 have hone:∀ p,Lib.BuilderAtF T e B b p bs W→Lib.BuilderAtF T e B b p bs W':=by
  rintro p ⟨hB,v,hc,hown,hne⟩;have hbl:b<W.heap.size:=(Array.getElem?_eq_some_iff.1 hc).1;refine⟨hB,v,(hb.block b hbl).trans hc,⟨hown.1,?_⟩,hne⟩;rcases hown.2 with hn | ⟨g,cap,cur,fz,rfl,hg,hgg,rest⟩
  ·exact .inl hn
  ·exact .inr ⟨g,cap,cur,fz,rfl,hg,(hb.block g (Array.getElem?_eq_some_iff.1 hgg).1).trans hgg,rest⟩
 rcases h with h | h
 ·exact .inl (hone _ h)
 ·exact .inr (hone _ h)
theorem qV {e:TypeId} {b D:Nat} {bs:List Value} {T:TypeId} {W W':World} (h:Lib.OthersKept e (some b) W W') (hK:W.heap[D]?=some (.deferred (some []))) (hb:Lib.IsBuilderF T e b b bs W):W'.heap[D]?=some (.deferred (some [])):=by
 refine h D _ hK (fun x=>?_) (fun c fz x=>by cases x);obtain rfl:=Option.some.inj x;rcases hb with ⟨_,v,hc,_⟩ | ⟨_,v,hc,_⟩<;>rw[hc] at hK<;>cases hK
end
section
open Go.RowKit Go.Shelf
attribute [local go_sem] Oper.semAt_some
theorem R3 (cs:List (List UInt8)) (hg:∀ c∈cs,bD.Good c):acc 0 (enum cs)=Lib.byteCells cs.flatten:=by
 have h:=PI 0 cs hg cs.length (Nat.le_refl _);rw[←mG cs,List.take_length,mG] at h;rw[h];unfold seg;rw[List.take_length];rfl
theorem iC (s:ByteArray) (w:World) (hs:s.size≤20000) (hT:Lit w):
  Calls Tryz.prog 49 #[.string s] w fun e w'=>e=.returned (.string (fF (bD.rep s.data.toList)))∧Below w.heap.size w w':=by
 have hV:=AU s w hs hT;by_cases hv:bD.rep s.data.toList=s.data.toList
 ·rw[decide_eq_true hv] at hV;have hres:fF (bD.rep s.data.toList)=s:=by rw[hv,tL]
  rw[hres]
  go_enter Tryz.func49,Tryz.ntmps49
  go_wp2_with fail;refine hV.mono ?_;rintro e w2 ⟨rfl,hb⟩;go_wp2_with fail
  go_ret
  exact⟨rfl,hb⟩
 ·rw[decide_eq_false hv] at hV;clear hv;obtain⟨cs,hcs⟩:=eX (bD.chunks s.data.toList)
  have iP:bD.rep s.data.toList=cs.flatten:=by rw[←hcs];rfl
  have hgood:=bD.cu s.data.toList;have hcl:=bD.uR s.data.toList;have hll:s.data.toList.length=s.size:=rfl;rw[hcs] at hgood hcl;rw[iP];have hall:=R3 cs hgood;have KQ:=zh hcs;clear hgood hcs iP;refine (callsIn_wide (n:=5)).1 ?_;refine callsIn_of_wp_marks Tryz.func49 rfl trivial ?_ rfl;simp only[Tryz.ntmps49,pT,Nat.reduceAdd,Nat.reduceSub]
  gi_wp2_with fail
  refine⟨trivial,(callsIn_wide.2 hV).mono ?_⟩;rintro e w2 ⟨rfl,hb2⟩;obtain⟨W1,hW1⟩:=eX (w2.alloc (.cells #[.pointer none,.slice none 0 0] 93))
  gi_wp2_with fail
  refine⟨trivial,(callsIn_wide.2 (GY s W1 (by omega))).mono ?_⟩;rintro e w4 ⟨lb,rfl,hw4,hst⟩;rw[KQ.out] at hst
  gi_wp2_with fail
  rw[←hw4];have hsz2:=hb2.size;have hB0:Below w.heap.size w W1:=by rw[←hW1];exact hb2.alloc hsz2 _
  have hsz1:W1.heap.size=w2.heap.size+1:=by rw[←hW1];simp
  have EI:Lib.IsBuilderF 93 5 w2.heap.size w2.heap.size [] W1:=by
   have:=Lib.IsBuilderF.of (Lib.fresh_isBuilder 93 5 w2);rw[hW1] at this;exact this
  have hb4:Below W1.heap.size W1 w4:=by rw[hw4];exact (Below.refl _ _).alloc (Nat.le_refl _) _
  have abY:w4.heap.size=w2.heap.size+2:=by rw[hw4];simp[hsz1]
  have G9:=pq EI hb4;have hB4:Below w.heap.size w w4:=hB0.trans (hb4.mono (by omega));have abq:=hst w2.heap.size (by omega);clear hst hb4 hw4 hW1 EI hB0 hV hb2;refine wpIn_rangeFunc_ownF (w:=w4) rfl (by decide) (gf:=113) (lb:=lb) rfl trivial (enters_of Tryz.func113 (by kernel_rfl) rfl) abq Keep.trans Keep.put (Below.refl _ _) (fun _=>rfl)
   (fun pre W=>Lib.IsBuilderF 93 5 w2.heap.size w2.heap.size (acc 0 pre) W∧Below w.heap.size w W)
   (fun _ _ _=>False)
   ?hI ?hIx ?h0
   (fun x=>{ tmps:=#[.string s,undef,.string ⟨#[]⟩,.pointer (some ⟨w2.heap.size,0,none⟩),undef,.int .i32 (code x.2:Nat),.string s,.bool false,undef,.string s,.func (.func 113) #[] lb,.int .i64 (x.1:Nat),.int .i32 (code x.2:Nat),undef,undef,undef],defers:=[] }) ?assign ?body ?done ?stop
  case hI=>
   rintro pre W W' row ⟨h1,h5⟩ hg hr;have hr':∀ r,row=some r→∃ o:Obj,W.heap[r]?=some o∧o.isCells=false:=fun r e=>(hr r e).2;exact⟨wD h1 hg hr',h5.grown hg (by have:=h5.size;omega) (fun k hk=>by have:=(hr k hk).1;omega)⟩
  case hIx=>exact fun _ _ _ _ _ hs _ _=>hs
  case h0=>exact⟨G9,hB4⟩
  case assign=>
   intro l x W K hK
   gi_wp2
   exact hK
  case body=>
   rintro l pre x W ⟨h1,h5⟩ hlen;have hcx:=RI x.2;have hal:=RZ 0 pre;have hW2:w2.heap.size<W.heap.size:=qN h1;have hsn:=G8 0 pre x;rw[if_pos (by omega)] at hsn
   gi_wp2_with fail
   refine⟨trivial,(CallsIn.inRound l (callsIn_wide.2 (Tryz.Mt w2.heap.size w2.heap.size (acc 0 pre) (code x.2:Nat) (by omega) (by omega) W h1 (by omega) (by omega)))).mono ?_⟩;rintro e w5 ⟨rfl,hb5,AX,hk5⟩
   gi_wp2_with fail
   refine⟨sM hk5 AX.size h1,Keep.of hk5 AX.size,?_,h5.trans (AX.mono (by omega))⟩;rw[hsn];exact .inr hb5
  case done=>
   rintro D xs W hD rfl ⟨h1,h5⟩ hK;rw[hall] at h1;have hK1:∀ W',Lib.OthersKept 5 (some w2.heap.size) W W'→W'.heap[D]?=some (.deferred (some [])):=fun W' h=>qV h hK h1;have hW2:w2.heap.size<W.heap.size:=qN h1
   gi_wp2_with fail
   refine⟨trivial,(callsIn_wide.2 (Tryz.uy w2.heap.size w2.heap.size _ W h1 (by omega))).mono ?_⟩;rintro e w5 ⟨rfl,hb5,AX,hk5⟩
   gi_wp2_with fail
   refine⟨by simp,.inl ⟨_,_,rfl,run_takeDeferred (hK1 _ hk5),?_⟩⟩;refine⟨_,results_tmp rfl _ _ _,rfl,?_⟩;exact (h5.trans (AX.mono (by omega))).trans (belowK_b (w:=w) (Nat.le_refl _) _ D _ _ (by omega) (hK1 _ hk5) rfl rfl)
  case stop=>
   rintro D c pre W hD _ h _;exact h.elim
end
section
section
open Go.RowKit
namespace Nm
def bad (c:UInt8):Bool:=bD.sp c || c.toNat == 47 || c.toNat == 62 || (decide (65≤c.toNat) && decide (c.toNat≤90))
def plain (s:ByteArray):Bool:=!(s.data.toList.any bad) && decide (bD.rep s.data.toList=s.data.toList)
def attr (s:ByteArray):Bool:=decide (s.data.toList≠[]) && !((s.data.toList.drop 1).contains 61) && plain s
theorem Dh {l:List UInt8} {k:Nat} (h:k<l.length) (h0:(l.take k).any bad=false):(l.take (k+1)).any bad=bad l[k]:=by
 rw[List.take_succ_eq_append_getElem h,List.any_append,h0,Bool.false_or];simp
end Nm
theorem xG (s:ByteArray) (w:World) (hs:s.size≤20000) (hT:Lit w):
  Calls Tryz.prog 92 #[.string s] w fun e w'=>e=.returned (.bool (Nm.plain s))∧Below w.heap.size w w':=by
 have hll:s.data.toList.length=s.size:=rfl
 go_enter Tryz.func92,Tryz.ntmps92
 go_wp2_with fail
 go_loopw [7] (fun i wr=>∃ k:Nat,i=.int .i64 k∧k≤s.size∧(s.data.toList.take k).any Nm.bad=false∧Below w.heap.size w wr) (fun i _=>s.size - (intOf i).toNat)
 case atStart=>exact⟨0,rfl,Nat.zero_le _,rfl,Below.refl _ _⟩
 case round=>
  obtain⟨k,rfl,hk,hany,hbr⟩:=hrel;by_cases hlt:k<s.size
  ·have hkl:k<s.data.toList.length:=hlt;have hnext:=Nm.Dh hkl hany;have hget:s.data.toList[k]=s[k]:=rfl;rw[hget] at hnext;obtain⟨c,hc⟩:=eX (s[k])
   have hcl:=c.toNat_lt;rw[hc] at hnext;have hq:(Nm.bad c=true∧(bD.sp c=true∨(bD.sp c=false∧((c.toNat:Int) == 47)=true)∨(bD.sp c=false∧((c.toNat:Int) == 47)=false∧((c.toNat:Int) == 62)=true)∨(bD.sp c=false∧((c.toNat:Int) == 47)=false∧((c.toNat:Int) == 62)=false∧decide ((65:Int)≤(c.toNat:Int))=true∧decide ((c.toNat:Int)≤90)=true)))∨
     (Nm.bad c=false∧bD.sp c=false∧((c.toNat:Int) == 47)=false∧((c.toNat:Int) == 62)=false∧(decide ((65:Int)≤(c.toNat:Int))=false∨(decide ((65:Int)≤(c.toNat:Int))=true∧decide ((c.toNat:Int)≤90)=false))):=by
    unfold Nm.bad;cases bD.sp c with
    | true=>left;exact⟨rfl,.inl rfl⟩
    | false=>
     simp only[Bool.false_or,Bool.or_eq_true,beq_iff_eq,Bool.and_eq_true,decide_eq_true_eq,Bool.or_eq_false_iff,beq_eq_false_iff_ne,ne_eq,Bool.and_eq_false_iff,decide_eq_false_iff_not,true_and,false_or,Bool.false_eq_true];omega
   have hneg:Nm.bad c=true→Nm.plain s=false:=fun e=>by
    unfold Nm.plain;rw[Bool.and_eq_false_iff];left;rw[Bool.not_eq_false',List.any_eq_true];exact⟨c,by rw[←hc];exact List.getElem_mem hkl,e⟩
   have HN:=zh hneg;have HX:=zh hnext;clear hneg hnext hany hget;rcases hq with ⟨hb,hq⟩ | ⟨hb,h1,h2,h3,hq⟩
   ·have HB:=zh hb;clear hb;rcases hq with h1 | ⟨h1,h2⟩ | ⟨h1,h2,h3⟩ | ⟨h1,h2,h3,h4,h5⟩
    all_goals
     go_wp2_with fail;refine (wu c wr).mono ?_;rintro e w2 ⟨rfl,hb2⟩;have hb5:Below w.heap.size w w2:=hbr.trans (hb2.mono hbr.size);go_wp2_with fail
     go_ret
     exact⟨fI (HN.out HB.out).symm,hb5⟩
   ·have HB:=zh hb;clear hb;rcases hq with h4 | ⟨h4,h5⟩
    all_goals
     go_wp2_with fail;refine (wu c wr).mono ?_;rintro e w2 ⟨rfl,hb2⟩;have hb5:Below w.heap.size w w2:=hbr.trans (hb2.mono hbr.size);go_wp2_with fail
     go_roundw
     case rel=>exact⟨k+1,by go_num,by omega,by rw[HX.out,HB.out],hb5⟩
     case measure=>simp[intOf];omega
  ·have hkk:k=s.size:=by omega
   have hall:Nm.plain s=decide (bD.rep s.data.toList=s.data.toList):=by
    unfold Nm.plain;rw[hkk,←hll,List.take_length] at hany;rw[hany];rfl
   have HV:=zh (AU s wr hs (hT.below hbr));have HA:=zh hall;clear hall hany;subst hkk;go_wp2_with fail;refine HV.out.mono ?_;rintro e w2 ⟨rfl,hb2⟩;have hb5:Below w.heap.size w w2:=hbr.trans (hb2.mono hbr.size);go_wp2_with fail
   go_ret
   exact⟨fI HA.out.symm,hb5⟩
theorem R4 (s:ByteArray) (i:Nat):(s.extract i s.size).data.toList=s.data.toList.drop i:=by
 rw[ByteArray.data_extract,Array.toList_extract];show (s.data.toList.drop i).take (s.data.toList.length - i)=_;rw[List.take_of_length_le (by rw[List.length_drop];omega)]
theorem M5 (l:List UInt8) (c:UInt8):decide (0≤Lib.indexByte l c)=l.contains c:=by
 induction l with
 | nil=>rfl
 | cons b r ih=>
  unfold Lib.indexByte;by_cases h:b=c
  ·subst h;simp
  ·have hbc:(b == c)=false:=by simpa using h
   have hcb:(c == b)=false:=by simpa using fun e=>h e.symm
   rw[hbc,List.contains_cons,hcb,Bool.false_or,←ih];have hge : -1≤Lib.indexByte r c:=by
    clear ih hbc hcb h
    induction r with
    | nil=>exact (by decide:(-1:Int) ≤ -1)
    | cons d r ih2=>
     unfold Lib.indexByte
     split
     ·omega
     ·split
      ·omega
      ·omega
   by_cases h2:Lib.indexByte r c = -1
   ·rw[h2];rfl
   ·have:(Lib.indexByte r c == -1)=false:=by simpa using h2
    rw[this];simp only[Bool.false_eq_true,if_false];rw[Bool.eq_iff_iff,decide_eq_true_eq,decide_eq_true_eq];omega
theorem nE (s:ByteArray) (w:World) (hs:s.size≤20000) (hT:Lit w):
  Calls Tryz.prog 69 #[.string s] w fun e w'=>e=.returned (.bool (Nm.attr s))∧Below w.heap.size w w':=by
 have hP:=xG s w hs hT;by_cases he:s.data.toList=[]
 ·have hse:s=⟨#[]⟩:=by
   cases s with
   | mk d=>cases d with | mk l=>simp at he;subst he;rfl
  have hr:Nm.attr s=false:=by unfold Nm.attr;rw[he];rfl
  have HR:=zh hr;clear hr hP he;subst hse
  go_enter Tryz.func69,Tryz.ntmps69
  go_wp2_with fail
  go_ret
  exact⟨fI HR.out.symm,Below.refl _ _⟩
 ·have hpos:0<s.size:=by
   rcases Nat.eq_zero_or_pos s.size with h | h
   ·exact absurd (List.eq_nil_of_length_eq_zero (show s.data.toList.length=0 from h)) he
   ·exact h
  have hne0:(s.toList == [])=false:=by
   rw[Lib.toList_data,beq_eq_false_iff_ne];exact he
  have hne:(s.toList != [])=true:=by
   rw[bne,hne0];rfl
  have hrun:∀ W:World,(Instr.slice 9 (.string s) (some (.int .i64 1)) none none).run Tryz.prog W=.ok (.string (s.extract 1 s.size)) W:=fun W=>by
   rw[run_slice_string_l (ht:=Tryz.underlying9) (h0:=by omega) (h1:=by omega)];rfl
  have hcon:∀ W:World,Calls Tryz.prog 100 #[.string (s.extract 1 s.size),.string ⟨#[61]⟩] W fun e w'=>e=.returned (.bool ((s.data.toList.drop 1).contains 61))∧w'=W:=fun W=>by
   rw[←R4,←M5];exact Tryz.contains_one _ 61 W
  have hat:Nm.attr s=(!((s.data.toList.drop 1).contains 61) && Nm.plain s):=by
   unfold Nm.attr;rw[decide_eq_true he,Bool.true_and]
  obtain⟨cn,hcn⟩:=eX ((s.data.toList.drop 1).contains 61)
  rw[hcn] at hcon hat;have HAT:=zh hat;clear hat hcn he;cases cn
  ·go_enter Tryz.func69,Tryz.ntmps69
   go_wp2_with fail;refine (hcon w).mono ?_;rintro e w2 ⟨rfl,rfl⟩;go_wp2_with fail;refine hP.mono ?_;rintro e w2 ⟨rfl,hb⟩;go_wp2_with fail
   go_ret
   exact⟨fI HAT.out.symm,hb⟩
  ·go_enter Tryz.func69,Tryz.ntmps69
   go_wp2_with fail;refine (hcon w).mono ?_;rintro e w2 ⟨rfl,rfl⟩;go_wp2_with fail
   go_ret
   exact⟨fI HAT.out.symm,Below.refl _ _⟩
def Nm.fits (s:ByteArray):Bool:=decide ((bD.rep s.data.toList).length≤1048576)
theorem AY (s:ByteArray) (w:World) (hs:s.size≤20000) (hT:Lit w):
  Calls Tryz.prog 93 #[.string s] w fun e w'=>e=.returned (.bool (Nm.fits s))∧Below w.heap.size w w':=by
 have hrl:=bD.nk s.data.toList;have hll:s.data.toList.length=s.size:=rfl;have hF:Nm.fits s=decide ((((bD.rep s.data.toList).length:Nat):Int)≤1048576):=by
  unfold Nm.fits;rw[Bool.eq_iff_iff,decide_eq_true_eq,decide_eq_true_eq];omega
 have HF:=zh hF;clear hF
 go_enter Tryz.func93,Tryz.ntmps93
 go_wp2_with fail;refine (iC s w hs hT).mono ?_;rintro e w2 ⟨rfl,hb⟩;go_wp2_with fail
 go_ret
 exact⟨fI (by rw[HF.out];rfl),hb⟩
end
end
section
open Go.RowKit
def Nm.elem (s:ByteArray):Bool:=match s.data.toList with
 | []=>false
 | c::_=>decide (97≤c.toNat) && decide (c.toNat≤122) && Nm.plain s
theorem PK {P:Program} {t k0 e0:TypeId} (h:P.underlying t=some (TypeDesc.map k0 e0)) (k:Int) (W:World):(Instr.makeMap t (some (.int .i64 k))).run P W=.ok (.map (some W.heap.size)) (W.alloc (.map #[] 0)):=by
 unfold Instr.makeMap;simp only[Sem.run_bind,run_underlying h,Result.andThen,asInt,asIntOf,Sem.run_pure];rfl
theorem J3 (d:Tr.Nd) (w:World) (hn:d.av.n=0) (hs:d.name.size≤20000) (hT:Lit w):
  Calls Tryz.prog 50 #[QO d] w fun e w'=>e=.returned (.bool (d.kind != 2 || Nm.elem d.name))∧Below w.heap.size w w':=by
 obtain⟨k,nm,⟨a,n,c⟩,dt,pa,fi,la,pr,ne⟩:=d;dsimp only at hn hs ⊢;subst hn;by_cases hk:k=2
 ·have hk2:(k != 2)=false:=by simpa using hk
  subst hk;obtain⟨w1,hw1⟩:=eX (w.alloc (.cells #[.int .i64 2,.string nm,.slice a 0 c,.string dt,.int .i64 pa,.int .i64 fi,.int .i64 la,.int .i64 pr,.int .i64 ne] 97))
  have hb1:Below w.heap.size w w1:=gU hw1;have hX1:Whole w1 w.heap.size #[.int .i64 2,.string nm,.slice a 0 c,.string dt,.int .i64 pa,.int .i64 fi,.int .i64 la,.int .i64 pr,.int .i64 ne] 97:=by rw[←hw1];exact Whole.new w _ _
  have e0:w1.cell? ⟨w.heap.size,0,none⟩=some (.int .i64 2):=hX1.cell 0;have e1:w1.cell? ⟨w.heap.size,1,none⟩=some (.string nm):=hX1.cell 1;have e2:w1.cell? ⟨w.heap.size,2,none⟩=some (.slice a 0 c):=hX1.cell 2;have hP:=xG nm;have hmk:=fun W=>PK Tryz.underlying137 0 W;have hbm:Below w1.heap.size w1 (w1.alloc (.map #[] 0)):=(Below.refl _ w1).alloc (Nat.le_refl _) _;have hX2:=hX1.below hbm hX1.lt;have IC:Lit (w1.alloc (.map #[] 0)):=(hT.below hb1).below hbm;have hb2:=hb1.trans (hbm.mono hb1.size);have m1:(w1.alloc (.map #[] 0)).cell? ⟨w.heap.size,1,none⟩=some (.string nm):=hX2.cell 1;have m2:(w1.alloc (.map #[] 0)).cell? ⟨w.heap.size,2,none⟩=some (.slice a 0 c):=hX2.cell 2;clear hbm
  go_enter Tryz.func50,Tryz.ntmps50
  have hel:Nm.elem nm=(match nm.data.toList with | []=>false | c::_=>decide (97≤c.toNat) && decide (c.toNat≤122) && Nm.plain nm):=rfl;have hll:nm.data.toList.length=nm.size:=rfl;have HE:=zh hel;clear hel;go_wp2_with fail
  go_loopw [16] (fun i wr=>i=.int .i64 0∧wr=w1.alloc (.map #[] 0)) (fun _ _=>0)
  case atStart=>exact⟨rfl,rfl⟩
  case round=>
   obtain⟨rfl,rfl⟩:=hrel;cases hnm:nm.data.toList with
   | nil=>
    have hne0:(nm.toList == [])=true:=by rw[Lib.toList_data,hnm];rfl
    have hne:(nm.toList != [])=false:=by rw[bne,hne0];rfl
    have hr:Nm.elem nm=false:=by rw[HE.out,hnm]
    have HR:=zh hr;clear hr hll hP hT hs;go_wp2_with fail
    go_ret
    exact⟨fI (by simp[HR.out]),hb2⟩
   | cons c0 r=>
    have hne0:(nm.toList == [])=false:=by rw[Lib.toList_data,hnm];rfl
    have hne:(nm.toList != [])=true:=by rw[bne,hne0];rfl
    have hr:Nm.elem nm=(decide (97≤c0.toNat) && decide (c0.toNat≤122) && Nm.plain nm):=by rw[HE.out,hnm]
    have hpos:0<nm.size:=by rw[←hll,hnm];simp
    have hget:nm[0]=c0:=by
     have:nm.data.toList[0]'(by rw[hnm];simp)=c0:=by simp[hnm]
     exact this
    have hem:nm.toList.isEmpty=false:=by rw[Lib.toList_data,hnm];rfl
    clear hll;by_cases h1:97≤c0.toNat
    ·by_cases h2:c0.toNat≤122
     ·have hr':Nm.elem nm=Nm.plain nm:=by rw[hr,decide_eq_true h1,decide_eq_true h2];simp
      have HR:=zh hr';have HP:=zh (hP _ hs IC);have TY:(97:Int)≤(c0.toNat:Int):=by omega
      have YW:(c0.toNat:Int)≤122:=by omega
      clear hr hr' hT hP hs hnm;go_wp2_with fail;refine HP.out.mono ?_;rintro e w4 ⟨rfl,hb4⟩;go_wp2_with fail
      go_ret
      exact⟨fI (by simp[HR.out]),hb2.trans (hb4.mono hb2.size)⟩
     ·have hr':Nm.elem nm=false:=by rw[hr,decide_eq_false h2];simp
      have HR:=zh hr';have TY:(97:Int)≤(c0.toNat:Int):=by omega
      have YW:¬ (c0.toNat:Int)≤122:=by omega
      clear hr hr' hT hP hs hnm;go_wp2_with fail
      go_ret
      exact⟨fI (by simp[HR.out]),hb2⟩
    ·have hr':Nm.elem nm=false:=by rw[hr,decide_eq_false h1];simp
     have HR:=zh hr';have TY:¬ (97:Int)≤(c0.toNat:Int):=by omega
     clear hr hr' hT hP hs hnm;go_wp2_with fail
     go_ret
     exact⟨fI (by simp[HR.out]),hb2⟩
 ·have hk2:(k != 2)=true:=by simpa using hk
  go_enter Tryz.func50,Tryz.ntmps50
  go_wp2_with fail
  go_ret
  exact⟨fI (by rw[hk2];rfl),(Below.refl _ w).alloc (Nat.le_refl _) _⟩
theorem rX (d:Tr.Nd) (w:World) (hn:d.av.n=0) (hk:d.kind≠2):
  Calls Tryz.prog 50 #[QO d] w fun e w'=>e=.returned (.bool true)∧Below w.heap.size w w':=by
 obtain⟨k,nm,⟨a,n,c⟩,dt,pa,fi,la,pr,ne⟩:=d;dsimp only at hn hk ⊢;have hk2:(k != 2)=true:=by simpa using hk
 go_enter Tryz.func50,Tryz.ntmps50
 go_wp2_with fail
 go_ret
 exact⟨rfl,(Below.refl _ w).alloc (Nat.le_refl _) _⟩
theorem rY (d:Tr.Nd) (w:World) (hn:d.av.n=0) (hs:d.data.size≤20000) (hT:Lit w):
  Calls Tryz.prog 52 #[QO d] w fun e w'=>e=.returned (.bool (Nm.fits d.data))∧Below w.heap.size w w':=by
 obtain⟨k,nm,⟨a,n,c⟩,dt,pa,fi,la,pr,ne⟩:=d;dsimp only at hn hs ⊢;subst hn;obtain⟨w1,hw1⟩:=eX (w.alloc (.cells #[.int .i64 k,.string nm,.slice a 0 c,.string dt,.int .i64 pa,.int .i64 fi,.int .i64 la,.int .i64 pr,.int .i64 ne] 97))
 have hb1:Below w.heap.size w w1:=gU hw1;have hX1:Whole w1 w.heap.size #[.int .i64 k,.string nm,.slice a 0 c,.string dt,.int .i64 pa,.int .i64 fi,.int .i64 la,.int .i64 pr,.int .i64 ne] 97:=by rw[←hw1];exact Whole.new w _ _
 have e2:w1.cell? ⟨w.heap.size,2,none⟩=some (.slice a 0 c):=hX1.cell 2;have e3:w1.cell? ⟨w.heap.size,3,none⟩=some (.string dt):=hX1.cell 3;have HF:=zh (AY dt w1 hs (hT.below hb1));clear hT hX1
 go_enter Tryz.func52,Tryz.ntmps52
 go_wp2_with fail
 go_loopw [8] (fun i wr=>i=.int .i64 0∧wr=w1) (fun _ _=>0)
 case atStart=>exact⟨rfl,rfl⟩
 case round=>
  obtain⟨rfl,rfl⟩:=hrel;go_wp2_with fail;refine HF.out.mono ?_;rintro e w4 ⟨rfl,hb4⟩;go_wp2_with fail
  go_ret
  exact⟨rfl,hb1.trans (hb4.mono hb1.size)⟩
def Nm.uD (s:ByteArray):Bool:=decide (s.data.toList≠[]) && Nm.plain s
theorem sN (s:ByteArray) (w:World) (hs:s.size≤10000):
  Calls Tryz.prog 98 #[.string s] w fun e w'=>e=.returned (.bool (Nm.uD s))∧Below w.heap.size w w':=by
 have hll:s.data.toList.length=s.size:=rfl
 go_enter Tryz.func98,Tryz.ntmps98
 go_wp2_with fail
 go_loopw [3] (fun i wr=>∃ k:Nat,i=.int .i64 k∧k≤s.size∧(s.data.toList.take k).any Nm.bad=false∧wr=w) (fun i _=>s.size - (intOf i).toNat)
 case atStart=>exact⟨0,rfl,Nat.zero_le _,rfl,rfl⟩
 case round=>
  obtain⟨k,rfl,hk,hany,rfl⟩:=hrel;by_cases hlt:k<s.size
  ·have hkl:k<s.data.toList.length:=hlt;have hnext:=Nm.Dh hkl hany;have hget:s.data.toList[k]=s[k]:=rfl;rw[hget] at hnext;obtain⟨c,hc⟩:=eX (s[k])
   have hcl:=c.toNat_lt;rw[hc] at hnext;have hq:(Nm.bad c=true∧(bD.sp c=true∨(bD.sp c=false∧((c.toNat:Int) == 47)=true)∨(bD.sp c=false∧((c.toNat:Int) == 47)=false∧((c.toNat:Int) == 62)=true)∨(bD.sp c=false∧((c.toNat:Int) == 47)=false∧((c.toNat:Int) == 62)=false∧decide ((65:Int)≤(c.toNat:Int))=true∧decide ((c.toNat:Int)≤90)=true)))∨
     (Nm.bad c=false∧bD.sp c=false∧((c.toNat:Int) == 47)=false∧((c.toNat:Int) == 62)=false∧(decide ((65:Int)≤(c.toNat:Int))=false∨(decide ((65:Int)≤(c.toNat:Int))=true∧decide ((c.toNat:Int)≤90)=false))):=by
    unfold Nm.bad;cases bD.sp c with
    | true=>left;exact⟨rfl,.inl rfl⟩
    | false=>
     simp only[Bool.false_or,Bool.or_eq_true,beq_iff_eq,Bool.and_eq_true,decide_eq_true_eq,Bool.or_eq_false_iff,beq_eq_false_iff_ne,ne_eq,Bool.and_eq_false_iff,decide_eq_false_iff_not,true_and,false_or,Bool.false_eq_true];omega
   have hneg:Nm.bad c=true→Nm.uD s=false:=fun e=>by
    have:Nm.plain s=false:=by
     unfold Nm.plain;rw[Bool.and_eq_false_iff];left;rw[Bool.not_eq_false',List.any_eq_true];exact⟨c,by rw[←hc];exact List.getElem_mem hkl,e⟩
    unfold Nm.uD;rw[this,Bool.and_false]
   have HN:=zh hneg;have HX:=zh hnext;clear hneg hnext hany hget;rcases hq with ⟨hb,hq⟩ | ⟨hb,h1,h2,h3,hq⟩
   ·have HB:=zh hb;clear hb;rcases hq with h1 | ⟨h1,h2⟩ | ⟨h1,h2,h3⟩ | ⟨h1,h2,h3,h4,h5⟩
    all_goals
     go_wp2_with fail;refine (Da c wr).mono ?_;rintro e w2 ⟨rfl,hw2⟩;obtain rfl:=hw2;go_wp2_with fail
     go_ret
     exact⟨fI (HN.out HB.out).symm,Below.refl _ _⟩
   ·have HB:=zh hb;clear hb;rcases hq with h4 | ⟨h4,h5⟩
    all_goals
     go_wp2_with fail;refine (Da c wr).mono ?_;rintro e w2 ⟨rfl,hw2⟩;obtain rfl:=hw2;go_wp2_with fail
     go_roundw
     case rel=>exact⟨k+1,by go_num,by omega,by rw[HX.out,HB.out],trivial⟩
     case measure=>simp[intOf];omega
  ·have hkk:k=s.size:=by omega
   have hall:Nm.plain s=decide (bD.rep s.data.toList=s.data.toList):=by
    unfold Nm.plain;rw[hkk,←hll,List.take_length] at hany;rw[hany];rfl
   have HV:=zh (kC s wr hs);have hat:Nm.uD s=(decide (s.data.toList≠[]) && decide (bD.rep s.data.toList=s.data.toList)):=by unfold Nm.uD;rw[hall]
   have HA:=zh hat;clear hall hany hat;subst hkk;by_cases he:s.data.toList=[]
   ·have hne0:(s.toList == [])=true:=by rw[Lib.toList_data,he];rfl
    have hne:(s.toList != [])=false:=by rw[bne,hne0];rfl
    have hr:Nm.uD s=false:=by rw[HA.out,he];rfl
    have HR:=zh hr;clear hr he;go_wp2_with fail
    go_ret
    exact⟨fI HR.out.symm,Below.refl _ _⟩
   ·have hne0:(s.toList == [])=false:=by rw[Lib.toList_data,beq_eq_false_iff_ne];exact he
    have hne:(s.toList != [])=true:=by rw[bne,hne0];rfl
    have hr:Nm.uD s=decide (bD.rep s.data.toList=s.data.toList):=by rw[HA.out,decide_eq_true he,Bool.true_and]
    have hcm:((fF (bD.rep s.data.toList)).toList == s.toList)=decide (bD.rep s.data.toList=s.data.toList):=by
     rw[Lib.toList_data,Lib.toList_data,Bool.eq_iff_iff,beq_iff_eq,decide_eq_true_eq];rfl
    have HR:=zh (hr.trans hcm.symm);clear hr he hcm;go_wp2_with fail;refine HV.out.mono ?_;rintro e w2 ⟨rfl,hb2⟩;go_wp2_with fail
    go_ret
    exact⟨fI HR.out.symm,hb2⟩
theorem vN (s:ByteArray) (w:World) (hs:s.size≤10000):
  Calls Tryz.prog 59 #[.string s] w fun e w'=>e=.returned (.bool (Nm.elem s))∧Below w.heap.size w w':=by
 have hP:=sN s w hs;have hll:s.data.toList.length=s.size:=rfl;have HE:Hid (Nm.elem s=(match s.data.toList with | []=>false | c::_=>decide (97≤c.toNat) && decide (c.toNat≤122) && Nm.plain s)):=zh rfl
 go_enter Tryz.func59,Tryz.ntmps59
 cases hnm:s.data.toList with
 | nil=>
  have hne0:(s.toList == [])=true:=by rw[Lib.toList_data,hnm];rfl
  have hne:(s.toList != [])=false:=by rw[bne,hne0];rfl
  have hr:Nm.elem s=false:=by rw[HE.out,hnm]
  have HR:=zh hr;clear hr hll hP hs;go_wp2_with fail
  go_ret
  exact⟨fI HR.out.symm,Below.refl _ _⟩
 | cons c0 r=>
  have hne0:(s.toList == [])=false:=by rw[Lib.toList_data,hnm];rfl
  have hne:(s.toList != [])=true:=by rw[bne,hne0];rfl
  have hr:Nm.elem s=(decide (97≤c0.toNat) && decide (c0.toNat≤122) && Nm.plain s):=by rw[HE.out,hnm]
  have hra:Nm.uD s=Nm.plain s:=by unfold Nm.uD;rw[hnm];simp
  rw[hra] at hP;have hpos:0<s.size:=by rw[←hll,hnm];simp
  have hget:s[0]=c0:=by
   have:s.data.toList[0]'(by rw[hnm];simp)=c0:=by simp[hnm]
   exact this
  have hem:s.toList.isEmpty=false:=by rw[Lib.toList_data,hnm];rfl
  clear hll;by_cases h1:97≤c0.toNat
  ·by_cases h2:c0.toNat≤122
   ·have hr':Nm.elem s=Nm.plain s:=by rw[hr,decide_eq_true h1,decide_eq_true h2];simp
    have HR:=zh hr';have HP:=zh hP;have TY:(97:Int)≤(c0.toNat:Int):=by omega
    have YW:(c0.toNat:Int)≤122:=by omega
    clear hr hr' hP hs hnm hra;go_wp2_with fail;refine HP.out.mono ?_;rintro e w4 ⟨rfl,hb4⟩;go_wp2_with fail
    go_ret
    exact⟨fI HR.out.symm,hb4⟩
   ·have hr':Nm.elem s=false:=by rw[hr,decide_eq_false h2];simp
    have HR:=zh hr';have TY:(97:Int)≤(c0.toNat:Int):=by omega
    have YW:¬ (c0.toNat:Int)≤122:=by omega
    clear hr hr' hP hs hnm hra;go_wp2_with fail
    go_ret
    exact⟨fI HR.out.symm,Below.refl _ _⟩
  ·have hr':Nm.elem s=false:=by rw[hr,decide_eq_false h1];simp
   have HR:=zh hr';have TY:¬ (97:Int)≤(c0.toNat:Int):=by omega
   clear hr hr' hP hs hnm hra;go_wp2_with fail
   go_ret
   exact⟨fI HR.out.symm,Below.refl _ _⟩
theorem PL {l:List UInt8} {k:Nat} (hk:1≤k) (hkl:k<l.length) (h0:((l.take k).drop 1).contains 61=false):((l.take (k+1)).drop 1).contains 61=(l[k] == 61):=by
 rw[List.take_succ_eq_append_getElem hkl,List.drop_append_of_le_length (by rw[List.length_take];omega),List.contains_eq_any_beq,List.any_append,←List.contains_eq_any_beq,h0,Bool.false_or];simp only[List.any_cons,List.any_nil,Bool.or_false];rw[Bool.eq_iff_iff,beq_iff_eq,beq_iff_eq];exact eq_comm
theorem oH (s:ByteArray) (w:World) (hs:s.size≤10000):
  Calls Tryz.prog 60 #[.string s] w fun e w'=>e=.returned (.bool (Nm.attr s))∧Below w.heap.size w w':=by
 have hll:s.data.toList.length=s.size:=rfl;have HE:Hid (Nm.attr s=(decide (s.data.toList≠[]) && !((s.data.toList.drop 1).contains 61) && Nm.plain s)):=zh rfl
 go_enter Tryz.func60,Tryz.ntmps60
 go_wp2_with fail
 go_loopw [3] (fun i wr=>∃ k:Nat,i=.int .i64 k∧1≤k∧(k≤s.size∨k=1)∧Hid (((s.data.toList.take k).drop 1).contains 61=false)∧wr=w) (fun i _=>s.size - (intOf i).toNat)
 case atStart=>exact⟨1,rfl,Nat.le_refl _,.inr rfl,zh (by cases s.data.toList<;>simp),rfl⟩
 case round=>
  obtain⟨k,rfl,hk1,hk,H0,rfl⟩:=hrel;by_cases hlt:k<s.size
  ·have hkl:k<s.data.toList.length:=hlt;have hnext:=PL hk1 hkl H0.out;have hget:s.data.toList[k]=s[k]:=rfl;rw[hget] at hnext;obtain⟨c,hc⟩:=eX (s[k])
   have hcl:=c.toNat_lt;rw[hc] at hnext;have q1:(k:Int)<(s.size:Int):=by omega
   cases he:(c == 61) with
   | true=>
    have q2:((c.toNat:Int) == 61)=true:=by
     have:c=61:=by simpa using he
     subst this;rfl
    have hr:Nm.attr s=false:=by
     rw[HE.out];have:(s.data.toList.drop 1).contains 61=true:=by
      rw[List.contains_iff_mem];have hm:(61:UInt8)∈(s.data.toList.take (k+1)).drop 1:=by rw[←List.contains_iff_mem,hnext,he]
      have e1:(s.data.toList.take (k+1)).drop 1=(s.data.toList.drop 1).take k:=by rw[List.drop_take];simp
      rw[e1] at hm;exact List.mem_of_mem_take hm
     rw[this];simp
    have HR:=zh hr;clear hr hnext he;go_wp2_with fail
    go_ret
    exact⟨fI HR.out.symm,Below.refl _ _⟩
   | false=>
    have q2:((c.toNat:Int) == 61)=false:=by
     refine (beq_eq_false_iff_ne.2) fun e=>?_;have e2:c=61:=by
      apply UInt8.toNat_inj.1;have:(61:UInt8).toNat=61:=rfl;omega
     rw[e2] at he;cases he
    have HN:=zh (hnext.trans he);clear hnext he;go_wp2_with fail
    go_roundw
    case rel=>exact⟨k+1,by go_num,by omega,.inl (by omega),zh HN.out,trivial⟩
    case measure=>simp[intOf];omega
  ·have q1:¬ (k:Int)<(s.size:Int):=by omega
   have hr:Nm.attr s=Nm.uD s:=by
    rw[HE.out];have:(s.data.toList.drop 1).contains 61=false:=by
     have h0:=H0.out
     rwa [List.take_of_length_le (by omega)] at h0
    rw[this,Bool.not_false,Bool.and_true];rfl
   have HP:=zh (sN s wr hs);have HR:=zh hr;clear hr;go_wp2_with fail;refine HP.out.mono ?_;rintro e w2 ⟨rfl,hb2⟩;go_wp2_with fail
   go_ret
   exact⟨fI HR.out.symm,hb2⟩
abbrev pz:Tr.GN:=⟨1,⟨#[]⟩,[],⟨#[]⟩,0,[]⟩
abbrev wM:Int→Tr.Sl:=fun _=>⟨none,0,0⟩
abbrev Bu:Tr.G:=fun _=>none
theorem Lg (h:Int):Tr.eZ wM h ⟨none,0,0⟩=wM:=by
 funext x;unfold Tr.eZ;split<;>rfl
theorem Lh (b s:Int) (w:World):
  Calls Tryz.prog 17 #[xS b s] w fun e w'=>∃ B vs vf,e=.returned (.pointer (some ⟨B,0,none⟩))∧
   TV w.heap.size w' B b s vs 1 (Tr.raw (Tr.dI Bu (Ar.hdl b s 0) pz) wM) vf [] 1 (Ar.hdl b s 0)∧Sound b s 1 (Tr.raw (Tr.dI Bu (Ar.hdl b s 0) pz) wM) [] 1∧Tr.WF 0 (Tr.dI Bu (Ar.hdl b s 0) pz)∧Below w.heap.size w w':=by
 have hb1:Below w.heap.size w (w.alloc (.cells #[.int .i64 b,.int .i64 s] 28)):=(Below.refl _ w).alloc (Nat.le_refl _) _;have hX:=Whole.new w #[.int .i64 b,.int .i64 s] 28;obtain⟨w1,hw1⟩:=eX (w.alloc (.cells #[.int .i64 b,.int .i64 s] 28))
 rw[hw1] at hb1 hX;have s0:w1.cell? ⟨w.heap.size,0,none⟩=some (.int .i64 b):=hX.cell 0;have s1:w1.cell? ⟨w.heap.size,1,none⟩=some (.int .i64 s):=hX.cell 1
 go_enter Tryz.func17,Tryz.ntmps17
 go_wp2_with fail;(try rw[hw1]);go_wp2_with fail;refine (Oa b s w1).mono ?_;rintro e w2 ⟨rfl,hb2⟩;have eG:=hb1.trans (hb2.mono hb1.size);obtain⟨w3,hw3⟩:=eX (w2.alloc (.cells #[.int .i64 b,.int .i64 s,.slice none 0 0,.slice none 0 0,.int .i64 0,.int .i64 0] 66))
 have hV:Whole w3 w2.heap.size #[.int .i64 b,.int .i64 s,.slice none 0 0,.slice none 0 0,.int .i64 0,.int .i64 0] 66:=by rw[←hw3];exact Whole.new w2 _ _
 have hb3:Below w2.heap.size w2 w3:=gU hw3;have mO:=eG.trans (hb3.mono eG.size);have hT:TV w.heap.size w3 w2.heap.size b s (.slice none 0 0) 0 (Tr.raw Bu wM) (.slice none 0 0) [] 0 0:=⟨hV,eG.size,World.ownsRow_nil _ _ _ _,World.ownsRow_nil _ _ _ _⟩
 have hS:Sound b s 0 (Tr.raw Bu wM) [] 0:=⟨fun _ e=>absurd e (by simp[Tr.raw]),List.nodup_nil,fun _ e=>absurd e (by simp),rfl,by omega⟩
 have HA:=zh (nR w.heap.size w2.heap.size b s 0 0 0 (Tr.raw Bu wM) [] _ _ ⟨1,⟨#[]⟩,⟨none,0,0⟩,⟨#[]⟩,0,0,0,0,0⟩ w3 hT hS mO.size (by omega));clear hX s0 s1 hw1;go_wp2_with fail;(try rw[hw3]);refine HA.out.mono ?_;rintro e w4 ⟨vs',bV,rfl,DU,hst⟩;have hH:Ar.hdl b s 0≠0:=by have:=(oD (b:=b) (s:=s) (i:=0) (by omega)).1;intro e;rw[show ((0:Nat):Int)=0 from rfl,e] at this;omega
 have WQ:=(jN hS (by omega)).2.2.2.2 ⟨1,⟨#[]⟩,⟨none,0,0⟩,⟨#[]⟩,0,0,0,0,0⟩;rw[Ag] at DU WQ ⊢;dsimp only at DU WQ ⊢;obtain⟨H,hHe⟩:=eX (Ar.hdl b s ((0:Nat):Int))
 have VL:Ar.hdl b s 0=H:=hHe;rw[hHe] at DU WQ ⊢;rw[VL] at hH;have hraw:Tr.pW (Tr.raw Bu wM) H (some ⟨1,⟨#[]⟩,⟨none,0,0⟩,⟨#[]⟩,0,0,0,0,0⟩)=Tr.raw (Tr.dI Bu H pz) wM:=
  (Tr.tC (g:=Bu) (h:=H) (m:=pz) (av:=wM) (s:=⟨none,0,0⟩) rfl rfl rfl rfl).symm.trans (by rw[Lg])
 rw[hraw] at DU WQ;obtain⟨Uj,YX⟩:=DU.rooted H;have f5:=DU.var.free 5;obtain⟨_,_,_,_,_,r5⟩:=DU.cells;have hlo:∀ k,aD w2.heap.size (.slice none 0 0) (.slice none 0 0) k→w.heap.size≤k:=by
  rintro k (rfl | hk | hk)
  ·exact eG.size
  ·cases hk
  ·cases hk
 have YZ:=(hst.trans YX).1.below mO.size hlo;have HF:=zh (And.intro Uj (And.intro WQ (And.intro (Tr.WF.add Tr.WF.empty (m:=pz) rfl hH rfl rfl) (mO.trans (YZ.mono (Nat.le_refl _))))));have HE:=zh VL;clear hT hS HA DU WQ hraw Uj YX hst hlo YZ hHe VL hH;go_wp2_with fail
 go_ret
 rw[HE.out];exact⟨_,_,_,rfl,HF.out⟩
theorem sj (s:ByteArray) (w:World) (hs:s.size≤10000):
  Calls Tryz.prog 74 #[.string s] w fun e w'=>e=.returned (.int .i64 ((bD.chunks s.data.toList).length:Nat))∧Below w.heap.size w w':=by
 have hR:=Tryz.runeCount s w (by omega);rw[bD.runeCount_eq] at hR
 go_enter Tryz.func74,Tryz.ntmps74
 go_wp2_with fail;refine hR.mono ?_;rintro e w2 ⟨rfl,pos,rfl⟩;go_wp2_with fail
 go_ret
 exact⟨rfl,(Below.refl _ w).alloc (Nat.le_refl _) _⟩
end
section
open Go.RowKit Go.Shelf
attribute [local go_sem] Oper.semAt_some
theorem Ce {G X:Prop} (use:X→G) (k:X):G:=use k
end
section
open Go.RowKit Go.Shelf
attribute [local go_sem] Oper.semAt_some
theorem uZ:(Tryz.prog.info? 3).map (fun i=>(i.zero,i.size,i.bytes))=some (some (.int .i64 0),1,8):=by kernel_rfl
theorem ji (w:World) (e:TypeId) (v:Value):∀ j u,[v][j]?=some u→(w.alloc (.cells #[v] e)).cell? ((⟨w.heap.size,0,none⟩:Addr).add j)=some u:=by
 intro j u hj;have hg:(w.alloc (.cells #[v] e)).heap[w.heap.size]?=some (.cells #[v] e (0,0)):=heap_alloc_new w _;rw[Addr.add_lit,cell_of_row _ _ _ _ e (0,0) hg];simpa using hj
theorem LS.xH {base B bt bh:Nat} {b s root h:Int} {vs vf:Value} {n:Nat} {R:Int→Option Tr.Nd} {fr:List Nat} {live:Nat} {W W':World} {m:Nat} (H:LS base B bt bh b s h vs n R vf fr live root W) (hb:Below m W W') (hF:∀ k,aD B vs vf k→base≤k∧k<m) (h1:bt<m) (h2:bh<m):LS base B bt bh b s h vs n R vf fr live root W':=
 ⟨H.tree.turns (S:=fun k=>m≤k) ⟨hb.os,hb.tape,hb.output,hb.size,fun k _ hn=>hb.block k (Nat.lt_of_not_le hn)⟩ (fun k hk e=>absurd (hF k hk).2 (Nat.not_lt.2 e)),H.bt.below hb h1,H.bh.below hb h2⟩
theorem xI (l:List Int) (x:Int):ints l++[.int .i64 x]=ints (l++[x]):=(List.map_append (f:=fun i:Int=>Value.int .i64 i) (l₁:=l) (l₂:=[x])).symm
theorem fq {w:World} {b1 b2 size:Nat} {e:TypeId} {v:Value} {n:Nat} {xs:List Value} (h:w.ownsRow b1 e size v n xs) (hb:b2≤b1):w.ownsRow b2 e size v n xs:=by
 refine⟨h.1,?_⟩;rcases h.2 with hn | ⟨g,cap,cur,hv,hb',hr⟩
 ·exact .inl hn
 ·exact .inr ⟨g,cap,cur,hv,by omega,hr⟩
theorem M6 (base B bt bh:Nat) (b s root h:Int) (live n:Nat) (g:Tr.G) (av:Int→Tr.Sl) (fr:List Nat) (vs vf:Value) (w:World) (hS:Sound b s n (Tr.raw g av) fr live) (hw:Tr.WF 0 g) (hh:kM h) (hL:LS base B bt bh b s h vs n (Tr.raw g av) vf fr live root w) (AQ:(Tr.au g h).length≤100000):
  Calls Tryz.prog 108 #[.slice none 0 0,.func (.func 116) #[] #[.pointer (some ⟨bt,0,none⟩),.pointer (some ⟨bh,0,none⟩)]] w fun e w'=>∃ v,e=.returned v∧w'.ownsRow w.heap.size 3 1 v (Tr.au g h).length (ints (Tr.au g h))∧Below w.heap.size w w':=by
 obtain⟨i0,hi,hz0,hz1,hz2⟩:=info_parts uZ;have hlt:=hL.tree.lt;have He:=hL.bt.lt;have Hf:=hL.bh.lt;obtain⟨w1,hw1⟩:=eX (w.alloc (.cells #[.slice none 0 0] 31))
 have hz1':w1.heap.size=w.heap.size+1:=by rw[←hw1];simp
 have hb1:Below w.heap.size w w1:=gU hw1;have hX1:Boxed w1 w.heap.size 31 (.slice none 0 0):=by rw[←hw1];exact Boxed.new w _ _
 have hL1:=hL.below hb1;have hseq:=AP hS hw hh 7 (by omega) w1 hL1;have hm1:¬ aD B vs vf w.heap.size:=fun hk=>by have:=(hlt _ hk).2;omega
 have HL:=zh hL1;clear hL hL1;refine (callsIn_wide (n:=8)).1 ?_;refine callsIn_of_wp_marks Tryz.func108 rfl trivial ?_ rfl;simp only[Tryz.ntmps108,pT,Nat.reduceAdd,Nat.reduceSub]
 gi_wp2_with fail
 (try rw[hw1]);(try gi_wp2_with fail);refine wpIn_rangeFunc_ownF (w:=w1) rfl (by decide) (gf:=116) (lb:=#[.pointer (some ⟨bt,0,none⟩),.pointer (some ⟨bh,0,none⟩)]) rfl trivial (enters_of Tryz.func116 (by kernel_rfl) rfl) hseq LS.pJ (LS.qP _) (Below.refl _ _) (fun _=>rfl)
  (fun pre W=>(∃ v,Boxed W w.heap.size 31 v∧W.ownsRow (w.heap.size+1) 3 1 v pre.length (ints (pre.map (·.1))))∧LS base B bt bh b s h vs n (Tr.raw g av) vf fr live root W∧Below w.heap.size w W) (fun _ _ _=>False)
  ?hI ?hIx ⟨⟨_,hX1,World.ownsRow_nil _ _ _ _⟩,HL.out,hb1⟩ (fun x=>{ tmps:=#[.slice none 0 0,.func (.func 116) #[] #[.pointer (some ⟨bt,0,none⟩),.pointer (some ⟨bh,0,none⟩)],.pointer (some ⟨w.heap.size,0,none⟩),undef,.slice none 0 0,.int .i64 x.1,.func (.func 116) #[] #[.pointer (some ⟨bt,0,none⟩),.pointer (some ⟨bh,0,none⟩)],.int .i64 x.1,undef,undef,undef,undef,undef],defers:=[] }) ?assign ?body ?done ?stop
 case hI=>
  rintro pre W W' row ⟨⟨v,h1,h2⟩,h3,h4⟩ hg hr;refine⟨⟨v,h1.kept hg (fun e'=>?_),h2.kept hg ?_⟩,h3.others hg (fun r e=>(hr r e).2),h4.grown hg h4.size (fun r e=>by have:=(hr r e).1;omega)⟩
  ·obtain⟨o,ho,hc⟩:=(hr _ e'.symm).2;rw[show W.heap[w.heap.size]?=_ from h1] at ho;cases ho;cases hc
  ·rcases h2.2 with ⟨rfl,_⟩ | ⟨g,cap,cur,rfl,_,hgb,_⟩
   ·exact .inl rfl
   ·refine .inr fun e'=>?_;obtain⟨o,ho,hc⟩:=(hr g (by rw[←e'];rfl)).2;rw[hgb] at ho;cases ho;cases hc
 case hIx=>intro c pre W W' row h _ _;exact h
 case assign=>
  intro l x W K hK
  gi_wp2
  first | exact hK | simpa using hK
 case body=>
  rintro l pre x W ⟨⟨v,hv,hrow⟩,kJ,hBW⟩ hlen;obtain⟨Av,cv,rfl⟩:=aF (aG hrow);have hc:=hv.cell;have hfz:=hv.frozen;have hpl:pre.length≤100000:=by omega
  have hsz:w.heap.size+1≤W.heap.size:=hv.lt;have hrow':=hrow.alloc (.cells #[.int .i64 x.1] 3);have Y0:=zh kJ;have Bn:=zh hBW;have HV:=zh hv;have zS:=zh hrow;clear kJ hBW hrow
  gi_wp2_with (gi_at_builtin;refine wpListIn_append_own _ rfl _ _ 31 rfl (w.heap.size+1) 3 i0 (.int .i64 0) 1 8 Tryz.underlying31 hi hz0 hz1 hz2 rfl (by decide) _ _ _ rfl hrow' ⟨W.heap.size,0,none⟩ 1 1 [.int .i64 x.1] rfl rfl (ji _ _ _) (by simp[Value.oneCell']) ?c1 ?c2 ?c3 ?_)
  case c1=>unfold maxLen;omega
  case c2=>omega
  case c3=>rw[World.size_alloc];omega
  intro v2 w2 o2 g2 _;have hmap:ints pre.unattach++[.int .i64 x.1]=ints ((pre++[x]).map (·.1)):=by rw[List.map_append];exact xI _ _
  rw[hmap] at o2;obtain⟨A2,c2,rfl⟩:=aF (aG o2);have oF:=fq zS.out (Nat.le_succ w.heap.size);obtain⟨q1,q2,_,q4,q5⟩:=Boxed.appended HV.out (by decide) oF (by omega) (Nat.le_refl _) (fq o2 (Nat.le_succ w.heap.size)) g2;have q3:=o2.kept (grownBy_setCell' w2 w.heap.size (.slice A2 (pre.length+1) c2)) (.inr (q1.not_row (by decide) o2).symm);have qc:=q1.cell;have qf:=q1.frozen;have HL2:=zh (LS.xH Y0.out q5 hlt He Hf);have HK:Hid (LS base B bt bh b s h vs n (Tr.raw g av) vf fr live root W→LS base B bt bh b s h vs n (Tr.raw g av) vf fr live root (w2.setCell ⟨w.heap.size,0,none⟩ (.slice A2 (pre.length+1) c2))):=zh (fun H=>LS.xH H q5 hlt He Hf);have HB2:=zh (Bn.out.trans q5);have Q2:=zh q2;have Q3:=zh q3;have Q4:=zh q4;clear q2 q3 q4 q5 q1 oF o2 g2
  gi_wp2_with fail
  exact⟨Q4.out,HK.out,⟨_,Q2.out,by rw[List.length_append];exact Q3.out⟩,HL2.out,HB2.out⟩
 case done=>
  rintro D xs W hD rfl ⟨⟨v,hv,hrow⟩,kJ,hBW⟩ hK;obtain⟨Av,cv,rfl⟩:=aF (aG hrow);rw[List.length_attach] at hv;have hc:=hv.cell;have hr2:W.ownsRow w.heap.size 3 1 (.slice Av (Tr.au g h).length cv) (Tr.au g h).length (ints (Tr.au g h)):=by
   rw[List.length_attach,List.attach_map_subtype_val] at hrow;exact fq hrow (by omega)
  have HB:=zh (And.intro (ownsRow_putObj hr2 (.deferred none) hK rfl) (hBW.trans (belowK_b (w:=w) (Nat.le_refl _) W D _ (.deferred none) (by omega) hK rfl rfl)));clear hrow hr2 kJ hBW hv
  gi_wp2_with fail
  refine⟨by simp,.inl ⟨_,_,rfl,run_takeDeferred hK,?_⟩⟩;exact⟨_,results_tmp rfl _ _ _,.slice Av (Tr.au g h).length cv,rfl,HB.out.1,HB.out.2⟩
 case stop=>
  rintro D c pre W _ _ h _;exact h.elim
theorem M7 (base B bt bh:Nat) (b s root h:Int) (live n:Nat) (g:Tr.G) (av:Int→Tr.Sl) (fr:List Nat) (vs vf:Value) (w:World) (hS:Sound b s n (Tr.raw g av) fr live) (hw:Tr.WF 0 g) (hh:kM h) (hL:LS base B bt bh b s h vs n (Tr.raw g av) vf fr live root w) (AQ:(Tr.ak g h).length≤100000):
  Calls Tryz.prog 108 #[.slice none 0 0,.func (.func 40) #[] #[.pointer (some ⟨bt,0,none⟩),.pointer (some ⟨bh,0,none⟩)]] w fun e w'=>∃ v,e=.returned v∧w'.ownsRow w.heap.size 3 1 v (Tr.ak g h).length (ints (Tr.ak g h))∧Below w.heap.size w w':=by
 obtain⟨i0,hi,hz0,hz1,hz2⟩:=info_parts uZ;have hlt:=hL.tree.lt;have He:=hL.bt.lt;have Hf:=hL.bh.lt;obtain⟨w1,hw1⟩:=eX (w.alloc (.cells #[.slice none 0 0] 31))
 have hz1':w1.heap.size=w.heap.size+1:=by rw[←hw1];simp
 have hb1:Below w.heap.size w w1:=gU hw1;have hX1:Boxed w1 w.heap.size 31 (.slice none 0 0):=by rw[←hw1];exact Boxed.new w _ _
 have hL1:=hL.below hb1;have hseq:=rF hS hw hh 7 (by omega) w1 hL1;have hm1:¬ aD B vs vf w.heap.size:=fun hk=>by have:=(hlt _ hk).2;omega
 have HL:=zh hL1;clear hL hL1;refine (callsIn_wide (n:=8)).1 ?_;refine callsIn_of_wp_marks Tryz.func108 rfl trivial ?_ rfl;simp only[Tryz.ntmps108,pT,Nat.reduceAdd,Nat.reduceSub]
 gi_wp2_with fail
 (try rw[hw1]);(try gi_wp2_with fail);refine wpIn_rangeFunc_ownF (w:=w1) rfl (by decide) (gf:=40) (lb:=#[.pointer (some ⟨bt,0,none⟩),.pointer (some ⟨bh,0,none⟩)]) rfl trivial (enters_of Tryz.func40 (by kernel_rfl) rfl) hseq LS.pJ (LS.qP _) (Below.refl _ _) (fun _=>rfl)
  (fun pre W=>(∃ v,Boxed W w.heap.size 31 v∧W.ownsRow (w.heap.size+1) 3 1 v pre.length (ints (pre.map (·.1))))∧LS base B bt bh b s h vs n (Tr.raw g av) vf fr live root W∧Below w.heap.size w W) (fun _ _ _=>False)
  ?hI ?hIx ⟨⟨_,hX1,World.ownsRow_nil _ _ _ _⟩,HL.out,hb1⟩ (fun x=>{ tmps:=#[.slice none 0 0,.func (.func 40) #[] #[.pointer (some ⟨bt,0,none⟩),.pointer (some ⟨bh,0,none⟩)],.pointer (some ⟨w.heap.size,0,none⟩),undef,.slice none 0 0,.int .i64 x.1,.func (.func 40) #[] #[.pointer (some ⟨bt,0,none⟩),.pointer (some ⟨bh,0,none⟩)],.int .i64 x.1,undef,undef,undef,undef,undef],defers:=[] }) ?assign ?body ?done ?stop
 case hI=>
  rintro pre W W' row ⟨⟨v,h1,h2⟩,h3,h4⟩ hg hr;refine⟨⟨v,h1.kept hg (fun e'=>?_),h2.kept hg ?_⟩,h3.others hg (fun r e=>(hr r e).2),h4.grown hg h4.size (fun r e=>by have:=(hr r e).1;omega)⟩
  ·obtain⟨o,ho,hc⟩:=(hr _ e'.symm).2;rw[show W.heap[w.heap.size]?=_ from h1] at ho;cases ho;cases hc
  ·rcases h2.2 with ⟨rfl,_⟩ | ⟨g,cap,cur,rfl,_,hgb,_⟩
   ·exact .inl rfl
   ·refine .inr fun e'=>?_;obtain⟨o,ho,hc⟩:=(hr g (by rw[←e'];rfl)).2;rw[hgb] at ho;cases ho;cases hc
 case hIx=>intro c pre W W' row h _ _;exact h
 case assign=>
  intro l x W K hK
  gi_wp2
  first | exact hK | simpa using hK
 case body=>
  rintro l pre x W ⟨⟨v,hv,hrow⟩,kJ,hBW⟩ hlen;obtain⟨Av,cv,rfl⟩:=aF (aG hrow);have hc:=hv.cell;have hfz:=hv.frozen;have hpl:pre.length≤100000:=by omega
  have hsz:w.heap.size+1≤W.heap.size:=hv.lt;have hrow':=hrow.alloc (.cells #[.int .i64 x.1] 3);have Y0:=zh kJ;have Bn:=zh hBW;have HV:=zh hv;have zS:=zh hrow;clear kJ hBW hrow
  gi_wp2_with (gi_at_builtin;refine wpListIn_append_own _ rfl _ _ 31 rfl (w.heap.size+1) 3 i0 (.int .i64 0) 1 8 Tryz.underlying31 hi hz0 hz1 hz2 rfl (by decide) _ _ _ rfl hrow' ⟨W.heap.size,0,none⟩ 1 1 [.int .i64 x.1] rfl rfl (ji _ _ _) (by simp[Value.oneCell']) ?c1 ?c2 ?c3 ?_)
  case c1=>unfold maxLen;omega
  case c2=>omega
  case c3=>rw[World.size_alloc];omega
  intro v2 w2 o2 g2 _;have hmap:ints pre.unattach++[.int .i64 x.1]=ints ((pre++[x]).map (·.1)):=by rw[List.map_append];exact xI _ _
  rw[hmap] at o2;obtain⟨A2,c2,rfl⟩:=aF (aG o2);have oF:=fq zS.out (Nat.le_succ w.heap.size);obtain⟨q1,q2,_,q4,q5⟩:=Boxed.appended HV.out (by decide) oF (by omega) (Nat.le_refl _) (fq o2 (Nat.le_succ w.heap.size)) g2;have q3:=o2.kept (grownBy_setCell' w2 w.heap.size (.slice A2 (pre.length+1) c2)) (.inr (q1.not_row (by decide) o2).symm);have qc:=q1.cell;have qf:=q1.frozen;have HL2:=zh (LS.xH Y0.out q5 hlt He Hf);have HK:Hid (LS base B bt bh b s h vs n (Tr.raw g av) vf fr live root W→LS base B bt bh b s h vs n (Tr.raw g av) vf fr live root (w2.setCell ⟨w.heap.size,0,none⟩ (.slice A2 (pre.length+1) c2))):=zh (fun H=>LS.xH H q5 hlt He Hf);have HB2:=zh (Bn.out.trans q5);have Q2:=zh q2;have Q3:=zh q3;have Q4:=zh q4;clear q2 q3 q4 q5 q1 oF o2 g2
  gi_wp2_with fail
  exact⟨Q4.out,HK.out,⟨_,Q2.out,by rw[List.length_append];exact Q3.out⟩,HL2.out,HB2.out⟩
 case done=>
  rintro D xs W hD rfl ⟨⟨v,hv,hrow⟩,kJ,hBW⟩ hK;obtain⟨Av,cv,rfl⟩:=aF (aG hrow);rw[List.length_attach] at hv;have hc:=hv.cell;have hr2:W.ownsRow w.heap.size 3 1 (.slice Av (Tr.ak g h).length cv) (Tr.ak g h).length (ints (Tr.ak g h)):=by
   rw[List.length_attach,List.attach_map_subtype_val] at hrow;exact fq hrow (by omega)
  have HB:=zh (And.intro (ownsRow_putObj hr2 (.deferred none) hK rfl) (hBW.trans (belowK_b (w:=w) (Nat.le_refl _) W D _ (.deferred none) (by omega) hK rfl rfl)));clear hrow hr2 kJ hBW hv
  gi_wp2_with fail
  refine⟨by simp,.inl ⟨_,_,rfl,run_takeDeferred hK,?_⟩⟩;exact⟨_,results_tmp rfl _ _ _,.slice Av (Tr.ak g h).length cv,rfl,HB.out.1,HB.out.2⟩
 case stop=>
  rintro D c pre W _ _ h _;exact h.elim
end
section
open Go.RowKit
theorem J4 (w:World):
  Calls Tryz.prog 70 #[.slice none 0 0] w fun e w'=>e=.returned (.slice none 0 0)∧Below w.heap.size w w':=by
 have hcmp:∀ (w:World) (a:Option Addr) (n c:Nat),(binOp .eql 71 (.slice a n c) (.slice none 0 0)).run Tryz.prog w=.ok (.bool a.isNone) w:=fun w a n c=>Lib.run_eql_slice_nil w _ _ a n c 0 0 Tryz.underlying71
 go_enter Tryz.func70,Tryz.ntmps70
 go_wp2_with fail
 go_ret
 exact⟨rfl,Below.refl _ _⟩
theorem EJ (w:World):
  Calls Tryz.prog 48 #[.slice none 0 0] w fun e w'=>e=.returned (.slice none 0 0)∧Below w.heap.size w w':=by
 go_enter Tryz.func48,Tryz.ntmps48
 go_wp2_with fail;refine (J4 w).mono ?_;rintro e w1 ⟨rfl,hb1⟩;go_wp2_with fail
 go_loopw [9] (fun i wr=>i=.int .i64 0∧wr=w1) (fun _ _=>0)
 case atStart=>exact⟨rfl,rfl⟩
 case round=>
  obtain⟨rfl,rfl⟩:=hrel;go_wp2_with fail
  go_ret
  exact⟨rfl,hb1⟩
abbrev Hg (nm:ByteArray):Tr.GN:=⟨2,nm,[],⟨#[]⟩,0,[]⟩
theorem oJ:bD.rep []=[]:=List.eq_nil_of_length_eq_zero (by have:=bD.nk [];simp at this;simpa using this)
theorem PN:Nm.fits ⟨#[]⟩=true:=by
 unfold Nm.fits;rw[show (⟨#[]⟩:ByteArray).data.toList=[] from rfl,oJ];rfl
theorem M8 (base B:Nat) (b s root:Int) (live n:Nat) (g:Tr.G) (av:Int→Tr.Sl) (fr:List Nat) (vs vf:Value) (nm:ByteArray) (w:World) (hm:TV base w B b s vs n (Tr.raw g av) vf fr live root) (hS:Sound b s n (Tr.raw g av) fr live) (hw:Tr.WF 0 g) (hbase:base≤w.heap.size) (hn:n<100000) (hl:live<20000) (hs:nm.size≤20000) (hnm:Nm.elem nm=true) (hT:Lit w):
  Calls Tryz.prog 18 #[.pointer (some ⟨B,0,none⟩),.int .i64 2,.string nm,.string ⟨#[]⟩,.slice none 0 0] w fun e w'=>∃ (h:Int) (vs' bV:Value) (n':Nat) (fr':List Nat),e=.returned (.tuple #[.int .i64 h,.int .i64 0])∧n'≤n+1∧
   g h=none∧h≠0∧TV base w' B b s vs' n' (Tr.raw (Tr.dI g h (Hg nm)) (Tr.eZ av h ⟨none,0,0⟩)) bV fr' (live+1) root∧Sound b s n' (Tr.raw (Tr.dI g h (Hg nm)) (Tr.eZ av h ⟨none,0,0⟩)) fr' (live+1)∧Tr.WF 0 (Tr.dI g h (Hg nm))∧aB w w' (aD B vs vf) (aD B vs' bV):=by
 go_enter Tryz.func18,Tryz.ntmps18
 go_wp2_with fail;obtain⟨w1,hw1⟩:=eX (w.alloc (.cells #[.int .i64 2,.string ⟨#[]⟩,.slice none 0 0,.string ⟨#[]⟩,.int .i64 0,.int .i64 0,.int .i64 0,.int .i64 0,.int .i64 0] 97))
 rw[hw1];have hb1:Below w.heap.size w w1:=gU hw1;have hX1:Whole w1 w.heap.size #[.int .i64 2,.string ⟨#[]⟩,.slice none 0 0,.string ⟨#[]⟩,.int .i64 0,.int .i64 0,.int .i64 0,.int .i64 0,.int .i64 0] 97:=by rw[←hw1];exact Whole.new w _ _
 refine (EJ w1).mono ?_;rintro e w2 ⟨rfl,hb2⟩;have hX2:=hX1.below hb2 hX1.lt;have eG:=hb1.trans (hb2.mono hb1.size);have q1:w2.cell? ⟨w.heap.size,1,none⟩=some (.string ⟨#[]⟩):=hX2.cell 1;have q2:w2.cell? ⟨w.heap.size,2,none⟩=some (.slice none 0 0):=hX2.cell 2;have f1:=hX2.free 1;have f2:=hX2.free 2;have Y1:Whole (w2.setCell ⟨w.heap.size,1,none⟩ (.string nm)) w.heap.size #[.int .i64 2,.string nm,.slice none 0 0,.string ⟨#[]⟩,.int .i64 0,.int .i64 0,.int .i64 0,.int .i64 0,.int .i64 0] 97:=hX2.put 1 (.string nm);have bJ:Whole ((w2.setCell ⟨w.heap.size,1,none⟩ (.string nm)).setCell ⟨w.heap.size,2,none⟩ (.slice none 0 0)) w.heap.size #[.int .i64 2,.string nm,.slice none 0 0,.string ⟨#[]⟩,.int .i64 0,.int .i64 0,.int .i64 0,.int .i64 0,.int .i64 0] 97:=Y1.put 2 (.slice none 0 0);have mO:Below w.heap.size w ((w2.setCell ⟨w.heap.size,1,none⟩ (.string nm)).setCell ⟨w.heap.size,2,none⟩ (.slice none 0 0)):=(eG.setCell (p:=⟨w.heap.size,1,none⟩) (Nat.le_refl _) _).setCell (p:=⟨w.heap.size,2,none⟩) (Nat.le_refl _) _;obtain⟨w3,hw3⟩:=eX ((w2.setCell ⟨w.heap.size,1,none⟩ (.string nm)).setCell ⟨w.heap.size,2,none⟩ (.slice none 0 0))
 rw[hw3] at bJ mO;have Br:=J3 ⟨2,nm,⟨none,0,0⟩,⟨#[]⟩,0,0,0,0,0⟩ w3 rfl hs (hT.below mO);dsimp only at Br;rw[hnm,Bool.or_true] at Br;have HV:=zh Br;clear Br;have k0:w3.cell? ⟨w.heap.size,0,none⟩=some (.int .i64 2):=bJ.cell 0;have k1:w3.cell? ⟨w.heap.size,1,none⟩=some (.string nm):=bJ.cell 1;have k2:w3.cell? ⟨w.heap.size,2,none⟩=some (.slice none 0 0):=bJ.cell 2;have k3:w3.cell? ⟨w.heap.size,3,none⟩=some (.string ⟨#[]⟩):=bJ.cell 3;have k4:w3.cell? ⟨w.heap.size,4,none⟩=some (.int .i64 0):=bJ.cell 4;have k5:w3.cell? ⟨w.heap.size,5,none⟩=some (.int .i64 0):=bJ.cell 5;have k6:w3.cell? ⟨w.heap.size,6,none⟩=some (.int .i64 0):=bJ.cell 6;have k7:w3.cell? ⟨w.heap.size,7,none⟩=some (.int .i64 0):=bJ.cell 7;have k8:w3.cell? ⟨w.heap.size,8,none⟩=some (.int .i64 0):=bJ.cell 8;clear hX1 hb1 hb2 Y1 eG hw1;go_wp2_with fail;(try rw[hw3]);go_wp2_with fail;refine HV.out.mono ?_;rintro e w4 ⟨rfl,hb4⟩;have bB:=bJ.below hb4 bJ.lt;have mo:=mO.trans (hb4.mono mO.size);replace k0:w4.cell? ⟨w.heap.size,0,none⟩=some (.int .i64 2):=bB.cell 0;replace k1:w4.cell? ⟨w.heap.size,1,none⟩=some (.string nm):=bB.cell 1;replace k2:w4.cell? ⟨w.heap.size,2,none⟩=some (.slice none 0 0):=bB.cell 2;replace k3:w4.cell? ⟨w.heap.size,3,none⟩=some (.string ⟨#[]⟩):=bB.cell 3;replace k4:w4.cell? ⟨w.heap.size,4,none⟩=some (.int .i64 0):=bB.cell 4;replace k5:w4.cell? ⟨w.heap.size,5,none⟩=some (.int .i64 0):=bB.cell 5;replace k6:w4.cell? ⟨w.heap.size,6,none⟩=some (.int .i64 0):=bB.cell 6;replace k7:w4.cell? ⟨w.heap.size,7,none⟩=some (.int .i64 0):=bB.cell 7;replace k8:w4.cell? ⟨w.heap.size,8,none⟩=some (.int .i64 0):=bB.cell 8;have mJ:=hm.below mo;have hlv:¬ (20000:Int)≤(live:Int):=by omega
 go_wp2_with fail;refine (pX base B b s root live n _ fr vs vf w4 mJ).mono ?_;rintro e w5 ⟨rfl,fT⟩;obtain rfl:=fT.symm;have hwl:=rY ⟨2,nm,⟨none,0,0⟩,⟨#[]⟩,0,0,0,0,0⟩ w4 rfl (by show (0:Nat)≤20000;omega) (hT.below mo);dsimp only at hwl;rw[PN] at hwl;have QF:=zh hwl;clear hwl;go_wp2_with fail;refine QF.out.mono ?_;rintro e w6 ⟨rfl,hb6⟩;have gI:=bB.below hb6 bB.lt;have qZ:=mo.trans (hb6.mono mo.size);replace k0:w6.cell? ⟨w.heap.size,0,none⟩=some (.int .i64 2):=gI.cell 0;replace k1:w6.cell? ⟨w.heap.size,1,none⟩=some (.string nm):=gI.cell 1;replace k2:w6.cell? ⟨w.heap.size,2,none⟩=some (.slice none 0 0):=gI.cell 2;replace k3:w6.cell? ⟨w.heap.size,3,none⟩=some (.string ⟨#[]⟩):=gI.cell 3;replace k4:w6.cell? ⟨w.heap.size,4,none⟩=some (.int .i64 0):=gI.cell 4;replace k5:w6.cell? ⟨w.heap.size,5,none⟩=some (.int .i64 0):=gI.cell 5;replace k6:w6.cell? ⟨w.heap.size,6,none⟩=some (.int .i64 0):=gI.cell 6;replace k7:w6.cell? ⟨w.heap.size,7,none⟩=some (.int .i64 0):=gI.cell 7;replace k8:w6.cell? ⟨w.heap.size,8,none⟩=some (.int .i64 0):=gI.cell 8;obtain⟨v1,v2,v3,v4,v5⟩:=jN hS hn;have hgn:g (Ar.hdl b s ((dZ n fr).2.2:Nat))=none:=by
  have:=aM (g:=g) (av:=av) (h:=Ar.hdl b s ((dZ n fr).2.2:Nat));rw[v4] at this;exact Option.not_isSome_iff_eq_none.1 (by rw[←this];simp)
 have hH0:Ar.hdl b s ((dZ n fr).2.2:Nat)≠0:=by
  have:=(oD (b:=b) (s:=s) (i:=(dZ n fr).2.2) (by omega)).1;omega
 have hAdd:=nR base B b s root live n _ fr vs vf ⟨2,nm,⟨none,0,0⟩,⟨#[]⟩,0,0,0,0,0⟩ w6.drew (hm.below (Below.drew qZ)) hS (by have:=qZ.size;show base≤w6.heap.size;omega) hn;have pO:=v5 ⟨2,nm,⟨none,0,0⟩,⟨#[]⟩,0,0,0,0,0⟩;rw[←Tr.tC (g:=g) (h:=Ar.hdl b s ((dZ n fr).2.2:Nat)) (m:=Hg nm) (av:=av) (s:=⟨none,0,0⟩) hgn hw.zero rfl rfl] at hAdd pO;have wJ:=Tr.WF.add hw (m:=Hg nm) hgn hH0 rfl rfl;have qE:aB w w6.drew (aD B vs vf) (aD B vs vf):=.of_below (Below.drew qZ);obtain⟨H,hH⟩:=eX (Ar.hdl b s ((dZ n fr).2.2:Nat))
 rw[hH] at hgn hH0 hAdd pO wJ;have HA:=zh hAdd;have HQ:=zh (And.intro v2 (And.intro hgn (And.intro hH0 (And.intro pO (And.intro wJ qE)))));clear v1 v2 v3 v4 v5 hgn hH0 hAdd pO wJ qE hH;go_wp2_with fail
 go_region_with (refine HA.out.mono ?_;rintro e w7 ⟨vs',bV,rfl,OB,hst⟩;have KU:=zh (And.intro OB hst);clear OB hst)
 go_wp2_with fail;go_ret2;obtain⟨v2,hgn,hH0,pO,wJ,qE⟩:=HQ.out;exact⟨_,_,_,_,_,rfl,v2,hgn,hH0,KU.out.1,pO,wJ,qE.trans KU.out.2⟩
end
section
open Go.RowKit Go.Shelf
attribute [local go_sem] Oper.semAt_some
theorem M9 (base B:Nat) (b s root h:Int) (live n:Nat) (g:Tr.G) (av:Int→Tr.Sl) (fr:List Nat) (vs vf:Value) (w:World) (hm:TV base w B b s vs n (Tr.raw g av) vf fr live root) (hS:Sound b s n (Tr.raw g av) fr live) (hw:Tr.WF 0 g) (hh:kM h) (AQ:(Tr.ak g h).length≤1000000):
  Calls Tryz.prog 105 #[.pointer (some ⟨B,0,none⟩),.int .i64 h] w fun e w'=>e=.returned (.int .i64 ((Tr.ak g h).length:Nat))∧Below w.heap.size w w':=by
 have hlt:=hm.lt;refine (callsIn_wide (n:=8)).1 ?_;refine callsIn_of_wp_marks Tryz.func105 rfl trivial ?_ rfl;simp only[Tryz.ntmps105,pT,Nat.reduceAdd,Nat.reduceSub]
 gi_wp2_with fail
 obtain⟨w1,hw1⟩:=eX (w.alloc (.cells #[.int .i64 0] 3))
 have hz1:w1.heap.size=w.heap.size+1:=by rw[←hw1];simp
 have hb1:Below w.heap.size w w1:=gU hw1;have hX1:Whole w1 w.heap.size #[.int .i64 0] 3:=by rw[←hw1];exact Whole.new w _ _
 have hL:=LS.made (h:=h) (hm.below hb1);have hsz2:((w1.alloc (.cells #[.pointer (some ⟨B,0,none⟩)] 29)).alloc (.cells #[.int .i64 h] 3)).heap.size=w1.heap.size+2:=by simp
 have hb2:Below w1.heap.size w1 ((w1.alloc (.cells #[.pointer (some ⟨B,0,none⟩)] 29)).alloc (.cells #[.int .i64 h] 3)):=((Below.refl _ w1).alloc (Nat.le_refl _) _).alloc (by simp) _;have hseq:=rF hS hw hh 7 (by omega) _ hL;have xK:=zh (pI B h w1);(try rw[hw1]);refine⟨trivial,(callsIn_wide.2 xK.out).mono ?_⟩;rintro e w' ⟨rfl,hw'⟩;rw[←hw'] at hL hsz2 hb2 hseq;have hX2:=hX1.below hb2 hX1.lt;have hB2:=hb1.trans (hb2.mono hb1.size);clear hm hS hX1 hw' hb2 xK
 gi_wp2_with fail
 rw[hz1] at hseq hL hsz2;have hm1:¬ aD B vs vf w.heap.size:=fun hk=>by have:=(hlt _ hk).2;omega
 refine wpIn_rangeFunc_ownF (w:=w') rfl (by decide) (gf:=40) (lb:=#[.pointer (some ⟨w.heap.size+1,0,none⟩),.pointer (some ⟨w.heap.size+1+1,0,none⟩)]) rfl trivial (enters_of Tryz.func40 (by kernel_rfl) rfl) hseq LS.pJ (LS.qP _) (Below.refl _ _) (fun _=>rfl)
  (fun pre W=>Whole W w.heap.size #[.int .i64 (pre.length:Nat)] 3∧LS base B (w.heap.size+1) (w.heap.size+1+1) b s h vs n (Tr.raw g av) vf fr live root W∧Below w.heap.size w W) (fun _ _ _=>False)
  ?hI ?hIx ⟨hX2,hL,hB2⟩ (fun x=>{ tmps:=#[.pointer (some ⟨B,0,none⟩),.int .i64 h,undef,undef,.int .i64 0,.pointer (some ⟨w.heap.size,0,none⟩),.pointer (some ⟨B,0,none⟩),.int .i64 h,.func (.func 40) #[] #[.pointer (some ⟨w.heap.size+1,0,none⟩),.pointer (some ⟨w.heap.size+1+1,0,none⟩)],.int .i64 x.1,undef,undef,undef],defers:=[] }) ?assign ?body ?done ?stop
 case hI=>
  rintro pre W W' row ⟨h1,h2,h3⟩ hg hr;exact⟨aS h1 hg (fun r e=>(hr r e).2),h2.others hg (fun r e=>(hr r e).2),h3.grown hg h3.size (fun r e=>by have:=(hr r e).1;omega)⟩
 case hIx=>intro c pre W W' row h _ _;exact h
 case assign=>
  intro l x W K hK
  gi_wp2
  simpa using hK
 case body=>
  rintro l pre x W ⟨hX,kJ,hBW⟩ hlen;have c0:W.cell? ⟨w.heap.size,0,none⟩=some (.int .i64 (pre.length:Nat)):=hX.cell 0;have f0:=hX.free 0;have hpl:pre.length≤1000000:=by omega
  have Bt:=hX.put 0 (.int .i64 ((pre.length:Int)+1));have hL':=kJ.set hm1 (by omega) (by omega) 0 (.int .i64 ((pre.length:Int)+1));have HF:=zh (And.intro Bt (And.intro hL' (hBW.setCell (p:=⟨w.heap.size,0,none⟩) (Nat.le_refl _) (.int .i64 ((pre.length:Int)+1)))));clear hX kJ hBW Bt hL'
  gi_wp2_with fail
  refine⟨KeepsOthers.setCell _ _ _,fun _=>HF.out.2.1,?_,HF.out.2.1,HF.out.2.2⟩;rw[List.length_append];exact HF.out.1
 case done=>
  rintro D xs W hD rfl ⟨hX,kJ,hBW⟩ hK;rw[List.length_attach] at hX;have c0:W.cell? ⟨w.heap.size,0,none⟩=some (.int .i64 ((Tr.ak g h).length:Nat)):=hX.cell 0;have HB:=zh (hBW.trans (belowK_b (w:=w) (Nat.le_refl _) W D _ (.deferred none) (by omega) hK rfl rfl));clear hX kJ hBW
  gi_wp2_with fail
  refine⟨by simp,.inl ⟨_,_,rfl,run_takeDeferred hK,?_⟩⟩;exact⟨_,results_tmp rfl _ _ _,rfl,HB.out⟩
 case stop=>
  rintro D c pre W _ _ h _;exact h.elim
end
section
open Go.RowKit
section
variable {F:Fence} {N:Nat} {P:Program} {w:World}
theorem nO {ops:Array Oper} {o:Oper} {a:Act} {K:Act→World→Prop} {Q:Exit→Act→World→Prop} {E:Prop} (hgd:o.guard=none) (s x:Operand) (t:TypeId)
  (ho:o.op=.call { callee:=.builtin .append,args:=#[s,x],argTypes:=#[t,t] })
  (base:Nat) (e:TypeId) (i:TypeInfo) (z:Value) (size bytes:Nat) (ht:P.underlying t=some (.slice e)) (hi:P.info? e=some i) (hz:i.zero=some z)
  (hsize:i.size=size) (hby:i.bytes=bytes) (hzs:z.cells.size=size) (hsz:0<size)
  (v:Value) (n:Nat) (xs:List Value) (hs:a.eval s=v) (hown:TR w base e size v n xs) (v2:Value) (m:Nat) (ys:List Value) (hx:a.eval x=v2) (hyl:ys.length=m*size)
  (hsrc:(v2=.slice none 0 0∧m=0)∨∃ a c,v2=.slice (some a) m c∧∀ j u,ys[j]?=some u→w.cell? (a.add j)=some u) (h1:∀ u∈ys,u.oneCell'=true)
  (h63:n+m≤maxLen) (hbytes:(n+m)*bytes≤140737488355328) (hbase:base≤w.heap.size)
  (h:∀ v' w',TR w' base e size v' (n+m) (xs++ys)→w.grownBy w' v.ownBlock→mV w v v'→K (a.put o.dst v') w'):
  if Region.wanted o (yielded ops a.tmps)=true then Oper.wpIn F N P o a w K Q else E:=by
 have hw:Region.wanted o (yielded ops a.tmps)=true:=by simp[Region.wanted,hgd]
 rw[if_pos hw];obtain⟨v',w',hr,h2,h3,h4⟩:=mR (P:=P) base t o.type e i z size bytes ht hi hz hsize hby hzs hsz v n xs hown v2 m ys hyl hsrc h1 h63 hbytes hbase;unfold Oper.wpIn;rw[Oper.semAt_eq _ _ _ (fun c hc=>by rw[ho] at hc;cases hc)];refine⟨fun f hf=>?_,?_⟩
 ·unfold Oper.about at hf;simp[ho,resolve,Sem.run_pure,Target.leads] at hf
 ·unfold execOp;simp only[ho,resolve,invoke,builtin,Sem.run_bind,Sem.run_pure,Result.andThen_ok,List.map_toArray,List.map_cons,List.map_nil,hs,hx,hr];exact h v' w' h2 h3 h4
end
end
section
namespace Tr
open Go Go.RowKit
def Line (g:G):Int→List Int→Prop
 | _,[]=>True
 | q,x::r=>(∃ m,g x=some m∧m.pa=q∧m.kids=r.take 1)∧Line g x r
theorem Line.congr {g g':G}:∀ {l:List Int} {q:Int},Line g q l→(∀ x∈l,g' x=g x)→Line g' q l
 | [],_,_,_=>trivial
 | x::r,q,⟨⟨m,h1,h2,h3⟩,h4⟩,h=>⟨⟨m,(h x (by simp)).trans h1,h2,h3⟩,h4.congr fun y hy=>h y (by simp[hy])⟩
theorem Line.mem {g:G}:∀ {l:List Int} {q:Int},Line g q l→∀ x∈l,(g x).isSome
 | _::_,_,⟨⟨_,h1,_,_⟩,h4⟩,y,hy=>by
  rcases List.mem_cons.1 hy with rfl | hy
  ·rw[h1];rfl
  ·exact h4.mem y hy
theorem Line.link {g:G} {p h:Int} {r:List Int}:∀ {l:List Int} {q:Int},Line g q (l++[p])→Line g 0 (h::r)→((l++[p])++h::r).Nodup→Line (bg g p h 0) q ((l++[p])++h::r)
 | [],q,⟨⟨m,h1,h2,h3⟩,_⟩,⟨⟨mh,k1,k2,k3⟩,k4⟩,hn=>by
  have wT:p≠h:=fun e=>by subst e;simp at hn
  have hr:∀ x∈r,x≠h∧x≠p:=fun x hx=>by
   simp at hn;exact⟨fun e=>hn.2.1 (e▸hx),fun e=>hn.1.2 (e▸hx)⟩
  refine⟨⟨_,nZ h1 wT,h2,?_⟩,⟨⟨_,iJ k1,rfl,k3⟩,k4.congr fun x hx=>sH (hr x hx).1 (hr x hx).2⟩⟩;show iw m.kids 0 h=_;rw[h3];rfl
 | x::l,q,⟨⟨m,h1,h2,h3⟩,h4⟩,k,hn=>by
  have hn2:((l++[p])++h::r).Nodup:=(List.nodup_cons.1 hn).2;have hx:x∉(l++[p])++h::r:=(List.nodup_cons.1 hn).1;refine⟨⟨m,by rw[sH (fun e=>hx (by simp[e])) (fun e=>hx (by simp[e]))];exact h1,h2,?_⟩,Line.link h4 k hn2⟩;rw[h3];cases l<;>simp
theorem Line.hgt {g:G} (w:WF 0 g):∀ {r:List Int} {x q:Int},Line g q (x::r)→gF g x=(x::r).length
 | [],x,q,⟨⟨m,h1,h2,h3⟩,_⟩=>by rw[w.iQ h1,h3];rfl
 | y::r,x,q,⟨⟨m,h1,h2,h3⟩,h4⟩=>by
  rw[w.iQ h1,h3,List.take_succ_cons,List.take_zero,List.map_cons,List.map_nil,h4.hgt w];simp
theorem Line.up {g:G} {p:Int}:∀ {l:List Int} {q:Int} {u:List Int},Line g q (l++[p])→Up g q u→Up g p ((l++[p]).reverse++u)
 | [],q,u,⟨⟨m,h1,h2,h3⟩,_⟩,hu=>.node h1 (h2▸hu)
 | x::l,q,u,⟨⟨m,h1,h2,h3⟩,h4⟩,hu=>by
  have:=h4.up (u:=x::u) (.node h1 (h2▸hu));simpa using this
theorem Line.aY {g:G} (w:WF 0 g) {p:Int} {l:List Int} (h:Line g 0 (l++[p])):aY g p=(l++[p]).reverse:=by
 have h1:=h.up (u:=[]) (.out w.zero);rw[List.append_nil] at h1;exact (w.bY p).1.one h1
structure Deep (g:G) (root:Int) (c d:List Int) (ok:ByteArray→Prop):Prop where
 wf:WF 0 g
 main:Line g 0 (root::c)
 side:Line g 0 d
 nodup:((root::c)++d).Nodup
 doc:∀ m,g root=some m→m.kind=1∧m.attrs=[]∧m.data=⟨#[]⟩
 elem:∀ x m,g x=some m→x≠root→m.kind=2∧ok m.name∧m.attrs=[]∧m.data=⟨#[]⟩
section
variable {g:G} {root h p:Int} {c d l:List Int} {ok:ByteArray→Prop}
theorem Deep.start {H:Int} (hH:H≠0):Deep (dI (fun _=>none) H ⟨1,⟨#[]⟩,[],⟨#[]⟩,0,[]⟩) H [] [] ok where
 wf:=WF.empty.add rfl hH rfl rfl
 main:=⟨⟨_,bL _ _ _,rfl,rfl⟩,trivial⟩
 side:=trivial
 nodup:=by simp
 doc m e:=by rw[bL] at e;obtain rfl:=Option.some.inj e;exact⟨rfl,rfl,rfl⟩
 elem x m e hx:=by rw[bS hx] at e;cases e
theorem Deep.not_mem (D:Deep g root c d ok) (hn:g h=none):h∉(root::c)++d:=fun hm=>by
 have:(g h).isSome:=by
  rcases List.mem_append.1 hm with hm | hm
  ·exact D.main.mem h hm
  ·exact D.side.mem h hm
 rw[hn] at this;cases this
theorem Deep.add (D:Deep g root c d ok) (hn:g h=none) (h0:h≠0) {nm:ByteArray} (hok:ok nm):Deep (dI g h ⟨2,nm,[],⟨#[]⟩,0,[]⟩) root c d ok∧Line (dI g h ⟨2,nm,[],⟨#[]⟩,0,[]⟩) 0 [h]:=by
 have hm:=D.not_mem hn;refine⟨⟨D.wf.add hn h0 rfl rfl,D.main.congr fun x hx=>bS (fun e=>hm (by rw[←e];exact List.mem_append_left _ hx)),D.side.congr fun x hx=>bS (fun e=>hm (by rw[←e];exact List.mem_append_right _ hx)),D.nodup,fun m e=>?_,fun x m e hx=>?_⟩,⟨⟨_,bL _ _ _,rfl,rfl⟩,trivial⟩⟩
 ·rw[bS (fun e=>hm (by rw[←e];simp))] at e;exact D.doc m e
 ·by_cases e1:x=h
  ·subst e1;rw[bL] at e;obtain rfl:=Option.some.inj e;exact⟨rfl,hok,rfl,rfl⟩
  ·rw[bS e1] at e;exact D.elem x m e hx
theorem Na (e:dG g h=0):dD g h=g:=by unfold dD;rw[if_pos e]
theorem Nb (h0:h≠0):oQ g h 0=0:=by unfold oQ;rw[if_neg (Ne.symm h0)]
theorem Deep.joined (D:Deep g root c d ok) {r:List Int} (hp:Line g 0 (l++[p])) (hh:Line g 0 (h::r)) (hn:((l++[p])++h::r).Nodup) (hr:h≠root) (hlim:(l++[p]).length+(h::r).length≤128):
  h≠0∧(g p).isSome∧(g h).isSome∧dG g h=0∧h∉aY g p∧(aY g p).length+gF g h=(l++[p]).length+(h::r).length∧WF 0 (bg g p h 0)∧Line (bg g p h 0) 0 ((l++[p])++h::r)∧
   (∀ m,bg g p h 0 root=some m→m.kind=1∧m.attrs=[]∧m.data=⟨#[]⟩)∧(∀ x m,bg g p h 0 x=some m→x≠root→m.kind=2∧ok m.name∧m.attrs=[]∧m.data=⟨#[]⟩):=by
 have w:=D.wf;obtain⟨mp,ep⟩:=Option.isSome_iff_exists.1 (hp.mem p (by simp));obtain⟨⟨mh,eh,hpa,hk⟩,_⟩:=id hh;have h0:h≠0:=fun e=>by rw[e,w.zero] at eh;cases eh
 have hup:=hp.aY w;have uX:=hh.hgt w;have hnu:h∉aY g p:=by
  rw[hup];intro hm;have hm2:h∈l++[p]:=List.mem_reverse.1 hm;exact (List.nodup_append.1 hn).2.2 h hm2 h (by simp) rfl
 have hlen:(aY g p).length+gF g h=(l++[p]).length+(h::r).length:=by rw[hup,uX,List.length_reverse]
 refine⟨h0,by rw[ep];rfl,by rw[eh];rfl,by rw[aL eh];exact hpa,hnu,hlen,w.link eh hpa ep hnu (by rw[hlen];exact hlim),hp.link hh hn,fun m e=>?_,fun x m e hx=>?_⟩
 ·obtain⟨m0,e0,e1,e2,e3,e4⟩:=yE e;obtain⟨k1,k2,k3⟩:=D.doc m0 e0;exact⟨by rw[←e2];exact k1,by rw[←e1];exact k2,by rw[←e4];exact k3⟩
 ·obtain⟨m0,e0,e1,e2,e3,e4⟩:=yE e;obtain⟨k1,k2,k3,k4⟩:=D.elem x m0 e0 hx;exact⟨by rw[←e2];exact k1,by rw[←e3];exact k2,by rw[←e1];exact k3,by rw[←e4];exact k4⟩
theorem Deep.may (D:Deep g root c d ok) (hp:Line g 0 (l++[p])) {m:GN} (eh:g h=some m) (hr:h≠root):dW g p h=true:=by
 obtain⟨mp,ep⟩:=Option.isSome_iff_exists.1 (hp.mem p (by simp));have hkh:kindOf g h=2:=by rw[dA eh];exact (D.elem h m eh hr).1
 unfold dW;rw[hkh];by_cases e:p=root
 ·subst e;have hkp:kindOf g p=1:=by rw[dA ep];exact (D.doc mp ep).1
  have hks:au g p=[]:=by
   have:∀ (l:List Int) (q:Int),Line g q (l++[p])→∃ m,g p=some m∧m.kids=[]:=by
    intro l
    induction l with
    | nil=>rintro q ⟨⟨m,h1,_,h3⟩,_⟩;exact⟨m,h1,h3⟩
    | cons x r ih=>rintro q ⟨_,h4⟩;exact ih x h4
   obtain⟨m,h1,h2⟩:=this l 0 hp;rw[aH h1];exact h2
  have ho:jH g p h=false:=by unfold jH;rw[hks];rfl
  rw[hkp,ho];rfl
 ·have hkp:kindOf g p=2:=by rw[dA ep];exact (D.elem p mp ep e).1
  rw[hkp];rfl
end
end Tr
end
section
open Go.RowKit Go.Shelf
attribute [local go_sem] Oper.semAt_some
def AZ (x y:Int):Int:=if x<y then -1 else if y<x then 1 else 0
theorem Di (x:Int) (w:World):Calls Tryz.prog 83 #[.int .i64 x] w fun e w'=>e=.returned (.bool false)∧w'=w:=by
 go_enter Tryz.func83,Tryz.ntmps83
 go_wp2_with fail
 go_ret
 simp
theorem sO (x y:Int) (w:World):Calls Tryz.prog 37 #[.int .i64 x,.int .i64 y] w fun e w'=>e=.returned (.int .i64 (AZ x y))∧w'=w:=by
 have h1:=Di x w;have h2:=Di y w
 go_enter Tryz.func37,Tryz.ntmps37
 go_wp2_with fail;refine h1.mono ?_;rintro e w1 ⟨rfl,rfl⟩;clear h1;go_wp2_with fail;refine h2.mono ?_;rintro e w2 ⟨rfl,rfl⟩;clear h2;by_cases h:x<y
 ·go_wp2_with fail
  go_ret
  simp[AZ,h]
 ·by_cases h':y<x
  ·go_wp2_with fail
   go_ret
   simp[AZ,h,h']
  ·have hc:AZ x y=0:=by unfold AZ;rw[if_neg h,if_neg h']
   go_wp2_with fail
   go_ret
   simp[hc]
end
section
open Go.RowKit
variable {F:Fence} {n:Nat} {P:Program}
theorem uV {α:Type} {g:Operand} {ps:Array Tmp} {assign body:Code} {Q:Exit→Act→World→Prop} {a:Act} {w:World}
  (hro:F.round=none) (h1:1≤n) {gf:Nat} {lb:Array Value} (hg:a.eval g=.func (.func gf) #[] lb) (hFg:F.fn gf) (eg:∀ args w,(callFunc gf args).run P w=.ok (.enter gf args) w)
  {encs:α→Array Value} {Kp:World→World→Prop} {S Sp:List α→Prop} {N:Nat} {w0:World} (hseq:SeqStopsK F (n - 1) P gf lb encs Kp S Sp N w0)
  (hKt:∀ {A B C:World},Kp A B→Kp B C→Kp A C) (hKb:∀ (W:World) (l:Nat) (o o':Obj),w.heap.size≤l→W.heap[l]?=some o→o.isCells=false→o.isWalk=false→Kp W (W.putObj l o')) (hb0:Below w0.heap.size w0 w) (hps:∀ x,(encs x).size=ps.size)
  (I:List α→World→Prop) (hI:OwnFrom w.heap.size I) (h0:I [] w)
  (hassign:∀ (l:Nat) (pre:List α) (x:α) (W:World) (K:Act→World→Prop),I pre W→pre.length<N→(∀ a' W',KeepsOthers W W'→Kp W W'→I (pre++[x]) W'→K a' W')→
   assign.wpIn (F.inRound l) (n - 1 - 1) P (Exit.then K (fun _ _ _=>False)) { tmps:=(ps.zip (encs x)).foldl (fun t (p,v)=>t.setIfInBounds p v) a.tmps,defers:=[] } W)
  (hbody:∀ (l:Nat) (a':Act) (W:World) (R:Exit→Act→World→Prop),R .normal a' W→body.wpIn (F.inRound l) (n - 1 - 1) P R a' W)
  (hdone:∀ (D:Nat) (xs:List α) (W:World),w.heap.size≤D→S xs→I xs W→W.heap[D]?=some (.deferred (some []))→Q .normal { a with defers:={ target:=.collected D,args:=#[] }::a.defers } W):
  (Code.rangeFunc g ps assign body).wpIn F n P Q a w:=by
 apply wpIn_rangeFunc;intro fn hfn;rw[hro];let R:LoopState→Loop:=fun st=>{ state:=st,pending:=none,fn,tmps:=a.tmps,params:=ps,assign,body,defers:=w.heap.size }
 let V:=(w.alloc (.deferred (some []))).alloc (.loop (R .ready))
 have hVs:V.heap.size=w.heap.size+2:=by simp[V]
 have hVl:V.heap[w.heap.size+1]?=some (.loop (R .ready)):=by
  have:=World.alloc_heap_new (w.alloc (.deferred (some []))) (.loop (R .ready));rwa [World.size_alloc] at this
 have hVd:V.heap[w.heap.size]?=some (.deferred (some [])):=(Below.heap_alloc _ _ _ (by simp)).trans (World.alloc_heap_new w _);have eH:Below w0.heap.size w0 V:=hb0.trans ((((Below.refl _ w).alloc (Nat.le_refl _) _).alloc (by simp) _).mono hb0.size);have far:∀ {A B:World} {row:Option Nat},(∀ r,row=some r→V.heap.size≤r∧∃ o:Obj,A.heap[r]?=some o∧o.isWalk=true)→(∀ r,row=some r→w.heap.size≤r∧∃ o:Obj,A.heap[r]?=some o∧o.isCells=false):=by
  intro A B row hr r e;obtain⟨h2,o,ho,hwk⟩:=hr r e;exact⟨by omega,o,ho,Obj.not_cells_of_walk hwk⟩
 refine⟨w.heap.size+1,[{ target:=.collected w.heap.size,args:=#[] }],V,{ target:=.fn (.func gf) lb,args:=#[.func (.yield (w.heap.size+1)) #[] #[]] },V,gf,
  #[.func (.yield (w.heap.size+1)) #[] #[]]++lb,V,run_enterLoop_outer _ _ _ _ _,?_,?_,?_,fun _=>h1,?_⟩
 ·simp only[resolve,hg];simp[go_sem]
 ·intro f' hf';simp[Target.leads] at hf';subst hf';exact hFg
 ·simp[invoke,go_sem,eg]
 refine (hseq (w.heap.size+1)
  (fun pre W=>I pre W∧W.heap[w.heap.size+1]?=some (.loop (R .ready))∧W.heap[w.heap.size]?=some (.deferred (some []))) (fun _ _=>False) V eH
  (fun s A B row hs hg' hr=>⟨hI s A B row hs.1 hg' (far (B:=B) hr),(grownBy_keeps hg' (fun r e=>(hr r e).2) hs.2.1 rfl).trans hs.2.1,(grownBy_keeps hg' (fun r e=>(hr r e).2) hs.2.2 rfl).trans hs.2.2⟩)
  (fun _ _ _ _ hs _ _=>hs) ?_ ⟨hI.alloc _ (hI.alloc _ h0),hVl,hVd⟩).mono ?_
 ·rintro pre x W ⟨hi,hl,hd⟩ hlen;have hy:=run_yield (P:=P) (args:=encs x) hl (by simpa [R] using hps x);refine⟨fn,_,assign,body,hy,roundIn_of_wpIn hfn (hassign _ pre x W _ hi hlen fun a' W1 k1 p1 i1=>?_)⟩;have hl1:=k1.same _ _ hl rfl;have hd1:=k1.same _ _ hd rfl;have hlt:w.heap.size+1<W1.heap.size:=(Array.getElem?_eq_some_iff.1 hl1).1;refine⟨_,run_beginRound hl1 rfl,hbody _ _ _ _ ?_⟩;have hl2:(W1.putObj (w.heap.size+1) (.loop { R .ready with state:=.busy })).heap[w.heap.size+1]?=some (.loop { R .ready with state:=.busy }):=World.putObj_heap_same hlt;have hlt2:=(Array.getElem?_eq_some_iff.1 hl2).1;have hd2:(W1.putObj (w.heap.size+1) (.loop { R .ready with state:=.busy })).heap[w.heap.size]?=some (.deferred (some [])):=(World.putObj_heap_other (by omega)).trans hd1;have i2:=hI.putObj (.loop { R .ready with state:=.busy }) i1 (by omega) hl1 rfl;have p2:=hKb W1 _ _ (.loop { R .ready with state:=.busy }) (by omega) hl1 rfl rfl;have hr:=run_endRound (P:=P) none hl2;exact⟨_,_,hr,.inl ⟨rfl,⟨hI.putObj _ i2 (by omega) hl2 rfl,World.putObj_heap_same hlt2,(World.putObj_heap_other (by omega)).trans hd2⟩,hKt (hKt p1 p2) (hKb _ _ _ _ (by omega) hl2 rfl rfl)⟩⟩
 ·rintro e W2 ⟨⟨v,rfl⟩,(⟨xs,hS,hi,hl,hd⟩ | ⟨pre,_,hf⟩)⟩
  ·exact⟨none,_,run_endLoop (P:=P) hl (by simp[R]),hdone _ xs _ (Nat.le_refl _) hS (hI.putObj _ hi (by omega) hl rfl) ((World.putObj_heap_other (by omega)).trans hd)⟩
  ·exact hf.elim
end
section
open Go.RowKit Go.Shelf
attribute [local go_sem] Oper.semAt_some
theorem vF (base B:Nat) (b s root h:Int) (live n:Nat) (g:Tr.G) (av:Int→Tr.Sl) (fr:List Nat) (vs vf:Value) (w:World) (hm:TV base w B b s vs n (Tr.raw g av) vf fr live root) (hS:Sound b s n (Tr.raw g av) fr live) (hw:Tr.WF 0 g) (hh:kM h):
  Calls Tryz.prog 12 #[.pointer (some ⟨B,0,none⟩),.int .i64 h] w fun e w'=>e=.returned (.int .i64 (Tr.dN (Tr.aY g h)))∧Below w.heap.size w w':=by
 have AQ:=(hw.bY h).2;have hlt:=hm.lt;refine (callsIn_wide (n:=8)).1 ?_;refine callsIn_of_wp_marks Tryz.func12 rfl trivial ?_ rfl;simp only[Tryz.ntmps12,pT,Nat.reduceAdd,Nat.reduceSub]
 gi_wp2_with fail
 obtain⟨w1,hw1⟩:=eX (w.alloc (.cells #[.int .i64 0] 3))
 have hz1:w1.heap.size=w.heap.size+1:=by rw[←hw1];simp
 have hb1:Below w.heap.size w w1:=gU hw1;have hX1:Whole w1 w.heap.size #[.int .i64 0] 3:=by rw[←hw1];exact Whole.new w _ _
 have hL:=LS.made (h:=h) (hm.below hb1);have hsz2:((w1.alloc (.cells #[.pointer (some ⟨B,0,none⟩)] 29)).alloc (.cells #[.int .i64 h] 3)).heap.size=w1.heap.size+2:=by simp
 have hb2:Below w1.heap.size w1 ((w1.alloc (.cells #[.pointer (some ⟨B,0,none⟩)] 29)).alloc (.cells #[.int .i64 h] 3)):=((Below.refl _ w1).alloc (Nat.le_refl _) _).alloc (by simp) _;have hseq:=EF hS hw hh 7 (by omega) _ hL;have xK:=zh (ze B h w1);(try rw[hw1]);refine⟨trivial,(callsIn_wide.2 xK.out).mono ?_⟩;rintro e w' ⟨rfl,hw'⟩;rw[←hw'] at hL hsz2 hb2 hseq;have hX2:=hX1.below hb2 hX1.lt;have hB2:=hb1.trans (hb2.mono hb1.size);clear hm hS hX1 hw' hb2 xK
 gi_wp2_with fail
 rw[hz1] at hseq hL hsz2;have hm1:¬ aD B vs vf w.heap.size:=fun hk=>by have:=(hlt _ hk).2;omega
 refine uV (w:=w') rfl (by decide) (gf:=84) (lb:=#[.pointer (some ⟨w.heap.size+1+1,0,none⟩),.pointer (some ⟨w.heap.size+1,0,none⟩)]) rfl trivial (enters_of Tryz.func84 (by kernel_rfl) rfl) hseq LS.pJ (LS.qP _) (Below.refl _ _) (fun _=>rfl)
  (fun pre W=>Whole W w.heap.size #[.int .i64 (Tr.dN (pre.map (·.1)))] 3∧LS base B (w.heap.size+1) (w.heap.size+1+1) b s h vs n (Tr.raw g av) vf fr live root W∧Below w.heap.size w W)
  ?hI ⟨hX2,hL,hB2⟩ ?assign ?body ?done
 case hI=>
  rintro pre W W' row ⟨h1,h2,h3⟩ hg hr;exact⟨aS h1 hg (fun r e=>(hr r e).2),h2.others hg (fun r e=>(hr r e).2),h3.grown hg h3.size (fun r e=>by have:=(hr r e).1;omega)⟩
 case assign=>
  rintro l pre x W K ⟨hX,kJ,hBW⟩ hlen hK;have c0:W.cell? ⟨w.heap.size,0,none⟩=some (.int .i64 (Tr.dN (pre.map (·.1)))):=hX.cell 0;have f0:=hX.free 0;have Bt:=hX.put 0 (.int .i64 x.1);have hL':=kJ.set hm1 (by omega) (by omega) 0 (.int .i64 x.1);have HF:=zh (And.intro Bt (And.intro hL' (hBW.setCell (p:=⟨w.heap.size,0,none⟩) (Nat.le_refl _) (.int .i64 x.1))));have HK:=zh hK;clear hX kJ hBW Bt hL' hK
  gi_wp2_with fail
  refine HK.out _ _ (KeepsOthers.setCell _ _ _) (fun _=>HF.out.2.1) ⟨?_,HF.out.2.1,HF.out.2.2⟩;rw[List.map_append,List.map_cons,List.map_nil,Tr.lC];exact HF.out.1
 case body=>
  intro l a' W R hR
  gi_wp2
  simpa using hR
 case done=>
  rintro D xs W hD rfl ⟨hX,kJ,hBW⟩ hK;rw[List.attach_map_subtype_val] at hX;have c0:W.cell? ⟨w.heap.size,0,none⟩=some (.int .i64 (Tr.dN (Tr.aY g h))):=hX.cell 0;have HB:=zh (hBW.trans (belowK_b (w:=w) (Nat.le_refl _) W D _ (.deferred none) (by omega) hK rfl rfl));clear hX kJ hBW
  gi_wp2_with fail
  refine⟨by simp,.inl ⟨_,_,rfl,run_takeDeferred hK,?_⟩⟩;exact⟨_,results_tmp rfl _ _ _,rfl,HB.out⟩
end
end Go.Proofs.YtjpbhkcjmdndjaaGreatDoor
