/- Part of a proof about trees. -/
import Derived.Deep.DrawnRows
import Derived.Deep.RegionHeld3
import Derived.Deep.RegionWith
import Derived.Lib.FrozenHead
import Derived.Lib.MinMax
import Derived.Lib.OthersKept
import Derived.Lib.SliceRun
import Derived.LoopIn
import Derived.LoopNIn
import Derived.Outline
import Derived.OwnWalkIn
import Derived.RangeFuncBound
import Derived.RangeFuncBox
import Derived.RangeFuncCalls
import Derived.RangeFuncLeaves
import Derived.RangeFuncNested
import Derived.Shelf.Abstract
import Derived.Shelf.RegionOpen
import Derived.Sort.CutIn
import Derived.Sort.QuietIn
import Derived.Stop.RegionWithIn
import Derived.TacticsInMore
import Derived.WalkKit
import Derived.Test.YtmhjlifmcadefaaGreatDoorGNDrp
import Derived.Test.YtmhjlifmcadefaaGreatDoorGNTrw
import Derived.Test.YtmhjlifmcadefaaGreatDoorGShBld
import Derived.Test.YtmhjlifmcadefaaGreatDoorGShCon
import Derived.Test.YtmhjlifmcadefaaGreatDoorGShLen
import Derived.Test.YtmhjlifmcadefaaGreatDoorGShVal
set_option linter.unusedVariables false
set_option linter.unusedSimpArgs false
set_option linter.unusedSectionVars false
set_option maxHeartbeats 4000000
set_option maxRecDepth 100000
namespace Go.Proofs.YtmhjlifmcadefaaGreatDoor
section
open Go.RowKit
def NP (w:World) (g o:Nat) (d:Tr.Nd):Prop:=∀ j,j<9→w.cell? ⟨g,o+j,none⟩=(UY d)[j]?∧w.frozen? ⟨g,o+j,none⟩=false
section
variable {w w':World} {g o:Nat} {d:Tr.Nd}
theorem NP.cells (h:NP w g o d):w.cell? ⟨g,o,none⟩=some (.int .i64 d.kind)∧w.cell? ⟨g,o+1,none⟩=some (.string d.name)∧w.cell? ⟨g,o+2,none⟩=some (.slice d.av.a d.av.n d.av.c)∧w.cell? ⟨g,o+3,none⟩=some (.string d.data)∧w.cell? ⟨g,o+4,none⟩=some (.int .i64 d.pa)∧
  w.cell? ⟨g,o+5,none⟩=some (.int .i64 d.fi)∧w.cell? ⟨g,o+6,none⟩=some (.int .i64 d.la)∧w.cell? ⟨g,o+7,none⟩=some (.int .i64 d.pr)∧w.cell? ⟨g,o+8,none⟩=some (.int .i64 d.ne):=
 ⟨(h 0 (by omega)).1,(h 1 (by omega)).1,(h 2 (by omega)).1,(h 3 (by omega)).1,(h 4 (by omega)).1,(h 5 (by omega)).1,(h 6 (by omega)).1,(h 7 (by omega)).1,(h 8 (by omega)).1⟩
theorem NP.below (h:NP w g o d) (hb:Below w.heap.size w w'):NP w' g o d:=fun j hj=>by
 obtain⟨h1,h2⟩:=h j hj;have hlt:g<w.heap.size:=World.block_lt_of_cell? w _ h.cells.1;exact⟨(hb.cell (p:=⟨g,o+j,none⟩) hlt).trans h1,(hb.frozen (p:=⟨g,o+j,none⟩) hlt).trans h2⟩
theorem NP.of_whole {T:TypeId} (h:Whole w g (UY d) T):NP w g 0 d:=fun j _=>by
 rw[Nat.zero_add];exact⟨h.cell j,h.free j⟩
end
def PtrTo (b s:Int) (vs:Value) (n g o:Nat) (h:Int):Prop:=∃ i c:Nat,i<n∧n≤100000∧Ar.hdl b s (i:Int)=h∧o=i*10+1∧vs=.slice (some ⟨g,0,none⟩) n c
section
variable {base B n live g o:Nat} {w:World} {b s root h:Int} {vs vf:Value} {R:Int→Option Tr.Nd} {fr:List Nat} {d d':Tr.Nd}
theorem TV.np (hM:TV base w B b s vs n R vf fr live root) (hp:PtrTo b s vs n g o h) (hd:R h=some d):NP w g o d:=by
 obtain⟨i,c,h1,h2,h3,rfl,rfl⟩:=hp;obtain⟨g',e,_,_,hc⟩:=hM.slot (by omega);obtain rfl:g=g':=by injection e with e;injection e
 intro j hj;have:=hc i (j+1) h1 (by omega);rw[h3,hd,SV,show EB (true,d)=.bool true::(UY d).toList from rfl,List.getElem?_cons_succ,Array.getElem?_toList] at this;rw[Nat.add_assoc,Nat.add_comm 1 j];exact this
theorem TV.mI {j:Nat} {v:Value} (hM:TV base w B b s vs n R vf fr live root) (hp:PtrTo b s vs n g o h) (hd:R h=some d) (f:Tr.Nd→Tr.Nd) (hf:f d=d') (hj:j<9) (hv:EB (true,d')=(EB (true,d)).set (j+1) v):
  TV base (w.setCell ⟨g,o+j,none⟩ v) B b s vs n (Tr.upd R h f) vf fr live root∧aB w (w.setCell ⟨g,o+j,none⟩ v) (aD B vs vf) (aD B vs vf):=by
 obtain⟨i,c,h1,h2,h3,rfl,rfl⟩:=hp;rw[←h3] at hd;have:=hM.Nl h1 h2 (by omega:j+1<10) hd f hf hv;rw[h3] at this;rw[Nat.add_assoc,Nat.add_comm 1 j];exact this
theorem Sound.upd {f:Tr.Nd→Tr.Nd} (hS:Sound b s n R fr live):Sound b s n (Tr.upd R h f) fr live:=by
 have key:∀ x,(Tr.upd R h f x).isSome=(R x).isSome:=fun x=>by
  unfold Tr.upd
  split
  ·rename_i e;rw[e];cases R h<;>rfl
  ·rfl
 refine⟨fun x hx=>hS.dom x (by rw[←key];exact hx),hS.nodup,fun i hi=>⟨(hS.free i hi).1,?_⟩,hS.count,hS.le⟩;have:=key (Ar.hdl b s (i:Int));rw[(hS.free i hi).2] at this;exact Option.not_isSome_iff_eq_none.1 (by rw[this];simp)
end
theorem gW (base B:Nat) (b s root h:Int) (live n:Nat) (R:Int→Option Tr.Nd) (fr:List Nat) (vs vf:Value) (d:Tr.Nd) (w:World) (hm:TV base w B b s vs n R vf fr live root) (hS:Sound b s n R fr live) (hd:R h=some d):
  Calls Tryz.prog 73 #[.pointer (some ⟨B,0,none⟩),.int .i64 h] w fun e w'=>∃ g o,e=.returned (.pointer (some ⟨g,o,none⟩))∧PtrTo b s vs n g o h∧Below w.heap.size w w':=by
 have hh:=(bH hS (h:=h) (by rw[hd];rfl)).1;obtain⟨A,c,A',c',rfl,rfl⟩:=hm.slices;rcases nI (h:=h) hS with ⟨i,d',e1,e2,e3,e4⟩ | ⟨e1,_⟩
 rotate_left
 ·rw[hd] at e1;cases e1
 obtain⟨g,rfl,hgB,hgl,_⟩:=hm.slot (by omega);have hpt:nodeAt b s (.slice (some ⟨g,0,none⟩) n c) R h=some ⟨g,i*10+1,none⟩:=by
  have:Ar.idx b s h=i:=by unfold rC at e2;rw[e1] at e2;exact e2
  unfold nodeAt;rw[e1,this];rfl
 have hle:=hS.le
 go_enter Tryz.func73,Tryz.ntmps73
 go_wp2_with fail;refine (sM base B b s root h live n R fr _ _ w hm hS hh).mono ?_;rintro e w2 ⟨rfl,hb2⟩;rw[hpt];have HE:=zh e4;clear e1 e2 e4 hpt hS hm hd;go_wp2_with fail
 go_ret
 exact⟨g,_,rfl,⟨i,c,e3,hle,HE.out,rfl,rfl⟩,hb2⟩
theorem jX (base B:Nat) (b s root h:Int) (live n:Nat) (R:Int→Option Tr.Nd) (fr:List Nat) (vs vf:Value) (w:World) (hm:TV base w B b s vs n R vf fr live root) (hS:Sound b s n R fr live) (hh:gI h):
  Calls Tryz.prog 73 #[.pointer (some ⟨B,0,none⟩),.int .i64 h] w fun e w'=>∃ g o,e=.returned (.pointer (some ⟨g,o,none⟩))∧NP w' g o ((R h).getD Tr.yX)∧Below w.heap.size w w':=by
 cases hd:R h with
 | some d=>
  refine (gW base B b s root h live n R fr vs vf d w hm hS hd).mono ?_;rintro e w' ⟨g,o,rfl,hp,hb⟩;exact⟨g,o,rfl,(hm.below hb).np hp hd,hb⟩
 | none=>
  obtain⟨A,c,A',c',rfl,rfl⟩:=hm.slices;have hpt:nodeAt b s (.slice A n c) R h=none:=by unfold nodeAt;rw[hd]
  go_enter Tryz.func73,Tryz.ntmps73
  go_wp2_with fail;refine (sM base B b s root h live n R fr _ _ w hm hS hh).mono ?_;rintro e w2 ⟨rfl,hb2⟩;rw[hpt];clear hpt hS hm hd;have hb3:=hb2.alloc hb2.size (.cells (UY Tr.yX) 82);have hY:=Whole.new w2 (UY Tr.yX) 82;go_wp2_with fail
  go_ret
  exact⟨_,0,rfl,NP.of_whole hY,hb3⟩
theorem wF (base B:Nat) (b s root h:Int) (live n:Nat) (R:Int→Option Tr.Nd) (fr:List Nat) (vs vf:Value) (w:World) (hm:TV base w B b s vs n R vf fr live root) (hS:Sound b s n R fr live) (hh:gI h):
  Calls Tryz.prog 71 #[.pointer (some ⟨B,0,none⟩),.int .i64 h] w fun e w'=>e=.returned (.bool (R h).isSome)∧Below w.heap.size w w':=by
 obtain⟨A,c,A',c',rfl,rfl⟩:=hm.slices;rcases nI (h:=h) hS with ⟨i,d',e1,e2,e3,e4⟩ | ⟨e1,_⟩
 ·obtain⟨g,rfl,hgB,hgl,_⟩:=hm.slot (by omega);have hpt:nodeAt b s (.slice (some ⟨g,0,none⟩) n c) R h=some ⟨g,i*10+1,none⟩:=by
   have:Ar.idx b s h=i:=by unfold rC at e2;rw[e1] at e2;exact e2
   unfold nodeAt;rw[e1,this];rfl
  rw[e1]
  go_enter Tryz.func71,Tryz.ntmps71
  go_wp2_with fail;refine (sM base B b s root h live n R fr _ _ w hm hS hh).mono ?_;rintro e w2 ⟨rfl,hb2⟩;rw[hpt];clear hpt hS hm e1 e2 e4;go_wp2_with fail
  go_ret
  exact⟨rfl,hb2⟩
 ·have hpt:nodeAt b s (.slice A n c) R h=none:=by unfold nodeAt;rw[e1]
  rw[e1]
  go_enter Tryz.func71,Tryz.ntmps71
  go_wp2_with fail;refine (sM base B b s root h live n R fr _ _ w hm hS hh).mono ?_;rintro e w2 ⟨rfl,hb2⟩;rw[hpt];clear hpt hS hm e1;go_wp2_with fail
  go_ret
  exact⟨rfl,hb2⟩
def Bt (b s:Int) (vs:Value) (n g y:Nat) (p c:Int):Prop:=∃ o,(c=0∧PtrTo b s vs n g o p∧y=o+5)∨(c≠0∧PtrTo b s vs n g o c∧y=o+8)
def Hy (b s:Int) (vs:Value) (n g y:Nat) (p c:Int):Prop:=∃ o,(c=0∧PtrTo b s vs n g o p∧y=o+6)∨(c≠0∧PtrTo b s vs n g o c∧y=o+7)
def jG (R:Int→Option Tr.Nd) (p c v:Int):Int→Option Tr.Nd:=if c=0 then Tr.upd R p fun n=>{ n with fi:=v } else Tr.upd R c fun n=>{ n with ne:=v }
def qL (R:Int→Option Tr.Nd) (p c v:Int):Int→Option Tr.Nd:=if c=0 then Tr.upd R p fun n=>{ n with la:=v } else Tr.upd R c fun n=>{ n with pr:=v }
section
variable {base B n live g y:Nat} {w:World} {b s root p c:Int} {vs vf:Value} {R:Int→Option Tr.Nd} {fr:List Nat} {dp dc:Tr.Nd}
theorem Bt.cell (h:Bt b s vs n g y p c) (hM:TV base w B b s vs n R vf fr live root) (hp:R p=some dp) (hc:c≠0→R c=some dc):
  w.cell? ⟨g,y,none⟩=some (.int .i64 (if c=0 then dp.fi else dc.ne))∧w.frozen? ⟨g,y,none⟩=false:=by
 obtain⟨o,⟨h1,h2,rfl⟩ | ⟨h1,h2,rfl⟩⟩:=h
 ·rw[if_pos h1];exact hM.np h2 hp 5 (by omega)
 ·rw[if_neg h1];exact hM.np h2 (hc h1) 8 (by omega)
theorem Hy.cell (h:Hy b s vs n g y p c) (hM:TV base w B b s vs n R vf fr live root) (hp:R p=some dp) (hc:c≠0→R c=some dc):
  w.cell? ⟨g,y,none⟩=some (.int .i64 (if c=0 then dp.la else dc.pr))∧w.frozen? ⟨g,y,none⟩=false:=by
 obtain⟨o,⟨h1,h2,rfl⟩ | ⟨h1,h2,rfl⟩⟩:=h
 ·rw[if_pos h1];exact hM.np h2 hp 6 (by omega)
 ·rw[if_neg h1];exact hM.np h2 (hc h1) 7 (by omega)
theorem Bt.put (h:Bt b s vs n g y p c) (hM:TV base w B b s vs n R vf fr live root) (hp:R p=some dp) (hc:c≠0→R c=some dc) (v:Int):
  TV base (w.setCell ⟨g,y,none⟩ (.int .i64 v)) B b s vs n (jG R p c v) vf fr live root∧aB w (w.setCell ⟨g,y,none⟩ (.int .i64 v)) (aD B vs vf) (aD B vs vf):=by
 obtain⟨o,⟨h1,h2,rfl⟩ | ⟨h1,h2,rfl⟩⟩:=h
 ·unfold jG;rw[if_pos h1];exact hM.mI h2 hp _ rfl (by omega) rfl
 ·unfold jG;rw[if_neg h1];exact hM.mI h2 (hc h1) _ rfl (by omega) rfl
theorem Hy.put (h:Hy b s vs n g y p c) (hM:TV base w B b s vs n R vf fr live root) (hp:R p=some dp) (hc:c≠0→R c=some dc) (v:Int):
  TV base (w.setCell ⟨g,y,none⟩ (.int .i64 v)) B b s vs n (qL R p c v) vf fr live root∧aB w (w.setCell ⟨g,y,none⟩ (.int .i64 v)) (aD B vs vf) (aD B vs vf):=by
 obtain⟨o,⟨h1,h2,rfl⟩ | ⟨h1,h2,rfl⟩⟩:=h
 ·unfold qL;rw[if_pos h1];exact hM.mI h2 hp _ rfl (by omega) rfl
 ·unfold qL;rw[if_neg h1];exact hM.mI h2 (hc h1) _ rfl (by omega) rfl
end
theorem D7 (base B:Nat) (b s root p c:Int) (live n:Nat) (R:Int→Option Tr.Nd) (fr:List Nat) (vs vf:Value) (dp dc:Tr.Nd) (w:World) (hm:TV base w B b s vs n R vf fr live root) (hS:Sound b s n R fr live) (hp:R p=some dp) (hc:c≠0→R c=some dc):
  Calls Tryz.prog 120 #[.pointer (some ⟨B,0,none⟩),.int .i64 p,.int .i64 c] w fun e w'=>∃ g y,e=.returned (.pointer (some ⟨g,y,none⟩))∧Bt b s vs n g y p c∧Below w.heap.size w w':=by
 by_cases h0:c=0
 ·go_enter Tryz.func120,Tryz.ntmps120
  go_wp2_with fail;refine (gW base B b s root p live n R fr vs vf dp w hm hS hp).mono ?_;rintro e w2 ⟨g,o,rfl,hpt,hb2⟩;have HP:=zh hpt;clear hpt hm hS hp hc;go_wp2_with fail
  go_ret
  exact⟨g,o+5,rfl,⟨o,.inl ⟨h0,HP.out,rfl⟩⟩,hb2⟩
 ·go_enter Tryz.func120,Tryz.ntmps120
  go_wp2_with fail;refine (gW base B b s root c live n R fr vs vf dc w hm hS (hc h0)).mono ?_;rintro e w2 ⟨g,o,rfl,hpt,hb2⟩;have HP:=zh hpt;clear hpt hm hS hp hc;go_wp2_with fail
  go_ret
  exact⟨g,o+8,rfl,⟨o,.inr ⟨h0,HP.out,rfl⟩⟩,hb2⟩
theorem Bu (base B:Nat) (b s root p c:Int) (live n:Nat) (R:Int→Option Tr.Nd) (fr:List Nat) (vs vf:Value) (dp dc:Tr.Nd) (w:World) (hm:TV base w B b s vs n R vf fr live root) (hS:Sound b s n R fr live) (hp:R p=some dp) (hc:c≠0→R c=some dc):
  Calls Tryz.prog 121 #[.pointer (some ⟨B,0,none⟩),.int .i64 p,.int .i64 c] w fun e w'=>∃ g y,e=.returned (.pointer (some ⟨g,y,none⟩))∧Hy b s vs n g y p c∧Below w.heap.size w w':=by
 by_cases h0:c=0
 ·go_enter Tryz.func121,Tryz.ntmps121
  go_wp2_with fail;refine (gW base B b s root p live n R fr vs vf dp w hm hS hp).mono ?_;rintro e w2 ⟨g,o,rfl,hpt,hb2⟩;have HP:=zh hpt;clear hpt hm hS hp hc;go_wp2_with fail
  go_ret
  exact⟨g,o+6,rfl,⟨o,.inl ⟨h0,HP.out,rfl⟩⟩,hb2⟩
 ·go_enter Tryz.func121,Tryz.ntmps121
  go_wp2_with fail;refine (gW base B b s root c live n R fr vs vf dc w hm hS (hc h0)).mono ?_;rintro e w2 ⟨g,o,rfl,hpt,hb2⟩;have HP:=zh hpt;clear hpt hm hS hp hc;go_wp2_with fail
  go_ret
  exact⟨g,o+7,rfl,⟨o,.inr ⟨h0,HP.out,rfl⟩⟩,hb2⟩
end
section
open Go.RowKit
theorem Bv {R:Int→Option Tr.Nd} {h x:Int} {f:Tr.Nd→Tr.Nd} (hx:(R x).isSome):∃ d,Tr.upd R h f x=some d:=by
 unfold Tr.upd
 split
 ·rename_i e;rw[e] at hx;obtain⟨d,hd⟩:=Option.isSome_iff_exists.1 hx;exact⟨f d,by rw[hd];rfl⟩
 ·exact Option.isSome_iff_exists.1 hx
theorem zC {R:Int→Option Tr.Nd} {h:Int} {f k:Tr.Nd→Tr.Nd}:Tr.upd (Tr.upd R h f) h k=Tr.upd R h (fun n=>k (f n)):=by
 funext x;by_cases e:x=h
 ·subst e;rw[Tr.upd_same,Tr.upd_same,Tr.upd_same];cases R x<;>rfl
 ·rw[Tr.upd_ne e,Tr.upd_ne e,Tr.upd_ne e]
theorem lU {R:Int→Option Tr.Nd} {p c v x:Int} (hx:(R x).isSome):∃ d,jG R p c v x=some d:=by
 unfold jG;split
 ·exact Bv hx
 ·exact Bv hx
theorem Sound.forth {b s:Int} {n live:Nat} {R:Int→Option Tr.Nd} {fr:List Nat} {p c v:Int} (hS:Sound b s n R fr live):Sound b s n (jG R p c v) fr live:=by
 unfold jG;split
 ·exact hS.upd
 ·exact hS.upd
theorem Sound.back {b s:Int} {n live:Nat} {R:Int→Option Tr.Nd} {fr:List Nat} {p c v:Int} (hS:Sound b s n R fr live):Sound b s n (qL R p c v) fr live:=by
 unfold qL;split
 ·exact hS.upd
 ·exact hS.upd
theorem Hz (R:Int→Option Tr.Nd) (p h c pv:Int):Tr.pY R p h c pv=qL (jG (Tr.upd R h fun n=>{ n with pa:=p,pr:=pv,ne:=c }) p pv h) p c h:=by
 unfold Tr.pY qL jG;rfl
theorem Sound.linked {b s:Int} {n live:Nat} {R:Int→Option Tr.Nd} {fr:List Nat} {p h c pv:Int} (hS:Sound b s n R fr live):Sound b s n (Tr.pY R p h c pv) fr live:=by
 rw[Hz];exact hS.upd.forth.back
theorem Qp (base B:Nat) (b s root p h c:Int) (live n:Nat) (R:Int→Option Tr.Nd) (fr:List Nat) (vs vf:Value) (dp dh dc dv:Tr.Nd) (pv:Int) (w:World) (hm:TV base w B b s vs n R vf fr live root) (hS:Sound b s n R fr live)
  (hp:R p=some dp) (hh:R h=some dh) (hc:c≠0→R c=some dc) (hpv:pv=if c=0 then dp.la else dc.pr) (hv:pv≠0→R pv=some dv) (h1:h≠p) (h2:c≠0→h≠c) (h3:pv≠0→h≠pv):
  Calls Tryz.prog 77 #[.pointer (some ⟨B,0,none⟩),.int .i64 p,.int .i64 h,.int .i64 c] w fun e w'=>(∃ u,e=.returned u)∧TV base w' B b s vs n (Tr.pY R p h c pv) vf fr live root∧aB w w' (aD B vs vf) (aD B vs vf):=by
 rw[Hz];obtain⟨R1,wN⟩:=eX ((Tr.upd R h fun n=>{ n with pa:=p,pr:=pv,ne:=c }))
 have F6:R1 h=some { dh with pa:=p,pr:=pv,ne:=c }:=by rw[←wN];exact Tr.kT hh
 have F7:R1 p=some dp:=by rw[←wN,Tr.upd_ne h1.symm];exact hp
 have e1c:c≠0→R1 c=some dc:=fun e=>by rw[←wN,Tr.upd_ne (h2 e).symm];exact hc e
 have e1v:pv≠0→R1 pv=some dv:=fun e=>by rw[←wN,Tr.upd_ne (h3 e).symm];exact hv e
 have hS1:Sound b s n R1 fr live:=by rw[←wN];exact hS.upd
 obtain⟨R2,hR2⟩:=eX (jG R1 p pv h)
 have hS2:Sound b s n R2 fr live:=by rw[←hR2];exact hS1.forth
 have OB:R2 h=some { dh with pa:=p,pr:=pv,ne:=c }:=by
  rw[←hR2];unfold jG;split
  ·rw[Tr.upd_ne h1];exact F6
  ·rename_i e;rw[Tr.upd_ne (h3 e)];exact F6
 obtain⟨d2p,e2p⟩:∃ d,R2 p=some d:=by rw[←hR2];exact lU (by rw[F7];rfl)
 have Vy:c≠0→∃ d,R2 c=some d:=fun e=>by rw[←hR2];exact lU (by rw[e1c e];rfl)
 obtain⟨d2c,WS⟩:∃ d,c≠0→R2 c=some d:=by
  by_cases e:c=0
  ·exact⟨Tr.yX,fun x=>absurd e x⟩
  ·obtain⟨d,hd⟩:=Vy e;exact⟨d,fun _=>hd⟩
 rw[wN,hR2]
 go_enter Tryz.func77,Tryz.ntmps77
 go_wp2_with fail;refine (gW base B b s root h live n R fr vs vf dh w hm hS hh).mono ?_;rintro e w1 ⟨g,o,rfl,hpt,hb1⟩;have hm1:=hm.below hb1;go_wp2_with fail;refine (Bu base B b s root p c live n R fr vs vf dp dc w1 hm1 hS hp hc).mono ?_;rintro e w2 ⟨g2,y,rfl,hbp,hb2⟩;have hm2:=hm1.below hb2;have dV:=hb1.trans (hb2.mono hb1.size);obtain⟨k1,_⟩:=hbp.cell hm2 hp hc;rw[←hpv] at k1;have hnp:=hm2.np hpt hh;obtain⟨_,_,_,_,t4,_,_,t7,t8⟩:=hnp.cells;have f4:=(hnp 4 (by omega)).2;have f7:=(hnp 7 (by omega)).2;have f8:=(hnp 8 (by omega)).2;obtain⟨w3,hw3⟩:=eX ((((w2.setCell ⟨g,o+4,none⟩ (.int .i64 p)).setCell ⟨g,o+7,none⟩ (.int .i64 pv)).setCell ⟨g,o+8,none⟩ (.int .i64 c)))
 have Ja:TV base w3 B b s vs n R1 vf fr live root∧aB w2 w3 (aD B vs vf) (aD B vs vf):=by
  obtain⟨a1,s1⟩:=hm2.mI (j:=4) (v:=.int .i64 p) hpt hh (fun n=>{ n with pa:=p }) rfl (by omega) rfl;obtain⟨a2,s2⟩:=a1.mI (j:=7) (v:=.int .i64 pv) hpt (Tr.kT hh) (fun n=>{ n with pr:=pv }) rfl (by omega) rfl;obtain⟨a3,s3⟩:=a2.mI (j:=8) (v:=.int .i64 c) hpt (Tr.kT (Tr.kT hh)) (fun n=>{ n with ne:=c }) rfl (by omega) rfl;rw[zC,zC] at a3;rw[←hw3,←wN];exact⟨a3,(s1.trans s2).trans s3⟩
 obtain⟨Ja,fF⟩:=Ja;have hn3:=Ja.np hpt F6;obtain⟨_,_,_,_,_,_,_,q7,q8⟩:=hn3.cells;clear hm hm1 hm2 hnp hn3 wN hpv;go_wp2_with fail;(try rw[hw3]);go_wp2_with fail;refine (D7 base B b s root p pv live n R1 fr vs vf dp dv w3 Ja hS1 F7 e1v).mono ?_;rintro e w4 ⟨g4,y4,rfl,hfp,hb4⟩;have oI:=Ja.below hb4;obtain⟨k4,z4⟩:=hfp.cell oI F7 e1v;obtain⟨Qq,st5⟩:=hfp.put oI F7 e1v h;rw[hR2] at Qq;obtain⟨w5,fE⟩:=eX (w4.setCell ⟨g4,y4,none⟩ (.int .i64 h))
 rw[fE] at Qq st5;obtain⟨_,_,_,_,_,_,_,_,v8⟩:=(Qq.np hpt OB).cells;clear q7 q8 Ja oI;go_wp2_with fail;(try rw[fE]);go_wp2_with fail;refine (Bu base B b s root p c live n R2 fr vs vf d2p d2c w5 Qq hS2 e2p WS).mono ?_;rintro e w6 ⟨g6,y6,rfl,Zw,hb6⟩;have yg:=Qq.below hb6;obtain⟨k6,z6⟩:=Zw.cell yg e2p WS;obtain⟨qM,yP⟩:=Zw.put yg e2p WS h;have HM:=zh qM;have HS:=zh ((aB.of_below dV).trans (fF.trans ((aB.of_below hb4).trans (st5.trans ((aB.of_below hb6).trans yP)))));clear Qq yg qM fF st5 yP hw3 fE v8;go_wp2_with fail
 go_end0
 exact⟨⟨_,rfl⟩,HM.out,HS.out⟩
end
section
section
open Go.RowKit
namespace Tr
def dR (g:G) (h:Int):Int:=match g h with | none => -1 | some n=>if n.pa=0 then -1 else ((au g n.pa).idxOf h:Nat)
structure Rec where
 kind:Int
 target:Int
 node:Int
 prev:Int
 next:Int
 index:Int
 name:ByteArray
 old:ByteArray
 had:Bool
 count:Int
 size:Int
def kM (g:G) (kind h:Int):Rec:=⟨kind,dI g h,h,prv (au g (dI g h)) h,nD (au g (dI g h)) h,dR g h,⟨#[]⟩,⟨#[]⟩,false,0,0⟩
theorem dU {l1 l2:List Int} {x:Int} (h:x∉l1):(l1++x::l2).idxOf x=l1.length:=by
 rw[List.idxOf_append,if_neg h];simp
end Tr
abbrev rcV (r:Tr.Rec):Value:=.agg #[.int .i64 r.kind,.int .i64 r.target,.int .i64 r.node,.int .i64 r.prev,.int .i64 r.next,.int .i64 r.index,.string r.name,.string r.old,.bool r.had,.int .i64 r.count,.int .i64 r.size]
def VE (r:Tr.Rec):List Value:=[.int .i64 r.kind,.int .i64 r.target,.int .i64 r.node,.int .i64 r.prev,.int .i64 r.next,.int .i64 r.index,.string r.name,.string r.old,.bool r.had,.int .i64 r.count,.int .i64 r.size]
def gP (l:List Tr.Rec):List Value:=l.flatMap VE
def bL (base:Nat) (w:World) (v:Value) (l:List Tr.Rec):Prop:=w.ownsRow base 144 11 v l.length (gP l)
theorem bL.nil (base:Nat) (w:World):bL base w (.slice none 0 0) []:=World.ownsRow_nil _ _ _ _
theorem aK {g:Tr.G} {av:Int→Tr.Sl} {h:Int}:(Tr.raw g av h).isSome=(g h).isSome:=by
 unfold Tr.raw;cases g h<;>rfl
theorem tJ (base B:Nat) (b s root h:Int) (live n:Nat) (g:Tr.G) (av:Int→Tr.Sl) (fr:List Nat) (vs vf:Value) (w:World) (hm:TV base w B b s vs n (Tr.raw g av) vf fr live root) (hS:Sound b s n (Tr.raw g av) fr live) (hw:Tr.WF 0 g) (hh:gI h):
  Calls Tryz.prog 54 #[.pointer (some ⟨B,0,none⟩),.int .i64 h] w fun e w'=>e=.returned (.int .i64 (Tr.dR g h))∧Below w.heap.size w w':=by
 cases eg:g h with
 | none=>
  have hr:Tr.dR g h = -1:=by unfold Tr.dR;rw[eg]
  go_enter Tryz.func54,Tryz.ntmps54
  go_wp2_with fail;refine (jX base B b s root h live n _ fr vs vf w hm hS hh).mono ?_;rintro e w2 ⟨gb,o,rfl,hnp,hb2⟩;rw[Tr.bF eg] at hnp;obtain⟨_,_,_,_,t4,_⟩:=hnp.cells;have HR:=zh hr;clear hm hS hnp hr eg;go_wp2_with fail
  go_ret
  exact⟨kD HR.out.symm,hb2⟩
 | some nd=>
  by_cases hp:nd.pa=0
  ·have hr:Tr.dR g h = -1:=by unfold Tr.dR;rw[eg];simp[hp]
   go_enter Tryz.func54,Tryz.ntmps54
   go_wp2_with fail;refine (jX base B b s root h live n _ fr vs vf w hm hS hh).mono ?_;rintro e w2 ⟨gb,o,rfl,hnp,hb2⟩;rw[Tr.aj eg] at hnp;obtain⟨_,_,_,_,t4,_⟩:=hnp.cells;have t4':w2.cell? ⟨gb,o+4,none⟩=some (.int .i64 0):=by rw[t4];show some (Value.int .i64 nd.pa)=_;rw[hp]
   have HR:=zh hr;clear hm hS hnp hr eg t4 hp;go_wp2_with fail
   go_ret
   exact⟨kD HR.out.symm,hb2⟩
  ·have hk:=hw.tL eg hp;obtain⟨l1,l2,e1⟩:=List.append_of_mem hk;have hnd:=hw.jr nd.pa;have h0:=hw.l8 nd.pa;have hlen:(Tr.au g nd.pa).length≤100000:=by
    have h1:((Tr.au g nd.pa).map fun x=>(Ar.idx b s x).toNat).length≤n:=pI n _ (by
     rw[List.nodup_iff_pairwise_ne] at hnd ⊢;rw[List.pairwise_map];refine List.Pairwise.imp_of_mem (fun {x y} hx hy hne e=>hne ?_) hnd;obtain⟨mx,ex,_⟩:=hw.dL hx;obtain⟨my,ey,_⟩:=hw.dL hy;obtain⟨i,hi,ei⟩:=hS.dom x (by rw[aK,ex];rfl);obtain⟨j,hj,ej⟩:=hS.dom y (by rw[aK,ey];rfl);have hle:=hS.le;have a1:=Ar.nR b s i (by omega) (by omega);have a2:=Ar.nR b s j (by omega) (by omega);rw[ei] at a1;rw[ej] at a2;rw[←ei,←ej];have:(i:Int)=j:=by omega
     rw[this]) (fun k hk=>by
     obtain⟨x,hx,rfl⟩:=List.mem_map.1 hk;obtain⟨mx,ex,_⟩:=hw.dL hx;obtain⟨i,hi,ei⟩:=hS.dom x (by rw[aK,ex];rfl);have a1:=Ar.nR b s i (by omega) (by have:=hS.le;omega);rw[ei] at a1
     omega)
    rw[List.length_map] at h1;have:=hS.le;omega
   have hn1:h∉l1:=fun hx=>by rw[e1] at hnd;exact (List.nodup_append.1 hnd).2.2 h hx h (by simp) rfl
   have hr:Tr.dR g h=(l1.length:Int):=by
    unfold Tr.dR;rw[eg];simp only;rw[if_neg hp,e1,Tr.dU hn1]
   have hl1:l1.length≤100000:=by rw[e1,List.length_append] at hlen;omega
   have HR:=zh hr;have HK:=zh e1;have HS:=zh hS;clear hr hlen hk;have hc0:(nd.pa == 0)=false:=by simpa using hp
   go_enter Tryz.func54,Tryz.ntmps54
   go_wp2_with fail;refine (jX base B b s root h live n _ fr vs vf w hm hS hh).mono ?_;rintro e w2 ⟨gb,o,rfl,hnp,hb2⟩;rw[Tr.aj eg] at hnp;obtain⟨_,_,_,_,t4,_⟩:=hnp.cells;have t4':w2.cell? ⟨gb,o+4,none⟩=some (.int .i64 nd.pa):=t4;have HN:=zh hnp;have HE:=zh eg;clear t4 hnp hS e1 hnd h0;go_wp2_with fail
   go_loopw [5,6] (fun p i wr=>∃ (g' o':Nat) (l3 l4:List Int) (x:Int) (k:Nat) (m:Tr.GN),p=.pointer (some ⟨g',o',none⟩)∧Tr.au g nd.pa=l3++x::l4∧g x=some m∧m.pa=nd.pa∧NP wr g' o' (Tr.dW g av x m)∧i=.int .i64 k∧k+l3.length=l1.length∧Below w.heap.size w wr) (fun _ i _=>l1.length - (intOf i).toNat)
   case atStart=>exact⟨gb,o,l1,l2,h,0,nd,rfl,HK.out,HE.out,rfl,HN.out,rfl,by omega,hb2⟩
   case round=>
    obtain⟨g',o',l3,l4,x,k,m,rfl,hk,hx,hmp,hnp,rfl,hkl,hbr⟩:=hrel;have hmr:=hm.below hbr;obtain⟨_,_,_,_,_,_,_,t7,_⟩:=hnp.cells;have hnd:=hw.jr nd.pa;have h0:=hw.l8 nd.pa;rw[hk] at hnd h0;have hx4:x∉l4:=(List.nodup_cons.1 (List.nodup_append.1 hnd).2.1).1;have hpr:Tr.prv (Tr.au g m.pa) x=Tr.dF l3:=by rw[hmp,hk];exact Tr.lI hx4
    have t7':wr.cell? ⟨g',o'+7,none⟩=some (.int .i64 (Tr.dF l3)):=by rw[t7,←hpr];rfl
    clear t7;by_cases hz:Tr.dF l3=0
    ·have hl3:l3=[]:=Tr.Bb (fun hx=>h0 (by simp[hx])) hz;subst hl3;rw[Tr.SK] at t7';have hkk:k=l1.length:=by simpa using hkl
     have HB:=zh hbr;have HKK:=zh hkk;clear hnp hmr hk hx hmp hnd h0 hpr hz hkl hbr hkk;go_wp2_with fail
     go_ret
     exact⟨kD (by rw[HKK.out,HR.out]),HB.out⟩
    ·obtain⟨l5,y,rfl⟩:∃ l5 y,l3=l5++[y]:=by
      cases hl:l3 with
      | nil=>rw[hl] at hz;exact absurd rfl hz
      | cons a r=>exact⟨(a::r).dropLast,(a::r).getLast (by simp),(List.dropLast_concat_getLast _).symm⟩
     rw[Tr.l7] at hz t7';have hy:y∈Tr.au g nd.pa:=by rw[hk];simp
     obtain⟨my,ey,hyp⟩:=hw.dL hy;have hc1:(y != 0)=true:=by simpa using hz
     have hyi:=(bH HS.out (h:=y) (by rw[aK,ey];rfl)).1;have hlx:k+1≤l1.length:=by simp at hkl;omega
     have FI:=zh hk;have HL2:=zh hkl;clear hnp hk hx hmp hnd h0 hpr hkl;go_wp2_with fail;refine (jX base B b s root y live n _ fr vs vf wr hmr HS.out hyi).mono ?_;rintro e w4 ⟨g4,o4,rfl,WT,hb4⟩;rw[Tr.aj ey] at WT;have hb5:=hbr.trans (hb4.mono hbr.size);have HN4:=zh WT;have HB:=zh hb5;clear WT hb5 hmr;go_wp2_with fail
     go_roundw
     case rel=>exact⟨g4,o4,l5,x::l4,y,k+1,my,rfl,by rw[FI.out];simp,ey,hyp,HN4.out,by go_num,by have:=HL2.out;simp at this;omega,HB.out⟩
     case measure=>simp[intOf];omega
end
end
section
open Go.RowKit
theorem NP.far {w w':World} {g o:Nat} {d:Tr.Nd} (h:NP w g o d) (hb:Below w.heap.size w w'):
  w'.cell? ⟨g,o+4,none⟩=some (.int .i64 d.pa)∧w'.cell? ⟨g,o+7,none⟩=some (.int .i64 d.pr)∧w'.cell? ⟨g,o+8,none⟩=some (.int .i64 d.ne):=by
 obtain⟨_,_,_,_,a,_,_,b,c⟩:=(h.below hb).cells;exact⟨a,b,c⟩
theorem PtrTo.foot {b s:Int} {vs vf:Value} {n g o B:Nat} {h:Int} (hp:PtrTo b s vs n g o h):aD B vs vf g:=by
 obtain⟨_,_,_,_,_,_,rfl⟩:=hp;exact .inr (.inl rfl)
theorem uX {W W':World} {gb o B:Nat} {v:Value} (h:W.cell? ⟨gb,o,none⟩=some v) (g:W.grownBy W' (some B)) (hn:gb≠B):W'.cell? ⟨gb,o,none⟩=some v:=by
 rw[←h];have:=g.block gb (World.block_lt_of_cell? W _ h) (fun e=>hn (by injection e));unfold World.cell?;simp only[this]
theorem kJ {W:World} {B:Nat} {x0 x1 x2 x3 x4 x5 x6 x7 x8 x9 x10:Value} {T:TypeId} (r:Whole W B #[x0,x1,x2,x3,x4,x5,x6,x7,x8,x9,x10] T) (y0 y1 y2 y3 y4 y5 y6 y7 y8 y9 wT:Value):
  ∃ W',((((((((((W.setCell ⟨B,0,none⟩ y0).setCell ⟨B,1,none⟩ y1).setCell ⟨B,2,none⟩ y2).setCell ⟨B,3,none⟩ y3).setCell ⟨B,4,none⟩ y4).setCell ⟨B,5,none⟩ y5).setCell ⟨B,6,none⟩ y6).setCell ⟨B,7,none⟩ y7).setCell ⟨B,8,none⟩ y8).setCell ⟨B,9,none⟩ y9).setCell ⟨B,10,none⟩ wT=W'∧Whole W' B #[y0,y1,y2,y3,y4,y5,y6,y7,y8,y9,wT] T∧W.grownBy W' (some B):=by
 have r0:Whole _ B #[y0,x1,x2,x3,x4,x5,x6,x7,x8,x9,x10] T:=r.put 0 y0;have r1:Whole _ B #[y0,y1,x2,x3,x4,x5,x6,x7,x8,x9,x10] T:=r0.put 1 y1;have r2:Whole _ B #[y0,y1,y2,x3,x4,x5,x6,x7,x8,x9,x10] T:=r1.put 2 y2;have r3:Whole _ B #[y0,y1,y2,y3,x4,x5,x6,x7,x8,x9,x10] T:=r2.put 3 y3;have r4:Whole _ B #[y0,y1,y2,y3,y4,x5,x6,x7,x8,x9,x10] T:=r3.put 4 y4;have r5:Whole _ B #[y0,y1,y2,y3,y4,y5,x6,x7,x8,x9,x10] T:=r4.put 5 y5;have r6:Whole _ B #[y0,y1,y2,y3,y4,y5,y6,x7,x8,x9,x10] T:=r5.put 6 y6;have r7:Whole _ B #[y0,y1,y2,y3,y4,y5,y6,y7,x8,x9,x10] T:=r6.put 7 y7;have r8:Whole _ B #[y0,y1,y2,y3,y4,y5,y6,y7,y8,x9,x10] T:=r7.put 8 y8;have r9:Whole _ B #[y0,y1,y2,y3,y4,y5,y6,y7,y8,y9,x10] T:=r8.put 9 y9;have r10:Whole _ B #[y0,y1,y2,y3,y4,y5,y6,y7,y8,y9,wT] T:=r9.put 10 wT;exact⟨_,rfl,r10,aJ (aJ (aJ (aJ (aJ (aJ (aJ (aJ (aJ (aJ (aJ (ay (Below.refl W.heap.size W) (some B)) 0 y0) 1 y1) 2 y2) 3 y3) 4 y4) 5 y5) 6 y6) 7 y7) 8 y8) 9 y9) 10 wT⟩
theorem sU (base B:Nat) (b s root kind h:Int) (live n:Nat) (g:Tr.G) (av:Int→Tr.Sl) (fr:List Nat) (vs vf:Value) (nd:Tr.GN) (w:World) (hm:TV base w B b s vs n (Tr.raw g av) vf fr live root) (hS:Sound b s n (Tr.raw g av) fr live) (hw:Tr.WF 0 g) (eg:g h=some nd):
  Calls Tryz.prog 78 #[.pointer (some ⟨B,0,none⟩),.int .i64 kind,.int .i64 h] w fun e w'=>e=.returned (rcV (Tr.kM g kind h))∧Below w.heap.size w w':=by
 have hh:=(bH hS (h:=h) (by rw[aK,eg];rfl)).1;have hr:Tr.kM g kind h=⟨kind,nd.pa,h,Tr.prv (Tr.au g nd.pa) h,Tr.nD (Tr.au g nd.pa) h,Tr.dR g h,⟨#[]⟩,⟨#[]⟩,false,0,0⟩:=by unfold Tr.kM;rw[Tr.aO eg]
 obtain⟨X,hX⟩:=eX (Tr.dR g h)
 obtain⟨pr,hpr⟩:=eX (Tr.prv (Tr.au g nd.pa) h)
 obtain⟨ne,hne⟩:=eX (Tr.nD (Tr.au g nd.pa) h)
 obtain⟨pa,hpa⟩:=eX (nd.pa)
 have hd4:(Tr.dW g av h nd).pa=pa:=hpa;have hd7:(Tr.dW g av h nd).pr=pr:=hpr;have U3:(Tr.dW g av h nd).ne=ne:=hne;rw[hr,hX,hpr,hne,hpa];have hb1:=(Below.refl _ w).alloc (Nat.le_refl _) (.cells #[.int .i64 0,.int .i64 0,.int .i64 0,.int .i64 0,.int .i64 0,.int .i64 0,.string ⟨#[]⟩,.string ⟨#[]⟩,.bool false,.int .i64 0,.int .i64 0] 144);have hY:=Whole.new w #[.int .i64 0,.int .i64 0,.int .i64 0,.int .i64 0,.int .i64 0,.int .i64 0,.string ⟨#[]⟩,.string ⟨#[]⟩,.bool false,.int .i64 0,.int .i64 0] 144;have hm1:=hm.below hb1;have HH:=zh (And.intro hr (And.intro hpr (And.intro hne hpa)));clear hr hpr hne hpa
 go_enter Tryz.func78,Tryz.ntmps78
 go_wp2_with fail;refine (gW base B b s root h live n _ fr vs vf (Tr.dW g av h nd) _ hm1 hS (Tr.aj eg)).mono ?_;rintro e w2 ⟨gb,o,rfl,hpt,hb2⟩;have hm2:=hm1.below hb2;have hnp:=hm2.np hpt (Tr.aj eg);have hne0:gb≠w.heap.size:=by
  have:=(hm.lt gb (hpt.foot)).2;omega
 have hY2:=hY.below hb2 hY.lt;have dV:Below w.heap.size w w2:=hb1.trans (hb2.mono hb1.size);obtain⟨_,_,_,_,t4,_,_,t7,t8⟩:=hnp.cells;rw[hd4] at t4;rw[hd7] at t7;rw[U3] at t8;have kf:=fun (W:World) (hb:Below w2.heap.size w2 W)=>hnp.far hb;rw[hd4,hd7,U3] at kf;have kY:=fun (W:World) (hb:Below w2.heap.size w2 W)=>hY2.below hb hY2.lt;have kI:=fun (W:World) (hb:Below w2.heap.size w2 W)=>tJ base B b s root h live n g av fr vs vf W (hm2.below hb) hS hw hh;rw[hX] at kI;have hbd:Below w2.heap.size w2 w2.drew:=⟨rfl,rfl,rfl,Nat.le_refl _,fun _ _=>rfl⟩
 have KF:=zh kf;have KY:=zh kY;have KI:=zh (kI _ hbd);have FJ:=zh hbd;have Td:=zh dV;have HY2:=zh hY2;clear hm hm1 hm2 hS hnp hY hb1 hb2 hY2 hX eg kf kY kI hbd dV hd4 hd7 U3;have hS0:w2.drew.cell? ⟨gb,o+4,none⟩=some (.int .i64 pa)∧w2.drew.cell? ⟨gb,o+7,none⟩=some (.int .i64 pr)∧w2.drew.cell? ⟨gb,o+8,none⟩=some (.int .i64 ne):=KF.out _ FJ.out;go_wp2_with fail
 go_region_held3 (fun W=>W.cell? ⟨gb,o+4,none⟩=some (.int .i64 pa)∧W.cell? ⟨gb,o+7,none⟩=some (.int .i64 pr)∧W.cell? ⟨gb,o+8,none⟩=some (.int .i64 ne)) (first | exact hS0 | assumption) (first | (go_at_call 54;refine KI.out.mono ?_;rintro e w5 ⟨rfl,hb5⟩;have Qr:=FJ.out.trans (hb5.mono FJ.out.size);have hS5:=KF.out w5 Qr;have rV:=KY.out w5 Qr;have q0:w5.cell? ⟨w.heap.size,0,none⟩=some (.int .i64 0):=rV.cell 0;have z0:=rV.free 0 ;have q1:w5.cell? ⟨w.heap.size,1,none⟩=some (.int .i64 0):=rV.cell 1;have z1:=rV.free 1 ;have q2:w5.cell? ⟨w.heap.size,2,none⟩=some (.int .i64 0):=rV.cell 2;have z2:=rV.free 2 ;have q3:w5.cell? ⟨w.heap.size,3,none⟩=some (.int .i64 0):=rV.cell 3;have z3:=rV.free 3 ;have q4:w5.cell? ⟨w.heap.size,4,none⟩=some (.int .i64 0):=rV.cell 4;have z4:=rV.free 4 ;have q5:w5.cell? ⟨w.heap.size,5,none⟩=some (.int .i64 0):=rV.cell 5;have z5:=rV.free 5 ;have q6:w5.cell? ⟨w.heap.size,6,none⟩=some (.string ⟨#[]⟩):=rV.cell 6;have z6:=rV.free 6 ;have q7:w5.cell? ⟨w.heap.size,7,none⟩=some (.string ⟨#[]⟩):=rV.cell 7;have z7:=rV.free 7 ;have q8:w5.cell? ⟨w.heap.size,8,none⟩=some (.bool false):=rV.cell 8;have z8:=rV.free 8 ;have q9:w5.cell? ⟨w.heap.size,9,none⟩=some (.int .i64 0):=rV.cell 9;have z9:=rV.free 9 ;have q10:w5.cell? ⟨w.heap.size,10,none⟩=some (.int .i64 0):=rV.cell 10;have YH:=rV.free 10;obtain⟨w6,kZ,OE,g6⟩:=kJ rV (.int .i64 kind) (.int .i64 pa) (.int .i64 h) (.int .i64 pr) (.int .i64 ne) (.int .i64 X) (.string ⟨#[]⟩) (.string ⟨#[]⟩) (.bool false) (.int .i64 0) (.int .i64 0);have y0:w6.cell? ⟨w.heap.size,0,none⟩=some (.int .i64 kind):=OE.cell 0 ;have y1:w6.cell? ⟨w.heap.size,1,none⟩=some (.int .i64 pa):=OE.cell 1 ;have y2:w6.cell? ⟨w.heap.size,2,none⟩=some (.int .i64 h):=OE.cell 2 ;have y3:w6.cell? ⟨w.heap.size,3,none⟩=some (.int .i64 pr):=OE.cell 3 ;have y4:w6.cell? ⟨w.heap.size,4,none⟩=some (.int .i64 ne):=OE.cell 4 ;have y5:w6.cell? ⟨w.heap.size,5,none⟩=some (.int .i64 X):=OE.cell 5 ;have y6:w6.cell? ⟨w.heap.size,6,none⟩=some (.string ⟨#[]⟩):=OE.cell 6 ;have y7:w6.cell? ⟨w.heap.size,7,none⟩=some (.string ⟨#[]⟩):=OE.cell 7 ;have y8:w6.cell? ⟨w.heap.size,8,none⟩=some (.bool false):=OE.cell 8 ;have y9:w6.cell? ⟨w.heap.size,9,none⟩=some (.int .i64 0):=OE.cell 9 ;have wT:w6.cell? ⟨w.heap.size,10,none⟩=some (.int .i64 0):=OE.cell 10;have hb6:=zh ((Td.out.trans (Qr.mono Td.out.size)).grown g6 (Td.out.trans (Qr.mono Td.out.size)).size (fun j hj=>by simp at hj;omega));have UL:w6.cell? ⟨gb,o+4,none⟩=some (.int .i64 pa)∧w6.cell? ⟨gb,o+7,none⟩=some (.int .i64 pr)∧w6.cell? ⟨gb,o+8,none⟩=some (.int .i64 ne):=⟨(uX hS5.1 g6 hne0),(uX hS5.2.1 g6 hne0),(uX hS5.2.2 g6 hne0)⟩;clear rV OE g6 Qr hb5))
 go_wp2_with fail;refine bodyPost_ret (v:=rcV ⟨kind,pa,h,pr,ne,X,⟨#[]⟩,⟨#[]⟩,false,0,0⟩) ?_ rfl ⟨rfl,hb6.out⟩;simp[results,Tryz.f78,go_sem,y0,y1,y2,y3,y4,y5,y6,y7,y8,y9,wT]
theorem L8 (R:Int→Option Tr.Nd) (h pa pr ne:Int):Tr.vZ R h pa pr ne=Tr.upd (qL (jG R pa pr ne) pa ne pr) h fun n=>{ n with pa:=0,pr:=0,ne:=0 }:=by
 unfold Tr.vZ qL jG;rfl
theorem Sound.vZ {b s:Int} {n live:Nat} {R:Int→Option Tr.Nd} {fr:List Nat} {h pa pr ne:Int} (hS:Sound b s n R fr live):Sound b s n (Tr.vZ R h pa pr ne) fr live:=by
 rw[L8];exact hS.forth.back.upd
theorem ND {R:Int→Option Tr.Nd} {p c v x:Int} (h1:x≠p) (h2:c≠0→x≠c):jG R p c v x=R x:=by
 unfold jG;split
 ·exact Tr.upd_ne h1
 ·rename_i e;exact Tr.upd_ne (h2 e)
theorem Qs {R:Int→Option Tr.Nd} {p c v x:Int} (h1:x≠p) (h2:c≠0→x≠c):qL R p c v x=R x:=by
 unfold qL;split
 ·exact Tr.upd_ne h1
 ·rename_i e;exact Tr.upd_ne (h2 e)
theorem some_or {R:Int→Option Tr.Nd} {c:Int} (h:c≠0→∃ d,R c=some d):∃ d,c≠0→R c=some d:=by
 by_cases e:c=0
 ·exact⟨Tr.yX,fun x=>absurd e x⟩
 ·obtain⟨d,hd⟩:=h e;exact⟨d,fun _=>hd⟩
theorem mU (w:World) (r:Tr.Rec) (base:Nat) (hb:base≤w.heap.size):bL base (w.alloc (.cells #[.int .i64 r.kind,.int .i64 r.target,.int .i64 r.node,.int .i64 r.prev,.int .i64 r.next,.int .i64 r.index,.string r.name,.string r.old,.bool r.had,.int .i64 r.count,.int .i64 r.size] 144)) (.slice (some ⟨w.heap.size,0,none⟩) 1 1) [r]:=
 World.ownsRow_lit (base:=base) (e:=144) (size:=11) w #[.int .i64 r.kind,.int .i64 r.target,.int .i64 r.node,.int .i64 r.prev,.int .i64 r.next,.int .i64 r.index,.string r.name,.string r.old,.bool r.had,.int .i64 r.count,.int .i64 r.size] 1 hb (by unfold maxLen;omega) rfl
theorem Qt (base B:Nat) (b s root h:Int) (live n:Nat) (g:Tr.G) (av:Int→Tr.Sl) (fr:List Nat) (vs vf:Value) (nd:Tr.GN) (w:World) (hm:TV base w B b s vs n (Tr.raw g av) vf fr live root) (hS:Sound b s n (Tr.raw g av) fr live) (eg:g h=some nd) (hp:nd.pa=0):
  Calls Tryz.prog 76 #[.pointer (some ⟨B,0,none⟩),.int .i64 h] w fun e w'=>e=.returned (.slice none 0 0)∧Below w.heap.size w w':=by
 go_enter Tryz.func76,Tryz.ntmps76
 go_wp2_with fail;refine (gW base B b s root h live n _ fr vs vf (Tr.dW g av h nd) _ hm hS (Tr.aj eg)).mono ?_;rintro e w2 ⟨gb,o,rfl,hpt,hb2⟩;have hnp:=(hm.below hb2).np hpt (Tr.aj eg);obtain⟨_,_,_,_,t4,_⟩:=hnp.cells;have t4':w2.cell? ⟨gb,o+4,none⟩=some (.int .i64 0):=by rw[t4];show some (Value.int .i64 nd.pa)=_;rw[hp]
 clear hm hS hnp t4 hp eg hpt;go_wp2_with fail
 go_ret
 exact⟨rfl,hb2⟩
theorem Qu (base B:Nat) (b s root h:Int) (live n:Nat) (g:Tr.G) (av:Int→Tr.Sl) (fr:List Nat) (vs vf:Value) (nd:Tr.GN) (w:World) (hm:TV base w B b s vs n (Tr.raw g av) vf fr live root) (hS:Sound b s n (Tr.raw g av) fr live) (hw:Tr.WF 0 g) (eg:g h=some nd) (hp:nd.pa≠0):
  Calls Tryz.prog 76 #[.pointer (some ⟨B,0,none⟩),.int .i64 h] w fun e w'=>∃ v,e=.returned v∧bL w.heap.size w' v [Tr.kM g 2 h]∧TV base w' B b s vs n (Tr.raw (Tr.iU g h) av) vf fr live root∧aB w w' (aD B vs vf) (aD B vs vf):=by
 rw[Tr.LV hw eg hp,L8];obtain⟨r,hr⟩:=eX (Tr.kM g 2 h)
 obtain⟨q,ep,hk⟩:=hw.up h nd eg hp;have hkz:=hw.kQ ep;have hps:h≠nd.pa:=fun e=>hw.iG eg e.symm;have hkq:=Tr.aH ep;have NG:Tr.prv (Tr.au g nd.pa) h≠0→h≠Tr.prv (Tr.au g nd.pa) h∧∃ d,Tr.raw g av (Tr.prv (Tr.au g nd.pa) h)=some d:=fun e=>by
  have hm1:=Tr.LQ e;obtain⟨m,e1,_⟩:=hw.dL hm1;refine⟨fun e2=>?_,_,Tr.aj e1⟩;rw[hkq] at e2 e;obtain⟨l1,l2,e3⟩:=List.append_of_mem hk;have hnd:=hw.nodup _ q ep;rw[e3] at hnd e2 e;have h2:h∉l2:=(List.nodup_cons.1 (List.nodup_append.1 hnd).2.1).1;rw[Tr.lI h2] at e2 e;exact (List.nodup_append.1 hnd).2.2 _ (Tr.oz e) h (by simp) e2.symm
 have NH:Tr.nD (Tr.au g nd.pa) h≠0→h≠Tr.nD (Tr.au g nd.pa) h∧∃ d,Tr.raw g av (Tr.nD (Tr.au g nd.pa) h)=some d:=fun e=>by
  have hm1:=Tr.EW e;obtain⟨m,e1,_⟩:=hw.dL hm1;refine⟨fun e2=>?_,_,Tr.aj e1⟩;rw[hkq] at e2 e;obtain⟨l1,l2,e3⟩:=List.append_of_mem hk;have hnd:=hw.nodup _ q ep;rw[e3] at hnd e2 e;have h1:h∉l1:=fun hx=>(List.nodup_append.1 hnd).2.2 h hx h (by simp) rfl;have h2:h∉l2:=(List.nodup_cons.1 (List.nodup_append.1 hnd).2.1).1;rw[Tr.gT h1] at e2 e;exact h2 (by rw[e2];exact Tr.xA e)
 have er:=Tr.aj (av:=av) eg;have XP:=Tr.aj (av:=av) ep;obtain⟨R,hR⟩:=eX (Tr.raw g av)
 have hd4:(Tr.dW g av h nd).pa=nd.pa:=rfl;have hd7:(Tr.dW g av h nd).pr=Tr.prv (Tr.au g nd.pa) h:=rfl;have U3:(Tr.dW g av h nd).ne=Tr.nD (Tr.au g nd.pa) h:=rfl;have kP:=fun (W:World) (hb:Below w.heap.size w W)=>sU base B b s root 2 h live n g av fr vs vf nd W (hm.below hb) hS hw eg;rw[hr] at kP;obtain⟨dh,hdh⟩:=eX (Tr.dW g av h nd)
 rw[hdh] at er hd4 hd7 U3;obtain⟨pr,hpr⟩:=eX (Tr.prv (Tr.au g nd.pa) h)
 obtain⟨ne,hne⟩:=eX (Tr.nD (Tr.au g nd.pa) h)
 obtain⟨pa,hpa⟩:=eX (nd.pa)
 rw[hpa] at hpr hne;simp only[hpa,hpr,hne] at NG NH hd4 hd7 U3 hps XP hp ⊢;rw[hR] at hm hS er XP NG NH ⊢;rw[hr];have RO:=zh kP;clear kP hk hkz hkq hpr hne hpa hr hdh hR eg ep hw;obtain⟨dv,hv⟩:=some_or (R:=R) (c:=pr) (fun e=>(NG e).2);obtain⟨dn,hn⟩:=some_or (R:=R) (c:=ne) (fun e=>(NH e).2);obtain⟨R1,wN⟩:=eX (jG R pa pr ne)
 have hS1:Sound b s n R1 fr live:=by rw[←wN];exact hS.forth
 have F6:R1 h=some dh:=by rw[←wN,ND hps (fun e=>(NG e).1)];exact er
 obtain⟨d1p,F7⟩:∃ d,R1 pa=some d:=by rw[←wN];exact lU (by rw[XP];rfl)
 obtain⟨d1n,e1n⟩:=some_or (R:=R1) (c:=ne) (fun e=>by rw[←wN];exact lU (by rw[hn e];rfl));obtain⟨R2,hR2⟩:=eX (qL R1 pa ne pr)
 have OB:R2 h=some dh:=by rw[←hR2,Qs hps (fun e=>(NH e).1)];exact F6
 rw[wN,hR2];have HQ:=zh (And.intro NG NH);clear NG NH;have hc0:(pa == 0)=false:=by simpa using hp
 go_enter Tryz.func76,Tryz.ntmps76
 go_wp2_with fail;refine (gW base B b s root h live n _ fr vs vf dh _ hm hS er).mono ?_;rintro e w2 ⟨gb,o,rfl,hpt,hb2⟩;have hm2:=hm.below hb2;obtain⟨_,_,_,_,t4,_,_,_,_⟩:=(hm2.np hpt er).cells;rw[hd4] at t4;go_wp2_with fail;refine (RO.out w2 hb2).mono ?_;rintro e w3 ⟨rfl,hb3⟩;obtain⟨w4,hw4⟩:=eX (w3.alloc (.cells #[.int .i64 r.kind,.int .i64 r.target,.int .i64 r.node,.int .i64 r.prev,.int .i64 r.next,.int .i64 r.index,.string r.name,.string r.old,.bool r.had,.int .i64 r.count,.int .i64 r.size] 144))
 have hY:Whole w4 w3.heap.size #[.int .i64 r.kind,.int .i64 r.target,.int .i64 r.node,.int .i64 r.prev,.int .i64 r.next,.int .i64 r.index,.string r.name,.string r.old,.bool r.had,.int .i64 r.count,.int .i64 r.size] 144:=by rw[←hw4];exact Whole.new w3 _ _
 have Zx:Below w2.heap.size w2 w4:=by rw[←hw4];exact hb3.alloc hb3.size _
 have bU:Below w.heap.size w w4:=hb2.trans (Zx.mono hb2.size);have hbd:Below w.heap.size w w4.drew:=Below.drew bU;have oI:=hm.below hbd;have kS:∀ (W:World) (R':Int→Option Tr.Nd),TV base W B b s vs n R' vf fr live root→R' h=some dh→W.cell? ⟨gb,o+4,none⟩=some (.int .i64 pa)∧W.cell? ⟨gb,o+7,none⟩=some (.int .i64 pr)∧W.cell? ⟨gb,o+8,none⟩=some (.int .i64 ne):=fun W R' a c=>by
  obtain⟨_,_,_,_,a4,_,_,a7,a8⟩:=(a.np hpt c).cells;rw[hd4] at a4;rw[hd7] at a7;rw[U3] at a8;exact⟨a4,a7,a8⟩
 have hS0:w4.drew.cell? ⟨gb,o+4,none⟩=some (.int .i64 pa)∧w4.drew.cell? ⟨gb,o+7,none⟩=some (.int .i64 pr)∧w4.drew.cell? ⟨gb,o+8,none⟩=some (.int .i64 ne):=kS _ _ oI er;have kF:=D7 base B b s root pa pr live n R fr vs vf _ dv w4.drew oI hS XP hv;have HKF:=zh kF;have Te:=zh oI;have FJ:=zh hbd;have HER:=zh er;have HK:=zh kS;have HE1:=zh F6;have HE2:=zh OB;have HR1:=zh wN;have HR2:=zh hR2;have hgf:=(hm.lt gb hpt.foot).2;have hrl:w.heap.size≤w3.heap.size:=Nat.le_trans hb2.size hb3.size;have HF:=zh (fun (k:Nat) (hk:aD B vs vf k)=>(hm.lt k hk).2);clear hm hm2 oI kF kS er t4 F6 OB wN hR2 hd4 hd7 U3 Zx bU hbd;go_wp2_with fail;try rw[hw4]
 go_region_held3 (fun W=>W.cell? ⟨gb,o+4,none⟩=some (.int .i64 pa)∧W.cell? ⟨gb,o+7,none⟩=some (.int .i64 pr)∧W.cell? ⟨gb,o+8,none⟩=some (.int .i64 ne)) (first | exact hS0 | assumption) (first | (go_at_call 120;refine HKF.out.mono ?_;rintro e w5 ⟨g5,y5,rfl,hfp,hb5⟩;have Qq:=Te.out.below hb5;obtain⟨k5,z5⟩:=hfp.cell Qq XP hv;have hS5:=HK.out w5 R Qq HER.out;obtain⟨yg,st6⟩:=hfp.put Qq XP hv ne;obtain⟨w6,kZ⟩:=eX (w5.setCell ⟨g5,y5,none⟩ (.int .i64 ne));rw[kZ,HR1.out] at yg;rw[kZ] at st6;have UL:=HK.out w6 R1 yg HE1.out;have HM6:=zh yg;have abd:=zh ((aB.of_below (F:=aD B vs vf) hb5).trans st6);clear Qq yg st6 hfp))
 have Zy:Below w6.heap.size w6 w6.drew:=⟨rfl,rfl,rfl,Nat.le_refl _,fun _ _=>rfl⟩
 have Tf:=HM6.out.below Zy;have kB:=Bu base B b s root pa ne live n R1 fr vs vf d1p d1n w6.drew Tf hS1 F7 e1n;have HKB:=zh kB;have abe:=zh Tf;have abf:w6.drew.cell? ⟨gb,o+4,none⟩=some (.int .i64 pa)∧w6.drew.cell? ⟨gb,o+7,none⟩=some (.int .i64 pr)∧w6.drew.cell? ⟨gb,o+8,none⟩=some (.int .i64 ne):=HK.out _ _ Tf HE1.out;have HY:=zh hY;clear kB Tf UL hS0 hY;go_wp2_with fail
 go_region_held3 (fun W=>W.cell? ⟨gb,o+4,none⟩=some (.int .i64 pa)∧W.cell? ⟨gb,o+7,none⟩=some (.int .i64 pr)∧W.cell? ⟨gb,o+8,none⟩=some (.int .i64 ne)) (first | exact abf | assumption) (first | (go_at_call 121;refine HKB.out.mono ?_;rintro e w7 ⟨g7,y7,rfl,hbp,lq⟩;have qM:=abe.out.below lq;obtain⟨k7,z7⟩:=hbp.cell qM F7 e1n;have vg:=HK.out w7 R1 qM HE1.out;obtain⟨Sb,st8⟩:=hbp.put qM F7 e1n pr;obtain⟨w8,hw8⟩:=eX (w7.setCell ⟨g7,y7,none⟩ (.int .i64 pr));rw[hw8,HR2.out] at Sb;rw[hw8] at st8;have hS8:=HK.out w8 R2 Sb HE2.out;have HM8:=zh Sb;have abg:=zh ((aB.of_below (F:=aD B vs vf) lq).trans st8);clear qM Sb st8 hbp))
 have Qv:=HM8.out.np hpt HE2.out;obtain⟨_,_,_,_,v4,_,_,v7,v8⟩:=Qv.cells;have f4:=(Qv 4 (by omega)).2;have f7:=(Qv 7 (by omega)).2;have f8:=(Qv 8 (by omega)).2;obtain⟨w9,wO⟩:=eX ((((w8.setCell ⟨gb,o+4,none⟩ (.int .i64 0)).setCell ⟨gb,o+7,none⟩ (.int .i64 0)).setCell ⟨gb,o+8,none⟩ (.int .i64 0)))
 have uf:TV base w9 B b s vs n (Tr.upd R2 h fun n=>{ n with pa:=0,pr:=0,ne:=0 }) vf fr live root∧aB w8 w9 (aD B vs vf) (aD B vs vf):=by
  obtain⟨a1,s1⟩:=HM8.out.mI (j:=4) (v:=.int .i64 0) hpt HE2.out (fun n=>{ n with pa:=0 }) rfl (by omega) rfl;obtain⟨a2,s2⟩:=a1.mI (j:=7) (v:=.int .i64 0) hpt (Tr.kT HE2.out) (fun n=>{ n with pr:=0 }) rfl (by omega) rfl;obtain⟨a3,s3⟩:=a2.mI (j:=8) (v:=.int .i64 0) hpt (Tr.kT (Tr.kT HE2.out)) (fun n=>{ n with ne:=0 }) rfl (by omega) rfl;rw[zC,zC] at a3;rw[←wO];exact⟨a3,(s1.trans s2).trans s3⟩
 obtain⟨uf,xX⟩:=uf;have stA:aB w4 w9 (aD B vs vf) (aD B vs vf):=(aB.of_below (F:=aD B vs vf) (show Below w4.heap.size w4 w4.drew from⟨rfl,rfl,rfl,Nat.le_refl _,fun _ _=>rfl⟩)).trans (abd.out.trans ((aB.of_below (F:=aD B vs vf) Zy).trans (abg.out.trans xX)));have I9:=HY.out.turns stA.1 (fun hk=>by have:=HF.out _ hk;omega);have x0:w9.cell? ⟨w3.heap.size,0,none⟩=some (.int .i64 r.kind):=I9.cell 0;have x1:w9.cell? ⟨w3.heap.size,1,none⟩=some (.int .i64 r.target):=I9.cell 1;have x2:w9.cell? ⟨w3.heap.size,2,none⟩=some (.int .i64 r.node):=I9.cell 2;have x3:w9.cell? ⟨w3.heap.size,3,none⟩=some (.int .i64 r.prev):=I9.cell 3;have x4:w9.cell? ⟨w3.heap.size,4,none⟩=some (.int .i64 r.next):=I9.cell 4;have x5:w9.cell? ⟨w3.heap.size,5,none⟩=some (.int .i64 r.index):=I9.cell 5;have x6:w9.cell? ⟨w3.heap.size,6,none⟩=some (.string r.name):=I9.cell 6;have x7:w9.cell? ⟨w3.heap.size,7,none⟩=some (.string r.old):=I9.cell 7;have x8:w9.cell? ⟨w3.heap.size,8,none⟩=some (.bool r.had):=I9.cell 8;have x9:w9.cell? ⟨w3.heap.size,9,none⟩=some (.int .i64 r.count):=I9.cell 9;have x10:w9.cell? ⟨w3.heap.size,10,none⟩=some (.int .i64 r.size):=I9.cell 10;have bU:Below w.heap.size w w4:=FJ.out.trans ⟨rfl,rfl,rfl,Nat.le_refl _,fun _ _=>rfl⟩;have XF:aB w w9 (aD B vs vf) (aD B vs vf):=(aB.of_below (F:=aD B vs vf) bU).trans stA;have Cn:=XF.1.size;have hbl:=(Below.refl _ w9).alloc (Nat.le_refl _) (.cells #[.int .i64 r.kind,.int .i64 r.target,.int .i64 r.node,.int .i64 r.prev,.int .i64 r.next,.int .i64 r.index,.string r.name,.string r.old,.bool r.had,.int .i64 r.count,.int .i64 r.size] 144);have VQ:=zh (uf.below hbl);have Cm:=zh (XF.trans (.of_below hbl));have HRR:=zh (mU w9 r w.heap.size Cn);clear uf xX stA XF I9 Qv v4 v7 v8 bU hbl;go_wp2_with fail;(try rw[wO]);go_wp2_with fail
 go_ret
 exact⟨_,rfl,HRR.out,VQ.out,Cm.out⟩
end
section
open Go.RowKit Go.Shelf
attribute [local go_sem] Oper.semAt_some
theorem sS (B:Nat) (h:Int) (w:World):
  Calls Tryz.prog 101 #[.pointer (some ⟨B,0,none⟩),.int .i64 h] w fun e w'=>
   e=.returned (.func (.func 137) #[] #[.pointer (some ⟨w.heap.size,0,none⟩),.pointer (some ⟨w.heap.size+1,0,none⟩)])∧w'=(w.alloc (.cells #[.pointer (some ⟨B,0,none⟩)] 37)).alloc (.cells #[.int .i64 h] 3):=by
 go_enter Tryz.func101,Tryz.ntmps101
 go_wp2_with fail
 go_ret
 exact⟨rfl,rfl⟩
theorem zD (B:Nat) (h:Int) (w:World):
  Calls Tryz.prog 52 #[.pointer (some ⟨B,0,none⟩),.int .i64 h] w fun e w'=>
   e=.returned (.func (.func 103) #[] #[.pointer (some ⟨w.heap.size+1,0,none⟩),.pointer (some ⟨w.heap.size,0,none⟩)])∧w'=(w.alloc (.cells #[.pointer (some ⟨B,0,none⟩)] 37)).alloc (.cells #[.int .i64 h] 3):=by
 go_enter Tryz.func52,Tryz.ntmps52
 go_wp2_with fail
 go_ret
 exact⟨rfl,rfl⟩
structure Vu (KI:World→Prop) (B bt bh:Nat) (b s h:Int) (l:List Int):Prop where
 read:∀ W,KI W→∃ (base n live:Nat) (vs vf:Value) (R:Int→Option Tr.Nd) (fr:List Nat) (root:Int),TV base W B b s vs n R vf fr live root∧Sound b s n R fr live∧((R h).getD Tr.yX).fi=Tr.fs l∧∀ x∈l,∃ e,R x=some e∧e.ne=Tr.nD l x
 below:∀ W W',Below W.heap.size W W'→KI W→KI W'
 box:∀ W,KI W→W.cell? ⟨bt,0,none⟩=some (.pointer (some ⟨B,0,none⟩))∧W.cell? ⟨bh,0,none⟩=some (.int .i64 h)
theorem xG {l A C:List Int} {v:Int} (e:l=A++v::C) (hnd:l.Nodup) (h0:0∉l):Tr.nD l v=Tr.fs C∧l.idxOf v=A.length∧A.length+1≤l.idxOf (Tr.fs C):=by
 have hv:v∉A:=fun hm=>by rw[e] at hnd;exact (List.nodup_append.1 hnd).2.2 _ hm _ (by simp) rfl
 refine⟨by rw[e];exact Tr.gT hv,by rw[e];exact Tr.dU hv,?_⟩;cases C with
 | nil=>
  have:l.idxOf (0:Int)=l.length:=List.idxOf_eq_length h0;show _≤l.idxOf (0:Int);rw[this,e];simp
 | cons y r=>
  have e2:l=(A++[v])++y::r:=by rw[e];simp
  have hy:y∉A++[v]:=fun hm=>by rw[e2] at hnd;exact (List.nodup_append.1 hnd).2.2 _ hm _ (by simp) rfl
  show _≤l.idxOf y;rw[e2,Tr.dU hy];simp
theorem FY (KI:World→Prop) (B bt bh lp n:Nat) (b s h:Int) (l:List Int) (J Jx:List {x:Int // x∈l}→World→Prop) (W:World) (hK:Vu KI B bt bh b s h l) (hh:gI h) (hnd:l.Nodup) (h0l:0∉l) (hn:2≤n)
  (hJ:AbidesFrom W.heap.size J)
  (hY:∀ pre x W1,J pre W1→pre.length<l.length→YieldAt Fence.wide (n - 1) Tryz.prog lp #[.int .i64 x.1] W1 fun e W'=>(e=.returned (.bool true)∧J (pre++[x]) W'∧(KI W1→KI W'))∨(e=.returned (.bool false)∧Jx (pre++[x]) W'))
  (hKW:KI W) (h0:J [] W):
  CallsIn Fence.wide n Tryz.prog 137 #[.func (.yield lp) #[] #[],.pointer (some ⟨bt,0,none⟩),.pointer (some ⟨bh,0,none⟩)] W fun e W'=>(∃ v,e=.returned v)∧
   ((∃ xs,xs=l.attach∧J xs W')∨(∃ pre,pre <+: l.attach∧Jx pre W')):=by
 obtain⟨base,m,live,vs,vf,R,fr,root,hT,hS,hfi,hne⟩:=hK.read W hKW;obtain⟨c0,c1⟩:=hK.box W hKW;refine callsIn_of_wp Tryz.func137 rfl trivial ?_ rfl;simp only[Tryz.ntmps137,pT,Nat.reduceAdd,Nat.reduceSub]
 gi_wp2_with fail
 refine⟨trivial,fun _=>by omega,callsIn_wide.2 ((jX base B b s root h live m R fr vs vf W hT hS hh).mono ?_)⟩;rintro e w2 ⟨g,o,rfl,hnp,hb2⟩;obtain⟨_,_,_,_,_,t5,_,_,_⟩:=hnp.cells;rw[hfi] at t5;have abh:=hK.below W w2 hb2 hKW;have h02:J [] w2:=hJ [] W w2 none h0 (ay hb2 none) (fun r e=>by cases e);clear hT hS hfi hne hnp c0 c1
 gi_wp2_with fail
 gi_loopw [4] (fun k wr=>∃ pre rest:List {x:Int // x∈l},k=.int .i64 (Tr.fs (rest.map (·.1)))∧l.attach=pre++rest∧KI wr∧J pre wr) (fun k _=>l.length - l.idxOf (intOf k))
 case atStart=>exact⟨[],l.attach,by simp,rfl,abh,h02⟩
 case round=>
  obtain⟨pre,rest,rfl,hat,hKr,U4⟩:=hrel;have hmap:pre.map (·.1)++rest.map (·.1)=l:=by
   have:=congrArg (List.map (·.1)) hat;rw[List.map_append,List.attach_map_subtype_val] at this;exact this.symm
  obtain⟨q0,q1⟩:=hK.box wr hKr;cases rest with
  | nil=>
   have hat':l.attach=pre:=by rw[hat,List.append_nil]
   have HA:=zh hat';clear hat hat' hmap hY hnd
   gi_wp2_with fail
   go_end0
   exact⟨⟨_,rfl⟩,.inl ⟨pre,HA.out.symm,U4⟩⟩
  | cons x rest=>
   have hfs:Tr.fs ((x::rest).map (·.1))=x.1:=rfl;have hx0:x.1≠0:=fun e=>h0l (e▸x.2);have hc1:(x.1 != 0)=true:=by simpa using hx0
   have hlen:pre.length<l.length:=by
    have:=congrArg List.length hmap;simp at this;omega
   obtain⟨hnx,hidx,hidx2⟩:=xG (A:=pre.map (·.1)) (v:=x.1) (C:=rest.map (·.1)) hmap.symm hnd h0l;rw[List.length_map] at hidx hidx2;rw[hfs];obtain⟨fn,tmps,assign,body,hy,hR⟩:=hY pre x wr U4 hlen;have HAT:=zh hat;have Lj:=zh hnx;have Zz:=zh (And.intro hidx hidx2);have hxm:=x.2;clear hat hmap hY hfs hnx hidx hidx2
   gi_wp2_with fail
   refine⟨fun _=>by omega,hR.mono ?_⟩;rintro e w3 (⟨rfl,hJ3,hk3⟩ | ⟨rfl,hJx3⟩)
   ·have hK3:=hk3 hKr;obtain⟨base,m,live,vs,vf,R,fr,root,hT,hS,_,hne⟩:=hK.read w3 hK3;obtain⟨c0,c1⟩:=hK.box w3 hK3;obtain⟨d,ed,hdn⟩:=hne x.1 hxm;have hxi:=(bH hS (h:=x.1) (by rw[ed];rfl)).1
    gi_wp2_with fail
    refine⟨trivial,fun _=>by omega,callsIn_wide.2 ((jX base B b s root x.1 live m R fr vs vf w3 hT hS hxi).mono ?_)⟩;rintro e w4 ⟨g,o,rfl,hnp,hb4⟩;rw[ed] at hnp;obtain⟨_,_,_,_,_,_,_,_,t8⟩:=hnp.cells;have t8':w4.cell? ⟨g,o+8,none⟩=some (.int .i64 (Tr.fs (rest.map (·.1)))):=by rw[t8,←Lj.out,←hdn];rfl
    have hK4:=hK.below w3 w4 hb4 hK3;clear hT hS hne hnp t8 ed hdn
    gi_wp2_with fail
    go_roundw
    case rel=>
     exact⟨pre++[x],rest,rfl,by rw[HAT.out];simp,hK4,hJ _ w3 w4 none hJ3 (ay hb4 none) (fun r e=>by cases e)⟩
    case measure=>
     have:=Zz.out;show l.length - l.idxOf (Tr.fs (rest.map (·.1)))<l.length - l.idxOf x.1;omega
   ·gi_wp2_with fail
    refine bodyPost_ret (results_none rfl _ _ _) rfl ?_;exact⟨⟨_,rfl⟩,.inr ⟨_,⟨rest,by rw[HAT.out];simp⟩,hJx3⟩⟩
structure ZA (KI:World→Prop) (B bt bh:Nat) (b s h:Int) (l:List Int):Prop where
 read:∀ W,KI W→∃ (base n live:Nat) (vs vf:Value) (R:Int→Option Tr.Nd) (fr:List Nat) (root:Int),TV base W B b s vs n R vf fr live root∧Sound b s n R fr live∧(l=[]→R h=none)∧∀ x∈l,∃ e,R x=some e∧e.pa=Tr.nD l x
 below:∀ W W',Below W.heap.size W W'→KI W→KI W'
 box:∀ W,KI W→W.cell? ⟨bt,0,none⟩=some (.pointer (some ⟨B,0,none⟩))∧W.cell? ⟨bh,0,none⟩=some (.int .i64 h)
theorem WU (KI:World→Prop) (B bt bh lp n:Nat) (b s h:Int) (l:List Int) (J Jx:List {x:Int // x∈l}→World→Prop) (W:World) (hK:ZA KI B bt bh b s h l) (hh:gI h) (hhd:l≠[]→Tr.fs l=h) (hnd:l.Nodup) (h0l:0∉l) (hn:2≤n)
  (hJ:AbidesFrom W.heap.size J)
  (hY:∀ pre x W1,J pre W1→pre.length<l.length→YieldAt Fence.wide (n - 1) Tryz.prog lp #[.int .i64 x.1] W1 fun e W'=>(e=.returned (.bool true)∧J (pre++[x]) W'∧(KI W1→KI W'))∨(e=.returned (.bool false)∧Jx (pre++[x]) W'))
  (hKW:KI W) (h0:J [] W):
  CallsIn Fence.wide n Tryz.prog 103 #[.func (.yield lp) #[] #[],.pointer (some ⟨bh,0,none⟩),.pointer (some ⟨bt,0,none⟩)] W fun e W'=>(∃ v,e=.returned v)∧
   ((∃ xs,xs=l.attach∧J xs W')∨(∃ pre,pre <+: l.attach∧Jx pre W')):=by
 obtain⟨c0,c1⟩:=hK.box W hKW;refine callsIn_of_wp Tryz.func103 rfl trivial ?_ rfl;simp only[Tryz.ntmps103,pT,Nat.reduceAdd,Nat.reduceSub]
 gi_wp2_with fail
 gi_loopw [4] (fun k wr=>∃ (pre rest:List {x:Int // x∈l}) (y:Int),k=.int .i64 y∧(rest=[]→(l=[]∧y=h)∨y=0)∧(rest≠[]→y=Tr.fs (rest.map (·.1)))∧l.attach=pre++rest∧KI wr∧J pre wr) (fun k _=>l.length - l.idxOf (intOf k))
 case atStart=>
  refine⟨[],l.attach,h,rfl,fun e=>.inl ⟨by simpa using e,rfl⟩,fun e=>?_,rfl,hKW,h0⟩;rw[List.attach_map_subtype_val];exact (hhd (fun e'=>e (by simp[e']))).symm
 case round=>
  obtain⟨pre,rest,y,rfl,hr0,hr1,hat,hKr,U4⟩:=hrel;have hmap:pre.map (·.1)++rest.map (·.1)=l:=by
   have:=congrArg (List.map (·.1)) hat;rw[List.map_append,List.attach_map_subtype_val] at this;exact this.symm
  obtain⟨q0,q1⟩:=hK.box wr hKr;obtain⟨base,m,live,vs,vf,R,fr,root,hT,hS,hnone,hne⟩:=hK.read wr hKr;cases rest with
  | nil=>
   have hy:R y=none∧gI y:=by
    rcases hr0 rfl with ⟨e1,e2⟩ | e
    ·rw[e2];exact⟨hnone e1,hh⟩
    ·rw[e];exact⟨hS.zero (Int.le_refl 0),by constructor<;>omega⟩
   have hat':l.attach=pre:=by rw[hat,List.append_nil]
   have HA:=zh hat';have HH:=zh (wF base B b s root y live m R fr vs vf wr hT hS hy.2);have HY0:=zh hy.1;clear hat hat' hmap hY hnd hr0 hr1 hT hS hnone hne hy
   gi_wp2_with fail
   refine⟨trivial,fun _=>by omega,callsIn_wide.2 (HH.out.mono ?_)⟩;rintro e w4 ⟨rfl,hb4⟩;have WV:=hJ _ wr w4 none U4 (ay hb4 none) (fun r e=>by cases e);rw[HY0.out]
   gi_wp2_with fail
   go_end0
   exact⟨⟨_,rfl⟩,.inl ⟨pre,HA.out.symm,WV⟩⟩
  | cons x rest=>
   have hyx:y=x.1:=hr1 (by simp);subst hyx;have hlen:pre.length<l.length:=by
    have:=congrArg List.length hmap;simp at this;omega
   obtain⟨hnx,hidx,hidx2⟩:=xG (A:=pre.map (·.1)) (v:=x.1) (C:=rest.map (·.1)) hmap.symm hnd h0l;rw[List.length_map] at hidx hidx2;obtain⟨d,ed,hdn⟩:=hne x.1 x.2;have hxi:=(bH hS (h:=x.1) (by rw[ed];rfl)).1;have HH:=zh (wF base B b s root x.1 live m R fr vs vf wr hT hS hxi);have HAT:=zh hat;have Lj:=zh hnx;have Zz:=zh (And.intro hidx hidx2);have HED:=zh ed;have hxm:=x.2;clear hat hmap hnx hidx hidx2 hr0 hr1 hT hS hnone hne hdn ed
   gi_wp2_with fail
   refine⟨trivial,fun _=>by omega,callsIn_wide.2 (HH.out.mono ?_)⟩;rintro e w4 ⟨rfl,hb4⟩;have WV:=hJ _ wr w4 none U4 (ay hb4 none) (fun r e=>by cases e);have hK4:=hK.below wr w4 hb4 hKr;obtain⟨fn,tmps,assign,body,hy,hR⟩:=hY pre x w4 WV hlen;rw[HED.out];clear hY
   gi_wp2_with fail
   refine⟨fun _=>by omega,hR.mono ?_⟩;rintro e w3 (⟨rfl,hJ3,hk3⟩ | ⟨rfl,hJx3⟩)
   ·have hK3:=hk3 hK4;obtain⟨base,m,live,vs,vf,R,fr,root,hT,hS,_,hne⟩:=hK.read w3 hK3;obtain⟨c0,c1⟩:=hK.box w3 hK3;obtain⟨d,ed,hdn⟩:=hne x.1 hxm
    gi_wp2_with fail
    refine⟨trivial,fun _=>by omega,callsIn_wide.2 ((jX base B b s root x.1 live m R fr vs vf w3 hT hS hxi).mono ?_)⟩;rintro e w5 ⟨g,o,rfl,hnp,hb5⟩;rw[ed] at hnp;obtain⟨_,_,_,_,t4,_,_,_,_⟩:=hnp.cells;have t4':w5.cell? ⟨g,o+4,none⟩=some (.int .i64 (Tr.fs (rest.map (·.1)))):=by rw[t4,←Lj.out,←hdn];rfl
    have Vm:=hK.below w3 w5 hb5 hK3;clear hT hS hne hnp t4 ed hdn
    gi_wp2_with fail
    go_roundw
    case rel=>
     exact⟨pre++[x],rest,_,rfl,fun e=>.inr (by rw[e];rfl),fun _=>rfl,by rw[HAT.out];simp,Vm,hJ _ w3 w5 none hJ3 (ay hb5 none) (fun r e=>by cases e)⟩
    case measure=>
     have:=Zz.out;show l.length - l.idxOf (Tr.fs (rest.map (·.1)))<l.length - l.idxOf x.1;omega
   ·gi_wp2_with fail
    refine bodyPost_ret (results_none rfl _ _ _) rfl ?_;exact⟨⟨_,rfl⟩,.inr ⟨_,⟨rest,by rw[HAT.out];simp⟩,hJx3⟩⟩
end
section
open Go.RowKit Go.Shelf
theorem Cz (base B:Nat) (b s root x t:Int) (live n:Nat) (g:Tr.G) (av:Int→Tr.Sl) (fr:List Nat) (vs vf:Value) (nx:Tr.GN) (w:World) (hm:TV base w B b s vs n (Tr.raw g av) vf fr live root) (hS:Sound b s n (Tr.raw g av) fr live) (hw:Tr.WF 0 g) (ex:g x=some nx) (ht:t∈Tr.aS g x):
  Calls Tryz.prog 131 #[.pointer (some ⟨B,0,none⟩),.int .i64 x,.int .i64 t] w fun e w'=>e=.returned (.int .i64 (Tr.Hg g t x))∧Below w.heap.size w w':=by
 have hkx:=Tr.aH ex;have hki:∀ k∈Tr.au g x,(g k).isSome:=fun k hk=>by obtain⟨m,e,_⟩:=hw.dL hk;rw[e];rfl
 have hk0:0∉Tr.au g x:=hw.l8 x;by_cases hz:Tr.fs nx.kids=0
 ·have hke:Tr.au g x=[]:=Tr.tK hk0 (by rw[hkx];exact hz);have hr:Tr.Hg g t x=Tr.fs (Tr.rest g t (Tr.aS g x)):=by unfold Tr.Hg;rw[hke];rfl
  obtain⟨X,hX⟩:=eX (Tr.Hg g t x)
  rw[hX] at hr ⊢;have hgt:(g t).isSome:=(hw.cu x).1.mem ht;have ht0:t≠0:=fun e=>by rw[e,hw.zero] at hgt;cases hgt
  have HR:=zh hr;have HT:=zh ht;clear hr hX ht hke hki hk0 hkx
  go_enter Tryz.func131,Tryz.ntmps131
  go_wp2_with fail;refine (gW base B b s root x live n _ fr vs vf (Tr.dW g av x nx) w hm hS (Tr.aj ex)).mono ?_;rintro e w2 ⟨gb,o,rfl,hpt,hb2⟩;obtain⟨_,_,_,_,_,t5,_,_,_⟩:=((hm.below hb2).np hpt (Tr.aj ex)).cells;have t5':w2.cell? ⟨gb,o+5,none⟩=some (.int .i64 0):=by rw[t5,←hz];rfl
  have HE:=zh ex;clear t5 hz ex hpt;go_wp2_with fail
  go_loopw [1,8] (fun hv nv wr=>∃ (y:Int) (l:List Int),hv=.int .i64 y∧Tr.Up g y l∧t∈l∧X=Tr.fs (Tr.rest g t l)∧Below w.heap.size w wr) (fun hv _ _=>(Tr.aS g (intOf hv)).length)
  case atStart=>exact⟨x,Tr.aS g x,rfl,(hw.cu x).1,HT.out,HR.out,hb2⟩
  case round=>
   obtain⟨y,l,rfl,hu,htl,hX,hbr⟩:=hrel;have hlu:=hw.gU hu;cases hu with
   | out e=>cases htl
   | @node _ m l e hu=>
    by_cases U5:y=t
    ·have hX0:X=0:=by rw[hX,U5,Tr.Bf];rfl
     have HX:=zh hX0;subst U5;have hq:(y != y)=false:=by simp
     clear hX hX0 htl hu hlu;go_wp2_with fail
     go_ret
     exact⟨kD HX.out.symm,hbr⟩
    ·have hy0:y≠0:=fun e1=>by rw[e1,hw.zero] at e;cases e
     have hq1:(y != t)=true:=by simpa using U5
     have hq2:(y != 0)=true:=by simpa using hy0
     have hst:=hw.rest_step e U5 l;rw[←hX] at hst;have ZB:t∈l:=by rcases List.mem_cons.1 htl with e1 | e1;exact absurd e1.symm U5;exact e1
     have hmr:=hm.below hbr;have HST:=zh hst;have HE2:=zh e;have HTL:=zh ZB;have HLU:=zh hlu;have HUU:=zh hu;clear hX hst htl ZB hlu hu e;go_wp2_with fail;refine (gW base B b s root y live n _ fr vs vf (Tr.dW g av y m) wr hmr hS (Tr.aj HE2.out)).mono ?_;rintro e w4 ⟨gb4,o4,rfl,ZC,hb4⟩;obtain⟨_,_,_,_,t4,_,_,_,t8⟩:=((hmr.below hb4).np ZC (Tr.aj HE2.out)).cells;have t4':w4.cell? ⟨gb4,o4+4,none⟩=some (.int .i64 m.pa):=t4;have t8':w4.cell? ⟨gb4,o4+8,none⟩=some (.int .i64 (Tr.nD (Tr.au g m.pa) y)):=t8;have hb5:Below w.heap.size w w4:=hbr.trans (hb4.mono hbr.size);obtain⟨N,hN⟩:=eX (Tr.nD (Tr.au g m.pa) y)
     rw[hN] at t8';have HN:=zh hN;clear t4 t8 hN hmr ZC;by_cases hnz:N=0
     ·have hX2:X=Tr.fs (Tr.rest g t l):=by rw[HST.out,HN.out,if_pos hnz]
      subst hnz;have gG:=zh hX2;clear hX2;go_wp2_with fail
      go_roundw
      case rel=>exact⟨m.pa,l,rfl,HUU.out,HTL.out,gG.out,hb5⟩
      case measure=>
       show (Tr.aS g m.pa).length<(Tr.aS g y).length;rw[hw.aT HE2.out];simp
     ·have hX2:X=N:=by rw[HST.out,HN.out,if_neg hnz]
      have hq3:(N != 0)=true:=by simpa using hnz
      have gG:=zh hX2;clear hX2;go_wp2_with fail
      go_ret
      exact⟨kD gG.out.symm,hb5⟩
 ·have hr:Tr.Hg g t x=Tr.fs nx.kids:=by
   unfold Tr.Hg;rw[Tr.LW hw _ hki,if_neg (fun e=>hz (by rw[←hkx,e];rfl)),hkx]
  rw[hr];have hq:(Tr.fs nx.kids != 0)=true:=by simpa using hz
  clear ht hkx hki hk0 hr
  go_enter Tryz.func131,Tryz.ntmps131
  go_wp2_with fail;refine (gW base B b s root x live n _ fr vs vf (Tr.dW g av x nx) w hm hS (Tr.aj ex)).mono ?_;rintro e w2 ⟨gb,o,rfl,hpt,hb2⟩;obtain⟨_,_,_,_,_,t5,_,_,_⟩:=((hm.below hb2).np hpt (Tr.aj ex)).cells;have t5':w2.cell? ⟨gb,o+5,none⟩=some (.int .i64 (Tr.fs nx.kids)):=t5;clear t5 hm hS hpt;go_wp2_with fail
  go_ret
  exact⟨rfl,hb2⟩
end
section
open Go.RowKit Go.Shelf
attribute [local go_sem] Oper.semAt_some
theorem wQ (B:Nat) (h:Int) (w:World):
  Calls Tryz.prog 95 #[.pointer (some ⟨B,0,none⟩),.int .i64 h] w fun e w'=>
   e=.returned (.func (.func 130) #[] #[.pointer (some ⟨w.heap.size,0,none⟩),.pointer (some ⟨w.heap.size+1,0,none⟩)])∧w'=(w.alloc (.cells #[.pointer (some ⟨B,0,none⟩)] 37)).alloc (.cells #[.int .i64 h] 3):=by
 go_enter Tryz.func95,Tryz.ntmps95
 go_wp2_with fail
 go_ret
 exact⟨rfl,rfl⟩
structure ZE (KI:World→Prop) (B bt bh:Nat) (b s h:Int) (g:Tr.G):Prop where
 read:∀ W,KI W→∃ (base n live:Nat) (vs vf:Value) (av:Int→Tr.Sl) (fr:List Nat) (root:Int),TV base W B b s vs n (Tr.raw g av) vf fr live root∧Sound b s n (Tr.raw g av) fr live
 below:∀ W W',Below W.heap.size W W'→KI W→KI W'
 box:∀ W,KI W→W.cell? ⟨bt,0,none⟩=some (.pointer (some ⟨B,0,none⟩))∧W.cell? ⟨bh,0,none⟩=some (.int .i64 h)
theorem Qw (KI:World→Prop) (B bt bh lp n:Nat) (b s h:Int) (g:Tr.G) (hw:Tr.WF 0 g) (J Jx:List {x:Int // x∈Tr.ak g h}→World→Prop) (W:World) (hK:ZE KI B bt bh b s h g) (hh:gI h) (hn:2≤n)
  (hJ:AbidesFrom W.heap.size J)
  (hY:∀ pre x W1,J pre W1→pre.length<(Tr.ak g h).length→YieldAt Fence.wide (n - 1) Tryz.prog lp #[.int .i64 x.1] W1 fun e W'=>(e=.returned (.bool true)∧J (pre++[x]) W'∧(KI W1→KI W'))∨(e=.returned (.bool false)∧Jx (pre++[x]) W'))
  (hKW:KI W) (h0:J [] W):
  CallsIn Fence.wide n Tryz.prog 130 #[.func (.yield lp) #[] #[],.pointer (some ⟨bt,0,none⟩),.pointer (some ⟨bh,0,none⟩)] W fun e W'=>(∃ v,e=.returned v)∧
   ((∃ xs,xs=(Tr.ak g h).attach∧J xs W')∨(∃ pre,pre <+: (Tr.ak g h).attach∧Jx pre W')):=by
 obtain⟨c0,c1⟩:=hK.box W hKW;obtain⟨base,m,live,vs,vf,av,fr,root,hT,hS⟩:=hK.read W hKW;have HH:=zh (wF base B b s root h live m _ fr vs vf W hT hS hh);obtain⟨l,hl⟩:=eX (Tr.ak g h)
 cases eg:g h with
 | none=>
  have hnil:Tr.ak g h=[]:=Tr.jU eg;have hraw:=Tr.bF (av:=av) eg;have HAT:=zh (show ([]:List {x:Int // x∈Tr.ak g h})=(Tr.ak g h).attach by
   symm;exact List.eq_nil_of_length_eq_zero (by rw[List.length_attach,hnil];rfl))
  have WW:=zh hraw;clear hT hS hY hl hnil hraw;refine callsIn_of_wp Tryz.func130 rfl trivial ?_ rfl;simp only[Tryz.ntmps130,pT,Nat.reduceAdd,Nat.reduceSub]
  gi_wp2_with fail
  refine⟨trivial,fun _=>by omega,callsIn_wide.2 (HH.out.mono ?_)⟩;rintro e w4 ⟨rfl,hb4⟩;have WV:=hJ _ W w4 none h0 (ay hb4 none) (fun r e=>by cases e);rw[WW.out]
  gi_wp2_with fail
  refine bodyPost_ret (results_none rfl _ _ _) rfl ?_;exact⟨⟨_,rfl⟩,.inl ⟨[],HAT.out,WV⟩⟩
 | some nh=>
  have hraw:=Tr.aj (av:=av) eg;have hw1:=hw.bR eg;have hz:h≠0:=fun e=>by rw[e,hw.zero] at eg;cases eg
  have ZF:=hw.jV h;have h0w:=hw.xB h;have WW:=zh hraw;clear hT hS hl hraw;refine callsIn_of_wp Tryz.func130 rfl trivial ?_ rfl;simp only[Tryz.ntmps130,pT,Nat.reduceAdd,Nat.reduceSub]
  gi_wp2_with fail
  refine⟨trivial,fun _=>by omega,callsIn_wide.2 (HH.out.mono ?_)⟩;rintro e w4 ⟨rfl,hb4⟩;have WV:=hJ _ W w4 none h0 (ay hb4 none) (fun r e=>by cases e);have hK4:=hK.below W w4 hb4 hKW;rw[WW.out];obtain⟨d0,d1⟩:=hK.box w4 hK4;clear c0 c1
  gi_wp2_with fail
  gi_loopw [4] (fun k wr=>∃ pre rest:List {x:Int // x∈Tr.ak g h},k=.int .i64 (Tr.fs (rest.map (·.1)))∧(Tr.ak g h).attach=pre++rest∧(∀ y r,rest.map (·.1)=y::r→(g y).isSome∧h∈Tr.aS g y∧r=(Tr.au g y).flatMap (Tr.ak g)++Tr.rest g h (Tr.aS g y))∧KI wr∧J pre wr) (fun k _=>(Tr.ak g h).length - (Tr.ak g h).idxOf (intOf k))
  case atStart=>
   refine⟨[],(Tr.ak g h).attach,by rw[List.attach_map_subtype_val,hw1];rfl,rfl,fun y r e=>?_,hK4,WV⟩;rw[List.attach_map_subtype_val,hw1] at e;injection e with e1 e2;subst e1;refine⟨by rw[eg];rfl,by rw[hw.aT eg];simp,?_⟩;rw[hw.aT eg,Tr.Bf,List.append_nil,Tr.aH eg];exact e2.symm
  case round=>
   obtain⟨pre,rest,rfl,hat,hst,hKr,U4⟩:=hrel;have hmap:pre.map (·.1)++rest.map (·.1)=Tr.ak g h:=by
    have:=congrArg (List.map (·.1)) hat;rw[List.map_append,List.attach_map_subtype_val] at this;exact this.symm
   obtain⟨q0,q1⟩:=hK.box wr hKr;cases rest with
   | nil=>
    have hat':(Tr.ak g h).attach=pre:=by rw[hat,List.append_nil]
    have HA:=zh hat';clear hat hat' hmap hY ZF hst hw1 h0w
    gi_wp2_with fail
    go_end0
    exact⟨⟨_,rfl⟩,.inl ⟨pre,HA.out.symm,U4⟩⟩
   | cons x rest=>
    have hfs:Tr.fs ((x::rest).map (·.1))=x.1:=rfl;have hx0:x.1≠0:=fun e=>h0w (e▸x.2);have hc1:(x.1 != 0)=true:=by simpa using hx0
    have hlen:pre.length<(Tr.ak g h).length:=by
     have:=congrArg List.length hmap;simp at this;omega
    obtain⟨_,hidx,hidx2⟩:=xG (A:=pre.map (·.1)) (v:=x.1) (C:=rest.map (·.1)) hmap.symm ZF h0w;rw[List.length_map] at hidx hidx2;obtain⟨hgx,hux,hrx⟩:=hst x.1 (rest.map (·.1)) rfl;obtain⟨nx,ex⟩:=Option.isSome_iff_exists.1 hgx;have ZG:Tr.Hg g h x.1=Tr.fs (rest.map (·.1)):=by unfold Tr.Hg;rw[←hrx]
    have ZH:∀ y r,rest.map (·.1)=y::r→(g y).isSome∧h∈Tr.aS g y∧r=(Tr.au g y).flatMap (Tr.ak g)++Tr.rest g h (Tr.aS g y):=fun y r e=>hw.Qe hux (hrx.symm.trans e);rw[hfs];obtain⟨fn,tmps,assign,body,hy,hR⟩:=hY pre x wr U4 hlen;have HAT:=zh hat;have Zz:=zh (And.intro hidx hidx2);have abj:=zh ZG;have abk:=zh ZH;have HUX:=zh hux;have HEX:=zh ex;clear hat hmap hY hfs hidx hidx2 hst hgx hux hrx ZG ZH hw1 ex
    gi_wp2_with fail
    refine⟨fun _=>by omega,hR.mono ?_⟩;rintro e w3 (⟨rfl,hJ3,hk3⟩ | ⟨rfl,hJx3⟩)
    ·have hK3:=hk3 hKr;obtain⟨base,m,live,vs,vf,av,fr,root,hT,hS⟩:=hK.read w3 hK3;obtain⟨c0,c1⟩:=hK.box w3 hK3;have HF:=zh (Cz base B b s root x.1 h live m g av fr vs vf nx w3 hT hS hw HEX.out HUX.out);clear hT hS
     gi_wp2_with fail
     refine⟨trivial,fun _=>by omega,callsIn_wide.2 (HF.out.mono ?_)⟩;rintro e w5 ⟨rfl,hb5⟩;have Vm:=hK.below w3 w5 hb5 hK3;rw[abj.out]
     gi_wp2_with fail
     go_roundw
     case rel=>
      exact⟨pre++[x],rest,rfl,by rw[HAT.out];simp,abk.out,Vm,hJ _ w3 w5 none hJ3 (ay hb5 none) (fun r e=>by cases e)⟩
     case measure=>
      have:=Zz.out;show (Tr.ak g h).length - (Tr.ak g h).idxOf (Tr.fs (rest.map (·.1)))<(Tr.ak g h).length - (Tr.ak g h).idxOf x.1;omega
    ·gi_wp2_with fail
     refine bodyPost_ret (results_none rfl _ _ _) rfl ?_;exact⟨⟨_,rfl⟩,.inr ⟨_,⟨rest,by rw[HAT.out];simp⟩,hJx3⟩⟩
end
section
open Go.RowKit Go.Shelf
attribute [local go_sem] Oper.semAt_some
structure LS (base B bt bh:Nat) (b s h:Int) (vs:Value) (n:Nat) (R:Int→Option Tr.Nd) (vf:Value) (fr:List Nat) (live:Nat) (root:Int) (W:World):Prop where
 tree:TV base W B b s vs n R vf fr live root
 bt:Whole W bt #[.pointer (some ⟨B,0,none⟩)] 37
 bh:Whole W bh #[.int .i64 h] 3
section
variable {base B bt bh n live:Nat} {b s h root:Int} {vs vf:Value} {R:Int→Option Tr.Nd} {fr:List Nat} {W W':World}
theorem LS.below (H:LS base B bt bh b s h vs n R vf fr live root W) (hb:Below W.heap.size W W'):LS base B bt bh b s h vs n R vf fr live root W':=
 ⟨H.tree.below hb,H.bt.below hb H.bt.lt,H.bh.below hb H.bh.lt⟩
theorem TV.others {row:Option Nat} (H:TV base W B b s vs n R vf fr live root) (hg:W.grownBy W' row) (hr:∀ r,row=some r→∃ o:Obj,W.heap[r]?=some o∧o.isCells=false):TV base W' B b s vs n R vf fr live root:=by
 refine H.turns (S:=fun k=>row=some k) (.aU hg (fun k hk=>hk)) ?_;intro k hk e;obtain⟨o,ho,hc⟩:=hr k e;have hcell:∃ cs t fz,W.heap[k]?=some (.cells cs t fz):=by
  rcases hk with rfl | hk | hk
  ·exact⟨_,_,_,H.var⟩
  ·rcases H.row.2 with ⟨e1,_⟩ | ⟨g',cap,cur,e1,_,hg',_⟩
   ·rw[e1] at hk;simp[Value.ownBlock] at hk
   ·rw[e1] at hk;have:g'=k:=by simpa [Value.ownBlock] using hk
    rw[←this];exact⟨_,_,_,hg'⟩
  ·rcases H.free.2 with ⟨e1,_⟩ | ⟨g',cap,cur,e1,_,hg',_⟩
   ·rw[e1] at hk;simp[Value.ownBlock] at hk
   ·rw[e1] at hk;have:g'=k:=by simpa [Value.ownBlock] using hk
    rw[←this];exact⟨_,_,_,hg'⟩
 obtain⟨cs,t,fz,hx⟩:=hcell;rw[hx] at ho;obtain rfl:=Option.some.inj ho;cases hc
theorem bg {row:Option Nat} {k:Nat} {cs:Array Value} {t:TypeId} (H:Whole W k cs t) (hg:W.grownBy W' row) (hr:∀ r,row=some r→∃ o:Obj,W.heap[r]?=some o∧o.isCells=false):Whole W' k cs t:=
 H.grown hg (fun e=>by
  obtain⟨o,ho,hc⟩:=hr k e.symm;rw[show W.heap[k]?=_ from H] at ho;obtain rfl:=Option.some.inj ho
  cases hc)
theorem LS.others {row:Option Nat} (H:LS base B bt bh b s h vs n R vf fr live root W) (hg:W.grownBy W' row) (hr:∀ r,row=some r→∃ o:Obj,W.heap[r]?=some o∧o.isCells=false):LS base B bt bh b s h vs n R vf fr live root W':=
 ⟨H.tree.others hg hr,bg H.bt hg hr,bg H.bh hg hr⟩
theorem LS.set (H:LS base B bt bh b s h vs n R vf fr live root W) {m:Nat} (hm:¬ aD B vs vf m) (h1:m≠bt) (h2:m≠bh) (i:Nat) (v:Value):LS base B bt bh b s h vs n R vf fr live root (W.setCell ⟨m,i,none⟩ v):=
 ⟨H.tree.turns (S:=fun k=>k=m) (.aU (aJ (ay (Below.refl W.heap.size W) (some m)) i v) (fun j hj=>by simpa using hj.symm)) (fun k hk e=>hm (e▸hk)),H.bt.other (fun e=>h1 e.symm) _,H.bh.other (fun e=>h2 e.symm) _⟩
theorem LS.qW {P:World→Prop} {A B C:World} (h1:P A→P B) (h2:P B→P C):P A→P C:=fun x=>h2 (h1 x)
theorem LS.uq (w:World):∀ (W:World) (l:Nat) (o o':Obj),w.heap.size≤l→W.heap[l]?=some o→o.isCells=false→o.isWalk=false→LS base B bt bh b s h vs n R vf fr live root W→LS base B bt bh b s h vs n R vf fr live root (W.putObj l o'):=
 fun W l o o' _ hl hc _ H=>H.others (grownBy_putObj' W l o') (fun r e=>by cases e;exact⟨o,hl,hc⟩)
theorem zW {W W':World} (h:Below W.heap.size W W'):KeepsOthers W W':=⟨h.size,fun k o hk _=>(h.block k (Array.getElem?_eq_some_iff.1 hk).1).trans hk⟩
theorem LS.kids {g:Tr.G} {av:Int→Tr.Sl} (hS:Sound b s n (Tr.raw g av) fr live) (hw:Tr.WF 0 g):Vu (LS base B bt bh b s h vs n (Tr.raw g av) vf fr live root) B bt bh b s h (Tr.au g h) where
 read W H:=by
  refine⟨base,n,live,vs,vf,Tr.raw g av,fr,root,H.tree,hS,?_,fun x hx=>?_⟩
  ·cases e:g h with
   | none=>rw[Tr.bF e,Tr.gH e];rfl
   | some m=>rw[Tr.aj e,Tr.aH e];rfl
  ·obtain⟨m,e1,e2⟩:=hw.dL hx;refine⟨_,Tr.aj e1,?_⟩;show Tr.nD (Tr.au g m.pa) x=_;rw[e2]
 below W W' hb H:=H.below hb
 box W H:=⟨H.bt.cell 0,H.bh.cell 0⟩
theorem Tg {g:Tr.G} (hw:Tr.WF 0 g):∀ (l:List Int) (x:Int),Tr.Up g x l→∀ y∈l,∃ m,g y=some m∧m.pa=Tr.nD l y:=by
 intro l
 induction l with
 | nil=>intro x _ y hy;cases hy
 | cons a r ih=>
  intro x u y hy;cases u with
  | @node _ m _ e u=>
   rcases List.mem_cons.1 hy with rfl | hy
   ·refine⟨m,e,?_⟩;rw[Tr.nD,if_pos rfl];cases u with
    | out e'=>
     rcases hw.pa e with h1 | ⟨p,h1,_⟩
     ·exact h1
     ·rw[e'] at h1;cases h1
    | node _ _=>rfl
   ·obtain⟨m',h1,h2⟩:=ih _ u y hy;refine⟨m',h1,?_⟩;rw[Tr.nD,if_neg]
    ·exact h2
    ·rintro rfl;exact hw.above e u hy
theorem LS.up {g:Tr.G} {av:Int→Tr.Sl} (hS:Sound b s n (Tr.raw g av) fr live) (hw:Tr.WF 0 g):ZA (LS base B bt bh b s h vs n (Tr.raw g av) vf fr live root) B bt bh b s h (Tr.aS g h) where
 read W H:=by
  refine⟨base,n,live,vs,vf,Tr.raw g av,fr,root,H.tree,hS,fun e=>?_,fun x hx=>?_⟩
  ·cases e1:g h with
   | none=>exact Tr.bF e1
   | some m=>rw[hw.aT e1] at e;cases e
  ·obtain⟨m,e1,e2⟩:=Tg hw _ _ (hw.cu h).1 x hx;exact⟨_,Tr.aj e1,e2⟩
 below W W' hb H:=H.below hb
 box W H:=⟨H.bt.cell 0,H.bh.cell 0⟩
theorem LS.walk {g:Tr.G} {av:Int→Tr.Sl} (hS:Sound b s n (Tr.raw g av) fr live):ZE (LS base B bt bh b s h vs n (Tr.raw g av) vf fr live root) B bt bh b s h g where
 read W H:=⟨base,n,live,vs,vf,av,fr,root,H.tree,hS⟩
 below W W' hb H:=H.below hb
 box W H:=⟨H.bt.cell 0,H.bh.cell 0⟩
theorem zF {g:Tr.G} (hw:Tr.WF 0 g) (h:Int):Tr.aS g h≠[]→Tr.fs (Tr.aS g h)=h:=fun e=>by
 cases eg:g h with
 | none=>rw[hw.jI eg] at e;exact absurd rfl e
 | some m=>rw[hw.aT eg];rfl
theorem Ti {g:Tr.G} (hw:Tr.WF 0 g) (h:Int):0∉Tr.aS g h:=fun e=>by
 have:=(hw.cu h).1.mem e;rw[hw.zero] at this;cases this
theorem Fu {g:Tr.G} {av:Int→Tr.Sl} (hS:Sound b s n (Tr.raw g av) fr live) (hw:Tr.WF 0 g) (hh:gI h) (k:Nat) (hk:2≤k) (w:World) (H:LS base B bt bh b s h vs n (Tr.raw g av) vf fr live root w):
  SeqStopsK Fence.wide k Tryz.prog 103 #[.pointer (some ⟨bh,0,none⟩),.pointer (some ⟨bt,0,none⟩)] (fun x:{x:Int // x∈Tr.aS g h}=>#[.int .i64 x.1])
   (fun A B'=>LS base B bt bh b s h vs n (Tr.raw g av) vf fr live root A→LS base B bt bh b s h vs n (Tr.raw g av) vf fr live root B') (fun xs=>xs=(Tr.aS g h).attach) (fun pre=>pre <+: (Tr.aS g h).attach) (Tr.aS g h).length w:=
 fun l J Jx W hW hJ _ hY h0=>WU _ B bt bh l k b s h (Tr.aS g h) J Jx W (LS.up hS hw) hh (zF hw h) (hw.Bd h) (Ti hw h) hk hJ hY (H.below hW) h0
theorem Bw {g:Tr.G} {av:Int→Tr.Sl} (hS:Sound b s n (Tr.raw g av) fr live) (hw:Tr.WF 0 g) (hh:gI h) (k:Nat) (hk:2≤k) (w:World) (H:LS base B bt bh b s h vs n (Tr.raw g av) vf fr live root w):
  SeqStopsK Fence.wide k Tryz.prog 137 #[.pointer (some ⟨bt,0,none⟩),.pointer (some ⟨bh,0,none⟩)] (fun x:{x:Int // x∈Tr.au g h}=>#[.int .i64 x.1])
   (fun A B'=>LS base B bt bh b s h vs n (Tr.raw g av) vf fr live root A→LS base B bt bh b s h vs n (Tr.raw g av) vf fr live root B') (fun xs=>xs=(Tr.au g h).attach) (fun pre=>pre <+: (Tr.au g h).attach) (Tr.au g h).length w:=
 fun l J Jx W hW hJ _ hY h0=>FY _ B bt bh l k b s h (Tr.au g h) J Jx W (LS.kids hS hw) hh (hw.jr h) (hw.l8 h) hk hJ hY (H.below hW) h0
theorem zN {g:Tr.G} {av:Int→Tr.Sl} (hS:Sound b s n (Tr.raw g av) fr live) (hw:Tr.WF 0 g) (hh:gI h) (k:Nat) (hk:2≤k) (w:World) (H:LS base B bt bh b s h vs n (Tr.raw g av) vf fr live root w):
  SeqStopsK Fence.wide k Tryz.prog 130 #[.pointer (some ⟨bt,0,none⟩),.pointer (some ⟨bh,0,none⟩)] (fun x:{x:Int // x∈Tr.ak g h}=>#[.int .i64 x.1])
   (fun A B'=>LS base B bt bh b s h vs n (Tr.raw g av) vf fr live root A→LS base B bt bh b s h vs n (Tr.raw g av) vf fr live root B') (fun xs=>xs=(Tr.ak g h).attach) (fun pre=>pre <+: (Tr.ak g h).attach) (Tr.ak g h).length w:=
 fun l J Jx W hW hJ _ hY h0=>Qw _ B bt bh l k b s h g hw J Jx W (LS.walk hS) hh hk hJ hY (H.below hW) h0
theorem LS.made {w:World} (H:TV base w B b s vs n R vf fr live root):LS base B w.heap.size (w.heap.size+1) b s h vs n R vf fr live root ((w.alloc (.cells #[.pointer (some ⟨B,0,none⟩)] 37)).alloc (.cells #[.int .i64 h] 3)):=by
 refine⟨H.below (((Below.refl _ w).alloc (Nat.le_refl _) _).alloc (by simp) _),(Whole.new w _ _).alloc _,?_⟩;have:=Whole.new (w.alloc (.cells #[.pointer (some ⟨B,0,none⟩)] 37)) #[.int .i64 h] 3
 rwa [World.size_alloc] at this
end
end
section
section
open Go.RowKit Go.Shelf
attribute [local go_sem] Oper.semAt_some
namespace Tr
def kindOf (g:G) (h:Int):Int:=match g h with | some n=>n.kind | none=>0
theorem eG {g:G} {h:Int} {n:GN} (e:g h=some n):kindOf g h=n.kind:=by unfold kindOf;rw[e]
def kU (g:G) (p h:Int):Bool:=(au g p).any fun k=>k != h && kindOf g k == 2
end Tr
theorem NI (base B:Nat) (b s root p h:Int) (live n:Nat) (g:Tr.G) (av:Int→Tr.Sl) (fr:List Nat) (vs vf:Value) (w:World) (hm:TV base w B b s vs n (Tr.raw g av) vf fr live root) (hS:Sound b s n (Tr.raw g av) fr live) (hw:Tr.WF 0 g) (hp:gI p):
  Calls Tryz.prog 119 #[.pointer (some ⟨B,0,none⟩),.int .i64 p,.int .i64 h] w fun e w'=>e=.returned (.bool (Tr.kU g p h))∧Below w.heap.size w w':=by
 have hlt:=hm.lt;refine (callsIn_wide (n:=8)).1 ?_;refine callsIn_of_wp_marks Tryz.func119 rfl trivial ?_ rfl;simp only[Tryz.ntmps119,pT,Nat.reduceAdd,Nat.reduceSub];obtain⟨w1,hw1⟩:=eX (((w.alloc (.cells #[.pointer (some ⟨B,0,none⟩)] 37)).alloc (.cells #[.int .i64 h] 3)).alloc (.cells #[.bool false] 4))
 have hz1:w1.heap.size=w.heap.size+3:=by rw[←hw1];simp
 have hb1:Below w.heap.size w w1:=by rw[←hw1];exact (((Below.refl _ w).alloc (Nat.le_refl _) _).alloc (by simp) _).alloc (by simp;omega) _
 have hT1:Whole w1 w.heap.size #[.pointer (some ⟨B,0,none⟩)] 37:=by rw[←hw1];exact ((Whole.new w _ _).alloc _).alloc _
 have hA1:Whole w1 (w.heap.size+1) #[.int .i64 h] 3:=by
  have:=(Whole.new (w.alloc (.cells #[.pointer (some ⟨B,0,none⟩)] 37)) #[.int .i64 h] 3).alloc (.cells #[.bool false] 4);rw[World.size_alloc] at this;rw[←hw1];exact this
 have hX1:Whole w1 (w.heap.size+1+1) #[.bool false] 4:=by
  have:=Whole.new ((w.alloc (.cells #[.pointer (some ⟨B,0,none⟩)] 37)).alloc (.cells #[.int .i64 h] 3)) #[.bool false] 4;rw[World.size_alloc,World.size_alloc] at this;rw[←hw1];exact this
 have hL:=LS.made (h:=p) (hm.below hb1);have hsz2:((w1.alloc (.cells #[.pointer (some ⟨B,0,none⟩)] 37)).alloc (.cells #[.int .i64 p] 3)).heap.size=w1.heap.size+2:=by simp
 have hb2:Below w1.heap.size w1 ((w1.alloc (.cells #[.pointer (some ⟨B,0,none⟩)] 37)).alloc (.cells #[.int .i64 p] 3)):=((Below.refl _ w1).alloc (Nat.le_refl _) _).alloc (by simp) _;have hseq:=Bw hS hw hp 7 (by omega) _ hL;have zO:=zh (sS B p w1);have t1:w1.cell? ⟨w.heap.size,0,none⟩=some (.pointer (some ⟨B,0,none⟩)):=hT1.cell 0
 gi_wp2_with fail
 try rw[hw1]
 gi_wp2_with fail
 refine⟨trivial,(callsIn_wide.2 zO.out).mono ?_⟩;rintro e w' ⟨rfl,hw'⟩;rw[←hw'] at hL hsz2 hb2 hseq;have hX2:=hX1.below hb2 hX1.lt;have hA2:=hA1.below hb2 hA1.lt;have Xy:=hT1.below hb2 hT1.lt;have hB2:=hb1.trans (hb2.mono hb1.size);have gV:=zh hS;clear hm hS hX1 hw' hb2 zO hA1 hT1 t1
 gi_wp2_with fail
 rw[hz1] at hseq hL hsz2;have hm1:¬ aD B vs vf (w.heap.size+1+1):=fun hk=>by have:=(hlt _ hk).2;omega
 refine wpIn_rangeFunc_ownF (w:=w') rfl (by decide) (gf:=137) (lb:=#[.pointer (some ⟨w.heap.size+1+1+1,0,none⟩),.pointer (some ⟨w.heap.size+1+1+1+1,0,none⟩)]) rfl trivial (enters_of Tryz.func137 (by kernel_rfl) rfl) hseq LS.qW (LS.uq _) (Below.refl _ _) (fun _=>rfl)
  (fun pre W=>Whole W w.heap.size #[.pointer (some ⟨B,0,none⟩)] 37∧Whole W (w.heap.size+1) #[.int .i64 h] 3∧Whole W (w.heap.size+1+1) #[.bool false] 4∧LS base B (w.heap.size+1+1+1) (w.heap.size+1+1+1+1) b s p vs n (Tr.raw g av) vf fr live root W∧Below w.heap.size w W∧(pre.map (·.1)).any (fun k=>k != h && Tr.kindOf g k == 2)=false)
  (fun c _ W=>c=.ret∧Whole W (w.heap.size+1+1) #[.bool true] 4∧Below w.heap.size w W∧Tr.kU g p h=true)
  ?hI ?hIx ⟨Xy,hA2,hX2,hL,hB2,rfl⟩ (fun x=>{ tmps:=#[.pointer (some ⟨B,0,none⟩),.int .i64 p,.int .i64 h,.pointer (some ⟨w.heap.size,0,none⟩),undef,.pointer (some ⟨w.heap.size+1,0,none⟩),.pointer (some ⟨w.heap.size+1+1,0,none⟩),.int .i64 x.1,.pointer (some ⟨B,0,none⟩),.int .i64 p,.func (.func 137) #[] #[.pointer (some ⟨w.heap.size+1+1+1,0,none⟩),.pointer (some ⟨w.heap.size+1+1+1+1,0,none⟩)],.int .i64 x.1,undef,undef,undef,undef,undef,undef,undef,undef,undef,undef,undef,undef],defers:=[] }) ?assign ?body ?done ?stop
 case hI=>
  rintro pre W W' row ⟨hT,h0,h1,h2,h3,h4⟩ hg hr;exact⟨bg hT hg (fun r e=>(hr r e).2),bg h0 hg (fun r e=>(hr r e).2),bg h1 hg (fun r e=>(hr r e).2),h2.others hg (fun r e=>(hr r e).2),h3.grown hg h3.size (fun r e=>by have:=(hr r e).1;omega),h4⟩
 case hIx=>
  rintro c pre W W' row ⟨h0,h1,h2,h3⟩ hg hr;exact⟨h0,bg h1 hg (fun r e=>(hr r e).2),h2.grown hg h2.size (fun r e=>by have:=(hr r e).1;omega),h3⟩
 case assign=>
  intro l x W K hK
  gi_wp2
  first | exact hK | simpa using hK
 case body=>
  rintro l pre x W ⟨hT,hA,hX,mo,hBW,hnot⟩ hlen;have t0:W.cell? ⟨w.heap.size,0,none⟩=some (.pointer (some ⟨B,0,none⟩)):=hT.cell 0;have a0:W.cell? ⟨w.heap.size+1,0,none⟩=some (.int .i64 h):=hA.cell 0;have c0:W.cell? ⟨w.heap.size+1+1,0,none⟩=some (.bool false):=hX.cell 0;have f0:=hX.free 0;obtain⟨mx,ex,_⟩:=hw.dL x.2;have hany:∀ v,(x.1 != h && Tr.kindOf g x.1 == 2)=v→((pre++[x]).map (·.1)).any (fun k=>k != h && Tr.kindOf g k == 2)=v:=fun v e=>by
   rw[List.map_append,List.any_append,hnot,Bool.false_or,←e];simp
  by_cases hxh:x.1=h
  ·have hq:(x.1 != h)=false:=by simpa using hxh
   have HF:=zh (And.intro hT (And.intro hA (And.intro hX (And.intro mo (And.intro hBW (hany false (by rw[hq];rfl)))))));clear hT hA hX mo hBW hnot hxh hany
   gi_wp2_with fail
   refine And.intro (by first | exact trivial | (intros;exact trivial)) ?_
   gi_wp2_with fail
   exact⟨KeepsOthers.refl _,fun h=>h,HF.out⟩
  ·have hq:(x.1 != h)=true:=by simpa using hxh
   have hxi:=(bH gV.out (h:=x.1) (by rw[aK,ex];rfl)).1;have HAT:=zh (jX base B b s root x.1 live n (Tr.raw g av) fr vs vf W mo.tree gV.out hxi);have HST:=zh (And.intro hT (And.intro hA (And.intro hX (And.intro mo hBW))));have abl:=zh hany;clear hT hA hX mo hBW hnot hany
   gi_wp2_with fail
   refine⟨trivial,(CallsIn.inRound l (callsIn_wide.2 HAT.out)).mono ?_⟩;rintro e w4 ⟨g4,o4,rfl,hnp,hb4⟩;rw[Tr.aj ex] at hnp;obtain⟨k0,_⟩:=hnp.cells;have k0':w4.cell? ⟨g4,o4,none⟩=some (.int .i64 mx.kind):=k0;obtain⟨hT,hA,hX,mo,hBW⟩:=HST.out;have EH:=hT.below hb4 hT.lt;have Sm:=hA.below hb4 hA.lt;have bI:=hX.below hb4 hX.lt;have hL4:=mo.below hb4;have hB4:=hBW.trans (hb4.mono hBW.size);have c4:w4.cell? ⟨w.heap.size+1+1,0,none⟩=some (.bool false):=bI.cell 0;have f4:=bI.free 0;have hko:=zW hb4;have hkd:=Tr.eG ex;by_cases hk2:mx.kind=2
   ·have hq2:(mx.kind == 2)=true:=by simpa using hk2
    have Cc:=bI.put 0 (.bool true);have htr:Tr.kU g p h=true:=by
     unfold Tr.kU;rw[List.any_eq_true];exact⟨x.1,x.2,by rw[hq,hkd,hk2];rfl⟩
    have HF:=zh (And.intro Cc (And.intro (hB4.setCell (p:=⟨w.heap.size+1+1,0,none⟩) (by show _≤w.heap.size+1+1;omega) (.bool true)) htr));clear hT hA hX mo hBW EH Sm bI hL4 hB4 Cc htr hk2 hnp hkd k0
    gi_wp2_with fail
    exact⟨hko.trans (KeepsOthers.setCell _ _ _),rfl,HF.out⟩
   ·have hq2:(mx.kind == 2)=false:=by simpa using hk2
    have HF:=zh (And.intro EH (And.intro Sm (And.intro bI (And.intro hL4 (And.intro hB4 (abl.out false (by rw[hq,hkd,hq2];rfl)))))));clear hT hA hX mo hBW EH Sm bI hB4 hk2 hnp hkd k0
    gi_wp2_with fail
    exact⟨hko,fun _=>hL4,HF.out⟩
 case done=>
  rintro D xs W hD rfl ⟨_,_,hX,mo,hBW,hnot⟩ hK;rw[List.attach_map_subtype_val] at hnot;have c0:W.cell? ⟨w.heap.size+1+1,0,none⟩=some (.bool false):=hX.cell 0;have f0:=hX.free 0;have Cc:=hX.put 0 (.bool false);have hKs:=(KeepsOthers.setCell W ⟨w.heap.size+1+1,0,none⟩ (.bool false)).same D _ hK rfl;have RH:=hBW.setCell (p:=⟨w.heap.size+1+1,0,none⟩) (by show _≤w.heap.size+1+1;omega) (.bool false);obtain⟨V,hV⟩:=eX (W.setCell ⟨w.heap.size+1+1,0,none⟩ (.bool false))
  rw[hV] at Cc hKs RH;have c9:V.cell? ⟨w.heap.size+1+1,0,none⟩=some (.bool false):=Cc.cell 0;have hca:=cell_kept c9 (grownBy_putObj' V D (.deferred none)) (fun r e=>by cases e;exact⟨_,hKs,rfl⟩);have HB:=zh (RH.trans (belowK_b (w:=w) (Nat.le_refl _) V D _ (.deferred none) (by omega) hKs rfl rfl));have HN:=zh hnot;clear hX mo hBW Cc hnot RH
  gi_wp2_with fail
  refine⟨by simp,.inl ⟨_,_,rfl,run_takeDeferred hKs,?_⟩⟩;refine⟨.bool false,?_,?_,HB.out⟩
  ·simp[results,Tryz.f119,go_sem,hca]
  ·exact gQ HN.out.symm
 case stop=>
  rintro D c pre W hD hsp ⟨rfl,hX,hBW,hmem⟩ hK;have c0:W.cell? ⟨w.heap.size+1+1,0,none⟩=some (.bool true):=hX.cell 0;have hca:=cell_kept c0 (grownBy_putObj' W D (.deferred none)) (fun r e=>by cases e;exact⟨_,hK,rfl⟩);have HB:=zh (hBW.trans (belowK_b (w:=w) (Nat.le_refl _) W D _ (.deferred none) (by omega) hK rfl rfl));have HN:=zh hmem;clear hX hBW hmem
  gi_wp2_with fail
  refine⟨by simp,.inl ⟨_,_,rfl,run_takeDeferred hK,?_⟩⟩;refine⟨.bool true,?_,?_,HB.out⟩
  ·simp[results,Tryz.f119,go_sem,hca]
  ·exact gQ HN.out.symm
end
end
section
section
open Go.RowKit
namespace Tr
def eF (g:G) (p h:Int):Bool:=
 if kindOf g p=2 then kindOf g h != 1 else if kindOf g p=1 then (kindOf g h == 4 || (kindOf g h == 2 && !kU g p h)) else false
end Tr
theorem rE (base B:Nat) (b s root p h:Int) (live n:Nat) (g:Tr.G) (av:Int→Tr.Sl) (fr:List Nat) (vs vf:Value) (np nh:Tr.GN) (w:World) (hm:TV base w B b s vs n (Tr.raw g av) vf fr live root) (hS:Sound b s n (Tr.raw g av) fr live) (hw:Tr.WF 0 g) (ep:g p=some np) (eh:g h=some nh):
  Calls Tryz.prog 72 #[.pointer (some ⟨B,0,none⟩),.int .i64 p,.int .i64 h] w fun e w'=>e=.returned (.bool (Tr.eF g p h))∧Below w.heap.size w w':=by
 have hpi:=(bH hS (h:=p) (by rw[aK,ep];rfl)).1;have hkp:=Tr.eG ep;have hkh:=Tr.eG eh;obtain⟨kp,WX⟩:=eX (np.kind)
 obtain⟨kh,WY⟩:=eX (nh.kind)
 rw[WX] at hkp;rw[WY] at hkh;have hacc:Tr.eF g p h=if kp=2 then kh != 1 else if kp=1 then (kh == 4 || (kh == 2 && !Tr.kU g p h)) else false:=by unfold Tr.eF;rw[hkp,hkh]
 have hA:=fun (W:World) (hb:Below w.heap.size w W)=>gW base B b s root h live n _ fr vs vf _ W (hm.below hb) hS (Tr.aj (av:=av) eh);have hP:=fun (W:World) (hb:Below w.heap.size w W)=>gW base B b s root p live n _ fr vs vf _ W (hm.below hb) hS (Tr.aj (av:=av) ep);have hO:=fun (W:World) (hb:Below w.heap.size w W)=>NI base B b s root p h live n g av fr vs vf W (hm.below hb) hS hw hpi;have kA:∀ (W:World) (gb o:Nat),Below w.heap.size w W→PtrTo b s vs n gb o h→W.cell? ⟨gb,o,none⟩=some (.int .i64 kh):=fun W gb o hb hpt=>by
  rw[←WY];exact ((hm.below hb).np hpt (Tr.aj (av:=av) eh)).cells.1
 have kP:∀ (W:World) (gb o:Nat),Below w.heap.size w W→PtrTo b s vs n gb o p→W.cell? ⟨gb,o,none⟩=some (.int .i64 kp):=fun W gb o hb hpt=>by
  rw[←WX];exact ((hm.below hb).np hpt (Tr.aj (av:=av) ep)).cells.1
 rw[hacc];obtain⟨OT,hOT⟩:=eX (Tr.kU g p h)
 rw[hOT] at hO ⊢;have HA:=zh hA;have HP:=zh hP;have HO:=zh hO;have KA:=zh kA;have KP:=zh kP;clear hA hP hO kA kP hm hS hacc hkp hkh WX WY ep eh hOT hw;have main:∀ r:Bool,((kp=2∧r=(kh != 1))∨(kp=1∧kh=4∧r=true)∨(kp=1∧kh=2∧r=!OT)∨(kp=1∧kh≠4∧kh≠2∧r=false)∨(kp≠2∧kp≠1∧r=false))→
   Calls Tryz.prog 72 #[.pointer (some ⟨B,0,none⟩),.int .i64 p,.int .i64 h] w fun e w'=>e=.returned (.bool r)∧Below w.heap.size w w':=by
  intro r hr;have hq:((kp == 2)=true∧r=(kh != 1))∨((kp == 2)=false∧(kp == 1)=true∧(kh == 4)=true∧r=true)∨((kp == 2)=false∧(kp == 1)=true∧(kh == 4)=false∧(kh == 2)=true∧r=!OT)∨((kp == 2)=false∧(kp == 1)=true∧(kh == 4)=false∧(kh == 2)=false∧r=false)∨((kp == 2)=false∧(kp == 1)=false∧r=false):=by
   rcases hr with ⟨h1,h2⟩ | ⟨h1,h2,h3⟩ | ⟨h1,h2,h3⟩ | ⟨h1,h2,h3,h4⟩ | ⟨h1,h2,h3⟩
   ·exact .inl ⟨by simp[h1],h2⟩
   ·exact .inr (.inl ⟨by simp[h1],by simp[h1],by simp[h2],h3⟩)
   ·exact .inr (.inr (.inl ⟨by simp[h1],by simp[h1],by simp[h2],by simp[h2],h3⟩))
   ·exact .inr (.inr (.inr (.inl ⟨by simp[h1],by simp[h1],by simpa using h2,by simpa using h3,h4⟩)))
   ·exact .inr (.inr (.inr (.inr ⟨by simpa using h1,by simpa using h2,h3⟩)))
  clear hr;have HR:=zh hq;clear hq
  go_enter Tryz.func72,Tryz.ntmps72
  go_wp2_with fail;refine (HA.out w (Below.refl _ _)).mono ?_;rintro e w2 ⟨g2,o2,rfl,abm,hb2⟩;have c2:=KA.out w2 g2 o2 hb2 abm;go_wp2_with fail;refine (HP.out w2 hb2).mono ?_;rintro e w3 ⟨g3,o3,rfl,abn,hb3⟩;have dA:=hb2.trans (hb3.mono hb2.size);have c3:=KP.out w3 g3 o3 dA abn;rcases HR.out with ⟨h1,h2⟩ | ⟨h1,h2,h3,h4⟩ | ⟨h1,h2,h3,h4,h5⟩ | ⟨h1,h2,h3,h4,h5⟩ | ⟨h1,h2,h3⟩
  ·subst h2;go_wp2_with fail
   go_ret
   exact⟨rfl,dA⟩
  ·subst h4;go_wp2_with fail
   go_ret
   exact⟨rfl,dA⟩
  ·subst h5;go_wp2_with fail;refine (HO.out w3 dA).mono ?_;rintro e w4 ⟨rfl,hb4⟩;have bU:=dA.trans (hb4.mono dA.size);go_wp2_with fail
   go_ret
   exact⟨rfl,bU⟩
  ·subst h5;go_wp2_with fail
   go_ret
   exact⟨rfl,dA⟩
  ·subst h3;go_wp2_with fail
   go_ret
   exact⟨rfl,dA⟩
 refine main _ ?_;by_cases h1:kp=2
 ·left;exact⟨h1,by rw[if_pos h1]⟩
 ·right;by_cases h2:kp=1
  ·by_cases h3:kh=4
   ·left;exact⟨h2,h3,by rw[if_neg h1,if_pos h2,h3];rfl⟩
   ·right;by_cases h4:kh=2
    ·left;exact⟨h2,h4,by rw[if_neg h1,if_pos h2,h4];rfl⟩
    ·right;left;exact⟨h2,h3,h4,by rw[if_neg h1,if_pos h2];simp[h3,h4]⟩
  ·right;right;right;exact⟨h1,h2,by rw[if_neg h1,if_neg h2]⟩
end
end
section
open Go.RowKit Go.Shelf
attribute [local go_sem] Oper.semAt_some
theorem Du (base B:Nat) (b s root h:Int) (live n:Nat) (g:Tr.G) (av:Int→Tr.Sl) (fr:List Nat) (vs vf:Value) (w:World) (hm:TV base w B b s vs n (Tr.raw g av) vf fr live root) (hS:Sound b s n (Tr.raw g av) fr live) (hw:Tr.WF 0 g) (hh:gI h):
  Calls Tryz.prog 74 #[.pointer (some ⟨B,0,none⟩),.int .i64 h] w fun e w'=>e=.returned (.int .i64 ((Tr.aS g h).length:Nat))∧Below w.heap.size w w':=by
 have zG:=(hw.cu h).2;have hlt:=hm.lt;refine (callsIn_wide (n:=8)).1 ?_;refine callsIn_of_wp_marks Tryz.func74 rfl trivial ?_ rfl;simp only[Tryz.ntmps74,pT,Nat.reduceAdd,Nat.reduceSub]
 gi_wp2_with fail
 obtain⟨w1,hw1⟩:=eX (w.alloc (.cells #[.int .i64 0] 3))
 have hz1:w1.heap.size=w.heap.size+1:=by rw[←hw1];simp
 have hb1:Below w.heap.size w w1:=fI hw1;have hX1:Whole w1 w.heap.size #[.int .i64 0] 3:=by rw[←hw1];exact Whole.new w _ _
 have hL:=LS.made (h:=h) (hm.below hb1);have hsz2:((w1.alloc (.cells #[.pointer (some ⟨B,0,none⟩)] 37)).alloc (.cells #[.int .i64 h] 3)).heap.size=w1.heap.size+2:=by simp
 have hb2:Below w1.heap.size w1 ((w1.alloc (.cells #[.pointer (some ⟨B,0,none⟩)] 37)).alloc (.cells #[.int .i64 h] 3)):=((Below.refl _ w1).alloc (Nat.le_refl _) _).alloc (by simp) _;have hseq:=Fu hS hw hh 7 (by omega) _ hL;have zO:=zh (zD B h w1);(try rw[hw1]);refine⟨trivial,(callsIn_wide.2 zO.out).mono ?_⟩;rintro e w' ⟨rfl,hw'⟩;rw[←hw'] at hL hsz2 hb2 hseq;have hX2:=hX1.below hb2 hX1.lt;have hB2:=hb1.trans (hb2.mono hb1.size);clear hm hS hX1 hw' hb2 zO
 gi_wp2_with fail
 rw[hz1] at hseq hL hsz2;have hm1:¬ aD B vs vf w.heap.size:=fun hk=>by have:=(hlt _ hk).2;omega
 refine wpIn_rangeFunc_ownF (w:=w') rfl (by decide) (gf:=103) (lb:=#[.pointer (some ⟨w.heap.size+1+1,0,none⟩),.pointer (some ⟨w.heap.size+1,0,none⟩)]) rfl trivial (enters_of Tryz.func103 (by kernel_rfl) rfl) hseq LS.qW (LS.uq _) (Below.refl _ _) (fun _=>rfl)
  (fun pre W=>Whole W w.heap.size #[.int .i64 (pre.length:Nat)] 3∧LS base B (w.heap.size+1) (w.heap.size+1+1) b s h vs n (Tr.raw g av) vf fr live root W∧Below w.heap.size w W) (fun _ _ _=>False)
  ?hI ?hIx ⟨hX2,hL,hB2⟩ (fun x=>{ tmps:=#[.pointer (some ⟨B,0,none⟩),.int .i64 h,undef,undef,.int .i64 0,.pointer (some ⟨w.heap.size,0,none⟩),.pointer (some ⟨B,0,none⟩),.int .i64 h,.func (.func 103) #[] #[.pointer (some ⟨w.heap.size+1+1,0,none⟩),.pointer (some ⟨w.heap.size+1,0,none⟩)],.int .i64 x.1,undef,undef,undef],defers:=[] }) ?assign ?body ?done ?stop
 case hI=>
  rintro pre W W' row ⟨h1,h2,h3⟩ hg hr;exact⟨bg h1 hg (fun r e=>(hr r e).2),h2.others hg (fun r e=>(hr r e).2),h3.grown hg h3.size (fun r e=>by have:=(hr r e).1;omega)⟩
 case hIx=>intro c pre W W' row h _ _;exact h
 case assign=>
  intro l x W K hK
  gi_wp2
  simpa using hK
 case body=>
  rintro l pre x W ⟨hX,mo,hBW⟩ hlen;have c0:W.cell? ⟨w.heap.size,0,none⟩=some (.int .i64 (pre.length:Nat)):=hX.cell 0;have f0:=hX.free 0;have hpl:pre.length≤128:=by omega
  have Cc:=hX.put 0 (.int .i64 ((pre.length:Int)+1));have hL':=mo.set hm1 (by omega) (by omega) 0 (.int .i64 ((pre.length:Int)+1));have HF:=zh (And.intro Cc (And.intro hL' (hBW.setCell (p:=⟨w.heap.size,0,none⟩) (Nat.le_refl _) (.int .i64 ((pre.length:Int)+1)))));clear hX mo hBW Cc hL'
  gi_wp2_with fail
  refine⟨KeepsOthers.setCell _ _ _,fun _=>HF.out.2.1,?_,HF.out.2.1,HF.out.2.2⟩;rw[List.length_append];exact HF.out.1
 case done=>
  rintro D xs W hD rfl ⟨hX,mo,hBW⟩ hK;rw[List.length_attach] at hX;have c0:W.cell? ⟨w.heap.size,0,none⟩=some (.int .i64 ((Tr.aS g h).length:Nat)):=hX.cell 0;have HB:=zh (hBW.trans (belowK_b (w:=w) (Nat.le_refl _) W D _ (.deferred none) (by omega) hK rfl rfl));clear hX mo hBW
  gi_wp2_with fail
  refine⟨by simp,.inl ⟨_,_,rfl,run_takeDeferred hK,?_⟩⟩;exact⟨_,results_tmp rfl _ _ _,rfl,HB.out⟩
 case stop=>
  rintro D c pre W _ _ h _;exact h.elim
end
section
open Go.RowKit Go.Shelf
attribute [local go_sem] Oper.semAt_some
def oQ (g:Tr.G) (l:List Int):Nat:=(l.map (Tr.gM g)).foldl max 0
theorem D8 (g:Tr.G) (l:List Int) (x:Int):oQ g (l++[x])=max (oQ g l) (Tr.gM g x):=by simp[oQ]
theorem zY (base B:Nat) (b s root:Int) (live n:Nat) (g:Tr.G) (av:Int→Tr.Sl) (fr:List Nat) (vs vf:Value) (hS:Sound b s n (Tr.raw g av) fr live) (hw:Tr.WF 0 g):∀ h,(g h).isSome→∀ w,TV base w B b s vs n (Tr.raw g av) vf fr live root→
  Calls Tryz.prog 75 #[.pointer (some ⟨B,0,none⟩),.int .i64 h] w fun e w'=>e=.returned (.int .i64 (Tr.gM g h:Nat))∧Below w.heap.size w w':=by
 refine hw.induct fun h ih=>?_;intro hsome w hm;obtain⟨nh,eg⟩:=Option.isSome_iff_exists.1 hsome;have hh:=(bH hS (h:=h) (by rw[aK,eg];rfl)).1;have hkk:=Tr.aH eg;have hres:Tr.gM g h=oQ g (Tr.au g h)+1:=by rw[hw.kE eg,hkk];rfl
 have hle:=hw.qz h;have IH:∀ k∈Tr.au g h,∀ w,TV base w B b s vs n (Tr.raw g av) vf fr live root→Calls Tryz.prog 75 #[.pointer (some ⟨B,0,none⟩),.int .i64 k] w fun e w'=>e=.returned (.int .i64 (Tr.gM g k:Nat))∧Below w.heap.size w w':=fun k hk w hT=>by
  obtain⟨m,e,_⟩:=hw.dL hk;exact ih nh eg k (by rw[←hkk];exact hk) (by rw[e];rfl) w hT
 clear ih hsome hkk;have hlt:=hm.lt;rw[hres];rw[hres] at hle;refine (callsIn_wide (n:=8)).1 ?_;refine callsIn_of_wp_marks Tryz.func75 rfl trivial ?_ rfl;simp only[Tryz.ntmps75,pT,Nat.reduceAdd,Nat.reduceSub]
 gi_wp2_with fail
 obtain⟨w1,hw1⟩:=eX ((w.alloc (.cells #[.pointer (some ⟨B,0,none⟩)] 37)).alloc (.cells #[.int .i64 0] 3))
 have hz1:w1.heap.size=w.heap.size+2:=by rw[←hw1];simp
 have hb1:Below w.heap.size w w1:=by rw[←hw1];exact ((Below.refl _ w).alloc (Nat.le_refl _) _).alloc (by simp) _
 have hT1:Whole w1 w.heap.size #[.pointer (some ⟨B,0,none⟩)] 37:=by rw[←hw1];exact (Whole.new w _ _).alloc _
 have hX1:Whole w1 (w.heap.size+1) #[.int .i64 0] 3:=by
  have:=Whole.new (w.alloc (.cells #[.pointer (some ⟨B,0,none⟩)] 37)) #[.int .i64 0] 3;rw[World.size_alloc] at this;rw[←hw1];exact this
 have hL:=LS.made (h:=h) (hm.below hb1);have hsz2:((w1.alloc (.cells #[.pointer (some ⟨B,0,none⟩)] 37)).alloc (.cells #[.int .i64 h] 3)).heap.size=w1.heap.size+2:=by simp
 have hb2:Below w1.heap.size w1 ((w1.alloc (.cells #[.pointer (some ⟨B,0,none⟩)] 37)).alloc (.cells #[.int .i64 h] 3)):=((Below.refl _ w1).alloc (Nat.le_refl _) _).alloc (by simp) _;have hseq:=Bw hS hw hh 7 (by omega) _ hL;have zO:=zh (sS B h w1);have t1:w1.cell? ⟨w.heap.size,0,none⟩=some (.pointer (some ⟨B,0,none⟩)):=hT1.cell 0;have VB:=zh IH;clear IH hres eg;(try rw[hw1]);refine⟨trivial,(callsIn_wide.2 zO.out).mono ?_⟩;rintro e w' ⟨rfl,hw'⟩;rw[←hw'] at hL hsz2 hb2 hseq;have hX2:=hX1.below hb2 hX1.lt;have Xy:=hT1.below hb2 hT1.lt;have hB2:=hb1.trans (hb2.mono hb1.size);have gV:=zh hS;clear hm hS hX1 hw' hb2 zO hT1 t1
 gi_wp2_with fail
 rw[hz1] at hseq hL hsz2;have hm1:¬ aD B vs vf (w.heap.size+1):=fun hk=>by have:=(hlt _ hk).2;omega
 refine wpIn_rangeFunc_ownF (w:=w') rfl (by decide) (gf:=137) (lb:=#[.pointer (some ⟨w.heap.size+1+1,0,none⟩),.pointer (some ⟨w.heap.size+1+1+1,0,none⟩)]) rfl trivial (enters_of Tryz.func137 (by kernel_rfl) rfl) hseq LS.qW (LS.uq _) (Below.refl _ _) (fun _=>rfl)
  (fun pre W=>Whole W w.heap.size #[.pointer (some ⟨B,0,none⟩)] 37∧Whole W (w.heap.size+1) #[.int .i64 (oQ g (pre.map (·.1)):Nat)] 3∧LS base B (w.heap.size+1+1) (w.heap.size+1+1+1) b s h vs n (Tr.raw g av) vf fr live root W∧Below w.heap.size w W)
  (fun _ _ _=>False)
  ?hI ?hIx ⟨Xy,hX2,hL,hB2⟩ (fun x=>{ tmps:=#[.pointer (some ⟨B,0,none⟩),.int .i64 h,.pointer (some ⟨w.heap.size,0,none⟩),undef,.int .i64 0,.pointer (some ⟨w.heap.size+1,0,none⟩),.int .i64 x.1,.pointer (some ⟨B,0,none⟩),.int .i64 h,.func (.func 137) #[] #[.pointer (some ⟨w.heap.size+1+1,0,none⟩),.pointer (some ⟨w.heap.size+1+1+1,0,none⟩)],.int .i64 x.1,undef,undef,undef,undef,undef,undef,undef],defers:=[] }) ?assign ?body ?done ?stop
 case hI=>
  rintro pre W W' row ⟨hT,h1,h2,h3⟩ hg hr;exact⟨bg hT hg (fun r e=>(hr r e).2),bg h1 hg (fun r e=>(hr r e).2),h2.others hg (fun r e=>(hr r e).2),h3.grown hg h3.size (fun r e=>by have:=(hr r e).1;omega)⟩
 case hIx=>rintro c pre W W' row h _ _;exact h
 case assign=>
  intro l x W K hK
  gi_wp2
  first | exact hK | simpa using hK
 case body=>
  rintro l pre x W ⟨hT,hX,mo,hBW⟩ hlen;have t0:W.cell? ⟨w.heap.size,0,none⟩=some (.pointer (some ⟨B,0,none⟩)):=hT.cell 0;have c0:W.cell? ⟨w.heap.size+1,0,none⟩=some (.int .i64 (oQ g (pre.map (·.1)):Nat)):=hX.cell 0;have f0:=hX.free 0;obtain⟨M,hM⟩:=eX (oQ g (pre.map (·.1)))
  obtain⟨X,Ry⟩:=eX (Tr.gM g x.1)
  rw[hM] at c0;have hKf:=fun (w4:World) (hb4:Below W.heap.size W w4)=>And.intro (hT.below hb4 hT.lt) (And.intro (hX.below hb4 hX.lt) (And.intro (mo.below hb4) (hBW.trans (hb4.mono hBW.size))));have hbd:Below W.heap.size W W.drew:=⟨rfl,rfl,rfl,Nat.le_refl _,fun _ _=>rfl⟩
  have HC:=zh (VB.out x.1 x.2 W.drew (mo.below hbd).tree);rw[Ry] at HC;have HKF:=zh hKf;have FJ:=zh hbd;have HMM:=zh (And.intro hM Ry);clear hT hX mo hBW hKf hbd hM Ry;have hmx:max (M:Int) (X:Int)=((max M X:Nat):Int):=by omega
  gi_wp2_with fail
  gi_region_with (refine⟨trivial,?_⟩;gi_at_call 75;refine (CallsIn.inRound l (callsIn_wide.2 HC.out)).mono ?_;rintro e w4 ⟨rfl,hb4⟩;have hbW:=FJ.out.trans (hb4.mono FJ.out.size);obtain⟨EH,bI,hL4,hB4⟩:=HKF.out w4 hbW;rw[HMM.out.1] at bI;have k0:w4.cell? ⟨w.heap.size+1,0,none⟩=some (.int .i64 (M:Nat)):=bI.cell 0;have z0:=bI.free 0;have t4:w4.cell? ⟨w.heap.size,0,none⟩=some (.pointer (some ⟨B,0,none⟩)):=EH.cell 0;have hko:=zW hbW;have uM:=zh bI;have F3:=zh EH;have HL4:=zh hL4;have jy:=zh hB4;clear bI EH hL4 hB4 hb4 hbW)
  all_goals
   gi_wp2_with fail
   refine⟨hko.trans (KeepsOthers.setCell _ _ _),fun _=>HL4.out.set hm1 (by omega) (by omega) _ _,F3.out.other (by show w.heap.size≠w.heap.size+1;omega) _,?_,HL4.out.set hm1 (by omega) (by omega) _ _,jy.out.setCell (p:=⟨w.heap.size+1,0,none⟩) (Nat.le_succ _) _⟩;rw[List.map_append,List.map_cons,List.map_nil,D8,HMM.out.1,HMM.out.2];exact uM.out.put 0 _
 case done=>
  rintro D xs W hD rfl ⟨_,hX,mo,hBW⟩ hK;rw[List.attach_map_subtype_val] at hX;have c0:W.cell? ⟨w.heap.size+1,0,none⟩=some (.int .i64 (oQ g (Tr.au g h):Nat)):=hX.cell 0;have HB:=zh (hBW.trans (belowK_b (w:=w) (Nat.le_refl _) W D _ (.deferred none) (by omega) hK rfl rfl));have ZI:oQ g (Tr.au g h)≤128:=by omega
  obtain⟨M,hM⟩:=eX (oQ g (Tr.au g h))
  rw[hM] at c0 ZI;have HM:=zh hM;clear hX mo hBW hM hle
  gi_wp2_with fail
  refine⟨by simp,.inl ⟨_,_,rfl,run_takeDeferred hK,?_⟩⟩;refine⟨_,results_tmp rfl _ _ _,?_,HB.out⟩;show Ending.returned (.int .i64 ((M:Int)+1))=_;exact kD (by rw[HM.out];omega)
 case stop=>
  rintro D c pre W _ _ h _;exact h.elim
end
section
open Go.RowKit Go.Shelf
attribute [local go_sem] Oper.semAt_some
theorem fA (base B:Nat) (b s root a h:Int) (live n:Nat) (g:Tr.G) (av:Int→Tr.Sl) (fr:List Nat) (vs vf:Value) (w:World) (hm:TV base w B b s vs n (Tr.raw g av) vf fr live root) (hS:Sound b s n (Tr.raw g av) fr live) (hw:Tr.WF 0 g) (hh:gI h):
  Calls Tryz.prog 27 #[.pointer (some ⟨B,0,none⟩),.int .i64 a,.int .i64 h] w fun e w'=>e=.returned (.bool (decide (a∈Tr.aS g h)))∧Below w.heap.size w w':=by
 have hlt:=hm.lt;refine (callsIn_wide (n:=8)).1 ?_;refine callsIn_of_wp_marks Tryz.func27 rfl trivial ?_ rfl;simp only[Tryz.ntmps27,pT,Nat.reduceAdd,Nat.reduceSub]
 gi_wp2_with fail
 obtain⟨w1,hw1⟩:=eX ((w.alloc (.cells #[.int .i64 a] 3)).alloc (.cells #[.bool false] 4))
 have hz1:w1.heap.size=w.heap.size+2:=by rw[←hw1];simp
 have hb1:Below w.heap.size w w1:=by rw[←hw1];exact ((Below.refl _ w).alloc (Nat.le_refl _) _).alloc (by simp) _
 have hA1:Whole w1 w.heap.size #[.int .i64 a] 3:=by rw[←hw1];exact (Whole.new w _ _).alloc _
 have hX1:Whole w1 (w.heap.size+1) #[.bool false] 4:=by
  have:=Whole.new (w.alloc (.cells #[.int .i64 a] 3)) #[.bool false] 4;rw[World.size_alloc] at this;rw[←hw1];exact this
 have hL:=LS.made (h:=h) (hm.below hb1);have hsz2:((w1.alloc (.cells #[.pointer (some ⟨B,0,none⟩)] 37)).alloc (.cells #[.int .i64 h] 3)).heap.size=w1.heap.size+2:=by simp
 have hb2:Below w1.heap.size w1 ((w1.alloc (.cells #[.pointer (some ⟨B,0,none⟩)] 37)).alloc (.cells #[.int .i64 h] 3)):=((Below.refl _ w1).alloc (Nat.le_refl _) _).alloc (by simp) _;have hseq:=Fu hS hw hh 7 (by omega) _ hL;have zO:=zh (zD B h w1);(try rw[hw1]);refine⟨trivial,(callsIn_wide.2 zO.out).mono ?_⟩;rintro e w' ⟨rfl,hw'⟩;rw[←hw'] at hL hsz2 hb2 hseq;have hX2:=hX1.below hb2 hX1.lt;have hA2:=hA1.below hb2 hA1.lt;have hB2:=hb1.trans (hb2.mono hb1.size);clear hm hS hX1 hw' hb2 zO hA1
 gi_wp2_with fail
 rw[hz1] at hseq hL hsz2;have hm1:¬ aD B vs vf (w.heap.size+1):=fun hk=>by have:=(hlt _ hk).2;omega
 refine wpIn_rangeFunc_ownF (w:=w') rfl (by decide) (gf:=103) (lb:=#[.pointer (some ⟨w.heap.size+1+1+1,0,none⟩),.pointer (some ⟨w.heap.size+1+1,0,none⟩)]) rfl trivial (enters_of Tryz.func103 (by kernel_rfl) rfl) hseq LS.qW (LS.uq _) (Below.refl _ _) (fun _=>rfl)
  (fun pre W=>Whole W w.heap.size #[.int .i64 a] 3∧Whole W (w.heap.size+1) #[.bool false] 4∧LS base B (w.heap.size+1+1) (w.heap.size+1+1+1) b s h vs n (Tr.raw g av) vf fr live root W∧Below w.heap.size w W∧a∉pre.map (·.1))
  (fun c _ W=>c=.ret∧Whole W (w.heap.size+1) #[.bool true] 4∧Below w.heap.size w W∧a∈Tr.aS g h)
  ?hI ?hIx ⟨hA2,hX2,hL,hB2,by simp⟩ (fun x=>{ tmps:=#[.pointer (some ⟨B,0,none⟩),.int .i64 a,.int .i64 h,undef,.pointer (some ⟨w.heap.size,0,none⟩),undef,.pointer (some ⟨w.heap.size+1,0,none⟩),.int .i64 x.1,.pointer (some ⟨B,0,none⟩),.int .i64 h,.func (.func 103) #[] #[.pointer (some ⟨w.heap.size+1+1+1,0,none⟩),.pointer (some ⟨w.heap.size+1+1,0,none⟩)],.int .i64 x.1,undef,undef,undef],defers:=[] }) ?assign ?body ?done ?stop
 case hI=>
  rintro pre W W' row ⟨h0,h1,h2,h3,h4⟩ hg hr;exact⟨bg h0 hg (fun r e=>(hr r e).2),bg h1 hg (fun r e=>(hr r e).2),h2.others hg (fun r e=>(hr r e).2),h3.grown hg h3.size (fun r e=>by have:=(hr r e).1;omega),h4⟩
 case hIx=>
  rintro c pre W W' row ⟨h0,h1,h2,h3⟩ hg hr;exact⟨h0,bg h1 hg (fun r e=>(hr r e).2),h2.grown hg h2.size (fun r e=>by have:=(hr r e).1;omega),h3⟩
 case assign=>
  intro l x W K hK
  gi_wp2
  first | exact hK | simpa using hK
 case body=>
  rintro l pre x W ⟨hA,hX,mo,hBW,hnot⟩ hlen;have a0:W.cell? ⟨w.heap.size,0,none⟩=some (.int .i64 a):=hA.cell 0;have c0:W.cell? ⟨w.heap.size+1,0,none⟩=some (.bool false):=hX.cell 0;have f0:=hX.free 0;by_cases hxa:x.1=a
  ·have hq:(x.1 == a)=true:=by simpa using hxa
   have Cc:=hX.put 0 (.bool true);have HF:=zh (And.intro Cc (And.intro (hBW.setCell (p:=⟨w.heap.size+1,0,none⟩) (Nat.le_succ _) (.bool true)) (show a∈Tr.aS g h from hxa▸x.2)));clear hA hX mo hBW Cc hnot hxa
   gi_wp2_with fail
   exact⟨KeepsOthers.setCell _ _ _,rfl,HF.out⟩
  ·have hq:(x.1 == a)=false:=by simpa using hxa
   have HF:=zh (And.intro hA (And.intro hX (And.intro mo (And.intro hBW (show a∉(pre++[x]).map (·.1) by
    rw[List.map_append,List.mem_append];rintro (h1 | h1)
    ·exact hnot h1
    ·simp at h1;exact hxa h1.symm)))))
   clear hA hX mo hBW hnot hxa
   gi_wp2_with fail
   exact⟨KeepsOthers.refl _,fun h=>h,HF.out⟩
 case done=>
  rintro D xs W hD rfl ⟨_,hX,mo,hBW,hnot⟩ hK;rw[List.attach_map_subtype_val] at hnot;have c0:W.cell? ⟨w.heap.size+1,0,none⟩=some (.bool false):=hX.cell 0;have f0:=hX.free 0;have Cc:=hX.put 0 (.bool false);have hKs:=(KeepsOthers.setCell W ⟨w.heap.size+1,0,none⟩ (.bool false)).same D _ hK rfl;have RH:=hBW.setCell (p:=⟨w.heap.size+1,0,none⟩) (Nat.le_succ _) (.bool false);obtain⟨V,hV⟩:=eX (W.setCell ⟨w.heap.size+1,0,none⟩ (.bool false))
  rw[hV] at Cc hKs RH;have c9:V.cell? ⟨w.heap.size+1,0,none⟩=some (.bool false):=Cc.cell 0;have hca:=cell_kept c9 (grownBy_putObj' V D (.deferred none)) (fun r e=>by cases e;exact⟨_,hKs,rfl⟩);have HB:=zh (RH.trans (belowK_b (w:=w) (Nat.le_refl _) V D _ (.deferred none) (by omega) hKs rfl rfl));have HN:=zh hnot;clear hX mo hBW Cc hnot RH
  gi_wp2_with fail
  refine⟨by simp,.inl ⟨_,_,rfl,run_takeDeferred hKs,?_⟩⟩;refine⟨.bool false,?_,?_,HB.out⟩
  ·simp[results,Tryz.f27,go_sem,hca]
  ·exact gQ (by simp[HN.out])
 case stop=>
  rintro D c pre W hD hsp ⟨rfl,hX,hBW,hmem⟩ hK;have c0:W.cell? ⟨w.heap.size+1,0,none⟩=some (.bool true):=hX.cell 0;have hca:=cell_kept c0 (grownBy_putObj' W D (.deferred none)) (fun r e=>by cases e;exact⟨_,hK,rfl⟩);have HB:=zh (hBW.trans (belowK_b (w:=w) (Nat.le_refl _) W D _ (.deferred none) (by omega) hK rfl rfl));have HN:=zh hmem;clear hX hBW hmem
  gi_wp2_with fail
  refine⟨by simp,.inl ⟨_,_,rfl,run_takeDeferred hK,?_⟩⟩;refine⟨.bool true,?_,?_,HB.out⟩
  ·simp[results,Tryz.f27,go_sem,hca]
  ·exact gQ (by simp[HN.out])
end
section
open Go.RowKit
theorem bne_false {a c:Int} (h:a=c):(a != c)=false:=by simp[h]
theorem bne_true {a c:Int} (h:a≠c):(a != c)=true:=by simpa using h
theorem cB {a c:Int} (h:a≠c):(a == c)=false:=by simpa using h
theorem Dv {a c:Int} (h:a=c):(a == c)=true:=by simpa using h
abbrev nW (k:Int):Value:=.tuple #[.slice none 0 0,.int .i64 k]
theorem lX (base B:Nat) (b s root p h c:Int) (live n:Nat) (R:Int→Option Tr.Nd) (fr:List Nat) (vs vf:Value) (w:World) (hm:TV base w B b s vs n R vf fr live root) (hS:Sound b s n R fr live) (hp:gI p) (hh:gI h) (hc:gI c)
  (hno:R p=none∨R h=none∨(c≠0∧R c=none)):
  Calls Tryz.prog 32 #[.pointer (some ⟨B,0,none⟩),.int .i64 p,.int .i64 h,.int .i64 c] w fun e w'=>e=.returned (nW 6)∧Below w.heap.size w w':=by
 have H:=fun (x:Int) (hx:gI x) (W:World) (hb:Below w.heap.size w W)=>wF base B b s root x live n R fr vs vf W (hm.below hb) hS hx;have HH:=zh H;clear hm hS H;cases e1:R p with
 | none=>
  go_enter Tryz.func32,Tryz.ntmps32
  go_wp2_with fail;refine (HH.out p hp w (Below.refl _ _)).mono ?_;rintro e w2 ⟨rfl,hb2⟩;rw[e1];clear e1 hno;go_wp2_with fail;go_ret2;exact⟨rfl,hb2⟩
 | some d1=>
  cases e2:R h with
  | none=>
   go_enter Tryz.func32,Tryz.ntmps32
   go_wp2_with fail;refine (HH.out p hp w (Below.refl _ _)).mono ?_;rintro e w2 ⟨rfl,hb2⟩;rw[e1];have H2:=HH.out h hh w2 hb2;rw[e2] at H2;clear e1 e2 hno;go_wp2_with fail;refine H2.mono ?_;rintro e w3 ⟨rfl,hb3⟩;have dA:=hb2.trans (hb3.mono hb2.size);clear H2;go_wp2_with fail;go_ret2;exact⟨rfl,dA⟩
  | some d2=>
   obtain⟨hc0,e3⟩:c≠0∧R c=none:=by
    rcases hno with h1 | h1 | h1
    ·rw[e1] at h1;cases h1
    ·rw[e2] at h1;cases h1
    ·exact h1
   have hq:=bne_true hc0
   go_enter Tryz.func32,Tryz.ntmps32
   go_wp2_with fail;refine (HH.out p hp w (Below.refl _ _)).mono ?_;rintro e w2 ⟨rfl,hb2⟩;rw[e1];have H2:=HH.out h hh w2 hb2;rw[e2] at H2;clear e1 e2 hno;go_wp2_with fail;refine H2.mono ?_;rintro e w3 ⟨rfl,hb3⟩;have dA:=hb2.trans (hb3.mono hb2.size);have H3:=HH.out c hc w3 dA;rw[e3] at H3;clear H2 e3;go_wp2_with fail;refine H3.mono ?_;rintro e w4 ⟨rfl,hb4⟩;have bU:=dA.trans (hb4.mono dA.size);clear H3;go_wp2_with fail;go_ret2;exact⟨rfl,bU⟩
structure uD (base B:Nat) (b s root p h c:Int) (live n:Nat) (g:Tr.G) (av:Int→Tr.Sl) (fr:List Nat) (vs vf:Value) (np nh:Tr.GN) (w:World):Prop where
 tree:TV base w B b s vs n (Tr.raw g av) vf fr live root
 sound:Sound b s n (Tr.raw g av) fr live
 wf:Tr.WF 0 g
 ep:g p=some np
 eh:g h=some nh
 ec:c≠0→(g c).isSome
section
variable {base B n live:Nat} {b s root p h c:Int} {g:Tr.G} {av:Int→Tr.Sl} {fr:List Nat} {vs vf:Value} {np nh:Tr.GN} {w w':World}
theorem uD.has (H:uD base B b s root p h c live n g av fr vs vf np nh w) (hb:Below w.heap.size w w') {x:Int} (hx:(g x).isSome):
  Calls Tryz.prog 71 #[.pointer (some ⟨B,0,none⟩),.int .i64 x] w' fun e w2=>e=.returned (.bool true)∧Below w'.heap.size w' w2:=by
 have:=wF base B b s root x live n (Tr.raw g av) fr vs vf w' (H.tree.below hb) H.sound (bH H.sound (h:=x) (by rw[aK];exact hx)).1;rw[aK,hx] at this;exact this
theorem uD.dI (H:uD base B b s root p h c live n g av fr vs vf np nh w) (hb:Below w.heap.size w w') (hc:c≠0):
  Calls Tryz.prog 73 #[.pointer (some ⟨B,0,none⟩),.int .i64 c] w' fun e w2=>∃ gb o,e=.returned (.pointer (some ⟨gb,o,none⟩))∧w2.cell? ⟨gb,o+4,none⟩=some (.int .i64 (Tr.dI g c))∧Below w'.heap.size w' w2:=by
 obtain⟨m,em⟩:=Option.isSome_iff_exists.1 (H.ec hc);refine (gW base B b s root c live n _ fr vs vf _ w' (H.tree.below hb) H.sound (Tr.aj em)).mono ?_;rintro e w2 ⟨gb,o,rfl,hpt,hb2⟩;refine⟨gb,o,rfl,?_,hb2⟩;obtain⟨_,_,_,_,t4,_⟩:=(((H.tree.below hb).below hb2).np hpt (Tr.aj em)).cells;rw[t4,Tr.aO em];rfl
end
theorem H6 (base B:Nat) (b s root p h c:Int) (live n:Nat) (g:Tr.G) (av:Int→Tr.Sl) (fr:List Nat) (vs vf:Value) (np nh:Tr.GN) (w:World) (H:uD base B b s root p h c live n g av fr vs vf np nh w)
  (hno:Tr.eF g p h=false∨h∈Tr.aS g p∨(c≠0∧Tr.dI g c≠p)):
  Calls Tryz.prog 32 #[.pointer (some ⟨B,0,none⟩),.int .i64 p,.int .i64 h,.int .i64 c] w fun e w'=>e=.returned (nW 10)∧Below w.heap.size w w':=by
 have hpi:=(bH H.sound (h:=p) (by rw[aK,H.ep];rfl)).1;have HP:=zh (H.has (Below.refl _ w) (x:=p) (by rw[H.ep];rfl));have RZ:=zh (fun (W:World) (hb:Below w.heap.size w W)=>H.has hb (x:=h) (by rw[H.eh];rfl));have Rz:=zh (fun (W:World) (hb:Below w.heap.size w W) (hc:c≠0)=>H.has hb (x:=c) (H.ec hc));have HA:=zh (fun (W:World) (hb:Below w.heap.size w W)=>rE base B b s root p h live n g av fr vs vf np nh W (H.tree.below hb) H.sound H.wf H.ep H.eh);have HC:=zh (fun (W:World) (hb:Below w.heap.size w W)=>fA base B b s root h p live n g av fr vs vf W (H.tree.below hb) H.sound H.wf hpi);have XD:=zh (fun (W:World) (hb:Below w.heap.size w W) (hc:c≠0)=>H.dI hb hc);have HN:=zh hno;have HI:=zh H;clear H hno;have key:∀ (w2 w3:World),Below w2.heap.size w2 w3→Below w.heap.size w w2→Below w.heap.size w w3:=fun w2 w3 h h'=>h'.trans (h.mono h'.size);by_cases hc0:c=0
 ·have hq:=bne_false hc0
  go_enter Tryz.func32,Tryz.ntmps32
  go_wp2_with fail;refine HP.out.mono ?_;rintro e w2 ⟨rfl,hb2⟩;go_wp2_with fail;refine (RZ.out w2 hb2).mono ?_;rintro e w3 ⟨rfl,hb3⟩;have dA:=key _ _ hb3 hb2;go_wp2_with fail;refine (HA.out w3 dA).mono ?_;rintro e w4 ⟨rfl,hb4⟩;have bU:=key _ _ hb4 dA;cases ha:Tr.eF g p h with
  | false=>
   clear ha;go_wp2_with fail;go_ret2;exact⟨rfl,bU⟩
  | true=>
   have hu:decide (h∈Tr.aS g p)=true:=by
    rcases HN.out with h1 | h1 | ⟨h1,_⟩
    ·rw[ha] at h1;cases h1
    ·exact decide_eq_true h1
    ·exact absurd hc0 h1
   have vk:=HC.out w4 bU;rw[hu] at vk;clear ha hu;go_wp2_with fail;refine vk.mono ?_;rintro e w5 ⟨rfl,hb5⟩;have dX:=key _ _ hb5 bU;clear vk;go_wp2_with fail;go_ret2;exact⟨rfl,dX⟩
 ·have hq:=bne_true hc0
  go_enter Tryz.func32,Tryz.ntmps32
  go_wp2_with fail;refine HP.out.mono ?_;rintro e w2 ⟨rfl,hb2⟩;go_wp2_with fail;refine (RZ.out w2 hb2).mono ?_;rintro e w3' ⟨rfl,Cg⟩;have rF:=key _ _ Cg hb2;go_wp2_with fail;refine (Rz.out w3' rF hc0).mono ?_;rintro e w3 ⟨rfl,hb3⟩;have dA:=key _ _ hb3 rF;go_wp2_with fail;refine (HA.out w3 dA).mono ?_;rintro e w4 ⟨rfl,hb4⟩;have bU:=key _ _ hb4 dA;cases ha:Tr.eF g p h with
  | false=>
   clear ha;go_wp2_with fail;go_ret2;exact⟨rfl,bU⟩
  | true=>
   have vk:=HC.out w4 bU;by_cases hu:h∈Tr.aS g p
   ·rw[decide_eq_true hu] at vk;clear ha hu;go_wp2_with fail;refine vk.mono ?_;rintro e w5 ⟨rfl,hb5⟩;have dX:=key _ _ hb5 bU;clear vk;go_wp2_with fail;go_ret2;exact⟨rfl,dX⟩
   ·rw[decide_eq_false hu] at vk;have hpc:Tr.dI g c≠p:=by
     rcases HN.out with h1 | h1 | ⟨_,h1⟩
     ·rw[ha] at h1;cases h1
     ·exact absurd h1 hu
     ·exact h1
    have hq3:=bne_true hpc;clear ha hu hpc;go_wp2_with fail;refine vk.mono ?_;rintro e w5 ⟨rfl,hb5⟩;have dX:=key _ _ hb5 bU;have Li:=XD.out w5 dX hc0;clear vk;go_wp2_with fail;refine Li.mono ?_;rintro e w6 ⟨gb,o,rfl,k4,hb6⟩;have iF:=key _ _ hb6 dX;clear Li;go_wp2_with fail;go_ret2;exact⟨rfl,iF⟩
end
section
section
open Go.RowKit
namespace Tr
def dG (g:G) (h:Int):G:=if dI g h=0 then g else iU g h
def fU (g:G) (h:Int):List Rec:=if dI g h=0 then [] else [kM g 2 h]
section
variable {g:G} {h p c:Int} {n q:GN}
theorem WF.dG (w:WF 0 g) (e:g h=some n):WF 0 (dG g h):=by
 unfold Tr.dG;split
 ·exact w
 ·exact w.cut e
theorem wV (e:g h=some n):dG g h h=some { n with pa:=0 }:=by
 unfold dG
 split
 ·rename_i hp;rw[aO e] at hp;rw[e];cases n;simp only at hp;subst hp;rfl
 ·exact lK e
theorem WF.EI (w:WF 0 g) (e:g h=some n) {x:Int} (hx:h∉aS g x):aS (Tr.dG g h) x=aS g x:=by
 unfold Tr.dG
 split
 ·rfl
 ·refine (w.cut e).gU ?_;have key:∀ (x:Int) (l:List Int),Up g x l→h∉l→Up (iU g h) x l:=by
   intro x l u
   induction u with
   | @out y e1=>
    intro _;refine .out ?_;have:=ig (g:=g) (h:=h) (x:=y);rw[e1] at this;exact Option.not_isSome_iff_eq_none.1 (by rw[this];simp)
   | @node y m l e1 u ih=>
    intro hm;simp only[List.mem_cons,not_or] at hm;have:=ig (g:=g) (h:=h) (x:=y);rw[e1] at this;obtain⟨m',em'⟩:=Option.isSome_iff_exists.1 this;obtain⟨m0,e0,h1,_⟩:=jW em' (fun e2=>hm.1 e2.symm);rw[e1] at e0;obtain rfl:=Option.some.inj e0;exact .node em' (by rw[h1];exact ih hm.2)
  exact key _ _ (w.cu x).1 hx
theorem WF.Lg (w:WF 0 g) (e:g h=some n):gM (Tr.dG g h) h=gM g h:=by
 have w1:=w.dG e;have key:∀ x,h∈aS g x→gM (Tr.dG g h) x=gM g x:=by
  refine w.induct fun x ih=>fun hx=>?_;cases ex:g x with
  | none=>rw[w.jI ex] at hx;cases hx
  | some m=>
   have L9:∃ m',Tr.dG g h x=some m'∧m'.kids=m.kids:=by
    by_cases hxh:x=h
    ·rw[hxh,e] at ex;obtain rfl:=Option.some.inj ex;exact⟨{ n with pa:=0 },by rw[hxh];exact wV e,rfl⟩
    ·unfold Tr.dG
     split
     ·exact⟨m,ex,rfl⟩
     ·rw[zA hxh (fun e1=>by
       rw[aO e] at e1;rw[e1] at hx
       exact w.above e (w.cu n.pa).1 hx)]
      exact⟨m,ex,rfl⟩
   obtain⟨m',em',hk⟩:=L9;rw[w1.kE em',w.kE ex,hk];refine congrArg (fun t:List Nat=>t.foldl max 0+1) (List.map_congr_left fun k hk2=>ih m ex k hk2 ?_);rw[w.jC ex hk2];exact List.mem_cons_of_mem _ hx
 exact key h (by rw[w.aT e];simp)
def qA (g:G) (h c:Int):Int:=if c=h then nD (au g (dI g h)) h else c
theorem F8 (w:WF 0 g) (e:g h=some n) (ep:g p=some q) (hu:h∉aS g p) (hc:c=0∨dI g c=p∧(g c).isSome):
  ∃ q1,Tr.dG g h p=some q1∧(qA g h c=0∨qA g h c∈q1.kids):=by
 have zX:p≠h:=fun e1=>by rw[w.aT ep,e1] at hu;exact hu (by simp)
 have hpz:p≠0:=fun e1=>by rw[e1,w.zero] at ep;cases ep
 have L9:∃ q1,Tr.dG g h p=some q1∧q1.kids=q.kids.erase h:=by
  unfold Tr.dG;by_cases hpa:dI g h=p
  ·rw[if_neg (by rw[hpa];exact hpz)];rw[aO e] at hpa;subst hpa;exact⟨_,LX e (fun e1=>zX e1) ep,rfl⟩
  ·have hnk:h∉q.kids:=fun hm=>by
    obtain⟨m,e1,e2⟩:=w.down p q h ep hm;exact hpa (by rw[aO e1];exact e2)
   refine⟨q,?_,(List.erase_of_not_mem hnk).symm⟩
   split
   ·exact ep
   ·rw[zA zX (fun e1=>hpa e1.symm)];exact ep
 obtain⟨q1,e1,e2⟩:=L9;refine⟨q1,e1,?_⟩;rw[e2];unfold qA
 split
 ·rename_i hch;rcases hc with h0 | ⟨h1,_⟩
  ·rw[←hch,h0,w.zero] at e;cases e
  ·rw[hch] at h1;rw[h1,aH ep];by_cases hz:nD q.kids h=0
   ·exact .inl hz
   ·right;refine (List.mem_erase_of_ne ?_).2 (EW hz);intro e3;have hk:=w.tL e (by rw[←aO e,h1];exact hpz);rw[←aO e,h1,aH ep] at hk;obtain⟨l1,l2,e4⟩:=List.append_of_mem hk;have hnd:=w.nodup p q ep;rw[e4] at hnd e3 hz;have h5:h∉l1:=fun hx=>(List.nodup_append.1 hnd).2.2 h hx h (by simp) rfl;rw[gT h5] at e3 hz;exact (List.nodup_cons.1 (List.nodup_append.1 hnd).2.1).1 (e3▸xA hz)
 ·rename_i hch;rcases hc with h0 | ⟨h1,h2⟩
  ·exact .inl h0
  ·right;obtain⟨m,em⟩:=Option.isSome_iff_exists.1 h2;rw[aO em] at h1;have hk:=w.tL em (by rw[h1];exact hpz);rw[h1,aH ep] at hk;exact (List.mem_erase_of_ne hch).2 hk
end
end Tr
theorem Lh (base B:Nat) (b s root h:Int) (live n:Nat) (g:Tr.G) (av:Int→Tr.Sl) (fr:List Nat) (vs vf:Value) (nd:Tr.GN) (w:World) (hm:TV base w B b s vs n (Tr.raw g av) vf fr live root) (hS:Sound b s n (Tr.raw g av) fr live) (hw:Tr.WF 0 g) (eg:g h=some nd):
  Calls Tryz.prog 76 #[.pointer (some ⟨B,0,none⟩),.int .i64 h] w fun e w'=>∃ v,e=.returned v∧bL w.heap.size w' v (Tr.fU g h)∧TV base w' B b s vs n (Tr.raw (Tr.dG g h) av) vf fr live root∧aB w w' (aD B vs vf) (aD B vs vf):=by
 unfold Tr.fU Tr.dG;rw[Tr.aO eg];by_cases hp:nd.pa=0
 ·rw[if_pos hp,if_pos hp];refine (Qt base B b s root h live n g av fr vs vf nd w hm hS eg hp).mono ?_;rintro e w' ⟨rfl,hb⟩;exact⟨_,rfl,bL.nil _ _,hm.below hb,.of_below hb⟩
 ·rw[if_neg hp,if_neg hp];exact Qu base B b s root h live n g av fr vs vf nd w hm hS hw eg hp
theorem uQ {b s:Int} {n live:Nat} {g:Tr.G} {av:Int→Tr.Sl} {fr:List Nat} {h:Int} {nd:Tr.GN} (hS:Sound b s n (Tr.raw g av) fr live) (hw:Tr.WF 0 g) (eg:g h=some nd):Sound b s n (Tr.raw (Tr.dG g h) av) fr live:=by
 unfold Tr.dG
 split
 ·exact hS
 ·rename_i hp;rw[Tr.aO eg] at hp;rw[Tr.LV hw eg hp];exact hS.vZ
theorem uN {b s:Int} {n live:Nat} {g:Tr.G} {av:Int→Tr.Sl} {fr:List Nat} {p h c:Int} {nd q:Tr.GN} (hS:Sound b s n (Tr.raw g av) fr live) (hw:Tr.WF 0 g) (eh:g h=some nd) (hn:nd.pa=0) (ep:g p=some q) (hp:h≠p) (hc:c=0∨c∈q.kids):Sound b s n (Tr.raw (Tr.bO g p h c) av) fr live:=by
 rw[Tr.Hf hw eh hn ep hp hc];exact hS.linked
theorem sN (base B:Nat) (b s root p h c:Int) (live n:Nat) (g:Tr.G) (av:Int→Tr.Sl) (fr:List Nat) (vs vf:Value) (nd q:Tr.GN) (w:World) (hm:TV base w B b s vs n (Tr.raw g av) vf fr live root) (hS:Sound b s n (Tr.raw g av) fr live) (hw:Tr.WF 0 g)
  (eh:g h=some nd) (hn:nd.pa=0) (ep:g p=some q) (hp:h≠p) (hc:c=0∨c∈q.kids):
  Calls Tryz.prog 77 #[.pointer (some ⟨B,0,none⟩),.int .i64 p,.int .i64 h,.int .i64 c] w fun e w'=>(∃ u,e=.returned u)∧TV base w' B b s vs n (Tr.raw (Tr.bO g p h c) av) vf fr live root∧aB w w' (aD B vs vf) (aD B vs vf):=by
 rw[Tr.Hf hw eh hn ep hp hc];have hpz:p≠0:=fun e1=>by rw[e1,hw.zero] at ep;cases ep
 have hnk:h∉q.kids:=fun hm=>by
  obtain⟨m,h1,h2⟩:=hw.down p q h ep hm;rw[eh] at h1;obtain rfl:=Option.some.inj h1;exact hpz (by rw[←h2,hn])
 have hcm:c≠0→∃ mc,g c=some mc∧mc.pa=p:=fun e=>hw.down p q c ep (by rcases hc with h1 | h1;exact absurd h1 e;exact h1);have ZJ:(if c=0 then Tr.dF q.kids else Tr.prv q.kids c)≠0→(if c=0 then Tr.dF q.kids else Tr.prv q.kids c)∈q.kids:=fun e=>by
  split at e
  ·rename_i h1;rw[if_pos h1];exact Tr.oz e
  ·rename_i h1;rw[if_neg h1];exact Tr.LQ e
 obtain⟨dc,hdc⟩:=some_or (R:=Tr.raw g av) (c:=c) (fun e=>by obtain⟨mc,e1,_⟩:=hcm e;exact⟨_,Tr.aj e1⟩);obtain⟨dv,hdv⟩:=some_or (R:=Tr.raw g av) (c:=if c=0 then Tr.dF q.kids else Tr.prv q.kids c) (fun e=>by obtain⟨mv,e1,_⟩:=hw.down p q _ ep (ZJ e);exact⟨_,Tr.aj e1⟩);refine Qp base B b s root p h c live n _ fr vs vf _ _ dc dv _ w hm hS (Tr.aj ep) (Tr.aj eh) hdc ?_ hdv hp (fun e e1=>?_) (fun e e1=>hnk (by rw[e1];exact ZJ e))
 ·by_cases h1:c=0
  ·rw[if_pos h1,if_pos h1];rfl
  ·rw[if_neg h1,if_neg h1];obtain⟨mc,e1,e2⟩:=hcm h1;have:=hdc h1;rw[Tr.aj e1] at this;obtain rfl:=Option.some.inj this;show _=Tr.prv (Tr.au g mc.pa) c;rw[e2,Tr.aH ep]
 ·rcases hc with h1 | h1
  ·exact e h1
  ·exact hnk (e1▸h1)
end
end
section
open Go.RowKit
theorem recInfo:(Tryz.prog.info? 144).map (fun i=>(i.zero,i.size,i.bytes))=some (some (.agg #[.int .i64 0,.int .i64 0,.int .i64 0,.int .i64 0,.int .i64 0,.int .i64 0,.string ⟨#[]⟩,.string ⟨#[]⟩,.bool false,.int .i64 0,.int .i64 0]),11,104):=by kernel_rfl
theorem lS (l m:List Tr.Rec):gP (l++m)=gP l++gP m:=by simp[gP]
theorem Ac (r:Tr.Rec):∀ u∈gP [r],u.oneCell'=true:=fun u hu=>by
 simp only[gP,VE,List.flatMap_cons,List.flatMap_nil,List.append_nil,List.mem_cons,List.not_mem_nil,or_false] at hu;rcases hu with rfl | rfl | rfl | rfl | rfl | rfl | rfl | rfl | rfl | rfl | rfl<;>rfl
theorem NJ {w:World} {b1 b2 size:Nat} {e:TypeId} {v:Value} {n:Nat} {xs:List Value} (h:w.ownsRow b1 e size v n xs) (hb:b2≤b1):w.ownsRow b2 e size v n xs:=by
 refine⟨h.1,?_⟩;rcases h.2 with hn | ⟨g,cap,cur,hv,h0,hr⟩
 ·exact .inl hn
 ·exact .inr ⟨g,cap,cur,hv,Nat.le_trans hb h0,hr⟩
theorem bL.lower {b1 b2:Nat} {w:World} {v:Value} {l:List Tr.Rec} (h:bL b1 w v l) (hb:b2≤b1):bL b2 w v l:=NJ h hb
theorem bL.below {b:Nat} {w w':World} {v:Value} {l:List Tr.Rec} (h:bL b w v l) (hb:Below w.heap.size w w'):bL b w' v l:=bY (S:=fun _=>False) h (.of_below hb) (fun _ _=>id)
section
variable {base B n live:Nat} {w w1:World} {b s root:Int} {vs vf:Value} {R:Int→Option Tr.Nd} {fr:List Nat}
theorem TV.apart {b2 size m:Nat} {e:TypeId} {v:Value} {xs:List Value} (hM:TV base w B b s vs n R vf fr live root) (h:w.ownsRow b2 e size v m xs) (h1:e≠58) (h2:e≠130) (h3:e≠3):∀ k,v.ownBlock=some k→¬ aD B vs vf k:=by
 rintro k hk (rfl | hx | hx)
 ·exact bE h hM.var h1 hk
 ·rcases own_ne h hM.row h2 with h4 | h4
  ·rw[h4] at hk;cases hk
  ·exact h4 (hk.trans hx.symm)
 ·rcases own_ne h hM.free h3 with h4 | h4
  ·rw[h4] at hk;cases hk
  ·exact h4 (hk.trans hx.symm)
theorem bL.step {b2:Nat} {v:Value} {l:List Tr.Rec} {F':Nat→Prop} (h:bL b2 w v l) (hM:TV base w B b s vs n R vf fr live root) (st:aB w w1 (aD B vs vf) F'):bL b2 w1 v l:=
 bY h st.1 (hM.apart h (by decide) (by decide) (by decide))
theorem TV.wW {b2:Nat} {v:Value} {l:List Tr.Rec} (hM:TV base w B b s vs n R vf fr live root) (h:bL b2 w v l) (g:w.grownBy w1 v.ownBlock):TV base w1 B b s vs n R vf fr live root:=
 hM.turns (S:=fun k=>v.ownBlock=some k) (.aU g (fun k hk=>hk)) (fun k hk e=>hM.apart h (by decide) (by decide) (by decide) k e hk)
theorem aB.lH {F F':Nat→Prop} {w2:World} {S:Nat→Prop} (st:aB w w1 F F') (h:Turns S w1 w2) (hS:∀ k,S k→w.heap.size≤k):aB w w2 F F':=
 ⟨st.1.trans h (fun _ _ x=>x) (fun k hk x=>absurd hk (Nat.not_lt.2 (hS k x))),st.2⟩
theorem uD.next {p h c:Int} {g:Tr.G} {av:Int→Tr.Sl} {np nh:Tr.GN} {w':World} (H:uD base B b s root p h c live n g av fr vs vf np nh w) (hb:Below w.heap.size w w'):
  Calls Tryz.prog 73 #[.pointer (some ⟨B,0,none⟩),.int .i64 h] w' fun e w2=>∃ gb o,e=.returned (.pointer (some ⟨gb,o,none⟩))∧w2.cell? ⟨gb,o+8,none⟩=some (.int .i64 (Tr.nD (Tr.au g (Tr.dI g h)) h))∧Below w'.heap.size w' w2:=by
 refine (gW base B b s root h live n _ fr vs vf _ w' (H.tree.below hb) H.sound (Tr.aj H.eh)).mono ?_;rintro e w2 ⟨gb,o,rfl,hpt,hb2⟩;refine⟨gb,o,rfl,?_,hb2⟩;obtain⟨_,_,_,_,_,_,_,_,t8⟩:=(((H.tree.below hb).below hb2).np hpt (Tr.aj H.eh)).cells;rw[t8,Tr.aO H.eh];rfl
end
theorem Fv (base B:Nat) (b s root p h c:Int) (live n:Nat) (g:Tr.G) (av:Int→Tr.Sl) (fr:List Nat) (vs vf:Value) (np nh:Tr.GN) (w:World) (H:uD base B b s root p h c live n g av fr vs vf np nh w)
  (hacc:Tr.eF g p h=true) (hu:h∉Tr.aS g p) (hpc:c≠0→Tr.dI g c=p) (hlim:128<(Tr.aS g p).length+Tr.gM g h):
  Calls Tryz.prog 32 #[.pointer (some ⟨B,0,none⟩),.int .i64 p,.int .i64 h,.int .i64 c] w fun e w'=>e=.returned (nW 5)∧Below w.heap.size w w':=by
 have hpi:=(bH H.sound (h:=p) (by rw[aK,H.ep];rfl)).1;have HP:=zh (H.has (Below.refl _ w) (x:=p) (by rw[H.ep];rfl));have RZ:=zh (fun (W:World) (hb:Below w.heap.size w W)=>H.has hb (x:=h) (by rw[H.eh];rfl));have Rz:=zh (fun (W:World) (hb:Below w.heap.size w W) (hc:c≠0)=>H.has hb (x:=c) (H.ec hc));have HA:=zh (fun (W:World) (hb:Below w.heap.size w W)=>rE base B b s root p h live n g av fr vs vf np nh W (H.tree.below hb) H.sound H.wf H.ep H.eh);have HC:=zh (fun (W:World) (hb:Below w.heap.size w W)=>fA base B b s root h p live n g av fr vs vf W (H.tree.below hb) H.sound H.wf hpi);have XD:=zh (fun (W:World) (hb:Below w.heap.size w W) (hc:c≠0)=>H.dI hb hc);have hdl:=(H.wf.cu p).2;have hgl:=H.wf.qz h;have HD:=fun (W:World) (hb:Below w.heap.size w W)=>Du base B b s root p live n g av fr vs vf W (H.tree.below hb) H.sound H.wf hpi;have HG:=fun (W:World) (hb:Below w.heap.size w W)=>zY base B b s root live n g av fr vs vf H.sound H.wf h (by rw[H.eh];rfl) W (H.tree.below hb);have key:∀ (w2 w3:World),Below w2.heap.size w2 w3→Below w.heap.size w w2→Below w.heap.size w w3:=fun w2 w3 h h'=>h'.trans (h.mono h'.size);clear H;obtain⟨D,hD⟩:=eX ((Tr.aS g p).length)
 obtain⟨X,hX⟩:=eX (Tr.gM g h)
 rw[hD] at HD hdl hlim;rw[hX] at HG hgl hlim;have hXl:X≤129:=by omega
 replace HD:=zh HD;replace HG:=zh HG;have hq9:decide ((128:Int)<(D:Int)+(X:Int))=true:=decide_eq_true (by omega);by_cases hc0:c=0
 ·subst hc0;have hq:((0:Int) != 0)=false:=rfl
  go_enter Tryz.func32,Tryz.ntmps32
  go_wp2_with fail;refine HP.out.mono ?_;rintro e w2 ⟨rfl,hb2⟩;go_wp2_with fail;refine (RZ.out w2 hb2).mono ?_;rintro e w3 ⟨rfl,hb3⟩;have dA:=key _ _ hb3 hb2;have EJ:=HA.out w3 dA;rw[hacc] at EJ;go_wp2_with fail;refine EJ.mono ?_;rintro e w4 ⟨rfl,hb4⟩;have bU:=key _ _ hb4 dA;have vk:=HC.out w4 bU;rw[decide_eq_false hu] at vk;clear EJ;go_wp2_with fail;refine vk.mono ?_;rintro e w5 ⟨rfl,hb5⟩;have dX:=key _ _ hb5 bU;clear vk;go_wp2_with fail;refine (HD.out w5 dX).mono ?_;rintro e w6 ⟨rfl,hb6⟩;have iF:=key _ _ hb6 dX;go_wp2_with fail;refine (HG.out w6 iF).mono ?_;rintro e w7 ⟨rfl,lq⟩;have qN:=key _ _ lq iF;go_wp2_with fail;go_ret2;exact⟨rfl,qN⟩
 ·have hq:=bne_true hc0;replace hpc:=hpc hc0
  go_enter Tryz.func32,Tryz.ntmps32
  go_wp2_with fail;refine HP.out.mono ?_;rintro e w2 ⟨rfl,hb2⟩;go_wp2_with fail;refine (RZ.out w2 hb2).mono ?_;rintro e w3' ⟨rfl,Cg⟩;have rF:=key _ _ Cg hb2;go_wp2_with fail;refine (Rz.out w3' rF hc0).mono ?_;rintro e w3 ⟨rfl,hb3⟩;have dA:=key _ _ hb3 rF;have EJ:=HA.out w3 dA;rw[hacc] at EJ;go_wp2_with fail;refine EJ.mono ?_;rintro e w4 ⟨rfl,hb4⟩;have bU:=key _ _ hb4 dA;have vk:=HC.out w4 bU;rw[decide_eq_false hu] at vk;clear EJ;go_wp2_with fail;refine vk.mono ?_;rintro e YE ⟨rfl,Pj⟩;have xZ:=key _ _ Pj bU;have Li:=XD.out YE xZ hc0;rw[hpc] at Li;clear vk;go_wp2_with fail;refine Li.mono ?_;rintro e w5 ⟨gb,o,rfl,k4,hb5⟩;have dX:=key _ _ hb5 xZ;have hpp:(p != p)=false:=by simp
  clear Li;go_wp2_with fail;refine (HD.out w5 dX).mono ?_;rintro e w6 ⟨rfl,hb6⟩;have iF:=key _ _ hb6 dX;go_wp2_with fail;refine (HG.out w6 iF).mono ?_;rintro e w7 ⟨rfl,lq⟩;have qN:=key _ _ lq iF;go_wp2_with fail;go_ret2;exact⟨rfl,qN⟩
end
section
open Go Go.RowKit
def fP (l:List (ByteArray×ByteArray)):List Value:=l.flatMap fun p=>[.string p.1,.string p.2]
theorem jT (l m:List (ByteArray×ByteArray)):fP (l++m)=fP l++fP m:=by simp[fP]
theorem zm (l:List (ByteArray×ByteArray)):(fP l).length=l.length*2:=by
 induction l with
 | nil=>rfl
 | cons p r ih=>
  have e:fP (p::r)=[.string p.1,.string p.2]++fP r:=rfl;rw[e,List.length_append,ih];simp only[List.length_cons,List.length_nil];omega
theorem jl (l:List (ByteArray×ByteArray)):∀ u∈fP l,u.oneCell'=true:=by
 intro u hu;simp only[fP,List.mem_flatMap] at hu;obtain⟨p,_,hu⟩:=hu;simp at hu;rcases hu with rfl | rfl<;>rfl
theorem ji:∀ (l:List (ByteArray×ByteArray)) (i:Nat) (p:ByteArray×ByteArray),l[i]?=some p→(fP l)[i*2]?=some (.string p.1)∧(fP l)[i*2+1]?=some (.string p.2):=by
 intro l
 induction l with
 | nil=>intro i p h;simp at h
 | cons q r ih=>
  intro i p h;have e:fP (q::r)=[.string q.1,.string q.2]++fP r:=rfl;cases i with
  | zero=>simp at h;subst h;exact⟨rfl,rfl⟩
  | succ i=>
   obtain⟨h1,h2⟩:=ih i p (by simpa using h);refine⟨?_,?_⟩
   ·rw[e,show (i+1)*2=i*2+2 from by omega];exact h1
   ·rw[e,show (i+1)*2+1=(i*2+1)+2 from by omega];exact h2
theorem OL (l:List (ByteArray×ByteArray)) (i:Nat):(fP l).take (i*2)=fP (l.take i):=by
 induction l generalizing i with
 | nil=>simp[fP]
 | cons q r ih=>
  have e:fP (q::r)=.string q.1::.string q.2::fP r:=rfl;cases i with
  | zero=>simp[fP]
  | succ i=>
   have e2:fP ((q::r).take (i+1))=.string q.1::.string q.2::fP (r.take i):=rfl;rw[e,e2,show (i+1)*2=i*2+1+1 from by omega,List.take_succ_cons,List.take_succ_cons,ih]
theorem OM (l:List (ByteArray×ByteArray)) (i:Nat):(fP l).drop (i*2)=fP (l.drop i):=by
 induction l generalizing i with
 | nil=>simp[fP]
 | cons q r ih=>
  have e:fP (q::r)=.string q.1::.string q.2::fP r:=rfl;cases i with
  | zero=>simp
  | succ i=>rw[e,show (i+1)*2=i*2+1+1 from by omega,List.drop_succ_cons,List.drop_succ_cons,ih];rfl
theorem zo (l:List (ByteArray×ByteArray)) (i:Nat) (p:ByteArray×ByteArray) (h:l[i]?=some p) (v:ByteArray):(fP l).set (i*2+1) (.string v)=fP (l.set i (p.1,v)):=by
 induction l generalizing i with
 | nil=>simp at h
 | cons q r ih=>
  have e:fP (q::r)=.string q.1::.string q.2::fP r:=rfl;cases i with
  | zero=>simp at h;subst h;rfl
  | succ i=>
   rw[e,show (i+1)*2+1=(i*2+1)+1+1 from by omega,List.set_cons_succ,List.set_cons_succ,ih i (by simpa using h)];rfl
theorem Dy (l:List Int) (i:Nat):(ints l).take i=ints (l.take i):=by simp[ints]
theorem Dz (l:List Int) (i:Nat):(ints l).drop i=ints (l.drop i):=by simp[ints]
structure RS where
 kind:Int
 name:ByteArray
 a:Tr.Sl
 at':List (ByteArray×ByteArray)
 data:ByteArray
 pa:Int
 k:Tr.Sl
 kids:List Int
 gone:Bool
def qO (x:RS):List Value:=[.int .i64 x.kind,.string x.name,x.a.v,.string x.data,.int .i64 x.pa,x.k.v,.bool x.gone]
theorem tq:∀ c,(qO c).length=7:=fun _=>rfl
theorem sW (x:RS):∀ u∈qO x,u.oneCell'=true:=by
 intro u hu;simp only[qO,List.mem_cons,List.not_mem_nil,or_false] at hu;rcases hu with rfl | rfl | rfl | rfl | rfl | rfl | rfl<;>rfl
def aX (f:Nat→RS) (i:Nat) (u:RS→RS):Nat→RS:=fun j=>if j=i then u (f i) else f j
theorem ku (f:Nat→RS) (i:Nat) (u:RS→RS):aX f i u i=u (f i):=if_pos rfl
theorem iP {f:Nat→RS} {i j:Nat} {u:RS→RS} (h:j≠i):aX f i u j=f j:=if_neg h
structure MV (base:Nat) (w:World) (M:Nat) (vs:Value) (m:Nat) (f:Nat→RS):Prop where
 low:base≤M
 var:Whole w M #[vs] 72
 row:w.ownsRow base 75 7 vs m (bW qO m f)
 ar:∀ i,i<m→TR w base 96 2 (f i).a.v (f i).at'.length (fP (f i).at')
 kr:∀ i,i<m→TR w base 3 1 (f i).k.v (f i).kids.length (ints (f i).kids)
 aa:∀ i j,i<m→j<m→i≠j→∀ x,(f i).a.v.ownBlock=some x→(f j).a.v.ownBlock≠some x
 kk:∀ i j,i<m→j<m→i≠j→∀ x,(f i).k.v.ownBlock=some x→(f j).k.v.ownBlock≠some x
def aC (M:Nat) (vs:Value) (m:Nat) (f:Nat→RS):Nat→Prop:=fun x=>x=M∨vs.ownBlock=some x∨∃ i,i<m∧((f i).a.v.ownBlock=some x∨(f i).k.v.ownBlock=some x)
section
variable {base M m:Nat} {w w1 w':World} {vs v':Value} {f:Nat→RS}
theorem TR.Sg {w:World} {base b size n:Nat} {e t:TypeId} {v:Value} {xs:List Value} {cs:Array Value} (h:TR w base e size v n xs) (hb:Whole w b cs t) (hn:e≠t):v.ownBlock=none∨v.ownBlock≠some b:=.inr (h.unlike hb hn)
theorem MV.lt (h:MV base w M vs m f):∀ x,aC M vs m f x→base≤x∧x<w.heap.size:=by
 rintro x (rfl | hx | ⟨i,hi,hx | hx⟩)
 ·exact⟨h.low,h.var.lt⟩
 ·exact h.row.lt x hx
 ·exact (h.ar i hi).lt x hx
 ·exact (h.kr i hi).lt x hx
theorem MV.turns {S:Nat→Prop} (h:MV base w M vs m f) (ht:Turns S w w') (hn:∀ x,aC M vs m f x→¬ S x):MV base w' M vs m f:=
 ⟨h.low,h.var.turns ht (hn M (.inl rfl)),bY h.row ht (fun k hk=>hn k (.inr (.inl hk))),fun i hi=>(h.ar i hi).turns ht (fun k hk=>hn k (.inr (.inr ⟨i,hi,.inl hk⟩))),fun i hi=>(h.kr i hi).turns ht (fun k hk=>hn k (.inr (.inr ⟨i,hi,.inr hk⟩))),h.aa,h.kk⟩
theorem MV.below (h:MV base w M vs m f) (hb:Below w.heap.size w w'):MV base w' M vs m f:=h.turns (S:=fun _=>False) (.of_below hb) fun _ _=>id
theorem MV.cell (h:MV base w M vs m f):w.cell? ⟨M,0,none⟩=some vs∧w.frozen? ⟨M,0,none⟩=false:=⟨h.var.cell 0,h.var.free 0⟩
theorem MV.form (h:MV base w M vs m f):∃ A c,vs=.slice A m c:=aF (aG h.row)
theorem MV.node {A:Option Addr} {c:Nat} (h:MV base w M (.slice A m c) m f) (hl:0<m):∃ g,A=some ⟨g,0,none⟩∧g≠M∧base≤g∧g<w.heap.size∧∀ i j,i<m→j<7→w.cell? ⟨g,i*7+j,none⟩=(qO (f i))[j]?∧w.frozen? ⟨g,i*7+j,none⟩=false:=by
 obtain⟨g,rfl,hlt,_⟩:=lC (aG h.row) hl;refine⟨g,rfl,fun e=>bE h.row h.var (by decide) (by simp[Value.ownBlock,e]),(h.row.lt g (by simp[Value.ownBlock])).1,hlt,fun i j hi hj=>⟨?_,h.row.frozenAt _⟩⟩;have hb:i*7+j<m*7:=by omega
 rw[h.row.cellAt _ hb];exact jS tq _ hi hj
theorem MV.NK {b:Nat} (h:MV base w M vs m f) (g:w.grownBy w' (some b)) (hb:∀ i,i<m→(f i).a.v.ownBlock≠some b∧(f i).k.v.ownBlock≠some b):
  (∀ i,i<m→TR w' base 96 2 (f i).a.v (f i).at'.length (fP (f i).at'))∧(∀ i,i<m→TR w' base 3 1 (f i).k.v (f i).kids.length (ints (f i).kids)):=
 ⟨fun i hi=>(h.ar i hi).kept g (.inr (hb i hi).1),fun i hi=>(h.kr i hi).kept g (.inr (hb i hi).2)⟩
theorem dN {b1 b2 s1 s2 n1 n2:Nat} {e1 e2:TypeId} {v1 v2:Value} {x1 x2:List Value} (h1:TR w b1 e1 s1 v1 n1 x1) (h2:w.ownsRow b2 e2 s2 v2 n2 x2) (hn:e1≠e2):∀ k,v2.ownBlock=some k→v1.ownBlock≠some k:=fun k hk hk1=>h1.ne (TR.jP h2) hn k hk1 hk
theorem MV.put {g c i j:Nat} {v:Value} (h:MV base w M (.slice (some ⟨g,0,none⟩) m c) m f) (hi:i<m) (hj:j<7) (u:RS→RS) (hv:qO (u (f i))=(qO (f i)).set j v) (ha:(u (f i)).a=(f i).a∧(u (f i)).at'=(f i).at'∧(u (f i)).k=(f i).k∧(u (f i)).kids=(f i).kids):
  MV base (w.setCell ⟨g,i*7+j,none⟩ v) M (.slice (some ⟨g,0,none⟩) m c) m (aX f i u)∧aB w (w.setCell ⟨g,i*7+j,none⟩ v) (aC M (.slice (some ⟨g,0,none⟩) m c) m f) (aC M (.slice (some ⟨g,0,none⟩) m c) m (aX f i u)):=by
 obtain⟨o1,g1⟩:=h.row.stored (i*7+j) v;have hne:∀ i,i<m→(f i).a.v.ownBlock≠some g∧(f i).k.v.ownBlock≠some g:=fun i hi=>⟨dN (h.ar i hi) h.row (by decide) g (by simp[Value.ownBlock]),dN (h.kr i hi) h.row (by decide) g (by simp[Value.ownBlock])⟩
 obtain⟨r1,r2⟩:=h.NK g1 hne;have q:∀ x,(aX f i u x).a=(f x).a∧(aX f i u x).at'=(f x).at'∧(aX f i u x).k=(f x).k∧(aX f i u x).kids=(f x).kids:=fun x=>by
  unfold aX;split
  ·rename_i e;subst e;exact ha
  ·exact⟨rfl,rfl,rfl,rfl⟩
 have hF:aC M (.slice (some ⟨g,0,none⟩) m c) m (aX f i u)=aC M (.slice (some ⟨g,0,none⟩) m c) m f:=by
  funext x;unfold aC;simp only[(q _).1,(q _).2.2.1]
 refine⟨⟨h.low,h.var.grown g1 (fun e=>bE h.row h.var (by decide) e.symm),?_,fun x hx=>?_,fun x hx=>?_,fun x y hx hy e=>?_,fun x y hx hy e=>?_⟩,?_⟩
 ·have e:(bW qO m f).set (i*7+j) v=bW qO m (aX f i u):=by
   rw[qC tq _ (u (f i)) v hi hj hv];exact jo fun k _=>by unfold aX;rfl
  rw[←e];exact o1
 ·rw[(q x).1,(q x).2.1];exact r1 x hx
 ·rw[(q x).2.2.1,(q x).2.2.2];exact r2 x hx
 ·rw[(q x).1,(q y).1];exact h.aa x y hx hy e
 ·rw[(q x).2.2.1,(q y).2.2.1];exact h.kk x y hx hy e
 ·rw[hF];exact .pR (.aU g1 (fun k hk=>.inr (.inl (by simpa [Value.ownBlock] using hk))))
end
end
section
open Go.RowKit
theorem Bz (s:ByteArray) (w:World) (hs:s.size≤20000) (hT:Lit w):
  Calls Tryz.prog 111 #[.string s] w fun e w'=>e=.returned (.bool (decide (bB.rep s.data.toList=s.data.toList)))∧Below w.heap.size w w':=by
 have hR:=Tryz.GU s w (by omega) hT;rw[bB.Nv] at hR
 go_enter Tryz.func111,Tryz.ntmps111
 go_wp2_with fail;refine hR.mono ?_;rintro e w2 ⟨rfl,hb⟩;go_wp2_with fail
 go_ret
 exact⟨rfl,hb⟩
end
section
open Go Go.RowKit Go.Shelf
def acc (a:Int) (pre:List (Nat×List UInt8)):List Value:=pre.flatMap fun x=>if a≤(x.1:Int) then Lib.runeCells ((code x.2:Nat):Int) else []
theorem H7 (a:Int) (pre:List (Nat×List UInt8)) (x:Nat×List UInt8):acc a (pre++[x])=acc a pre++(if a≤(x.1:Int) then Lib.runeCells ((code x.2:Nat):Int) else []):=by
 simp[acc,List.flatMap_append]
theorem Tj (a:Int) (pre:List (Nat×List UInt8)):(acc a pre).length≤4*pre.length:=by
 induction pre with
 | nil=>simp[acc]
 | cons x r ih=>
  have h4:=Lib.runeCells_le ((code x.2:Nat):Int);have:acc a (x::r)=(if a≤(x.1:Int) then Lib.runeCells ((code x.2:Nat):Int) else [])++acc a r:=by simp[acc]
  rw[this,List.length_append,List.length_cons]
  split
  ·omega
  ·simp only[List.length_nil];omega
theorem BA (cs:List (List UInt8)) (k:Nat) (h:k<cs.length):(enum cs).take (k+1)=(enum cs).take k++[(k,cs.getD k [])]:=by
 have hd:cs.drop k=cs.getD k []::cs.drop (k+1):=by
  rw[List.drop_eq_getElem_cons h];simp[List.getD,h]
 exact (drop_cons hd).2.2.2
theorem Qx (a:Int) (cs:List (List UInt8)) (hg:∀ c∈cs,bB.Good c):∀ k,k≤cs.length→acc a ((enum cs).take k)=Lib.byteCells (seg cs a.toNat k).flatten:=by
 intro k
 induction k with
 | zero=>intro _;rw[nG cs _ 0 (Nat.zero_le _)];rfl
 | succ k ih=>
  intro h;have hk:k<cs.length:=h;rw[BA cs k hk,H7,ih (by omega)];have hgc:bB.Good (cs.getD k []):=hg _ (by simp[List.getD,hk]);by_cases hak:a≤(k:Int)
  ·rw[if_pos hak,Kn hgc,Ht cs a.toNat k (by omega) hk,List.flatten_append];simp[Lib.byteCells]
  ·rw[if_neg hak,nG cs _ k (by omega),nG cs _ (k+1) (by omega)];rfl
theorem Fw {T e:TypeId} {B b:Nat} {bs:List Value} {W W':World} {row:Option Nat} (h:Lib.IsBuilderF T e B b bs W) (hg:W.grownBy W' row)
  (hr:∀ r,row=some r→∃ o:Obj,W.heap[r]?=some o∧o.isCells=false):Lib.IsBuilderF T e B b bs W':=by
 have hone:∀ p,Lib.BuilderAtF T e B b p bs W→Lib.BuilderAtF T e B b p bs W':=by
  rintro p ⟨hB,v,hb,hown,hne⟩;have hbl:b<W.heap.size:=(Array.getElem?_eq_some_iff.1 hb).1;refine⟨hB,v,?_,hown.kept hg ?_,hne⟩
  ·rw[hg.block b hbl ?_]
   ·exact hb
   ·intro e;obtain⟨o,ho,hc⟩:=hr b e.symm;rw[hb] at ho;obtain rfl:=Option.some.inj ho;cases hc
  ·by_cases hv:v.ownBlock=none
   ·exact .inl hv
   ·right;intro e;obtain⟨r,hvr⟩:=Option.ne_none_iff_exists'.1 hv;obtain⟨o,ho,hc⟩:=hr r (by rw[←e,hvr]);obtain⟨c,fz,hcc⟩:=Lib.ownsRowF_kind hown r hvr;rw[hcc] at ho;obtain rfl:=Option.some.inj ho;cases hc
 rcases h with h | h
 ·exact .inl (hone _ h)
 ·exact .inr (hone _ h)
theorem BD {b:Nat} {bs:List Value} {W W':World} (h:Lib.OthersKept 5 (some b) W W') (hs:W.heap.size≤W'.heap.size) (hb:Lib.IsBuilderF 166 5 b b bs W):KeepsOthers W W':=by
 refine⟨hs,fun k o hk ho=>h k o hk (fun e=>?_) (fun c fz e=>?_)⟩
 ·obtain rfl:=Option.some.inj e;rcases hb with ⟨_,v,hc,_⟩ | ⟨_,v,hc,_⟩<;>
  ·rw[hc] at hk;obtain rfl:=Option.some.inj hk;cases ho
 ·subst e;cases ho
theorem BF {T e:TypeId} {B b:Nat} {bs:List Value} {W:World} (h:Lib.IsBuilderF T e B b bs W):b<W.heap.size:=by
 rcases h with h | h<;>exact h.lt
theorem CB {T e:TypeId} {B b:Nat} {bs:List Value} {W W':World} (h:Lib.IsBuilderF T e B b bs W) (hb:Below W.heap.size W W'):Lib.IsBuilderF T e B b bs W':=by
 have hone:∀ p,Lib.BuilderAtF T e B b p bs W→Lib.BuilderAtF T e B b p bs W':=by
  rintro p ⟨hB,v,hc,hown,hne⟩;have hbl:b<W.heap.size:=(Array.getElem?_eq_some_iff.1 hc).1;refine⟨hB,v,(hb.block b hbl).trans hc,⟨hown.1,?_⟩,hne⟩;rcases hown.2 with hn | ⟨g,cap,cur,fz,rfl,hg,hgg,rest⟩
  ·exact .inl hn
  ·exact .inr ⟨g,cap,cur,fz,rfl,hg,(hb.block g (Array.getElem?_eq_some_iff.1 hgg).1).trans hgg,rest⟩
 rcases h with h | h
 ·exact .inl (hone _ h)
 ·exact .inr (hone _ h)
theorem yU {e:TypeId} {b D:Nat} {bs:List Value} {T:TypeId} {W W':World} (h:Lib.OthersKept e (some b) W W') (hK:W.heap[D]?=some (.deferred (some []))) (hb:Lib.IsBuilderF T e b b bs W):W'.heap[D]?=some (.deferred (some [])):=by
 refine h D _ hK (fun x=>?_) (fun c fz x=>by cases x);obtain rfl:=Option.some.inj x;rcases hb with ⟨_,v,hc,_⟩ | ⟨_,v,hc,_⟩<;>rw[hc] at hK<;>cases hK
end
section
open Go.RowKit Go.Shelf
attribute [local go_sem] Oper.semAt_some
theorem Tk (cs:List (List UInt8)) (hg:∀ c∈cs,bB.Good c):acc 0 (enum cs)=Lib.byteCells cs.flatten:=by
 have h:=Qx 0 cs hg cs.length (Nat.le_refl _);rw[←mh cs,List.take_length,mh] at h;rw[h];unfold seg;rw[List.take_length];rfl
theorem gY (s:ByteArray) (w:World) (hs:s.size≤20000) (hT:Lit w):
  Calls Tryz.prog 64 #[.string s] w fun e w'=>e=.returned (.string (fB (bB.rep s.data.toList)))∧Below w.heap.size w w':=by
 have hV:=Bz s w hs hT;by_cases hv:bB.rep s.data.toList=s.data.toList
 ·rw[decide_eq_true hv] at hV;have hres:fB (bB.rep s.data.toList)=s:=by rw[hv,tC]
  rw[hres]
  go_enter Tryz.func64,Tryz.ntmps64
  go_wp2_with fail;refine hV.mono ?_;rintro e w2 ⟨rfl,hb⟩;go_wp2_with fail
  go_ret
  exact⟨rfl,hb⟩
 ·rw[decide_eq_false hv] at hV;clear hv;obtain⟨cs,hcs⟩:=eX (bB.chunks s.data.toList)
  have iH:bB.rep s.data.toList=cs.flatten:=by rw[←hcs];rfl
  have hgood:=bB.bV s.data.toList;have hcl:=bB.iY s.data.toList;have hll:s.data.toList.length=s.size:=rfl;rw[hcs] at hgood hcl;rw[iH];have hall:=Tk cs hgood;have PG:=zh hcs;clear hgood hcs iH;refine (callsIn_wide (n:=5)).1 ?_;refine callsIn_of_wp_marks Tryz.func64 rfl trivial ?_ rfl;simp only[Tryz.ntmps64,pT,Nat.reduceAdd,Nat.reduceSub]
  gi_wp2_with fail
  refine⟨trivial,(callsIn_wide.2 hV).mono ?_⟩;rintro e w2 ⟨rfl,hb2⟩;obtain⟨W1,hW1⟩:=eX (w2.alloc (.cells #[.pointer none,.slice none 0 0] 166))
  gi_wp2_with fail
  refine⟨trivial,(callsIn_wide.2 (Hu s W1 (by omega))).mono ?_⟩;rintro e w4 ⟨lb,rfl,hw4,hst⟩;rw[PG.out] at hst
  gi_wp2_with fail
  rw[←hw4];have hsz2:=hb2.size;have hB0:Below w.heap.size w W1:=by rw[←hW1];exact hb2.alloc hsz2 _
  have hsz1:W1.heap.size=w2.heap.size+1:=by rw[←hW1];simp
  have ZK:Lib.IsBuilderF 166 5 w2.heap.size w2.heap.size [] W1:=by
   have:=Lib.IsBuilderF.of (Lib.fresh_isBuilder 166 5 w2);rw[hW1] at this;exact this
  have hb4:Below W1.heap.size W1 w4:=by rw[hw4];exact (Below.refl _ _).alloc (Nat.le_refl _) _
  have abX:w4.heap.size=w2.heap.size+2:=by rw[hw4];simp[hsz1]
  have abo:=CB ZK hb4;have hB4:Below w.heap.size w w4:=hB0.trans (hb4.mono (by omega));have abp:=hst w2.heap.size (by omega);clear hst hb4 hw4 hW1 ZK hB0 hV hb2;refine wpIn_rangeFunc_ownF (w:=w4) rfl (by decide) (gf:=151) (lb:=lb) rfl trivial (enters_of Tryz.func151 (by kernel_rfl) rfl) abp Keep.trans Keep.put (Below.refl _ _) (fun _=>rfl)
   (fun pre W=>Lib.IsBuilderF 166 5 w2.heap.size w2.heap.size (acc 0 pre) W∧Below w.heap.size w W)
   (fun _ _ _=>False)
   ?hI ?hIx ?h0
   (fun x=>{ tmps:=#[.string s,undef,.string ⟨#[]⟩,.pointer (some ⟨w2.heap.size,0,none⟩),undef,.int .i32 (code x.2:Nat),.string s,.bool false,undef,.string s,.func (.func 151) #[] lb,.int .i64 (x.1:Nat),.int .i32 (code x.2:Nat),undef,undef,undef],defers:=[] }) ?assign ?body ?done ?stop
  case hI=>
   rintro pre W W' row ⟨h1,h5⟩ hg hr;have hr':∀ r,row=some r→∃ o:Obj,W.heap[r]?=some o∧o.isCells=false:=fun r e=>(hr r e).2;exact⟨Fw h1 hg hr',h5.grown hg (by have:=h5.size;omega) (fun k hk=>by have:=(hr k hk).1;omega)⟩
  case hIx=>exact fun _ _ _ _ _ hs _ _=>hs
  case h0=>exact⟨abo,hB4⟩
  case assign=>
   intro l x W K hK
   gi_wp2
   exact hK
  case body=>
   rintro l pre x W ⟨h1,h5⟩ hlen;have hcx:=SY x.2;have hal:=Tj 0 pre;have hW2:w2.heap.size<W.heap.size:=BF h1;have hsn:=H7 0 pre x;rw[if_pos (by omega)] at hsn
   gi_wp2_with fail
   refine⟨trivial,(CallsIn.inRound l (callsIn_wide.2 (Tryz.Nc w2.heap.size w2.heap.size (acc 0 pre) (code x.2:Nat) (by omega) (by omega) W h1 (by omega) (by omega)))).mono ?_⟩;rintro e w5 ⟨rfl,hb5,H8,hk5⟩
   gi_wp2_with fail
   refine⟨BD hk5 H8.size h1,Keep.of hk5 H8.size,?_,h5.trans (H8.mono (by omega))⟩;rw[hsn];exact .inr hb5
  case done=>
   rintro D xs W hD rfl ⟨h1,h5⟩ hK;rw[hall] at h1;have hK1:∀ W',Lib.OthersKept 5 (some w2.heap.size) W W'→W'.heap[D]?=some (.deferred (some [])):=fun W' h=>yU h hK h1;have hW2:w2.heap.size<W.heap.size:=BF h1
   gi_wp2_with fail
   refine⟨trivial,(callsIn_wide.2 (Tryz.Ct w2.heap.size w2.heap.size _ W h1 (by omega))).mono ?_⟩;rintro e w5 ⟨rfl,hb5,H8,hk5⟩
   gi_wp2_with fail
   refine⟨by simp,.inl ⟨_,_,rfl,run_takeDeferred (hK1 _ hk5),?_⟩⟩;refine⟨_,results_tmp rfl _ _ _,rfl,?_⟩;exact (h5.trans (H8.mono (by omega))).trans (belowK_b (w:=w) (Nat.le_refl _) _ D _ _ (by omega) (hK1 _ hk5) rfl rfl)
  case stop=>
   rintro D c pre W hD _ h _;exact h.elim
end
section
section
open Go.RowKit
namespace Nm
def bad (c:UInt8):Bool:=bB.sp c || c.toNat == 47 || c.toNat == 62 || (decide (65≤c.toNat) && decide (c.toNat≤90))
def plain (s:ByteArray):Bool:=!(s.data.toList.any bad) && decide (bB.rep s.data.toList=s.data.toList)
def attr (s:ByteArray):Bool:=decide (s.data.toList≠[]) && !((s.data.toList.drop 1).contains 61) && plain s
theorem D9 {l:List UInt8} {k:Nat} (h:k<l.length) (h0:(l.take k).any bad=false):(l.take (k+1)).any bad=bad l[k]:=by
 rw[List.take_succ_eq_append_getElem h,List.any_append,h0,Bool.false_or];simp
end Nm
theorem Ea (s:ByteArray) (w:World) (hs:s.size≤20000) (hT:Lit w):
  Calls Tryz.prog 115 #[.string s] w fun e w'=>e=.returned (.bool (Nm.plain s))∧Below w.heap.size w w':=by
 have hll:s.data.toList.length=s.size:=rfl
 go_enter Tryz.func115,Tryz.ntmps115
 go_wp2_with fail
 go_loopw [7] (fun i wr=>∃ k:Nat,i=.int .i64 k∧k≤s.size∧(s.data.toList.take k).any Nm.bad=false∧Below w.heap.size w wr) (fun i _=>s.size - (intOf i).toNat)
 case atStart=>exact⟨0,rfl,Nat.zero_le _,rfl,Below.refl _ _⟩
 case round=>
  obtain⟨k,rfl,hk,hany,hbr⟩:=hrel;by_cases hlt:k<s.size
  ·have hkl:k<s.data.toList.length:=hlt;have hnext:=Nm.D9 hkl hany;have hget:s.data.toList[k]=s[k]:=rfl;rw[hget] at hnext;obtain⟨c,hc⟩:=eX (s[k])
   have hcl:=c.toNat_lt;rw[hc] at hnext;have hq:(Nm.bad c=true∧(bB.sp c=true∨(bB.sp c=false∧((c.toNat:Int) == 47)=true)∨(bB.sp c=false∧((c.toNat:Int) == 47)=false∧((c.toNat:Int) == 62)=true)∨(bB.sp c=false∧((c.toNat:Int) == 47)=false∧((c.toNat:Int) == 62)=false∧decide ((65:Int)≤(c.toNat:Int))=true∧decide ((c.toNat:Int)≤90)=true)))∨
     (Nm.bad c=false∧bB.sp c=false∧((c.toNat:Int) == 47)=false∧((c.toNat:Int) == 62)=false∧(decide ((65:Int)≤(c.toNat:Int))=false∨(decide ((65:Int)≤(c.toNat:Int))=true∧decide ((c.toNat:Int)≤90)=false))):=by
    unfold Nm.bad;cases bB.sp c with
    | true=>left;exact⟨rfl,.inl rfl⟩
    | false=>
     simp only[Bool.false_or,Bool.or_eq_true,beq_iff_eq,Bool.and_eq_true,decide_eq_true_eq,Bool.or_eq_false_iff,beq_eq_false_iff_ne,ne_eq,Bool.and_eq_false_iff,decide_eq_false_iff_not,true_and,false_or,Bool.false_eq_true];omega
   have hneg:Nm.bad c=true→Nm.plain s=false:=fun e=>by
    unfold Nm.plain;rw[Bool.and_eq_false_iff];left;rw[Bool.not_eq_false',List.any_eq_true];exact⟨c,by rw[←hc];exact List.getElem_mem hkl,e⟩
   have HN:=zh hneg;have HX:=zh hnext;clear hneg hnext hany hget;rcases hq with ⟨hb,hq⟩ | ⟨hb,h1,h2,h3,hq⟩
   ·have HB:=zh hb;clear hb;rcases hq with h1 | ⟨h1,h2⟩ | ⟨h1,h2,h3⟩ | ⟨h1,h2,h3,h4,h5⟩
    all_goals
     go_wp2_with fail;refine (wD c wr).mono ?_;rintro e w2 ⟨rfl,hb2⟩;have hb5:Below w.heap.size w w2:=hbr.trans (hb2.mono hbr.size);go_wp2_with fail
     go_ret
     exact⟨gQ (HN.out HB.out).symm,hb5⟩
   ·have HB:=zh hb;clear hb;rcases hq with h4 | ⟨h4,h5⟩
    all_goals
     go_wp2_with fail;refine (wD c wr).mono ?_;rintro e w2 ⟨rfl,hb2⟩;have hb5:Below w.heap.size w w2:=hbr.trans (hb2.mono hbr.size);go_wp2_with fail
     go_roundw
     case rel=>exact⟨k+1,by go_num,by omega,by rw[HX.out,HB.out],hb5⟩
     case measure=>simp[intOf];omega
  ·have hkk:k=s.size:=by omega
   have hall:Nm.plain s=decide (bB.rep s.data.toList=s.data.toList):=by
    unfold Nm.plain;rw[hkk,←hll,List.take_length] at hany;rw[hany];rfl
   have HV:=zh (Bz s wr hs (hT.below hbr));have HA:=zh hall;clear hall hany;subst hkk;go_wp2_with fail;refine HV.out.mono ?_;rintro e w2 ⟨rfl,hb2⟩;have hb5:Below w.heap.size w w2:=hbr.trans (hb2.mono hbr.size);go_wp2_with fail
   go_ret
   exact⟨gQ HA.out.symm,hb5⟩
theorem Tn (s:ByteArray) (i:Nat):(s.extract i s.size).data.toList=s.data.toList.drop i:=by
 rw[ByteArray.data_extract,Array.toList_extract];show (s.data.toList.drop i).take (s.data.toList.length - i)=_;rw[List.take_of_length_le (by rw[List.length_drop];omega)]
theorem NM (l:List UInt8) (c:UInt8):decide (0≤Lib.indexByte l c)=l.contains c:=by
 induction l with
 | nil=>rfl
 | cons b r ih=>
  unfold Lib.indexByte;by_cases h:b=c
  ·subst h;simp
  ·have hbc:(b == c)=false:=by simpa using h
   have hcb:(c == b)=false:=by simpa using fun e=>h e.symm
   rw[hbc,List.contains_cons,hcb,Bool.false_or,←ih];have hge : -1≤Lib.indexByte r c:=by
    clear ih hbc hcb h
    induction r with
    | nil=>exact (by decide:(-1:Int) ≤ -1)
    | cons d r ih2=>
     unfold Lib.indexByte
     split
     ·omega
     ·split
      ·omega
      ·omega
   by_cases h2:Lib.indexByte r c = -1
   ·rw[h2];rfl
   ·have:(Lib.indexByte r c == -1)=false:=by simpa using h2
    rw[this];simp only[Bool.false_eq_true,if_false];rw[Bool.eq_iff_iff,decide_eq_true_eq,decide_eq_true_eq];omega
theorem mZ (s:ByteArray) (w:World) (hs:s.size≤20000) (hT:Lit w):
  Calls Tryz.prog 86 #[.string s] w fun e w'=>e=.returned (.bool (Nm.attr s))∧Below w.heap.size w w':=by
 have hP:=Ea s w hs hT;by_cases he:s.data.toList=[]
 ·have hse:s=⟨#[]⟩:=by
   cases s with
   | mk d=>cases d with | mk l=>simp at he;subst he;rfl
  have hr:Nm.attr s=false:=by unfold Nm.attr;rw[he];rfl
  have HR:=zh hr;clear hr hP he;subst hse
  go_enter Tryz.func86,Tryz.ntmps86
  go_wp2_with fail
  go_ret
  exact⟨gQ HR.out.symm,Below.refl _ _⟩
 ·have hpos:0<s.size:=by
   rcases Nat.eq_zero_or_pos s.size with h | h
   ·exact absurd (List.eq_nil_of_length_eq_zero (show s.data.toList.length=0 from h)) he
   ·exact h
  have hne0:(s.toList == [])=false:=by
   rw[Lib.toList_data,beq_eq_false_iff_ne];exact he
  have hne:(s.toList != [])=true:=by
   rw[bne,hne0];rfl
  have hrun:∀ W:World,(Instr.slice 9 (.string s) (some (.int .i64 1)) none none).run Tryz.prog W=.ok (.string (s.extract 1 s.size)) W:=fun W=>by
   rw[run_slice_string_l (ht:=Tryz.underlying9) (h0:=by omega) (h1:=by omega)];rfl
  have hcon:∀ W:World,Calls Tryz.prog 123 #[.string (s.extract 1 s.size),.string ⟨#[61]⟩] W fun e w'=>e=.returned (.bool ((s.data.toList.drop 1).contains 61))∧w'=W:=fun W=>by
   rw[←Tn,←NM];exact Tryz.contains_one _ 61 W
  have hat:Nm.attr s=(!((s.data.toList.drop 1).contains 61) && Nm.plain s):=by
   unfold Nm.attr;rw[decide_eq_true he,Bool.true_and]
  obtain⟨cn,hcn⟩:=eX ((s.data.toList.drop 1).contains 61)
  rw[hcn] at hcon hat;have HAT:=zh hat;clear hat hcn he;cases cn
  ·go_enter Tryz.func86,Tryz.ntmps86
   go_wp2_with fail;refine (hcon w).mono ?_;rintro e w2 ⟨rfl,rfl⟩;go_wp2_with fail;refine hP.mono ?_;rintro e w2 ⟨rfl,hb⟩;go_wp2_with fail
   go_ret
   exact⟨gQ HAT.out.symm,hb⟩
  ·go_enter Tryz.func86,Tryz.ntmps86
   go_wp2_with fail;refine (hcon w).mono ?_;rintro e w2 ⟨rfl,rfl⟩;go_wp2_with fail
   go_ret
   exact⟨gQ HAT.out.symm,Below.refl _ _⟩
def Nm.fits (s:ByteArray):Bool:=decide ((bB.rep s.data.toList).length≤1048576)
theorem BG (s:ByteArray) (w:World) (hs:s.size≤20000) (hT:Lit w):
  Calls Tryz.prog 116 #[.string s] w fun e w'=>e=.returned (.bool (Nm.fits s))∧Below w.heap.size w w':=by
 have hrl:=bB.mV s.data.toList;have hll:s.data.toList.length=s.size:=rfl;have hF:Nm.fits s=decide ((((bB.rep s.data.toList).length:Nat):Int)≤1048576):=by
  unfold Nm.fits;rw[Bool.eq_iff_iff,decide_eq_true_eq,decide_eq_true_eq];omega
 have HF:=zh hF;clear hF
 go_enter Tryz.func116,Tryz.ntmps116
 go_wp2_with fail;refine (gY s w hs hT).mono ?_;rintro e w2 ⟨rfl,hb⟩;go_wp2_with fail
 go_ret
 exact⟨gQ (by rw[HF.out];rfl),hb⟩
end
end
section
open Go.RowKit
def Nm.elem (s:ByteArray):Bool:=match s.data.toList with
 | []=>false
 | c::_=>decide (97≤c.toNat) && decide (c.toNat≤122) && Nm.plain s
theorem WZ {P:Program} {t k0 e0:TypeId} (h:P.underlying t=some (TypeDesc.map k0 e0)) (k:Int) (W:World):(Instr.makeMap t (some (.int .i64 k))).run P W=.ok (.map (some W.heap.size)) (W.alloc (.map #[] 0)):=by
 unfold Instr.makeMap;simp only[Sem.run_bind,run_underlying h,Result.andThen,asInt,asIntOf,Sem.run_pure];rfl
theorem rJ (d:Tr.Nd) (w:World) (hn:d.av.n=0) (hk:d.kind≠2):
  Calls Tryz.prog 65 #[Uo d] w fun e w'=>e=.returned (.bool true)∧Below w.heap.size w w':=by
 obtain⟨k,nm,⟨a,n,c⟩,dt,pa,fi,la,pr,ne⟩:=d;dsimp only at hn hk ⊢;have hk2:(k != 2)=true:=by simpa using hk
 go_enter Tryz.func65,Tryz.ntmps65
 go_wp2_with fail
 go_ret
 exact⟨rfl,(Below.refl _ w).alloc (Nat.le_refl _) _⟩
theorem yh (d:Tr.Nd) (w:World) (hn:d.av.n=0) (hs:d.data.size≤20000) (hT:Lit w):
  Calls Tryz.prog 67 #[Uo d] w fun e w'=>e=.returned (.bool (Nm.fits d.data))∧Below w.heap.size w w':=by
 obtain⟨k,nm,⟨a,n,c⟩,dt,pa,fi,la,pr,ne⟩:=d;dsimp only at hn hs ⊢;subst hn;obtain⟨w1,hw1⟩:=eX (w.alloc (.cells #[.int .i64 k,.string nm,.slice a 0 c,.string dt,.int .i64 pa,.int .i64 fi,.int .i64 la,.int .i64 pr,.int .i64 ne] 82))
 have hb1:Below w.heap.size w w1:=fI hw1;have hX1:Whole w1 w.heap.size #[.int .i64 k,.string nm,.slice a 0 c,.string dt,.int .i64 pa,.int .i64 fi,.int .i64 la,.int .i64 pr,.int .i64 ne] 82:=by rw[←hw1];exact Whole.new w _ _
 have e2:w1.cell? ⟨w.heap.size,2,none⟩=some (.slice a 0 c):=hX1.cell 2;have e3:w1.cell? ⟨w.heap.size,3,none⟩=some (.string dt):=hX1.cell 3;have HF:=zh (BG dt w1 hs (hT.below hb1));clear hT hX1
 go_enter Tryz.func67,Tryz.ntmps67
 go_wp2_with fail
 go_loopw [8] (fun i wr=>i=.int .i64 0∧wr=w1) (fun _ _=>0)
 case atStart=>exact⟨rfl,rfl⟩
 case round=>
  obtain⟨rfl,rfl⟩:=hrel;go_wp2_with fail;refine HF.out.mono ?_;rintro e w4 ⟨rfl,hb4⟩;go_wp2_with fail
  go_ret
  exact⟨rfl,hb1.trans (hb4.mono hb1.size)⟩
def Nm.uH (s:ByteArray):Bool:=decide (s.data.toList≠[]) && Nm.plain s
theorem rW (s:ByteArray) (w:World) (hs:s.size≤10000):
  Calls Tryz.prog 117 #[.string s] w fun e w'=>e=.returned (.bool (Nm.uH s))∧Below w.heap.size w w':=by
 have hll:s.data.toList.length=s.size:=rfl
 go_enter Tryz.func117,Tryz.ntmps117
 go_wp2_with fail
 go_loopw [3] (fun i wr=>∃ k:Nat,i=.int .i64 k∧k≤s.size∧(s.data.toList.take k).any Nm.bad=false∧wr=w) (fun i _=>s.size - (intOf i).toNat)
 case atStart=>exact⟨0,rfl,Nat.zero_le _,rfl,rfl⟩
 case round=>
  obtain⟨k,rfl,hk,hany,rfl⟩:=hrel;by_cases hlt:k<s.size
  ·have hkl:k<s.data.toList.length:=hlt;have hnext:=Nm.D9 hkl hany;have hget:s.data.toList[k]=s[k]:=rfl;rw[hget] at hnext;obtain⟨c,hc⟩:=eX (s[k])
   have hcl:=c.toNat_lt;rw[hc] at hnext;have hq:(Nm.bad c=true∧(bB.sp c=true∨(bB.sp c=false∧((c.toNat:Int) == 47)=true)∨(bB.sp c=false∧((c.toNat:Int) == 47)=false∧((c.toNat:Int) == 62)=true)∨(bB.sp c=false∧((c.toNat:Int) == 47)=false∧((c.toNat:Int) == 62)=false∧decide ((65:Int)≤(c.toNat:Int))=true∧decide ((c.toNat:Int)≤90)=true)))∨
     (Nm.bad c=false∧bB.sp c=false∧((c.toNat:Int) == 47)=false∧((c.toNat:Int) == 62)=false∧(decide ((65:Int)≤(c.toNat:Int))=false∨(decide ((65:Int)≤(c.toNat:Int))=true∧decide ((c.toNat:Int)≤90)=false))):=by
    unfold Nm.bad;cases bB.sp c with
    | true=>left;exact⟨rfl,.inl rfl⟩
    | false=>
     simp only[Bool.false_or,Bool.or_eq_true,beq_iff_eq,Bool.and_eq_true,decide_eq_true_eq,Bool.or_eq_false_iff,beq_eq_false_iff_ne,ne_eq,Bool.and_eq_false_iff,decide_eq_false_iff_not,true_and,false_or,Bool.false_eq_true];omega
   have hneg:Nm.bad c=true→Nm.uH s=false:=fun e=>by
    have:Nm.plain s=false:=by
     unfold Nm.plain;rw[Bool.and_eq_false_iff];left;rw[Bool.not_eq_false',List.any_eq_true];exact⟨c,by rw[←hc];exact List.getElem_mem hkl,e⟩
    unfold Nm.uH;rw[this,Bool.and_false]
   have HN:=zh hneg;have HX:=zh hnext;clear hneg hnext hany hget;rcases hq with ⟨hb,hq⟩ | ⟨hb,h1,h2,h3,hq⟩
   ·have HB:=zh hb;clear hb;rcases hq with h1 | ⟨h1,h2⟩ | ⟨h1,h2,h3⟩ | ⟨h1,h2,h3,h4,h5⟩
    all_goals
     go_wp2_with fail;refine (D5 c wr).mono ?_;rintro e w2 ⟨rfl,hw2⟩;obtain rfl:=hw2;go_wp2_with fail
     go_ret
     exact⟨gQ (HN.out HB.out).symm,Below.refl _ _⟩
   ·have HB:=zh hb;clear hb;rcases hq with h4 | ⟨h4,h5⟩
    all_goals
     go_wp2_with fail;refine (D5 c wr).mono ?_;rintro e w2 ⟨rfl,hw2⟩;obtain rfl:=hw2;go_wp2_with fail
     go_roundw
     case rel=>exact⟨k+1,by go_num,by omega,by rw[HX.out,HB.out],trivial⟩
     case measure=>simp[intOf];omega
  ·have hkk:k=s.size:=by omega
   have hall:Nm.plain s=decide (bB.rep s.data.toList=s.data.toList):=by
    unfold Nm.plain;rw[hkk,←hll,List.take_length] at hany;rw[hany];rfl
   have HV:=zh (kC s wr hs);have hat:Nm.uH s=(decide (s.data.toList≠[]) && decide (bB.rep s.data.toList=s.data.toList)):=by unfold Nm.uH;rw[hall]
   have HA:=zh hat;clear hall hany hat;subst hkk;by_cases he:s.data.toList=[]
   ·have hne0:(s.toList == [])=true:=by rw[Lib.toList_data,he];rfl
    have hne:(s.toList != [])=false:=by rw[bne,hne0];rfl
    have hr:Nm.uH s=false:=by rw[HA.out,he];rfl
    have HR:=zh hr;clear hr he;go_wp2_with fail
    go_ret
    exact⟨gQ HR.out.symm,Below.refl _ _⟩
   ·have hne0:(s.toList == [])=false:=by rw[Lib.toList_data,beq_eq_false_iff_ne];exact he
    have hne:(s.toList != [])=true:=by rw[bne,hne0];rfl
    have hr:Nm.uH s=decide (bB.rep s.data.toList=s.data.toList):=by rw[HA.out,decide_eq_true he,Bool.true_and]
    have hcm:((fB (bB.rep s.data.toList)).toList == s.toList)=decide (bB.rep s.data.toList=s.data.toList):=by
     rw[Lib.toList_data,Lib.toList_data,Bool.eq_iff_iff,beq_iff_eq,decide_eq_true_eq];rfl
    have HR:=zh (hr.trans hcm.symm);clear hr he hcm;go_wp2_with fail;refine HV.out.mono ?_;rintro e w2 ⟨rfl,hb2⟩;go_wp2_with fail
    go_ret
    exact⟨gQ HR.out.symm,hb2⟩
theorem vR (s:ByteArray) (w:World) (hs:s.size≤10000):
  Calls Tryz.prog 68 #[.string s] w fun e w'=>e=.returned (.bool (Nm.elem s))∧Below w.heap.size w w':=by
 have hP:=rW s w hs;have hll:s.data.toList.length=s.size:=rfl;have HE:Hid (Nm.elem s=(match s.data.toList with | []=>false | c::_=>decide (97≤c.toNat) && decide (c.toNat≤122) && Nm.plain s)):=zh rfl
 go_enter Tryz.func68,Tryz.ntmps68
 cases hnm:s.data.toList with
 | nil=>
  have hne0:(s.toList == [])=true:=by rw[Lib.toList_data,hnm];rfl
  have hne:(s.toList != [])=false:=by rw[bne,hne0];rfl
  have hr:Nm.elem s=false:=by rw[HE.out,hnm]
  have HR:=zh hr;clear hr hll hP hs;go_wp2_with fail
  go_ret
  exact⟨gQ HR.out.symm,Below.refl _ _⟩
 | cons c0 r=>
  have hne0:(s.toList == [])=false:=by rw[Lib.toList_data,hnm];rfl
  have hne:(s.toList != [])=true:=by rw[bne,hne0];rfl
  have hr:Nm.elem s=(decide (97≤c0.toNat) && decide (c0.toNat≤122) && Nm.plain s):=by rw[HE.out,hnm]
  have hra:Nm.uH s=Nm.plain s:=by unfold Nm.uH;rw[hnm];simp
  rw[hra] at hP;have hpos:0<s.size:=by rw[←hll,hnm];simp
  have hget:s[0]=c0:=by
   have:s.data.toList[0]'(by rw[hnm];simp)=c0:=by simp[hnm]
   exact this
  have hem:s.toList.isEmpty=false:=by rw[Lib.toList_data,hnm];rfl
  clear hll;by_cases h1:97≤c0.toNat
  ·by_cases h2:c0.toNat≤122
   ·have hr':Nm.elem s=Nm.plain s:=by rw[hr,decide_eq_true h1,decide_eq_true h2];simp
    have HR:=zh hr';have HP:=zh hP;have ZL:(97:Int)≤(c0.toNat:Int):=by omega
    have h2i:(c0.toNat:Int)≤122:=by omega
    clear hr hr' hP hs hnm hra;go_wp2_with fail;refine HP.out.mono ?_;rintro e w4 ⟨rfl,hb4⟩;go_wp2_with fail
    go_ret
    exact⟨gQ HR.out.symm,hb4⟩
   ·have hr':Nm.elem s=false:=by rw[hr,decide_eq_false h2];simp
    have HR:=zh hr';have ZL:(97:Int)≤(c0.toNat:Int):=by omega
    have h2i:¬ (c0.toNat:Int)≤122:=by omega
    clear hr hr' hP hs hnm hra;go_wp2_with fail
    go_ret
    exact⟨gQ HR.out.symm,Below.refl _ _⟩
  ·have hr':Nm.elem s=false:=by rw[hr,decide_eq_false h1];simp
   have HR:=zh hr';have ZL:¬ (97:Int)≤(c0.toNat:Int):=by omega
   clear hr hr' hP hs hnm hra;go_wp2_with fail
   go_ret
   exact⟨gQ HR.out.symm,Below.refl _ _⟩
theorem Qy {l:List UInt8} {k:Nat} (hk:1≤k) (hkl:k<l.length) (h0:((l.take k).drop 1).contains 61=false):((l.take (k+1)).drop 1).contains 61=(l[k] == 61):=by
 rw[List.take_succ_eq_append_getElem hkl,List.drop_append_of_le_length (by rw[List.length_take];omega),List.contains_eq_any_beq,List.any_append,←List.contains_eq_any_beq,h0,Bool.false_or];simp only[List.any_cons,List.any_nil,Bool.or_false];rw[Bool.eq_iff_iff,beq_iff_eq,beq_iff_eq];exact eq_comm
theorem om (s:ByteArray) (w:World) (hs:s.size≤10000):
  Calls Tryz.prog 69 #[.string s] w fun e w'=>e=.returned (.bool (Nm.attr s))∧Below w.heap.size w w':=by
 have hll:s.data.toList.length=s.size:=rfl;have HE:Hid (Nm.attr s=(decide (s.data.toList≠[]) && !((s.data.toList.drop 1).contains 61) && Nm.plain s)):=zh rfl
 go_enter Tryz.func69,Tryz.ntmps69
 go_wp2_with fail
 go_loopw [3] (fun i wr=>∃ k:Nat,i=.int .i64 k∧1≤k∧(k≤s.size∨k=1)∧Hid (((s.data.toList.take k).drop 1).contains 61=false)∧wr=w) (fun i _=>s.size - (intOf i).toNat)
 case atStart=>exact⟨1,rfl,Nat.le_refl _,.inr rfl,zh (by cases s.data.toList<;>simp),rfl⟩
 case round=>
  obtain⟨k,rfl,hk1,hk,H0,rfl⟩:=hrel;by_cases hlt:k<s.size
  ·have hkl:k<s.data.toList.length:=hlt;have hnext:=Qy hk1 hkl H0.out;have hget:s.data.toList[k]=s[k]:=rfl;rw[hget] at hnext;obtain⟨c,hc⟩:=eX (s[k])
   have hcl:=c.toNat_lt;rw[hc] at hnext;have q1:(k:Int)<(s.size:Int):=by omega
   cases he:(c == 61) with
   | true=>
    have q2:((c.toNat:Int) == 61)=true:=by
     have:c=61:=by simpa using he
     subst this;rfl
    have hr:Nm.attr s=false:=by
     rw[HE.out];have:(s.data.toList.drop 1).contains 61=true:=by
      rw[List.contains_iff_mem];have hm:(61:UInt8)∈(s.data.toList.take (k+1)).drop 1:=by rw[←List.contains_iff_mem,hnext,he]
      have e1:(s.data.toList.take (k+1)).drop 1=(s.data.toList.drop 1).take k:=by rw[List.drop_take];simp
      rw[e1] at hm;exact List.mem_of_mem_take hm
     rw[this];simp
    have HR:=zh hr;clear hr hnext he;go_wp2_with fail
    go_ret
    exact⟨gQ HR.out.symm,Below.refl _ _⟩
   | false=>
    have q2:((c.toNat:Int) == 61)=false:=by
     refine (beq_eq_false_iff_ne.2) fun e=>?_;have e2:c=61:=by
      apply UInt8.toNat_inj.1;have:(61:UInt8).toNat=61:=rfl;omega
     rw[e2] at he;cases he
    have HN:=zh (hnext.trans he);clear hnext he;go_wp2_with fail
    go_roundw
    case rel=>exact⟨k+1,by go_num,by omega,.inl (by omega),zh HN.out,trivial⟩
    case measure=>simp[intOf];omega
  ·have q1:¬ (k:Int)<(s.size:Int):=by omega
   have hr:Nm.attr s=Nm.uH s:=by
    rw[HE.out];have:(s.data.toList.drop 1).contains 61=false:=by
     have h0:=H0.out
     rwa [List.take_of_length_le (by omega)] at h0
    rw[this,Bool.not_false,Bool.and_true];rfl
   have HP:=zh (rW s wr hs);have HR:=zh hr;clear hr;go_wp2_with fail;refine HP.out.mono ?_;rintro e w2 ⟨rfl,hb2⟩;go_wp2_with fail
   go_ret
   exact⟨gQ HR.out.symm,hb2⟩
abbrev lN:Tr.GN:=⟨1,⟨#[]⟩,[],⟨#[]⟩,0,[]⟩
abbrev CF:Int→Tr.Sl:=fun _=>⟨none,0,0⟩
abbrev xH:Tr.G:=fun _=>none
theorem Tp (h:Int):Tr.fq CF h ⟨none,0,0⟩=CF:=by
 funext x;unfold Tr.fq;split<;>rfl
theorem Ma (b s:Int) (w:World):
  Calls Tryz.prog 12 #[xV b s] w fun e w'=>∃ B vs vf,e=.returned (.pointer (some ⟨B,0,none⟩))∧
   TV w.heap.size w' B b s vs 1 (Tr.raw (Tr.dK xH (Ar.hdl b s 0) lN) CF) vf [] 1 (Ar.hdl b s 0)∧Sound b s 1 (Tr.raw (Tr.dK xH (Ar.hdl b s 0) lN) CF) [] 1∧Tr.WF 0 (Tr.dK xH (Ar.hdl b s 0) lN)∧Below w.heap.size w w':=by
 have hb1:Below w.heap.size w (w.alloc (.cells #[.int .i64 b,.int .i64 s] 48)):=(Below.refl _ w).alloc (Nat.le_refl _) _;have hX:=Whole.new w #[.int .i64 b,.int .i64 s] 48;obtain⟨w1,hw1⟩:=eX (w.alloc (.cells #[.int .i64 b,.int .i64 s] 48))
 rw[hw1] at hb1 hX;have s0:w1.cell? ⟨w.heap.size,0,none⟩=some (.int .i64 b):=hX.cell 0;have s1:w1.cell? ⟨w.heap.size,1,none⟩=some (.int .i64 s):=hX.cell 1
 go_enter Tryz.func12,Tryz.ntmps12
 go_wp2_with fail;(try rw[hw1]);go_wp2_with fail;refine (OW b s w1).mono ?_;rintro e w2 ⟨rfl,hb2⟩;have eO:=hb1.trans (hb2.mono hb1.size);obtain⟨w3,hw3⟩:=eX (w2.alloc (.cells #[.int .i64 b,.int .i64 s,.slice none 0 0,.slice none 0 0,.int .i64 0,.int .i64 0] 58))
 have hV:Whole w3 w2.heap.size #[.int .i64 b,.int .i64 s,.slice none 0 0,.slice none 0 0,.int .i64 0,.int .i64 0] 58:=by rw[←hw3];exact Whole.new w2 _ _
 have hb3:Below w2.heap.size w2 w3:=fI hw3;have pO:=eO.trans (hb3.mono eO.size);have hT:TV w.heap.size w3 w2.heap.size b s (.slice none 0 0) 0 (Tr.raw xH CF) (.slice none 0 0) [] 0 0:=⟨hV,eO.size,World.ownsRow_nil _ _ _ _,World.ownsRow_nil _ _ _ _⟩
 have hS:Sound b s 0 (Tr.raw xH CF) [] 0:=⟨fun _ e=>absurd e (by simp[Tr.raw]),List.nodup_nil,fun _ e=>absurd e (by simp),rfl,by omega⟩
 have HA:=zh (pK w.heap.size w2.heap.size b s 0 0 0 (Tr.raw xH CF) [] _ _ ⟨1,⟨#[]⟩,⟨none,0,0⟩,⟨#[]⟩,0,0,0,0,0⟩ w3 hT hS pO.size (by omega));clear hX s0 s1 hw1;go_wp2_with fail;(try rw[hw3]);refine HA.out.mono ?_;rintro e w4 ⟨vs',dw,rfl,EH,hst⟩;have hH:Ar.hdl b s 0≠0:=by have:=(sV (b:=b) (s:=s) (i:=0) (by omega)).1;intro e;rw[show ((0:Nat):Int)=0 from rfl,e] at this;omega
 have XQ:=(lF hS (by omega)).2.2.2.2 ⟨1,⟨#[]⟩,⟨none,0,0⟩,⟨#[]⟩,0,0,0,0,0⟩;rw[Bc] at EH XQ ⊢;dsimp only at EH XQ ⊢;obtain⟨H,hHe⟩:=eX (Ar.hdl b s ((0:Nat):Int))
 have W9:Ar.hdl b s 0=H:=hHe;rw[hHe] at EH XQ ⊢;rw[W9] at hH;have hraw:Tr.pJ (Tr.raw xH CF) H (some ⟨1,⟨#[]⟩,⟨none,0,0⟩,⟨#[]⟩,0,0,0,0,0⟩)=Tr.raw (Tr.dK xH H lN) CF:=
  (Tr.vB (g:=xH) (h:=H) (m:=lN) (av:=CF) (s:=⟨none,0,0⟩) rfl rfl rfl rfl).symm.trans (by rw[Tp])
 rw[hraw] at EH XQ;obtain⟨Vl,ZM⟩:=EH.rooted H;have f5:=EH.var.free 5;obtain⟨_,_,_,_,_,r5⟩:=EH.cells;have hlo:∀ k,aD w2.heap.size (.slice none 0 0) (.slice none 0 0) k→w.heap.size≤k:=by
  rintro k (rfl | hk | hk)
  ·exact eO.size
  ·cases hk
  ·cases hk
 have ZN:=(hst.trans ZM).1.below pO.size hlo;have HF:=zh (And.intro Vl (And.intro XQ (And.intro (Tr.WF.add Tr.WF.empty (m:=lN) rfl hH rfl rfl) (pO.trans (ZN.mono (Nat.le_refl _))))));have HE:=zh W9;clear hT hS HA EH XQ hraw Vl ZM hst hlo ZN hHe W9 hH;go_wp2_with fail
 go_ret
 rw[HE.out];exact⟨_,_,_,rfl,HF.out⟩
theorem pV (s:ByteArray) (w:World) (hs:s.size≤10000):
  Calls Tryz.prog 51 #[.string s] w fun e w'=>e=.returned (.int .i64 ((bB.chunks s.data.toList).length:Nat))∧Below w.heap.size w w':=by
 have hR:=Tryz.runeCount s w (by omega);rw[bB.runeCount_eq] at hR
 go_enter Tryz.func51,Tryz.ntmps51
 go_wp2_with fail;refine hR.mono ?_;rintro e w2 ⟨rfl,pos,rfl⟩;go_wp2_with fail
 go_ret
 exact⟨rfl,(Below.refl _ w).alloc (Nat.le_refl _) _⟩
end
section
open Go.RowKit Go.Shelf
attribute [local go_sem] Oper.semAt_some
theorem Dh {G X:Prop} (use:X→G) (k:X):G:=use k
end
section
open Go.RowKit Go.Shelf
attribute [local go_sem] Oper.semAt_some
theorem vo:(Tryz.prog.info? 3).map (fun i=>(i.zero,i.size,i.bytes))=some (some (.int .i64 0),1,8):=by kernel_rfl
theorem jh (w:World) (e:TypeId) (v:Value):∀ j u,[v][j]?=some u→(w.alloc (.cells #[v] e)).cell? ((⟨w.heap.size,0,none⟩:Addr).add j)=some u:=by
 intro j u hj;have hg:(w.alloc (.cells #[v] e)).heap[w.heap.size]?=some (.cells #[v] e (0,0)):=heap_alloc_new w _;rw[Addr.add_lit,cell_of_row _ _ _ _ e (0,0) hg];simpa using hj
theorem LS.xI {base B bt bh:Nat} {b s root h:Int} {vs vf:Value} {n:Nat} {R:Int→Option Tr.Nd} {fr:List Nat} {live:Nat} {W W':World} {m:Nat} (H:LS base B bt bh b s h vs n R vf fr live root W) (hb:Below m W W') (hF:∀ k,aD B vs vf k→base≤k∧k<m) (h1:bt<m) (h2:bh<m):LS base B bt bh b s h vs n R vf fr live root W':=
 ⟨H.tree.turns (S:=fun k=>m≤k) ⟨hb.os,hb.tape,hb.output,hb.size,fun k _ hn=>hb.block k (Nat.lt_of_not_le hn)⟩ (fun k hk e=>absurd (hF k hk).2 (Nat.not_lt.2 e)),H.bt.below hb h1,H.bh.below hb h2⟩
theorem xJ (l:List Int) (x:Int):ints l++[.int .i64 x]=ints (l++[x]):=(List.map_append (f:=fun i:Int=>Value.int .i64 i) (l₁:=l) (l₂:=[x])).symm
theorem eT {w:World} {b1 b2 size:Nat} {e:TypeId} {v:Value} {n:Nat} {xs:List Value} (h:w.ownsRow b1 e size v n xs) (hb:b2≤b1):w.ownsRow b2 e size v n xs:=by
 refine⟨h.1,?_⟩;rcases h.2 with hn | ⟨g,cap,cur,hv,hb',hr⟩
 ·exact .inl hn
 ·exact .inr ⟨g,cap,cur,hv,by omega,hr⟩
theorem NQ (base B bt bh:Nat) (b s root h:Int) (live n:Nat) (g:Tr.G) (av:Int→Tr.Sl) (fr:List Nat) (vs vf:Value) (w:World) (hS:Sound b s n (Tr.raw g av) fr live) (hw:Tr.WF 0 g) (hh:gI h) (hL:LS base B bt bh b s h vs n (Tr.raw g av) vf fr live root w) (zG:(Tr.au g h).length≤100000):
  Calls Tryz.prog 132 #[.slice none 0 0,.func (.func 137) #[] #[.pointer (some ⟨bt,0,none⟩),.pointer (some ⟨bh,0,none⟩)]] w fun e w'=>∃ v,e=.returned v∧w'.ownsRow w.heap.size 3 1 v (Tr.au g h).length (ints (Tr.au g h))∧Below w.heap.size w w':=by
 obtain⟨i0,hi,hz0,hz1,hz2⟩:=info_parts vo;have hlt:=hL.tree.lt;have H9:=hL.bt.lt;have Ia:=hL.bh.lt;obtain⟨w1,hw1⟩:=eX (w.alloc (.cells #[.slice none 0 0] 39))
 have hz1':w1.heap.size=w.heap.size+1:=by rw[←hw1];simp
 have hb1:Below w.heap.size w w1:=fI hw1;have hX1:Boxed w1 w.heap.size 39 (.slice none 0 0):=by rw[←hw1];exact Boxed.new w _ _
 have hL1:=hL.below hb1;have hseq:=Bw hS hw hh 7 (by omega) w1 hL1;have hm1:¬ aD B vs vf w.heap.size:=fun hk=>by have:=(hlt _ hk).2;omega
 have HL:=zh hL1;clear hL hL1;refine (callsIn_wide (n:=8)).1 ?_;refine callsIn_of_wp_marks Tryz.func132 rfl trivial ?_ rfl;simp only[Tryz.ntmps132,pT,Nat.reduceAdd,Nat.reduceSub]
 gi_wp2_with fail
 (try rw[hw1]);(try gi_wp2_with fail);refine wpIn_rangeFunc_ownF (w:=w1) rfl (by decide) (gf:=137) (lb:=#[.pointer (some ⟨bt,0,none⟩),.pointer (some ⟨bh,0,none⟩)]) rfl trivial (enters_of Tryz.func137 (by kernel_rfl) rfl) hseq LS.qW (LS.uq _) (Below.refl _ _) (fun _=>rfl)
  (fun pre W=>(∃ v,Boxed W w.heap.size 39 v∧W.ownsRow (w.heap.size+1) 3 1 v pre.length (ints (pre.map (·.1))))∧LS base B bt bh b s h vs n (Tr.raw g av) vf fr live root W∧Below w.heap.size w W) (fun _ _ _=>False)
  ?hI ?hIx ⟨⟨_,hX1,World.ownsRow_nil _ _ _ _⟩,HL.out,hb1⟩ (fun x=>{ tmps:=#[.slice none 0 0,.func (.func 137) #[] #[.pointer (some ⟨bt,0,none⟩),.pointer (some ⟨bh,0,none⟩)],.pointer (some ⟨w.heap.size,0,none⟩),undef,.slice none 0 0,.int .i64 x.1,.func (.func 137) #[] #[.pointer (some ⟨bt,0,none⟩),.pointer (some ⟨bh,0,none⟩)],.int .i64 x.1,undef,undef,undef,undef,undef],defers:=[] }) ?assign ?body ?done ?stop
 case hI=>
  rintro pre W W' row ⟨⟨v,h1,h2⟩,h3,h4⟩ hg hr;refine⟨⟨v,h1.kept hg (fun e'=>?_),h2.kept hg ?_⟩,h3.others hg (fun r e=>(hr r e).2),h4.grown hg h4.size (fun r e=>by have:=(hr r e).1;omega)⟩
  ·obtain⟨o,ho,hc⟩:=(hr _ e'.symm).2;rw[show W.heap[w.heap.size]?=_ from h1] at ho;cases ho;cases hc
  ·rcases h2.2 with ⟨rfl,_⟩ | ⟨g,cap,cur,rfl,_,hgb,_⟩
   ·exact .inl rfl
   ·refine .inr fun e'=>?_;obtain⟨o,ho,hc⟩:=(hr g (by rw[←e'];rfl)).2;rw[hgb] at ho;cases ho;cases hc
 case hIx=>intro c pre W W' row h _ _;exact h
 case assign=>
  intro l x W K hK
  gi_wp2
  first | exact hK | simpa using hK
 case body=>
  rintro l pre x W ⟨⟨v,hv,hrow⟩,mo,hBW⟩ hlen;obtain⟨Av,cv,rfl⟩:=aF (aG hrow);have hc:=hv.cell;have hfz:=hv.frozen;have hpl:pre.length≤100000:=by omega
  have hsz:w.heap.size+1≤W.heap.size:=hv.lt;have hrow':=hrow.alloc (.cells #[.int .i64 x.1] 3);have ZO:=zh mo;have uo:=zh hBW;have HV:=zh hv;have AB:=zh hrow;clear mo hBW hrow
  gi_wp2_with (gi_at_builtin;refine wpListIn_append_own _ rfl _ _ 39 rfl (w.heap.size+1) 3 i0 (.int .i64 0) 1 8 Tryz.underlying39 hi hz0 hz1 hz2 rfl (by decide) _ _ _ rfl hrow' ⟨W.heap.size,0,none⟩ 1 1 [.int .i64 x.1] rfl rfl (jh _ _ _) (by simp[Value.oneCell']) ?c1 ?c2 ?c3 ?_)
  case c1=>unfold maxLen;omega
  case c2=>omega
  case c3=>rw[World.size_alloc];omega
  intro v2 w2 o2 g2 _;have hmap:ints pre.unattach++[.int .i64 x.1]=ints ((pre++[x]).map (·.1)):=by rw[List.map_append];exact xJ _ _
  rw[hmap] at o2;obtain⟨A2,c2,rfl⟩:=aF (aG o2);have nZ:=eT AB.out (Nat.le_succ w.heap.size);obtain⟨q1,q2,_,q4,q5⟩:=Boxed.appended HV.out (by decide) nZ (by omega) (Nat.le_refl _) (eT o2 (Nat.le_succ w.heap.size)) g2;have q3:=o2.kept (grownBy_setCell' w2 w.heap.size (.slice A2 (pre.length+1) c2)) (.inr (q1.not_row (by decide) o2).symm);have qc:=q1.cell;have qf:=q1.frozen;have HL2:=zh (LS.xI ZO.out q5 hlt H9 Ia);have HK:Hid (LS base B bt bh b s h vs n (Tr.raw g av) vf fr live root W→LS base B bt bh b s h vs n (Tr.raw g av) vf fr live root (w2.setCell ⟨w.heap.size,0,none⟩ (.slice A2 (pre.length+1) c2))):=zh (fun H=>LS.xI H q5 hlt H9 Ia);have HB2:=zh (uo.out.trans q5);have Q2:=zh q2;have Q3:=zh q3;have Q4:=zh q4;clear q2 q3 q4 q5 q1 nZ o2 g2
  gi_wp2_with fail
  exact⟨Q4.out,HK.out,⟨_,Q2.out,by rw[List.length_append];exact Q3.out⟩,HL2.out,HB2.out⟩
 case done=>
  rintro D xs W hD rfl ⟨⟨v,hv,hrow⟩,mo,hBW⟩ hK;obtain⟨Av,cv,rfl⟩:=aF (aG hrow);rw[List.length_attach] at hv;have hc:=hv.cell;have hr2:W.ownsRow w.heap.size 3 1 (.slice Av (Tr.au g h).length cv) (Tr.au g h).length (ints (Tr.au g h)):=by
   rw[List.length_attach,List.attach_map_subtype_val] at hrow;exact eT hrow (by omega)
  have HB:=zh (And.intro (ownsRow_putObj hr2 (.deferred none) hK rfl) (hBW.trans (belowK_b (w:=w) (Nat.le_refl _) W D _ (.deferred none) (by omega) hK rfl rfl)));clear hrow hr2 mo hBW hv
  gi_wp2_with fail
  refine⟨by simp,.inl ⟨_,_,rfl,run_takeDeferred hK,?_⟩⟩;exact⟨_,results_tmp rfl _ _ _,.slice Av (Tr.au g h).length cv,rfl,HB.out.1,HB.out.2⟩
 case stop=>
  rintro D c pre W _ _ h _;exact h.elim
theorem NR (base B bt bh:Nat) (b s root h:Int) (live n:Nat) (g:Tr.G) (av:Int→Tr.Sl) (fr:List Nat) (vs vf:Value) (w:World) (hS:Sound b s n (Tr.raw g av) fr live) (hw:Tr.WF 0 g) (hh:gI h) (hL:LS base B bt bh b s h vs n (Tr.raw g av) vf fr live root w) (zG:(Tr.ak g h).length≤100000):
  Calls Tryz.prog 132 #[.slice none 0 0,.func (.func 130) #[] #[.pointer (some ⟨bt,0,none⟩),.pointer (some ⟨bh,0,none⟩)]] w fun e w'=>∃ v,e=.returned v∧w'.ownsRow w.heap.size 3 1 v (Tr.ak g h).length (ints (Tr.ak g h))∧Below w.heap.size w w':=by
 obtain⟨i0,hi,hz0,hz1,hz2⟩:=info_parts vo;have hlt:=hL.tree.lt;have H9:=hL.bt.lt;have Ia:=hL.bh.lt;obtain⟨w1,hw1⟩:=eX (w.alloc (.cells #[.slice none 0 0] 39))
 have hz1':w1.heap.size=w.heap.size+1:=by rw[←hw1];simp
 have hb1:Below w.heap.size w w1:=fI hw1;have hX1:Boxed w1 w.heap.size 39 (.slice none 0 0):=by rw[←hw1];exact Boxed.new w _ _
 have hL1:=hL.below hb1;have hseq:=zN hS hw hh 7 (by omega) w1 hL1;have hm1:¬ aD B vs vf w.heap.size:=fun hk=>by have:=(hlt _ hk).2;omega
 have HL:=zh hL1;clear hL hL1;refine (callsIn_wide (n:=8)).1 ?_;refine callsIn_of_wp_marks Tryz.func132 rfl trivial ?_ rfl;simp only[Tryz.ntmps132,pT,Nat.reduceAdd,Nat.reduceSub]
 gi_wp2_with fail
 (try rw[hw1]);(try gi_wp2_with fail);refine wpIn_rangeFunc_ownF (w:=w1) rfl (by decide) (gf:=130) (lb:=#[.pointer (some ⟨bt,0,none⟩),.pointer (some ⟨bh,0,none⟩)]) rfl trivial (enters_of Tryz.func130 (by kernel_rfl) rfl) hseq LS.qW (LS.uq _) (Below.refl _ _) (fun _=>rfl)
  (fun pre W=>(∃ v,Boxed W w.heap.size 39 v∧W.ownsRow (w.heap.size+1) 3 1 v pre.length (ints (pre.map (·.1))))∧LS base B bt bh b s h vs n (Tr.raw g av) vf fr live root W∧Below w.heap.size w W) (fun _ _ _=>False)
  ?hI ?hIx ⟨⟨_,hX1,World.ownsRow_nil _ _ _ _⟩,HL.out,hb1⟩ (fun x=>{ tmps:=#[.slice none 0 0,.func (.func 130) #[] #[.pointer (some ⟨bt,0,none⟩),.pointer (some ⟨bh,0,none⟩)],.pointer (some ⟨w.heap.size,0,none⟩),undef,.slice none 0 0,.int .i64 x.1,.func (.func 130) #[] #[.pointer (some ⟨bt,0,none⟩),.pointer (some ⟨bh,0,none⟩)],.int .i64 x.1,undef,undef,undef,undef,undef],defers:=[] }) ?assign ?body ?done ?stop
 case hI=>
  rintro pre W W' row ⟨⟨v,h1,h2⟩,h3,h4⟩ hg hr;refine⟨⟨v,h1.kept hg (fun e'=>?_),h2.kept hg ?_⟩,h3.others hg (fun r e=>(hr r e).2),h4.grown hg h4.size (fun r e=>by have:=(hr r e).1;omega)⟩
  ·obtain⟨o,ho,hc⟩:=(hr _ e'.symm).2;rw[show W.heap[w.heap.size]?=_ from h1] at ho;cases ho;cases hc
  ·rcases h2.2 with ⟨rfl,_⟩ | ⟨g,cap,cur,rfl,_,hgb,_⟩
   ·exact .inl rfl
   ·refine .inr fun e'=>?_;obtain⟨o,ho,hc⟩:=(hr g (by rw[←e'];rfl)).2;rw[hgb] at ho;cases ho;cases hc
 case hIx=>intro c pre W W' row h _ _;exact h
 case assign=>
  intro l x W K hK
  gi_wp2
  first | exact hK | simpa using hK
 case body=>
  rintro l pre x W ⟨⟨v,hv,hrow⟩,mo,hBW⟩ hlen;obtain⟨Av,cv,rfl⟩:=aF (aG hrow);have hc:=hv.cell;have hfz:=hv.frozen;have hpl:pre.length≤100000:=by omega
  have hsz:w.heap.size+1≤W.heap.size:=hv.lt;have hrow':=hrow.alloc (.cells #[.int .i64 x.1] 3);have ZO:=zh mo;have uo:=zh hBW;have HV:=zh hv;have AB:=zh hrow;clear mo hBW hrow
  gi_wp2_with (gi_at_builtin;refine wpListIn_append_own _ rfl _ _ 39 rfl (w.heap.size+1) 3 i0 (.int .i64 0) 1 8 Tryz.underlying39 hi hz0 hz1 hz2 rfl (by decide) _ _ _ rfl hrow' ⟨W.heap.size,0,none⟩ 1 1 [.int .i64 x.1] rfl rfl (jh _ _ _) (by simp[Value.oneCell']) ?c1 ?c2 ?c3 ?_)
  case c1=>unfold maxLen;omega
  case c2=>omega
  case c3=>rw[World.size_alloc];omega
  intro v2 w2 o2 g2 _;have hmap:ints pre.unattach++[.int .i64 x.1]=ints ((pre++[x]).map (·.1)):=by rw[List.map_append];exact xJ _ _
  rw[hmap] at o2;obtain⟨A2,c2,rfl⟩:=aF (aG o2);have nZ:=eT AB.out (Nat.le_succ w.heap.size);obtain⟨q1,q2,_,q4,q5⟩:=Boxed.appended HV.out (by decide) nZ (by omega) (Nat.le_refl _) (eT o2 (Nat.le_succ w.heap.size)) g2;have q3:=o2.kept (grownBy_setCell' w2 w.heap.size (.slice A2 (pre.length+1) c2)) (.inr (q1.not_row (by decide) o2).symm);have qc:=q1.cell;have qf:=q1.frozen;have HL2:=zh (LS.xI ZO.out q5 hlt H9 Ia);have HK:Hid (LS base B bt bh b s h vs n (Tr.raw g av) vf fr live root W→LS base B bt bh b s h vs n (Tr.raw g av) vf fr live root (w2.setCell ⟨w.heap.size,0,none⟩ (.slice A2 (pre.length+1) c2))):=zh (fun H=>LS.xI H q5 hlt H9 Ia);have HB2:=zh (uo.out.trans q5);have Q2:=zh q2;have Q3:=zh q3;have Q4:=zh q4;clear q2 q3 q4 q5 q1 nZ o2 g2
  gi_wp2_with fail
  exact⟨Q4.out,HK.out,⟨_,Q2.out,by rw[List.length_append];exact Q3.out⟩,HL2.out,HB2.out⟩
 case done=>
  rintro D xs W hD rfl ⟨⟨v,hv,hrow⟩,mo,hBW⟩ hK;obtain⟨Av,cv,rfl⟩:=aF (aG hrow);rw[List.length_attach] at hv;have hc:=hv.cell;have hr2:W.ownsRow w.heap.size 3 1 (.slice Av (Tr.ak g h).length cv) (Tr.ak g h).length (ints (Tr.ak g h)):=by
   rw[List.length_attach,List.attach_map_subtype_val] at hrow;exact eT hrow (by omega)
  have HB:=zh (And.intro (ownsRow_putObj hr2 (.deferred none) hK rfl) (hBW.trans (belowK_b (w:=w) (Nat.le_refl _) W D _ (.deferred none) (by omega) hK rfl rfl)));clear hrow hr2 mo hBW hv
  gi_wp2_with fail
  refine⟨by simp,.inl ⟨_,_,rfl,run_takeDeferred hK,?_⟩⟩;exact⟨_,results_tmp rfl _ _ _,.slice Av (Tr.ak g h).length cv,rfl,HB.out.1,HB.out.2⟩
 case stop=>
  rintro D c pre W _ _ h _;exact h.elim
end
section
open Go.RowKit
theorem tN:bB.rep []=[]:=List.eq_nil_of_length_eq_zero (by have:=bB.mV [];simp at this;simpa using this)
end
section
open Go.RowKit Go.Shelf
attribute [local go_sem] Oper.semAt_some
theorem NS (base B:Nat) (b s root h:Int) (live n:Nat) (g:Tr.G) (av:Int→Tr.Sl) (fr:List Nat) (vs vf:Value) (w:World) (hm:TV base w B b s vs n (Tr.raw g av) vf fr live root) (hS:Sound b s n (Tr.raw g av) fr live) (hw:Tr.WF 0 g) (hh:gI h) (zG:(Tr.ak g h).length≤1000000):
  Calls Tryz.prog 127 #[.pointer (some ⟨B,0,none⟩),.int .i64 h] w fun e w'=>e=.returned (.int .i64 ((Tr.ak g h).length:Nat))∧Below w.heap.size w w':=by
 have hlt:=hm.lt;refine (callsIn_wide (n:=8)).1 ?_;refine callsIn_of_wp_marks Tryz.func127 rfl trivial ?_ rfl;simp only[Tryz.ntmps127,pT,Nat.reduceAdd,Nat.reduceSub]
 gi_wp2_with fail
 obtain⟨w1,hw1⟩:=eX (w.alloc (.cells #[.int .i64 0] 3))
 have hz1:w1.heap.size=w.heap.size+1:=by rw[←hw1];simp
 have hb1:Below w.heap.size w w1:=fI hw1;have hX1:Whole w1 w.heap.size #[.int .i64 0] 3:=by rw[←hw1];exact Whole.new w _ _
 have hL:=LS.made (h:=h) (hm.below hb1);have hsz2:((w1.alloc (.cells #[.pointer (some ⟨B,0,none⟩)] 37)).alloc (.cells #[.int .i64 h] 3)).heap.size=w1.heap.size+2:=by simp
 have hb2:Below w1.heap.size w1 ((w1.alloc (.cells #[.pointer (some ⟨B,0,none⟩)] 37)).alloc (.cells #[.int .i64 h] 3)):=((Below.refl _ w1).alloc (Nat.le_refl _) _).alloc (by simp) _;have hseq:=zN hS hw hh 7 (by omega) _ hL;have zO:=zh (wQ B h w1);(try rw[hw1]);refine⟨trivial,(callsIn_wide.2 zO.out).mono ?_⟩;rintro e w' ⟨rfl,hw'⟩;rw[←hw'] at hL hsz2 hb2 hseq;have hX2:=hX1.below hb2 hX1.lt;have hB2:=hb1.trans (hb2.mono hb1.size);clear hm hS hX1 hw' hb2 zO
 gi_wp2_with fail
 rw[hz1] at hseq hL hsz2;have hm1:¬ aD B vs vf w.heap.size:=fun hk=>by have:=(hlt _ hk).2;omega
 refine wpIn_rangeFunc_ownF (w:=w') rfl (by decide) (gf:=130) (lb:=#[.pointer (some ⟨w.heap.size+1,0,none⟩),.pointer (some ⟨w.heap.size+1+1,0,none⟩)]) rfl trivial (enters_of Tryz.func130 (by kernel_rfl) rfl) hseq LS.qW (LS.uq _) (Below.refl _ _) (fun _=>rfl)
  (fun pre W=>Whole W w.heap.size #[.int .i64 (pre.length:Nat)] 3∧LS base B (w.heap.size+1) (w.heap.size+1+1) b s h vs n (Tr.raw g av) vf fr live root W∧Below w.heap.size w W) (fun _ _ _=>False)
  ?hI ?hIx ⟨hX2,hL,hB2⟩ (fun x=>{ tmps:=#[.pointer (some ⟨B,0,none⟩),.int .i64 h,undef,undef,.int .i64 0,.pointer (some ⟨w.heap.size,0,none⟩),.pointer (some ⟨B,0,none⟩),.int .i64 h,.func (.func 130) #[] #[.pointer (some ⟨w.heap.size+1,0,none⟩),.pointer (some ⟨w.heap.size+1+1,0,none⟩)],.int .i64 x.1,undef,undef,undef],defers:=[] }) ?assign ?body ?done ?stop
 case hI=>
  rintro pre W W' row ⟨h1,h2,h3⟩ hg hr;exact⟨bg h1 hg (fun r e=>(hr r e).2),h2.others hg (fun r e=>(hr r e).2),h3.grown hg h3.size (fun r e=>by have:=(hr r e).1;omega)⟩
 case hIx=>intro c pre W W' row h _ _;exact h
 case assign=>
  intro l x W K hK
  gi_wp2
  simpa using hK
 case body=>
  rintro l pre x W ⟨hX,mo,hBW⟩ hlen;have c0:W.cell? ⟨w.heap.size,0,none⟩=some (.int .i64 (pre.length:Nat)):=hX.cell 0;have f0:=hX.free 0;have hpl:pre.length≤1000000:=by omega
  have Cc:=hX.put 0 (.int .i64 ((pre.length:Int)+1));have hL':=mo.set hm1 (by omega) (by omega) 0 (.int .i64 ((pre.length:Int)+1));have HF:=zh (And.intro Cc (And.intro hL' (hBW.setCell (p:=⟨w.heap.size,0,none⟩) (Nat.le_refl _) (.int .i64 ((pre.length:Int)+1)))));clear hX mo hBW Cc hL'
  gi_wp2_with fail
  refine⟨KeepsOthers.setCell _ _ _,fun _=>HF.out.2.1,?_,HF.out.2.1,HF.out.2.2⟩;rw[List.length_append];exact HF.out.1
 case done=>
  rintro D xs W hD rfl ⟨hX,mo,hBW⟩ hK;rw[List.length_attach] at hX;have c0:W.cell? ⟨w.heap.size,0,none⟩=some (.int .i64 ((Tr.ak g h).length:Nat)):=hX.cell 0;have HB:=zh (hBW.trans (belowK_b (w:=w) (Nat.le_refl _) W D _ (.deferred none) (by omega) hK rfl rfl));clear hX mo hBW
  gi_wp2_with fail
  refine⟨by simp,.inl ⟨_,_,rfl,run_takeDeferred hK,?_⟩⟩;exact⟨_,results_tmp rfl _ _ _,rfl,HB.out⟩
 case stop=>
  rintro D c pre W _ _ h _;exact h.elim
end
section
open Go.RowKit
section
variable {F:Fence} {N:Nat} {P:Program} {w:World}
theorem nH {ops:Array Oper} {o:Oper} {a:Act} {K:Act→World→Prop} {Q:Exit→Act→World→Prop} {E:Prop} (hgd:o.guard=none) (s x:Operand) (t:TypeId)
  (ho:o.op=.call { callee:=.builtin .append,args:=#[s,x],argTypes:=#[t,t] })
  (base:Nat) (e:TypeId) (i:TypeInfo) (z:Value) (size bytes:Nat) (ht:P.underlying t=some (.slice e)) (hi:P.info? e=some i) (hz:i.zero=some z)
  (hsize:i.size=size) (hby:i.bytes=bytes) (hzs:z.cells.size=size) (hsz:0<size)
  (v:Value) (n:Nat) (xs:List Value) (hs:a.eval s=v) (hown:TR w base e size v n xs) (v2:Value) (m:Nat) (ys:List Value) (hx:a.eval x=v2) (hyl:ys.length=m*size)
  (hsrc:(v2=.slice none 0 0∧m=0)∨∃ a c,v2=.slice (some a) m c∧∀ j u,ys[j]?=some u→w.cell? (a.add j)=some u) (h1:∀ u∈ys,u.oneCell'=true)
  (h63:n+m≤maxLen) (hbytes:(n+m)*bytes≤140737488355328) (hbase:base≤w.heap.size)
  (h:∀ v' w',TR w' base e size v' (n+m) (xs++ys)→w.grownBy w' v.ownBlock→mP w v v'→K (a.put o.dst v') w'):
  if Region.wanted o (yielded ops a.tmps)=true then Oper.wpIn F N P o a w K Q else E:=by
 have hw:Region.wanted o (yielded ops a.tmps)=true:=by simp[Region.wanted,hgd]
 rw[if_pos hw];obtain⟨v',w',hr,h2,h3,h4⟩:=mJ (P:=P) base t o.type e i z size bytes ht hi hz hsize hby hzs hsz v n xs hown v2 m ys hyl hsrc h1 h63 hbytes hbase;unfold Oper.wpIn;rw[Oper.semAt_eq _ _ _ (fun c hc=>by rw[ho] at hc;cases hc)];refine⟨fun f hf=>?_,?_⟩
 ·unfold Oper.about at hf;simp[ho,resolve,Sem.run_pure,Target.leads] at hf
 ·unfold execOp;simp only[ho,resolve,invoke,builtin,Sem.run_bind,Sem.run_pure,Result.andThen_ok,List.map_toArray,List.map_cons,List.map_nil,hs,hx,hr];exact h v' w' h2 h3 h4
end
end
section
open Go.RowKit Go.Shelf
attribute [local go_sem] Oper.semAt_some
def ou (x y:Int):Int:=if x<y then -1 else if y<x then 1 else 0
theorem Eb (x:Int) (w:World):Calls Tryz.prog 104 #[.int .i64 x] w fun e w'=>e=.returned (.bool false)∧w'=w:=by
 go_enter Tryz.func104,Tryz.ntmps104
 go_wp2_with fail
 go_ret
 simp
theorem ow (x y:Int) (w:World):Calls Tryz.prog 53 #[.int .i64 x,.int .i64 y] w fun e w'=>e=.returned (.int .i64 (ou x y))∧w'=w:=by
 have h1:=Eb x w;have h2:=Eb y w
 go_enter Tryz.func53,Tryz.ntmps53
 go_wp2_with fail;refine h1.mono ?_;rintro e w1 ⟨rfl,rfl⟩;clear h1;go_wp2_with fail;refine h2.mono ?_;rintro e w2 ⟨rfl,rfl⟩;clear h2;by_cases h:x<y
 ·go_wp2_with fail
  go_ret
  simp[ou,h]
 ·by_cases h':y<x
  ·go_wp2_with fail
   go_ret
   simp[ou,h,h']
  ·have hc:ou x y=0:=by unfold ou;rw[if_neg h,if_neg h']
   go_wp2_with fail
   go_ret
   simp[hc]
end
section
open Go.RowKit
variable {F:Fence} {n:Nat} {P:Program}
theorem uY {α:Type} {g:Operand} {ps:Array Tmp} {assign body:Code} {Q:Exit→Act→World→Prop} {a:Act} {w:World}
  (hro:F.round=none) (h1:1≤n) {gf:Nat} {lb:Array Value} (hg:a.eval g=.func (.func gf) #[] lb) (hFg:F.fn gf) (eg:∀ args w,(callFunc gf args).run P w=.ok (.enter gf args) w)
  {encs:α→Array Value} {Kp:World→World→Prop} {S Sp:List α→Prop} {N:Nat} {w0:World} (hseq:SeqStopsK F (n - 1) P gf lb encs Kp S Sp N w0)
  (hKt:∀ {A B C:World},Kp A B→Kp B C→Kp A C) (hKb:∀ (W:World) (l:Nat) (o o':Obj),w.heap.size≤l→W.heap[l]?=some o→o.isCells=false→o.isWalk=false→Kp W (W.putObj l o')) (hb0:Below w0.heap.size w0 w) (hps:∀ x,(encs x).size=ps.size)
  (I:List α→World→Prop) (hI:OwnFrom w.heap.size I) (h0:I [] w)
  (hassign:∀ (l:Nat) (pre:List α) (x:α) (W:World) (K:Act→World→Prop),I pre W→pre.length<N→(∀ a' W',KeepsOthers W W'→Kp W W'→I (pre++[x]) W'→K a' W')→
   assign.wpIn (F.inRound l) (n - 1 - 1) P (Exit.then K (fun _ _ _=>False)) { tmps:=(ps.zip (encs x)).foldl (fun t (p,v)=>t.setIfInBounds p v) a.tmps,defers:=[] } W)
  (hbody:∀ (l:Nat) (a':Act) (W:World) (R:Exit→Act→World→Prop),R .normal a' W→body.wpIn (F.inRound l) (n - 1 - 1) P R a' W)
  (hdone:∀ (D:Nat) (xs:List α) (W:World),w.heap.size≤D→S xs→I xs W→W.heap[D]?=some (.deferred (some []))→Q .normal { a with defers:={ target:=.collected D,args:=#[] }::a.defers } W):
  (Code.rangeFunc g ps assign body).wpIn F n P Q a w:=by
 apply wpIn_rangeFunc;intro fn hfn;rw[hro];let R:LoopState→Loop:=fun st=>{ state:=st,pending:=none,fn,tmps:=a.tmps,params:=ps,assign,body,defers:=w.heap.size }
 let V:=(w.alloc (.deferred (some []))).alloc (.loop (R .ready))
 have hVs:V.heap.size=w.heap.size+2:=by simp[V]
 have hVl:V.heap[w.heap.size+1]?=some (.loop (R .ready)):=by
  have:=World.alloc_heap_new (w.alloc (.deferred (some []))) (.loop (R .ready));rwa [World.size_alloc] at this
 have hVd:V.heap[w.heap.size]?=some (.deferred (some [])):=(Below.heap_alloc _ _ _ (by simp)).trans (World.alloc_heap_new w _);have dS:Below w0.heap.size w0 V:=hb0.trans ((((Below.refl _ w).alloc (Nat.le_refl _) _).alloc (by simp) _).mono hb0.size);have far:∀ {A B:World} {row:Option Nat},(∀ r,row=some r→V.heap.size≤r∧∃ o:Obj,A.heap[r]?=some o∧o.isWalk=true)→(∀ r,row=some r→w.heap.size≤r∧∃ o:Obj,A.heap[r]?=some o∧o.isCells=false):=by
  intro A B row hr r e;obtain⟨h2,o,ho,hwk⟩:=hr r e;exact⟨by omega,o,ho,Obj.not_cells_of_walk hwk⟩
 refine⟨w.heap.size+1,[{ target:=.collected w.heap.size,args:=#[] }],V,{ target:=.fn (.func gf) lb,args:=#[.func (.yield (w.heap.size+1)) #[] #[]] },V,gf,
  #[.func (.yield (w.heap.size+1)) #[] #[]]++lb,V,run_enterLoop_outer _ _ _ _ _,?_,?_,?_,fun _=>h1,?_⟩
 ·simp only[resolve,hg];simp[go_sem]
 ·intro f' hf';simp[Target.leads] at hf';subst hf';exact hFg
 ·simp[invoke,go_sem,eg]
 refine (hseq (w.heap.size+1)
  (fun pre W=>I pre W∧W.heap[w.heap.size+1]?=some (.loop (R .ready))∧W.heap[w.heap.size]?=some (.deferred (some []))) (fun _ _=>False) V dS
  (fun s A B row hs hg' hr=>⟨hI s A B row hs.1 hg' (far (B:=B) hr),(grownBy_keeps hg' (fun r e=>(hr r e).2) hs.2.1 rfl).trans hs.2.1,(grownBy_keeps hg' (fun r e=>(hr r e).2) hs.2.2 rfl).trans hs.2.2⟩)
  (fun _ _ _ _ hs _ _=>hs) ?_ ⟨hI.alloc _ (hI.alloc _ h0),hVl,hVd⟩).mono ?_
 ·rintro pre x W ⟨hi,hl,hd⟩ hlen;have hy:=run_yield (P:=P) (args:=encs x) hl (by simpa [R] using hps x);refine⟨fn,_,assign,body,hy,roundIn_of_wpIn hfn (hassign _ pre x W _ hi hlen fun a' W1 k1 p1 i1=>?_)⟩;have hl1:=k1.same _ _ hl rfl;have hd1:=k1.same _ _ hd rfl;have hlt:w.heap.size+1<W1.heap.size:=(Array.getElem?_eq_some_iff.1 hl1).1;refine⟨_,run_beginRound hl1 rfl,hbody _ _ _ _ ?_⟩;have hl2:(W1.putObj (w.heap.size+1) (.loop { R .ready with state:=.busy })).heap[w.heap.size+1]?=some (.loop { R .ready with state:=.busy }):=World.putObj_heap_same hlt;have hlt2:=(Array.getElem?_eq_some_iff.1 hl2).1;have hd2:(W1.putObj (w.heap.size+1) (.loop { R .ready with state:=.busy })).heap[w.heap.size]?=some (.deferred (some [])):=(World.putObj_heap_other (by omega)).trans hd1;have i2:=hI.putObj (.loop { R .ready with state:=.busy }) i1 (by omega) hl1 rfl;have p2:=hKb W1 _ _ (.loop { R .ready with state:=.busy }) (by omega) hl1 rfl rfl;have hr:=run_endRound (P:=P) none hl2;exact⟨_,_,hr,.inl ⟨rfl,⟨hI.putObj _ i2 (by omega) hl2 rfl,World.putObj_heap_same hlt2,(World.putObj_heap_other (by omega)).trans hd2⟩,hKt (hKt p1 p2) (hKb _ _ _ _ (by omega) hl2 rfl rfl)⟩⟩
 ·rintro e W2 ⟨⟨v,rfl⟩,(⟨xs,hS,hi,hl,hd⟩ | ⟨pre,_,hf⟩)⟩
  ·exact⟨none,_,run_endLoop (P:=P) hl (by simp[R]),hdone _ xs _ (Nat.le_refl _) hS (hI.putObj _ hi (by omega) hl rfl) ((World.putObj_heap_other (by omega)).trans hd)⟩
  ·exact hf.elim
end
section
open Go.RowKit Go.Shelf
attribute [local go_sem] Oper.semAt_some
theorem tO (base B:Nat) (b s root h:Int) (live n:Nat) (g:Tr.G) (av:Int→Tr.Sl) (fr:List Nat) (vs vf:Value) (w:World) (hm:TV base w B b s vs n (Tr.raw g av) vf fr live root) (hS:Sound b s n (Tr.raw g av) fr live) (hw:Tr.WF 0 g) (hh:gI h):
  Calls Tryz.prog 19 #[.pointer (some ⟨B,0,none⟩),.int .i64 h] w fun e w'=>e=.returned (.int .i64 (Tr.dF (Tr.aS g h)))∧Below w.heap.size w w':=by
 have zG:=(hw.cu h).2;have hlt:=hm.lt;refine (callsIn_wide (n:=8)).1 ?_;refine callsIn_of_wp_marks Tryz.func19 rfl trivial ?_ rfl;simp only[Tryz.ntmps19,pT,Nat.reduceAdd,Nat.reduceSub]
 gi_wp2_with fail
 obtain⟨w1,hw1⟩:=eX (w.alloc (.cells #[.int .i64 0] 3))
 have hz1:w1.heap.size=w.heap.size+1:=by rw[←hw1];simp
 have hb1:Below w.heap.size w w1:=fI hw1;have hX1:Whole w1 w.heap.size #[.int .i64 0] 3:=by rw[←hw1];exact Whole.new w _ _
 have hL:=LS.made (h:=h) (hm.below hb1);have hsz2:((w1.alloc (.cells #[.pointer (some ⟨B,0,none⟩)] 37)).alloc (.cells #[.int .i64 h] 3)).heap.size=w1.heap.size+2:=by simp
 have hb2:Below w1.heap.size w1 ((w1.alloc (.cells #[.pointer (some ⟨B,0,none⟩)] 37)).alloc (.cells #[.int .i64 h] 3)):=((Below.refl _ w1).alloc (Nat.le_refl _) _).alloc (by simp) _;have hseq:=Fu hS hw hh 7 (by omega) _ hL;have zO:=zh (zD B h w1);(try rw[hw1]);refine⟨trivial,(callsIn_wide.2 zO.out).mono ?_⟩;rintro e w' ⟨rfl,hw'⟩;rw[←hw'] at hL hsz2 hb2 hseq;have hX2:=hX1.below hb2 hX1.lt;have hB2:=hb1.trans (hb2.mono hb1.size);clear hm hS hX1 hw' hb2 zO
 gi_wp2_with fail
 rw[hz1] at hseq hL hsz2;have hm1:¬ aD B vs vf w.heap.size:=fun hk=>by have:=(hlt _ hk).2;omega
 refine uY (w:=w') rfl (by decide) (gf:=103) (lb:=#[.pointer (some ⟨w.heap.size+1+1,0,none⟩),.pointer (some ⟨w.heap.size+1,0,none⟩)]) rfl trivial (enters_of Tryz.func103 (by kernel_rfl) rfl) hseq LS.qW (LS.uq _) (Below.refl _ _) (fun _=>rfl)
  (fun pre W=>Whole W w.heap.size #[.int .i64 (Tr.dF (pre.map (·.1)))] 3∧LS base B (w.heap.size+1) (w.heap.size+1+1) b s h vs n (Tr.raw g av) vf fr live root W∧Below w.heap.size w W)
  ?hI ⟨hX2,hL,hB2⟩ ?assign ?body ?done
 case hI=>
  rintro pre W W' row ⟨h1,h2,h3⟩ hg hr;exact⟨bg h1 hg (fun r e=>(hr r e).2),h2.others hg (fun r e=>(hr r e).2),h3.grown hg h3.size (fun r e=>by have:=(hr r e).1;omega)⟩
 case assign=>
  rintro l pre x W K ⟨hX,mo,hBW⟩ hlen hK;have c0:W.cell? ⟨w.heap.size,0,none⟩=some (.int .i64 (Tr.dF (pre.map (·.1)))):=hX.cell 0;have f0:=hX.free 0;have Cc:=hX.put 0 (.int .i64 x.1);have hL':=mo.set hm1 (by omega) (by omega) 0 (.int .i64 x.1);have HF:=zh (And.intro Cc (And.intro hL' (hBW.setCell (p:=⟨w.heap.size,0,none⟩) (Nat.le_refl _) (.int .i64 x.1))));have HK:=zh hK;clear hX mo hBW Cc hL' hK
  gi_wp2_with fail
  refine HK.out _ _ (KeepsOthers.setCell _ _ _) (fun _=>HF.out.2.1) ⟨?_,HF.out.2.1,HF.out.2.2⟩;rw[List.map_append,List.map_cons,List.map_nil,Tr.l7];exact HF.out.1
 case body=>
  intro l a' W R hR
  gi_wp2
  simpa using hR
 case done=>
  rintro D xs W hD rfl ⟨hX,mo,hBW⟩ hK;rw[List.attach_map_subtype_val] at hX;have c0:W.cell? ⟨w.heap.size,0,none⟩=some (.int .i64 (Tr.dF (Tr.aS g h))):=hX.cell 0;have HB:=zh (hBW.trans (belowK_b (w:=w) (Nat.le_refl _) W D _ (.deferred none) (by omega) hK rfl rfl));clear hX mo hBW
  gi_wp2_with fail
  refine⟨by simp,.inl ⟨_,_,rfl,run_takeDeferred hK,?_⟩⟩;exact⟨_,results_tmp rfl _ _ _,rfl,HB.out⟩
end
end Go.Proofs.YtmhjlifmcadefaaGreatDoor
