/- Part of a proof about trees. -/
import Derived.Test.YtnbaadpgbcklaaaGreatDoorS02
set_option linter.unusedVariables false
set_option linter.unusedSimpArgs false
set_option maxHeartbeats 2000000
set_option maxRecDepth 100000
namespace Go.Proofs.YtnbaadpgbcklaaaGreatDoor
section
open Go.RowKit
def gD (l:List (ByteArray×ByteArray)) (nm v:ByteArray):List (ByteArray×ByteArray):=match l[oV l nm]? with
 | some p=>l.set (oV l nm) (p.1,v)
 | none=>l++[(nm,v)]
def lD (l:List (ByteArray×ByteArray)) (nm:ByteArray):ByteArray:=match l[oV l nm]? with
 | some p=>p.2
 | none=>⟨#[]⟩
def uP (l:List (ByteArray×ByteArray)) (nm:ByteArray):Bool:=decide (oV l nm<l.length)
def aX (s:ByteArray):ByteArray:=fA (bD.rep s.data.toList)
def jH (h:Int) (nm old:ByteArray) (had:Bool):Tr.Rec:=⟨3,h,0,0,0,0,nm,old,had,0,0⟩
theorem Kn {g:Tr.G} {av:Int→Tr.Sl} {h:Int} {sl:Tr.Sl} {u:Tr.GN→Tr.GN} {U:Tr.Nd→Tr.Nd} (hu:∀ n,(u n).pa=n.pa∧(u n).kids=n.kids) (hU:∀ n,g h=some n→Tr.bU (Tr.cB g h u) (Tr.eT av h sl) h (u n)=U (Tr.bU g av h n)):Tr.raw (Tr.cB g h u) (Tr.eT av h sl)=Tr.upd (Tr.raw g av) h U:=by
 have hk:∀ p,Tr.ak (Tr.cB g h u) p=Tr.ak g p:=fun p=>by
  unfold Tr.ak Tr.cB;by_cases e:p=h
  ·subst e;rw[if_pos rfl];cases g p with | none=>rfl | some m=>exact (hu m).2
  ·rw[if_neg e]
 funext x;unfold Tr.upd;by_cases hx:x=h
 ·subst hx;rw[if_pos rfl];cases e:g x with
  | none=>rw[Tr.bB e,Tr.bB];rfl;unfold Tr.cB;rw[if_pos rfl,e];rfl
  | some m=>
   have e2:Tr.cB g x u x=some (u m):=by unfold Tr.cB;rw[if_pos rfl,e];rfl
   rw[Tr.aj e,Tr.aj e2,hU m e];rfl
 ·rw[if_neg hx];cases e:g x with
  | none=>rw[Tr.bB e,Tr.bB];unfold Tr.cB;rw[if_neg hx,e]
  | some m=>
   have e2:Tr.cB g h u x=some m:=by unfold Tr.cB;rw[if_neg hx,e]
   rw[Tr.aj e,Tr.aj e2];unfold Tr.bU;rw[hk,Tr.uQ hx]
theorem I7 {g:Tr.G} {av:Int→Tr.Sl} {h:Int} {sl:Tr.Sl} {f:Tr.GN→List (ByteArray×ByteArray)} (n:Tr.GN) (e:g h=some n):Tr.bU (Tr.cB g h fun n=>{ n with attrs:=f n }) (Tr.eT av h sl) h { n with attrs:=f n }={ Tr.bU g av h n with av:=sl }:=by
 unfold Tr.bU;dsimp only;rw[Tr.lF];have hk:∀ p,Tr.ak (Tr.cB g h fun n=>{ n with attrs:=f n }) p=Tr.ak g p:=fun p=>by
  unfold Tr.ak Tr.cB;by_cases e:p=h
  ·subst e;rw[if_pos rfl];cases g p with | none=>rfl | some m=>rfl
  ·rw[if_neg e]
 rw[hk]
theorem TV.mY {base B n live gb o:Nat} {w:World} {b s root h:Int} {vs vf:Value} {g:Tr.G} {av:Int→Tr.Sl} {fr:List Nat} {nd:Tr.GN} (hM:TV base w B b s vs n (Tr.raw g av) vf fr live root) (hS:Sound b s n (Tr.raw g av) fr live) (ha:AT w g av) (hp:PtrTo b s vs n gb o h) (eg:g h=some nd) (f:Tr.GN→List (ByteArray×ByteArray)) (sl:Tr.Sl) (hr:AR w 0 sl.v (f nd)):
  TV base (w.setCell ⟨gb,o+2,none⟩ sl.v) B b s vs n (Tr.raw (Tr.cB g h fun n=>{ n with attrs:=f n }) (Tr.eT av h sl)) vf fr live root∧Sound b s n (Tr.raw (Tr.cB g h fun n=>{ n with attrs:=f n }) (Tr.eT av h sl)) fr live∧
   AT (w.setCell ⟨gb,o+2,none⟩ sl.v) (Tr.cB g h fun n=>{ n with attrs:=f n }) (Tr.eT av h sl)∧aB w (w.setCell ⟨gb,o+2,none⟩ sl.v) (aD B vs vf) (aD B vs vf):=by
 have e:Tr.raw (Tr.cB g h fun n=>{ n with attrs:=f n }) (Tr.eT av h sl)=Tr.upd (Tr.raw g av) h fun d=>{ d with av:=sl }:=Kn (fun _=>⟨rfl,rfl⟩) (fun n en=>I7 n en);obtain⟨k1,k2⟩:=hM.mG (j:=2) (v:=sl.v) hp (Tr.aj eg) (fun d=>{ d with av:=sl }) rfl (by omega) rfl;rw[e];refine⟨k1,hS.upd,?_,k2⟩;have hA:=AT.put (h:=h) (sl:=sl) (u:=fun n=>{ n with attrs:=f n }) ha (fun m em=>by rw[eg] at em;obtain rfl:=Option.some.inj em;exact hr);exact hA.step hM k2
theorem yY (base B:Nat) (b s root h:Int) (live n:Nat) (g:Tr.G) (av:Int→Tr.Sl) (fr:List Nat) (vs vf:Value) (nm v:ByteArray) (w:World) (hm:TV base w B b s vs n (Tr.raw g av) vf fr live root) (hS:Sound b s n (Tr.raw g av) fr live) (hh:lQ h) (hk:∀ x m,g x=some m→m.kind≠0) (he:fC g h≠0):
  Calls Tryz.prog 21 #[.pointer (some ⟨B,0,none⟩),.int .i64 h,.string nm,.string v] w fun e w'=>e=.returned (nU (fC g h))∧Below w.heap.size w w':=by
 have hE:=iW base B b s root h live n g av fr vs vf w hm hS hh hk;obtain⟨z,hz⟩:=eX (fC g h)
 rw[hz] at hE he ⊢;have q:=bne_true he;clear hm hz
 go_enter Tryz.func21,Tryz.ntmps21
 go_wp2_with fail;refine hE.mono ?_;rintro e w1 ⟨rfl,hb⟩;clear hE;go_wp2_with fail;go_ret2;exact⟨rfl,hb⟩
theorem Ig (base B:Nat) (b s root h:Int) (live n:Nat) (g:Tr.G) (av:Int→Tr.Sl) (fr:List Nat) (vs vf:Value) (nm v:ByteArray) (w:World) (hm:TV base w B b s vs n (Tr.raw g av) vf fr live root) (hS:Sound b s n (Tr.raw g av) fr live) (hh:lQ h) (hk:∀ x m,g x=some m→m.kind≠0) (he:fC g h=0) (hn:nm.size≤20000) (hT:Lit w) (hb:Nm.attr nm=false):
  Calls Tryz.prog 21 #[.pointer (some ⟨B,0,none⟩),.int .i64 h,.string nm,.string v] w fun e w'=>e=.returned (nU 1)∧Below w.heap.size w w':=by
 have hE:=iW base B b s root h live n g av fr vs vf w hm hS hh hk;rw[he] at hE;have HV:=zh (fun (W:World) (hT:Lit W)=>mU nm W hn hT);rw[hb] at HV;clear hm he
 go_enter Tryz.func21,Tryz.ntmps21
 go_wp2_with fail;refine hE.mono ?_;rintro e w1 ⟨rfl,hb1⟩;have Sw:=HV.out w1 (hT.below hb1);clear hE HV;go_wp2_with fail;refine Sw.mono ?_;rintro e w2 ⟨rfl,hb2⟩;have eF:=hb1.trans (hb2.mono hb1.size);clear Sw hb1 hb2;go_wp2_with fail;go_ret2;exact⟨rfl,eF⟩
theorem Ik (base B:Nat) (b s root h:Int) (live n:Nat) (g:Tr.G) (av:Int→Tr.Sl) (fr:List Nat) (vs vf:Value) (nd:Tr.GN) (nm v:ByteArray) (w:World) (hm:TV base w B b s vs n (Tr.raw g av) vf fr live root) (hS:Sound b s n (Tr.raw g av) fr live) (ha:AT w g av) (hk:∀ x m,g x=some m→m.kind≠0) (eg:g h=some nd) (he:nd.kind=2) (hl:nd.attrs.length≤63) (hn:nm.size≤20000) (hv:v.size≤20000) (hT:Lit w) (hb:Nm.attr nm=true) (hcase:¬ oV nd.attrs nm<nd.attrs.length):
  Calls Tryz.prog 21 #[.pointer (some ⟨B,0,none⟩),.int .i64 h,.string nm,.string v] w fun e w'=>∃ r sl,e=.returned (.tuple #[r,.int .i64 0])∧bG w.heap.size w' r [jH h nm (lD nd.attrs nm) (uP nd.attrs nm)]∧
   TV base w' B b s vs n (Tr.raw (Tr.cB g h fun n=>{ n with attrs:=gD n.attrs nm (aX v) }) (Tr.eT av h sl)) vf fr live root∧Sound b s n (Tr.raw (Tr.cB g h fun n=>{ n with attrs:=gD n.attrs nm (aX v) }) (Tr.eT av h sl)) fr live∧
   AT w' (Tr.cB g h fun n=>{ n with attrs:=gD n.attrs nm (aX v) }) (Tr.eT av h sl)∧aB w w' (aD B vs vf) (aD B vs vf):=by
 obtain⟨i0,hi0,hz0,hz1,hz2⟩:=info_parts rZ;have hE:=iW base B b s root h live n g av fr vs vf w hm hS ((bC hS (h:=h) (by rw[aI,eg];rfl)).1) hk;have he0:fC g h=0:=by unfold fC;rw[eg];exact if_pos he
 rw[he0] at hE;have HV:=zh (fun (W:World) (hT:Lit W)=>mU nm W hn hT);rw[hb] at HV;have HM:=zh (fun (W:World) (hb:Below w.heap.size w W)=>hm.below hb);have HA:=zh (fun (W:World) (hb:Below w.heap.size w W)=>gZ base B b s root h live n _ fr vs vf _ W (hm.below hb) hS (Tr.aj eg));have HAT:=zh (fun (W:World) (hb:Below w.heap.size w W)=>(ha.below hb));have K3:=zh hm.lt;have gI:=zh hS;have nX:=zh eg;clear he0 hm ha hS he hk
 go_enter Tryz.func21,Tryz.ntmps21
 go_wp2_with fail;refine hE.mono ?_;rintro e w1 ⟨rfl,hb1⟩;have Sw:=HV.out w1 (hT.below hb1);clear hE HV;go_wp2_with fail;refine Sw.mono ?_;rintro e w2 ⟨rfl,hb2⟩;have eP:=hb1.trans (hb2.mono hb1.size);have HA2:=HA.out w2 eP;clear Sw hb1 hb2 HA;go_wp2_with fail;refine HA2.mono ?_;rintro e w3 ⟨gb,o,rfl,hpt,hb3⟩;have dA:=eP.trans (hb3.mono eP.size);obtain⟨_,_,t2,_⟩:=((HM.out w3 dA).np hpt (Tr.aj nX.out)).cells;rw[show (Tr.bU g av h nd).av=av h from rfl] at t2;have hgw:gb<w.heap.size:=(K3.out gb hpt.foot).2;have yE:=zh hpt;have hat:=HAT.out w3 dA h nd nX.out;have HC:=zh (qF _ nd.attrs w3 hat (by omega));clear HA2 eP hb3 hpt hat;go_wp2_with fail;refine HC.out.mono ?_;rintro e w4 ⟨v4,rfl,hr4,hb4⟩;have bR:=dA.trans (hb4.mono dA.size);obtain⟨w5,fU⟩:=eX (w4.alloc (.cells #[.int .i64 0,.int .i64 0,.int .i64 0,.int .i64 0,.int .i64 0,.int .i64 0,.string ⟨#[]⟩,.string ⟨#[]⟩,.bool false,.int .i64 0,.int .i64 0] 48))
 have eY:Below w4.heap.size w4 w5:=gP fU;have hz5:w5.heap.size=w4.heap.size+1:=by rw[←fU];simp
 have dR:Whole w5 w4.heap.size #[.int .i64 0,.int .i64 0,.int .i64 0,.int .i64 0,.int .i64 0,.int .i64 0,.string ⟨#[]⟩,.string ⟨#[]⟩,.bool false,.int .i64 0,.int .i64 0] 48:=by rw[←fU];exact Whole.new w4 _ _
 have wS:=hr4.below eY;have dZ:=bR.trans (eY.mono bR.size);have y0:w5.cell? ⟨w4.heap.size,0,none⟩=some (.int .i64 0):=dR.cell 0;have AU:=dR.free 0;have y1:w5.cell? ⟨w4.heap.size,1,none⟩=some (.int .i64 0):=dR.cell 1;have AV:=dR.free 1;have y2:w5.cell? ⟨w4.heap.size,2,none⟩=some (.int .i64 0):=dR.cell 2;have AX:=dR.free 2;have y3:w5.cell? ⟨w4.heap.size,3,none⟩=some (.int .i64 0):=dR.cell 3;have AY:=dR.free 3;have y4:w5.cell? ⟨w4.heap.size,4,none⟩=some (.int .i64 0):=dR.cell 4;have AZ:=dR.free 4;have y5:w5.cell? ⟨w4.heap.size,5,none⟩=some (.int .i64 0):=dR.cell 5;have Ba:=dR.free 5;have y6:w5.cell? ⟨w4.heap.size,6,none⟩=some (.string ⟨#[]⟩):=dR.cell 6;have Bb:=dR.free 6;have y7:w5.cell? ⟨w4.heap.size,7,none⟩=some (.string ⟨#[]⟩):=dR.cell 7;have Bc:=dR.free 7;have y8:w5.cell? ⟨w4.heap.size,8,none⟩=some (.bool false):=dR.cell 8;have Bd:=dR.free 8;have y9:w5.cell? ⟨w4.heap.size,9,none⟩=some (.int .i64 0):=dR.cell 9;have EM:=dR.free 9;have wH:w5.cell? ⟨w4.heap.size,10,none⟩=some (.int .i64 0):=dR.cell 10;have rF:=dR.free 10;obtain⟨w6,kZ,fQ,g6⟩:=kG dR (.int .i64 3) (.int .i64 h) (.int .i64 0) (.int .i64 0) (.int .i64 0) (.int .i64 0) (.string nm) (.string ⟨#[]⟩) (.bool false) (.int .i64 0) (.int .i64 0);have hs4:w.heap.size≤w4.heap.size:=bR.size;have iE:Below w.heap.size w w6:=dZ.grown g6 dZ.size (fun j hj=>by simp at hj;omega);have hs6:=g6.size;have wR:AR w6 w3.heap.size v4 nd.attrs:=wS.kept g6 (.inr (wS.unlike dR (by decide)));have wI:=zh fQ;have Om:=zh iE;have Ud:=zh wR;have ER:=zh (show w4.heap.size<w6.heap.size by omega);have aaG:w.heap.size≤w3.heap.size:=dA.size;have VL:w3.heap.size≤w4.heap.size:=hb4.size;have HI:=zh (nY v4 nd.attrs nm w6 wR.zero (by omega));obtain⟨A4,c4,rfl⟩:=hr4.form;clear HC hr4 wS wR dR fQ eY bR dZ iE hb4 dA g6;go_wp2_with fail;(try rw[kZ]);go_wp2_with fail;refine HI.out.mono ?_;rintro e w7 ⟨rfl,ng⟩;have qU:=Om.out.trans (ng.mono Om.out.size);have aP:=wI.out.below ng wI.out.lt;have Vn:=Ud.out.below ng;have hs7:w4.heap.size<w7.heap.size:=Nat.lt_of_lt_of_le ER.out ng.size;clear HI;have hgt:¬ oV nd.attrs nm<nd.attrs.length:=hcase;have hai:yc nd.attrs nm = -1:=by unfold yc;rw[if_neg hgt]
 have hset:gD nd.attrs nm (aX v)=nd.attrs++[(nm,aX v)]:=by unfold gD;rw[List.getElem?_eq_none (by omega)]
 have hold:lD nd.attrs nm=⟨#[]⟩:=by unfold lD;rw[List.getElem?_eq_none (by omega)]
 have zI:uP nd.attrs nm=false:=decide_eq_false hgt;have pV:=zh (And.intro hset (And.intro hold zI));rw[hai];clear hgt hcase hai hset hold zI;obtain⟨w8,hw8⟩:=eX (w7.alloc (.cells #[.string nm,.string ⟨#[]⟩] 95))
 have Oo:Below w7.heap.size w7 w8:=gP hw8;have uT:=qU.trans (Oo.mono qU.size);have Co:=Vn.below Oo;have zG:=aP.below Oo aP.lt;have hsrc:((.slice (some ⟨w7.heap.size,0,none⟩) 1 1:Value)=.slice none 0 0∧1=0)∨∃ a c,(.slice (some ⟨w7.heap.size,0,none⟩) 1 1:Value)=.slice (some a) 1 c∧∀ j u,(fF [(nm,(⟨#[]⟩:ByteArray))])[j]?=some u→w8.cell? (a.add j)=some u:=by
  rw[←hw8];exact nL w7 95 (fF [(nm,(⟨#[]⟩:ByteArray))])
 have hs8:w3.heap.size≤w8.heap.size:=by have:=Oo.size;omega
 have kD:=zh zG;have Xo:=zh uT;have Vm:=zh Co;obtain⟨len,hlen⟩:=eX (nd.attrs.length)
 have HLEN:=zh hlen;rw[hlen] at hl Co;clear Vn aP qU ng Oo uT zG hlen;rw[HLEN.out]
 go_wp2_with (at_builtin;refine dK rfl _ _ 40 rfl w3.heap.size 95 i0 (.agg #[.string ⟨#[]⟩,.string ⟨#[]⟩]) 2 32 Tryz.underlying40 hi0 hz0 hz1 hz2 rfl (by decide) _ len (fF nd.attrs) rfl Co _ 1 (fF [(nm,(⟨#[]⟩:ByteArray))]) rfl rfl hsrc (gN _) ?c3 ?c4 hs8 ?_)
 case c3=>unfold maxLen;omega
 case c4=>omega
 intro v9 w9 o9 g9 f9;rw[←jR] at o9;have hne:(Value.slice A4 len c4).ownBlock≠some w4.heap.size:=Co.unlike kD.out (by decide);have fq:=kD.out.grown g9 (fun e=>hne e.symm);have I8:Below w.heap.size w w9:=Xo.out.grown g9 Xo.out.size (fun j hj=>by have:=(Co.lt j hj).1;omega);have Vo:w4.heap.size<w9.heap.size:=by have:=kD.out.lt;have:=g9.size;omega
 have Oi:TR w9 w3.heap.size 95 2 v9 (len+1) (fF (nd.attrs++[(nm,(⟨#[]⟩:ByteArray))])):=o9;obtain⟨A9,c9,rfl⟩:=Oi.form;obtain⟨ga,oa,rfl,hga,_⟩:=Oi.cells (by omega);have hgx:ga≠w4.heap.size:=fun e=>Oi.unlike fq (by decide) (by rw[e];rfl);have nW:=zh fq;have Oq:=zh I8;have HR:=zh (ig v w9 hv (hT.below I8));have HO9:=zh Oi;clear fq I8 o9 Oi g9 f9 Co hsrc;have q1:(len:Int)<(len:Int)+1:=by omega
 have q1b:(len:Int)<((len+1:Nat):Int):=by omega
 have q0:(0:Int)≤(len:Int):=by omega
 go_wp2_with fail;refine HR.out.mono ?_;rintro e fV ⟨rfl,zJ⟩;have zK:=Oq.out.trans (zJ.mono Oq.out.size);have QC:=HO9.out.below zJ;have kJ:=nW.out.below zJ nW.out.lt;have aaH:w4.heap.size<fV.heap.size:=Nat.lt_of_lt_of_le Vo zJ.size;obtain⟨rv,mQ⟩:=eX (fA (bD.rep v.data.toList))
 have hrs:rv.size≤60000:=by
  rw[←mQ];have:=bD.mP v.data.toList;have e1:v.data.toList.length=v.size:=rfl;have e2:(fA (bD.rep v.data.toList)).size=(bD.rep v.data.toList).length:=jV _;omega
 obtain⟨I9,g11⟩:=QC.stored (len*2+1) (.string rv);have hgt2:(nd.attrs++[(nm,(⟨#[]⟩:ByteArray))])[len]?=some (nm,⟨#[]⟩):=by rw[←HLEN.out];simp
 rw[yI _ _ _ hgt2] at I9;have hse:(nd.attrs++[(nm,(⟨#[]⟩:ByteArray))]).set len ((nm,(⟨#[]⟩:ByteArray)).1,rv)=gD nd.attrs nm (aX v):=by
  rw[pV.out.1,show aX v=rv from mQ,←HLEN.out];simp
 rw[hse] at I9;have hl2:(gD nd.attrs nm (aX v)).length=len+1:=by rw[pV.out.1,←HLEN.out];simp
 rw[←Nat.add_assoc] at I9 g11;have c10:fV.cell? ⟨ga,oa+len*2+1,none⟩=some (.string ⟨#[]⟩):=by
  have:=QC.cellAt (len*2+1) (.string ⟨#[]⟩) (by omega) (je _ _ _ hgt2).2;rw[←Nat.add_assoc] at this;exact this
 have f10:=QC.frozen (oa+len*2+1);obtain⟨l9,LB⟩:=eX (fV.setCell ⟨ga,oa+len*2+1,none⟩ (.string rv))
 rw[LB] at I9 g11;have c11:l9.cell? ⟨ga,oa+len*2+1,none⟩=some (.string rv):=by
  have hp:(gD nd.attrs nm (aX v))[len]?=some (nm,rv):=by rw[pV.out.1,show aX v=rv from mQ,←HLEN.out];simp
  have:=I9.cellAt (len*2+1) (.string rv) (by omega) (je _ _ _ hp).2;rw[←Nat.add_assoc] at this;exact this
 have Ot:=kJ.grown g11 (fun e=>hgx (by injection e with e;exact e.symm));have pW:Below w.heap.size w l9:=zK.grown g11 zK.size (fun j hj=>by injection hj with hj;omega);obtain⟨t20,t21⟩:=(HM.out l9 pW).np yE.out (Tr.aj nX.out) 2 (by omega);have t22:l9.cell? ⟨gb,o+2,none⟩=some (.slice (av h).a (av h).n (av h).c):=t20;have hput:=(HM.out l9 pW).mY gI.out (HAT.out l9 pW) yE.out nX.out (fun n=>gD n.attrs nm (aX v)) ⟨some ⟨ga,oa,none⟩,len+1,c9⟩ (by
  show TR l9 0 _ 2 _ (gD nd.attrs nm (aX v)).length _
  rw[hl2];exact I9.zero)
 obtain⟨vE,Ja⟩:=eX (l9.setCell ⟨gb,o+2,none⟩ (.slice (some ⟨ga,oa,none⟩) (len+1) c9))
 rw[show (Tr.Sl.v ⟨some ⟨ga,oa,none⟩,len+1,c9⟩)=.slice (some ⟨ga,oa,none⟩) (len+1) c9 from rfl,Ja] at hput;have g12:l9.grownBy vE (some gb):=by rw[←Ja];exact aK (au (Below.refl l9.heap.size l9) _) _ _
 have fP:=Ot.grown g12 (fun e=>by injection e with e;omega);have pY:=(Below.refl _ vE).alloc (Nat.le_refl _) (.cells #[.int .i64 3,.int .i64 h,.int .i64 0,.int .i64 0,.int .i64 0,.int .i64 0,.string nm,.string ⟨#[]⟩,.bool false,.int .i64 0,.int .i64 0] 48);have bf:=zh (And.intro (mO vE (jH h nm ⟨#[]⟩ false) w.heap.size (Nat.le_trans pW.size g12.size)) (And.intro (hput.1.below pY) (And.intro hput.2.1 (And.intro (hput.2.2.1.below pY) (((aB.of_below pW).trans hput.2.2.2).trans (.of_below pY))))));have s0:vE.cell? ⟨w4.heap.size,0,none⟩=some (.int .i64 3):=fP.cell 0;have VP:=fP.free 0;have s1:vE.cell? ⟨w4.heap.size,1,none⟩=some (.int .i64 h):=fP.cell 1;have VQ:=fP.free 1;have s2:vE.cell? ⟨w4.heap.size,2,none⟩=some (.int .i64 0):=fP.cell 2;have VR:=fP.free 2;have s3:vE.cell? ⟨w4.heap.size,3,none⟩=some (.int .i64 0):=fP.cell 3;have VT:=fP.free 3;have s4:vE.cell? ⟨w4.heap.size,4,none⟩=some (.int .i64 0):=fP.cell 4;have VU:=fP.free 4;have s5:vE.cell? ⟨w4.heap.size,5,none⟩=some (.int .i64 0):=fP.cell 5;have VW:=fP.free 5;have s6:vE.cell? ⟨w4.heap.size,6,none⟩=some (.string nm):=fP.cell 6;have VX:=fP.free 6;have s7:vE.cell? ⟨w4.heap.size,7,none⟩=some (.string ⟨#[]⟩):=fP.cell 7;have VY:=fP.free 7;have s8:vE.cell? ⟨w4.heap.size,8,none⟩=some (.bool false):=fP.cell 8;have VZ:=fP.free 8;have s9:vE.cell? ⟨w4.heap.size,9,none⟩=some (.int .i64 0):=fP.cell 9;have V5:=fP.free 9;have s10:vE.cell? ⟨w4.heap.size,10,none⟩=some (.int .i64 0):=fP.cell 10;have Nw:=fP.free 10;have J7:=zh mQ;have q2:¬ (64:Int)<(len:Int)+1:=by omega
 have q2b:¬ (64:Int)<((len+1:Nat):Int):=by omega
 have q3:¬ (1048576:Int)<(rv.size:Int):=by omega
 rw[mQ];clear kJ Ot fP QC I9 g11 g12 hput zK pW zJ pY hse hl2 hgt2 t20 mQ hrs;go_wp2_with fail;(try rw[LB]);go_wp2_with fail;(try rw[Ja]);go_wp2_with fail;go_ret2;obtain⟨z1,z2,z3,z4,z5⟩:=bf.out;refine⟨_,⟨some ⟨ga,oa,none⟩,len+1,c9⟩,rfl,?_,z2,z3,z4,z5⟩;rw[pV.out.2.1,pV.out.2.2];exact z1
theorem Ii (base B:Nat) (b s root h:Int) (live n:Nat) (g:Tr.G) (av:Int→Tr.Sl) (fr:List Nat) (vs vf:Value) (nd:Tr.GN) (nm v:ByteArray) (w:World) (hm:TV base w B b s vs n (Tr.raw g av) vf fr live root) (hS:Sound b s n (Tr.raw g av) fr live) (ha:AT w g av) (hk:∀ x m,g x=some m→m.kind≠0) (eg:g h=some nd) (he:nd.kind=2) (hl:nd.attrs.length≤63) (hn:nm.size≤20000) (hv:v.size≤20000) (hT:Lit w) (hb:Nm.attr nm=true) (hcase:oV nd.attrs nm<nd.attrs.length):
  Calls Tryz.prog 21 #[.pointer (some ⟨B,0,none⟩),.int .i64 h,.string nm,.string v] w fun e w'=>∃ r sl,e=.returned (.tuple #[r,.int .i64 0])∧bG w.heap.size w' r [jH h nm (lD nd.attrs nm) (uP nd.attrs nm)]∧
   TV base w' B b s vs n (Tr.raw (Tr.cB g h fun n=>{ n with attrs:=gD n.attrs nm (aX v) }) (Tr.eT av h sl)) vf fr live root∧Sound b s n (Tr.raw (Tr.cB g h fun n=>{ n with attrs:=gD n.attrs nm (aX v) }) (Tr.eT av h sl)) fr live∧
   AT w' (Tr.cB g h fun n=>{ n with attrs:=gD n.attrs nm (aX v) }) (Tr.eT av h sl)∧aB w w' (aD B vs vf) (aD B vs vf):=by
 obtain⟨i0,hi0,hz0,hz1,hz2⟩:=info_parts rZ;have hE:=iW base B b s root h live n g av fr vs vf w hm hS ((bC hS (h:=h) (by rw[aI,eg];rfl)).1) hk;have he0:fC g h=0:=by unfold fC;rw[eg];exact if_pos he
 rw[he0] at hE;have HV:=zh (fun (W:World) (hT:Lit W)=>mU nm W hn hT);rw[hb] at HV;have HM:=zh (fun (W:World) (hb:Below w.heap.size w W)=>hm.below hb);have HA:=zh (fun (W:World) (hb:Below w.heap.size w W)=>gZ base B b s root h live n _ fr vs vf _ W (hm.below hb) hS (Tr.aj eg));have HAT:=zh (fun (W:World) (hb:Below w.heap.size w W)=>(ha.below hb));have K3:=zh hm.lt;have gI:=zh hS;have nX:=zh eg;clear he0 hm ha hS he hk
 go_enter Tryz.func21,Tryz.ntmps21
 go_wp2_with fail;refine hE.mono ?_;rintro e w1 ⟨rfl,hb1⟩;have Sw:=HV.out w1 (hT.below hb1);clear hE HV;go_wp2_with fail;refine Sw.mono ?_;rintro e w2 ⟨rfl,hb2⟩;have eP:=hb1.trans (hb2.mono hb1.size);have HA2:=HA.out w2 eP;clear Sw hb1 hb2 HA;go_wp2_with fail;refine HA2.mono ?_;rintro e w3 ⟨gb,o,rfl,hpt,hb3⟩;have dA:=eP.trans (hb3.mono eP.size);obtain⟨_,_,t2,_⟩:=((HM.out w3 dA).np hpt (Tr.aj nX.out)).cells;rw[show (Tr.bU g av h nd).av=av h from rfl] at t2;have hgw:gb<w.heap.size:=(K3.out gb hpt.foot).2;have yE:=zh hpt;have hat:=HAT.out w3 dA h nd nX.out;have HC:=zh (qF _ nd.attrs w3 hat (by omega));clear HA2 eP hb3 hpt hat;go_wp2_with fail;refine HC.out.mono ?_;rintro e w4 ⟨v4,rfl,hr4,hb4⟩;have bR:=dA.trans (hb4.mono dA.size);obtain⟨w5,fU⟩:=eX (w4.alloc (.cells #[.int .i64 0,.int .i64 0,.int .i64 0,.int .i64 0,.int .i64 0,.int .i64 0,.string ⟨#[]⟩,.string ⟨#[]⟩,.bool false,.int .i64 0,.int .i64 0] 48))
 have eY:Below w4.heap.size w4 w5:=gP fU;have hz5:w5.heap.size=w4.heap.size+1:=by rw[←fU];simp
 have dR:Whole w5 w4.heap.size #[.int .i64 0,.int .i64 0,.int .i64 0,.int .i64 0,.int .i64 0,.int .i64 0,.string ⟨#[]⟩,.string ⟨#[]⟩,.bool false,.int .i64 0,.int .i64 0] 48:=by rw[←fU];exact Whole.new w4 _ _
 have wS:=hr4.below eY;have dZ:=bR.trans (eY.mono bR.size);have y0:w5.cell? ⟨w4.heap.size,0,none⟩=some (.int .i64 0):=dR.cell 0;have AU:=dR.free 0;have y1:w5.cell? ⟨w4.heap.size,1,none⟩=some (.int .i64 0):=dR.cell 1;have AV:=dR.free 1;have y2:w5.cell? ⟨w4.heap.size,2,none⟩=some (.int .i64 0):=dR.cell 2;have AX:=dR.free 2;have y3:w5.cell? ⟨w4.heap.size,3,none⟩=some (.int .i64 0):=dR.cell 3;have AY:=dR.free 3;have y4:w5.cell? ⟨w4.heap.size,4,none⟩=some (.int .i64 0):=dR.cell 4;have AZ:=dR.free 4;have y5:w5.cell? ⟨w4.heap.size,5,none⟩=some (.int .i64 0):=dR.cell 5;have Ba:=dR.free 5;have y6:w5.cell? ⟨w4.heap.size,6,none⟩=some (.string ⟨#[]⟩):=dR.cell 6;have Bb:=dR.free 6;have y7:w5.cell? ⟨w4.heap.size,7,none⟩=some (.string ⟨#[]⟩):=dR.cell 7;have Bc:=dR.free 7;have y8:w5.cell? ⟨w4.heap.size,8,none⟩=some (.bool false):=dR.cell 8;have Bd:=dR.free 8;have y9:w5.cell? ⟨w4.heap.size,9,none⟩=some (.int .i64 0):=dR.cell 9;have EM:=dR.free 9;have wH:w5.cell? ⟨w4.heap.size,10,none⟩=some (.int .i64 0):=dR.cell 10;have rF:=dR.free 10;obtain⟨w6,kZ,fQ,g6⟩:=kG dR (.int .i64 3) (.int .i64 h) (.int .i64 0) (.int .i64 0) (.int .i64 0) (.int .i64 0) (.string nm) (.string ⟨#[]⟩) (.bool false) (.int .i64 0) (.int .i64 0);have hs4:w.heap.size≤w4.heap.size:=bR.size;have iE:Below w.heap.size w w6:=dZ.grown g6 dZ.size (fun j hj=>by simp at hj;omega);have hs6:=g6.size;have wR:AR w6 w3.heap.size v4 nd.attrs:=wS.kept g6 (.inr (wS.unlike dR (by decide)));have wI:=zh fQ;have Om:=zh iE;have Ud:=zh wR;have ER:=zh (show w4.heap.size<w6.heap.size by omega);have aaG:w.heap.size≤w3.heap.size:=dA.size;have VL:w3.heap.size≤w4.heap.size:=hb4.size;have HI:=zh (nY v4 nd.attrs nm w6 wR.zero (by omega));obtain⟨A4,c4,rfl⟩:=hr4.form;clear HC hr4 wS wR dR fQ eY bR dZ iE hb4 dA g6;go_wp2_with fail;(try rw[kZ]);go_wp2_with fail;refine HI.out.mono ?_;rintro e w7 ⟨rfl,ng⟩;have qU:=Om.out.trans (ng.mono Om.out.size);have aP:=wI.out.below ng wI.out.lt;have Vn:=Ud.out.below ng;have hs7:w4.heap.size<w7.heap.size:=Nat.lt_of_lt_of_le ER.out ng.size;clear HI;have hlt:oV nd.attrs nm<nd.attrs.length:=hcase;obtain⟨k,hkk⟩:=eX (oV nd.attrs nm)
 obtain⟨p,hp⟩:∃ p,nd.attrs[k]?=some p:=⟨nd.attrs[k]'(by omega),by simp⟩
 have hai:yc nd.attrs nm=(k:Int):=by unfold yc;rw[if_pos hlt,hkk]
 have hset:gD nd.attrs nm (aX v)=nd.attrs.set k (p.1,aX v):=by unfold gD;rw[hkk,hp]
 have hold:lD nd.attrs nm=p.2:=by unfold lD;rw[hkk,hp]
 have zI:uP nd.attrs nm=true:=decide_eq_true hlt;have pV:=zh (And.intro hset (And.intro hold (And.intro zI hp)));have hkl:k<nd.attrs.length:=by omega
 rw[hai];clear hlt hcase hai hset hold zI hkk;obtain⟨len,hlen⟩:=eX (nd.attrs.length)
 have HLEN:=zh hlen;obtain⟨ga,oa,rfl,_,c71,c72⟩:=AR.at Vn hp;have QD:TR w7 w3.heap.size 95 2 (.slice (some ⟨ga,oa,none⟩) len c4) len (fF nd.attrs):=by rw[←hlen];exact Vn
 have hgx:ga≠w4.heap.size:=fun e=>QD.unlike aP (by decide) (by rw[e];rfl);have hga:w3.heap.size≤ga:=(QD.lt ga rfl).1;rw[hlen] at hl hkl;rw[HLEN.out];have x0:w7.cell? ⟨w4.heap.size,0,none⟩=some (.int .i64 3):=aP.cell 0;have xf0:=aP.free 0;have x1:w7.cell? ⟨w4.heap.size,1,none⟩=some (.int .i64 h):=aP.cell 1;have xf1:=aP.free 1;have x2:w7.cell? ⟨w4.heap.size,2,none⟩=some (.int .i64 0):=aP.cell 2;have xf2:=aP.free 2;have x3:w7.cell? ⟨w4.heap.size,3,none⟩=some (.int .i64 0):=aP.cell 3;have xf3:=aP.free 3;have x4:w7.cell? ⟨w4.heap.size,4,none⟩=some (.int .i64 0):=aP.cell 4;have xf4:=aP.free 4;have x5:w7.cell? ⟨w4.heap.size,5,none⟩=some (.int .i64 0):=aP.cell 5;have xf5:=aP.free 5;have x6:w7.cell? ⟨w4.heap.size,6,none⟩=some (.string nm):=aP.cell 6;have xf6:=aP.free 6;have x7:w7.cell? ⟨w4.heap.size,7,none⟩=some (.string ⟨#[]⟩):=aP.cell 7;have xf7:=aP.free 7;have x8:w7.cell? ⟨w4.heap.size,8,none⟩=some (.bool false):=aP.cell 8;have xf8:=aP.free 8;have x9:w7.cell? ⟨w4.heap.size,9,none⟩=some (.int .i64 0):=aP.cell 9;have xf9:=aP.free 9;have x10:w7.cell? ⟨w4.heap.size,10,none⟩=some (.int .i64 0):=aP.cell 10;have xf10:=aP.free 10;obtain⟨w9,wu⟩:=eX (((w7.setCell ⟨w4.heap.size,8,none⟩ (.bool true)).setCell ⟨w4.heap.size,7,none⟩ (.string p.2)).drew)
 have Qc:Whole (w7.setCell ⟨w4.heap.size,8,none⟩ (.bool true)) w4.heap.size #[.int .i64 3,.int .i64 h,.int .i64 0,.int .i64 0,.int .i64 0,.int .i64 0,.string nm,.string ⟨#[]⟩,.bool true,.int .i64 0,.int .i64 0] 48:=aP.put 8 (.bool true);have Vp:Whole ((w7.setCell ⟨w4.heap.size,8,none⟩ (.bool true)).setCell ⟨w4.heap.size,7,none⟩ (.string p.2)).drew w4.heap.size #[.int .i64 3,.int .i64 h,.int .i64 0,.int .i64 0,.int .i64 0,.int .i64 0,.string nm,.string p.2,.bool true,.int .i64 0,.int .i64 0] 48:=Qc.put 7 (.string p.2);have g9:w7.grownBy w9 (some w4.heap.size):=by
  rw[←wu];have g:=aK (aK (au (Below.refl w7.heap.size w7) (some w4.heap.size)) 8 (.bool true)) 7 (.string p.2);exact⟨g.os,g.tape,g.output,g.size,g.block⟩
 rw[wu] at Vp;have I8:Below w.heap.size w w9:=qU.grown g9 qU.size (fun j hj=>by injection hj with hj;omega);have Vo:w4.heap.size<w9.heap.size:=by have:=g9.size;omega
 have Oi:TR w9 w3.heap.size 95 2 (.slice (some ⟨ga,oa,none⟩) len c4) len (fF nd.attrs):=QD.kept g9 (.inr (fun e=>hgx (by injection e)));have fq:=Vp;have nW:=zh fq;have Oq:=zh I8;have HR:=zh (ig v w9 hv (hT.below I8));have HO9:=zh Oi;have q1:(k:Int)<(len:Int):=by omega
 have q0:(0:Int)≤(k:Int):=by omega
 have q4:¬ (k:Int)<0:=by omega
 clear fq Vp Qc I8 Oi g9 Vn QD qU ng aP hp hlen;go_wp2_with fail
 go_region
 (try rw[wu]);go_wp2_with fail;refine HR.out.mono ?_;rintro e fV ⟨rfl,zJ⟩;have zK:=Oq.out.trans (zJ.mono Oq.out.size);have QC:=HO9.out.below zJ;have kJ:=nW.out.below zJ nW.out.lt;have aaH:w4.heap.size<fV.heap.size:=Nat.lt_of_lt_of_le Vo zJ.size;obtain⟨rv,mQ⟩:=eX (fA (bD.rep v.data.toList))
 have hrs:rv.size≤60000:=by
  rw[←mQ];have:=bD.mP v.data.toList;have e1:v.data.toList.length=v.size:=rfl;have e2:(fA (bD.rep v.data.toList)).size=(bD.rep v.data.toList).length:=jV _;omega
 obtain⟨I9,g11⟩:=QC.stored (k*2+1) (.string rv);have hgt2:nd.attrs[k]?=some p:=pV.out.2.2.2;rw[yI _ _ _ hgt2] at I9;have hse:nd.attrs.set k (p.1,rv)=gD nd.attrs nm (aX v):=by rw[pV.out.1,show aX v=rv from mQ]
 rw[hse] at I9;have hl2:(gD nd.attrs nm (aX v)).length=len:=by rw[pV.out.1,←HLEN.out];simp
 rw[←Nat.add_assoc] at I9 g11;have c10:fV.cell? ⟨ga,oa+k*2+1,none⟩=some (.string p.2):=by
  have:=QC.cellAt (k*2+1) (.string p.2) (by omega) (je _ _ _ hgt2).2;rw[←Nat.add_assoc] at this;exact this
 have f10:=QC.frozen (oa+k*2+1);obtain⟨l9,LB⟩:=eX (fV.setCell ⟨ga,oa+k*2+1,none⟩ (.string rv))
 rw[LB] at I9 g11;have c11:l9.cell? ⟨ga,oa+k*2+1,none⟩=some (.string rv):=by
  have hp:(gD nd.attrs nm (aX v))[k]?=some (p.1,rv):=by
   have QE:k<nd.attrs.length:=by rw[HLEN.out];exact hkl
   rw[pV.out.1,show aX v=rv from mQ];simp[QE]
  have:=I9.cellAt (k*2+1) (.string rv) (by omega) (je _ _ _ hp).2;rw[←Nat.add_assoc] at this;exact this
 have Ot:=kJ.grown g11 (fun e=>hgx (by injection e with e;exact e.symm));have pW:Below w.heap.size w l9:=zK.grown g11 zK.size (fun j hj=>by injection hj with hj;omega);obtain⟨t20,t21⟩:=(HM.out l9 pW).np yE.out (Tr.aj nX.out) 2 (by omega);have t22:l9.cell? ⟨gb,o+2,none⟩=some (.slice (av h).a (av h).n (av h).c):=t20;have hput:=(HM.out l9 pW).mY gI.out (HAT.out l9 pW) yE.out nX.out (fun n=>gD n.attrs nm (aX v)) ⟨some ⟨ga,oa,none⟩,len,c4⟩ (by
  show TR l9 0 _ 2 _ (gD nd.attrs nm (aX v)).length _
  rw[hl2];exact I9.zero)
 obtain⟨vE,Ja⟩:=eX (l9.setCell ⟨gb,o+2,none⟩ (.slice (some ⟨ga,oa,none⟩) len c4))
 rw[show (Tr.Sl.v ⟨some ⟨ga,oa,none⟩,len,c4⟩)=.slice (some ⟨ga,oa,none⟩) len c4 from rfl,Ja] at hput;have g12:l9.grownBy vE (some gb):=by rw[←Ja];exact aK (au (Below.refl l9.heap.size l9) _) _ _
 have fP:=Ot.grown g12 (fun e=>by injection e with e;omega);have pY:=(Below.refl _ vE).alloc (Nat.le_refl _) (.cells #[.int .i64 3,.int .i64 h,.int .i64 0,.int .i64 0,.int .i64 0,.int .i64 0,.string nm,.string p.2,.bool true,.int .i64 0,.int .i64 0] 48);have bf:=zh (And.intro (mO vE (jH h nm p.2 true) w.heap.size (Nat.le_trans pW.size g12.size)) (And.intro (hput.1.below pY) (And.intro hput.2.1 (And.intro (hput.2.2.1.below pY) (((aB.of_below pW).trans hput.2.2.2).trans (.of_below pY))))));have s0:vE.cell? ⟨w4.heap.size,0,none⟩=some (.int .i64 3):=fP.cell 0;have VP:=fP.free 0;have s1:vE.cell? ⟨w4.heap.size,1,none⟩=some (.int .i64 h):=fP.cell 1;have VQ:=fP.free 1;have s2:vE.cell? ⟨w4.heap.size,2,none⟩=some (.int .i64 0):=fP.cell 2;have VR:=fP.free 2;have s3:vE.cell? ⟨w4.heap.size,3,none⟩=some (.int .i64 0):=fP.cell 3;have VT:=fP.free 3;have s4:vE.cell? ⟨w4.heap.size,4,none⟩=some (.int .i64 0):=fP.cell 4;have VU:=fP.free 4;have s5:vE.cell? ⟨w4.heap.size,5,none⟩=some (.int .i64 0):=fP.cell 5;have VW:=fP.free 5;have s6:vE.cell? ⟨w4.heap.size,6,none⟩=some (.string nm):=fP.cell 6;have VX:=fP.free 6;have s7:vE.cell? ⟨w4.heap.size,7,none⟩=some (.string p.2):=fP.cell 7;have VY:=fP.free 7;have s8:vE.cell? ⟨w4.heap.size,8,none⟩=some (.bool true):=fP.cell 8;have VZ:=fP.free 8;have s9:vE.cell? ⟨w4.heap.size,9,none⟩=some (.int .i64 0):=fP.cell 9;have V5:=fP.free 9;have s10:vE.cell? ⟨w4.heap.size,10,none⟩=some (.int .i64 0):=fP.cell 10;have Nw:=fP.free 10;have J7:=zh mQ;have q2:¬ (64:Int)<(len:Int):=by omega
 have q3:¬ (1048576:Int)<(rv.size:Int):=by omega
 rw[mQ];clear kJ Ot fP QC I9 g11 g12 hput zK pW zJ pY hse hl2 hgt2 t20 mQ hrs;go_wp2_with fail;(try rw[LB]);go_wp2_with fail;(try rw[Ja]);go_wp2_with fail;go_ret2;obtain⟨z1,z2,z3,z4,z5⟩:=bf.out;refine⟨_,⟨some ⟨ga,oa,none⟩,len,c4⟩,rfl,?_,z2,z3,z4,z5⟩;rw[pV.out.2.1,pV.out.2.2.1];exact z1
end
end Go.Proofs.YtnbaadpgbcklaaaGreatDoor
