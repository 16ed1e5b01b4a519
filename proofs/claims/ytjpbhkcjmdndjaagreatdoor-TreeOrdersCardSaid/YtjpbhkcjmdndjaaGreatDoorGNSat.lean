/- Part of a proof about trees. -/
import Derived.Test.YtjpbhkcjmdndjaaGreatDoorS02
set_option linter.unusedVariables false
set_option linter.unusedSimpArgs false
set_option maxHeartbeats 2000000
set_option maxRecDepth 100000
namespace Go.Proofs.YtjpbhkcjmdndjaaGreatDoor
section
open Go.RowKit
def gK (l:List (ByteArray×ByteArray)) (nm v:ByteArray):List (ByteArray×ByteArray):=match l[pG l nm]? with
 | some p=>l.set (pG l nm) (p.1,v)
 | none=>l++[(nm,v)]
def lJ (l:List (ByteArray×ByteArray)) (nm:ByteArray):ByteArray:=match l[pG l nm]? with
 | some p=>p.2
 | none=>⟨#[]⟩
def vg (l:List (ByteArray×ByteArray)) (nm:ByteArray):Bool:=decide (pG l nm<l.length)
def aX (s:ByteArray):ByteArray:=fF (bD.rep s.data.toList)
def jK (h:Int) (nm old:ByteArray) (had:Bool):Tr.Rec:=⟨3,h,0,0,0,0,nm,old,had,0,0⟩
theorem K3 {g:Tr.G} {av:Int→Tr.Sl} {h:Int} {sl:Tr.Sl} {u:Tr.GN→Tr.GN} {U:Tr.Nd→Tr.Nd} (hu:∀ n,(u n).pa=n.pa∧(u n).kids=n.kids) (hU:∀ n,g h=some n→Tr.fA (Tr.cO g h u) (Tr.eZ av h sl) h (u n)=U (Tr.fA g av h n)):Tr.raw (Tr.cO g h u) (Tr.eZ av h sl)=Tr.upd (Tr.raw g av) h U:=by
 have hk:∀ p,Tr.au (Tr.cO g h u) p=Tr.au g p:=fun p=>by
  unfold Tr.au Tr.cO;by_cases e:p=h
  ·subst e;rw[if_pos rfl];cases g p with | none=>rfl | some m=>exact (hu m).2
  ·rw[if_neg e]
 funext x;unfold Tr.upd;by_cases hx:x=h
 ·subst hx;rw[if_pos rfl];cases e:g x with
  | none=>rw[Tr.bG e,Tr.bG];rfl;unfold Tr.cO;rw[if_pos rfl,e];rfl
  | some m=>
   have e2:Tr.cO g x u x=some (u m):=by unfold Tr.cO;rw[if_pos rfl,e];rfl
   rw[Tr.aj e,Tr.aj e2,hU m e];rfl
 ·rw[if_neg hx];cases e:g x with
  | none=>rw[Tr.bG e,Tr.bG];unfold Tr.cO;rw[if_neg hx,e]
  | some m=>
   have e2:Tr.cO g h u x=some m:=by unfold Tr.cO;rw[if_neg hx,e]
   rw[Tr.aj e,Tr.aj e2];unfold Tr.fA;rw[hk,Tr.vk hx]
theorem JB {g:Tr.G} {av:Int→Tr.Sl} {h:Int} {sl:Tr.Sl} {f:Tr.GN→List (ByteArray×ByteArray)} (n:Tr.GN) (e:g h=some n):Tr.fA (Tr.cO g h fun n=>{ n with attrs:=f n }) (Tr.eZ av h sl) h { n with attrs:=f n }={ Tr.fA g av h n with av:=sl }:=by
 unfold Tr.fA;dsimp only;rw[Tr.lK];have hk:∀ p,Tr.au (Tr.cO g h fun n=>{ n with attrs:=f n }) p=Tr.au g p:=fun p=>by
  unfold Tr.au Tr.cO;by_cases e:p=h
  ·subst e;rw[if_pos rfl];cases g p with | none=>rfl | some m=>rfl
  ·rw[if_neg e]
 rw[hk]
theorem TV.nJ {base B n live gb o:Nat} {w:World} {b s root h:Int} {vs vf:Value} {g:Tr.G} {av:Int→Tr.Sl} {fr:List Nat} {nd:Tr.GN} (hM:TV base w B b s vs n (Tr.raw g av) vf fr live root) (hS:Sound b s n (Tr.raw g av) fr live) (ha:AT w g av) (hp:PtrTo b s vs n gb o h) (eg:g h=some nd) (f:Tr.GN→List (ByteArray×ByteArray)) (sl:Tr.Sl) (hr:AR w 0 sl.v (f nd)):
  TV base (w.setCell ⟨gb,o+2,none⟩ sl.v) B b s vs n (Tr.raw (Tr.cO g h fun n=>{ n with attrs:=f n }) (Tr.eZ av h sl)) vf fr live root∧Sound b s n (Tr.raw (Tr.cO g h fun n=>{ n with attrs:=f n }) (Tr.eZ av h sl)) fr live∧
   AT (w.setCell ⟨gb,o+2,none⟩ sl.v) (Tr.cO g h fun n=>{ n with attrs:=f n }) (Tr.eZ av h sl)∧aB w (w.setCell ⟨gb,o+2,none⟩ sl.v) (aD B vs vf) (aD B vs vf):=by
 have e:Tr.raw (Tr.cO g h fun n=>{ n with attrs:=f n }) (Tr.eZ av h sl)=Tr.upd (Tr.raw g av) h fun d=>{ d with av:=sl }:=K3 (fun _=>⟨rfl,rfl⟩) (fun n en=>JB n en);obtain⟨k1,k2⟩:=hM.mQ (j:=2) (v:=sl.v) hp (Tr.aj eg) (fun d=>{ d with av:=sl }) rfl (by omega) rfl;rw[e];refine⟨k1,hS.upd,?_,k2⟩;have hA:=AT.put (h:=h) (sl:=sl) (u:=fun n=>{ n with attrs:=f n }) ha (fun m em=>by rw[eg] at em;obtain rfl:=Option.some.inj em;exact hr);exact hA.step hM k2
theorem zu (base B:Nat) (b s root h:Int) (live n:Nat) (g:Tr.G) (av:Int→Tr.Sl) (fr:List Nat) (vs vf:Value) (nm v:ByteArray) (w:World) (hm:TV base w B b s vs n (Tr.raw g av) vf fr live root) (hS:Sound b s n (Tr.raw g av) fr live) (hh:kM h) (hk:∀ x m,g x=some m→m.kind≠0) (he:fH g h≠0):
  Calls Tryz.prog 26 #[.pointer (some ⟨B,0,none⟩),.int .i64 h,.string nm,.string v] w fun e w'=>e=.returned (ou (fH g h))∧Below w.heap.size w w':=by
 have hE:=jd base B b s root h live n g av fr vs vf w hm hS hh hk;obtain⟨z,hz⟩:=eX (fH g h)
 rw[hz] at hE he ⊢;have q:=bne_true he;clear hm hz
 go_enter Tryz.func26,Tryz.ntmps26
 go_wp2_with fail;refine hE.mono ?_;rintro e w1 ⟨rfl,hb⟩;clear hE;go_wp2_with fail;go_ret2;exact⟨rfl,hb⟩
theorem IY (base B:Nat) (b s root h:Int) (live n:Nat) (g:Tr.G) (av:Int→Tr.Sl) (fr:List Nat) (vs vf:Value) (nm v:ByteArray) (w:World) (hm:TV base w B b s vs n (Tr.raw g av) vf fr live root) (hS:Sound b s n (Tr.raw g av) fr live) (hh:kM h) (hk:∀ x m,g x=some m→m.kind≠0) (he:fH g h=0) (hn:nm.size≤20000) (hT:Lit w) (hb:Nm.attr nm=false):
  Calls Tryz.prog 26 #[.pointer (some ⟨B,0,none⟩),.int .i64 h,.string nm,.string v] w fun e w'=>e=.returned (ou 1)∧Below w.heap.size w w':=by
 have hE:=jd base B b s root h live n g av fr vs vf w hm hS hh hk;rw[he] at hE;have HV:=zh (fun (W:World) (hT:Lit W)=>nE nm W hn hT);rw[hb] at HV;clear hm he
 go_enter Tryz.func26,Tryz.ntmps26
 go_wp2_with fail;refine hE.mono ?_;rintro e w1 ⟨rfl,hb1⟩;have TM:=HV.out w1 (hT.below hb1);clear hE HV;go_wp2_with fail;refine TM.mono ?_;rintro e w2 ⟨rfl,hb2⟩;have eG:=hb1.trans (hb2.mono hb1.size);clear TM hb1 hb2;go_wp2_with fail;go_ret2;exact⟨rfl,eG⟩
theorem I6 (base B:Nat) (b s root h:Int) (live n:Nat) (g:Tr.G) (av:Int→Tr.Sl) (fr:List Nat) (vs vf:Value) (nd:Tr.GN) (nm v:ByteArray) (w:World) (hm:TV base w B b s vs n (Tr.raw g av) vf fr live root) (hS:Sound b s n (Tr.raw g av) fr live) (ha:AT w g av) (hk:∀ x m,g x=some m→m.kind≠0) (eg:g h=some nd) (he:nd.kind=2) (hl:nd.attrs.length≤63) (hn:nm.size≤20000) (hv:v.size≤20000) (hT:Lit w) (hb:Nm.attr nm=true) (hcase:¬ pG nd.attrs nm<nd.attrs.length):
  Calls Tryz.prog 26 #[.pointer (some ⟨B,0,none⟩),.int .i64 h,.string nm,.string v] w fun e w'=>∃ r sl,e=.returned (.tuple #[r,.int .i64 0])∧bH w.heap.size w' r [jK h nm (lJ nd.attrs nm) (vg nd.attrs nm)]∧
   TV base w' B b s vs n (Tr.raw (Tr.cO g h fun n=>{ n with attrs:=gK n.attrs nm (aX v) }) (Tr.eZ av h sl)) vf fr live root∧Sound b s n (Tr.raw (Tr.cO g h fun n=>{ n with attrs:=gK n.attrs nm (aX v) }) (Tr.eZ av h sl)) fr live∧
   AT w' (Tr.cO g h fun n=>{ n with attrs:=gK n.attrs nm (aX v) }) (Tr.eZ av h sl)∧aB w w' (aD B vs vf) (aD B vs vf):=by
 obtain⟨i0,hi0,hz0,hz1,hz2⟩:=info_parts sD;have hE:=jd base B b s root h live n g av fr vs vf w hm hS ((bN hS (h:=h) (by rw[aM,eg];rfl)).1) hk;have he0:fH g h=0:=by unfold fH;rw[eg];exact if_pos he
 rw[he0] at hE;have HV:=zh (fun (W:World) (hT:Lit W)=>nE nm W hn hT);rw[hb] at HV;have HM:=zh (fun (W:World) (hb:Below w.heap.size w W)=>hm.below hb);have HA:=zh (fun (W:World) (hb:Below w.heap.size w W)=>gW base B b s root h live n _ fr vs vf _ W (hm.below hb) hS (Tr.aj eg));have HAT:=zh (fun (W:World) (hb:Below w.heap.size w W)=>(ha.below hb));have LH:=zh hm.lt;have iU:=zh hS;have ql:=zh eg;clear he0 hm ha hS he hk
 go_enter Tryz.func26,Tryz.ntmps26
 go_wp2_with fail;refine hE.mono ?_;rintro e w1 ⟨rfl,hb1⟩;have TM:=HV.out w1 (hT.below hb1);clear hE HV;go_wp2_with fail;refine TM.mono ?_;rintro e w2 ⟨rfl,hb2⟩;have eU:=hb1.trans (hb2.mono hb1.size);have HA2:=HA.out w2 eU;clear TM hb1 hb2 HA;go_wp2_with fail;refine HA2.mono ?_;rintro e w3 ⟨gb,o,rfl,hpt,hb3⟩;have dB:=eU.trans (hb3.mono eU.size);obtain⟨_,_,t2,_⟩:=((HM.out w3 dB).np hpt (Tr.aj ql.out)).cells;rw[show (Tr.fA g av h nd).av=av h from rfl] at t2;have hgw:gb<w.heap.size:=(LH.out gb hpt.foot).2;have yH:=zh hpt;have hat:=HAT.out w3 dB h nd ql.out;have HC:=zh (qK _ nd.attrs w3 hat (by omega));clear HA2 eU hb3 hpt hat;go_wp2_with fail;refine HC.out.mono ?_;rintro e w4 ⟨v4,rfl,hr4,hb4⟩;have bU:=dB.trans (hb4.mono dB.size);obtain⟨w5,fT⟩:=eX (w4.alloc (.cells #[.int .i64 0,.int .i64 0,.int .i64 0,.int .i64 0,.int .i64 0,.int .i64 0,.string ⟨#[]⟩,.string ⟨#[]⟩,.bool false,.int .i64 0,.int .i64 0] 68))
 have fB:Below w4.heap.size w4 w5:=gU fT;have hz5:w5.heap.size=w4.heap.size+1:=by rw[←fT];simp
 have dU:Whole w5 w4.heap.size #[.int .i64 0,.int .i64 0,.int .i64 0,.int .i64 0,.int .i64 0,.int .i64 0,.string ⟨#[]⟩,.string ⟨#[]⟩,.bool false,.int .i64 0,.int .i64 0] 68:=by rw[←fT];exact Whole.new w4 _ _
 have xq:=hr4.below fB;have dY:=bU.trans (fB.mono bU.size);have y0:w5.cell? ⟨w4.heap.size,0,none⟩=some (.int .i64 0):=dU.cell 0;have EZ:=dU.free 0;have y1:w5.cell? ⟨w4.heap.size,1,none⟩=some (.int .i64 0):=dU.cell 1;have E5:=dU.free 1;have y2:w5.cell? ⟨w4.heap.size,2,none⟩=some (.int .i64 0):=dU.cell 2;have E8:=dU.free 2;have y3:w5.cell? ⟨w4.heap.size,3,none⟩=some (.int .i64 0):=dU.cell 3;have E9:=dU.free 3;have y4:w5.cell? ⟨w4.heap.size,4,none⟩=some (.int .i64 0):=dU.cell 4;have Fa:=dU.free 4;have y5:w5.cell? ⟨w4.heap.size,5,none⟩=some (.int .i64 0):=dU.cell 5;have Fb:=dU.free 5;have y6:w5.cell? ⟨w4.heap.size,6,none⟩=some (.string ⟨#[]⟩):=dU.cell 6;have Fe:=dU.free 6;have y7:w5.cell? ⟨w4.heap.size,7,none⟩=some (.string ⟨#[]⟩):=dU.cell 7;have Fg:=dU.free 7;have y8:w5.cell? ⟨w4.heap.size,8,none⟩=some (.bool false):=dU.cell 8;have Fh:=dU.free 8;have y9:w5.cell? ⟨w4.heap.size,9,none⟩=some (.int .i64 0):=dU.cell 9;have Fj:=dU.free 9;have wP:w5.cell? ⟨w4.heap.size,10,none⟩=some (.int .i64 0):=dU.cell 10;have rJ:=dU.free 10;obtain⟨w6,jM,gI,g6⟩:=kQ dU (.int .i64 3) (.int .i64 h) (.int .i64 0) (.int .i64 0) (.int .i64 0) (.int .i64 0) (.string nm) (.string ⟨#[]⟩) (.bool false) (.int .i64 0) (.int .i64 0);have hs4:w.heap.size≤w4.heap.size:=bU.size;have iM:Below w.heap.size w w6:=dY.grown g6 dY.size (fun j hj=>by simp at hj;omega);have hs6:=g6.size;have xk:AR w6 w3.heap.size v4 nd.attrs:=xq.kept g6 (.inr (xq.unlike dU (by decide)));have wQ:=zh gI;have OX:=zh iM;have Va:=zh xk;have Fv:=zh (show w4.heap.size<w6.heap.size by omega);have aaY:w.heap.size≤w3.heap.size:=dB.size;have Xe:w3.heap.size≤w4.heap.size:=hb4.size;have HI:=zh (oC v4 nd.attrs nm w6 xk.zero (by omega));obtain⟨A4,c4,rfl⟩:=hr4.form;clear HC hr4 xq xk dU gI fB bU dY iM hb4 dB g6;go_wp2_with fail;(try rw[jM]);go_wp2_with fail;refine HI.out.mono ?_;rintro e w7 ⟨rfl,nL⟩;have qX:=OX.out.trans (nL.mono OX.out.size);have aK:=wQ.out.below nL wQ.out.lt;have WK:=Va.out.below nL;have hs7:w4.heap.size<w7.heap.size:=Nat.lt_of_lt_of_le Fv.out nL.size;clear HI;have hgt:¬ pG nd.attrs nm<nd.attrs.length:=hcase;have hai:yI nd.attrs nm = -1:=by unfold yI;rw[if_neg hgt]
 have hset:gK nd.attrs nm (aX v)=nd.attrs++[(nm,aX v)]:=by unfold gK;rw[List.getElem?_eq_none (by omega)]
 have hold:lJ nd.attrs nm=⟨#[]⟩:=by unfold lJ;rw[List.getElem?_eq_none (by omega)]
 have zW:vg nd.attrs nm=false:=decide_eq_false hgt;have qd:=zh (And.intro hset (And.intro hold zW));rw[hai];clear hgt hcase hai hset hold zW;obtain⟨w8,hw8⟩:=eX (w7.alloc (.cells #[.string nm,.string ⟨#[]⟩] 73))
 have OY:Below w7.heap.size w7 w8:=gU hw8;have vw:=qX.trans (OY.mono qX.size);have CG:=WK.below OY;have zU:=aK.below OY aK.lt;have hsrc:((.slice (some ⟨w7.heap.size,0,none⟩) 1 1:Value)=.slice none 0 0∧1=0)∨∃ a c,(.slice (some ⟨w7.heap.size,0,none⟩) 1 1:Value)=.slice (some a) 1 c∧∀ j u,(fJ [(nm,(⟨#[]⟩:ByteArray))])[j]?=some u→w8.cell? (a.add j)=some u:=by
  rw[←hw8];exact nT w7 73 (fJ [(nm,(⟨#[]⟩:ByteArray))])
 have hs8:w3.heap.size≤w8.heap.size:=by have:=OY.size;omega
 have kH:=zh zU;have Yz:=zh vw;have WJ:=zh CG;obtain⟨len,hlen⟩:=eX (nd.attrs.length)
 have HLEN:=zh hlen;rw[hlen] at hl CG;clear WK aK qX nL OY vw zU hlen;rw[HLEN.out]
 go_wp2_with (at_builtin;refine dM rfl _ _ 71 rfl w3.heap.size 73 i0 (.agg #[.string ⟨#[]⟩,.string ⟨#[]⟩]) 2 32 Tryz.underlying71 hi0 hz0 hz1 hz2 rfl (by decide) _ len (fJ nd.attrs) rfl CG _ 1 (fJ [(nm,(⟨#[]⟩:ByteArray))]) rfl rfl hsrc (gV _) ?c3 ?c4 hs8 ?_)
 case c3=>unfold maxLen;omega
 case c4=>omega
 intro v9 w9 o9 g9 f9;rw[←jU] at o9;have hne:(Value.slice A4 len c4).ownBlock≠some w4.heap.size:=CG.unlike kH.out (by decide);have fD:=kH.out.grown g9 (fun e=>hne e.symm);have JC:Below w.heap.size w w9:=Yz.out.grown g9 Yz.out.size (fun j hj=>by have:=(CG.lt j hj).1;omega);have WL:w4.heap.size<w9.heap.size:=by have:=kH.out.lt;have:=g9.size;omega
 have OV:TR w9 w3.heap.size 73 2 v9 (len+1) (fJ (nd.attrs++[(nm,(⟨#[]⟩:ByteArray))])):=o9;obtain⟨A9,c9,rfl⟩:=OV.form;obtain⟨ga,oa,rfl,hga,_⟩:=OV.cells (by omega);have hgx:ga≠w4.heap.size:=fun e=>OV.unlike fD (by decide) (by rw[e];rfl);have oz:=zh fD;have OZ:=zh JC;have HR:=zh (iC v w9 hv (hT.below JC));have HO9:=zh OV;clear fD JC o9 OV g9 f9 CG hsrc;have q1:(len:Int)<(len:Int)+1:=by omega
 have q1b:(len:Int)<((len+1:Nat):Int):=by omega
 have q0:(0:Int)≤(len:Int):=by omega
 go_wp2_with fail;refine HR.out.mono ?_;rintro e fO ⟨rfl,zX⟩;have zY:=OZ.out.trans (zX.mono OZ.out.size);have Rs:=HO9.out.below zX;have kW:=oz.out.below zX oz.out.lt;have aaZ:w4.heap.size<fO.heap.size:=Nat.lt_of_lt_of_le WL zX.size;obtain⟨rv,nu⟩:=eX (fF (bD.rep v.data.toList))
 have hrs:rv.size≤60000:=by
  rw[←nu];have:=bD.nk v.data.toList;have e1:v.data.toList.length=v.size:=rfl;have e2:(fF (bD.rep v.data.toList)).size=(bD.rep v.data.toList).length:=kg _;omega
 obtain⟨JD,g11⟩:=Rs.stored (len*2+1) (.string rv);have hgt2:(nd.attrs++[(nm,(⟨#[]⟩:ByteArray))])[len]?=some (nm,⟨#[]⟩):=by rw[←HLEN.out];simp
 rw[yS _ _ _ hgt2] at JD;have hse:(nd.attrs++[(nm,(⟨#[]⟩:ByteArray))]).set len ((nm,(⟨#[]⟩:ByteArray)).1,rv)=gK nd.attrs nm (aX v):=by
  rw[qd.out.1,show aX v=rv from nu,←HLEN.out];simp
 rw[hse] at JD;have hl2:(gK nd.attrs nm (aX v)).length=len+1:=by rw[qd.out.1,←HLEN.out];simp
 rw[←Nat.add_assoc] at JD g11;have c10:fO.cell? ⟨ga,oa+len*2+1,none⟩=some (.string ⟨#[]⟩):=by
  have:=Rs.cellAt (len*2+1) (.string ⟨#[]⟩) (by omega) (jk _ _ _ hgt2).2;rw[←Nat.add_assoc] at this;exact this
 have f10:=Rs.frozen (oa+len*2+1);obtain⟨iK,Mi⟩:=eX (fO.setCell ⟨ga,oa+len*2+1,none⟩ (.string rv))
 rw[Mi] at JD g11;have c11:iK.cell? ⟨ga,oa+len*2+1,none⟩=some (.string rv):=by
  have hp:(gK nd.attrs nm (aX v))[len]?=some (nm,rv):=by rw[qd.out.1,show aX v=rv from nu,←HLEN.out];simp
  have:=JD.cellAt (len*2+1) (.string rv) (by omega) (jk _ _ _ hp).2;rw[←Nat.add_assoc] at this;exact this
 have O1:=kW.grown g11 (fun e=>hgx (by injection e with e;exact e.symm));have qg:Below w.heap.size w iK:=zY.grown g11 zY.size (fun j hj=>by injection hj with hj;omega);obtain⟨t20,t21⟩:=(HM.out iK qg).np yH.out (Tr.aj ql.out) 2 (by omega);have t22:iK.cell? ⟨gb,o+2,none⟩=some (.slice (av h).a (av h).n (av h).c):=t20;have hput:=(HM.out iK qg).nJ iU.out (HAT.out iK qg) yH.out ql.out (fun n=>gK n.attrs nm (aX v)) ⟨some ⟨ga,oa,none⟩,len+1,c9⟩ (by
  show TR iK 0 _ 2 _ (gK nd.attrs nm (aX v)).length _
  rw[hl2];exact JD.zero)
 obtain⟨qY,JE⟩:=eX (iK.setCell ⟨gb,o+2,none⟩ (.slice (some ⟨ga,oa,none⟩) (len+1) c9))
 rw[show (Tr.Sl.v ⟨some ⟨ga,oa,none⟩,len+1,c9⟩)=.slice (some ⟨ga,oa,none⟩) (len+1) c9 from rfl,JE] at hput;have g12:iK.grownBy qY (some gb):=by rw[←JE];exact aO (ay (Below.refl iK.heap.size iK) _) _ _
 have gu:=O1.grown g12 (fun e=>by injection e with e;omega);have qm:=(Below.refl _ qY).alloc (Nat.le_refl _) (.cells #[.int .i64 3,.int .i64 h,.int .i64 0,.int .i64 0,.int .i64 0,.int .i64 0,.string nm,.string ⟨#[]⟩,.bool false,.int .i64 0,.int .i64 0] 68);have bf:=zh (And.intro (ng qY (jK h nm ⟨#[]⟩ false) w.heap.size (Nat.le_trans qg.size g12.size)) (And.intro (hput.1.below qm) (And.intro hput.2.1 (And.intro (hput.2.2.1.below qm) (((aB.of_below qg).trans hput.2.2.2).trans (.of_below qm))))));have s0:qY.cell? ⟨w4.heap.size,0,none⟩=some (.int .i64 3):=gu.cell 0;have Xh:=gu.free 0;have s1:qY.cell? ⟨w4.heap.size,1,none⟩=some (.int .i64 h):=gu.cell 1;have Xi:=gu.free 1;have s2:qY.cell? ⟨w4.heap.size,2,none⟩=some (.int .i64 0):=gu.cell 2;have Xj:=gu.free 2;have s3:qY.cell? ⟨w4.heap.size,3,none⟩=some (.int .i64 0):=gu.cell 3;have Xk:=gu.free 3;have s4:qY.cell? ⟨w4.heap.size,4,none⟩=some (.int .i64 0):=gu.cell 4;have Xl:=gu.free 4;have s5:qY.cell? ⟨w4.heap.size,5,none⟩=some (.int .i64 0):=gu.cell 5;have Xm:=gu.free 5;have s6:qY.cell? ⟨w4.heap.size,6,none⟩=some (.string nm):=gu.cell 6;have Xn:=gu.free 6;have s7:qY.cell? ⟨w4.heap.size,7,none⟩=some (.string ⟨#[]⟩):=gu.cell 7;have Xo:=gu.free 7;have s8:qY.cell? ⟨w4.heap.size,8,none⟩=some (.bool false):=gu.cell 8;have Xp:=gu.free 8;have s9:qY.cell? ⟨w4.heap.size,9,none⟩=some (.int .i64 0):=gu.cell 9;have Xq:=gu.free 9;have s10:qY.cell? ⟨w4.heap.size,10,none⟩=some (.int .i64 0):=gu.cell 10;have N8:=gu.free 10;have KJ:=zh nu;have q2:¬ (64:Int)<(len:Int)+1:=by omega
 have q2b:¬ (64:Int)<((len+1:Nat):Int):=by omega
 have q3:¬ (1048576:Int)<(rv.size:Int):=by omega
 rw[nu];clear kW O1 gu Rs JD g11 g12 hput zY qg zX qm hse hl2 hgt2 t20 nu hrs;go_wp2_with fail;(try rw[Mi]);go_wp2_with fail;(try rw[JE]);go_wp2_with fail;go_ret2;obtain⟨z1,z2,z3,z4,z5⟩:=bf.out;refine⟨_,⟨some ⟨ga,oa,none⟩,len+1,c9⟩,rfl,?_,z2,z3,z4,z5⟩;rw[qd.out.2.1,qd.out.2.2];exact z1
theorem I4 (base B:Nat) (b s root h:Int) (live n:Nat) (g:Tr.G) (av:Int→Tr.Sl) (fr:List Nat) (vs vf:Value) (nd:Tr.GN) (nm v:ByteArray) (w:World) (hm:TV base w B b s vs n (Tr.raw g av) vf fr live root) (hS:Sound b s n (Tr.raw g av) fr live) (ha:AT w g av) (hk:∀ x m,g x=some m→m.kind≠0) (eg:g h=some nd) (he:nd.kind=2) (hl:nd.attrs.length≤63) (hn:nm.size≤20000) (hv:v.size≤20000) (hT:Lit w) (hb:Nm.attr nm=true) (hcase:pG nd.attrs nm<nd.attrs.length):
  Calls Tryz.prog 26 #[.pointer (some ⟨B,0,none⟩),.int .i64 h,.string nm,.string v] w fun e w'=>∃ r sl,e=.returned (.tuple #[r,.int .i64 0])∧bH w.heap.size w' r [jK h nm (lJ nd.attrs nm) (vg nd.attrs nm)]∧
   TV base w' B b s vs n (Tr.raw (Tr.cO g h fun n=>{ n with attrs:=gK n.attrs nm (aX v) }) (Tr.eZ av h sl)) vf fr live root∧Sound b s n (Tr.raw (Tr.cO g h fun n=>{ n with attrs:=gK n.attrs nm (aX v) }) (Tr.eZ av h sl)) fr live∧
   AT w' (Tr.cO g h fun n=>{ n with attrs:=gK n.attrs nm (aX v) }) (Tr.eZ av h sl)∧aB w w' (aD B vs vf) (aD B vs vf):=by
 obtain⟨i0,hi0,hz0,hz1,hz2⟩:=info_parts sD;have hE:=jd base B b s root h live n g av fr vs vf w hm hS ((bN hS (h:=h) (by rw[aM,eg];rfl)).1) hk;have he0:fH g h=0:=by unfold fH;rw[eg];exact if_pos he
 rw[he0] at hE;have HV:=zh (fun (W:World) (hT:Lit W)=>nE nm W hn hT);rw[hb] at HV;have HM:=zh (fun (W:World) (hb:Below w.heap.size w W)=>hm.below hb);have HA:=zh (fun (W:World) (hb:Below w.heap.size w W)=>gW base B b s root h live n _ fr vs vf _ W (hm.below hb) hS (Tr.aj eg));have HAT:=zh (fun (W:World) (hb:Below w.heap.size w W)=>(ha.below hb));have LH:=zh hm.lt;have iU:=zh hS;have ql:=zh eg;clear he0 hm ha hS he hk
 go_enter Tryz.func26,Tryz.ntmps26
 go_wp2_with fail;refine hE.mono ?_;rintro e w1 ⟨rfl,hb1⟩;have TM:=HV.out w1 (hT.below hb1);clear hE HV;go_wp2_with fail;refine TM.mono ?_;rintro e w2 ⟨rfl,hb2⟩;have eU:=hb1.trans (hb2.mono hb1.size);have HA2:=HA.out w2 eU;clear TM hb1 hb2 HA;go_wp2_with fail;refine HA2.mono ?_;rintro e w3 ⟨gb,o,rfl,hpt,hb3⟩;have dB:=eU.trans (hb3.mono eU.size);obtain⟨_,_,t2,_⟩:=((HM.out w3 dB).np hpt (Tr.aj ql.out)).cells;rw[show (Tr.fA g av h nd).av=av h from rfl] at t2;have hgw:gb<w.heap.size:=(LH.out gb hpt.foot).2;have yH:=zh hpt;have hat:=HAT.out w3 dB h nd ql.out;have HC:=zh (qK _ nd.attrs w3 hat (by omega));clear HA2 eU hb3 hpt hat;go_wp2_with fail;refine HC.out.mono ?_;rintro e w4 ⟨v4,rfl,hr4,hb4⟩;have bU:=dB.trans (hb4.mono dB.size);obtain⟨w5,fT⟩:=eX (w4.alloc (.cells #[.int .i64 0,.int .i64 0,.int .i64 0,.int .i64 0,.int .i64 0,.int .i64 0,.string ⟨#[]⟩,.string ⟨#[]⟩,.bool false,.int .i64 0,.int .i64 0] 68))
 have fB:Below w4.heap.size w4 w5:=gU fT;have hz5:w5.heap.size=w4.heap.size+1:=by rw[←fT];simp
 have dU:Whole w5 w4.heap.size #[.int .i64 0,.int .i64 0,.int .i64 0,.int .i64 0,.int .i64 0,.int .i64 0,.string ⟨#[]⟩,.string ⟨#[]⟩,.bool false,.int .i64 0,.int .i64 0] 68:=by rw[←fT];exact Whole.new w4 _ _
 have xq:=hr4.below fB;have dY:=bU.trans (fB.mono bU.size);have y0:w5.cell? ⟨w4.heap.size,0,none⟩=some (.int .i64 0):=dU.cell 0;have EZ:=dU.free 0;have y1:w5.cell? ⟨w4.heap.size,1,none⟩=some (.int .i64 0):=dU.cell 1;have E5:=dU.free 1;have y2:w5.cell? ⟨w4.heap.size,2,none⟩=some (.int .i64 0):=dU.cell 2;have E8:=dU.free 2;have y3:w5.cell? ⟨w4.heap.size,3,none⟩=some (.int .i64 0):=dU.cell 3;have E9:=dU.free 3;have y4:w5.cell? ⟨w4.heap.size,4,none⟩=some (.int .i64 0):=dU.cell 4;have Fa:=dU.free 4;have y5:w5.cell? ⟨w4.heap.size,5,none⟩=some (.int .i64 0):=dU.cell 5;have Fb:=dU.free 5;have y6:w5.cell? ⟨w4.heap.size,6,none⟩=some (.string ⟨#[]⟩):=dU.cell 6;have Fe:=dU.free 6;have y7:w5.cell? ⟨w4.heap.size,7,none⟩=some (.string ⟨#[]⟩):=dU.cell 7;have Fg:=dU.free 7;have y8:w5.cell? ⟨w4.heap.size,8,none⟩=some (.bool false):=dU.cell 8;have Fh:=dU.free 8;have y9:w5.cell? ⟨w4.heap.size,9,none⟩=some (.int .i64 0):=dU.cell 9;have Fj:=dU.free 9;have wP:w5.cell? ⟨w4.heap.size,10,none⟩=some (.int .i64 0):=dU.cell 10;have rJ:=dU.free 10;obtain⟨w6,jM,gI,g6⟩:=kQ dU (.int .i64 3) (.int .i64 h) (.int .i64 0) (.int .i64 0) (.int .i64 0) (.int .i64 0) (.string nm) (.string ⟨#[]⟩) (.bool false) (.int .i64 0) (.int .i64 0);have hs4:w.heap.size≤w4.heap.size:=bU.size;have iM:Below w.heap.size w w6:=dY.grown g6 dY.size (fun j hj=>by simp at hj;omega);have hs6:=g6.size;have xk:AR w6 w3.heap.size v4 nd.attrs:=xq.kept g6 (.inr (xq.unlike dU (by decide)));have wQ:=zh gI;have OX:=zh iM;have Va:=zh xk;have Fv:=zh (show w4.heap.size<w6.heap.size by omega);have aaY:w.heap.size≤w3.heap.size:=dB.size;have Xe:w3.heap.size≤w4.heap.size:=hb4.size;have HI:=zh (oC v4 nd.attrs nm w6 xk.zero (by omega));obtain⟨A4,c4,rfl⟩:=hr4.form;clear HC hr4 xq xk dU gI fB bU dY iM hb4 dB g6;go_wp2_with fail;(try rw[jM]);go_wp2_with fail;refine HI.out.mono ?_;rintro e w7 ⟨rfl,nL⟩;have qX:=OX.out.trans (nL.mono OX.out.size);have aK:=wQ.out.below nL wQ.out.lt;have WK:=Va.out.below nL;have hs7:w4.heap.size<w7.heap.size:=Nat.lt_of_lt_of_le Fv.out nL.size;clear HI;have hlt:pG nd.attrs nm<nd.attrs.length:=hcase;obtain⟨k,hkk⟩:=eX (pG nd.attrs nm)
 obtain⟨p,hp⟩:∃ p,nd.attrs[k]?=some p:=⟨nd.attrs[k]'(by omega),by simp⟩
 have hai:yI nd.attrs nm=(k:Int):=by unfold yI;rw[if_pos hlt,hkk]
 have hset:gK nd.attrs nm (aX v)=nd.attrs.set k (p.1,aX v):=by unfold gK;rw[hkk,hp]
 have hold:lJ nd.attrs nm=p.2:=by unfold lJ;rw[hkk,hp]
 have zW:vg nd.attrs nm=true:=decide_eq_true hlt;have qd:=zh (And.intro hset (And.intro hold (And.intro zW hp)));have hkl:k<nd.attrs.length:=by omega
 rw[hai];clear hlt hcase hai hset hold zW hkk;obtain⟨len,hlen⟩:=eX (nd.attrs.length)
 have HLEN:=zh hlen;obtain⟨ga,oa,rfl,_,c71,c72⟩:=AR.at WK hp;have Rt:TR w7 w3.heap.size 73 2 (.slice (some ⟨ga,oa,none⟩) len c4) len (fJ nd.attrs):=by rw[←hlen];exact WK
 have hgx:ga≠w4.heap.size:=fun e=>Rt.unlike aK (by decide) (by rw[e];rfl);have hga:w3.heap.size≤ga:=(Rt.lt ga rfl).1;rw[hlen] at hl hkl;rw[HLEN.out];have x0:w7.cell? ⟨w4.heap.size,0,none⟩=some (.int .i64 3):=aK.cell 0;have xf0:=aK.free 0;have x1:w7.cell? ⟨w4.heap.size,1,none⟩=some (.int .i64 h):=aK.cell 1;have xf1:=aK.free 1;have x2:w7.cell? ⟨w4.heap.size,2,none⟩=some (.int .i64 0):=aK.cell 2;have xf2:=aK.free 2;have x3:w7.cell? ⟨w4.heap.size,3,none⟩=some (.int .i64 0):=aK.cell 3;have xf3:=aK.free 3;have x4:w7.cell? ⟨w4.heap.size,4,none⟩=some (.int .i64 0):=aK.cell 4;have xf4:=aK.free 4;have x5:w7.cell? ⟨w4.heap.size,5,none⟩=some (.int .i64 0):=aK.cell 5;have xf5:=aK.free 5;have x6:w7.cell? ⟨w4.heap.size,6,none⟩=some (.string nm):=aK.cell 6;have xf6:=aK.free 6;have x7:w7.cell? ⟨w4.heap.size,7,none⟩=some (.string ⟨#[]⟩):=aK.cell 7;have xf7:=aK.free 7;have x8:w7.cell? ⟨w4.heap.size,8,none⟩=some (.bool false):=aK.cell 8;have xf8:=aK.free 8;have x9:w7.cell? ⟨w4.heap.size,9,none⟩=some (.int .i64 0):=aK.cell 9;have xf9:=aK.free 9;have x10:w7.cell? ⟨w4.heap.size,10,none⟩=some (.int .i64 0):=aK.cell 10;have xf10:=aK.free 10;obtain⟨w9,wK⟩:=eX (((w7.setCell ⟨w4.heap.size,8,none⟩ (.bool true)).setCell ⟨w4.heap.size,7,none⟩ (.string p.2)).drew)
 have hXa:Whole (w7.setCell ⟨w4.heap.size,8,none⟩ (.bool true)) w4.heap.size #[.int .i64 3,.int .i64 h,.int .i64 0,.int .i64 0,.int .i64 0,.int .i64 0,.string nm,.string ⟨#[]⟩,.bool true,.int .i64 0,.int .i64 0] 68:=aK.put 8 (.bool true);have hXb:Whole ((w7.setCell ⟨w4.heap.size,8,none⟩ (.bool true)).setCell ⟨w4.heap.size,7,none⟩ (.string p.2)).drew w4.heap.size #[.int .i64 3,.int .i64 h,.int .i64 0,.int .i64 0,.int .i64 0,.int .i64 0,.string nm,.string p.2,.bool true,.int .i64 0,.int .i64 0] 68:=hXa.put 7 (.string p.2);have g9:w7.grownBy w9 (some w4.heap.size):=by
  rw[←wK];have g:=aO (aO (ay (Below.refl w7.heap.size w7) (some w4.heap.size)) 8 (.bool true)) 7 (.string p.2);exact⟨g.os,g.tape,g.output,g.size,g.block⟩
 rw[wK] at hXb;have JC:Below w.heap.size w w9:=qX.grown g9 qX.size (fun j hj=>by injection hj with hj;omega);have WL:w4.heap.size<w9.heap.size:=by have:=g9.size;omega
 have OV:TR w9 w3.heap.size 73 2 (.slice (some ⟨ga,oa,none⟩) len c4) len (fJ nd.attrs):=Rt.kept g9 (.inr (fun e=>hgx (by injection e)));have fD:=hXb;have oz:=zh fD;have OZ:=zh JC;have HR:=zh (iC v w9 hv (hT.below JC));have HO9:=zh OV;have q1:(k:Int)<(len:Int):=by omega
 have q0:(0:Int)≤(k:Int):=by omega
 have q4:¬ (k:Int)<0:=by omega
 clear fD hXb hXa JC OV g9 WK Rt qX nL aK hp hlen;go_wp2_with fail
 go_region
 (try rw[wK]);go_wp2_with fail;refine HR.out.mono ?_;rintro e fO ⟨rfl,zX⟩;have zY:=OZ.out.trans (zX.mono OZ.out.size);have Rs:=HO9.out.below zX;have kW:=oz.out.below zX oz.out.lt;have aaZ:w4.heap.size<fO.heap.size:=Nat.lt_of_lt_of_le WL zX.size;obtain⟨rv,nu⟩:=eX (fF (bD.rep v.data.toList))
 have hrs:rv.size≤60000:=by
  rw[←nu];have:=bD.nk v.data.toList;have e1:v.data.toList.length=v.size:=rfl;have e2:(fF (bD.rep v.data.toList)).size=(bD.rep v.data.toList).length:=kg _;omega
 obtain⟨JD,g11⟩:=Rs.stored (k*2+1) (.string rv);have hgt2:nd.attrs[k]?=some p:=qd.out.2.2.2;rw[yS _ _ _ hgt2] at JD;have hse:nd.attrs.set k (p.1,rv)=gK nd.attrs nm (aX v):=by rw[qd.out.1,show aX v=rv from nu]
 rw[hse] at JD;have hl2:(gK nd.attrs nm (aX v)).length=len:=by rw[qd.out.1,←HLEN.out];simp
 rw[←Nat.add_assoc] at JD g11;have c10:fO.cell? ⟨ga,oa+k*2+1,none⟩=some (.string p.2):=by
  have:=Rs.cellAt (k*2+1) (.string p.2) (by omega) (jk _ _ _ hgt2).2;rw[←Nat.add_assoc] at this;exact this
 have f10:=Rs.frozen (oa+k*2+1);obtain⟨iK,Mi⟩:=eX (fO.setCell ⟨ga,oa+k*2+1,none⟩ (.string rv))
 rw[Mi] at JD g11;have c11:iK.cell? ⟨ga,oa+k*2+1,none⟩=some (.string rv):=by
  have hp:(gK nd.attrs nm (aX v))[k]?=some (p.1,rv):=by
   have aa1:k<nd.attrs.length:=by rw[HLEN.out];exact hkl
   rw[qd.out.1,show aX v=rv from nu];simp[aa1]
  have:=JD.cellAt (k*2+1) (.string rv) (by omega) (jk _ _ _ hp).2;rw[←Nat.add_assoc] at this;exact this
 have O1:=kW.grown g11 (fun e=>hgx (by injection e with e;exact e.symm));have qg:Below w.heap.size w iK:=zY.grown g11 zY.size (fun j hj=>by injection hj with hj;omega);obtain⟨t20,t21⟩:=(HM.out iK qg).np yH.out (Tr.aj ql.out) 2 (by omega);have t22:iK.cell? ⟨gb,o+2,none⟩=some (.slice (av h).a (av h).n (av h).c):=t20;have hput:=(HM.out iK qg).nJ iU.out (HAT.out iK qg) yH.out ql.out (fun n=>gK n.attrs nm (aX v)) ⟨some ⟨ga,oa,none⟩,len,c4⟩ (by
  show TR iK 0 _ 2 _ (gK nd.attrs nm (aX v)).length _
  rw[hl2];exact JD.zero)
 obtain⟨qY,JE⟩:=eX (iK.setCell ⟨gb,o+2,none⟩ (.slice (some ⟨ga,oa,none⟩) len c4))
 rw[show (Tr.Sl.v ⟨some ⟨ga,oa,none⟩,len,c4⟩)=.slice (some ⟨ga,oa,none⟩) len c4 from rfl,JE] at hput;have g12:iK.grownBy qY (some gb):=by rw[←JE];exact aO (ay (Below.refl iK.heap.size iK) _) _ _
 have gu:=O1.grown g12 (fun e=>by injection e with e;omega);have qm:=(Below.refl _ qY).alloc (Nat.le_refl _) (.cells #[.int .i64 3,.int .i64 h,.int .i64 0,.int .i64 0,.int .i64 0,.int .i64 0,.string nm,.string p.2,.bool true,.int .i64 0,.int .i64 0] 68);have bf:=zh (And.intro (ng qY (jK h nm p.2 true) w.heap.size (Nat.le_trans qg.size g12.size)) (And.intro (hput.1.below qm) (And.intro hput.2.1 (And.intro (hput.2.2.1.below qm) (((aB.of_below qg).trans hput.2.2.2).trans (.of_below qm))))));have s0:qY.cell? ⟨w4.heap.size,0,none⟩=some (.int .i64 3):=gu.cell 0;have Xh:=gu.free 0;have s1:qY.cell? ⟨w4.heap.size,1,none⟩=some (.int .i64 h):=gu.cell 1;have Xi:=gu.free 1;have s2:qY.cell? ⟨w4.heap.size,2,none⟩=some (.int .i64 0):=gu.cell 2;have Xj:=gu.free 2;have s3:qY.cell? ⟨w4.heap.size,3,none⟩=some (.int .i64 0):=gu.cell 3;have Xk:=gu.free 3;have s4:qY.cell? ⟨w4.heap.size,4,none⟩=some (.int .i64 0):=gu.cell 4;have Xl:=gu.free 4;have s5:qY.cell? ⟨w4.heap.size,5,none⟩=some (.int .i64 0):=gu.cell 5;have Xm:=gu.free 5;have s6:qY.cell? ⟨w4.heap.size,6,none⟩=some (.string nm):=gu.cell 6;have Xn:=gu.free 6;have s7:qY.cell? ⟨w4.heap.size,7,none⟩=some (.string p.2):=gu.cell 7;have Xo:=gu.free 7;have s8:qY.cell? ⟨w4.heap.size,8,none⟩=some (.bool true):=gu.cell 8;have Xp:=gu.free 8;have s9:qY.cell? ⟨w4.heap.size,9,none⟩=some (.int .i64 0):=gu.cell 9;have Xq:=gu.free 9;have s10:qY.cell? ⟨w4.heap.size,10,none⟩=some (.int .i64 0):=gu.cell 10;have N8:=gu.free 10;have KJ:=zh nu;have q2:¬ (64:Int)<(len:Int):=by omega
 have q3:¬ (1048576:Int)<(rv.size:Int):=by omega
 rw[nu];clear kW O1 gu Rs JD g11 g12 hput zY qg zX qm hse hl2 hgt2 t20 nu hrs;go_wp2_with fail;(try rw[Mi]);go_wp2_with fail;(try rw[JE]);go_wp2_with fail;go_ret2;obtain⟨z1,z2,z3,z4,z5⟩:=bf.out;refine⟨_,⟨some ⟨ga,oa,none⟩,len,c4⟩,rfl,?_,z2,z3,z4,z5⟩;rw[qd.out.2.1,qd.out.2.2.1];exact z1
end
end Go.Proofs.YtjpbhkcjmdndjaaGreatDoor
