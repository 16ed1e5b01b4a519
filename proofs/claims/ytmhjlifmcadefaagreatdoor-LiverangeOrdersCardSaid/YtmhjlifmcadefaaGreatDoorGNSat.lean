/- Part of a proof about trees. -/
import Derived.Test.YtmhjlifmcadefaaGreatDoorS02
set_option linter.unusedVariables false
set_option linter.unusedSimpArgs false
set_option maxHeartbeats 2000000
set_option maxRecDepth 100000
namespace Go.Proofs.YtmhjlifmcadefaaGreatDoor
section
open Go.RowKit
def gF (l:List (ByteArray×ByteArray)) (nm v:ByteArray):List (ByteArray×ByteArray):=match l[oZ l nm]? with
 | some p=>l.set (oZ l nm) (p.1,v)
 | none=>l++[(nm,v)]
def lD (l:List (ByteArray×ByteArray)) (nm:ByteArray):ByteArray:=match l[oZ l nm]? with
 | some p=>p.2
 | none=>⟨#[]⟩
def vw (l:List (ByteArray×ByteArray)) (nm:ByteArray):Bool:=decide (oZ l nm<l.length)
def aZ (s:ByteArray):ByteArray:=fB (bB.rep s.data.toList)
def jL (h:Int) (nm old:ByteArray) (had:Bool):Tr.Rec:=⟨3,h,0,0,0,0,nm,old,had,0,0⟩
theorem Lx {g:Tr.G} {av:Int→Tr.Sl} {h:Int} {sl:Tr.Sl} {u:Tr.GN→Tr.GN} {U:Tr.Nd→Tr.Nd} (hu:∀ n,(u n).pa=n.pa∧(u n).kids=n.kids) (hU:∀ n,g h=some n→Tr.dW (Tr.cK g h u) (Tr.fq av h sl) h (u n)=U (Tr.dW g av h n)):Tr.raw (Tr.cK g h u) (Tr.fq av h sl)=Tr.upd (Tr.raw g av) h U:=by
 have hk:∀ p,Tr.au (Tr.cK g h u) p=Tr.au g p:=fun p=>by
  unfold Tr.au Tr.cK;by_cases e:p=h
  ·subst e;rw[if_pos rfl];cases g p with | none=>rfl | some m=>exact (hu m).2
  ·rw[if_neg e]
 funext x;unfold Tr.upd;by_cases hx:x=h
 ·subst hx;rw[if_pos rfl];cases e:g x with
  | none=>rw[Tr.bF e,Tr.bF];rfl;unfold Tr.cK;rw[if_pos rfl,e];rfl
  | some m=>
   have e2:Tr.cK g x u x=some (u m):=by unfold Tr.cK;rw[if_pos rfl,e];rfl
   rw[Tr.aj e,Tr.aj e2,hU m e];rfl
 ·rw[if_neg hx];cases e:g x with
  | none=>rw[Tr.bF e,Tr.bF];unfold Tr.cK;rw[if_neg hx,e]
  | some m=>
   have e2:Tr.cK g h u x=some m:=by unfold Tr.cK;rw[if_neg hx,e]
   rw[Tr.aj e,Tr.aj e2];unfold Tr.dW;rw[hk,Tr.vC hx]
theorem JO {g:Tr.G} {av:Int→Tr.Sl} {h:Int} {sl:Tr.Sl} {f:Tr.GN→List (ByteArray×ByteArray)} (n:Tr.GN) (e:g h=some n):Tr.dW (Tr.cK g h fun n=>{ n with attrs:=f n }) (Tr.fq av h sl) h { n with attrs:=f n }={ Tr.dW g av h n with av:=sl }:=by
 unfold Tr.dW;dsimp only;rw[Tr.lG];have hk:∀ p,Tr.au (Tr.cK g h fun n=>{ n with attrs:=f n }) p=Tr.au g p:=fun p=>by
  unfold Tr.au Tr.cK;by_cases e:p=h
  ·subst e;rw[if_pos rfl];cases g p with | none=>rfl | some m=>rfl
  ·rw[if_neg e]
 rw[hk]
theorem TV.nC {base B n live gb o:Nat} {w:World} {b s root h:Int} {vs vf:Value} {g:Tr.G} {av:Int→Tr.Sl} {fr:List Nat} {nd:Tr.GN} (hM:TV base w B b s vs n (Tr.raw g av) vf fr live root) (hS:Sound b s n (Tr.raw g av) fr live) (ha:AT w g av) (hp:PtrTo b s vs n gb o h) (eg:g h=some nd) (f:Tr.GN→List (ByteArray×ByteArray)) (sl:Tr.Sl) (hr:AR w 0 sl.v (f nd)):
  TV base (w.setCell ⟨gb,o+2,none⟩ sl.v) B b s vs n (Tr.raw (Tr.cK g h fun n=>{ n with attrs:=f n }) (Tr.fq av h sl)) vf fr live root∧Sound b s n (Tr.raw (Tr.cK g h fun n=>{ n with attrs:=f n }) (Tr.fq av h sl)) fr live∧
   AT (w.setCell ⟨gb,o+2,none⟩ sl.v) (Tr.cK g h fun n=>{ n with attrs:=f n }) (Tr.fq av h sl)∧aB w (w.setCell ⟨gb,o+2,none⟩ sl.v) (aD B vs vf) (aD B vs vf):=by
 have e:Tr.raw (Tr.cK g h fun n=>{ n with attrs:=f n }) (Tr.fq av h sl)=Tr.upd (Tr.raw g av) h fun d=>{ d with av:=sl }:=Lx (fun _=>⟨rfl,rfl⟩) (fun n en=>JO n en);obtain⟨k1,k2⟩:=hM.mI (j:=2) (v:=sl.v) hp (Tr.aj eg) (fun d=>{ d with av:=sl }) rfl (by omega) rfl;rw[e];refine⟨k1,hS.upd,?_,k2⟩;have hA:=AT.put (h:=h) (sl:=sl) (u:=fun n=>{ n with attrs:=f n }) ha (fun m em=>by rw[eg] at em;obtain rfl:=Option.some.inj em;exact hr);exact hA.step hM k2
theorem zT (base B:Nat) (b s root h:Int) (live n:Nat) (g:Tr.G) (av:Int→Tr.Sl) (fr:List Nat) (vs vf:Value) (nm v:ByteArray) (w:World) (hm:TV base w B b s vs n (Tr.raw g av) vf fr live root) (hS:Sound b s n (Tr.raw g av) fr live) (hh:gI h) (hk:∀ x m,g x=some m→m.kind≠0) (he:fD g h≠0):
  Calls Tryz.prog 37 #[.pointer (some ⟨B,0,none⟩),.int .i64 h,.string nm,.string v] w fun e w'=>e=.returned (nW (fD g h))∧Below w.heap.size w w':=by
 have hE:=iV base B b s root h live n g av fr vs vf w hm hS hh hk;obtain⟨z,hz⟩:=eX (fD g h)
 rw[hz] at hE he ⊢;have q:=bne_true he;clear hm hz
 go_enter Tryz.func37,Tryz.ntmps37
 go_wp2_with fail;refine hE.mono ?_;rintro e w1 ⟨rfl,hb⟩;clear hE;go_wp2_with fail;go_ret2;exact⟨rfl,hb⟩
theorem Jj (base B:Nat) (b s root h:Int) (live n:Nat) (g:Tr.G) (av:Int→Tr.Sl) (fr:List Nat) (vs vf:Value) (nm v:ByteArray) (w:World) (hm:TV base w B b s vs n (Tr.raw g av) vf fr live root) (hS:Sound b s n (Tr.raw g av) fr live) (hh:gI h) (hk:∀ x m,g x=some m→m.kind≠0) (he:fD g h=0) (hn:nm.size≤20000) (hT:Lit w) (hb:Nm.attr nm=false):
  Calls Tryz.prog 37 #[.pointer (some ⟨B,0,none⟩),.int .i64 h,.string nm,.string v] w fun e w'=>e=.returned (nW 1)∧Below w.heap.size w w':=by
 have hE:=iV base B b s root h live n g av fr vs vf w hm hS hh hk;rw[he] at hE;have HV:=zh (fun (W:World) (hT:Lit W)=>mZ nm W hn hT);rw[hb] at HV;clear hm he
 go_enter Tryz.func37,Tryz.ntmps37
 go_wp2_with fail;refine hE.mono ?_;rintro e w1 ⟨rfl,hb1⟩;have UQ:=HV.out w1 (hT.below hb1);clear hE HV;go_wp2_with fail;refine UQ.mono ?_;rintro e w2 ⟨rfl,hb2⟩;have eO:=hb1.trans (hb2.mono hb1.size);clear UQ hb1 hb2;go_wp2_with fail;go_ret2;exact⟨rfl,eO⟩
theorem Jo (base B:Nat) (b s root h:Int) (live n:Nat) (g:Tr.G) (av:Int→Tr.Sl) (fr:List Nat) (vs vf:Value) (nd:Tr.GN) (nm v:ByteArray) (w:World) (hm:TV base w B b s vs n (Tr.raw g av) vf fr live root) (hS:Sound b s n (Tr.raw g av) fr live) (ha:AT w g av) (hk:∀ x m,g x=some m→m.kind≠0) (eg:g h=some nd) (he:nd.kind=2) (hl:nd.attrs.length≤63) (hn:nm.size≤20000) (hv:v.size≤20000) (hT:Lit w) (hb:Nm.attr nm=true) (hcase:¬ oZ nd.attrs nm<nd.attrs.length):
  Calls Tryz.prog 37 #[.pointer (some ⟨B,0,none⟩),.int .i64 h,.string nm,.string v] w fun e w'=>∃ r sl,e=.returned (.tuple #[r,.int .i64 0])∧bL w.heap.size w' r [jL h nm (lD nd.attrs nm) (vw nd.attrs nm)]∧
   TV base w' B b s vs n (Tr.raw (Tr.cK g h fun n=>{ n with attrs:=gF n.attrs nm (aZ v) }) (Tr.fq av h sl)) vf fr live root∧Sound b s n (Tr.raw (Tr.cK g h fun n=>{ n with attrs:=gF n.attrs nm (aZ v) }) (Tr.fq av h sl)) fr live∧
   AT w' (Tr.cK g h fun n=>{ n with attrs:=gF n.attrs nm (aZ v) }) (Tr.fq av h sl)∧aB w w' (aD B vs vf) (aD B vs vf):=by
 obtain⟨i0,hi0,hz0,hz1,hz2⟩:=info_parts rO;have hE:=iV base B b s root h live n g av fr vs vf w hm hS ((bH hS (h:=h) (by rw[aK,eg];rfl)).1) hk;have he0:fD g h=0:=by unfold fD;rw[eg];exact if_pos he
 rw[he0] at hE;have HV:=zh (fun (W:World) (hT:Lit W)=>mZ nm W hn hT);rw[hb] at HV;have HM:=zh (fun (W:World) (hb:Below w.heap.size w W)=>hm.below hb);have HA:=zh (fun (W:World) (hb:Below w.heap.size w W)=>gW base B b s root h live n _ fr vs vf _ W (hm.below hb) hS (Tr.aj eg));have HAT:=zh (fun (W:World) (hb:Below w.heap.size w W)=>(ha.below hb));have MB:=zh hm.lt;have gV:=zh hS;have qg:=zh eg;clear he0 hm ha hS he hk
 go_enter Tryz.func37,Tryz.ntmps37
 go_wp2_with fail;refine hE.mono ?_;rintro e w1 ⟨rfl,hb1⟩;have UQ:=HV.out w1 (hT.below hb1);clear hE HV;go_wp2_with fail;refine UQ.mono ?_;rintro e w2 ⟨rfl,hb2⟩;have dV:=hb1.trans (hb2.mono hb1.size);have HA2:=HA.out w2 dV;clear UQ hb1 hb2 HA;go_wp2_with fail;refine HA2.mono ?_;rintro e w3 ⟨gb,o,rfl,hpt,hb3⟩;have dA:=dV.trans (hb3.mono dV.size);obtain⟨_,_,t2,_⟩:=((HM.out w3 dA).np hpt (Tr.aj qg.out)).cells;rw[show (Tr.dW g av h nd).av=av h from rfl] at t2;have hgw:gb<w.heap.size:=(MB.out gb hpt.foot).2;have yY:=zh hpt;have hat:=HAT.out w3 dA h nd qg.out;have HC:=zh (qF _ nd.attrs w3 hat (by omega));clear HA2 dV hb3 hpt hat;go_wp2_with fail;refine HC.out.mono ?_;rintro e w4 ⟨v4,rfl,hr4,hb4⟩;have bU:=dA.trans (hb4.mono dA.size);obtain⟨w5,fE⟩:=eX (w4.alloc (.cells #[.int .i64 0,.int .i64 0,.int .i64 0,.int .i64 0,.int .i64 0,.int .i64 0,.string ⟨#[]⟩,.string ⟨#[]⟩,.bool false,.int .i64 0,.int .i64 0] 144))
 have eZ:Below w4.heap.size w4 w5:=fI fE;have hz5:w5.heap.size=w4.heap.size+1:=by rw[←fE];simp
 have dM:Whole w5 w4.heap.size #[.int .i64 0,.int .i64 0,.int .i64 0,.int .i64 0,.int .i64 0,.int .i64 0,.string ⟨#[]⟩,.string ⟨#[]⟩,.bool false,.int .i64 0,.int .i64 0] 144:=by rw[←fE];exact Whole.new w4 _ _
 have xq:=hr4.below eZ;have dX:=bU.trans (eZ.mono bU.size);have y0:w5.cell? ⟨w4.heap.size,0,none⟩=some (.int .i64 0):=dM.cell 0;have yZ:=dM.free 0;have y1:w5.cell? ⟨w4.heap.size,1,none⟩=some (.int .i64 0):=dM.cell 1;have za:=dM.free 1;have y2:w5.cell? ⟨w4.heap.size,2,none⟩=some (.int .i64 0):=dM.cell 2;have CZ:=dM.free 2;have y3:w5.cell? ⟨w4.heap.size,3,none⟩=some (.int .i64 0):=dM.cell 3;have C8:=dM.free 3;have y4:w5.cell? ⟨w4.heap.size,4,none⟩=some (.int .i64 0):=dM.cell 4;have C9:=dM.free 4;have y5:w5.cell? ⟨w4.heap.size,5,none⟩=some (.int .i64 0):=dM.cell 5;have Da:=dM.free 5;have y6:w5.cell? ⟨w4.heap.size,6,none⟩=some (.string ⟨#[]⟩):=dM.cell 6;have Db:=dM.free 6;have y7:w5.cell? ⟨w4.heap.size,7,none⟩=some (.string ⟨#[]⟩):=dM.cell 7;have Dc:=dM.free 7;have y8:w5.cell? ⟨w4.heap.size,8,none⟩=some (.bool false):=dM.cell 8;have Df:=dM.free 8;have y9:w5.cell? ⟨w4.heap.size,9,none⟩=some (.int .i64 0):=dM.cell 9;have FN:=dM.free 9;have wT:w5.cell? ⟨w4.heap.size,10,none⟩=some (.int .i64 0):=dM.cell 10;have qZ:=dM.free 10;obtain⟨w6,kZ,gL,g6⟩:=kJ dM (.int .i64 3) (.int .i64 h) (.int .i64 0) (.int .i64 0) (.int .i64 0) (.int .i64 0) (.string nm) (.string ⟨#[]⟩) (.bool false) (.int .i64 0) (.int .i64 0);have hs4:w.heap.size≤w4.heap.size:=bU.size;have iF:Below w.heap.size w w6:=dX.grown g6 dX.size (fun j hj=>by simp at hj;omega);have hs6:=g6.size;have xk:AR w6 w3.heap.size v4 nd.attrs:=xq.kept g6 (.inr (xq.unlike dM (by decide)));have wU:=zh gL;have PI:=zh iF;have Wm:=zh xk;have Ev:=zh (show w4.heap.size<w6.heap.size by omega);have aaU:w.heap.size≤w3.heap.size:=dA.size;have Ya:w3.heap.size≤w4.heap.size:=hb4.size;have HI:=zh (nY v4 nd.attrs nm w6 xk.zero (by omega));obtain⟨A4,c4,rfl⟩:=hr4.form;clear HC hr4 xq xk dM gL eZ bU dX iF hb4 dA g6;go_wp2_with fail;(try rw[kZ]);go_wp2_with fail;refine HI.out.mono ?_;rintro e w7 ⟨rfl,lq⟩;have qN:=PI.out.trans (lq.mono PI.out.size);have aL:=wU.out.below lq wU.out.lt;have XL:=Wm.out.below lq;have hs7:w4.heap.size<w7.heap.size:=Nat.lt_of_lt_of_le Ev.out lq.size;clear HI;have hgt:¬ oZ nd.attrs nm<nd.attrs.length:=hcase;have hai:yO nd.attrs nm = -1:=by unfold yO;rw[if_neg hgt]
 have hset:gF nd.attrs nm (aZ v)=nd.attrs++[(nm,aZ v)]:=by unfold gF;rw[List.getElem?_eq_none (by omega)]
 have hold:lD nd.attrs nm=⟨#[]⟩:=by unfold lD;rw[List.getElem?_eq_none (by omega)]
 have AO:vw nd.attrs nm=false:=decide_eq_false hgt;have pW:=zh (And.intro hset (And.intro hold AO));rw[hai];clear hgt hcase hai hset hold AO;obtain⟨w8,hw8⟩:=eX (w7.alloc (.cells #[.string nm,.string ⟨#[]⟩] 95))
 have PK:Below w7.heap.size w7 w8:=fI hw8;have vF:=qN.trans (PK.mono qN.size);have M0:=XL.below PK;have xu:=aL.below PK aL.lt;have hsrc:((.slice (some ⟨w7.heap.size,0,none⟩) 1 1:Value)=.slice none 0 0∧1=0)∨∃ a c,(.slice (some ⟨w7.heap.size,0,none⟩) 1 1:Value)=.slice (some a) 1 c∧∀ j u,(fP [(nm,(⟨#[]⟩:ByteArray))])[j]?=some u→w8.cell? (a.add j)=some u:=by
  rw[←hw8];exact nM w7 95 (fP [(nm,(⟨#[]⟩:ByteArray))])
 have hs8:w3.heap.size≤w8.heap.size:=by have:=PK.size;omega
 have pq:=zh xu;have Zh:=zh vF;have XK:=zh M0;obtain⟨len,hlen⟩:=eX (nd.attrs.length)
 have HLEN:=zh hlen;rw[hlen] at hl M0;clear XL aL qN lq PK vF xu hlen;rw[HLEN.out]
 go_wp2_with (at_builtin;refine bA rfl _ _ 80 rfl w3.heap.size 95 i0 (.agg #[.string ⟨#[]⟩,.string ⟨#[]⟩]) 2 32 Tryz.underlying80 hi0 hz0 hz1 hz2 rfl (by decide) _ len (fP nd.attrs) rfl M0 _ 1 (fP [(nm,(⟨#[]⟩:ByteArray))]) rfl rfl hsrc (jl _) ?c3 ?c4 hs8 ?_)
 case c3=>unfold maxLen;omega
 case c4=>omega
 intro v9 w9 o9 g9 f9;rw[←jT] at o9;have hne:(Value.slice A4 len c4).ownBlock≠some w4.heap.size:=M0.unlike pq.out (by decide);have gN:=pq.out.grown g9 (fun e=>hne e.symm);have JQ:Below w.heap.size w w9:=Zh.out.grown g9 Zh.out.size (fun j hj=>by have:=(M0.lt j hj).1;omega);have XM:w4.heap.size<w9.heap.size:=by have:=pq.out.lt;have:=g9.size;omega
 have PD:TR w9 w3.heap.size 95 2 v9 (len+1) (fP (nd.attrs++[(nm,(⟨#[]⟩:ByteArray))])):=o9;obtain⟨A9,c9,rfl⟩:=PD.form;obtain⟨ga,oa,rfl,hga,_⟩:=PD.cells (by omega);have hgx:ga≠w4.heap.size:=fun e=>PD.unlike gN (by decide) (by rw[e];rfl);have yS:=zh gN;have PL:=zh JQ;have HR:=zh (gY v w9 hv (hT.below JQ));have HO9:=zh PD;clear gN JQ o9 PD g9 f9 M0 hsrc;have q1:(len:Int)<(len:Int)+1:=by omega
 have q1b:(len:Int)<((len+1:Nat):Int):=by omega
 have q0:(0:Int)≤(len:Int):=by omega
 go_wp2_with fail;refine HR.out.mono ?_;rintro e jJ ⟨rfl,AP⟩;have AQ:=PL.out.trans (AP.mono PL.out.size);have Sj:=HO9.out.below AP;have oL:=yS.out.below AP yS.out.lt;have aaV:w4.heap.size<jJ.heap.size:=Nat.lt_of_lt_of_le XM AP.size;obtain⟨rv,mW⟩:=eX (fB (bB.rep v.data.toList))
 have hrs:rv.size≤60000:=by
  rw[←mW];have:=bB.mV v.data.toList;have e1:v.data.toList.length=v.size:=rfl;have e2:(fB (bB.rep v.data.toList)).size=(bB.rep v.data.toList).length:=ko _;omega
 obtain⟨JR,g11⟩:=Sj.stored (len*2+1) (.string rv);have hgt2:(nd.attrs++[(nm,(⟨#[]⟩:ByteArray))])[len]?=some (nm,⟨#[]⟩):=by rw[←HLEN.out];simp
 rw[zo _ _ _ hgt2] at JR;have hse:(nd.attrs++[(nm,(⟨#[]⟩:ByteArray))]).set len ((nm,(⟨#[]⟩:ByteArray)).1,rv)=gF nd.attrs nm (aZ v):=by
  rw[pW.out.1,show aZ v=rv from mW,←HLEN.out];simp
 rw[hse] at JR;have hl2:(gF nd.attrs nm (aZ v)).length=len+1:=by rw[pW.out.1,←HLEN.out];simp
 rw[←Nat.add_assoc] at JR g11;have c10:jJ.cell? ⟨ga,oa+len*2+1,none⟩=some (.string ⟨#[]⟩):=by
  have:=Sj.cellAt (len*2+1) (.string ⟨#[]⟩) (by omega) (ji _ _ _ hgt2).2;rw[←Nat.add_assoc] at this;exact this
 have f10:=Sj.frozen (oa+len*2+1);obtain⟨mq,M5⟩:=eX (jJ.setCell ⟨ga,oa+len*2+1,none⟩ (.string rv))
 rw[M5] at JR g11;have c11:mq.cell? ⟨ga,oa+len*2+1,none⟩=some (.string rv):=by
  have hp:(gF nd.attrs nm (aZ v))[len]?=some (nm,rv):=by rw[pW.out.1,show aZ v=rv from mW,←HLEN.out];simp
  have:=JR.cellAt (len*2+1) (.string rv) (by omega) (ji _ _ _ hp).2;rw[←Nat.add_assoc] at this;exact this
 have PN:=oL.grown g11 (fun e=>hgx (by injection e with e;exact e.symm));have pX:Below w.heap.size w mq:=AQ.grown g11 AQ.size (fun j hj=>by injection hj with hj;omega);obtain⟨t20,t21⟩:=(HM.out mq pX).np yY.out (Tr.aj qg.out) 2 (by omega);have t22:mq.cell? ⟨gb,o+2,none⟩=some (.slice (av h).a (av h).n (av h).c):=t20;have hput:=(HM.out mq pX).nC gV.out (HAT.out mq pX) yY.out qg.out (fun n=>gF n.attrs nm (aZ v)) ⟨some ⟨ga,oa,none⟩,len+1,c9⟩ (by
  show TR mq 0 _ 2 _ (gF nd.attrs nm (aZ v)).length _
  rw[hl2];exact JR.zero)
 obtain⟨uU,JU⟩:=eX (mq.setCell ⟨gb,o+2,none⟩ (.slice (some ⟨ga,oa,none⟩) (len+1) c9))
 rw[show (Tr.Sl.v ⟨some ⟨ga,oa,none⟩,len+1,c9⟩)=.slice (some ⟨ga,oa,none⟩) (len+1) c9 from rfl,JU] at hput;have g12:mq.grownBy uU (some gb):=by rw[←JU];exact aJ (ay (Below.refl mq.heap.size mq) _) _ _
 have fO:=PN.grown g12 (fun e=>by injection e with e;omega);have qh:=(Below.refl _ uU).alloc (Nat.le_refl _) (.cells #[.int .i64 3,.int .i64 h,.int .i64 0,.int .i64 0,.int .i64 0,.int .i64 0,.string nm,.string ⟨#[]⟩,.bool false,.int .i64 0,.int .i64 0] 144);have bC:=zh (And.intro (mU uU (jL h nm ⟨#[]⟩ false) w.heap.size (Nat.le_trans pX.size g12.size)) (And.intro (hput.1.below qh) (And.intro hput.2.1 (And.intro (hput.2.2.1.below qh) (((aB.of_below pX).trans hput.2.2.2).trans (.of_below qh))))));have s0:uU.cell? ⟨w4.heap.size,0,none⟩=some (.int .i64 3):=fO.cell 0;have Yd:=fO.free 0;have s1:uU.cell? ⟨w4.heap.size,1,none⟩=some (.int .i64 h):=fO.cell 1;have Ye:=fO.free 1;have s2:uU.cell? ⟨w4.heap.size,2,none⟩=some (.int .i64 0):=fO.cell 2;have Yf:=fO.free 2;have s3:uU.cell? ⟨w4.heap.size,3,none⟩=some (.int .i64 0):=fO.cell 3;have Yg:=fO.free 3;have s4:uU.cell? ⟨w4.heap.size,4,none⟩=some (.int .i64 0):=fO.cell 4;have Yh:=fO.free 4;have s5:uU.cell? ⟨w4.heap.size,5,none⟩=some (.int .i64 0):=fO.cell 5;have Yi:=fO.free 5;have s6:uU.cell? ⟨w4.heap.size,6,none⟩=some (.string nm):=fO.cell 6;have Yj:=fO.free 6;have s7:uU.cell? ⟨w4.heap.size,7,none⟩=some (.string ⟨#[]⟩):=fO.cell 7;have Yk:=fO.free 7;have s8:uU.cell? ⟨w4.heap.size,8,none⟩=some (.bool false):=fO.cell 8;have Yl:=fO.free 8;have s9:uU.cell? ⟨w4.heap.size,9,none⟩=some (.int .i64 0):=fO.cell 9;have Ym:=fO.free 9;have s10:uU.cell? ⟨w4.heap.size,10,none⟩=some (.int .i64 0):=fO.cell 10;have OQ:=fO.free 10;have Lf:=zh mW;have q2:¬ (64:Int)<(len:Int)+1:=by omega
 have q2b:¬ (64:Int)<((len+1:Nat):Int):=by omega
 have q3:¬ (1048576:Int)<(rv.size:Int):=by omega
 rw[mW];clear oL PN fO Sj JR g11 g12 hput AQ pX AP qh hse hl2 hgt2 t20 mW hrs;go_wp2_with fail;(try rw[M5]);go_wp2_with fail;(try rw[JU]);go_wp2_with fail;go_ret2;obtain⟨z1,z2,z3,z4,z5⟩:=bC.out;refine⟨_,⟨some ⟨ga,oa,none⟩,len+1,c9⟩,rfl,?_,z2,z3,z4,z5⟩;rw[pW.out.2.1,pW.out.2.2];exact z1
theorem Jl (base B:Nat) (b s root h:Int) (live n:Nat) (g:Tr.G) (av:Int→Tr.Sl) (fr:List Nat) (vs vf:Value) (nd:Tr.GN) (nm v:ByteArray) (w:World) (hm:TV base w B b s vs n (Tr.raw g av) vf fr live root) (hS:Sound b s n (Tr.raw g av) fr live) (ha:AT w g av) (hk:∀ x m,g x=some m→m.kind≠0) (eg:g h=some nd) (he:nd.kind=2) (hl:nd.attrs.length≤63) (hn:nm.size≤20000) (hv:v.size≤20000) (hT:Lit w) (hb:Nm.attr nm=true) (hcase:oZ nd.attrs nm<nd.attrs.length):
  Calls Tryz.prog 37 #[.pointer (some ⟨B,0,none⟩),.int .i64 h,.string nm,.string v] w fun e w'=>∃ r sl,e=.returned (.tuple #[r,.int .i64 0])∧bL w.heap.size w' r [jL h nm (lD nd.attrs nm) (vw nd.attrs nm)]∧
   TV base w' B b s vs n (Tr.raw (Tr.cK g h fun n=>{ n with attrs:=gF n.attrs nm (aZ v) }) (Tr.fq av h sl)) vf fr live root∧Sound b s n (Tr.raw (Tr.cK g h fun n=>{ n with attrs:=gF n.attrs nm (aZ v) }) (Tr.fq av h sl)) fr live∧
   AT w' (Tr.cK g h fun n=>{ n with attrs:=gF n.attrs nm (aZ v) }) (Tr.fq av h sl)∧aB w w' (aD B vs vf) (aD B vs vf):=by
 obtain⟨i0,hi0,hz0,hz1,hz2⟩:=info_parts rO;have hE:=iV base B b s root h live n g av fr vs vf w hm hS ((bH hS (h:=h) (by rw[aK,eg];rfl)).1) hk;have he0:fD g h=0:=by unfold fD;rw[eg];exact if_pos he
 rw[he0] at hE;have HV:=zh (fun (W:World) (hT:Lit W)=>mZ nm W hn hT);rw[hb] at HV;have HM:=zh (fun (W:World) (hb:Below w.heap.size w W)=>hm.below hb);have HA:=zh (fun (W:World) (hb:Below w.heap.size w W)=>gW base B b s root h live n _ fr vs vf _ W (hm.below hb) hS (Tr.aj eg));have HAT:=zh (fun (W:World) (hb:Below w.heap.size w W)=>(ha.below hb));have MB:=zh hm.lt;have gV:=zh hS;have qg:=zh eg;clear he0 hm ha hS he hk
 go_enter Tryz.func37,Tryz.ntmps37
 go_wp2_with fail;refine hE.mono ?_;rintro e w1 ⟨rfl,hb1⟩;have UQ:=HV.out w1 (hT.below hb1);clear hE HV;go_wp2_with fail;refine UQ.mono ?_;rintro e w2 ⟨rfl,hb2⟩;have dV:=hb1.trans (hb2.mono hb1.size);have HA2:=HA.out w2 dV;clear UQ hb1 hb2 HA;go_wp2_with fail;refine HA2.mono ?_;rintro e w3 ⟨gb,o,rfl,hpt,hb3⟩;have dA:=dV.trans (hb3.mono dV.size);obtain⟨_,_,t2,_⟩:=((HM.out w3 dA).np hpt (Tr.aj qg.out)).cells;rw[show (Tr.dW g av h nd).av=av h from rfl] at t2;have hgw:gb<w.heap.size:=(MB.out gb hpt.foot).2;have yY:=zh hpt;have hat:=HAT.out w3 dA h nd qg.out;have HC:=zh (qF _ nd.attrs w3 hat (by omega));clear HA2 dV hb3 hpt hat;go_wp2_with fail;refine HC.out.mono ?_;rintro e w4 ⟨v4,rfl,hr4,hb4⟩;have bU:=dA.trans (hb4.mono dA.size);obtain⟨w5,fE⟩:=eX (w4.alloc (.cells #[.int .i64 0,.int .i64 0,.int .i64 0,.int .i64 0,.int .i64 0,.int .i64 0,.string ⟨#[]⟩,.string ⟨#[]⟩,.bool false,.int .i64 0,.int .i64 0] 144))
 have eZ:Below w4.heap.size w4 w5:=fI fE;have hz5:w5.heap.size=w4.heap.size+1:=by rw[←fE];simp
 have dM:Whole w5 w4.heap.size #[.int .i64 0,.int .i64 0,.int .i64 0,.int .i64 0,.int .i64 0,.int .i64 0,.string ⟨#[]⟩,.string ⟨#[]⟩,.bool false,.int .i64 0,.int .i64 0] 144:=by rw[←fE];exact Whole.new w4 _ _
 have xq:=hr4.below eZ;have dX:=bU.trans (eZ.mono bU.size);have y0:w5.cell? ⟨w4.heap.size,0,none⟩=some (.int .i64 0):=dM.cell 0;have yZ:=dM.free 0;have y1:w5.cell? ⟨w4.heap.size,1,none⟩=some (.int .i64 0):=dM.cell 1;have za:=dM.free 1;have y2:w5.cell? ⟨w4.heap.size,2,none⟩=some (.int .i64 0):=dM.cell 2;have CZ:=dM.free 2;have y3:w5.cell? ⟨w4.heap.size,3,none⟩=some (.int .i64 0):=dM.cell 3;have C8:=dM.free 3;have y4:w5.cell? ⟨w4.heap.size,4,none⟩=some (.int .i64 0):=dM.cell 4;have C9:=dM.free 4;have y5:w5.cell? ⟨w4.heap.size,5,none⟩=some (.int .i64 0):=dM.cell 5;have Da:=dM.free 5;have y6:w5.cell? ⟨w4.heap.size,6,none⟩=some (.string ⟨#[]⟩):=dM.cell 6;have Db:=dM.free 6;have y7:w5.cell? ⟨w4.heap.size,7,none⟩=some (.string ⟨#[]⟩):=dM.cell 7;have Dc:=dM.free 7;have y8:w5.cell? ⟨w4.heap.size,8,none⟩=some (.bool false):=dM.cell 8;have Df:=dM.free 8;have y9:w5.cell? ⟨w4.heap.size,9,none⟩=some (.int .i64 0):=dM.cell 9;have FN:=dM.free 9;have wT:w5.cell? ⟨w4.heap.size,10,none⟩=some (.int .i64 0):=dM.cell 10;have qZ:=dM.free 10;obtain⟨w6,kZ,gL,g6⟩:=kJ dM (.int .i64 3) (.int .i64 h) (.int .i64 0) (.int .i64 0) (.int .i64 0) (.int .i64 0) (.string nm) (.string ⟨#[]⟩) (.bool false) (.int .i64 0) (.int .i64 0);have hs4:w.heap.size≤w4.heap.size:=bU.size;have iF:Below w.heap.size w w6:=dX.grown g6 dX.size (fun j hj=>by simp at hj;omega);have hs6:=g6.size;have xk:AR w6 w3.heap.size v4 nd.attrs:=xq.kept g6 (.inr (xq.unlike dM (by decide)));have wU:=zh gL;have PI:=zh iF;have Wm:=zh xk;have Ev:=zh (show w4.heap.size<w6.heap.size by omega);have aaU:w.heap.size≤w3.heap.size:=dA.size;have Ya:w3.heap.size≤w4.heap.size:=hb4.size;have HI:=zh (nY v4 nd.attrs nm w6 xk.zero (by omega));obtain⟨A4,c4,rfl⟩:=hr4.form;clear HC hr4 xq xk dM gL eZ bU dX iF hb4 dA g6;go_wp2_with fail;(try rw[kZ]);go_wp2_with fail;refine HI.out.mono ?_;rintro e w7 ⟨rfl,lq⟩;have qN:=PI.out.trans (lq.mono PI.out.size);have aL:=wU.out.below lq wU.out.lt;have XL:=Wm.out.below lq;have hs7:w4.heap.size<w7.heap.size:=Nat.lt_of_lt_of_le Ev.out lq.size;clear HI;have hlt:oZ nd.attrs nm<nd.attrs.length:=hcase;obtain⟨k,hkk⟩:=eX (oZ nd.attrs nm)
 obtain⟨p,hp⟩:∃ p,nd.attrs[k]?=some p:=⟨nd.attrs[k]'(by omega),by simp⟩
 have hai:yO nd.attrs nm=(k:Int):=by unfold yO;rw[if_pos hlt,hkk]
 have hset:gF nd.attrs nm (aZ v)=nd.attrs.set k (p.1,aZ v):=by unfold gF;rw[hkk,hp]
 have hold:lD nd.attrs nm=p.2:=by unfold lD;rw[hkk,hp]
 have AO:vw nd.attrs nm=true:=decide_eq_true hlt;have pW:=zh (And.intro hset (And.intro hold (And.intro AO hp)));have hkl:k<nd.attrs.length:=by omega
 rw[hai];clear hlt hcase hai hset hold AO hkk;obtain⟨len,hlen⟩:=eX (nd.attrs.length)
 have HLEN:=zh hlen;obtain⟨ga,oa,rfl,_,c71,c72⟩:=AR.at XL hp;have Sk:TR w7 w3.heap.size 95 2 (.slice (some ⟨ga,oa,none⟩) len c4) len (fP nd.attrs):=by rw[←hlen];exact XL
 have hgx:ga≠w4.heap.size:=fun e=>Sk.unlike aL (by decide) (by rw[e];rfl);have hga:w3.heap.size≤ga:=(Sk.lt ga rfl).1;rw[hlen] at hl hkl;rw[HLEN.out];have x0:w7.cell? ⟨w4.heap.size,0,none⟩=some (.int .i64 3):=aL.cell 0;have xf0:=aL.free 0;have x1:w7.cell? ⟨w4.heap.size,1,none⟩=some (.int .i64 h):=aL.cell 1;have xf1:=aL.free 1;have x2:w7.cell? ⟨w4.heap.size,2,none⟩=some (.int .i64 0):=aL.cell 2;have xf2:=aL.free 2;have x3:w7.cell? ⟨w4.heap.size,3,none⟩=some (.int .i64 0):=aL.cell 3;have xf3:=aL.free 3;have x4:w7.cell? ⟨w4.heap.size,4,none⟩=some (.int .i64 0):=aL.cell 4;have xf4:=aL.free 4;have x5:w7.cell? ⟨w4.heap.size,5,none⟩=some (.int .i64 0):=aL.cell 5;have xf5:=aL.free 5;have x6:w7.cell? ⟨w4.heap.size,6,none⟩=some (.string nm):=aL.cell 6;have xf6:=aL.free 6;have x7:w7.cell? ⟨w4.heap.size,7,none⟩=some (.string ⟨#[]⟩):=aL.cell 7;have xf7:=aL.free 7;have x8:w7.cell? ⟨w4.heap.size,8,none⟩=some (.bool false):=aL.cell 8;have xf8:=aL.free 8;have x9:w7.cell? ⟨w4.heap.size,9,none⟩=some (.int .i64 0):=aL.cell 9;have xf9:=aL.free 9;have x10:w7.cell? ⟨w4.heap.size,10,none⟩=some (.int .i64 0):=aL.cell 10;have xf10:=aL.free 10;obtain⟨w9,wO⟩:=eX (((w7.setCell ⟨w4.heap.size,8,none⟩ (.bool true)).setCell ⟨w4.heap.size,7,none⟩ (.string p.2)).drew)
 have hXa:Whole (w7.setCell ⟨w4.heap.size,8,none⟩ (.bool true)) w4.heap.size #[.int .i64 3,.int .i64 h,.int .i64 0,.int .i64 0,.int .i64 0,.int .i64 0,.string nm,.string ⟨#[]⟩,.bool true,.int .i64 0,.int .i64 0] 144:=aL.put 8 (.bool true);have hXb:Whole ((w7.setCell ⟨w4.heap.size,8,none⟩ (.bool true)).setCell ⟨w4.heap.size,7,none⟩ (.string p.2)).drew w4.heap.size #[.int .i64 3,.int .i64 h,.int .i64 0,.int .i64 0,.int .i64 0,.int .i64 0,.string nm,.string p.2,.bool true,.int .i64 0,.int .i64 0] 144:=hXa.put 7 (.string p.2);have g9:w7.grownBy w9 (some w4.heap.size):=by
  rw[←wO];have g:=aJ (aJ (ay (Below.refl w7.heap.size w7) (some w4.heap.size)) 8 (.bool true)) 7 (.string p.2);exact⟨g.os,g.tape,g.output,g.size,g.block⟩
 rw[wO] at hXb;have JQ:Below w.heap.size w w9:=qN.grown g9 qN.size (fun j hj=>by injection hj with hj;omega);have XM:w4.heap.size<w9.heap.size:=by have:=g9.size;omega
 have PD:TR w9 w3.heap.size 95 2 (.slice (some ⟨ga,oa,none⟩) len c4) len (fP nd.attrs):=Sk.kept g9 (.inr (fun e=>hgx (by injection e)));have gN:=hXb;have yS:=zh gN;have PL:=zh JQ;have HR:=zh (gY v w9 hv (hT.below JQ));have HO9:=zh PD;have q1:(k:Int)<(len:Int):=by omega
 have q0:(0:Int)≤(k:Int):=by omega
 have q4:¬ (k:Int)<0:=by omega
 clear gN hXb hXa JQ PD g9 XL Sk qN lq aL hp hlen;go_wp2_with fail
 go_region
 (try rw[wO]);go_wp2_with fail;refine HR.out.mono ?_;rintro e jJ ⟨rfl,AP⟩;have AQ:=PL.out.trans (AP.mono PL.out.size);have Sj:=HO9.out.below AP;have oL:=yS.out.below AP yS.out.lt;have aaV:w4.heap.size<jJ.heap.size:=Nat.lt_of_lt_of_le XM AP.size;obtain⟨rv,mW⟩:=eX (fB (bB.rep v.data.toList))
 have hrs:rv.size≤60000:=by
  rw[←mW];have:=bB.mV v.data.toList;have e1:v.data.toList.length=v.size:=rfl;have e2:(fB (bB.rep v.data.toList)).size=(bB.rep v.data.toList).length:=ko _;omega
 obtain⟨JR,g11⟩:=Sj.stored (k*2+1) (.string rv);have hgt2:nd.attrs[k]?=some p:=pW.out.2.2.2;rw[zo _ _ _ hgt2] at JR;have hse:nd.attrs.set k (p.1,rv)=gF nd.attrs nm (aZ v):=by rw[pW.out.1,show aZ v=rv from mW]
 rw[hse] at JR;have hl2:(gF nd.attrs nm (aZ v)).length=len:=by rw[pW.out.1,←HLEN.out];simp
 rw[←Nat.add_assoc] at JR g11;have c10:jJ.cell? ⟨ga,oa+k*2+1,none⟩=some (.string p.2):=by
  have:=Sj.cellAt (k*2+1) (.string p.2) (by omega) (ji _ _ _ hgt2).2;rw[←Nat.add_assoc] at this;exact this
 have f10:=Sj.frozen (oa+k*2+1);obtain⟨mq,M5⟩:=eX (jJ.setCell ⟨ga,oa+k*2+1,none⟩ (.string rv))
 rw[M5] at JR g11;have c11:mq.cell? ⟨ga,oa+k*2+1,none⟩=some (.string rv):=by
  have hp:(gF nd.attrs nm (aZ v))[k]?=some (p.1,rv):=by
   have aaW:k<nd.attrs.length:=by rw[HLEN.out];exact hkl
   rw[pW.out.1,show aZ v=rv from mW];simp[aaW]
  have:=JR.cellAt (k*2+1) (.string rv) (by omega) (ji _ _ _ hp).2;rw[←Nat.add_assoc] at this;exact this
 have PN:=oL.grown g11 (fun e=>hgx (by injection e with e;exact e.symm));have pX:Below w.heap.size w mq:=AQ.grown g11 AQ.size (fun j hj=>by injection hj with hj;omega);obtain⟨t20,t21⟩:=(HM.out mq pX).np yY.out (Tr.aj qg.out) 2 (by omega);have t22:mq.cell? ⟨gb,o+2,none⟩=some (.slice (av h).a (av h).n (av h).c):=t20;have hput:=(HM.out mq pX).nC gV.out (HAT.out mq pX) yY.out qg.out (fun n=>gF n.attrs nm (aZ v)) ⟨some ⟨ga,oa,none⟩,len,c4⟩ (by
  show TR mq 0 _ 2 _ (gF nd.attrs nm (aZ v)).length _
  rw[hl2];exact JR.zero)
 obtain⟨uU,JU⟩:=eX (mq.setCell ⟨gb,o+2,none⟩ (.slice (some ⟨ga,oa,none⟩) len c4))
 rw[show (Tr.Sl.v ⟨some ⟨ga,oa,none⟩,len,c4⟩)=.slice (some ⟨ga,oa,none⟩) len c4 from rfl,JU] at hput;have g12:mq.grownBy uU (some gb):=by rw[←JU];exact aJ (ay (Below.refl mq.heap.size mq) _) _ _
 have fO:=PN.grown g12 (fun e=>by injection e with e;omega);have qh:=(Below.refl _ uU).alloc (Nat.le_refl _) (.cells #[.int .i64 3,.int .i64 h,.int .i64 0,.int .i64 0,.int .i64 0,.int .i64 0,.string nm,.string p.2,.bool true,.int .i64 0,.int .i64 0] 144);have bC:=zh (And.intro (mU uU (jL h nm p.2 true) w.heap.size (Nat.le_trans pX.size g12.size)) (And.intro (hput.1.below qh) (And.intro hput.2.1 (And.intro (hput.2.2.1.below qh) (((aB.of_below pX).trans hput.2.2.2).trans (.of_below qh))))));have s0:uU.cell? ⟨w4.heap.size,0,none⟩=some (.int .i64 3):=fO.cell 0;have Yd:=fO.free 0;have s1:uU.cell? ⟨w4.heap.size,1,none⟩=some (.int .i64 h):=fO.cell 1;have Ye:=fO.free 1;have s2:uU.cell? ⟨w4.heap.size,2,none⟩=some (.int .i64 0):=fO.cell 2;have Yf:=fO.free 2;have s3:uU.cell? ⟨w4.heap.size,3,none⟩=some (.int .i64 0):=fO.cell 3;have Yg:=fO.free 3;have s4:uU.cell? ⟨w4.heap.size,4,none⟩=some (.int .i64 0):=fO.cell 4;have Yh:=fO.free 4;have s5:uU.cell? ⟨w4.heap.size,5,none⟩=some (.int .i64 0):=fO.cell 5;have Yi:=fO.free 5;have s6:uU.cell? ⟨w4.heap.size,6,none⟩=some (.string nm):=fO.cell 6;have Yj:=fO.free 6;have s7:uU.cell? ⟨w4.heap.size,7,none⟩=some (.string p.2):=fO.cell 7;have Yk:=fO.free 7;have s8:uU.cell? ⟨w4.heap.size,8,none⟩=some (.bool true):=fO.cell 8;have Yl:=fO.free 8;have s9:uU.cell? ⟨w4.heap.size,9,none⟩=some (.int .i64 0):=fO.cell 9;have Ym:=fO.free 9;have s10:uU.cell? ⟨w4.heap.size,10,none⟩=some (.int .i64 0):=fO.cell 10;have OQ:=fO.free 10;have Lf:=zh mW;have q2:¬ (64:Int)<(len:Int):=by omega
 have q3:¬ (1048576:Int)<(rv.size:Int):=by omega
 rw[mW];clear oL PN fO Sj JR g11 g12 hput AQ pX AP qh hse hl2 hgt2 t20 mW hrs;go_wp2_with fail;(try rw[M5]);go_wp2_with fail;(try rw[JU]);go_wp2_with fail;go_ret2;obtain⟨z1,z2,z3,z4,z5⟩:=bC.out;refine⟨_,⟨some ⟨ga,oa,none⟩,len,c4⟩,rfl,?_,z2,z3,z4,z5⟩;rw[pW.out.2.1,pW.out.2.2.1];exact z1
end
end Go.Proofs.YtmhjlifmcadefaaGreatDoor
