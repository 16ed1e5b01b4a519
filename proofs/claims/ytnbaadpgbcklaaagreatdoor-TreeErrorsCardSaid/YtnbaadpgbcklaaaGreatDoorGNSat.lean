/- Part of a proof about trees: NSat. -/
import Derived.Test.YtnbaadpgbcklaaaGreatDoorS02
set_option linter.unusedVariables false
set_option linter.unusedSimpArgs false
set_option linter.unusedSectionVars false
set_option maxHeartbeats 2000000
set_option maxRecDepth 100000
namespace Go.Proofs.YtnbaadpgbcklaaaGreatDoor
section
open Go.RowKit
def gZ (l:List (ByteArray×ByteArray)) (nm v:ByteArray):List (ByteArray×ByteArray):=match l[oZ l nm]? with
 | some p=>l.set (oZ l nm) (p.1,v)
 | none=>l++[(nm,v)]
def kU (l:List (ByteArray×ByteArray)) (nm:ByteArray):ByteArray:=match l[oZ l nm]? with
 | some p=>p.2
 | none=>⟨#[]⟩
def uT (l:List (ByteArray×ByteArray)) (nm:ByteArray):Bool:=decide (oZ l nm<l.length)
def aX (s:ByteArray):ByteArray:=fJ (bJ.rep s.data.toList)
def jE (h:Int) (nm old:ByteArray) (had:Bool):Tr.Rec:=⟨3,h,0,0,0,0,nm,old,had,0,0⟩
theorem JK {g:Tr.G} {av:Int→Tr.Sl} {h:Int} {sl:Tr.Sl} {u:Tr.GN→Tr.GN} {U:Tr.Nd→Tr.Nd} (hu:∀ n,(u n).pa=n.pa∧(u n).kids=n.kids) (hU:∀ n,g h=some n→Tr.fF (Tr.dD g h u) (Tr.fC av h sl) h (u n)=U (Tr.fF g av h n)):Tr.raw (Tr.dD g h u) (Tr.fC av h sl)=Tr.upd (Tr.raw g av) h U:=by
 have hk:∀ p,Tr.aj (Tr.dD g h u) p=Tr.aj g p:=fun p=>by
  unfold Tr.aj Tr.dD;by_cases e:p=h
  ·subst e;rw[if_pos rfl];cases g p with | none=>rfl | some m=>exact (hu m).2
  ·rw[if_neg e]
 funext x;unfold Tr.upd;by_cases hx:x=h
 ·subst hx;rw[if_pos rfl];cases e:g x with
  | none=>rw[Tr.aV e,Tr.aV];rfl;unfold Tr.dD;rw[if_pos rfl,e];rfl
  | some m=>
   have e2:Tr.dD g x u x=some (u m):=by unfold Tr.dD;rw[if_pos rfl,e];rfl
   rw[Tr.ah e,Tr.ah e2,hU m e];rfl
 ·rw[if_neg hx];cases e:g x with
  | none=>rw[Tr.aV e,Tr.aV];unfold Tr.dD;rw[if_neg hx,e]
  | some m=>
   have e2:Tr.dD g h u x=some m:=by unfold Tr.dD;rw[if_neg hx,e]
   rw[Tr.ah e,Tr.ah e2];unfold Tr.fF;rw[hk,Tr.uU hx]
theorem Ii {g:Tr.G} {av:Int→Tr.Sl} {h:Int} {sl:Tr.Sl} {f:Tr.GN→List (ByteArray×ByteArray)} (n:Tr.GN) (e:g h=some n):Tr.fF (Tr.dD g h fun n=>{ n with attrs:=f n }) (Tr.fC av h sl) h { n with attrs:=f n }={ Tr.fF g av h n with av:=sl }:=by
 unfold Tr.fF;dsimp only;rw[Tr.kW];have hk:∀ p,Tr.aj (Tr.dD g h fun n=>{ n with attrs:=f n }) p=Tr.aj g p:=fun p=>by
  unfold Tr.aj Tr.dD;by_cases e:p=h
  ·subst e;rw[if_pos rfl];cases g p with | none=>rfl | some m=>rfl
  ·rw[if_neg e]
 rw[hk]
theorem TV.nk {base B n live gb o:Nat} {w:World} {b s root h:Int} {vs vf:Value} {g:Tr.G} {av:Int→Tr.Sl} {fr:List Nat} {nd:Tr.GN} (hM:TV base w B b s vs n (Tr.raw g av) vf fr live root) (hS:Sound b s n (Tr.raw g av) fr live) (ha:AT w g av) (hp:PtrTo b s vs n gb o h) (eg:g h=some nd) (f:Tr.GN→List (ByteArray×ByteArray)) (sl:Tr.Sl) (hr:AR w 0 sl.v (f nd)):
  TV base (w.setCell ⟨gb,o+2,none⟩ sl.v) B b s vs n (Tr.raw (Tr.dD g h fun n=>{ n with attrs:=f n }) (Tr.fC av h sl)) vf fr live root∧Sound b s n (Tr.raw (Tr.dD g h fun n=>{ n with attrs:=f n }) (Tr.fC av h sl)) fr live∧
   AT (w.setCell ⟨gb,o+2,none⟩ sl.v) (Tr.dD g h fun n=>{ n with attrs:=f n }) (Tr.fC av h sl)∧ay w (w.setCell ⟨gb,o+2,none⟩ sl.v) (aD B vs vf) (aD B vs vf):=by
 have e:Tr.raw (Tr.dD g h fun n=>{ n with attrs:=f n }) (Tr.fC av h sl)=Tr.upd (Tr.raw g av) h fun d=>{ d with av:=sl }:=JK (fun _=>⟨rfl,rfl⟩) (fun n en=>Ii n en);obtain⟨k1,k2⟩:=hM.mE (j:=2) (v:=sl.v) hp (Tr.ah eg) (fun d=>{ d with av:=sl }) rfl (by omega) rfl;rw[e];refine⟨k1,hS.upd,?_,k2⟩;have hA:=AT.put (h:=h) (sl:=sl) (u:=fun n=>{ n with attrs:=f n }) ha (fun m em=>by rw[eg] at em;obtain rfl:=Option.some.inj em;exact hr);exact hA.step hM k2
theorem uE (base B:Nat) (b s root h:Int) (live n:Nat) (g:Tr.G) (av:Int→Tr.Sl) (fr:List Nat) (vs vf:Value) (nm v:ByteArray) (w:World) (hm:TV base w B b s vs n (Tr.raw g av) vf fr live root) (hS:Sound b s n (Tr.raw g av) fr live) (hh:lU h) (hk:∀ x m,g x=some m→m.kind≠0) (he:eX g h≠0):
  Calls Tryz.prog 21 #[.pointer (some ⟨B,0,none⟩),.int .i64 h,.string nm,.string v] w fun e w'=>e=.returned (nG (eX g h))∧Below w.heap.size w w':=by
 have hE:=iO base B b s root h live n g av fr vs vf w hm hS hh hk;obtain⟨z,hz⟩:∃ z,eX g h=z:=⟨_,rfl⟩
 rw[hz] at hE he ⊢;have q:=bne_true he;clear hm hz
 go_enter Tryz.func21,Tryz.ntmps21
 go_wp2_with fail;refine hE.mono ?_;rintro e w1 ⟨rfl,hb⟩;clear hE;go_wp2_with fail;go_ret2;exact⟨rfl,hb⟩
theorem G5 (base B:Nat) (b s root h:Int) (live n:Nat) (g:Tr.G) (av:Int→Tr.Sl) (fr:List Nat) (vs vf:Value) (nm v:ByteArray) (w:World) (hm:TV base w B b s vs n (Tr.raw g av) vf fr live root) (hS:Sound b s n (Tr.raw g av) fr live) (hh:lU h) (hk:∀ x m,g x=some m→m.kind≠0) (he:eX g h=0) (hn:nm.size≤20000) (hT:Lit w) (hb:Nm.attr nm=false):
  Calls Tryz.prog 21 #[.pointer (some ⟨B,0,none⟩),.int .i64 h,.string nm,.string v] w fun e w'=>e=.returned (nG 1)∧Below w.heap.size w w':=by
 have hE:=iO base B b s root h live n g av fr vs vf w hm hS hh hk;rw[he] at hE;have HV:=zh (fun (W:World) (hT:Lit W)=>mV nm W hn hT);rw[hb] at HV;clear hm he
 go_enter Tryz.func21,Tryz.ntmps21
 go_wp2_with fail;refine hE.mono ?_;rintro e w1 ⟨rfl,hb1⟩;have Rl:=HV.out w1 (hT.below hb1);clear hE HV;go_wp2_with fail;refine Rl.mono ?_;rintro e w2 ⟨rfl,hb2⟩;have eU:=hb1.trans (hb2.mono hb1.size);clear Rl hb1 hb2;go_wp2_with fail;go_ret2;exact⟨rfl,eU⟩
theorem G9 (base B:Nat) (b s root h:Int) (live n:Nat) (g:Tr.G) (av:Int→Tr.Sl) (fr:List Nat) (vs vf:Value) (nd:Tr.GN) (nm v:ByteArray) (w:World) (hm:TV base w B b s vs n (Tr.raw g av) vf fr live root) (hS:Sound b s n (Tr.raw g av) fr live) (ha:AT w g av) (hk:∀ x m,g x=some m→m.kind≠0) (eg:g h=some nd) (he:nd.kind=2) (hl:nd.attrs.length≤63) (hn:nm.size≤20000) (hv:v.size≤20000) (hT:Lit w) (hb:Nm.attr nm=true) (hcase:¬ oZ nd.attrs nm<nd.attrs.length):
  Calls Tryz.prog 21 #[.pointer (some ⟨B,0,none⟩),.int .i64 h,.string nm,.string v] w fun e w'=>∃ r sl,e=.returned (.tuple #[r,.int .i64 0])∧bO w.heap.size w' r [jE h nm (kU nd.attrs nm) (uT nd.attrs nm)]∧
   TV base w' B b s vs n (Tr.raw (Tr.dD g h fun n=>{ n with attrs:=gZ n.attrs nm (aX v) }) (Tr.fC av h sl)) vf fr live root∧Sound b s n (Tr.raw (Tr.dD g h fun n=>{ n with attrs:=gZ n.attrs nm (aX v) }) (Tr.fC av h sl)) fr live∧
   AT w' (Tr.dD g h fun n=>{ n with attrs:=gZ n.attrs nm (aX v) }) (Tr.fC av h sl)∧ay w w' (aD B vs vf) (aD B vs vf):=by
 obtain⟨i0,hi0,hz0,hz1,hz2⟩:=info_parts su;have hE:=iO base B b s root h live n g av fr vs vf w hm hS ((bR hS (h:=h) (by rw[aS,eg];rfl)).1) hk;have he0:eX g h=0:=by unfold eX;rw[eg];exact if_pos he
 rw[he0] at hE;have HV:=zh (fun (W:World) (hT:Lit W)=>mV nm W hn hT);rw[hb] at HV;have HM:=zh (fun (W:World) (hb:Below w.heap.size w W)=>hm.below hb);have HA:=zh (fun (W:World) (hb:Below w.heap.size w W)=>ig base B b s root h live n _ fr vs vf _ W (hm.below hb) hS (Tr.ah eg));have HAT:=zh (fun (W:World) (hb:Below w.heap.size w W)=>(ha.below hb));have Kh:=zh hm.lt;have gW:=zh hS;have qb:=zh eg;clear he0 hm ha hS he hk
 go_enter Tryz.func21,Tryz.ntmps21
 go_wp2_with fail;refine hE.mono ?_;rintro e w1 ⟨rfl,hb1⟩;have Rl:=HV.out w1 (hT.below hb1);clear hE HV;go_wp2_with fail;refine Rl.mono ?_;rintro e w2 ⟨rfl,hb2⟩;have fu:=hb1.trans (hb2.mono hb1.size);have HA2:=HA.out w2 fu;clear Rl hb1 hb2 HA;go_wp2_with fail;refine HA2.mono ?_;rintro e w3 ⟨gb,o,rfl,hpt,hb3⟩;have dB:=fu.trans (hb3.mono fu.size);obtain⟨_,_,t2,_⟩:=((HM.out w3 dB).np hpt (Tr.ah qb.out)).cells;rw[show (Tr.fF g av h nd).av=av h from rfl] at t2;have hgw:gb<w.heap.size:=(Kh.out gb hpt.foot).2;have yx:=zh hpt;have hat:=HAT.out w3 dB h nd qb.out;have HC:=zh (qK _ nd.attrs w3 hat (by omega));clear HA2 fu hb3 hpt hat;go_wp2_with fail;refine HC.out.mono ?_;rintro e w4 ⟨v4,rfl,hr4,hb4⟩;have bY:=dB.trans (hb4.mono dB.size);obtain⟨w5,eH⟩:∃ w5,w4.alloc (.cells #[.int .i64 0,.int .i64 0,.int .i64 0,.int .i64 0,.int .i64 0,.int .i64 0,.string ⟨#[]⟩,.string ⟨#[]⟩,.bool false,.int .i64 0,.int .i64 0] 48)=w5:=⟨_,rfl⟩
 have fG:Below w4.heap.size w4 w5:=eP eH;have hz5:w5.heap.size=w4.heap.size+1:=by rw[←eH];simp
 have dP:Whole w5 w4.heap.size #[.int .i64 0,.int .i64 0,.int .i64 0,.int .i64 0,.int .i64 0,.int .i64 0,.string ⟨#[]⟩,.string ⟨#[]⟩,.bool false,.int .i64 0,.int .i64 0] 48:=by rw[←eH];exact Whole.new w4 _ _
 have oO:=hr4.below fG;have eu:=bY.trans (fG.mono bY.size);have y0:w5.cell? ⟨w4.heap.size,0,none⟩=some (.int .i64 0):=dP.cell 0;have Cy:=dP.free 0;have y1:w5.cell? ⟨w4.heap.size,1,none⟩=some (.int .i64 0):=dP.cell 1;have Cz:=dP.free 1;have y2:w5.cell? ⟨w4.heap.size,2,none⟩=some (.int .i64 0):=dP.cell 2;have CB:=dP.free 2;have y3:w5.cell? ⟨w4.heap.size,3,none⟩=some (.int .i64 0):=dP.cell 3;have CF:=dP.free 3;have y4:w5.cell? ⟨w4.heap.size,4,none⟩=some (.int .i64 0):=dP.cell 4;have CG:=dP.free 4;have y5:w5.cell? ⟨w4.heap.size,5,none⟩=some (.int .i64 0):=dP.cell 5;have CJ:=dP.free 5;have y6:w5.cell? ⟨w4.heap.size,6,none⟩=some (.string ⟨#[]⟩):=dP.cell 6;have CK:=dP.free 6;have y7:w5.cell? ⟨w4.heap.size,7,none⟩=some (.string ⟨#[]⟩):=dP.cell 7;have CO:=dP.free 7;have y8:w5.cell? ⟨w4.heap.size,8,none⟩=some (.bool false):=dP.cell 8;have CP:=dP.free 8;have y9:w5.cell? ⟨w4.heap.size,9,none⟩=some (.int .i64 0):=dP.cell 9;have EA:=dP.free 9;have wJ:w5.cell? ⟨w4.heap.size,10,none⟩=some (.int .i64 0):=dP.cell 10;have rH:=dP.free 10;obtain⟨w6,kQ,gI,g6⟩:=jZ dP (.int .i64 3) (.int .i64 h) (.int .i64 0) (.int .i64 0) (.int .i64 0) (.int .i64 0) (.string nm) (.string ⟨#[]⟩) (.bool false) (.int .i64 0) (.int .i64 0);have hs4:w.heap.size≤w4.heap.size:=bY.size;have iC:Below w.heap.size w w6:=eu.grown g6 eu.size (fun j hj=>by simp at hj;omega);have hs6:=g6.size;have wT:AR w6 w3.heap.size v4 nd.attrs:=oO.kept g6 (.inr (oO.unlike dP (by decide)));have nW:=zh gI;have Nr:=zh iC;have SX:=zh wT;have qX:=zh (show w4.heap.size<w6.heap.size by omega);have ZX:w.heap.size≤w3.heap.size:=dB.size;have UN:w3.heap.size≤w4.heap.size:=hb4.size;have HI:=zh (om v4 nd.attrs nm w6 wT.zero (by omega));obtain⟨A4,c4,rfl⟩:=hr4.form;clear HC hr4 oO wT dP gI fG bY eu iC hb4 dB g6;go_wp2_with fail;(try rw[kQ]);go_wp2_with fail;refine HI.out.mono ?_;rintro e w7 ⟨rfl,lK⟩;have qZ:=Nr.out.trans (lK.mono Nr.out.size);have aO:=nW.out.below lK nW.out.lt;have Ut:=SX.out.below lK;have hs7:w4.heap.size<w7.heap.size:=Nat.lt_of_lt_of_le qX.out lK.size;clear HI;have hgt:¬ oZ nd.attrs nm<nd.attrs.length:=hcase;have hai:yg nd.attrs nm = -1:=by unfold yg;rw[if_neg hgt]
 have hset:gZ nd.attrs nm (aX v)=nd.attrs++[(nm,aX v)]:=by unfold gZ;rw[List.getElem?_eq_none (by omega)]
 have hold:kU nd.attrs nm=⟨#[]⟩:=by unfold kU;rw[List.getElem?_eq_none (by omega)]
 have zy:uT nd.attrs nm=false:=decide_eq_false hgt;have pW:=zh (And.intro hset (And.intro hold zy));rw[hai];clear hgt hcase hai hset hold zy;obtain⟨w8,hw8⟩:∃ w8,w7.alloc (.cells #[.string nm,.string ⟨#[]⟩] 95)=w8:=⟨_,rfl⟩
 have Ns:Below w7.heap.size w7 w8:=eP hw8;have uY:=qZ.trans (Ns.mono qZ.size);have BQ:=Ut.below Ns;have zw:=aO.below Ns aO.lt;have hsrc:((.slice (some ⟨w7.heap.size,0,none⟩) 1 1:Value)=.slice none 0 0∧1=0)∨∃ a c,(.slice (some ⟨w7.heap.size,0,none⟩) 1 1:Value)=.slice (some a) 1 c∧∀ j u,(fM [(nm,(⟨#[]⟩:ByteArray))])[j]?=some u→w8.cell? (a.add j)=some u:=by
  rw[←hw8];exact nN w7 95 (fM [(nm,(⟨#[]⟩:ByteArray))])
 have hs8:w3.heap.size≤w8.heap.size:=by have:=Ns.size;omega
 have jW:=zh zw;have Wt:=zh uY;have Us:=zh BQ;obtain⟨len,hlen⟩:∃ len,nd.attrs.length=len:=⟨_,rfl⟩
 have HLEN:=zh hlen;rw[hlen] at hl BQ;clear Ut aO qZ lK Ns uY zw hlen;rw[HLEN.out]
 go_wp2_with (at_builtin;refine bK rfl _ _ 40 rfl w3.heap.size 95 i0 (.agg #[.string ⟨#[]⟩,.string ⟨#[]⟩]) 2 32 Tryz.underlying40 hi0 hz0 hz1 hz2 rfl (by decide) _ len (fM nd.attrs) rfl BQ _ 1 (fM [(nm,(⟨#[]⟩:ByteArray))]) rfl rfl hsrc (gN _) ?c3 ?c4 hs8 ?_)
 case c3=>unfold maxLen;omega
 case c4=>omega
 intro v9 w9 o9 g9 f9;rw[←jM] at o9;have hne:(Value.slice A4 len c4).ownBlock≠some w4.heap.size:=BQ.unlike jW.out (by decide);have fH:=jW.out.grown g9 (fun e=>hne e.symm);have Ij:Below w.heap.size w w9:=Wt.out.grown g9 Wt.out.size (fun j hj=>by have:=(BQ.lt j hj).1;omega);have Uu:w4.heap.size<w9.heap.size:=by have:=jW.out.lt;have:=g9.size;omega
 have Nn:TR w9 w3.heap.size 95 2 v9 (len+1) (fM (nd.attrs++[(nm,(⟨#[]⟩:ByteArray))])):=o9;obtain⟨A9,c9,rfl⟩:=Nn.form;obtain⟨ga,oa,rfl,hga,_⟩:=Nn.cells (by omega);have hgx:ga≠w4.heap.size:=fun e=>Nn.unlike fH (by decide) (by rw[e];rfl);have l6:=zh fH;have Nt:=zh Ij;have HR:=zh (iq v w9 hv (hT.below Ij));have ZY:=zh Nn;clear fH Ij o9 Nn g9 f9 BQ hsrc;have q1:(len:Int)<(len:Int)+1:=by omega
 have q1b:(len:Int)<((len+1:Nat):Int):=by omega
 have q0:(0:Int)≤(len:Int):=by omega
 go_wp2_with fail;refine HR.out.mono ?_;rintro e eD ⟨rfl,zA⟩;have zB:=Nt.out.trans (zA.mono Nt.out.size);have PN:=ZY.out.below zA;have ku:=l6.out.below zA l6.out.lt;have Z0:w4.heap.size<eD.heap.size:=Nat.lt_of_lt_of_le Uu zA.size;obtain⟨rv,mQ⟩:∃ rv,fJ (bJ.rep v.data.toList)=rv:=⟨_,rfl⟩
 have hrs:rv.size≤60000:=by
  rw[←mQ];have:=bJ.mP v.data.toList;have e1:v.data.toList.length=v.size:=rfl;have e2:(fJ (bJ.rep v.data.toList)).size=(bJ.rep v.data.toList).length:=jP _;omega
 obtain⟨Ik,g11⟩:=PN.stored (len*2+1) (.string rv);have hgt2:(nd.attrs++[(nm,(⟨#[]⟩:ByteArray))])[len]?=some (nm,⟨#[]⟩):=by rw[←HLEN.out];simp
 rw[yC _ _ _ hgt2] at Ik;have hse:(nd.attrs++[(nm,(⟨#[]⟩:ByteArray))]).set len ((nm,(⟨#[]⟩:ByteArray)).1,rv)=gZ nd.attrs nm (aX v):=by
  rw[pW.out.1,show aX v=rv from mQ,←HLEN.out];simp
 rw[hse] at Ik;have hl2:(gZ nd.attrs nm (aX v)).length=len+1:=by rw[pW.out.1,←HLEN.out];simp
 rw[←Nat.add_assoc] at Ik g11;have c10:eD.cell? ⟨ga,oa+len*2+1,none⟩=some (.string ⟨#[]⟩):=by
  have:=PN.cellAt (len*2+1) (.string ⟨#[]⟩) (by omega) (gH _ _ _ hgt2).2;rw[←Nat.add_assoc] at this;exact this
 have f10:=PN.frozen (oa+len*2+1);obtain⟨jV,KO⟩:∃ jV,eD.setCell ⟨ga,oa+len*2+1,none⟩ (.string rv)=jV:=⟨_,rfl⟩
 rw[KO] at Ik g11;have c11:jV.cell? ⟨ga,oa+len*2+1,none⟩=some (.string rv):=by
  have hp:(gZ nd.attrs nm (aX v))[len]?=some (nm,rv):=by rw[pW.out.1,show aX v=rv from mQ,←HLEN.out];simp
  have:=Ik.cellAt (len*2+1) (.string rv) (by omega) (gH _ _ _ hp).2;rw[←Nat.add_assoc] at this;exact this
 have Nu:=ku.grown g11 (fun e=>hgx (by injection e with e;exact e.symm));have pX:Below w.heap.size w jV:=zB.grown g11 zB.size (fun j hj=>by injection hj with hj;omega);obtain⟨t20,t21⟩:=(HM.out jV pX).np yx.out (Tr.ah qb.out) 2 (by omega);have t22:jV.cell? ⟨gb,o+2,none⟩=some (.slice (av h).a (av h).n (av h).c):=t20;have hput:=(HM.out jV pX).nk gW.out (HAT.out jV pX) yx.out qb.out (fun n=>gZ n.attrs nm (aX v)) ⟨some ⟨ga,oa,none⟩,len+1,c9⟩ (by
  show TR jV 0 _ 2 _ (gZ nd.attrs nm (aX v)).length _
  rw[hl2];exact Ik.zero)
 obtain⟨qP,Il⟩:∃ qP,jV.setCell ⟨gb,o+2,none⟩ (.slice (some ⟨ga,oa,none⟩) (len+1) c9)=qP:=⟨_,rfl⟩
 rw[show (Tr.Sl.v ⟨some ⟨ga,oa,none⟩,len+1,c9⟩)=.slice (some ⟨ga,oa,none⟩) (len+1) c9 from rfl,Il] at hput;have g12:jV.grownBy qP (some gb):=by rw[←Il];exact aL (ak (Below.refl jV.heap.size jV) _) _ _
 have gu:=Nu.grown g12 (fun e=>by injection e with e;omega);have qd:=(Below.refl _ qP).alloc (Nat.le_refl _) (.cells #[.int .i64 3,.int .i64 h,.int .i64 0,.int .i64 0,.int .i64 0,.int .i64 0,.string nm,.string ⟨#[]⟩,.bool false,.int .i64 0,.int .i64 0] 48);have bf:=zh (And.intro (mM qP (jE h nm ⟨#[]⟩ false) w.heap.size (Nat.le_trans pX.size g12.size)) (And.intro (hput.1.below qd) (And.intro hput.2.1 (And.intro (hput.2.2.1.below qd) (((ay.of_below pX).trans hput.2.2.2).trans (.of_below qd))))));have s0:qP.cell? ⟨w4.heap.size,0,none⟩=some (.int .i64 3):=gu.cell 0;have UR:=gu.free 0;have s1:qP.cell? ⟨w4.heap.size,1,none⟩=some (.int .i64 h):=gu.cell 1;have UU:=gu.free 1;have s2:qP.cell? ⟨w4.heap.size,2,none⟩=some (.int .i64 0):=gu.cell 2;have UW:=gu.free 2;have s3:qP.cell? ⟨w4.heap.size,3,none⟩=some (.int .i64 0):=gu.cell 3;have UY:=gu.free 3;have s4:qP.cell? ⟨w4.heap.size,4,none⟩=some (.int .i64 0):=gu.cell 4;have UZ:=gu.free 4;have s5:qP.cell? ⟨w4.heap.size,5,none⟩=some (.int .i64 0):=gu.cell 5;have U0:=gu.free 5;have s6:qP.cell? ⟨w4.heap.size,6,none⟩=some (.string nm):=gu.cell 6;have U3:=gu.free 6;have s7:qP.cell? ⟨w4.heap.size,7,none⟩=some (.string ⟨#[]⟩):=gu.cell 7;have U4:=gu.free 7;have s8:qP.cell? ⟨w4.heap.size,8,none⟩=some (.bool false):=gu.cell 8;have U5:=gu.free 8;have s9:qP.cell? ⟨w4.heap.size,9,none⟩=some (.int .i64 0):=gu.cell 9;have U6:=gu.free 9;have s10:qP.cell? ⟨w4.heap.size,10,none⟩=some (.int .i64 0):=gu.cell 10;have Mw:=gu.free 10;have Ju:=zh mQ;have q2:¬ (64:Int)<(len:Int)+1:=by omega
 have q2b:¬ (64:Int)<((len+1:Nat):Int):=by omega
 have q3:¬ (1048576:Int)<(rv.size:Int):=by omega
 rw[mQ];clear ku Nu gu PN Ik g11 g12 hput zB pX zA qd hse hl2 hgt2 t20 mQ hrs;go_wp2_with fail;(try rw[KO]);go_wp2_with fail;(try rw[Il]);go_wp2_with fail;go_ret2;obtain⟨z1,z2,z3,z4,z5⟩:=bf.out;refine⟨_,⟨some ⟨ga,oa,none⟩,len+1,c9⟩,rfl,?_,z2,z3,z4,z5⟩;rw[pW.out.2.1,pW.out.2.2];exact z1
theorem G7 (base B:Nat) (b s root h:Int) (live n:Nat) (g:Tr.G) (av:Int→Tr.Sl) (fr:List Nat) (vs vf:Value) (nd:Tr.GN) (nm v:ByteArray) (w:World) (hm:TV base w B b s vs n (Tr.raw g av) vf fr live root) (hS:Sound b s n (Tr.raw g av) fr live) (ha:AT w g av) (hk:∀ x m,g x=some m→m.kind≠0) (eg:g h=some nd) (he:nd.kind=2) (hl:nd.attrs.length≤63) (hn:nm.size≤20000) (hv:v.size≤20000) (hT:Lit w) (hb:Nm.attr nm=true) (hcase:oZ nd.attrs nm<nd.attrs.length):
  Calls Tryz.prog 21 #[.pointer (some ⟨B,0,none⟩),.int .i64 h,.string nm,.string v] w fun e w'=>∃ r sl,e=.returned (.tuple #[r,.int .i64 0])∧bO w.heap.size w' r [jE h nm (kU nd.attrs nm) (uT nd.attrs nm)]∧
   TV base w' B b s vs n (Tr.raw (Tr.dD g h fun n=>{ n with attrs:=gZ n.attrs nm (aX v) }) (Tr.fC av h sl)) vf fr live root∧Sound b s n (Tr.raw (Tr.dD g h fun n=>{ n with attrs:=gZ n.attrs nm (aX v) }) (Tr.fC av h sl)) fr live∧
   AT w' (Tr.dD g h fun n=>{ n with attrs:=gZ n.attrs nm (aX v) }) (Tr.fC av h sl)∧ay w w' (aD B vs vf) (aD B vs vf):=by
 obtain⟨i0,hi0,hz0,hz1,hz2⟩:=info_parts su;have hE:=iO base B b s root h live n g av fr vs vf w hm hS ((bR hS (h:=h) (by rw[aS,eg];rfl)).1) hk;have he0:eX g h=0:=by unfold eX;rw[eg];exact if_pos he
 rw[he0] at hE;have HV:=zh (fun (W:World) (hT:Lit W)=>mV nm W hn hT);rw[hb] at HV;have HM:=zh (fun (W:World) (hb:Below w.heap.size w W)=>hm.below hb);have HA:=zh (fun (W:World) (hb:Below w.heap.size w W)=>ig base B b s root h live n _ fr vs vf _ W (hm.below hb) hS (Tr.ah eg));have HAT:=zh (fun (W:World) (hb:Below w.heap.size w W)=>(ha.below hb));have Kh:=zh hm.lt;have gW:=zh hS;have qb:=zh eg;clear he0 hm ha hS he hk
 go_enter Tryz.func21,Tryz.ntmps21
 go_wp2_with fail;refine hE.mono ?_;rintro e w1 ⟨rfl,hb1⟩;have Rl:=HV.out w1 (hT.below hb1);clear hE HV;go_wp2_with fail;refine Rl.mono ?_;rintro e w2 ⟨rfl,hb2⟩;have fu:=hb1.trans (hb2.mono hb1.size);have HA2:=HA.out w2 fu;clear Rl hb1 hb2 HA;go_wp2_with fail;refine HA2.mono ?_;rintro e w3 ⟨gb,o,rfl,hpt,hb3⟩;have dB:=fu.trans (hb3.mono fu.size);obtain⟨_,_,t2,_⟩:=((HM.out w3 dB).np hpt (Tr.ah qb.out)).cells;rw[show (Tr.fF g av h nd).av=av h from rfl] at t2;have hgw:gb<w.heap.size:=(Kh.out gb hpt.foot).2;have yx:=zh hpt;have hat:=HAT.out w3 dB h nd qb.out;have HC:=zh (qK _ nd.attrs w3 hat (by omega));clear HA2 fu hb3 hpt hat;go_wp2_with fail;refine HC.out.mono ?_;rintro e w4 ⟨v4,rfl,hr4,hb4⟩;have bY:=dB.trans (hb4.mono dB.size);obtain⟨w5,eH⟩:∃ w5,w4.alloc (.cells #[.int .i64 0,.int .i64 0,.int .i64 0,.int .i64 0,.int .i64 0,.int .i64 0,.string ⟨#[]⟩,.string ⟨#[]⟩,.bool false,.int .i64 0,.int .i64 0] 48)=w5:=⟨_,rfl⟩
 have fG:Below w4.heap.size w4 w5:=eP eH;have hz5:w5.heap.size=w4.heap.size+1:=by rw[←eH];simp
 have dP:Whole w5 w4.heap.size #[.int .i64 0,.int .i64 0,.int .i64 0,.int .i64 0,.int .i64 0,.int .i64 0,.string ⟨#[]⟩,.string ⟨#[]⟩,.bool false,.int .i64 0,.int .i64 0] 48:=by rw[←eH];exact Whole.new w4 _ _
 have oO:=hr4.below fG;have eu:=bY.trans (fG.mono bY.size);have y0:w5.cell? ⟨w4.heap.size,0,none⟩=some (.int .i64 0):=dP.cell 0;have Cy:=dP.free 0;have y1:w5.cell? ⟨w4.heap.size,1,none⟩=some (.int .i64 0):=dP.cell 1;have Cz:=dP.free 1;have y2:w5.cell? ⟨w4.heap.size,2,none⟩=some (.int .i64 0):=dP.cell 2;have CB:=dP.free 2;have y3:w5.cell? ⟨w4.heap.size,3,none⟩=some (.int .i64 0):=dP.cell 3;have CF:=dP.free 3;have y4:w5.cell? ⟨w4.heap.size,4,none⟩=some (.int .i64 0):=dP.cell 4;have CG:=dP.free 4;have y5:w5.cell? ⟨w4.heap.size,5,none⟩=some (.int .i64 0):=dP.cell 5;have CJ:=dP.free 5;have y6:w5.cell? ⟨w4.heap.size,6,none⟩=some (.string ⟨#[]⟩):=dP.cell 6;have CK:=dP.free 6;have y7:w5.cell? ⟨w4.heap.size,7,none⟩=some (.string ⟨#[]⟩):=dP.cell 7;have CO:=dP.free 7;have y8:w5.cell? ⟨w4.heap.size,8,none⟩=some (.bool false):=dP.cell 8;have CP:=dP.free 8;have y9:w5.cell? ⟨w4.heap.size,9,none⟩=some (.int .i64 0):=dP.cell 9;have EA:=dP.free 9;have wJ:w5.cell? ⟨w4.heap.size,10,none⟩=some (.int .i64 0):=dP.cell 10;have rH:=dP.free 10;obtain⟨w6,kQ,gI,g6⟩:=jZ dP (.int .i64 3) (.int .i64 h) (.int .i64 0) (.int .i64 0) (.int .i64 0) (.int .i64 0) (.string nm) (.string ⟨#[]⟩) (.bool false) (.int .i64 0) (.int .i64 0);have hs4:w.heap.size≤w4.heap.size:=bY.size;have iC:Below w.heap.size w w6:=eu.grown g6 eu.size (fun j hj=>by simp at hj;omega);have hs6:=g6.size;have wT:AR w6 w3.heap.size v4 nd.attrs:=oO.kept g6 (.inr (oO.unlike dP (by decide)));have nW:=zh gI;have Nr:=zh iC;have SX:=zh wT;have qX:=zh (show w4.heap.size<w6.heap.size by omega);have ZX:w.heap.size≤w3.heap.size:=dB.size;have UN:w3.heap.size≤w4.heap.size:=hb4.size;have HI:=zh (om v4 nd.attrs nm w6 wT.zero (by omega));obtain⟨A4,c4,rfl⟩:=hr4.form;clear HC hr4 oO wT dP gI fG bY eu iC hb4 dB g6;go_wp2_with fail;(try rw[kQ]);go_wp2_with fail;refine HI.out.mono ?_;rintro e w7 ⟨rfl,lK⟩;have qZ:=Nr.out.trans (lK.mono Nr.out.size);have aO:=nW.out.below lK nW.out.lt;have Ut:=SX.out.below lK;have hs7:w4.heap.size<w7.heap.size:=Nat.lt_of_lt_of_le qX.out lK.size;clear HI;have hlt:oZ nd.attrs nm<nd.attrs.length:=hcase;obtain⟨k,hkk⟩:∃ k,oZ nd.attrs nm=k:=⟨_,rfl⟩
 obtain⟨p,hp⟩:∃ p,nd.attrs[k]?=some p:=⟨nd.attrs[k]'(by omega),by simp⟩
 have hai:yg nd.attrs nm=(k:Int):=by unfold yg;rw[if_pos hlt,hkk]
 have hset:gZ nd.attrs nm (aX v)=nd.attrs.set k (p.1,aX v):=by unfold gZ;rw[hkk,hp]
 have hold:kU nd.attrs nm=p.2:=by unfold kU;rw[hkk,hp]
 have zy:uT nd.attrs nm=true:=decide_eq_true hlt;have pW:=zh (And.intro hset (And.intro hold (And.intro zy hp)));have hkl:k<nd.attrs.length:=by omega
 rw[hai];clear hlt hcase hai hset hold zy hkk;obtain⟨len,hlen⟩:∃ len,nd.attrs.length=len:=⟨_,rfl⟩
 have HLEN:=zh hlen;obtain⟨ga,oa,rfl,_,c71,c72⟩:=AR.at Ut hp;have PO:TR w7 w3.heap.size 95 2 (.slice (some ⟨ga,oa,none⟩) len c4) len (fM nd.attrs):=by rw[←hlen];exact Ut
 have hgx:ga≠w4.heap.size:=fun e=>PO.unlike aO (by decide) (by rw[e];rfl);have hga:w3.heap.size≤ga:=(PO.lt ga rfl).1;rw[hlen] at hl hkl;rw[HLEN.out];have x0:w7.cell? ⟨w4.heap.size,0,none⟩=some (.int .i64 3):=aO.cell 0;have xf0:=aO.free 0;have x1:w7.cell? ⟨w4.heap.size,1,none⟩=some (.int .i64 h):=aO.cell 1;have xf1:=aO.free 1;have x2:w7.cell? ⟨w4.heap.size,2,none⟩=some (.int .i64 0):=aO.cell 2;have xf2:=aO.free 2;have x3:w7.cell? ⟨w4.heap.size,3,none⟩=some (.int .i64 0):=aO.cell 3;have xf3:=aO.free 3;have x4:w7.cell? ⟨w4.heap.size,4,none⟩=some (.int .i64 0):=aO.cell 4;have xf4:=aO.free 4;have x5:w7.cell? ⟨w4.heap.size,5,none⟩=some (.int .i64 0):=aO.cell 5;have xf5:=aO.free 5;have x6:w7.cell? ⟨w4.heap.size,6,none⟩=some (.string nm):=aO.cell 6;have xf6:=aO.free 6;have x7:w7.cell? ⟨w4.heap.size,7,none⟩=some (.string ⟨#[]⟩):=aO.cell 7;have xf7:=aO.free 7;have x8:w7.cell? ⟨w4.heap.size,8,none⟩=some (.bool false):=aO.cell 8;have xf8:=aO.free 8;have x9:w7.cell? ⟨w4.heap.size,9,none⟩=some (.int .i64 0):=aO.cell 9;have xf9:=aO.free 9;have x10:w7.cell? ⟨w4.heap.size,10,none⟩=some (.int .i64 0):=aO.cell 10;have xf10:=aO.free 10;obtain⟨w9,wu⟩:∃ w9,((w7.setCell ⟨w4.heap.size,8,none⟩ (.bool true)).setCell ⟨w4.heap.size,7,none⟩ (.string p.2)).drew=w9:=⟨_,rfl⟩
 have hXa:Whole (w7.setCell ⟨w4.heap.size,8,none⟩ (.bool true)) w4.heap.size #[.int .i64 3,.int .i64 h,.int .i64 0,.int .i64 0,.int .i64 0,.int .i64 0,.string nm,.string ⟨#[]⟩,.bool true,.int .i64 0,.int .i64 0] 48:=aO.put 8 (.bool true);have Z4:Whole ((w7.setCell ⟨w4.heap.size,8,none⟩ (.bool true)).setCell ⟨w4.heap.size,7,none⟩ (.string p.2)).drew w4.heap.size #[.int .i64 3,.int .i64 h,.int .i64 0,.int .i64 0,.int .i64 0,.int .i64 0,.string nm,.string p.2,.bool true,.int .i64 0,.int .i64 0] 48:=hXa.put 7 (.string p.2);have g9:w7.grownBy w9 (some w4.heap.size):=by
  rw[←wu];have g:=aL (aL (ak (Below.refl w7.heap.size w7) (some w4.heap.size)) 8 (.bool true)) 7 (.string p.2);exact⟨g.os,g.tape,g.output,g.size,g.block⟩
 rw[wu] at Z4;have Ij:Below w.heap.size w w9:=qZ.grown g9 qZ.size (fun j hj=>by injection hj with hj;omega);have Uu:w4.heap.size<w9.heap.size:=by have:=g9.size;omega
 have Nn:TR w9 w3.heap.size 95 2 (.slice (some ⟨ga,oa,none⟩) len c4) len (fM nd.attrs):=PO.kept g9 (.inr (fun e=>hgx (by injection e)));have fH:=Z4;have l6:=zh fH;have Nt:=zh Ij;have HR:=zh (iq v w9 hv (hT.below Ij));have ZY:=zh Nn;have q1:(k:Int)<(len:Int):=by omega
 have q0:(0:Int)≤(k:Int):=by omega
 have q4:¬ (k:Int)<0:=by omega
 clear fH Z4 hXa Ij Nn g9 Ut PO qZ lK aO hp hlen;go_wp2_with fail
 go_region
 (try rw[wu]);go_wp2_with fail;refine HR.out.mono ?_;rintro e eD ⟨rfl,zA⟩;have zB:=Nt.out.trans (zA.mono Nt.out.size);have PN:=ZY.out.below zA;have ku:=l6.out.below zA l6.out.lt;have Z0:w4.heap.size<eD.heap.size:=Nat.lt_of_lt_of_le Uu zA.size;obtain⟨rv,mQ⟩:∃ rv,fJ (bJ.rep v.data.toList)=rv:=⟨_,rfl⟩
 have hrs:rv.size≤60000:=by
  rw[←mQ];have:=bJ.mP v.data.toList;have e1:v.data.toList.length=v.size:=rfl;have e2:(fJ (bJ.rep v.data.toList)).size=(bJ.rep v.data.toList).length:=jP _;omega
 obtain⟨Ik,g11⟩:=PN.stored (k*2+1) (.string rv);have hgt2:nd.attrs[k]?=some p:=pW.out.2.2.2;rw[yC _ _ _ hgt2] at Ik;have hse:nd.attrs.set k (p.1,rv)=gZ nd.attrs nm (aX v):=by rw[pW.out.1,show aX v=rv from mQ]
 rw[hse] at Ik;have hl2:(gZ nd.attrs nm (aX v)).length=len:=by rw[pW.out.1,←HLEN.out];simp
 rw[←Nat.add_assoc] at Ik g11;have c10:eD.cell? ⟨ga,oa+k*2+1,none⟩=some (.string p.2):=by
  have:=PN.cellAt (k*2+1) (.string p.2) (by omega) (gH _ _ _ hgt2).2;rw[←Nat.add_assoc] at this;exact this
 have f10:=PN.frozen (oa+k*2+1);obtain⟨jV,KO⟩:∃ jV,eD.setCell ⟨ga,oa+k*2+1,none⟩ (.string rv)=jV:=⟨_,rfl⟩
 rw[KO] at Ik g11;have c11:jV.cell? ⟨ga,oa+k*2+1,none⟩=some (.string rv):=by
  have hp:(gZ nd.attrs nm (aX v))[k]?=some (p.1,rv):=by
   have Z5:k<nd.attrs.length:=by rw[HLEN.out];exact hkl
   rw[pW.out.1,show aX v=rv from mQ];simp[Z5]
  have:=Ik.cellAt (k*2+1) (.string rv) (by omega) (gH _ _ _ hp).2;rw[←Nat.add_assoc] at this;exact this
 have Nu:=ku.grown g11 (fun e=>hgx (by injection e with e;exact e.symm));have pX:Below w.heap.size w jV:=zB.grown g11 zB.size (fun j hj=>by injection hj with hj;omega);obtain⟨t20,t21⟩:=(HM.out jV pX).np yx.out (Tr.ah qb.out) 2 (by omega);have t22:jV.cell? ⟨gb,o+2,none⟩=some (.slice (av h).a (av h).n (av h).c):=t20;have hput:=(HM.out jV pX).nk gW.out (HAT.out jV pX) yx.out qb.out (fun n=>gZ n.attrs nm (aX v)) ⟨some ⟨ga,oa,none⟩,len,c4⟩ (by
  show TR jV 0 _ 2 _ (gZ nd.attrs nm (aX v)).length _
  rw[hl2];exact Ik.zero)
 obtain⟨qP,Il⟩:∃ qP,jV.setCell ⟨gb,o+2,none⟩ (.slice (some ⟨ga,oa,none⟩) len c4)=qP:=⟨_,rfl⟩
 rw[show (Tr.Sl.v ⟨some ⟨ga,oa,none⟩,len,c4⟩)=.slice (some ⟨ga,oa,none⟩) len c4 from rfl,Il] at hput;have g12:jV.grownBy qP (some gb):=by rw[←Il];exact aL (ak (Below.refl jV.heap.size jV) _) _ _
 have gu:=Nu.grown g12 (fun e=>by injection e with e;omega);have qd:=(Below.refl _ qP).alloc (Nat.le_refl _) (.cells #[.int .i64 3,.int .i64 h,.int .i64 0,.int .i64 0,.int .i64 0,.int .i64 0,.string nm,.string p.2,.bool true,.int .i64 0,.int .i64 0] 48);have bf:=zh (And.intro (mM qP (jE h nm p.2 true) w.heap.size (Nat.le_trans pX.size g12.size)) (And.intro (hput.1.below qd) (And.intro hput.2.1 (And.intro (hput.2.2.1.below qd) (((ay.of_below pX).trans hput.2.2.2).trans (.of_below qd))))));have s0:qP.cell? ⟨w4.heap.size,0,none⟩=some (.int .i64 3):=gu.cell 0;have UR:=gu.free 0;have s1:qP.cell? ⟨w4.heap.size,1,none⟩=some (.int .i64 h):=gu.cell 1;have UU:=gu.free 1;have s2:qP.cell? ⟨w4.heap.size,2,none⟩=some (.int .i64 0):=gu.cell 2;have UW:=gu.free 2;have s3:qP.cell? ⟨w4.heap.size,3,none⟩=some (.int .i64 0):=gu.cell 3;have UY:=gu.free 3;have s4:qP.cell? ⟨w4.heap.size,4,none⟩=some (.int .i64 0):=gu.cell 4;have UZ:=gu.free 4;have s5:qP.cell? ⟨w4.heap.size,5,none⟩=some (.int .i64 0):=gu.cell 5;have U0:=gu.free 5;have s6:qP.cell? ⟨w4.heap.size,6,none⟩=some (.string nm):=gu.cell 6;have U3:=gu.free 6;have s7:qP.cell? ⟨w4.heap.size,7,none⟩=some (.string p.2):=gu.cell 7;have U4:=gu.free 7;have s8:qP.cell? ⟨w4.heap.size,8,none⟩=some (.bool true):=gu.cell 8;have U5:=gu.free 8;have s9:qP.cell? ⟨w4.heap.size,9,none⟩=some (.int .i64 0):=gu.cell 9;have U6:=gu.free 9;have s10:qP.cell? ⟨w4.heap.size,10,none⟩=some (.int .i64 0):=gu.cell 10;have Mw:=gu.free 10;have Ju:=zh mQ;have q2:¬ (64:Int)<(len:Int):=by omega
 have q3:¬ (1048576:Int)<(rv.size:Int):=by omega
 rw[mQ];clear ku Nu gu PN Ik g11 g12 hput zB pX zA qd hse hl2 hgt2 t20 mQ hrs;go_wp2_with fail;(try rw[KO]);go_wp2_with fail;(try rw[Il]);go_wp2_with fail;go_ret2;obtain⟨z1,z2,z3,z4,z5⟩:=bf.out;refine⟨_,⟨some ⟨ga,oa,none⟩,len,c4⟩,rfl,?_,z2,z3,z4,z5⟩;rw[pW.out.2.1,pW.out.2.2.1];exact z1
end
end Go.Proofs.YtnbaadpgbcklaaaGreatDoor
