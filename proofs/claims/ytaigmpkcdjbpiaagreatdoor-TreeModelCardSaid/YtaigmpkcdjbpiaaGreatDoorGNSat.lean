/- Part of a proof about trees: NSat. -/
import Derived.Test.YtaigmpkcdjbpiaaGreatDoorS02
set_option linter.unusedVariables false
set_option linter.unusedSimpArgs false
set_option linter.unusedSectionVars false
set_option maxHeartbeats 2000000
set_option maxRecDepth 100000
namespace Go.Proofs.YtaigmpkcdjbpiaaGreatDoor
section
open Go.RowKit
def setA (l:List (ByteArray×ByteArray)) (nm v:ByteArray):List (ByteArray×ByteArray):=match l[atN l nm]? with
 | some p=>l.set (atN l nm) (p.1,v)
 | none=>l++[(nm,v)]
def oldA (l:List (ByteArray×ByteArray)) (nm:ByteArray):ByteArray:=match l[atN l nm]? with
 | some p=>p.2
 | none=>⟨#[]⟩
def hadA (l:List (ByteArray×ByteArray)) (nm:ByteArray):Bool:=decide (atN l nm<l.length)
def repB (s:ByteArray):ByteArray:=tstr (Txt.rep s.data.toList)
def attrRec (h:Int) (nm old:ByteArray) (had:Bool):Tr.Rec:=⟨3,h,0,0,0,0,nm,old,had,0,0⟩
theorem raw_put {g:Tr.G} {av:Int→Tr.Sl} {h:Int} {sl:Tr.Sl} {u:Tr.GN→Tr.GN} {U:Tr.Nd→Tr.Nd} (hu:∀ n,(u n).pa=n.pa∧(u n).kids=n.kids) (hU:∀ n,g h=some n→Tr.raw1 (Tr.putG g h u) (Tr.addA av h sl) h (u n)=U (Tr.raw1 g av h n)):Tr.raw (Tr.putG g h u) (Tr.addA av h sl)=Tr.upd (Tr.raw g av) h U:=by
 have hk:∀ p,Tr.kidsOf (Tr.putG g h u) p=Tr.kidsOf g p:=fun p=>by
  unfold Tr.kidsOf Tr.putG;by_cases e:p=h
  ·subst e;rw[if_pos rfl];cases g p with | none=>rfl | some m=>exact (hu m).2
  ·rw[if_neg e]
 funext x;unfold Tr.upd;by_cases hx:x=h
 ·subst hx;rw[if_pos rfl];cases e:g x with
  | none=>rw[Tr.raw_none e,Tr.raw_none];rfl;unfold Tr.putG;rw[if_pos rfl,e];rfl
  | some m=>
   have e2:Tr.putG g x u x=some (u m):=by unfold Tr.putG;rw[if_pos rfl,e];rfl
   rw[Tr.raw_some e,Tr.raw_some e2,hU m e];rfl
 ·rw[if_neg hx];cases e:g x with
  | none=>rw[Tr.raw_none e,Tr.raw_none];unfold Tr.putG;rw[if_neg hx,e]
  | some m=>
   have e2:Tr.putG g h u x=some m:=by unfold Tr.putG;rw[if_neg hx,e]
   rw[Tr.raw_some e,Tr.raw_some e2];unfold Tr.raw1;rw[hk,Tr.addA_ne hx]
theorem raw1_attrs {g:Tr.G} {av:Int→Tr.Sl} {h:Int} {sl:Tr.Sl} {f:Tr.GN→List (ByteArray×ByteArray)} (n:Tr.GN) (e:g h=some n):Tr.raw1 (Tr.putG g h fun n=>{ n with attrs:=f n }) (Tr.addA av h sl) h { n with attrs:=f n }={ Tr.raw1 g av h n with av:=sl }:=by
 unfold Tr.raw1;dsimp only;rw[Tr.addA_self];have hk:∀ p,Tr.kidsOf (Tr.putG g h fun n=>{ n with attrs:=f n }) p=Tr.kidsOf g p:=fun p=>by
  unfold Tr.kidsOf Tr.putG;by_cases e:p=h
  ·subst e;rw[if_pos rfl];cases g p with | none=>rfl | some m=>rfl
  ·rw[if_neg e]
 rw[hk]
theorem TV.put_attrs {base B n live gb o:Nat} {w:World} {b s root h:Int} {vs vf:Value} {g:Tr.G} {av:Int→Tr.Sl} {fr:List Nat} {nd:Tr.GN} (hM:TV base w B b s vs n (Tr.raw g av) vf fr live root) (hS:Sound b s n (Tr.raw g av) fr live) (ha:AT w g av) (hp:PtrTo b s vs n gb o h) (eg:g h=some nd) (f:Tr.GN→List (ByteArray×ByteArray)) (sl:Tr.Sl) (hr:AR w 0 sl.v (f nd)):
  TV base (w.setCell ⟨gb,o+2,none⟩ sl.v) B b s vs n (Tr.raw (Tr.putG g h fun n=>{ n with attrs:=f n }) (Tr.addA av h sl)) vf fr live root∧Sound b s n (Tr.raw (Tr.putG g h fun n=>{ n with attrs:=f n }) (Tr.addA av h sl)) fr live∧
   AT (w.setCell ⟨gb,o+2,none⟩ sl.v) (Tr.putG g h fun n=>{ n with attrs:=f n }) (Tr.addA av h sl)∧AStep w (w.setCell ⟨gb,o+2,none⟩ sl.v) (Foot B vs vf) (Foot B vs vf):=by
 have e:Tr.raw (Tr.putG g h fun n=>{ n with attrs:=f n }) (Tr.addA av h sl)=Tr.upd (Tr.raw g av) h fun d=>{ d with av:=sl }:=raw_put (fun _=>⟨rfl,rfl⟩) (fun n en=>raw1_attrs n en);obtain⟨k1,k2⟩:=hM.put_nd (j:=2) (v:=sl.v) hp (Tr.raw_some eg) (fun d=>{ d with av:=sl }) rfl (by omega) rfl;rw[e];refine⟨k1,hS.upd,?_,k2⟩;have hA:=AT.put (h:=h) (sl:=sl) (u:=fun n=>{ n with attrs:=f n }) ha (fun m em=>by rw[eg] at em;obtain rfl:=Option.some.inj em;exact hr);exact hA.step hM k2
theorem psattr_not (base B:Nat) (b s root h:Int) (live n:Nat) (g:Tr.G) (av:Int→Tr.Sl) (fr:List Nat) (vs vf:Value) (nm v:ByteArray) (w:World) (hm:TV base w B b s vs n (Tr.raw g av) vf fr live root) (hS:Sound b s n (Tr.raw g av) fr live) (hh:I64 h) (hk:∀ x m,g x=some m→m.kind≠0) (he:elemE g h≠0):
  Calls Tryz.prog 22 #[.pointer (some ⟨B,0,none⟩),.int .i64 h,.string nm,.string v] w fun e w'=>e=.returned (errV (elemE g h))∧Below w.heap.size w w':=by
 have hE:=elemErr_any base B b s root h live n g av fr vs vf w hm hS hh hk;obtain⟨z,hz⟩:∃ z,elemE g h=z:=⟨_,rfl⟩
 rw[hz] at hE he ⊢;have q:=bne_true he;clear hm hz
 go_enter Tryz.func22,Tryz.ntmps22
 go_wp2_with fail;refine hE.mono ?_;rintro e w1 ⟨rfl,hb⟩;clear hE;go_wp2_with fail;go_ret2;exact⟨rfl,hb⟩
theorem psattr_bad (base B:Nat) (b s root h:Int) (live n:Nat) (g:Tr.G) (av:Int→Tr.Sl) (fr:List Nat) (vs vf:Value) (nm v:ByteArray) (w:World) (hm:TV base w B b s vs n (Tr.raw g av) vf fr live root) (hS:Sound b s n (Tr.raw g av) fr live) (hh:I64 h) (hk:∀ x m,g x=some m→m.kind≠0) (he:elemE g h=0) (hn:nm.size≤20000) (hT:Lit w) (hb:Nm.attr nm=false):
  Calls Tryz.prog 22 #[.pointer (some ⟨B,0,none⟩),.int .i64 h,.string nm,.string v] w fun e w'=>e=.returned (errV 1)∧Below w.heap.size w w':=by
 have hE:=elemErr_any base B b s root h live n g av fr vs vf w hm hS hh hk;rw[he] at hE;have HV:=zh (fun (W:World) (hT:Lit W)=>attrName_any nm W hn hT);rw[hb] at HV;clear hm he
 go_enter Tryz.func22,Tryz.ntmps22
 go_wp2_with fail;refine hE.mono ?_;rintro e w1 ⟨rfl,hb1⟩;have HV1:=HV.out w1 (hT.below hb1);clear hE HV;go_wp2_with fail;refine HV1.mono ?_;rintro e w2 ⟨rfl,hb2⟩;have hb12:=hb1.trans (hb2.mono hb1.size);clear HV1 hb1 hb2;go_wp2_with fail;go_ret2;exact⟨rfl,hb12⟩
theorem psattr_new (base B:Nat) (b s root h:Int) (live n:Nat) (g:Tr.G) (av:Int→Tr.Sl) (fr:List Nat) (vs vf:Value) (nd:Tr.GN) (nm v:ByteArray) (w:World) (hm:TV base w B b s vs n (Tr.raw g av) vf fr live root) (hS:Sound b s n (Tr.raw g av) fr live) (ha:AT w g av) (hk:∀ x m,g x=some m→m.kind≠0) (eg:g h=some nd) (he:nd.kind=2) (hl:nd.attrs.length≤63) (hn:nm.size≤20000) (hv:v.size≤20000) (hT:Lit w) (hb:Nm.attr nm=true) (hcase:¬ atN nd.attrs nm<nd.attrs.length):
  Calls Tryz.prog 22 #[.pointer (some ⟨B,0,none⟩),.int .i64 h,.string nm,.string v] w fun e w'=>∃ r sl,e=.returned (.tuple #[r,.int .i64 0])∧RecRow w.heap.size w' r [attrRec h nm (oldA nd.attrs nm) (hadA nd.attrs nm)]∧
   TV base w' B b s vs n (Tr.raw (Tr.putG g h fun n=>{ n with attrs:=setA n.attrs nm (repB v) }) (Tr.addA av h sl)) vf fr live root∧Sound b s n (Tr.raw (Tr.putG g h fun n=>{ n with attrs:=setA n.attrs nm (repB v) }) (Tr.addA av h sl)) fr live∧
   AT w' (Tr.putG g h fun n=>{ n with attrs:=setA n.attrs nm (repB v) }) (Tr.addA av h sl)∧AStep w w' (Foot B vs vf) (Foot B vs vf):=by
 obtain⟨i0,hi0,hz0,hz1,hz2⟩:=info_parts attrInfo;have hE:=elemErr_any base B b s root h live n g av fr vs vf w hm hS ((tmem_i64 hS (h:=h) (by rw[raw_isSome,eg];rfl)).1) hk;have he0:elemE g h=0:=by unfold elemE;rw[eg];exact if_pos he
 rw[he0] at hE;have HV:=zh (fun (W:World) (hT:Lit W)=>attrName_any nm W hn hT);rw[hb] at HV;have HM:=zh (fun (W:World) (hb:Below w.heap.size w W)=>hm.below hb);have HA:=zh (fun (W:World) (hb:Below w.heap.size w W)=>at_tv base B b s root h live n _ fr vs vf _ W (hm.below hb) hS (Tr.raw_some eg));have HAT:=zh (fun (W:World) (hb:Below w.heap.size w W)=>(ha.below hb));have HFL:=zh hm.lt;have HSS:=zh hS;have HEG:=zh eg;clear he0 hm ha hS he hk
 go_enter Tryz.func22,Tryz.ntmps22
 go_wp2_with fail;refine hE.mono ?_;rintro e w1 ⟨rfl,hb1⟩;have HV1:=HV.out w1 (hT.below hb1);clear hE HV;go_wp2_with fail;refine HV1.mono ?_;rintro e w2 ⟨rfl,hb2⟩;have hb02:=hb1.trans (hb2.mono hb1.size);have HA2:=HA.out w2 hb02;clear HV1 hb1 hb2 HA;go_wp2_with fail;refine HA2.mono ?_;rintro e w3 ⟨gb,o,rfl,hpt,hb3⟩;have hb03:=hb02.trans (hb3.mono hb02.size);obtain⟨_,_,t2,_⟩:=((HM.out w3 hb03).np hpt (Tr.raw_some HEG.out)).cells;rw[show (Tr.raw1 g av h nd).av=av h from rfl] at t2;have hgw:gb<w.heap.size:=(HFL.out gb hpt.foot).2;have HPT:=zh hpt;have hat:=HAT.out w3 hb03 h nd HEG.out;have HC:=zh (aclone_any _ nd.attrs w3 hat (by omega));clear HA2 hb02 hb3 hpt hat;go_wp2_with fail;refine HC.out.mono ?_;rintro e w4 ⟨v4,rfl,hr4,hb4⟩;have hb04:=hb03.trans (hb4.mono hb03.size);obtain⟨w5,hw5⟩:∃ w5,w4.alloc (.cells #[.int .i64 0,.int .i64 0,.int .i64 0,.int .i64 0,.int .i64 0,.int .i64 0,.string ⟨#[]⟩,.string ⟨#[]⟩,.bool false,.int .i64 0,.int .i64 0] 48)=w5:=⟨_,rfl⟩
 have hb45:Below w4.heap.size w4 w5:=bzA hw5;have hz5:w5.heap.size=w4.heap.size+1:=by rw[←hw5];simp
 have hX5:Whole w5 w4.heap.size #[.int .i64 0,.int .i64 0,.int .i64 0,.int .i64 0,.int .i64 0,.int .i64 0,.string ⟨#[]⟩,.string ⟨#[]⟩,.bool false,.int .i64 0,.int .i64 0] 48:=by rw[←hw5];exact Whole.new w4 _ _
 have hr5:=hr4.below hb45;have hb05:=hb04.trans (hb45.mono hb04.size);have y0:w5.cell? ⟨w4.heap.size,0,none⟩=some (.int .i64 0):=hX5.cell 0;have yf0:=hX5.free 0;have y1:w5.cell? ⟨w4.heap.size,1,none⟩=some (.int .i64 0):=hX5.cell 1;have yf1:=hX5.free 1;have y2:w5.cell? ⟨w4.heap.size,2,none⟩=some (.int .i64 0):=hX5.cell 2;have yf2:=hX5.free 2;have y3:w5.cell? ⟨w4.heap.size,3,none⟩=some (.int .i64 0):=hX5.cell 3;have yf3:=hX5.free 3;have y4:w5.cell? ⟨w4.heap.size,4,none⟩=some (.int .i64 0):=hX5.cell 4;have yf4:=hX5.free 4;have y5:w5.cell? ⟨w4.heap.size,5,none⟩=some (.int .i64 0):=hX5.cell 5;have yf5:=hX5.free 5;have y6:w5.cell? ⟨w4.heap.size,6,none⟩=some (.string ⟨#[]⟩):=hX5.cell 6;have yf6:=hX5.free 6;have y7:w5.cell? ⟨w4.heap.size,7,none⟩=some (.string ⟨#[]⟩):=hX5.cell 7;have yf7:=hX5.free 7;have y8:w5.cell? ⟨w4.heap.size,8,none⟩=some (.bool false):=hX5.cell 8;have yf8:=hX5.free 8;have y9:w5.cell? ⟨w4.heap.size,9,none⟩=some (.int .i64 0):=hX5.cell 9;have yf9:=hX5.free 9;have y10:w5.cell? ⟨w4.heap.size,10,none⟩=some (.int .i64 0):=hX5.cell 10;have yf10:=hX5.free 10;obtain⟨w6,hw6,hX6,g6⟩:=box11 hX5 (.int .i64 3) (.int .i64 h) (.int .i64 0) (.int .i64 0) (.int .i64 0) (.int .i64 0) (.string nm) (.string ⟨#[]⟩) (.bool false) (.int .i64 0) (.int .i64 0);have hs4:w.heap.size≤w4.heap.size:=hb04.size;have hb06:Below w.heap.size w w6:=hb05.grown g6 hb05.size (fun j hj=>by simp at hj;omega);have hs6:=g6.size;have hr6:AR w6 w3.heap.size v4 nd.attrs:=hr5.kept g6 (.inr (hr5.unlike hX5 (by decide)));have HX6:=zh hX6;have HB06:=zh hb06;have HR6:=zh hr6;have HS6:=zh (show w4.heap.size<w6.heap.size by omega);have hs03:w.heap.size≤w3.heap.size:=hb03.size;have hs34:w3.heap.size≤w4.heap.size:=hb4.size;have HI:=zh (indexOf_any v4 nd.attrs nm w6 hr6.zero (by omega));obtain⟨A4,c4,rfl⟩:=hr4.form;clear HC hr4 hr5 hr6 hX5 hX6 hb45 hb04 hb05 hb06 hb4 hb03 g6;go_wp2_with fail;(try rw[hw6]);go_wp2_with fail;refine HI.out.mono ?_;rintro e w7 ⟨rfl,hb7⟩;have hb07:=HB06.out.trans (hb7.mono HB06.out.size);have hX7:=HX6.out.below hb7 HX6.out.lt;have hr7:=HR6.out.below hb7;have hs7:w4.heap.size<w7.heap.size:=Nat.lt_of_lt_of_le HS6.out hb7.size;clear HI;have hgt:¬ atN nd.attrs nm<nd.attrs.length:=hcase;have hai:atI nd.attrs nm = -1:=by unfold atI;rw[if_neg hgt]
 have hset:setA nd.attrs nm (repB v)=nd.attrs++[(nm,repB v)]:=by unfold setA;rw[List.getElem?_eq_none (by omega)]
 have hold:oldA nd.attrs nm=⟨#[]⟩:=by unfold oldA;rw[List.getElem?_eq_none (by omega)]
 have hhad:hadA nd.attrs nm=false:=decide_eq_false hgt;have HSET:=zh (And.intro hset (And.intro hold hhad));rw[hai];clear hgt hcase hai hset hold hhad;obtain⟨w8,hw8⟩:∃ w8,w7.alloc (.cells #[.string nm,.string ⟨#[]⟩] 91)=w8:=⟨_,rfl⟩
 have hb78:Below w7.heap.size w7 w8:=bzA hw8;have hb08:=hb07.trans (hb78.mono hb07.size);have hr8:=hr7.below hb78;have hX8:=hX7.below hb78 hX7.lt;have hsrc:((.slice (some ⟨w7.heap.size,0,none⟩) 1 1:Value)=.slice none 0 0∧1=0)∨∃ a c,(.slice (some ⟨w7.heap.size,0,none⟩) 1 1:Value)=.slice (some a) 1 c∧∀ j u,(atC [(nm,(⟨#[]⟩:ByteArray))])[j]?=some u→w8.cell? (a.add j)=some u:=by
  rw[←hw8];exact one_source w7 91 (atC [(nm,(⟨#[]⟩:ByteArray))])
 have hs8:w3.heap.size≤w8.heap.size:=by have:=hb78.size;omega
 have HX8:=zh hX8;have HB08:=zh hb08;have HR8:=zh hr8;obtain⟨len,hlen⟩:∃ len,nd.attrs.length=len:=⟨_,rfl⟩
 have HLEN:=zh hlen;rw[hlen] at hl hr8;clear hr7 hX7 hb07 hb7 hb78 hb08 hX8 hlen;rw[HLEN.out]
 go_wp2_with (at_builtin;refine wpList_append_tail rfl _ _ 40 rfl w3.heap.size 91 i0 (.agg #[.string ⟨#[]⟩,.string ⟨#[]⟩]) 2 32 Tryz.underlying40 hi0 hz0 hz1 hz2 rfl (by decide) _ len (atC nd.attrs) rfl hr8 _ 1 (atC [(nm,(⟨#[]⟩:ByteArray))]) rfl rfl hsrc (atC_one _) ?c3 ?c4 hs8 ?_)
 case c3=>unfold maxLen;omega
 case c4=>omega
 intro v9 w9 o9 g9 f9;rw[←atC_append] at o9;have hne:(Value.slice A4 len c4).ownBlock≠some w4.heap.size:=hr8.unlike HX8.out (by decide);have hX9:=HX8.out.grown g9 (fun e=>hne e.symm);have hb09:Below w.heap.size w w9:=HB08.out.grown g9 HB08.out.size (fun j hj=>by have:=(hr8.lt j hj).1;omega);have hs9:w4.heap.size<w9.heap.size:=by have:=HX8.out.lt;have:=g9.size;omega
 have o9':TR w9 w3.heap.size 91 2 v9 (len+1) (atC (nd.attrs++[(nm,(⟨#[]⟩:ByteArray))])):=o9;obtain⟨A9,c9,rfl⟩:=o9'.form;obtain⟨ga,oa,rfl,hga,_⟩:=o9'.cells (by omega);have hgx:ga≠w4.heap.size:=fun e=>o9'.unlike hX9 (by decide) (by rw[e];rfl);have HX9:=zh hX9;have HB09:=zh hb09;have HR:=zh (trepair_any v w9 hv (hT.below hb09));have HO9:=zh o9';clear hX9 hb09 o9 o9' g9 f9 hr8 hsrc;have q1:(len:Int)<(len:Int)+1:=by omega
 have q1b:(len:Int)<((len+1:Nat):Int):=by omega
 have q0:(0:Int)≤(len:Int):=by omega
 go_wp2_with fail;refine HR.out.mono ?_;rintro e w10 ⟨rfl,hb10⟩;have hb010:=HB09.out.trans (hb10.mono HB09.out.size);have o10:=HO9.out.below hb10;have hX10:=HX9.out.below hb10 HX9.out.lt;have hs10:w4.heap.size<w10.heap.size:=Nat.lt_of_lt_of_le hs9 hb10.size;obtain⟨rv,hrv⟩:∃ rv,tstr (Txt.rep v.data.toList)=rv:=⟨_,rfl⟩
 have hrs:rv.size≤60000:=by
  rw[←hrv];have:=Txt.rep_len v.data.toList;have e1:v.data.toList.length=v.size:=rfl;have e2:(tstr (Txt.rep v.data.toList)).size=(Txt.rep v.data.toList).length:=tstr_size _;omega
 obtain⟨o11,g11⟩:=o10.stored (len*2+1) (.string rv);have hgt2:(nd.attrs++[(nm,(⟨#[]⟩:ByteArray))])[len]?=some (nm,⟨#[]⟩):=by rw[←HLEN.out];simp
 rw[atC_set _ _ _ hgt2] at o11;have hse:(nd.attrs++[(nm,(⟨#[]⟩:ByteArray))]).set len ((nm,(⟨#[]⟩:ByteArray)).1,rv)=setA nd.attrs nm (repB v):=by
  rw[HSET.out.1,show repB v=rv from hrv,←HLEN.out];simp
 rw[hse] at o11;have hl2:(setA nd.attrs nm (repB v)).length=len+1:=by rw[HSET.out.1,←HLEN.out];simp
 rw[←Nat.add_assoc] at o11 g11;have c10:w10.cell? ⟨ga,oa+len*2+1,none⟩=some (.string ⟨#[]⟩):=by
  have:=o10.cellAt (len*2+1) (.string ⟨#[]⟩) (by omega) (atC_get _ _ _ hgt2).2;rw[←Nat.add_assoc] at this;exact this
 have f10:=o10.frozen (oa+len*2+1);obtain⟨w11,hw11⟩:∃ w11,w10.setCell ⟨ga,oa+len*2+1,none⟩ (.string rv)=w11:=⟨_,rfl⟩
 rw[hw11] at o11 g11;have c11:w11.cell? ⟨ga,oa+len*2+1,none⟩=some (.string rv):=by
  have hp:(setA nd.attrs nm (repB v))[len]?=some (nm,rv):=by rw[HSET.out.1,show repB v=rv from hrv,←HLEN.out];simp
  have:=o11.cellAt (len*2+1) (.string rv) (by omega) (atC_get _ _ _ hp).2;rw[←Nat.add_assoc] at this;exact this
 have hX11:=hX10.grown g11 (fun e=>hgx (by injection e with e;exact e.symm));have hb011:Below w.heap.size w w11:=hb010.grown g11 hb010.size (fun j hj=>by injection hj with hj;omega);obtain⟨t20,t21⟩:=(HM.out w11 hb011).np HPT.out (Tr.raw_some HEG.out) 2 (by omega);have t22:w11.cell? ⟨gb,o+2,none⟩=some (.slice (av h).a (av h).n (av h).c):=t20;have hput:=(HM.out w11 hb011).put_attrs HSS.out (HAT.out w11 hb011) HPT.out HEG.out (fun n=>setA n.attrs nm (repB v)) ⟨some ⟨ga,oa,none⟩,len+1,c9⟩ (by
  show TR w11 0 _ 2 _ (setA nd.attrs nm (repB v)).length _
  rw[hl2];exact o11.zero)
 obtain⟨w12,hw12⟩:∃ w12,w11.setCell ⟨gb,o+2,none⟩ (.slice (some ⟨ga,oa,none⟩) (len+1) c9)=w12:=⟨_,rfl⟩
 rw[show (Tr.Sl.v ⟨some ⟨ga,oa,none⟩,len+1,c9⟩)=.slice (some ⟨ga,oa,none⟩) (len+1) c9 from rfl,hw12] at hput;have g12:w11.grownBy w12 (some gb):=by rw[←hw12];exact gb_put (gb_of_below (Below.refl w11.heap.size w11) _) _ _
 have hX12:=hX11.grown g12 (fun e=>by injection e with e;omega);have hBA:=(Below.refl _ w12).alloc (Nat.le_refl _) (.cells #[.int .i64 3,.int .i64 h,.int .i64 0,.int .i64 0,.int .i64 0,.int .i64 0,.string nm,.string ⟨#[]⟩,.bool false,.int .i64 0,.int .i64 0] 48);have HFIN:=zh (And.intro (rec_row w12 (attrRec h nm ⟨#[]⟩ false) w.heap.size (Nat.le_trans hb011.size g12.size)) (And.intro (hput.1.below hBA) (And.intro hput.2.1 (And.intro (hput.2.2.1.below hBA) (((AStep.of_below hb011).trans hput.2.2.2).trans (.of_below hBA))))));have s0:w12.cell? ⟨w4.heap.size,0,none⟩=some (.int .i64 3):=hX12.cell 0;have sf0:=hX12.free 0;have s1:w12.cell? ⟨w4.heap.size,1,none⟩=some (.int .i64 h):=hX12.cell 1;have sf1:=hX12.free 1;have s2:w12.cell? ⟨w4.heap.size,2,none⟩=some (.int .i64 0):=hX12.cell 2;have sf2:=hX12.free 2;have s3:w12.cell? ⟨w4.heap.size,3,none⟩=some (.int .i64 0):=hX12.cell 3;have sf3:=hX12.free 3;have s4:w12.cell? ⟨w4.heap.size,4,none⟩=some (.int .i64 0):=hX12.cell 4;have sf4:=hX12.free 4;have s5:w12.cell? ⟨w4.heap.size,5,none⟩=some (.int .i64 0):=hX12.cell 5;have sf5:=hX12.free 5;have s6:w12.cell? ⟨w4.heap.size,6,none⟩=some (.string nm):=hX12.cell 6;have sf6:=hX12.free 6;have s7:w12.cell? ⟨w4.heap.size,7,none⟩=some (.string ⟨#[]⟩):=hX12.cell 7;have sf7:=hX12.free 7;have s8:w12.cell? ⟨w4.heap.size,8,none⟩=some (.bool false):=hX12.cell 8;have sf8:=hX12.free 8;have s9:w12.cell? ⟨w4.heap.size,9,none⟩=some (.int .i64 0):=hX12.cell 9;have sf9:=hX12.free 9;have s10:w12.cell? ⟨w4.heap.size,10,none⟩=some (.int .i64 0):=hX12.cell 10;have sf10:=hX12.free 10;have HRV:=zh hrv;have q2:¬ (64:Int)<(len:Int)+1:=by omega
 have q2b:¬ (64:Int)<((len+1:Nat):Int):=by omega
 have q3:¬ (1048576:Int)<(rv.size:Int):=by omega
 rw[hrv];clear hX10 hX11 hX12 o10 o11 g11 g12 hput hb010 hb011 hb10 hBA hse hl2 hgt2 t20 hrv hrs;go_wp2_with fail;(try rw[hw11]);go_wp2_with fail;(try rw[hw12]);go_wp2_with fail;go_ret2;obtain⟨z1,z2,z3,z4,z5⟩:=HFIN.out;refine⟨_,⟨some ⟨ga,oa,none⟩,len+1,c9⟩,rfl,?_,z2,z3,z4,z5⟩;rw[HSET.out.2.1,HSET.out.2.2];exact z1
theorem psattr_old (base B:Nat) (b s root h:Int) (live n:Nat) (g:Tr.G) (av:Int→Tr.Sl) (fr:List Nat) (vs vf:Value) (nd:Tr.GN) (nm v:ByteArray) (w:World) (hm:TV base w B b s vs n (Tr.raw g av) vf fr live root) (hS:Sound b s n (Tr.raw g av) fr live) (ha:AT w g av) (hk:∀ x m,g x=some m→m.kind≠0) (eg:g h=some nd) (he:nd.kind=2) (hl:nd.attrs.length≤63) (hn:nm.size≤20000) (hv:v.size≤20000) (hT:Lit w) (hb:Nm.attr nm=true) (hcase:atN nd.attrs nm<nd.attrs.length):
  Calls Tryz.prog 22 #[.pointer (some ⟨B,0,none⟩),.int .i64 h,.string nm,.string v] w fun e w'=>∃ r sl,e=.returned (.tuple #[r,.int .i64 0])∧RecRow w.heap.size w' r [attrRec h nm (oldA nd.attrs nm) (hadA nd.attrs nm)]∧
   TV base w' B b s vs n (Tr.raw (Tr.putG g h fun n=>{ n with attrs:=setA n.attrs nm (repB v) }) (Tr.addA av h sl)) vf fr live root∧Sound b s n (Tr.raw (Tr.putG g h fun n=>{ n with attrs:=setA n.attrs nm (repB v) }) (Tr.addA av h sl)) fr live∧
   AT w' (Tr.putG g h fun n=>{ n with attrs:=setA n.attrs nm (repB v) }) (Tr.addA av h sl)∧AStep w w' (Foot B vs vf) (Foot B vs vf):=by
 obtain⟨i0,hi0,hz0,hz1,hz2⟩:=info_parts attrInfo;have hE:=elemErr_any base B b s root h live n g av fr vs vf w hm hS ((tmem_i64 hS (h:=h) (by rw[raw_isSome,eg];rfl)).1) hk;have he0:elemE g h=0:=by unfold elemE;rw[eg];exact if_pos he
 rw[he0] at hE;have HV:=zh (fun (W:World) (hT:Lit W)=>attrName_any nm W hn hT);rw[hb] at HV;have HM:=zh (fun (W:World) (hb:Below w.heap.size w W)=>hm.below hb);have HA:=zh (fun (W:World) (hb:Below w.heap.size w W)=>at_tv base B b s root h live n _ fr vs vf _ W (hm.below hb) hS (Tr.raw_some eg));have HAT:=zh (fun (W:World) (hb:Below w.heap.size w W)=>(ha.below hb));have HFL:=zh hm.lt;have HSS:=zh hS;have HEG:=zh eg;clear he0 hm ha hS he hk
 go_enter Tryz.func22,Tryz.ntmps22
 go_wp2_with fail;refine hE.mono ?_;rintro e w1 ⟨rfl,hb1⟩;have HV1:=HV.out w1 (hT.below hb1);clear hE HV;go_wp2_with fail;refine HV1.mono ?_;rintro e w2 ⟨rfl,hb2⟩;have hb02:=hb1.trans (hb2.mono hb1.size);have HA2:=HA.out w2 hb02;clear HV1 hb1 hb2 HA;go_wp2_with fail;refine HA2.mono ?_;rintro e w3 ⟨gb,o,rfl,hpt,hb3⟩;have hb03:=hb02.trans (hb3.mono hb02.size);obtain⟨_,_,t2,_⟩:=((HM.out w3 hb03).np hpt (Tr.raw_some HEG.out)).cells;rw[show (Tr.raw1 g av h nd).av=av h from rfl] at t2;have hgw:gb<w.heap.size:=(HFL.out gb hpt.foot).2;have HPT:=zh hpt;have hat:=HAT.out w3 hb03 h nd HEG.out;have HC:=zh (aclone_any _ nd.attrs w3 hat (by omega));clear HA2 hb02 hb3 hpt hat;go_wp2_with fail;refine HC.out.mono ?_;rintro e w4 ⟨v4,rfl,hr4,hb4⟩;have hb04:=hb03.trans (hb4.mono hb03.size);obtain⟨w5,hw5⟩:∃ w5,w4.alloc (.cells #[.int .i64 0,.int .i64 0,.int .i64 0,.int .i64 0,.int .i64 0,.int .i64 0,.string ⟨#[]⟩,.string ⟨#[]⟩,.bool false,.int .i64 0,.int .i64 0] 48)=w5:=⟨_,rfl⟩
 have hb45:Below w4.heap.size w4 w5:=bzA hw5;have hz5:w5.heap.size=w4.heap.size+1:=by rw[←hw5];simp
 have hX5:Whole w5 w4.heap.size #[.int .i64 0,.int .i64 0,.int .i64 0,.int .i64 0,.int .i64 0,.int .i64 0,.string ⟨#[]⟩,.string ⟨#[]⟩,.bool false,.int .i64 0,.int .i64 0] 48:=by rw[←hw5];exact Whole.new w4 _ _
 have hr5:=hr4.below hb45;have hb05:=hb04.trans (hb45.mono hb04.size);have y0:w5.cell? ⟨w4.heap.size,0,none⟩=some (.int .i64 0):=hX5.cell 0;have yf0:=hX5.free 0;have y1:w5.cell? ⟨w4.heap.size,1,none⟩=some (.int .i64 0):=hX5.cell 1;have yf1:=hX5.free 1;have y2:w5.cell? ⟨w4.heap.size,2,none⟩=some (.int .i64 0):=hX5.cell 2;have yf2:=hX5.free 2;have y3:w5.cell? ⟨w4.heap.size,3,none⟩=some (.int .i64 0):=hX5.cell 3;have yf3:=hX5.free 3;have y4:w5.cell? ⟨w4.heap.size,4,none⟩=some (.int .i64 0):=hX5.cell 4;have yf4:=hX5.free 4;have y5:w5.cell? ⟨w4.heap.size,5,none⟩=some (.int .i64 0):=hX5.cell 5;have yf5:=hX5.free 5;have y6:w5.cell? ⟨w4.heap.size,6,none⟩=some (.string ⟨#[]⟩):=hX5.cell 6;have yf6:=hX5.free 6;have y7:w5.cell? ⟨w4.heap.size,7,none⟩=some (.string ⟨#[]⟩):=hX5.cell 7;have yf7:=hX5.free 7;have y8:w5.cell? ⟨w4.heap.size,8,none⟩=some (.bool false):=hX5.cell 8;have yf8:=hX5.free 8;have y9:w5.cell? ⟨w4.heap.size,9,none⟩=some (.int .i64 0):=hX5.cell 9;have yf9:=hX5.free 9;have y10:w5.cell? ⟨w4.heap.size,10,none⟩=some (.int .i64 0):=hX5.cell 10;have yf10:=hX5.free 10;obtain⟨w6,hw6,hX6,g6⟩:=box11 hX5 (.int .i64 3) (.int .i64 h) (.int .i64 0) (.int .i64 0) (.int .i64 0) (.int .i64 0) (.string nm) (.string ⟨#[]⟩) (.bool false) (.int .i64 0) (.int .i64 0);have hs4:w.heap.size≤w4.heap.size:=hb04.size;have hb06:Below w.heap.size w w6:=hb05.grown g6 hb05.size (fun j hj=>by simp at hj;omega);have hs6:=g6.size;have hr6:AR w6 w3.heap.size v4 nd.attrs:=hr5.kept g6 (.inr (hr5.unlike hX5 (by decide)));have HX6:=zh hX6;have HB06:=zh hb06;have HR6:=zh hr6;have HS6:=zh (show w4.heap.size<w6.heap.size by omega);have hs03:w.heap.size≤w3.heap.size:=hb03.size;have hs34:w3.heap.size≤w4.heap.size:=hb4.size;have HI:=zh (indexOf_any v4 nd.attrs nm w6 hr6.zero (by omega));obtain⟨A4,c4,rfl⟩:=hr4.form;clear HC hr4 hr5 hr6 hX5 hX6 hb45 hb04 hb05 hb06 hb4 hb03 g6;go_wp2_with fail;(try rw[hw6]);go_wp2_with fail;refine HI.out.mono ?_;rintro e w7 ⟨rfl,hb7⟩;have hb07:=HB06.out.trans (hb7.mono HB06.out.size);have hX7:=HX6.out.below hb7 HX6.out.lt;have hr7:=HR6.out.below hb7;have hs7:w4.heap.size<w7.heap.size:=Nat.lt_of_lt_of_le HS6.out hb7.size;clear HI;have hlt:atN nd.attrs nm<nd.attrs.length:=hcase;obtain⟨k,hkk⟩:∃ k,atN nd.attrs nm=k:=⟨_,rfl⟩
 obtain⟨p,hp⟩:∃ p,nd.attrs[k]?=some p:=⟨nd.attrs[k]'(by omega),by simp⟩
 have hai:atI nd.attrs nm=(k:Int):=by unfold atI;rw[if_pos hlt,hkk]
 have hset:setA nd.attrs nm (repB v)=nd.attrs.set k (p.1,repB v):=by unfold setA;rw[hkk,hp]
 have hold:oldA nd.attrs nm=p.2:=by unfold oldA;rw[hkk,hp]
 have hhad:hadA nd.attrs nm=true:=decide_eq_true hlt;have HSET:=zh (And.intro hset (And.intro hold (And.intro hhad hp)));have hkl:k<nd.attrs.length:=by omega
 rw[hai];clear hlt hcase hai hset hold hhad hkk;obtain⟨len,hlen⟩:∃ len,nd.attrs.length=len:=⟨_,rfl⟩
 have HLEN:=zh hlen;obtain⟨ga,oa,rfl,_,c71,c72⟩:=AR.at hr7 hp;have hr7':TR w7 w3.heap.size 91 2 (.slice (some ⟨ga,oa,none⟩) len c4) len (atC nd.attrs):=by rw[←hlen];exact hr7
 have hgx:ga≠w4.heap.size:=fun e=>hr7'.unlike hX7 (by decide) (by rw[e];rfl);have hga:w3.heap.size≤ga:=(hr7'.lt ga rfl).1;rw[hlen] at hl hkl;rw[HLEN.out];have x0:w7.cell? ⟨w4.heap.size,0,none⟩=some (.int .i64 3):=hX7.cell 0;have xf0:=hX7.free 0;have x1:w7.cell? ⟨w4.heap.size,1,none⟩=some (.int .i64 h):=hX7.cell 1;have xf1:=hX7.free 1;have x2:w7.cell? ⟨w4.heap.size,2,none⟩=some (.int .i64 0):=hX7.cell 2;have xf2:=hX7.free 2;have x3:w7.cell? ⟨w4.heap.size,3,none⟩=some (.int .i64 0):=hX7.cell 3;have xf3:=hX7.free 3;have x4:w7.cell? ⟨w4.heap.size,4,none⟩=some (.int .i64 0):=hX7.cell 4;have xf4:=hX7.free 4;have x5:w7.cell? ⟨w4.heap.size,5,none⟩=some (.int .i64 0):=hX7.cell 5;have xf5:=hX7.free 5;have x6:w7.cell? ⟨w4.heap.size,6,none⟩=some (.string nm):=hX7.cell 6;have xf6:=hX7.free 6;have x7:w7.cell? ⟨w4.heap.size,7,none⟩=some (.string ⟨#[]⟩):=hX7.cell 7;have xf7:=hX7.free 7;have x8:w7.cell? ⟨w4.heap.size,8,none⟩=some (.bool false):=hX7.cell 8;have xf8:=hX7.free 8;have x9:w7.cell? ⟨w4.heap.size,9,none⟩=some (.int .i64 0):=hX7.cell 9;have xf9:=hX7.free 9;have x10:w7.cell? ⟨w4.heap.size,10,none⟩=some (.int .i64 0):=hX7.cell 10;have xf10:=hX7.free 10;obtain⟨w9,hw9⟩:∃ w9,((w7.setCell ⟨w4.heap.size,8,none⟩ (.bool true)).setCell ⟨w4.heap.size,7,none⟩ (.string p.2)).drew=w9:=⟨_,rfl⟩
 have hXa:Whole (w7.setCell ⟨w4.heap.size,8,none⟩ (.bool true)) w4.heap.size #[.int .i64 3,.int .i64 h,.int .i64 0,.int .i64 0,.int .i64 0,.int .i64 0,.string nm,.string ⟨#[]⟩,.bool true,.int .i64 0,.int .i64 0] 48:=hX7.put 8 (.bool true);have hXb:Whole ((w7.setCell ⟨w4.heap.size,8,none⟩ (.bool true)).setCell ⟨w4.heap.size,7,none⟩ (.string p.2)).drew w4.heap.size #[.int .i64 3,.int .i64 h,.int .i64 0,.int .i64 0,.int .i64 0,.int .i64 0,.string nm,.string p.2,.bool true,.int .i64 0,.int .i64 0] 48:=hXa.put 7 (.string p.2);have g9:w7.grownBy w9 (some w4.heap.size):=by
  rw[←hw9];have g:=gb_put (gb_put (gb_of_below (Below.refl w7.heap.size w7) (some w4.heap.size)) 8 (.bool true)) 7 (.string p.2);exact⟨g.os,g.tape,g.output,g.size,g.block⟩
 rw[hw9] at hXb;have hb09:Below w.heap.size w w9:=hb07.grown g9 hb07.size (fun j hj=>by injection hj with hj;omega);have hs9:w4.heap.size<w9.heap.size:=by have:=g9.size;omega
 have o9':TR w9 w3.heap.size 91 2 (.slice (some ⟨ga,oa,none⟩) len c4) len (atC nd.attrs):=hr7'.kept g9 (.inr (fun e=>hgx (by injection e)));have hX9:=hXb;have HX9:=zh hX9;have HB09:=zh hb09;have HR:=zh (trepair_any v w9 hv (hT.below hb09));have HO9:=zh o9';have q1:(k:Int)<(len:Int):=by omega
 have q0:(0:Int)≤(k:Int):=by omega
 have q4:¬ (k:Int)<0:=by omega
 clear hX9 hXb hXa hb09 o9' g9 hr7 hr7' hb07 hb7 hX7 hp hlen;go_wp2_with fail
 go_region
 (try rw[hw9]);go_wp2_with fail;refine HR.out.mono ?_;rintro e w10 ⟨rfl,hb10⟩;have hb010:=HB09.out.trans (hb10.mono HB09.out.size);have o10:=HO9.out.below hb10;have hX10:=HX9.out.below hb10 HX9.out.lt;have hs10:w4.heap.size<w10.heap.size:=Nat.lt_of_lt_of_le hs9 hb10.size;obtain⟨rv,hrv⟩:∃ rv,tstr (Txt.rep v.data.toList)=rv:=⟨_,rfl⟩
 have hrs:rv.size≤60000:=by
  rw[←hrv];have:=Txt.rep_len v.data.toList;have e1:v.data.toList.length=v.size:=rfl;have e2:(tstr (Txt.rep v.data.toList)).size=(Txt.rep v.data.toList).length:=tstr_size _;omega
 obtain⟨o11,g11⟩:=o10.stored (k*2+1) (.string rv);have hgt2:nd.attrs[k]?=some p:=HSET.out.2.2.2;rw[atC_set _ _ _ hgt2] at o11;have hse:nd.attrs.set k (p.1,rv)=setA nd.attrs nm (repB v):=by rw[HSET.out.1,show repB v=rv from hrv]
 rw[hse] at o11;have hl2:(setA nd.attrs nm (repB v)).length=len:=by rw[HSET.out.1,←HLEN.out];simp
 rw[←Nat.add_assoc] at o11 g11;have c10:w10.cell? ⟨ga,oa+k*2+1,none⟩=some (.string p.2):=by
  have:=o10.cellAt (k*2+1) (.string p.2) (by omega) (atC_get _ _ _ hgt2).2;rw[←Nat.add_assoc] at this;exact this
 have f10:=o10.frozen (oa+k*2+1);obtain⟨w11,hw11⟩:∃ w11,w10.setCell ⟨ga,oa+k*2+1,none⟩ (.string rv)=w11:=⟨_,rfl⟩
 rw[hw11] at o11 g11;have c11:w11.cell? ⟨ga,oa+k*2+1,none⟩=some (.string rv):=by
  have hp:(setA nd.attrs nm (repB v))[k]?=some (p.1,rv):=by
   have hkl2:k<nd.attrs.length:=by rw[HLEN.out];exact hkl
   rw[HSET.out.1,show repB v=rv from hrv];simp[hkl2]
  have:=o11.cellAt (k*2+1) (.string rv) (by omega) (atC_get _ _ _ hp).2;rw[←Nat.add_assoc] at this;exact this
 have hX11:=hX10.grown g11 (fun e=>hgx (by injection e with e;exact e.symm));have hb011:Below w.heap.size w w11:=hb010.grown g11 hb010.size (fun j hj=>by injection hj with hj;omega);obtain⟨t20,t21⟩:=(HM.out w11 hb011).np HPT.out (Tr.raw_some HEG.out) 2 (by omega);have t22:w11.cell? ⟨gb,o+2,none⟩=some (.slice (av h).a (av h).n (av h).c):=t20;have hput:=(HM.out w11 hb011).put_attrs HSS.out (HAT.out w11 hb011) HPT.out HEG.out (fun n=>setA n.attrs nm (repB v)) ⟨some ⟨ga,oa,none⟩,len,c4⟩ (by
  show TR w11 0 _ 2 _ (setA nd.attrs nm (repB v)).length _
  rw[hl2];exact o11.zero)
 obtain⟨w12,hw12⟩:∃ w12,w11.setCell ⟨gb,o+2,none⟩ (.slice (some ⟨ga,oa,none⟩) len c4)=w12:=⟨_,rfl⟩
 rw[show (Tr.Sl.v ⟨some ⟨ga,oa,none⟩,len,c4⟩)=.slice (some ⟨ga,oa,none⟩) len c4 from rfl,hw12] at hput;have g12:w11.grownBy w12 (some gb):=by rw[←hw12];exact gb_put (gb_of_below (Below.refl w11.heap.size w11) _) _ _
 have hX12:=hX11.grown g12 (fun e=>by injection e with e;omega);have hBA:=(Below.refl _ w12).alloc (Nat.le_refl _) (.cells #[.int .i64 3,.int .i64 h,.int .i64 0,.int .i64 0,.int .i64 0,.int .i64 0,.string nm,.string p.2,.bool true,.int .i64 0,.int .i64 0] 48);have HFIN:=zh (And.intro (rec_row w12 (attrRec h nm p.2 true) w.heap.size (Nat.le_trans hb011.size g12.size)) (And.intro (hput.1.below hBA) (And.intro hput.2.1 (And.intro (hput.2.2.1.below hBA) (((AStep.of_below hb011).trans hput.2.2.2).trans (.of_below hBA))))));have s0:w12.cell? ⟨w4.heap.size,0,none⟩=some (.int .i64 3):=hX12.cell 0;have sf0:=hX12.free 0;have s1:w12.cell? ⟨w4.heap.size,1,none⟩=some (.int .i64 h):=hX12.cell 1;have sf1:=hX12.free 1;have s2:w12.cell? ⟨w4.heap.size,2,none⟩=some (.int .i64 0):=hX12.cell 2;have sf2:=hX12.free 2;have s3:w12.cell? ⟨w4.heap.size,3,none⟩=some (.int .i64 0):=hX12.cell 3;have sf3:=hX12.free 3;have s4:w12.cell? ⟨w4.heap.size,4,none⟩=some (.int .i64 0):=hX12.cell 4;have sf4:=hX12.free 4;have s5:w12.cell? ⟨w4.heap.size,5,none⟩=some (.int .i64 0):=hX12.cell 5;have sf5:=hX12.free 5;have s6:w12.cell? ⟨w4.heap.size,6,none⟩=some (.string nm):=hX12.cell 6;have sf6:=hX12.free 6;have s7:w12.cell? ⟨w4.heap.size,7,none⟩=some (.string p.2):=hX12.cell 7;have sf7:=hX12.free 7;have s8:w12.cell? ⟨w4.heap.size,8,none⟩=some (.bool true):=hX12.cell 8;have sf8:=hX12.free 8;have s9:w12.cell? ⟨w4.heap.size,9,none⟩=some (.int .i64 0):=hX12.cell 9;have sf9:=hX12.free 9;have s10:w12.cell? ⟨w4.heap.size,10,none⟩=some (.int .i64 0):=hX12.cell 10;have sf10:=hX12.free 10;have HRV:=zh hrv;have q2:¬ (64:Int)<(len:Int):=by omega
 have q3:¬ (1048576:Int)<(rv.size:Int):=by omega
 rw[hrv];clear hX10 hX11 hX12 o10 o11 g11 g12 hput hb010 hb011 hb10 hBA hse hl2 hgt2 t20 hrv hrs;go_wp2_with fail;(try rw[hw11]);go_wp2_with fail;(try rw[hw12]);go_wp2_with fail;go_ret2;obtain⟨z1,z2,z3,z4,z5⟩:=HFIN.out;refine⟨_,⟨some ⟨ga,oa,none⟩,len,c4⟩,rfl,?_,z2,z3,z4,z5⟩;rw[HSET.out.2.1,HSET.out.2.2.1];exact z1
end
end Go.Proofs.YtaigmpkcdjbpiaaGreatDoor
