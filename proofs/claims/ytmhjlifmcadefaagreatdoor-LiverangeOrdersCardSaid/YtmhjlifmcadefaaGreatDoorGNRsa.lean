/- Part of a proof about trees. -/
import Derived.Test.YtmhjlifmcadefaaGreatDoorS03
set_option linter.unusedVariables false
set_option linter.unusedSimpArgs false
set_option maxHeartbeats 2000000
set_option maxRecDepth 100000
namespace Go.Proofs.YtmhjlifmcadefaaGreatDoor
section
open Go.RowKit
theorem Ze {G X:Prop} (use:X→G) (k:X):G:=use k
theorem pQ:(Tryz.prog.info? 96).map (fun i=>(i.zero,i.size,i.bytes))=some (some (.agg #[.string ⟨#[]⟩,.string ⟨#[]⟩]),2,32):=by kernel_rfl
def fK (i:Nat) (nm old:ByteArray) (had:Bool):Tr.Rec:=⟨3,i,-1,-1,-1,0,nm,old,had,0,0⟩
theorem MV.rd {base M m g c:Nat} {f:Nat→RS} {w:World} (h:MV base w M (.slice (some ⟨g,0,none⟩) m c) m f) {i:Nat} (hi:i<m):
  w.cell? ⟨M,0,none⟩=some (.slice (some ⟨g,0,none⟩) m c)∧w.cell? ⟨g,i*7,none⟩=some (.int .i64 (f i).kind)∧w.cell? ⟨g,i*7+1,none⟩=some (.string (f i).name)∧w.cell? ⟨g,i*7+2,none⟩=some (.slice (f i).a.a (f i).at'.length (f i).a.c)∧w.cell? ⟨g,i*7+3,none⟩=some (.string (f i).data)∧w.cell? ⟨g,i*7+4,none⟩=some (.int .i64 (f i).pa)∧w.cell? ⟨g,i*7+5,none⟩=some (.slice (f i).k.a (f i).kids.length (f i).k.c)∧w.cell? ⟨g,i*7+6,none⟩=some (.bool (f i).gone):=by
 obtain⟨g',e,c0,c1,c2,c3,c4,c5,c6⟩:=h.read hi;obtain rfl:g=g':=by injection e with e;injection e
 rw[h.an hi] at c2;rw[h.kn hi] at c5;exact⟨h.cell.1,c0,c1,c2,c3,c4,c5,c6⟩
theorem MV.fz {base M m g c:Nat} {f:Nat→RS} {w:World} (h:MV base w M (.slice (some ⟨g,0,none⟩) m c) m f) (j:Nat):w.frozen? ⟨g,j,none⟩=false:=h.row.frozenAt _
theorem Jr (base M m:Nat) (vs:Value) (f:Nat→RS) (i:Nat) (nm v:ByteArray) (w:World) (h:MV base w M vs m f) (hi:i<m) (hk:(f i).kind≠2):
  Calls Tryz.prog 38 #[.pointer (some ⟨M,0,none⟩),.int .i64 (i:Int),.string nm,.string v] w fun e w'=>e=.returned (nW 10)∧w'=w:=by
 obtain⟨A,c,rfl⟩:=h.form;obtain⟨g,rfl,-⟩:=h.read hi;obtain⟨k0,c0,_⟩:=h.rd hi;have q1:(0:Int)≤(i:Int):=by omega
 have q2:(i:Int)<(m:Int):=by omega
 have q3:=bne_true hk;clear h hk
 go_enter Tryz.func38,Tryz.ntmps38
 go_wp2_with fail;go_ret2;exact⟨rfl,rfl⟩
theorem Jk (base M m:Nat) (vs:Value) (f:Nat→RS) (i:Nat) (nm v:ByteArray) (w:World) (h:MV base w M vs m f) (hi:i<m) (hk:(f i).kind=2) (hn:nm.size≤10000) (hb:Nm.attr nm=false):
  Calls Tryz.prog 38 #[.pointer (some ⟨M,0,none⟩),.int .i64 (i:Int),.string nm,.string v] w fun e w'=>e=.returned (nW 1)∧Below w.heap.size w w':=by
 obtain⟨A,c,rfl⟩:=h.form;obtain⟨g,rfl,-⟩:=h.read hi;obtain⟨k0,c0,_⟩:=h.rd hi;rw[hk] at c0;have q1:(0:Int)≤(i:Int):=by omega
 have q2:(i:Int)<(m:Int):=by omega
 have HH:=zh (om nm w hn);rw[hb] at HH;clear h hk
 go_enter Tryz.func38,Tryz.ntmps38
 go_wp2_with fail;refine HH.out.mono ?_;rintro e w1 ⟨rfl,hb1⟩;clear HH;go_wp2_with fail;go_ret2;exact⟨rfl,hb1⟩
theorem Jm (base M m:Nat) (vs:Value) (f:Nat→RS) (i:Nat) (nm v:ByteArray) (w:World) (h:MV base w M vs m f) (hi:i<m) (hm:m≤100000) (hk:(f i).kind=2) (hn:nm.size≤10000) (hv:v.size≤10000) (hl:(f i).at'.length≤1000) (hb:Nm.attr nm=true) (hcase:oZ (f i).at' nm<(f i).at'.length):
  Calls Tryz.prog 38 #[.pointer (some ⟨M,0,none⟩),.int .i64 (i:Int),.string nm,.string v] w fun e w'=>∃ r sl,e=.returned (.tuple #[r,.int .i64 0])∧jN w.heap.size w' r [fK i nm (lD (f i).at' nm) (vw (f i).at' nm)]∧
   MV base w' M vs m (aX f i fun n=>{ n with a:=sl,at':=gF (f i).at' nm (aZ v) })∧aB w w' (aC M vs m f) (aC M vs m (aX f i fun n=>{ n with a:=sl,at':=gF (f i).at' nm (aZ v) })):=by
 obtain⟨i0,hi0,hz0,hz1,hz2⟩:=info_parts pQ;obtain⟨A,c,rfl⟩:=h.form;obtain⟨g,rfl,-⟩:=h.read hi;obtain⟨k0,c0,_⟩:=h.rd hi;rw[hk] at c0;have q1:(0:Int)≤(i:Int):=by omega
 have q2:(i:Int)<(m:Int):=by omega
 have HH:=zh (om nm w hn);rw[hb] at HH;have HM:=zh (fun (W:World) (hb:Below w.heap.size w W)=>h.below hb);have hgl:g<w.heap.size:=(h.row.lt g rfl).2;have YL:M<w.heap.size:=h.var.lt;have uJ:=zh h.lt;have VK:=zh (h.ar i hi);have Uy:=zh (h.an hi);have hMb:base≤w.heap.size:=by have:=h.low;omega
 clear h hk
 go_enter Tryz.func38,Tryz.ntmps38
 go_wp2_with fail;refine HH.out.mono ?_;rintro e w1 ⟨rfl,hb1⟩;have HR:=zh (kC v w1 hv);clear HH;go_wp2_with fail;refine HR.out.mono ?_;rintro e w2 ⟨rfl,hb2⟩;have dV:=hb1.trans (hb2.mono hb1.size);obtain⟨rv,mW⟩:=eX (fB (bB.rep v.data.toList))
 have Lf:=zh mW;rw[mW];have HF:=zh (tH base M m _ f i nm w2 (HM.out w2 dV) hi hm hl);clear HR hb1 hb2 mW;go_wp2_with fail;refine HF.out.mono ?_;rintro e w2' ⟨rfl,JH⟩;obtain rfl:=JH.symm;clear HF;obtain⟨w3,hw3⟩:=eX (w2.alloc (.cells #[.int .i64 0,.int .i64 0,.int .i64 0,.int .i64 0,.int .i64 0,.int .i64 0,.string ⟨#[]⟩,.string ⟨#[]⟩,.bool false,.int .i64 0,.int .i64 0] 147))
 have hb3:Below w2.heap.size w2 w3:=fI hw3;have aW:Whole w3 w2.heap.size #[.int .i64 0,.int .i64 0,.int .i64 0,.int .i64 0,.int .i64 0,.int .i64 0,.string ⟨#[]⟩,.string ⟨#[]⟩,.bool false,.int .i64 0,.int .i64 0] 147:=by rw[←hw3];exact Whole.new w2 _ _
 have dA:=dV.trans (hb3.mono dV.size);have hs2:w.heap.size≤w2.heap.size:=dV.size;have y0:w3.cell? ⟨w2.heap.size,0,none⟩=some (.int .i64 0):=aW.cell 0;have yZ:=aW.free 0;have y1:w3.cell? ⟨w2.heap.size,1,none⟩=some (.int .i64 0):=aW.cell 1;have za:=aW.free 1;have y2:w3.cell? ⟨w2.heap.size,2,none⟩=some (.int .i64 0):=aW.cell 2;have CZ:=aW.free 2;have y3:w3.cell? ⟨w2.heap.size,3,none⟩=some (.int .i64 0):=aW.cell 3;have C8:=aW.free 3;have y4:w3.cell? ⟨w2.heap.size,4,none⟩=some (.int .i64 0):=aW.cell 4;have C9:=aW.free 4;have y5:w3.cell? ⟨w2.heap.size,5,none⟩=some (.int .i64 0):=aW.cell 5;have Da:=aW.free 5;have y6:w3.cell? ⟨w2.heap.size,6,none⟩=some (.string ⟨#[]⟩):=aW.cell 6;have Db:=aW.free 6;have y7:w3.cell? ⟨w2.heap.size,7,none⟩=some (.string ⟨#[]⟩):=aW.cell 7;have Dc:=aW.free 7;have y8:w3.cell? ⟨w2.heap.size,8,none⟩=some (.bool false):=aW.cell 8;have Df:=aW.free 8;have y9:w3.cell? ⟨w2.heap.size,9,none⟩=some (.int .i64 0):=aW.cell 9;have FN:=aW.free 9;have wT:w3.cell? ⟨w2.heap.size,10,none⟩=some (.int .i64 0):=aW.cell 10;have qZ:=aW.free 10;obtain⟨w4,hw4,bI,g4⟩:=kJ aW (.int .i64 3) (.int .i64 (i:Int)) (.int .i64 (-1)) (.int .i64 (-1)) (.int .i64 (-1)) (.int .i64 0) (.string nm) (.string ⟨#[]⟩) (.bool false) (.int .i64 0) (.int .i64 0);have bU:Below w.heap.size w w4:=dA.grown g4 dA.size (fun j hj=>by simp at hj;omega);have hs4:w2.heap.size<w4.heap.size:=by have:=aW.lt;have:=g4.size;omega
 obtain⟨k4,_,_,Zf,_⟩:=(HM.out w4 bU).rd hi;obtain⟨k,hkk⟩:=eX (oZ (f i).at' nm)
 rw[hkk] at hcase;obtain⟨p,hp⟩:∃ p,(f i).at'[k]?=some p:=⟨(f i).at'[k]'(by omega),by simp⟩
 have hai:yO (f i).at' nm=(k:Int):=by unfold yO;rw[hkk,if_pos hcase]
 have hset:gF (f i).at' nm (aZ v)=(f i).at'.set k (p.1,aZ v):=by unfold gF;rw[hkk,hp]
 have hold:lD (f i).at' nm=p.2:=by unfold lD;rw[hkk,hp]
 have AO:vw (f i).at' nm=true:=decide_eq_true (by rw[hkk];exact hcase);have pW:=zh (And.intro hset (And.intro hold (And.intro AO hp)));rw[hai];obtain⟨ga,oa,hA,a41,a42⟩:=(HM.out w4 bU).attr hi hp;rw[hA] at Zf;have abT:ga<w.heap.size:=(uJ.out ga (.inr (.inr ⟨i,hi,.inl (by unfold Tr.Sl.v;rw[hA];rfl)⟩))).2;obtain⟨len,hlen⟩:=eX ((f i).at'.length)
 have HLEN:=zh hlen;rw[hlen] at Zf hcase hl;have p1:(k:Int)<(len:Int):=by omega
 have p0:(0:Int)≤(k:Int):=by omega
 have x0:w4.cell? ⟨w2.heap.size,0,none⟩=some (.int .i64 3):=bI.cell 0;have xf0:=bI.free 0;have x1:w4.cell? ⟨w2.heap.size,1,none⟩=some (.int .i64 (i:Int)):=bI.cell 1;have xf1:=bI.free 1;have x2:w4.cell? ⟨w2.heap.size,2,none⟩=some (.int .i64 (-1)):=bI.cell 2;have xf2:=bI.free 2;have x3:w4.cell? ⟨w2.heap.size,3,none⟩=some (.int .i64 (-1)):=bI.cell 3;have xf3:=bI.free 3;have x4:w4.cell? ⟨w2.heap.size,4,none⟩=some (.int .i64 (-1)):=bI.cell 4;have xf4:=bI.free 4;have x5:w4.cell? ⟨w2.heap.size,5,none⟩=some (.int .i64 0):=bI.cell 5;have xf5:=bI.free 5;have x6:w4.cell? ⟨w2.heap.size,6,none⟩=some (.string nm):=bI.cell 6;have xf6:=bI.free 6;have x7:w4.cell? ⟨w2.heap.size,7,none⟩=some (.string ⟨#[]⟩):=bI.cell 7;have xf7:=bI.free 7;have x8:w4.cell? ⟨w2.heap.size,8,none⟩=some (.bool false):=bI.cell 8;have xf8:=bI.free 8;have x9:w4.cell? ⟨w2.heap.size,9,none⟩=some (.int .i64 0):=bI.cell 9;have xf9:=bI.free 9;have x10:w4.cell? ⟨w2.heap.size,10,none⟩=some (.int .i64 0):=bI.cell 10;have xf10:=bI.free 10;obtain⟨w5,fE⟩:=eX (w4.setCell ⟨w2.heap.size,8,none⟩ (.bool true))
 have dM:Whole (w4.setCell ⟨w2.heap.size,8,none⟩ (.bool true)) w2.heap.size #[.int .i64 3,.int .i64 (i:Int),.int .i64 (-1),.int .i64 (-1),.int .i64 (-1),.int .i64 0,.string nm,.string ⟨#[]⟩,.bool true,.int .i64 0,.int .i64 0] 147:=bI.put 8 (.bool true);rw[fE] at dM;have g5:w4.grownBy w5 (some w2.heap.size):=by rw[←fE];exact aJ (ay (Below.refl w4.heap.size w4) _) _ _
 have dX:Below w.heap.size w w5:=bU.grown g5 bU.size (fun j hj=>by injection hj with hj;omega);obtain⟨k5,_,_,c52,_⟩:=(HM.out w5 dX).rd hi;obtain⟨Ws,oa',hA',_,a52⟩:=(HM.out w5 dX).attr hi hp;obtain⟨rfl,rfl⟩:ga=Ws∧oa=oa':=by rw[hA] at hA';injection hA' with e;injection e with e1 e2;exact⟨e1,e2⟩
 rw[hA,hlen] at c52;have y57:=dM.cell 7;have abU:=dM.free 7;obtain⟨w6,kZ⟩:=eX (w5.setCell ⟨w2.heap.size,7,none⟩ (.string p.2))
 have gL:Whole (w5.setCell ⟨w2.heap.size,7,none⟩ (.string p.2)) w2.heap.size #[.int .i64 3,.int .i64 (i:Int),.int .i64 (-1),.int .i64 (-1),.int .i64 (-1),.int .i64 0,.string nm,.string p.2,.bool true,.int .i64 0,.int .i64 0] 147:=dM.put 7 (.string p.2);rw[kZ] at gL;have g6:w5.grownBy w6 (some w2.heap.size):=by rw[←kZ];exact aJ (ay (Below.refl w5.heap.size w5) _) _ _
 have iF:Below w.heap.size w w6:=dX.grown g6 dX.size (fun j hj=>by injection hj with hj;omega);obtain⟨k6,_,_,c62,_⟩:=(HM.out w6 iF).rd hi;obtain⟨Ws,oa',hA',_,a62⟩:=(HM.out w6 iF).attr hi hp;obtain⟨rfl,rfl⟩:ga=Ws∧oa=oa':=by rw[hA] at hA';injection hA' with e;injection e with e1 e2;exact⟨e1,e2⟩
 rw[hA,hlen] at c62;have f62:w6.frozen? ⟨ga,oa+k*2+1,none⟩=false:=by
  have xk:=(HM.out w6 iF).ar i hi;have e:(f i).a.v=.slice (some ⟨ga,oa,none⟩) (f i).at'.length (f i).a.c:=by unfold Tr.Sl.v;rw[hA,Uy.out]
  rw[e] at xk;exact xk.frozen _
 obtain⟨qM,yP⟩:=(HM.out w6 iF).M9 (v:=rv) hi hA Uy.out hp;rw[←Nat.add_assoc] at qM yP;obtain⟨w7,hw7⟩:=eX (w6.setCell ⟨ga,oa+k*2+1,none⟩ (.string rv))
 rw[hw7] at qM yP;have g7:w6.grownBy w7 (some ga):=by rw[←hw7];exact aJ (ay (Below.refl w6.heap.size w6) _) _ _
 have aL:=gL.grown g7 (fun e=>by injection e with e;omega);have hfun:(aX f i fun n=>{ n with at':=n.at'.set k (p.1,rv) })=aX f i fun n=>{ n with a:=(f i).a,at':=gF (f i).at' nm (aZ v) }:=by
  funext j;unfold aX;by_cases e:j=i
  ·subst e;rw[if_pos rfl,if_pos rfl,pW.out.1,show aZ v=rv from Lf.out]
  ·rw[if_neg e,if_neg e]
 rw[hfun] at qM yP;have hs7:w.heap.size≤w7.heap.size:=Nat.le_trans iF.size g7.size;have qh:=(Below.refl _ w7).alloc (Nat.le_refl _) (.cells #[.int .i64 3,.int .i64 (i:Int),.int .i64 (-1),.int .i64 (-1),.int .i64 (-1),.int .i64 0,.string nm,.string p.2,.bool true,.int .i64 0,.int .i64 0] 147);have bC:=zh (And.intro (nP w7 (fK i nm p.2 true) w.heap.size hs7) (And.intro (qM.below qh) (((aB.of_below iF).trans yP).trans (.of_below qh))));have s0:w7.cell? ⟨w2.heap.size,0,none⟩=some (.int .i64 3):=aL.cell 0;have Yd:=aL.free 0;have s1:w7.cell? ⟨w2.heap.size,1,none⟩=some (.int .i64 (i:Int)):=aL.cell 1;have Ye:=aL.free 1;have s2:w7.cell? ⟨w2.heap.size,2,none⟩=some (.int .i64 (-1)):=aL.cell 2;have Yf:=aL.free 2;have s3:w7.cell? ⟨w2.heap.size,3,none⟩=some (.int .i64 (-1)):=aL.cell 3;have Yg:=aL.free 3;have s4:w7.cell? ⟨w2.heap.size,4,none⟩=some (.int .i64 (-1)):=aL.cell 4;have Yh:=aL.free 4;have s5:w7.cell? ⟨w2.heap.size,5,none⟩=some (.int .i64 0):=aL.cell 5;have Yi:=aL.free 5;have s6:w7.cell? ⟨w2.heap.size,6,none⟩=some (.string nm):=aL.cell 6;have Yj:=aL.free 6;have s7:w7.cell? ⟨w2.heap.size,7,none⟩=some (.string p.2):=aL.cell 7;have Yk:=aL.free 7;have s8:w7.cell? ⟨w2.heap.size,8,none⟩=some (.bool true):=aL.cell 8;have Yl:=aL.free 8;have s9:w7.cell? ⟨w2.heap.size,9,none⟩=some (.int .i64 0):=aL.cell 9;have Ym:=aL.free 9;have s10:w7.cell? ⟨w2.heap.size,10,none⟩=some (.int .i64 0):=aL.cell 10;have OQ:=aL.free 10;clear aW bI dM gL aL g4 g5 g6 g7 qM yP qh dV dA bU dX iF hb3 hfun hset hold AO hai hkk hA' HM VK hlen hp hA;go_wp2_with fail;(try rw[hw4]);go_wp2_with fail;(try rw[fE]);go_wp2_with fail;(try rw[kZ]);go_wp2_with fail;(try rw[hw7]);go_wp2_with fail;go_ret2;obtain⟨z1,z2,z3⟩:=bC.out;refine⟨_,(f i).a,rfl,?_,z2,z3⟩;rw[pW.out.2.1,pW.out.2.2.1];exact z1
theorem Jp (base M m:Nat) (vs:Value) (f:Nat→RS) (i:Nat) (nm v:ByteArray) (w:World) (h:MV base w M vs m f) (hi:i<m) (hm:m≤100000) (hk:(f i).kind=2) (hn:nm.size≤10000) (hv:v.size≤10000) (hl:(f i).at'.length≤1000) (hb:Nm.attr nm=true) (hcase:¬ oZ (f i).at' nm<(f i).at'.length):
  Calls Tryz.prog 38 #[.pointer (some ⟨M,0,none⟩),.int .i64 (i:Int),.string nm,.string v] w fun e w'=>∃ r sl,e=.returned (.tuple #[r,.int .i64 0])∧jN w.heap.size w' r [fK i nm (lD (f i).at' nm) (vw (f i).at' nm)]∧
   MV base w' M vs m (aX f i fun n=>{ n with a:=sl,at':=gF (f i).at' nm (aZ v) })∧aB w w' (aC M vs m f) (aC M vs m (aX f i fun n=>{ n with a:=sl,at':=gF (f i).at' nm (aZ v) })):=by
 obtain⟨i0,hi0,hz0,hz1,hz2⟩:=info_parts pQ;obtain⟨A,c,rfl⟩:=h.form;obtain⟨g,rfl,-⟩:=h.read hi;obtain⟨k0,c0,_⟩:=h.rd hi;rw[hk] at c0;have q1:(0:Int)≤(i:Int):=by omega
 have q2:(i:Int)<(m:Int):=by omega
 have HH:=zh (om nm w hn);rw[hb] at HH;have HM:=zh (fun (W:World) (hb:Below w.heap.size w W)=>h.below hb);have hgl:g<w.heap.size:=(h.row.lt g rfl).2;have YL:M<w.heap.size:=h.var.lt;have uJ:=zh h.lt;have VK:=zh (h.ar i hi);have Uy:=zh (h.an hi);have hMb:base≤w.heap.size:=by have:=h.low;omega
 clear h hk
 go_enter Tryz.func38,Tryz.ntmps38
 go_wp2_with fail;refine HH.out.mono ?_;rintro e w1 ⟨rfl,hb1⟩;have HR:=zh (kC v w1 hv);clear HH;go_wp2_with fail;refine HR.out.mono ?_;rintro e w2 ⟨rfl,hb2⟩;have dV:=hb1.trans (hb2.mono hb1.size);obtain⟨rv,mW⟩:=eX (fB (bB.rep v.data.toList))
 have Lf:=zh mW;rw[mW];have HF:=zh (tH base M m _ f i nm w2 (HM.out w2 dV) hi hm hl);clear HR hb1 hb2 mW;go_wp2_with fail;refine HF.out.mono ?_;rintro e w2' ⟨rfl,JH⟩;obtain rfl:=JH.symm;clear HF;obtain⟨w3,hw3⟩:=eX (w2.alloc (.cells #[.int .i64 0,.int .i64 0,.int .i64 0,.int .i64 0,.int .i64 0,.int .i64 0,.string ⟨#[]⟩,.string ⟨#[]⟩,.bool false,.int .i64 0,.int .i64 0] 147))
 have hb3:Below w2.heap.size w2 w3:=fI hw3;have aW:Whole w3 w2.heap.size #[.int .i64 0,.int .i64 0,.int .i64 0,.int .i64 0,.int .i64 0,.int .i64 0,.string ⟨#[]⟩,.string ⟨#[]⟩,.bool false,.int .i64 0,.int .i64 0] 147:=by rw[←hw3];exact Whole.new w2 _ _
 have dA:=dV.trans (hb3.mono dV.size);have hs2:w.heap.size≤w2.heap.size:=dV.size;have y0:w3.cell? ⟨w2.heap.size,0,none⟩=some (.int .i64 0):=aW.cell 0;have yZ:=aW.free 0;have y1:w3.cell? ⟨w2.heap.size,1,none⟩=some (.int .i64 0):=aW.cell 1;have za:=aW.free 1;have y2:w3.cell? ⟨w2.heap.size,2,none⟩=some (.int .i64 0):=aW.cell 2;have CZ:=aW.free 2;have y3:w3.cell? ⟨w2.heap.size,3,none⟩=some (.int .i64 0):=aW.cell 3;have C8:=aW.free 3;have y4:w3.cell? ⟨w2.heap.size,4,none⟩=some (.int .i64 0):=aW.cell 4;have C9:=aW.free 4;have y5:w3.cell? ⟨w2.heap.size,5,none⟩=some (.int .i64 0):=aW.cell 5;have Da:=aW.free 5;have y6:w3.cell? ⟨w2.heap.size,6,none⟩=some (.string ⟨#[]⟩):=aW.cell 6;have Db:=aW.free 6;have y7:w3.cell? ⟨w2.heap.size,7,none⟩=some (.string ⟨#[]⟩):=aW.cell 7;have Dc:=aW.free 7;have y8:w3.cell? ⟨w2.heap.size,8,none⟩=some (.bool false):=aW.cell 8;have Df:=aW.free 8;have y9:w3.cell? ⟨w2.heap.size,9,none⟩=some (.int .i64 0):=aW.cell 9;have FN:=aW.free 9;have wT:w3.cell? ⟨w2.heap.size,10,none⟩=some (.int .i64 0):=aW.cell 10;have qZ:=aW.free 10;obtain⟨w4,hw4,bI,g4⟩:=kJ aW (.int .i64 3) (.int .i64 (i:Int)) (.int .i64 (-1)) (.int .i64 (-1)) (.int .i64 (-1)) (.int .i64 0) (.string nm) (.string ⟨#[]⟩) (.bool false) (.int .i64 0) (.int .i64 0);have bU:Below w.heap.size w w4:=dA.grown g4 dA.size (fun j hj=>by simp at hj;omega);have hs4:w2.heap.size<w4.heap.size:=by have:=aW.lt;have:=g4.size;omega
 obtain⟨k4,_,_,Zf,_⟩:=(HM.out w4 bU).rd hi;have hai:yO (f i).at' nm = -1:=by unfold yO;rw[if_neg hcase]
 have hset:gF (f i).at' nm (aZ v)=(f i).at'++[(nm,aZ v)]:=by unfold gF;rw[List.getElem?_eq_none (by omega)]
 have hold:lD (f i).at' nm=⟨#[]⟩:=by unfold lD;rw[List.getElem?_eq_none (by omega)]
 have AO:vw (f i).at' nm=false:=decide_eq_false hcase;have pW:=zh (And.intro hset (And.intro hold AO));rw[hai];obtain⟨len,hlen⟩:=eX ((f i).at'.length)
 have HLEN:=zh hlen;obtain⟨aa,UN⟩:=eX ((f i).a.a)
 obtain⟨ac,hac⟩:=eX ((f i).a.c)
 have hav:(f i).a.v=.slice aa len ac:=by unfold Tr.Sl.v;rw[Uy.out,UN,hac,hlen]
 have HAV:=zh hav;rw[hlen] at Zf hl;rw[UN,hac] at Zf;have uK:Below w.heap.size w w4.drew:=bU.trans ((bf _ w4).mono bU.size);have OP:=bI.below (bf _ w4) bI.lt;obtain⟨w5,fE⟩:=eX (w4.drew.alloc (.cells #[.string nm,.string rv] 96))
 have eZ:Below w4.heap.size w4 w5:=by rw[←fE];exact (bf _ w4).alloc (Nat.le_refl _) _
 have dX:=bU.trans (eZ.mono bU.size);have dM:=bI.below eZ bI.lt;have hsrc:((.slice (some ⟨w4.heap.size,0,none⟩) 1 1:Value)=.slice none 0 0∧1=0)∨∃ a c,(.slice (some ⟨w4.heap.size,0,none⟩) 1 1:Value)=.slice (some a) 1 c∧∀ j u,(fP [(nm,rv)])[j]?=some u→w5.cell? (a.add j)=some u:=by
  rw[←fE];exact nM w4.drew 96 (fP [(nm,rv)])
 have Lp:=zh ((HM.out _ uK).rd hi).1;have JI:=zh ((HM.out _ dX).rd hi).1;have aaS:=((HM.out _ uK).rd hi).2.2.2.1;have aaT:=((HM.out _ dX).rd hi).2.2.2.1;rw[hlen,UN,hac] at aaS aaT;have xq:TR w5 base 96 2 (.slice aa len ac) len (fP (f i).at'):=by
  have:=(HM.out _ dX).ar i hi;rw[hav,hlen] at this;exact this
 have Pn:base≤w5.heap.size:=Nat.le_trans hMb dX.size;have iJ:=zh dM;have Jf:=zh dX;have yT:=zh bU;have x0:w4.cell? ⟨w2.heap.size,0,none⟩=some (.int .i64 3):=bI.cell 0;have xf0:=bI.free 0;have x1:w4.cell? ⟨w2.heap.size,1,none⟩=some (.int .i64 (i:Int)):=bI.cell 1;have xf1:=bI.free 1;have x2:w4.cell? ⟨w2.heap.size,2,none⟩=some (.int .i64 (-1)):=bI.cell 2;have xf2:=bI.free 2;have x3:w4.cell? ⟨w2.heap.size,3,none⟩=some (.int .i64 (-1)):=bI.cell 3;have xf3:=bI.free 3;have x4:w4.cell? ⟨w2.heap.size,4,none⟩=some (.int .i64 (-1)):=bI.cell 4;have xf4:=bI.free 4;have x5:w4.cell? ⟨w2.heap.size,5,none⟩=some (.int .i64 0):=bI.cell 5;have xf5:=bI.free 5;have x6:w4.cell? ⟨w2.heap.size,6,none⟩=some (.string nm):=bI.cell 6;have xf6:=bI.free 6;have x7:w4.cell? ⟨w2.heap.size,7,none⟩=some (.string ⟨#[]⟩):=bI.cell 7;have xf7:=bI.free 7;have x8:w4.cell? ⟨w2.heap.size,8,none⟩=some (.bool false):=bI.cell 8;have xf8:=bI.free 8;have x9:w4.cell? ⟨w2.heap.size,9,none⟩=some (.int .i64 0):=bI.cell 9;have xf9:=bI.free 9;have x10:w4.cell? ⟨w2.heap.size,10,none⟩=some (.int .i64 0):=bI.cell 10;have xf10:=bI.free 10;clear aW bI OP dM g4 dV dA hb3 hset hold AO hai hcase hav hlen UN hac VK dX bU eZ;go_wp2_with fail;(try rw[hw4]);go_wp2_with fail;refine wp_region_noPanic ?_;refine wp_region_held_drew (S:=(fun W=>W.cell? ⟨M,0,none⟩=some (.slice (some ⟨g,0,none⟩) m c))) (by kernel_rfl) ?_ (fun ah=>?_)
 ·exact Lp.out
 refine bn [0,1,2,3,4,5,6,7,8,9,10,11,13,14,15] ?_;iterate 15 (refine jf ?_;try simp only[pS])
 refine bq ?_;apply Ze
 ·intro KEY;refine zQ 12 16 (fun K hK=>?_) fun K hK=>?_
  ·go_simp;refine hK.out _ _ (Lp.out) fun ah=>?_;clear hK K;(try simp only[pS]);refine bG 16 fun K hK=>?_;go_simp;(try rw[fE]);refine hK.out _ _ (JI.out) fun ah=>?_;clear hK K;(try simp only[pS]);exact KEY
  ·go_simp;(try rw[fE]);refine hK.out _ _ (JI.out) fun ah=>?_;clear hK K;(try simp only[pS]);refine bG 12 fun K hK=>?_;go_simp;refine hK.out _ _ (JI.out) fun ah=>?_;clear hK K;(try simp only[pS]);exact KEY
 refine bG 17 fun K hK=>?_;refine aQ rfl _ _ 73 rfl base 96 i0 (.agg #[.string ⟨#[]⟩,.string ⟨#[]⟩]) 2 32 Tryz.underlying73 hi0 hz0 hz1 hz2 rfl (by decide) _ len (fP (f i).at') rfl xq _ 1 (fP [(nm,rv)]) rfl rfl hsrc (jl _) ?c4 ?c5 Pn ?_
 case c4=>unfold maxLen;omega
 case c5=>omega
 intro v7 w6 o7 g7 f7;rw[←jT] at o7;obtain⟨A7,c7,rfl⟩:=o7.form;have Zg:TR w6 base 96 2 (Tr.Sl.v ⟨A7,len+1,c7⟩) ((f i).at'++[(nm,rv)]).length (fP ((f i).at'++[(nm,rv)])):=by rw[List.length_append,HLEN.out];exact o7
 have UO:Below w4.heap.size w4 w5:=by rw[←fE];exact (bf _ w4).alloc (Nat.le_refl _) _
 obtain⟨_,fz,hcells,qM,yP⟩:=(HM.out w4 yT.out).nC (sl:=⟨A7,len+1,c7⟩) (l':=(f i).at'++[(nm,rv)]) hi UO (by rw[HAV.out];exact g7) Zg (by rw[HAV.out];exact f7);have gL:=iJ.out.grown g7 (fun e=>(xq.unlike iJ.out (by decide)) e.symm);have hpc:=hcells i 2 hi (by omega);rw[show (qO (f i))[2]?=some ((f i).a.v) from rfl,HAV.out] at hpc;have UL:w6.cell? ⟨M,0,none⟩=some (.slice (some ⟨g,0,none⟩) m c):=by
  have hv5:=(HM.out w5 Jf.out).var;have hv6:=hv5.grown g7 (fun e=>(xq.unlike hv5 (by decide)) e.symm);exact hv6.cell 0
 obtain⟨w7,hw7⟩:=eX (w6.setCell ⟨g,i*7+2,none⟩ (.slice A7 (len+1) c7))
 rw[show (Tr.Sl.v ⟨A7,len+1,c7⟩)=.slice A7 (len+1) c7 from rfl,hw7] at qM yP;have g8:w6.grownBy w7 (some g):=by rw[←hw7];exact aJ (ay (Below.refl w6.heap.size w6) _) _ _
 have aL:=gL.grown g8 (fun e=>by injection e with e;omega);have vg:=(qM.rd hi).1;rw[show (f i).at'++[(nm,rv)]=gF (f i).at' nm (aZ v) by rw[pW.out.1,show aZ v=rv from Lf.out]] at qM yP;have hs7:w.heap.size≤w7.heap.size:=by have:=g8.size;have:=g7.size;have:=Jf.out.size;omega
 have qh:=(Below.refl _ w7).alloc (Nat.le_refl _) (.cells #[.int .i64 3,.int .i64 (i:Int),.int .i64 (-1),.int .i64 (-1),.int .i64 (-1),.int .i64 0,.string nm,.string ⟨#[]⟩,.bool false,.int .i64 0,.int .i64 0] 147);have bC:=zh (And.intro (nP w7 (fK i nm ⟨#[]⟩ false) w.heap.size hs7) (And.intro (qM.below qh) (((aB.of_below yT.out).trans yP).trans (.of_below qh))));have s0:w7.cell? ⟨w2.heap.size,0,none⟩=some (.int .i64 3):=aL.cell 0;have Yd:=aL.free 0;have s1:w7.cell? ⟨w2.heap.size,1,none⟩=some (.int .i64 (i:Int)):=aL.cell 1;have Ye:=aL.free 1;have s2:w7.cell? ⟨w2.heap.size,2,none⟩=some (.int .i64 (-1)):=aL.cell 2;have Yf:=aL.free 2;have s3:w7.cell? ⟨w2.heap.size,3,none⟩=some (.int .i64 (-1)):=aL.cell 3;have Yg:=aL.free 3;have s4:w7.cell? ⟨w2.heap.size,4,none⟩=some (.int .i64 (-1)):=aL.cell 4;have Yh:=aL.free 4;have s5:w7.cell? ⟨w2.heap.size,5,none⟩=some (.int .i64 0):=aL.cell 5;have Yi:=aL.free 5;have s6:w7.cell? ⟨w2.heap.size,6,none⟩=some (.string nm):=aL.cell 6;have Yj:=aL.free 6;have s7:w7.cell? ⟨w2.heap.size,7,none⟩=some (.string ⟨#[]⟩):=aL.cell 7;have Yk:=aL.free 7;have s8:w7.cell? ⟨w2.heap.size,8,none⟩=some (.bool false):=aL.cell 8;have Yl:=aL.free 8;have s9:w7.cell? ⟨w2.heap.size,9,none⟩=some (.int .i64 0):=aL.cell 9;have Ym:=aL.free 9;have s10:w7.cell? ⟨w2.heap.size,10,none⟩=some (.int .i64 0):=aL.cell 10;have OQ:=aL.free 10;clear qM yP qh aL gL hcells o7 Zg g7 g8 f7 UO hs7;refine hK.out _ _ (UL) fun ah=>?_;clear hK K;(try simp only[pS]);refine bn [18,19] ?_;iterate 2 (refine jf ?_;try simp only[pS])
 refine bq ?_;refine bG 20 fun K hK=>?_;go_simp;(try rw[hw7]);refine hK.out _ _ (vg) fun ah=>?_;clear hK K;(try simp only[pS]);refine eY ?_;go_wp2_with fail;go_ret2;obtain⟨z1,z2,z3⟩:=bC.out;refine⟨_,⟨A7,len+1,c7⟩,rfl,?_,z2,z3⟩;rw[pW.out.2.1,pW.out.2.2];exact z1
end
end Go.Proofs.YtmhjlifmcadefaaGreatDoor
