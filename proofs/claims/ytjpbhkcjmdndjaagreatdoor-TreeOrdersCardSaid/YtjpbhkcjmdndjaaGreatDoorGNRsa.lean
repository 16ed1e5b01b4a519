/- Part of a proof about trees. -/
import Derived.Test.YtjpbhkcjmdndjaaGreatDoorS03
set_option linter.unusedVariables false
set_option linter.unusedSimpArgs false
set_option maxHeartbeats 2000000
set_option maxRecDepth 100000
namespace Go.Proofs.YtjpbhkcjmdndjaaGreatDoor
section
open Go.RowKit
theorem Yx {G X:Prop} (use:X→G) (k:X):G:=use k
theorem nM:(Tryz.prog.info? 74).map (fun i=>(i.zero,i.size,i.bytes))=some (some (.agg #[.string ⟨#[]⟩,.string ⟨#[]⟩]),2,32):=by kernel_rfl
def fV (i:Nat) (nm old:ByteArray) (had:Bool):Tr.Rec:=⟨3,i,-1,-1,-1,0,nm,old,had,0,0⟩
theorem MV.rd {base M m g c:Nat} {f:Nat→RS} {w:World} (h:MV base w M (.slice (some ⟨g,0,none⟩) m c) m f) {i:Nat} (hi:i<m):
  w.cell? ⟨M,0,none⟩=some (.slice (some ⟨g,0,none⟩) m c)∧w.cell? ⟨g,i*7,none⟩=some (.int .i64 (f i).kind)∧w.cell? ⟨g,i*7+1,none⟩=some (.string (f i).name)∧w.cell? ⟨g,i*7+2,none⟩=some (.slice (f i).a.a (f i).at'.length (f i).a.c)∧w.cell? ⟨g,i*7+3,none⟩=some (.string (f i).data)∧w.cell? ⟨g,i*7+4,none⟩=some (.int .i64 (f i).pa)∧w.cell? ⟨g,i*7+5,none⟩=some (.slice (f i).k.a (f i).kids.length (f i).k.c)∧w.cell? ⟨g,i*7+6,none⟩=some (.bool (f i).gone):=by
 obtain⟨g',e,c0,c1,c2,c3,c4,c5,c6⟩:=h.read hi;obtain rfl:g=g':=by injection e with e;injection e
 rw[h.an hi] at c2;rw[h.kn hi] at c5;exact⟨h.cell.1,c0,c1,c2,c3,c4,c5,c6⟩
theorem MV.fz {base M m g c:Nat} {f:Nat→RS} {w:World} (h:MV base w M (.slice (some ⟨g,0,none⟩) m c) m f) (j:Nat):w.frozen? ⟨g,j,none⟩=false:=h.row.frozenAt _
theorem I9 (base M m:Nat) (vs:Value) (f:Nat→RS) (i:Nat) (nm v:ByteArray) (w:World) (h:MV base w M vs m f) (hi:i<m) (hk:(f i).kind≠2):
  Calls Tryz.prog 27 #[.pointer (some ⟨M,0,none⟩),.int .i64 (i:Int),.string nm,.string v] w fun e w'=>e=.returned (ou 10)∧w'=w:=by
 obtain⟨A,c,rfl⟩:=h.form;obtain⟨g,rfl,-⟩:=h.read hi;obtain⟨k0,c0,_⟩:=h.rd hi;have q1:(0:Int)≤(i:Int):=by omega
 have q2:(i:Int)<(m:Int):=by omega
 have q3:=bne_true hk;clear h hk
 go_enter Tryz.func27,Tryz.ntmps27
 go_wp2_with fail;go_ret2;exact⟨rfl,rfl⟩
theorem IZ (base M m:Nat) (vs:Value) (f:Nat→RS) (i:Nat) (nm v:ByteArray) (w:World) (h:MV base w M vs m f) (hi:i<m) (hk:(f i).kind=2) (hn:nm.size≤10000) (hb:Nm.attr nm=false):
  Calls Tryz.prog 27 #[.pointer (some ⟨M,0,none⟩),.int .i64 (i:Int),.string nm,.string v] w fun e w'=>e=.returned (ou 1)∧Below w.heap.size w w':=by
 obtain⟨A,c,rfl⟩:=h.form;obtain⟨g,rfl,-⟩:=h.read hi;obtain⟨k0,c0,_⟩:=h.rd hi;rw[hk] at c0;have q1:(0:Int)≤(i:Int):=by omega
 have q2:(i:Int)<(m:Int):=by omega
 have HH:=zh (oH nm w hn);rw[hb] at HH;clear h hk
 go_enter Tryz.func27,Tryz.ntmps27
 go_wp2_with fail;refine HH.out.mono ?_;rintro e w1 ⟨rfl,hb1⟩;clear HH;go_wp2_with fail;go_ret2;exact⟨rfl,hb1⟩
theorem I5 (base M m:Nat) (vs:Value) (f:Nat→RS) (i:Nat) (nm v:ByteArray) (w:World) (h:MV base w M vs m f) (hi:i<m) (hm:m≤100000) (hk:(f i).kind=2) (hn:nm.size≤10000) (hv:v.size≤10000) (hl:(f i).at'.length≤1000) (hb:Nm.attr nm=true) (hcase:pG (f i).at' nm<(f i).at'.length):
  Calls Tryz.prog 27 #[.pointer (some ⟨M,0,none⟩),.int .i64 (i:Int),.string nm,.string v] w fun e w'=>∃ r sl,e=.returned (.tuple #[r,.int .i64 0])∧jP w.heap.size w' r [fV i nm (lJ (f i).at' nm) (vg (f i).at' nm)]∧
   MV base w' M vs m (aV f i fun n=>{ n with a:=sl,at':=gK (f i).at' nm (aX v) })∧aB w w' (aC M vs m f) (aC M vs m (aV f i fun n=>{ n with a:=sl,at':=gK (f i).at' nm (aX v) })):=by
 obtain⟨i0,hi0,hz0,hz1,hz2⟩:=info_parts nM;obtain⟨A,c,rfl⟩:=h.form;obtain⟨g,rfl,-⟩:=h.read hi;obtain⟨k0,c0,_⟩:=h.rd hi;rw[hk] at c0;have q1:(0:Int)≤(i:Int):=by omega
 have q2:(i:Int)<(m:Int):=by omega
 have HH:=zh (oH nm w hn);rw[hb] at HH;have HM:=zh (fun (W:World) (hb:Below w.heap.size w W)=>h.below hb);have hgl:g<w.heap.size:=(h.row.lt g rfl).2;have WC:M<w.heap.size:=h.var.lt;have rD:=zh h.lt;have OD:=zh (h.ar i hi);have NM:=zh (h.an hi);have Z0:base≤w.heap.size:=by have:=h.low;omega
 clear h hk
 go_enter Tryz.func27,Tryz.ntmps27
 go_wp2_with fail;refine HH.out.mono ?_;rintro e w1 ⟨rfl,hb1⟩;have HR:=zh (kC v w1 hv);clear HH;go_wp2_with fail;refine HR.out.mono ?_;rintro e w2 ⟨rfl,hb2⟩;have eU:=hb1.trans (hb2.mono hb1.size);obtain⟨rv,nu⟩:=eX (fF (bD.rep v.data.toList))
 have KJ:=zh nu;rw[nu];have HF:=zh (tO base M m _ f i nm w2 (HM.out w2 eU) hi hm hl);clear HR hb1 hb2 nu;go_wp2_with fail;refine HF.out.mono ?_;rintro e w2' ⟨rfl,Jt⟩;obtain rfl:=Jt.symm;clear HF;obtain⟨w3,hw3⟩:=eX (w2.alloc (.cells #[.int .i64 0,.int .i64 0,.int .i64 0,.int .i64 0,.int .i64 0,.int .i64 0,.string ⟨#[]⟩,.string ⟨#[]⟩,.bool false,.int .i64 0,.int .i64 0] 114))
 have hb3:Below w2.heap.size w2 w3:=gU hw3;have bJ:Whole w3 w2.heap.size #[.int .i64 0,.int .i64 0,.int .i64 0,.int .i64 0,.int .i64 0,.int .i64 0,.string ⟨#[]⟩,.string ⟨#[]⟩,.bool false,.int .i64 0,.int .i64 0] 114:=by rw[←hw3];exact Whole.new w2 _ _
 have dB:=eU.trans (hb3.mono eU.size);have hs2:w.heap.size≤w2.heap.size:=eU.size;have y0:w3.cell? ⟨w2.heap.size,0,none⟩=some (.int .i64 0):=bJ.cell 0;have EZ:=bJ.free 0;have y1:w3.cell? ⟨w2.heap.size,1,none⟩=some (.int .i64 0):=bJ.cell 1;have E5:=bJ.free 1;have y2:w3.cell? ⟨w2.heap.size,2,none⟩=some (.int .i64 0):=bJ.cell 2;have E8:=bJ.free 2;have y3:w3.cell? ⟨w2.heap.size,3,none⟩=some (.int .i64 0):=bJ.cell 3;have E9:=bJ.free 3;have y4:w3.cell? ⟨w2.heap.size,4,none⟩=some (.int .i64 0):=bJ.cell 4;have Fa:=bJ.free 4;have y5:w3.cell? ⟨w2.heap.size,5,none⟩=some (.int .i64 0):=bJ.cell 5;have Fb:=bJ.free 5;have y6:w3.cell? ⟨w2.heap.size,6,none⟩=some (.string ⟨#[]⟩):=bJ.cell 6;have Fe:=bJ.free 6;have y7:w3.cell? ⟨w2.heap.size,7,none⟩=some (.string ⟨#[]⟩):=bJ.cell 7;have Fg:=bJ.free 7;have y8:w3.cell? ⟨w2.heap.size,8,none⟩=some (.bool false):=bJ.cell 8;have Fh:=bJ.free 8;have y9:w3.cell? ⟨w2.heap.size,9,none⟩=some (.int .i64 0):=bJ.cell 9;have Fj:=bJ.free 9;have wP:w3.cell? ⟨w2.heap.size,10,none⟩=some (.int .i64 0):=bJ.cell 10;have rJ:=bJ.free 10;obtain⟨w4,hw4,bB,g4⟩:=kQ bJ (.int .i64 3) (.int .i64 (i:Int)) (.int .i64 (-1)) (.int .i64 (-1)) (.int .i64 (-1)) (.int .i64 0) (.string nm) (.string ⟨#[]⟩) (.bool false) (.int .i64 0) (.int .i64 0);have bU:Below w.heap.size w w4:=dB.grown g4 dB.size (fun j hj=>by simp at hj;omega);have hs4:w2.heap.size<w4.heap.size:=by have:=bJ.lt;have:=g4.size;omega
 obtain⟨k4,_,_,Yy,_⟩:=(HM.out w4 bU).rd hi;obtain⟨k,hkk⟩:=eX (pG (f i).at' nm)
 rw[hkk] at hcase;obtain⟨p,hp⟩:∃ p,(f i).at'[k]?=some p:=⟨(f i).at'[k]'(by omega),by simp⟩
 have hai:yI (f i).at' nm=(k:Int):=by unfold yI;rw[hkk,if_pos hcase]
 have hset:gK (f i).at' nm (aX v)=(f i).at'.set k (p.1,aX v):=by unfold gK;rw[hkk,hp]
 have hold:lJ (f i).at' nm=p.2:=by unfold lJ;rw[hkk,hp]
 have zW:vg (f i).at' nm=true:=decide_eq_true (by rw[hkk];exact hcase);have qd:=zh (And.intro hset (And.intro hold (And.intro zW hp)));rw[hai];obtain⟨ga,oa,hA,a41,a42⟩:=(HM.out w4 bU).attr hi hp;rw[hA] at Yy;have abV:ga<w.heap.size:=(rD.out ga (.inr (.inr ⟨i,hi,.inl (by unfold Tr.Sl.v;rw[hA];rfl)⟩))).2;obtain⟨len,hlen⟩:=eX ((f i).at'.length)
 have HLEN:=zh hlen;rw[hlen] at Yy hcase hl;have p1:(k:Int)<(len:Int):=by omega
 have p0:(0:Int)≤(k:Int):=by omega
 have x0:w4.cell? ⟨w2.heap.size,0,none⟩=some (.int .i64 3):=bB.cell 0;have xf0:=bB.free 0;have x1:w4.cell? ⟨w2.heap.size,1,none⟩=some (.int .i64 (i:Int)):=bB.cell 1;have xf1:=bB.free 1;have x2:w4.cell? ⟨w2.heap.size,2,none⟩=some (.int .i64 (-1)):=bB.cell 2;have xf2:=bB.free 2;have x3:w4.cell? ⟨w2.heap.size,3,none⟩=some (.int .i64 (-1)):=bB.cell 3;have xf3:=bB.free 3;have x4:w4.cell? ⟨w2.heap.size,4,none⟩=some (.int .i64 (-1)):=bB.cell 4;have xf4:=bB.free 4;have x5:w4.cell? ⟨w2.heap.size,5,none⟩=some (.int .i64 0):=bB.cell 5;have xf5:=bB.free 5;have x6:w4.cell? ⟨w2.heap.size,6,none⟩=some (.string nm):=bB.cell 6;have xf6:=bB.free 6;have x7:w4.cell? ⟨w2.heap.size,7,none⟩=some (.string ⟨#[]⟩):=bB.cell 7;have xf7:=bB.free 7;have x8:w4.cell? ⟨w2.heap.size,8,none⟩=some (.bool false):=bB.cell 8;have xf8:=bB.free 8;have x9:w4.cell? ⟨w2.heap.size,9,none⟩=some (.int .i64 0):=bB.cell 9;have xf9:=bB.free 9;have x10:w4.cell? ⟨w2.heap.size,10,none⟩=some (.int .i64 0):=bB.cell 10;have xf10:=bB.free 10;obtain⟨w5,fT⟩:=eX (w4.setCell ⟨w2.heap.size,8,none⟩ (.bool true))
 have dU:Whole (w4.setCell ⟨w2.heap.size,8,none⟩ (.bool true)) w2.heap.size #[.int .i64 3,.int .i64 (i:Int),.int .i64 (-1),.int .i64 (-1),.int .i64 (-1),.int .i64 0,.string nm,.string ⟨#[]⟩,.bool true,.int .i64 0,.int .i64 0] 114:=bB.put 8 (.bool true);rw[fT] at dU;have g5:w4.grownBy w5 (some w2.heap.size):=by rw[←fT];exact aO (ay (Below.refl w4.heap.size w4) _) _ _
 have dY:Below w.heap.size w w5:=bU.grown g5 bU.size (fun j hj=>by injection hj with hj;omega);obtain⟨k5,_,_,c52,_⟩:=(HM.out w5 dY).rd hi;obtain⟨Vh,oa',hA',_,a52⟩:=(HM.out w5 dY).attr hi hp;obtain⟨rfl,rfl⟩:ga=Vh∧oa=oa':=by rw[hA] at hA';injection hA' with e;injection e with e1 e2;exact⟨e1,e2⟩
 rw[hA,hlen] at c52;have y57:=dU.cell 7;have abW:=dU.free 7;obtain⟨w6,jM⟩:=eX (w5.setCell ⟨w2.heap.size,7,none⟩ (.string p.2))
 have gI:Whole (w5.setCell ⟨w2.heap.size,7,none⟩ (.string p.2)) w2.heap.size #[.int .i64 3,.int .i64 (i:Int),.int .i64 (-1),.int .i64 (-1),.int .i64 (-1),.int .i64 0,.string nm,.string p.2,.bool true,.int .i64 0,.int .i64 0] 114:=dU.put 7 (.string p.2);rw[jM] at gI;have g6:w5.grownBy w6 (some w2.heap.size):=by rw[←jM];exact aO (ay (Below.refl w5.heap.size w5) _) _ _
 have iM:Below w.heap.size w w6:=dY.grown g6 dY.size (fun j hj=>by injection hj with hj;omega);obtain⟨k6,_,_,c62,_⟩:=(HM.out w6 iM).rd hi;obtain⟨Vh,oa',hA',_,a62⟩:=(HM.out w6 iM).attr hi hp;obtain⟨rfl,rfl⟩:ga=Vh∧oa=oa':=by rw[hA] at hA';injection hA' with e;injection e with e1 e2;exact⟨e1,e2⟩
 rw[hA,hlen] at c62;have f62:w6.frozen? ⟨ga,oa+k*2+1,none⟩=false:=by
  have xk:=(HM.out w6 iM).ar i hi;have e:(f i).a.v=.slice (some ⟨ga,oa,none⟩) (f i).at'.length (f i).a.c:=by unfold Tr.Sl.v;rw[hA,NM.out]
  rw[e] at xk;exact xk.frozen _
 obtain⟨qW,yJ⟩:=(HM.out w6 iM).Mq (v:=rv) hi hA NM.out hp;rw[←Nat.add_assoc] at qW yJ;obtain⟨w7,hw7⟩:=eX (w6.setCell ⟨ga,oa+k*2+1,none⟩ (.string rv))
 rw[hw7] at qW yJ;have g7:w6.grownBy w7 (some ga):=by rw[←hw7];exact aO (ay (Below.refl w6.heap.size w6) _) _ _
 have aK:=gI.grown g7 (fun e=>by injection e with e;omega);have hfun:(aV f i fun n=>{ n with at':=n.at'.set k (p.1,rv) })=aV f i fun n=>{ n with a:=(f i).a,at':=gK (f i).at' nm (aX v) }:=by
  funext j;unfold aV;by_cases e:j=i
  ·subst e;rw[if_pos rfl,if_pos rfl,qd.out.1,show aX v=rv from KJ.out]
  ·rw[if_neg e,if_neg e]
 rw[hfun] at qW yJ;have hs7:w.heap.size≤w7.heap.size:=Nat.le_trans iM.size g7.size;have qm:=(Below.refl _ w7).alloc (Nat.le_refl _) (.cells #[.int .i64 3,.int .i64 (i:Int),.int .i64 (-1),.int .i64 (-1),.int .i64 (-1),.int .i64 0,.string nm,.string p.2,.bool true,.int .i64 0,.int .i64 0] 114);have bf:=zh (And.intro (nW w7 (fV i nm p.2 true) w.heap.size hs7) (And.intro (qW.below qm) (((aB.of_below iM).trans yJ).trans (.of_below qm))));have s0:w7.cell? ⟨w2.heap.size,0,none⟩=some (.int .i64 3):=aK.cell 0;have Xh:=aK.free 0;have s1:w7.cell? ⟨w2.heap.size,1,none⟩=some (.int .i64 (i:Int)):=aK.cell 1;have Xi:=aK.free 1;have s2:w7.cell? ⟨w2.heap.size,2,none⟩=some (.int .i64 (-1)):=aK.cell 2;have Xj:=aK.free 2;have s3:w7.cell? ⟨w2.heap.size,3,none⟩=some (.int .i64 (-1)):=aK.cell 3;have Xk:=aK.free 3;have s4:w7.cell? ⟨w2.heap.size,4,none⟩=some (.int .i64 (-1)):=aK.cell 4;have Xl:=aK.free 4;have s5:w7.cell? ⟨w2.heap.size,5,none⟩=some (.int .i64 0):=aK.cell 5;have Xm:=aK.free 5;have s6:w7.cell? ⟨w2.heap.size,6,none⟩=some (.string nm):=aK.cell 6;have Xn:=aK.free 6;have s7:w7.cell? ⟨w2.heap.size,7,none⟩=some (.string p.2):=aK.cell 7;have Xo:=aK.free 7;have s8:w7.cell? ⟨w2.heap.size,8,none⟩=some (.bool true):=aK.cell 8;have Xp:=aK.free 8;have s9:w7.cell? ⟨w2.heap.size,9,none⟩=some (.int .i64 0):=aK.cell 9;have Xq:=aK.free 9;have s10:w7.cell? ⟨w2.heap.size,10,none⟩=some (.int .i64 0):=aK.cell 10;have N8:=aK.free 10;clear bJ bB dU gI aK g4 g5 g6 g7 qW yJ qm eU dB bU dY iM hb3 hfun hset hold zW hai hkk hA' HM OD hlen hp hA;go_wp2_with fail;(try rw[hw4]);go_wp2_with fail;(try rw[fT]);go_wp2_with fail;(try rw[jM]);go_wp2_with fail;(try rw[hw7]);go_wp2_with fail;go_ret2;obtain⟨z1,z2,z3⟩:=bf.out;refine⟨_,(f i).a,rfl,?_,z2,z3⟩;rw[qd.out.2.1,qd.out.2.2.1];exact z1
theorem I7 (base M m:Nat) (vs:Value) (f:Nat→RS) (i:Nat) (nm v:ByteArray) (w:World) (h:MV base w M vs m f) (hi:i<m) (hm:m≤100000) (hk:(f i).kind=2) (hn:nm.size≤10000) (hv:v.size≤10000) (hl:(f i).at'.length≤1000) (hb:Nm.attr nm=true) (hcase:¬ pG (f i).at' nm<(f i).at'.length):
  Calls Tryz.prog 27 #[.pointer (some ⟨M,0,none⟩),.int .i64 (i:Int),.string nm,.string v] w fun e w'=>∃ r sl,e=.returned (.tuple #[r,.int .i64 0])∧jP w.heap.size w' r [fV i nm (lJ (f i).at' nm) (vg (f i).at' nm)]∧
   MV base w' M vs m (aV f i fun n=>{ n with a:=sl,at':=gK (f i).at' nm (aX v) })∧aB w w' (aC M vs m f) (aC M vs m (aV f i fun n=>{ n with a:=sl,at':=gK (f i).at' nm (aX v) })):=by
 obtain⟨i0,hi0,hz0,hz1,hz2⟩:=info_parts nM;obtain⟨A,c,rfl⟩:=h.form;obtain⟨g,rfl,-⟩:=h.read hi;obtain⟨k0,c0,_⟩:=h.rd hi;rw[hk] at c0;have q1:(0:Int)≤(i:Int):=by omega
 have q2:(i:Int)<(m:Int):=by omega
 have HH:=zh (oH nm w hn);rw[hb] at HH;have HM:=zh (fun (W:World) (hb:Below w.heap.size w W)=>h.below hb);have hgl:g<w.heap.size:=(h.row.lt g rfl).2;have WC:M<w.heap.size:=h.var.lt;have rD:=zh h.lt;have OD:=zh (h.ar i hi);have NM:=zh (h.an hi);have Z0:base≤w.heap.size:=by have:=h.low;omega
 clear h hk
 go_enter Tryz.func27,Tryz.ntmps27
 go_wp2_with fail;refine HH.out.mono ?_;rintro e w1 ⟨rfl,hb1⟩;have HR:=zh (kC v w1 hv);clear HH;go_wp2_with fail;refine HR.out.mono ?_;rintro e w2 ⟨rfl,hb2⟩;have eU:=hb1.trans (hb2.mono hb1.size);obtain⟨rv,nu⟩:=eX (fF (bD.rep v.data.toList))
 have KJ:=zh nu;rw[nu];have HF:=zh (tO base M m _ f i nm w2 (HM.out w2 eU) hi hm hl);clear HR hb1 hb2 nu;go_wp2_with fail;refine HF.out.mono ?_;rintro e w2' ⟨rfl,Jt⟩;obtain rfl:=Jt.symm;clear HF;obtain⟨w3,hw3⟩:=eX (w2.alloc (.cells #[.int .i64 0,.int .i64 0,.int .i64 0,.int .i64 0,.int .i64 0,.int .i64 0,.string ⟨#[]⟩,.string ⟨#[]⟩,.bool false,.int .i64 0,.int .i64 0] 114))
 have hb3:Below w2.heap.size w2 w3:=gU hw3;have bJ:Whole w3 w2.heap.size #[.int .i64 0,.int .i64 0,.int .i64 0,.int .i64 0,.int .i64 0,.int .i64 0,.string ⟨#[]⟩,.string ⟨#[]⟩,.bool false,.int .i64 0,.int .i64 0] 114:=by rw[←hw3];exact Whole.new w2 _ _
 have dB:=eU.trans (hb3.mono eU.size);have hs2:w.heap.size≤w2.heap.size:=eU.size;have y0:w3.cell? ⟨w2.heap.size,0,none⟩=some (.int .i64 0):=bJ.cell 0;have EZ:=bJ.free 0;have y1:w3.cell? ⟨w2.heap.size,1,none⟩=some (.int .i64 0):=bJ.cell 1;have E5:=bJ.free 1;have y2:w3.cell? ⟨w2.heap.size,2,none⟩=some (.int .i64 0):=bJ.cell 2;have E8:=bJ.free 2;have y3:w3.cell? ⟨w2.heap.size,3,none⟩=some (.int .i64 0):=bJ.cell 3;have E9:=bJ.free 3;have y4:w3.cell? ⟨w2.heap.size,4,none⟩=some (.int .i64 0):=bJ.cell 4;have Fa:=bJ.free 4;have y5:w3.cell? ⟨w2.heap.size,5,none⟩=some (.int .i64 0):=bJ.cell 5;have Fb:=bJ.free 5;have y6:w3.cell? ⟨w2.heap.size,6,none⟩=some (.string ⟨#[]⟩):=bJ.cell 6;have Fe:=bJ.free 6;have y7:w3.cell? ⟨w2.heap.size,7,none⟩=some (.string ⟨#[]⟩):=bJ.cell 7;have Fg:=bJ.free 7;have y8:w3.cell? ⟨w2.heap.size,8,none⟩=some (.bool false):=bJ.cell 8;have Fh:=bJ.free 8;have y9:w3.cell? ⟨w2.heap.size,9,none⟩=some (.int .i64 0):=bJ.cell 9;have Fj:=bJ.free 9;have wP:w3.cell? ⟨w2.heap.size,10,none⟩=some (.int .i64 0):=bJ.cell 10;have rJ:=bJ.free 10;obtain⟨w4,hw4,bB,g4⟩:=kQ bJ (.int .i64 3) (.int .i64 (i:Int)) (.int .i64 (-1)) (.int .i64 (-1)) (.int .i64 (-1)) (.int .i64 0) (.string nm) (.string ⟨#[]⟩) (.bool false) (.int .i64 0) (.int .i64 0);have bU:Below w.heap.size w w4:=dB.grown g4 dB.size (fun j hj=>by simp at hj;omega);have hs4:w2.heap.size<w4.heap.size:=by have:=bJ.lt;have:=g4.size;omega
 obtain⟨k4,_,_,Yy,_⟩:=(HM.out w4 bU).rd hi;have hai:yI (f i).at' nm = -1:=by unfold yI;rw[if_neg hcase]
 have hset:gK (f i).at' nm (aX v)=(f i).at'++[(nm,aX v)]:=by unfold gK;rw[List.getElem?_eq_none (by omega)]
 have hold:lJ (f i).at' nm=⟨#[]⟩:=by unfold lJ;rw[List.getElem?_eq_none (by omega)]
 have zW:vg (f i).at' nm=false:=decide_eq_false hcase;have qd:=zh (And.intro hset (And.intro hold zW));rw[hai];obtain⟨len,hlen⟩:=eX ((f i).at'.length)
 have HLEN:=zh hlen;obtain⟨aa,TK⟩:=eX ((f i).a.a)
 obtain⟨ac,hac⟩:=eX ((f i).a.c)
 have hav:(f i).a.v=.slice aa len ac:=by unfold Tr.Sl.v;rw[NM.out,TK,hac,hlen]
 have HAV:=zh hav;rw[hlen] at Yy hl;rw[TK,hac] at Yy;have uE:Below w.heap.size w w4.drew:=bU.trans ((aZ _ w4).mono bU.size);have N7:=bB.below (aZ _ w4) bB.lt;obtain⟨w5,fT⟩:=eX (w4.drew.alloc (.cells #[.string nm,.string rv] 74))
 have fB:Below w4.heap.size w4 w5:=by rw[←fT];exact (aZ _ w4).alloc (Nat.le_refl _) _
 have dY:=bU.trans (fB.mono bU.size);have dU:=bB.below fB bB.lt;have hsrc:((.slice (some ⟨w4.heap.size,0,none⟩) 1 1:Value)=.slice none 0 0∧1=0)∨∃ a c,(.slice (some ⟨w4.heap.size,0,none⟩) 1 1:Value)=.slice (some a) 1 c∧∀ j u,(fJ [(nm,rv)])[j]?=some u→w5.cell? (a.add j)=some u:=by
  rw[←fT];exact nT w4.drew 74 (fJ [(nm,rv)])
 have D6:=zh ((HM.out _ uE).rd hi).1;have Ju:=zh ((HM.out _ dY).rd hi).1;have aaW:=((HM.out _ uE).rd hi).2.2.2.1;have aaX:=((HM.out _ dY).rd hi).2.2.2.1;rw[hlen,TK,hac] at aaW aaX;have xq:TR w5 base 74 2 (.slice aa len ac) len (fJ (f i).at'):=by
  have:=(HM.out _ dY).ar i hi;rw[hav,hlen] at this;exact this
 have OH:base≤w5.heap.size:=Nat.le_trans Z0 dY.size;have gT:=zh dU;have IU:=zh dY;have yN:=zh bU;have x0:w4.cell? ⟨w2.heap.size,0,none⟩=some (.int .i64 3):=bB.cell 0;have xf0:=bB.free 0;have x1:w4.cell? ⟨w2.heap.size,1,none⟩=some (.int .i64 (i:Int)):=bB.cell 1;have xf1:=bB.free 1;have x2:w4.cell? ⟨w2.heap.size,2,none⟩=some (.int .i64 (-1)):=bB.cell 2;have xf2:=bB.free 2;have x3:w4.cell? ⟨w2.heap.size,3,none⟩=some (.int .i64 (-1)):=bB.cell 3;have xf3:=bB.free 3;have x4:w4.cell? ⟨w2.heap.size,4,none⟩=some (.int .i64 (-1)):=bB.cell 4;have xf4:=bB.free 4;have x5:w4.cell? ⟨w2.heap.size,5,none⟩=some (.int .i64 0):=bB.cell 5;have xf5:=bB.free 5;have x6:w4.cell? ⟨w2.heap.size,6,none⟩=some (.string nm):=bB.cell 6;have xf6:=bB.free 6;have x7:w4.cell? ⟨w2.heap.size,7,none⟩=some (.string ⟨#[]⟩):=bB.cell 7;have xf7:=bB.free 7;have x8:w4.cell? ⟨w2.heap.size,8,none⟩=some (.bool false):=bB.cell 8;have xf8:=bB.free 8;have x9:w4.cell? ⟨w2.heap.size,9,none⟩=some (.int .i64 0):=bB.cell 9;have xf9:=bB.free 9;have x10:w4.cell? ⟨w2.heap.size,10,none⟩=some (.int .i64 0):=bB.cell 10;have xf10:=bB.free 10;clear bJ bB N7 dU g4 eU dB hb3 hset hold zW hai hcase hav hlen TK hac OD dY bU fB;go_wp2_with fail;(try rw[hw4]);go_wp2_with fail;refine wp_region_noPanic ?_;refine wp_region_held_drew (S:=(fun W=>W.cell? ⟨M,0,none⟩=some (.slice (some ⟨g,0,none⟩) m c))) (by kernel_rfl) ?_ (fun ah=>?_)
 ·exact D6.out
 refine bE [0,1,2,3,4,5,6,7,8,9,10,11,13,14,15] ?_;iterate 15 (refine jl ?_;try simp only[pS])
 refine bF ?_;apply Yx
 ·intro KEY;refine zm 12 16 (fun K hK=>?_) fun K hK=>?_
  ·go_simp;refine hK.out _ _ (D6.out) fun ah=>?_;clear hK K;(try simp only[pS]);refine bO 16 fun K hK=>?_;go_simp;(try rw[fT]);refine hK.out _ _ (Ju.out) fun ah=>?_;clear hK K;(try simp only[pS]);exact KEY
  ·go_simp;(try rw[fT]);refine hK.out _ _ (Ju.out) fun ah=>?_;clear hK K;(try simp only[pS]);refine bO 12 fun K hK=>?_;go_simp;refine hK.out _ _ (Ju.out) fun ah=>?_;clear hK K;(try simp only[pS]);exact KEY
 refine bO 17 fun K hK=>?_;refine aJ rfl _ _ 50 rfl base 74 i0 (.agg #[.string ⟨#[]⟩,.string ⟨#[]⟩]) 2 32 Tryz.underlying50 hi0 hz0 hz1 hz2 rfl (by decide) _ len (fJ (f i).at') rfl xq _ 1 (fJ [(nm,rv)]) rfl rfl hsrc (gV _) ?c4 ?c5 OH ?_
 case c4=>unfold maxLen;omega
 case c5=>omega
 intro v7 w6 o7 g7 f7;rw[←jU] at o7;obtain⟨A7,c7,rfl⟩:=o7.form;have o7':TR w6 base 74 2 (Tr.Sl.v ⟨A7,len+1,c7⟩) ((f i).at'++[(nm,rv)]).length (fJ ((f i).at'++[(nm,rv)])):=by rw[List.length_append,HLEN.out];exact o7
 have TL:Below w4.heap.size w4 w5:=by rw[←fT];exact (aZ _ w4).alloc (Nat.le_refl _) _
 obtain⟨_,fz,hcells,qW,yJ⟩:=(HM.out w4 yN.out).nJ (sl:=⟨A7,len+1,c7⟩) (l':=(f i).at'++[(nm,rv)]) hi TL (by rw[HAV.out];exact g7) o7' (by rw[HAV.out];exact f7);have gI:=gT.out.grown g7 (fun e=>(xq.unlike gT.out (by decide)) e.symm);have hpc:=hcells i 2 hi (by omega);rw[show (p8 (f i))[2]?=some ((f i).a.v) from rfl,HAV.out] at hpc;have TI:w6.cell? ⟨M,0,none⟩=some (.slice (some ⟨g,0,none⟩) m c):=by
  have hv5:=(HM.out w5 IU.out).var;have hv6:=hv5.grown g7 (fun e=>(xq.unlike hv5 (by decide)) e.symm);exact hv6.cell 0
 obtain⟨w7,hw7⟩:=eX (w6.setCell ⟨g,i*7+2,none⟩ (.slice A7 (len+1) c7))
 rw[show (Tr.Sl.v ⟨A7,len+1,c7⟩)=.slice A7 (len+1) c7 from rfl,hw7] at qW yJ;have g8:w6.grownBy w7 (some g):=by rw[←hw7];exact aO (ay (Below.refl w6.heap.size w6) _) _ _
 have aK:=gI.grown g8 (fun e=>by injection e with e;omega);have pO:=(qW.rd hi).1;rw[show (f i).at'++[(nm,rv)]=gK (f i).at' nm (aX v) by rw[qd.out.1,show aX v=rv from KJ.out]] at qW yJ;have hs7:w.heap.size≤w7.heap.size:=by have:=g8.size;have:=g7.size;have:=IU.out.size;omega
 have qm:=(Below.refl _ w7).alloc (Nat.le_refl _) (.cells #[.int .i64 3,.int .i64 (i:Int),.int .i64 (-1),.int .i64 (-1),.int .i64 (-1),.int .i64 0,.string nm,.string ⟨#[]⟩,.bool false,.int .i64 0,.int .i64 0] 114);have bf:=zh (And.intro (nW w7 (fV i nm ⟨#[]⟩ false) w.heap.size hs7) (And.intro (qW.below qm) (((aB.of_below yN.out).trans yJ).trans (.of_below qm))));have s0:w7.cell? ⟨w2.heap.size,0,none⟩=some (.int .i64 3):=aK.cell 0;have Xh:=aK.free 0;have s1:w7.cell? ⟨w2.heap.size,1,none⟩=some (.int .i64 (i:Int)):=aK.cell 1;have Xi:=aK.free 1;have s2:w7.cell? ⟨w2.heap.size,2,none⟩=some (.int .i64 (-1)):=aK.cell 2;have Xj:=aK.free 2;have s3:w7.cell? ⟨w2.heap.size,3,none⟩=some (.int .i64 (-1)):=aK.cell 3;have Xk:=aK.free 3;have s4:w7.cell? ⟨w2.heap.size,4,none⟩=some (.int .i64 (-1)):=aK.cell 4;have Xl:=aK.free 4;have s5:w7.cell? ⟨w2.heap.size,5,none⟩=some (.int .i64 0):=aK.cell 5;have Xm:=aK.free 5;have s6:w7.cell? ⟨w2.heap.size,6,none⟩=some (.string nm):=aK.cell 6;have Xn:=aK.free 6;have s7:w7.cell? ⟨w2.heap.size,7,none⟩=some (.string ⟨#[]⟩):=aK.cell 7;have Xo:=aK.free 7;have s8:w7.cell? ⟨w2.heap.size,8,none⟩=some (.bool false):=aK.cell 8;have Xp:=aK.free 8;have s9:w7.cell? ⟨w2.heap.size,9,none⟩=some (.int .i64 0):=aK.cell 9;have Xq:=aK.free 9;have s10:w7.cell? ⟨w2.heap.size,10,none⟩=some (.int .i64 0):=aK.cell 10;have N8:=aK.free 10;clear qW yJ qm aK gI hcells o7 o7' g7 g8 f7 TL hs7;refine hK.out _ _ (TI) fun ah=>?_;clear hK K;(try simp only[pS]);refine bE [18,19] ?_;iterate 2 (refine jl ?_;try simp only[pS])
 refine bF ?_;refine bO 20 fun K hK=>?_;go_simp;(try rw[hw7]);refine hK.out _ _ (pO) fun ah=>?_;clear hK K;(try simp only[pS]);refine gQ ?_;go_wp2_with fail;go_ret2;obtain⟨z1,z2,z3⟩:=bf.out;refine⟨_,⟨A7,len+1,c7⟩,rfl,?_,z2,z3⟩;rw[qd.out.2.1,qd.out.2.2];exact z1
end
end Go.Proofs.YtjpbhkcjmdndjaaGreatDoor
