/- Part of a proof about trees. -/
import Derived.Test.YtnbaadpgbcklaaaGreatDoorS03
set_option linter.unusedVariables false
set_option linter.unusedSimpArgs false
set_option maxHeartbeats 2000000
set_option maxRecDepth 100000
namespace Go.Proofs.YtnbaadpgbcklaaaGreatDoor
section
open Go.RowKit
theorem Xl {G X:Prop} (use:X→G) (k:X):G:=use k
theorem nk:(Tryz.prog.info? 96).map (fun i=>(i.zero,i.size,i.bytes))=some (some (.agg #[.string ⟨#[]⟩,.string ⟨#[]⟩]),2,32):=by kernel_rfl
def fK (i:Nat) (nm old:ByteArray) (had:Bool):Tr.Rec:=⟨3,i,-1,-1,-1,0,nm,old,had,0,0⟩
theorem MV.rd {base M m g c:Nat} {f:Nat→RS} {w:World} (h:MV base w M (.slice (some ⟨g,0,none⟩) m c) m f) {i:Nat} (hi:i<m):
  w.cell? ⟨M,0,none⟩=some (.slice (some ⟨g,0,none⟩) m c)∧w.cell? ⟨g,i*7,none⟩=some (.int .i64 (f i).kind)∧w.cell? ⟨g,i*7+1,none⟩=some (.string (f i).name)∧w.cell? ⟨g,i*7+2,none⟩=some (.slice (f i).a.a (f i).at'.length (f i).a.c)∧w.cell? ⟨g,i*7+3,none⟩=some (.string (f i).data)∧w.cell? ⟨g,i*7+4,none⟩=some (.int .i64 (f i).pa)∧w.cell? ⟨g,i*7+5,none⟩=some (.slice (f i).k.a (f i).kids.length (f i).k.c)∧w.cell? ⟨g,i*7+6,none⟩=some (.bool (f i).gone):=by
 obtain⟨g',e,c0,c1,c2,c3,c4,c5,c6⟩:=h.read hi;obtain rfl:g=g':=by injection e with e;injection e
 rw[h.an hi] at c2;rw[h.kn hi] at c5;exact⟨h.cell.1,c0,c1,c2,c3,c4,c5,c6⟩
theorem MV.fz {base M m g c:Nat} {f:Nat→RS} {w:World} (h:MV base w M (.slice (some ⟨g,0,none⟩) m c) m f) (j:Nat):w.frozen? ⟨g,j,none⟩=false:=h.row.frozenAt _
theorem Ip (base M m:Nat) (vs:Value) (f:Nat→RS) (i:Nat) (nm v:ByteArray) (w:World) (h:MV base w M vs m f) (hi:i<m) (hk:(f i).kind≠2):
  Calls Tryz.prog 52 #[.pointer (some ⟨M,0,none⟩),.int .i64 (i:Int),.string nm,.string v] w fun e w'=>e=.returned (nU 10)∧w'=w:=by
 obtain⟨A,c,rfl⟩:=h.form;obtain⟨g,rfl,-⟩:=h.read hi;obtain⟨k0,c0,_⟩:=h.rd hi;have q1:(0:Int)≤(i:Int):=by omega
 have q2:(i:Int)<(m:Int):=by omega
 have q3:=bne_true hk;clear h hk
 go_enter Tryz.func52,Tryz.ntmps52
 go_wp2_with fail;go_ret2;exact⟨rfl,rfl⟩
theorem Ih (base M m:Nat) (vs:Value) (f:Nat→RS) (i:Nat) (nm v:ByteArray) (w:World) (h:MV base w M vs m f) (hi:i<m) (hk:(f i).kind=2) (hn:nm.size≤10000) (hb:Nm.attr nm=false):
  Calls Tryz.prog 52 #[.pointer (some ⟨M,0,none⟩),.int .i64 (i:Int),.string nm,.string v] w fun e w'=>e=.returned (nU 1)∧Below w.heap.size w w':=by
 obtain⟨A,c,rfl⟩:=h.form;obtain⟨g,rfl,-⟩:=h.read hi;obtain⟨k0,c0,_⟩:=h.rd hi;rw[hk] at c0;have q1:(0:Int)≤(i:Int):=by omega
 have q2:(i:Int)<(m:Int):=by omega
 have HH:=zh (oq nm w hn);rw[hb] at HH;clear h hk
 go_enter Tryz.func52,Tryz.ntmps52
 go_wp2_with fail;refine HH.out.mono ?_;rintro e w1 ⟨rfl,hb1⟩;clear HH;go_wp2_with fail;go_ret2;exact⟨rfl,hb1⟩
theorem Ij (base M m:Nat) (vs:Value) (f:Nat→RS) (i:Nat) (nm v:ByteArray) (w:World) (h:MV base w M vs m f) (hi:i<m) (hm:m≤100000) (hk:(f i).kind=2) (hn:nm.size≤10000) (hv:v.size≤10000) (hl:(f i).at'.length≤1000) (hb:Nm.attr nm=true) (hcase:oV (f i).at' nm<(f i).at'.length):
  Calls Tryz.prog 52 #[.pointer (some ⟨M,0,none⟩),.int .i64 (i:Int),.string nm,.string v] w fun e w'=>∃ r sl,e=.returned (.tuple #[r,.int .i64 0])∧jM w.heap.size w' r [fK i nm (lD (f i).at' nm) (uP (f i).at' nm)]∧
   MV base w' M vs m (aV f i fun n=>{ n with a:=sl,at':=gD (f i).at' nm (aX v) })∧aB w w' (aC M vs m f) (aC M vs m (aV f i fun n=>{ n with a:=sl,at':=gD (f i).at' nm (aX v) })):=by
 obtain⟨i0,hi0,hz0,hz1,hz2⟩:=info_parts nk;obtain⟨A,c,rfl⟩:=h.form;obtain⟨g,rfl,-⟩:=h.read hi;obtain⟨k0,c0,_⟩:=h.rd hi;rw[hk] at c0;have q1:(0:Int)≤(i:Int):=by omega
 have q2:(i:Int)<(m:Int):=by omega
 have HH:=zh (oq nm w hn);rw[hb] at HH;have HM:=zh (fun (W:World) (hb:Below w.heap.size w W)=>h.below hb);have hgl:g<w.heap.size:=(h.row.lt g rfl).2;have Vi:M<w.heap.size:=h.var.lt;have rA:=zh h.lt;have NY:=zh (h.ar i hi);have Ng:=zh (h.an hi);have YR:base≤w.heap.size:=by have:=h.low;omega
 clear h hk
 go_enter Tryz.func52,Tryz.ntmps52
 go_wp2_with fail;refine HH.out.mono ?_;rintro e w1 ⟨rfl,hb1⟩;have HR:=zh (jZ v w1 hv);clear HH;go_wp2_with fail;refine HR.out.mono ?_;rintro e w2 ⟨rfl,hb2⟩;have eP:=hb1.trans (hb2.mono hb1.size);obtain⟨rv,mQ⟩:=eX (fA (bD.rep v.data.toList))
 have J7:=zh mQ;rw[mQ];have HF:=zh (tJ base M m _ f i nm w2 (HM.out w2 eP) hi hm hl);clear HR hb1 hb2 mQ;go_wp2_with fail;refine HF.out.mono ?_;rintro e w2' ⟨rfl,IX⟩;obtain rfl:=IX.symm;clear HF;obtain⟨w3,hw3⟩:=eX (w2.alloc (.cells #[.int .i64 0,.int .i64 0,.int .i64 0,.int .i64 0,.int .i64 0,.int .i64 0,.string ⟨#[]⟩,.string ⟨#[]⟩,.bool false,.int .i64 0,.int .i64 0] 147))
 have hb3:Below w2.heap.size w2 w3:=gP hw3;have aR:Whole w3 w2.heap.size #[.int .i64 0,.int .i64 0,.int .i64 0,.int .i64 0,.int .i64 0,.int .i64 0,.string ⟨#[]⟩,.string ⟨#[]⟩,.bool false,.int .i64 0,.int .i64 0] 147:=by rw[←hw3];exact Whole.new w2 _ _
 have dA:=eP.trans (hb3.mono eP.size);have hs2:w.heap.size≤w2.heap.size:=eP.size;have y0:w3.cell? ⟨w2.heap.size,0,none⟩=some (.int .i64 0):=aR.cell 0;have AU:=aR.free 0;have y1:w3.cell? ⟨w2.heap.size,1,none⟩=some (.int .i64 0):=aR.cell 1;have AV:=aR.free 1;have y2:w3.cell? ⟨w2.heap.size,2,none⟩=some (.int .i64 0):=aR.cell 2;have AX:=aR.free 2;have y3:w3.cell? ⟨w2.heap.size,3,none⟩=some (.int .i64 0):=aR.cell 3;have AY:=aR.free 3;have y4:w3.cell? ⟨w2.heap.size,4,none⟩=some (.int .i64 0):=aR.cell 4;have AZ:=aR.free 4;have y5:w3.cell? ⟨w2.heap.size,5,none⟩=some (.int .i64 0):=aR.cell 5;have Ba:=aR.free 5;have y6:w3.cell? ⟨w2.heap.size,6,none⟩=some (.string ⟨#[]⟩):=aR.cell 6;have Bb:=aR.free 6;have y7:w3.cell? ⟨w2.heap.size,7,none⟩=some (.string ⟨#[]⟩):=aR.cell 7;have Bc:=aR.free 7;have y8:w3.cell? ⟨w2.heap.size,8,none⟩=some (.bool false):=aR.cell 8;have Bd:=aR.free 8;have y9:w3.cell? ⟨w2.heap.size,9,none⟩=some (.int .i64 0):=aR.cell 9;have EM:=aR.free 9;have wH:w3.cell? ⟨w2.heap.size,10,none⟩=some (.int .i64 0):=aR.cell 10;have rF:=aR.free 10;obtain⟨w4,hw4,bg,g4⟩:=kG aR (.int .i64 3) (.int .i64 (i:Int)) (.int .i64 (-1)) (.int .i64 (-1)) (.int .i64 (-1)) (.int .i64 0) (.string nm) (.string ⟨#[]⟩) (.bool false) (.int .i64 0) (.int .i64 0);have bR:Below w.heap.size w w4:=dA.grown g4 dA.size (fun j hj=>by simp at hj;omega);have hs4:w2.heap.size<w4.heap.size:=by have:=aR.lt;have:=g4.size;omega
 obtain⟨k4,_,_,Xm,_⟩:=(HM.out w4 bR).rd hi;obtain⟨k,hkk⟩:=eX (oV (f i).at' nm)
 rw[hkk] at hcase;obtain⟨p,hp⟩:∃ p,(f i).at'[k]?=some p:=⟨(f i).at'[k]'(by omega),by simp⟩
 have hai:yc (f i).at' nm=(k:Int):=by unfold yc;rw[hkk,if_pos hcase]
 have hset:gD (f i).at' nm (aX v)=(f i).at'.set k (p.1,aX v):=by unfold gD;rw[hkk,hp]
 have hold:lD (f i).at' nm=p.2:=by unfold lD;rw[hkk,hp]
 have zI:uP (f i).at' nm=true:=decide_eq_true (by rw[hkk];exact hcase);have pV:=zh (And.intro hset (And.intro hold (And.intro zI hp)));rw[hai];obtain⟨ga,oa,hA,a41,a42⟩:=(HM.out w4 bR).attr hi hp;rw[hA] at Xm;have abE:ga<w.heap.size:=(rA.out ga (.inr (.inr ⟨i,hi,.inl (by unfold Tr.Sl.v;rw[hA];rfl)⟩))).2;obtain⟨len,hlen⟩:=eX ((f i).at'.length)
 have HLEN:=zh hlen;rw[hlen] at Xm hcase hl;have p1:(k:Int)<(len:Int):=by omega
 have p0:(0:Int)≤(k:Int):=by omega
 have x0:w4.cell? ⟨w2.heap.size,0,none⟩=some (.int .i64 3):=bg.cell 0;have xf0:=bg.free 0;have x1:w4.cell? ⟨w2.heap.size,1,none⟩=some (.int .i64 (i:Int)):=bg.cell 1;have xf1:=bg.free 1;have x2:w4.cell? ⟨w2.heap.size,2,none⟩=some (.int .i64 (-1)):=bg.cell 2;have xf2:=bg.free 2;have x3:w4.cell? ⟨w2.heap.size,3,none⟩=some (.int .i64 (-1)):=bg.cell 3;have xf3:=bg.free 3;have x4:w4.cell? ⟨w2.heap.size,4,none⟩=some (.int .i64 (-1)):=bg.cell 4;have xf4:=bg.free 4;have x5:w4.cell? ⟨w2.heap.size,5,none⟩=some (.int .i64 0):=bg.cell 5;have xf5:=bg.free 5;have x6:w4.cell? ⟨w2.heap.size,6,none⟩=some (.string nm):=bg.cell 6;have xf6:=bg.free 6;have x7:w4.cell? ⟨w2.heap.size,7,none⟩=some (.string ⟨#[]⟩):=bg.cell 7;have xf7:=bg.free 7;have x8:w4.cell? ⟨w2.heap.size,8,none⟩=some (.bool false):=bg.cell 8;have xf8:=bg.free 8;have x9:w4.cell? ⟨w2.heap.size,9,none⟩=some (.int .i64 0):=bg.cell 9;have xf9:=bg.free 9;have x10:w4.cell? ⟨w2.heap.size,10,none⟩=some (.int .i64 0):=bg.cell 10;have xf10:=bg.free 10;obtain⟨w5,fU⟩:=eX (w4.setCell ⟨w2.heap.size,8,none⟩ (.bool true))
 have dR:Whole (w4.setCell ⟨w2.heap.size,8,none⟩ (.bool true)) w2.heap.size #[.int .i64 3,.int .i64 (i:Int),.int .i64 (-1),.int .i64 (-1),.int .i64 (-1),.int .i64 0,.string nm,.string ⟨#[]⟩,.bool true,.int .i64 0,.int .i64 0] 147:=bg.put 8 (.bool true);rw[fU] at dR;have g5:w4.grownBy w5 (some w2.heap.size):=by rw[←fU];exact aK (au (Below.refl w4.heap.size w4) _) _ _
 have dZ:Below w.heap.size w w5:=bR.grown g5 bR.size (fun j hj=>by injection hj with hj;omega);obtain⟨k5,_,_,c52,_⟩:=(HM.out w5 dZ).rd hi;obtain⟨Uj,oa',hA',_,a52⟩:=(HM.out w5 dZ).attr hi hp;obtain⟨rfl,rfl⟩:ga=Uj∧oa=oa':=by rw[hA] at hA';injection hA' with e;injection e with e1 e2;exact⟨e1,e2⟩
 rw[hA,hlen] at c52;have y57:=dR.cell 7;have abF:=dR.free 7;obtain⟨w6,kZ⟩:=eX (w5.setCell ⟨w2.heap.size,7,none⟩ (.string p.2))
 have fQ:Whole (w5.setCell ⟨w2.heap.size,7,none⟩ (.string p.2)) w2.heap.size #[.int .i64 3,.int .i64 (i:Int),.int .i64 (-1),.int .i64 (-1),.int .i64 (-1),.int .i64 0,.string nm,.string p.2,.bool true,.int .i64 0,.int .i64 0] 147:=dR.put 7 (.string p.2);rw[kZ] at fQ;have g6:w5.grownBy w6 (some w2.heap.size):=by rw[←kZ];exact aK (au (Below.refl w5.heap.size w5) _) _ _
 have iE:Below w.heap.size w w6:=dZ.grown g6 dZ.size (fun j hj=>by injection hj with hj;omega);obtain⟨k6,_,_,c62,_⟩:=(HM.out w6 iE).rd hi;obtain⟨Uj,oa',hA',_,a62⟩:=(HM.out w6 iE).attr hi hp;obtain⟨rfl,rfl⟩:ga=Uj∧oa=oa':=by rw[hA] at hA';injection hA' with e;injection e with e1 e2;exact⟨e1,e2⟩
 rw[hA,hlen] at c62;have f62:w6.frozen? ⟨ga,oa+k*2+1,none⟩=false:=by
  have wR:=(HM.out w6 iE).ar i hi;have e:(f i).a.v=.slice (some ⟨ga,oa,none⟩) (f i).at'.length (f i).a.c:=by unfold Tr.Sl.v;rw[hA,Ng.out]
  rw[e] at wR;exact wR.frozen _
 obtain⟨qQ,yh⟩:=(HM.out w6 iE).LH (v:=rv) hi hA Ng.out hp;rw[←Nat.add_assoc] at qQ yh;obtain⟨w7,hw7⟩:=eX (w6.setCell ⟨ga,oa+k*2+1,none⟩ (.string rv))
 rw[hw7] at qQ yh;have g7:w6.grownBy w7 (some ga):=by rw[←hw7];exact aK (au (Below.refl w6.heap.size w6) _) _ _
 have aP:=fQ.grown g7 (fun e=>by injection e with e;omega);have hfun:(aV f i fun n=>{ n with at':=n.at'.set k (p.1,rv) })=aV f i fun n=>{ n with a:=(f i).a,at':=gD (f i).at' nm (aX v) }:=by
  funext j;unfold aV;by_cases e:j=i
  ·subst e;rw[if_pos rfl,if_pos rfl,pV.out.1,show aX v=rv from J7.out]
  ·rw[if_neg e,if_neg e]
 rw[hfun] at qQ yh;have hs7:w.heap.size≤w7.heap.size:=Nat.le_trans iE.size g7.size;have pY:=(Below.refl _ w7).alloc (Nat.le_refl _) (.cells #[.int .i64 3,.int .i64 (i:Int),.int .i64 (-1),.int .i64 (-1),.int .i64 (-1),.int .i64 0,.string nm,.string p.2,.bool true,.int .i64 0,.int .i64 0] 147);have bf:=zh (And.intro (nO w7 (fK i nm p.2 true) w.heap.size hs7) (And.intro (qQ.below pY) (((aB.of_below iE).trans yh).trans (.of_below pY))));have s0:w7.cell? ⟨w2.heap.size,0,none⟩=some (.int .i64 3):=aP.cell 0;have VP:=aP.free 0;have s1:w7.cell? ⟨w2.heap.size,1,none⟩=some (.int .i64 (i:Int)):=aP.cell 1;have VQ:=aP.free 1;have s2:w7.cell? ⟨w2.heap.size,2,none⟩=some (.int .i64 (-1)):=aP.cell 2;have VR:=aP.free 2;have s3:w7.cell? ⟨w2.heap.size,3,none⟩=some (.int .i64 (-1)):=aP.cell 3;have VT:=aP.free 3;have s4:w7.cell? ⟨w2.heap.size,4,none⟩=some (.int .i64 (-1)):=aP.cell 4;have VU:=aP.free 4;have s5:w7.cell? ⟨w2.heap.size,5,none⟩=some (.int .i64 0):=aP.cell 5;have VW:=aP.free 5;have s6:w7.cell? ⟨w2.heap.size,6,none⟩=some (.string nm):=aP.cell 6;have VX:=aP.free 6;have s7:w7.cell? ⟨w2.heap.size,7,none⟩=some (.string p.2):=aP.cell 7;have VY:=aP.free 7;have s8:w7.cell? ⟨w2.heap.size,8,none⟩=some (.bool true):=aP.cell 8;have VZ:=aP.free 8;have s9:w7.cell? ⟨w2.heap.size,9,none⟩=some (.int .i64 0):=aP.cell 9;have V5:=aP.free 9;have s10:w7.cell? ⟨w2.heap.size,10,none⟩=some (.int .i64 0):=aP.cell 10;have Nw:=aP.free 10;clear aR bg dR fQ aP g4 g5 g6 g7 qQ yh pY eP dA bR dZ iE hb3 hfun hset hold zI hai hkk hA' HM NY hlen hp hA;go_wp2_with fail;(try rw[hw4]);go_wp2_with fail;(try rw[fU]);go_wp2_with fail;(try rw[kZ]);go_wp2_with fail;(try rw[hw7]);go_wp2_with fail;go_ret2;obtain⟨z1,z2,z3⟩:=bf.out;refine⟨_,(f i).a,rfl,?_,z2,z3⟩;rw[pV.out.2.1,pV.out.2.2.1];exact z1
theorem Il (base M m:Nat) (vs:Value) (f:Nat→RS) (i:Nat) (nm v:ByteArray) (w:World) (h:MV base w M vs m f) (hi:i<m) (hm:m≤100000) (hk:(f i).kind=2) (hn:nm.size≤10000) (hv:v.size≤10000) (hl:(f i).at'.length≤1000) (hb:Nm.attr nm=true) (hcase:¬ oV (f i).at' nm<(f i).at'.length):
  Calls Tryz.prog 52 #[.pointer (some ⟨M,0,none⟩),.int .i64 (i:Int),.string nm,.string v] w fun e w'=>∃ r sl,e=.returned (.tuple #[r,.int .i64 0])∧jM w.heap.size w' r [fK i nm (lD (f i).at' nm) (uP (f i).at' nm)]∧
   MV base w' M vs m (aV f i fun n=>{ n with a:=sl,at':=gD (f i).at' nm (aX v) })∧aB w w' (aC M vs m f) (aC M vs m (aV f i fun n=>{ n with a:=sl,at':=gD (f i).at' nm (aX v) })):=by
 obtain⟨i0,hi0,hz0,hz1,hz2⟩:=info_parts nk;obtain⟨A,c,rfl⟩:=h.form;obtain⟨g,rfl,-⟩:=h.read hi;obtain⟨k0,c0,_⟩:=h.rd hi;rw[hk] at c0;have q1:(0:Int)≤(i:Int):=by omega
 have q2:(i:Int)<(m:Int):=by omega
 have HH:=zh (oq nm w hn);rw[hb] at HH;have HM:=zh (fun (W:World) (hb:Below w.heap.size w W)=>h.below hb);have hgl:g<w.heap.size:=(h.row.lt g rfl).2;have Vi:M<w.heap.size:=h.var.lt;have rA:=zh h.lt;have NY:=zh (h.ar i hi);have Ng:=zh (h.an hi);have YR:base≤w.heap.size:=by have:=h.low;omega
 clear h hk
 go_enter Tryz.func52,Tryz.ntmps52
 go_wp2_with fail;refine HH.out.mono ?_;rintro e w1 ⟨rfl,hb1⟩;have HR:=zh (jZ v w1 hv);clear HH;go_wp2_with fail;refine HR.out.mono ?_;rintro e w2 ⟨rfl,hb2⟩;have eP:=hb1.trans (hb2.mono hb1.size);obtain⟨rv,mQ⟩:=eX (fA (bD.rep v.data.toList))
 have J7:=zh mQ;rw[mQ];have HF:=zh (tJ base M m _ f i nm w2 (HM.out w2 eP) hi hm hl);clear HR hb1 hb2 mQ;go_wp2_with fail;refine HF.out.mono ?_;rintro e w2' ⟨rfl,IX⟩;obtain rfl:=IX.symm;clear HF;obtain⟨w3,hw3⟩:=eX (w2.alloc (.cells #[.int .i64 0,.int .i64 0,.int .i64 0,.int .i64 0,.int .i64 0,.int .i64 0,.string ⟨#[]⟩,.string ⟨#[]⟩,.bool false,.int .i64 0,.int .i64 0] 147))
 have hb3:Below w2.heap.size w2 w3:=gP hw3;have aR:Whole w3 w2.heap.size #[.int .i64 0,.int .i64 0,.int .i64 0,.int .i64 0,.int .i64 0,.int .i64 0,.string ⟨#[]⟩,.string ⟨#[]⟩,.bool false,.int .i64 0,.int .i64 0] 147:=by rw[←hw3];exact Whole.new w2 _ _
 have dA:=eP.trans (hb3.mono eP.size);have hs2:w.heap.size≤w2.heap.size:=eP.size;have y0:w3.cell? ⟨w2.heap.size,0,none⟩=some (.int .i64 0):=aR.cell 0;have AU:=aR.free 0;have y1:w3.cell? ⟨w2.heap.size,1,none⟩=some (.int .i64 0):=aR.cell 1;have AV:=aR.free 1;have y2:w3.cell? ⟨w2.heap.size,2,none⟩=some (.int .i64 0):=aR.cell 2;have AX:=aR.free 2;have y3:w3.cell? ⟨w2.heap.size,3,none⟩=some (.int .i64 0):=aR.cell 3;have AY:=aR.free 3;have y4:w3.cell? ⟨w2.heap.size,4,none⟩=some (.int .i64 0):=aR.cell 4;have AZ:=aR.free 4;have y5:w3.cell? ⟨w2.heap.size,5,none⟩=some (.int .i64 0):=aR.cell 5;have Ba:=aR.free 5;have y6:w3.cell? ⟨w2.heap.size,6,none⟩=some (.string ⟨#[]⟩):=aR.cell 6;have Bb:=aR.free 6;have y7:w3.cell? ⟨w2.heap.size,7,none⟩=some (.string ⟨#[]⟩):=aR.cell 7;have Bc:=aR.free 7;have y8:w3.cell? ⟨w2.heap.size,8,none⟩=some (.bool false):=aR.cell 8;have Bd:=aR.free 8;have y9:w3.cell? ⟨w2.heap.size,9,none⟩=some (.int .i64 0):=aR.cell 9;have EM:=aR.free 9;have wH:w3.cell? ⟨w2.heap.size,10,none⟩=some (.int .i64 0):=aR.cell 10;have rF:=aR.free 10;obtain⟨w4,hw4,bg,g4⟩:=kG aR (.int .i64 3) (.int .i64 (i:Int)) (.int .i64 (-1)) (.int .i64 (-1)) (.int .i64 (-1)) (.int .i64 0) (.string nm) (.string ⟨#[]⟩) (.bool false) (.int .i64 0) (.int .i64 0);have bR:Below w.heap.size w w4:=dA.grown g4 dA.size (fun j hj=>by simp at hj;omega);have hs4:w2.heap.size<w4.heap.size:=by have:=aR.lt;have:=g4.size;omega
 obtain⟨k4,_,_,Xm,_⟩:=(HM.out w4 bR).rd hi;have hai:yc (f i).at' nm = -1:=by unfold yc;rw[if_neg hcase]
 have hset:gD (f i).at' nm (aX v)=(f i).at'++[(nm,aX v)]:=by unfold gD;rw[List.getElem?_eq_none (by omega)]
 have hold:lD (f i).at' nm=⟨#[]⟩:=by unfold lD;rw[List.getElem?_eq_none (by omega)]
 have zI:uP (f i).at' nm=false:=decide_eq_false hcase;have pV:=zh (And.intro hset (And.intro hold zI));rw[hai];obtain⟨len,hlen⟩:=eX ((f i).at'.length)
 have HLEN:=zh hlen;obtain⟨aa,Sr⟩:=eX ((f i).a.a)
 obtain⟨ac,hac⟩:=eX ((f i).a.c)
 have Xn:(f i).a.v=.slice aa len ac:=by unfold Tr.Sl.v;rw[Ng.out,Sr,hac,hlen]
 have HAV:=zh Xn;rw[hlen] at Xm hl;rw[Sr,hac] at Xm;have lW:Below w.heap.size w w4.drew:=bR.trans ((aZ _ w4).mono bR.size);have Nv:=bg.below (aZ _ w4) bg.lt;obtain⟨w5,fU⟩:=eX (w4.drew.alloc (.cells #[.string nm,.string rv] 96))
 have eY:Below w4.heap.size w4 w5:=by rw[←fU];exact (aZ _ w4).alloc (Nat.le_refl _) _
 have dZ:=bR.trans (eY.mono bR.size);have dR:=bg.below eY bg.lt;have hsrc:((.slice (some ⟨w4.heap.size,0,none⟩) 1 1:Value)=.slice none 0 0∧1=0)∨∃ a c,(.slice (some ⟨w4.heap.size,0,none⟩) 1 1:Value)=.slice (some a) 1 c∧∀ j u,(fF [(nm,rv)])[j]?=some u→w5.cell? (a.add j)=some u:=by
  rw[←fU];exact nL w4.drew 96 (fF [(nm,rv)])
 have Kj:=zh ((HM.out _ lW).rd hi).1;have IY:=zh ((HM.out _ dZ).rd hi).1;have aaE:=((HM.out _ lW).rd hi).2.2.2.1;have aaF:=((HM.out _ dZ).rd hi).2.2.2.1;rw[hlen,Sr,hac] at aaE aaF;have wS:TR w5 base 96 2 (.slice aa len ac) len (fF (f i).at'):=by
  have:=(HM.out _ dZ).ar i hi;rw[Xn,hlen] at this;exact this
 have N8:base≤w5.heap.size:=Nat.le_trans YR dZ.size;have gL:=zh dR;have Ib:=zh dZ;have yA:=zh bR;have x0:w4.cell? ⟨w2.heap.size,0,none⟩=some (.int .i64 3):=bg.cell 0;have xf0:=bg.free 0;have x1:w4.cell? ⟨w2.heap.size,1,none⟩=some (.int .i64 (i:Int)):=bg.cell 1;have xf1:=bg.free 1;have x2:w4.cell? ⟨w2.heap.size,2,none⟩=some (.int .i64 (-1)):=bg.cell 2;have xf2:=bg.free 2;have x3:w4.cell? ⟨w2.heap.size,3,none⟩=some (.int .i64 (-1)):=bg.cell 3;have xf3:=bg.free 3;have x4:w4.cell? ⟨w2.heap.size,4,none⟩=some (.int .i64 (-1)):=bg.cell 4;have xf4:=bg.free 4;have x5:w4.cell? ⟨w2.heap.size,5,none⟩=some (.int .i64 0):=bg.cell 5;have xf5:=bg.free 5;have x6:w4.cell? ⟨w2.heap.size,6,none⟩=some (.string nm):=bg.cell 6;have xf6:=bg.free 6;have x7:w4.cell? ⟨w2.heap.size,7,none⟩=some (.string ⟨#[]⟩):=bg.cell 7;have xf7:=bg.free 7;have x8:w4.cell? ⟨w2.heap.size,8,none⟩=some (.bool false):=bg.cell 8;have xf8:=bg.free 8;have x9:w4.cell? ⟨w2.heap.size,9,none⟩=some (.int .i64 0):=bg.cell 9;have xf9:=bg.free 9;have x10:w4.cell? ⟨w2.heap.size,10,none⟩=some (.int .i64 0):=bg.cell 10;have xf10:=bg.free 10;clear aR bg Nv dR g4 eP dA hb3 hset hold zI hai hcase Xn hlen Sr hac NY dZ bR eY;go_wp2_with fail;(try rw[hw4]);go_wp2_with fail;refine wp_region_noPanic ?_;refine wp_region_held_drew (S:=(fun W=>W.cell? ⟨M,0,none⟩=some (.slice (some ⟨g,0,none⟩) m c))) (by kernel_rfl) ?_ (fun ah=>?_)
 ·exact Kj.out
 refine bE [0,1,2,3,4,5,6,7,8,9,10,11,13,14,15] ?_;iterate 15 (refine jf ?_;try simp only[pS])
 refine bF ?_;apply Xl
 ·intro KEY;refine yg 12 16 (fun K hK=>?_) fun K hK=>?_
  ·go_simp;refine hK.out _ _ (Kj.out) fun ah=>?_;clear hK K;(try simp only[pS]);refine bI 16 fun K hK=>?_;go_simp;(try rw[fU]);refine hK.out _ _ (IY.out) fun ah=>?_;clear hK K;(try simp only[pS]);exact KEY
  ·go_simp;(try rw[fU]);refine hK.out _ _ (IY.out) fun ah=>?_;clear hK K;(try simp only[pS]);refine bI 12 fun K hK=>?_;go_simp;refine hK.out _ _ (IY.out) fun ah=>?_;clear hK K;(try simp only[pS]);exact KEY
 refine bI 17 fun K hK=>?_;refine aO rfl _ _ 65 rfl base 96 i0 (.agg #[.string ⟨#[]⟩,.string ⟨#[]⟩]) 2 32 Tryz.underlying65 hi0 hz0 hz1 hz2 rfl (by decide) _ len (fF (f i).at') rfl wS _ 1 (fF [(nm,rv)]) rfl rfl hsrc (gN _) ?c4 ?c5 N8 ?_
 case c4=>unfold maxLen;omega
 case c5=>omega
 intro v7 w6 o7 g7 f7;rw[←jR] at o7;obtain⟨A7,c7,rfl⟩:=o7.form;have o7':TR w6 base 96 2 (Tr.Sl.v ⟨A7,len+1,c7⟩) ((f i).at'++[(nm,rv)]).length (fF ((f i).at'++[(nm,rv)])):=by rw[List.length_append,HLEN.out];exact o7
 have Sv:Below w4.heap.size w4 w5:=by rw[←fU];exact (aZ _ w4).alloc (Nat.le_refl _) _
 obtain⟨_,fz,hcells,qQ,yh⟩:=(HM.out w4 yA.out).mY (sl:=⟨A7,len+1,c7⟩) (l':=(f i).at'++[(nm,rv)]) hi Sv (by rw[HAV.out];exact g7) o7' (by rw[HAV.out];exact f7);have fQ:=gL.out.grown g7 (fun e=>(wS.unlike gL.out (by decide)) e.symm);have hpc:=hcells i 2 hi (by omega);rw[show (pQ (f i))[2]?=some ((f i).a.v) from rfl,HAV.out] at hpc;have Sn:w6.cell? ⟨M,0,none⟩=some (.slice (some ⟨g,0,none⟩) m c):=by
  have hv5:=(HM.out w5 Ib.out).var;have hv6:=hv5.grown g7 (fun e=>(wS.unlike hv5 (by decide)) e.symm);exact hv6.cell 0
 obtain⟨w7,hw7⟩:=eX (w6.setCell ⟨g,i*7+2,none⟩ (.slice A7 (len+1) c7))
 rw[show (Tr.Sl.v ⟨A7,len+1,c7⟩)=.slice A7 (len+1) c7 from rfl,hw7] at qQ yh;have g8:w6.grownBy w7 (some g):=by rw[←hw7];exact aK (au (Below.refl w6.heap.size w6) _) _ _
 have aP:=fQ.grown g8 (fun e=>by injection e with e;omega);have qR:=(qQ.rd hi).1;rw[show (f i).at'++[(nm,rv)]=gD (f i).at' nm (aX v) by rw[pV.out.1,show aX v=rv from J7.out]] at qQ yh;have hs7:w.heap.size≤w7.heap.size:=by have:=g8.size;have:=g7.size;have:=Ib.out.size;omega
 have pY:=(Below.refl _ w7).alloc (Nat.le_refl _) (.cells #[.int .i64 3,.int .i64 (i:Int),.int .i64 (-1),.int .i64 (-1),.int .i64 (-1),.int .i64 0,.string nm,.string ⟨#[]⟩,.bool false,.int .i64 0,.int .i64 0] 147);have bf:=zh (And.intro (nO w7 (fK i nm ⟨#[]⟩ false) w.heap.size hs7) (And.intro (qQ.below pY) (((aB.of_below yA.out).trans yh).trans (.of_below pY))));have s0:w7.cell? ⟨w2.heap.size,0,none⟩=some (.int .i64 3):=aP.cell 0;have VP:=aP.free 0;have s1:w7.cell? ⟨w2.heap.size,1,none⟩=some (.int .i64 (i:Int)):=aP.cell 1;have VQ:=aP.free 1;have s2:w7.cell? ⟨w2.heap.size,2,none⟩=some (.int .i64 (-1)):=aP.cell 2;have VR:=aP.free 2;have s3:w7.cell? ⟨w2.heap.size,3,none⟩=some (.int .i64 (-1)):=aP.cell 3;have VT:=aP.free 3;have s4:w7.cell? ⟨w2.heap.size,4,none⟩=some (.int .i64 (-1)):=aP.cell 4;have VU:=aP.free 4;have s5:w7.cell? ⟨w2.heap.size,5,none⟩=some (.int .i64 0):=aP.cell 5;have VW:=aP.free 5;have s6:w7.cell? ⟨w2.heap.size,6,none⟩=some (.string nm):=aP.cell 6;have VX:=aP.free 6;have s7:w7.cell? ⟨w2.heap.size,7,none⟩=some (.string ⟨#[]⟩):=aP.cell 7;have VY:=aP.free 7;have s8:w7.cell? ⟨w2.heap.size,8,none⟩=some (.bool false):=aP.cell 8;have VZ:=aP.free 8;have s9:w7.cell? ⟨w2.heap.size,9,none⟩=some (.int .i64 0):=aP.cell 9;have V5:=aP.free 9;have s10:w7.cell? ⟨w2.heap.size,10,none⟩=some (.int .i64 0):=aP.cell 10;have Nw:=aP.free 10;clear qQ yh pY aP fQ hcells o7 o7' g7 g8 f7 Sv hs7;refine hK.out _ _ (Sn) fun ah=>?_;clear hK K;(try simp only[pS]);refine bE [18,19] ?_;iterate 2 (refine jf ?_;try simp only[pS])
 refine bF ?_;refine bI 20 fun K hK=>?_;go_simp;(try rw[hw7]);refine hK.out _ _ (qR) fun ah=>?_;clear hK K;(try simp only[pS]);refine gq ?_;go_wp2_with fail;go_ret2;obtain⟨z1,z2,z3⟩:=bf.out;refine⟨_,⟨A7,len+1,c7⟩,rfl,?_,z2,z3⟩;rw[pV.out.2.1,pV.out.2.2];exact z1
end
end Go.Proofs.YtnbaadpgbcklaaaGreatDoor
