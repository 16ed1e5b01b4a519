/- Part of a proof about trees. -/
import Derived.Sort.CutIn
import Derived.Test.YtnbaadpgbcklaaaGreatDoorGNRpk
import Derived.Test.YtnbaadpgbcklaaaGreatDoorGNRsa
set_option linter.unusedVariables false
set_option linter.unusedSimpArgs false
set_option maxHeartbeats 4000000
set_option maxRecDepth 100000
namespace Go.Proofs.YtnbaadpgbcklaaaGreatDoor
section
open Go.RowKit
def pG (i:Nat) (ix:Int) (old:ByteArray) (c sz:Int):Tr.Rec:=⟨4,i,-1,-1,-1,ix,⟨#[]⟩,old,false,c,sz⟩
theorem Dn (base M m:Nat) (vs:Value) (f:Nat→RS) (i:Nat) (I C:Int) (v:ByteArray) (w:World) (h:MV base w M vs m f) (hi:i<m) (hk:(f i).kind<3):
  Calls Tryz.prog 54 #[.pointer (some ⟨M,0,none⟩),.int .i64 (i:Int),.int .i64 I,.int .i64 C,.string v] w fun e w'=>e=.returned (nU 10)∧w'=w:=by
 obtain⟨A,c,rfl⟩:=h.form;obtain⟨g,rfl,-⟩:=h.read hi;obtain⟨k0,c0,_⟩:=h.rd hi;have q1:(0:Int)≤(i:Int):=by omega
 have q2:(i:Int)<(m:Int):=by omega
 clear h
 go_enter Tryz.func54,Tryz.ntmps54
 go_wp2_with fail;go_ret2;exact⟨rfl,rfl⟩
theorem za (base M m:Nat) (vs:Value) (f:Nat→RS) (i:Nat) (I C:Int) (v:ByteArray) (w:World) (h:MV base w M vs m f) (hi:i<m) (hk:3≤(f i).kind) (hd:bD.rep (f i).data.data.toList=(f i).data.data.toList) (hz:(f i).data.size≤8000) (hr:I<0∨((iM (f i).data).length:Int)<I∨C<0):
  Calls Tryz.prog 54 #[.pointer (some ⟨M,0,none⟩),.int .i64 (i:Int),.int .i64 I,.int .i64 C,.string v] w fun e w'=>e=.returned (nU 2)∧Below w.heap.size w w':=by
 obtain⟨A,c,rfl⟩:=h.form;obtain⟨g,rfl,-⟩:=h.read hi;obtain⟨k0,c0,-,-,c3,-⟩:=h.rd hi;have q1:(0:Int)≤(i:Int):=by omega
 have q2:(i:Int)<(m:Int):=by omega
 have q3:¬ (f i).kind<3:=by omega
 have hgood:=bD.bZ (f i).data.data.toList;have iG:=sM hd;have hfl:(iM (f i).data).flatten.length=(f i).data.size:=by rw[←iG];rfl
 obtain⟨cs,hcs⟩:=eX (iM (f i).data)
 have hll:cs.length≤(f i).data.size:=by rw[←hcs];exact yJ _
 have HP:=zh (fun W=>rY (f i).data cs W (by omega) (by rw[←hcs];exact hgood) (by rw[←hcs];exact iG));rw[hcs] at hr;obtain⟨len,hlen⟩:=eX (cs.length)
 rw[hlen] at hr;have HL:=zh hlen;have HRR:=zh hr;clear h hd hk hfl iG hgood hcs hlen hll hr
 go_enter Tryz.func54,Tryz.ntmps54
 go_wp2_with fail;refine (HP.out w).mono ?_;rintro e w1 ⟨vp,rfl,hrow,hb1⟩;obtain⟨Ap,cp,rfl,-⟩:=zH hrow;rw[HL.out];have HB:=zh hb1;clear hrow hb1 HP;by_cases h0:I<0
 ·go_wp2_with fail;go_ret2;exact⟨rfl,HB.out⟩
 ·by_cases h1:(len:Int)<I
  ·go_wp2_with fail;go_ret2;exact⟨rfl,HB.out⟩
  ·have h2:C<0:=by rcases HRR.out with h | h | h;exact absurd h h0;exact absurd h h1;exact h
   go_wp2_with fail;go_ret2;exact⟨rfl,HB.out⟩
def PR (w:World) (v:Value) (cs:List (List UInt8)):Prop:=TR w 0 9 1 v cs.length (kM cs)
theorem PR.Xh {w:World} {A:Option Addr} {n c:Nat} {cs:List (List UInt8)} (h:PR w (.slice A n c) cs):Ug w A cs:=by
 intro i hi;obtain⟨A',c',e⟩:=TR.form h;injection e with e1 e2 e3;subst e1 e2 e3;obtain⟨g,o,hA,_,_,hc,_⟩:=TR.cells h (by omega);have hcl:=hc i (.string (fA (cs.getD i []))) (by omega) (by simp[kM,List.getD,hi]);exact⟨g,o,hA,World.block_lt_of_cell? w _ hcl,hcl⟩
theorem PR.grown {w w':World} {v:Value} {cs:List (List UInt8)} {X:Nat} {z:Array Value} (h:PR w v cs) (g:w.grownBy w' (some X)) (hX:Whole w X z 147):PR w' v cs:=TR.kept h g (.inr (TR.unlike h hX (by decide)))
theorem PR.below {w w':World} {v:Value} {cs:List (List UInt8)} (h:PR w v cs) (hb:Below w.heap.size w w'):PR w' v cs:=TR.below h hb
theorem xB (base M m:Nat) (vs:Value) (f:Nat→RS) (i:Nat) (I C:Nat) (v:ByteArray) (w:World) (h:MV base w M vs m f) (hi:i<m) (hk:3≤(f i).kind) (hd:bD.rep (f i).data.data.toList=(f i).data.data.toList) (hz:(f i).data.size≤8000) (hI:I≤(iM (f i).data).length) (hC:C≤2000000) (hv:v.size≤8000) (mQ:(aX v).size≤10000):
  Calls Tryz.prog 54 #[.pointer (some ⟨M,0,none⟩),.int .i64 (i:Int),.int .i64 (I:Int),.int .i64 (C:Int),.string v] w fun e w'=>∃ r,e=.returned (.tuple #[r,.int .i64 0])∧jM w.heap.size w' r [pG i I (f i).data ((min C ((iM (f i).data).length - I):Nat):Int) ((iM (aX v)).length:Nat)]∧
   MV base w' M vs m (aV f i fun n=>{ n with data:=jo (f i).data I C v })∧aB w w' (aC M vs m f) (aC M vs m (aV f i fun n=>{ n with data:=jo (f i).data I C v })):=by
 obtain⟨A,c,rfl⟩:=h.form;obtain⟨g,rfl,-⟩:=h.read hi;obtain⟨k0,c0,-,-,c3,-⟩:=h.rd hi;have q1:(0:Int)≤(i:Int):=by omega
 have q2:(i:Int)<(m:Int):=by omega
 have q3:¬ (f i).kind<3:=by omega
 have hgood:=bD.bZ (f i).data.data.toList;have iG:=sM hd;have hfl:(iM (f i).data).flatten.length=(f i).data.size:=by rw[←iG];rfl
 obtain⟨cs,hcs⟩:=eX (iM (f i).data)
 have hll:cs.length≤(f i).data.size:=by rw[←hcs];exact yJ _
 have HP:=zh (fun W=>rY (f i).data cs W (by omega) (by rw[←hcs];exact hgood) (by rw[←hcs];exact iG));obtain⟨len,hlen⟩:=eX (cs.length)
 obtain⟨cc,hcc⟩:=eX (min C (len - I))
 rw[hcs,hlen] at hI;have hmin:min (C:Int) ((len:Int) - (I:Int))=(cc:Int):=by omega
 obtain⟨rv,tY⟩:=eX (aX v)
 rw[tY] at mQ;have HR:=zh (fun W=>jZ v W (by omega));rw[show fA (bD.rep v.data.toList)=rv from tY] at HR;have hrr:bD.rep rv.data.toList=rv.data.toList:=by rw[←tY];exact bD.Km _
 obtain⟨rl,hrl⟩:=eX ((iM rv).length)
 have Qg:=zh (fun W=>rY rv (iM rv) W (by omega) (bD.bZ _) (sM hrr));obtain⟨J1,YW⟩:=eX (fA (seg cs 0 I).flatten)
 obtain⟨J2,hJ2⟩:=eX (fA (seg cs (I+cc) len).flatten)
 have hcl:cs.flatten.length=(f i).data.size:=by rw[←hcs];exact hfl
 have hz1:J1.size≤8000:=by rw[←YW,jV];have:=yK cs 0 I;omega
 have hz2:J2.size≤8000:=by rw[←hJ2,jV];have:=yK cs (I+cc) len;omega
 have hnew:jo (f i).data I C v=J1++rv++J2:=by
  unfold jo;rw[←YW,←hJ2,hcs,tY,←lZ,←lZ,tF];congr 1
  ·unfold seg;rw[←hlen,List.take_length];by_cases h:C≤len - I
   ·rw[show cc=C by omega]
   ·rw[List.drop_of_length_le (by omega),List.drop_of_length_le (by omega)]
 have rX:=zh (And.intro hnew (And.intro (show (iM (aX v)).length=rl by rw[tY];exact hrl) (And.intro (show (iM (f i).data).length=len by rw[hcs];exact hlen) hcc)));have HJN:=zh (fun (W:World) (Ap:Option Addr) (cp:Nat) (hA:PR W (.slice Ap len cp) cs)=>And.intro (Cv Ap cp cs 0 (I:Int) W hA.Xh (by omega) (by omega) (by omega)) (Cv Ap cp cs ((I:Int)+(cc:Int)) (len:Int) W hA.Xh (by omega) (by omega) (by omega)));rw[show ((I:Int)).toNat=I by omega,show ((0:Int)).toNat=0 by omega,show ((I:Int)+(cc:Int)).toNat=I+cc by omega,show ((len:Int)).toNat=len by omega,YW,hJ2,hlen] at HJN;have HM:=zh (fun (W:World) (hb:Below w.heap.size w W)=>h.below hb);have hgl:g<w.heap.size:=(h.row.lt g rfl).2;have Ol:=zh (fun (W:World) (hb:Below w.heap.size w W)=>(show W.cell? ⟨M,0,none⟩=some (.slice (some ⟨g,0,none⟩) m c)∧W.cell? ⟨g,i*7+3,none⟩=some (.string (f i).data) from⟨((h.below hb).rd hi).1,((h.below hb).rd hi).2.2.2.2.1⟩));have TT:=zh hlen;have HRL:=zh hrl;have abo:len≤8000:=by omega
 have abD:cc≤8000:=by omega
 have r0:¬ (I:Int)<0:=by omega
 have r1:¬ (len:Int)<(I:Int):=by omega
 have r2:¬ (C:Int)<0:=by omega
 clear h hd hk hfl iG hgood hcs hlen hcl hrr tY hcc YW hJ2 hnew hrl
 go_enter Tryz.func54,Tryz.ntmps54
 go_wp2_with fail;refine (HP.out w).mono ?_;rintro e w1 ⟨vp,rfl,hrow,hb1⟩;have hRS:PR w1 vp cs:=(TR.jN hrow).zero;obtain⟨Ap,cp,rfl⟩:=TR.form hRS;rw[TT.out] at hRS ⊢;have HB1:=zh hb1;have HRS:=zh hRS;obtain⟨a1,a3⟩:=Ol.out w1 hb1;clear hrow hRS hb1 HP k0 c0 c3;go_wp2_with fail;refine (HR.out w1).mono ?_;rintro e w2 ⟨rfl,hb2⟩;have HB2:=zh (HB1.out.trans (hb2.mono HB1.out.size));have Xi:=zh (HRS.out.below hb2);clear hb2 HR a1 a3 HRS;go_wp2_with fail;obtain⟨V,hV⟩:=eX (w2.drew)
 have oW:Below w2.heap.size w2 V:=qd hV;have bW:=zh (HB2.out.trans (oW.mono HB2.out.size));obtain⟨X1,hX1⟩:=eX (V.alloc (.cells #[.int .i64 0,.int .i64 0,.int .i64 0,.int .i64 0,.int .i64 0,.int .i64 0,.string ⟨#[]⟩,.string ⟨#[]⟩,.bool false,.int .i64 0,.int .i64 0] 147))
 have yH:Below V.heap.size V X1:=gP hX1;have yj:=zh (bW.out.trans (yH.mono bW.out.size));have P7:Hid (Whole X1 V.heap.size #[.int .i64 0,.int .i64 0,.int .i64 0,.int .i64 0,.int .i64 0,.int .i64 0,.string ⟨#[]⟩,.string ⟨#[]⟩,.bool false,.int .i64 0,.int .i64 0] 147):=zh (by rw[←hX1];exact Whole.new V _ _);have Uh:=zh (Xi.out.below oW);have Xj:=zh (Uh.out.below yH);clear oW yH
 go_cut [13] from 13 (fun u wc=>∃ X,u=.pointer (some ⟨X,0,none⟩)∧Whole wc X #[.int .i64 4,.int .i64 (i:Int),.int .i64 (-1),.int .i64 (-1),.int .i64 (-1),.int .i64 (I:Int),.string ⟨#[]⟩,.string (f i).data,.bool false,.int .i64 (cc:Int),.int .i64 (rl:Int)] 147∧w.heap.size≤X∧Below w.heap.size w wc∧PR wc (.slice Ap len cp) cs)
 case first=>
  rename_i J0 K0 hJ0 jg;refine wp_region_noPanic ?_;refine wp_region_held_drew (S:=(fun W=>W.cell? ⟨M,0,none⟩=some (.slice (some ⟨g,0,none⟩) m c)∧W.cell? ⟨g,i*7+3,none⟩=some (.string (f i).data))) (by kernel_rfl) ?_ (fun ah=>?_)
  ·exact (by rw[hV];exact Ol.out V bW.out)
  rw[hV] at ah ⊢;refine bE [0,1,2,3,4,5,6,7,8,9,10,11] ?_;iterate 12 (refine jf ?_;try simp only[pS])
  refine bF ?_;refine yg 12 15 (fun K hK=>?_) fun K hK=>?_
  ·go_simp;refine (Qg.out V).mono ?_;rintro e w6 ⟨v6,rfl,wR,hb6⟩;obtain⟨A6,c6,rfl,-⟩:=zH wR;rw[HRL.out];have qb:=zh (bW.out.trans (hb6.mono bW.out.size));have Ui:=zh (Uh.out.below hb6);clear wR;clear hb6;refine hK.out _ _ (Ol.out w6 qb.out) fun ah=>?_;clear hK K;(try simp only[pS]);refine bE [13,14] ?_;iterate 2 (refine jf ?_;try simp only[pS])
   refine bF ?_;refine bI 15 fun K hK=>?_;go_simp;obtain⟨w7,hw7⟩:=eX (w6.alloc (.cells #[.int .i64 0,.int .i64 0,.int .i64 0,.int .i64 0,.int .i64 0,.int .i64 0,.string ⟨#[]⟩,.string ⟨#[]⟩,.bool false,.int .i64 0,.int .i64 0] 147))
   have aP:Whole w7 w6.heap.size #[.int .i64 0,.int .i64 0,.int .i64 0,.int .i64 0,.int .i64 0,.int .i64 0,.string ⟨#[]⟩,.string ⟨#[]⟩,.bool false,.int .i64 0,.int .i64 0] 147:=by rw[←hw7];exact Whole.new w6 _ _
   have ng:Below w6.heap.size w6 w7:=gP hw7;have hs6:=qb.out.size;have kC:=zh (qb.out.trans (ng.mono qb.out.size));have aaD:=zh (Ui.out.below ng);(try rw[hw7]);obtain⟨w8,hw8,zG,g8⟩:=kG aP (.int .i64 4) (.int .i64 (i:Int)) (.int .i64 (-1)) (.int .i64 (-1)) (.int .i64 (-1)) (.int .i64 (I:Int)) (.string ⟨#[]⟩) (.string (f i).data) (.bool false) (.int .i64 (cc:Int)) (.int .i64 (rl:Int));have jr:=(kC.out).grown g8 (kC.out).size (fun j hj=>by injection hj with hj;omega);have kD:=zh (And.intro zG (And.intro (show w.heap.size≤w6.heap.size by omega) (And.intro jr (aaD.out.grown g8 aP))));have y0:w7.cell? ⟨w6.heap.size,0,none⟩=some (.int .i64 0):=aP.cell 0;have AU:=aP.free 0;have y1:w7.cell? ⟨w6.heap.size,1,none⟩=some (.int .i64 0):=aP.cell 1;have AV:=aP.free 1;have y2:w7.cell? ⟨w6.heap.size,2,none⟩=some (.int .i64 0):=aP.cell 2;have AX:=aP.free 2;have y3:w7.cell? ⟨w6.heap.size,3,none⟩=some (.int .i64 0):=aP.cell 3;have AY:=aP.free 3;have y4:w7.cell? ⟨w6.heap.size,4,none⟩=some (.int .i64 0):=aP.cell 4;have AZ:=aP.free 4;have y5:w7.cell? ⟨w6.heap.size,5,none⟩=some (.int .i64 0):=aP.cell 5;have Ba:=aP.free 5;have y6:w7.cell? ⟨w6.heap.size,6,none⟩=some (.string ⟨#[]⟩):=aP.cell 6;have Bb:=aP.free 6;have y7:w7.cell? ⟨w6.heap.size,7,none⟩=some (.string ⟨#[]⟩):=aP.cell 7;have Bc:=aP.free 7;have y8:w7.cell? ⟨w6.heap.size,8,none⟩=some (.bool false):=aP.cell 8;have Bd:=aP.free 8;have y9:w7.cell? ⟨w6.heap.size,9,none⟩=some (.int .i64 0):=aP.cell 9;have EM:=aP.free 9;have wH:w7.cell? ⟨w6.heap.size,10,none⟩=some (.int .i64 0):=aP.cell 10;have rF:=aP.free 10;clear aP zG g8 jr;clear ng;refine hK.out _ _ (Ol.out w7 kC.out) fun ah=>?_;clear hK K;(try simp only[pS]);refine bI 16 fun K hK=>?_;go_simp;(try rw[hw8]);refine hK.out _ _ (Ol.out w8 kD.out.2.2.1) fun ah=>?_;clear hK K;(try simp only[pS]);refine gq ?_;exact jg _ _ (Met.intro (hJ0 _ _ ⟨_,_,_,_,_,_,_,_,_,_,_,_,_,_,_,_,_,_,_,_,_,_,_,_,_,_,_,_,_,_,_,_,_,_,_,_,_,_,_,_,_,_,_,_,_,_,_,_,_,_,_,_,_,_,_,_,_,_,_,_,_,_,_,_,_,_,_,_,_,_,_,_,_,_,_,_,⟨_,rfl,kD.out⟩,rfl⟩))
  ·go_simp;(try rw[hX1]);refine hK.out _ _ (Ol.out X1 yj.out) fun ah=>?_;clear hK K;(try simp only[pS]);refine bI 12 fun K hK=>?_;go_simp;refine (Qg.out X1).mono ?_;rintro e w6 ⟨v6,rfl,wR,hb6⟩;obtain⟨A6,c6,rfl,-⟩:=zH wR;rw[HRL.out];have qb:=zh (yj.out.trans (hb6.mono yj.out.size));have Ui:=zh (Xj.out.below hb6);clear wR;have aP:=P7.out.below hb6 P7.out.lt;have hs6:=bW.out.size;clear hb6;obtain⟨w8,hw8,zG,g8⟩:=kG aP (.int .i64 4) (.int .i64 (i:Int)) (.int .i64 (-1)) (.int .i64 (-1)) (.int .i64 (-1)) (.int .i64 (I:Int)) (.string ⟨#[]⟩) (.string (f i).data) (.bool false) (.int .i64 (cc:Int)) (.int .i64 (rl:Int));have jr:=(qb.out).grown g8 (qb.out).size (fun j hj=>by injection hj with hj;omega);have kD:=zh (And.intro zG (And.intro (show w.heap.size≤V.heap.size by omega) (And.intro jr (Ui.out.grown g8 aP))));have y0:w6.cell? ⟨V.heap.size,0,none⟩=some (.int .i64 0):=aP.cell 0;have AU:=aP.free 0;have y1:w6.cell? ⟨V.heap.size,1,none⟩=some (.int .i64 0):=aP.cell 1;have AV:=aP.free 1;have y2:w6.cell? ⟨V.heap.size,2,none⟩=some (.int .i64 0):=aP.cell 2;have AX:=aP.free 2;have y3:w6.cell? ⟨V.heap.size,3,none⟩=some (.int .i64 0):=aP.cell 3;have AY:=aP.free 3;have y4:w6.cell? ⟨V.heap.size,4,none⟩=some (.int .i64 0):=aP.cell 4;have AZ:=aP.free 4;have y5:w6.cell? ⟨V.heap.size,5,none⟩=some (.int .i64 0):=aP.cell 5;have Ba:=aP.free 5;have y6:w6.cell? ⟨V.heap.size,6,none⟩=some (.string ⟨#[]⟩):=aP.cell 6;have Bb:=aP.free 6;have y7:w6.cell? ⟨V.heap.size,7,none⟩=some (.string ⟨#[]⟩):=aP.cell 7;have Bc:=aP.free 7;have y8:w6.cell? ⟨V.heap.size,8,none⟩=some (.bool false):=aP.cell 8;have Bd:=aP.free 8;have y9:w6.cell? ⟨V.heap.size,9,none⟩=some (.int .i64 0):=aP.cell 9;have EM:=aP.free 9;have wH:w6.cell? ⟨V.heap.size,10,none⟩=some (.int .i64 0):=aP.cell 10;have rF:=aP.free 10;clear aP zG g8 jr;refine hK.out _ _ (Ol.out w6 qb.out) fun ah=>?_;clear hK K;(try simp only[pS]);refine bE [13,14] ?_;iterate 2 (refine jf ?_;try simp only[pS])
   refine bF ?_;refine bI 16 fun K hK=>?_;go_simp;(try rw[hw8]);refine hK.out _ _ (Ol.out w8 kD.out.2.2.1) fun ah=>?_;clear hK K;(try simp only[pS]);refine gq ?_;exact jg _ _ (Met.intro (hJ0 _ _ ⟨_,_,_,_,_,_,_,_,_,_,_,_,_,_,_,_,_,_,_,_,_,_,_,_,_,_,_,_,_,_,_,_,_,_,_,_,_,_,_,_,_,_,_,_,_,_,_,_,_,_,_,_,_,_,_,_,_,_,_,_,_,_,_,_,_,_,_,_,_,_,_,_,_,_,_,_,⟨_,rfl,kD.out⟩,rfl⟩))
 case rest=>
  obtain⟨X,rfl,hX,Wm,hbc,hRS⟩:=hcut;obtain⟨W,hW⟩:=eX (wc.drew)
  have hbd:Below wc.heap.size wc W:=qd hW;have qW:=hbc.trans (hbd.mono hbc.size);obtain⟨kd,k3⟩:=Ol.out W qW;have kf:=(HM.out W qW).fz (i*7+3);obtain⟨tQ,xE⟩:=(HM.out W qW).put (j:=3) (v:=.string (jo (f i).data I C v)) hi (by omega) (fun n=>{ n with data:=jo (f i).data I C v }) rfl ⟨rfl,rfl,rfl,rfl⟩;rw[rX.out.1] at tQ xE;obtain⟨w9,wu⟩:=eX (W.setCell ⟨g,i*7+3,none⟩ (.string (J1++rv++J2)))
  rw[wu] at tQ xE;have Sq:=hX.below hbd hX.lt;have fq:Whole w9 X #[.int .i64 4,.int .i64 (i:Int),.int .i64 (-1),.int .i64 (-1),.int .i64 (-1),.int .i64 (I:Int),.string ⟨#[]⟩,.string (f i).data,.bool false,.int .i64 (cc:Int),.int .i64 (rl:Int)] 147:=by rw[←wu];exact Sq.other (by show X≠g;omega) _
  have Xk:=hRS.below hbd;have HJ:=zh (HJN.out W Ap cp Xk);have k9:w9.cell? ⟨M,0,none⟩=some (.slice (some ⟨g,0,none⟩) m c):=tQ.cell.1;have Bl:w.heap.size≤w9.heap.size:=Nat.le_trans qW.size xE.1.size;have pY:=(Below.refl _ w9).alloc (Nat.le_refl _) (.cells #[.int .i64 4,.int .i64 (i:Int),.int .i64 (-1),.int .i64 (-1),.int .i64 (-1),.int .i64 (I:Int),.string ⟨#[]⟩,.string (f i).data,.bool false,.int .i64 (cc:Int),.int .i64 (rl:Int)] 147);have bf:=zh (And.intro (nO w9 (pG i I (f i).data (cc:Int) (rl:Int)) w.heap.size Bl) (And.intro (tQ.below pY) (((aB.of_below qW).trans xE).trans (.of_below pY))));have hwr:IntKind.i64.wrap ((I:Int)+(cc:Int))=(I:Int)+(cc:Int):=by rw[IntKind.wrap_i64];omega
  have u6:¬ 9223372036854775807<J1.size+rv.size+J2.size:=by omega
  have u7:¬ 9223372036854775807<J1.size+rv.size:=by omega
  have z0:w9.cell? ⟨X,0,none⟩=some (.int .i64 4):=fq.cell 0;have z1:w9.cell? ⟨X,1,none⟩=some (.int .i64 (i:Int)):=fq.cell 1;have z2:w9.cell? ⟨X,2,none⟩=some (.int .i64 (-1)):=fq.cell 2;have z3:w9.cell? ⟨X,3,none⟩=some (.int .i64 (-1)):=fq.cell 3;have z4:w9.cell? ⟨X,4,none⟩=some (.int .i64 (-1)):=fq.cell 4;have z5:w9.cell? ⟨X,5,none⟩=some (.int .i64 (I:Int)):=fq.cell 5;have z6:w9.cell? ⟨X,6,none⟩=some (.string ⟨#[]⟩):=fq.cell 6;have z7:w9.cell? ⟨X,7,none⟩=some (.string (f i).data):=fq.cell 7;have z8:w9.cell? ⟨X,8,none⟩=some (.bool false):=fq.cell 8;have z9:w9.cell? ⟨X,9,none⟩=some (.int .i64 (cc:Int)):=fq.cell 9;have WI:w9.cell? ⟨X,10,none⟩=some (.int .i64 (rl:Int)):=fq.cell 10;clear hX fq Sq pY hbc qW hbd tQ xE hRS Xk Xi Uh Xj;go_wp2_with fail;refine wp_region_noPanic ?_;refine wp_region_held_drew (S:=(fun W=>W.cell? ⟨M,0,none⟩=some (.slice (some ⟨g,0,none⟩) m c))) (by kernel_rfl) ?_ (fun ah=>?_)
  ·exact (by rw[hW];exact kd)
  rw[hW] at ah ⊢;refine bE [0,1,2,3,4,5,6,8,10,11,12,13,14,15] ?_;iterate 14 (refine jf ?_;try simp only[pS])
  refine bF ?_;refine bI 7 fun K hK=>?_;go_simp;refine HJ.out.1.mono ?_;rintro e w7 ⟨rfl,rfl⟩;refine hK.out _ _ (kd) fun ah=>?_;clear hK K;(try simp only[pS]);refine bE [9] ?_
  (refine jf ?_;try simp only[pS])
  refine bF ?_;refine bI 16 fun K hK=>?_;go_simp;refine HJ.out.2.mono ?_;rintro e w7 ⟨rfl,rfl⟩;refine hK.out _ _ (kd) fun ah=>?_;clear hK K;(try simp only[pS]);refine bE [17,18,19] ?_;iterate 3 (refine jf ?_;try simp only[pS])
  refine bF ?_;refine bI 20 fun K hK=>?_;go_simp;(try rw[wu]);refine hK.out _ _ (k9) fun ah=>?_;clear hK K;(try simp only[pS]);refine gq ?_;go_wp2_with fail;go_ret2;obtain⟨e1,e2,e3⟩:=bf.out;rw[rX.out.1,rX.out.2.2.1,rX.out.2.2.2,rX.out.2.1];exact⟨_,rfl,e1,e2,e3⟩
end
end Go.Proofs.YtnbaadpgbcklaaaGreatDoor
