/- Part of a proof about trees. -/
import Derived.Sort.CutIn
import Derived.Test.YtjpbhkcjmdndjaaGreatDoorGNRpk
import Derived.Test.YtjpbhkcjmdndjaaGreatDoorGNRsa
set_option linter.unusedVariables false
set_option linter.unusedSimpArgs false
set_option maxHeartbeats 4000000
set_option maxRecDepth 100000
namespace Go.Proofs.YtjpbhkcjmdndjaaGreatDoor
section
open Go.RowKit
def pU (i:Nat) (ix:Int) (old:ByteArray) (c sz:Int):Tr.Rec:=⟨4,i,-1,-1,-1,ix,⟨#[]⟩,old,false,c,sz⟩
theorem DC (base M m:Nat) (vs:Value) (f:Nat→RS) (i:Nat) (I C:Int) (v:ByteArray) (w:World) (h:MV base w M vs m f) (hi:i<m) (hk:(f i).kind<3):
  Calls Tryz.prog 31 #[.pointer (some ⟨M,0,none⟩),.int .i64 (i:Int),.int .i64 I,.int .i64 C,.string v] w fun e w'=>e=.returned (ou 10)∧w'=w:=by
 obtain⟨A,c,rfl⟩:=h.form;obtain⟨g,rfl,-⟩:=h.read hi;obtain⟨k0,c0,_⟩:=h.rd hi;have q1:(0:Int)≤(i:Int):=by omega
 have q2:(i:Int)<(m:Int):=by omega
 clear h
 go_enter Tryz.func31,Tryz.ntmps31
 go_wp2_with fail;go_ret2;exact⟨rfl,rfl⟩
theorem zw (base M m:Nat) (vs:Value) (f:Nat→RS) (i:Nat) (I C:Int) (v:ByteArray) (w:World) (h:MV base w M vs m f) (hi:i<m) (hk:3≤(f i).kind) (hd:bD.rep (f i).data.data.toList=(f i).data.data.toList) (hz:(f i).data.size≤8000) (hr:I<0∨((iT (f i).data).length:Int)<I∨C<0):
  Calls Tryz.prog 31 #[.pointer (some ⟨M,0,none⟩),.int .i64 (i:Int),.int .i64 I,.int .i64 C,.string v] w fun e w'=>e=.returned (ou 2)∧Below w.heap.size w w':=by
 obtain⟨A,c,rfl⟩:=h.form;obtain⟨g,rfl,-⟩:=h.read hi;obtain⟨k0,c0,-,-,c3,-⟩:=h.rd hi;have q1:(0:Int)≤(i:Int):=by omega
 have q2:(i:Int)<(m:Int):=by omega
 have q3:¬ (f i).kind<3:=by omega
 have hgood:=bD.cu (f i).data.data.toList;have iP:=sW hd;have hfl:(iT (f i).data).flatten.length=(f i).data.size:=by rw[←iP];rfl
 obtain⟨cs,hcs⟩:=eX (iT (f i).data)
 have hll:cs.length≤(f i).data.size:=by rw[←hcs];exact yT _
 have HP:=zh (fun W=>sw (f i).data cs W (by omega) (by rw[←hcs];exact hgood) (by rw[←hcs];exact iP));rw[hcs] at hr;obtain⟨len,hlen⟩:=eX (cs.length)
 rw[hlen] at hr;have HL:=zh hlen;have HRR:=zh hr;clear h hd hk hfl iP hgood hcs hlen hll hr
 go_enter Tryz.func31,Tryz.ntmps31
 go_wp2_with fail;refine (HP.out w).mono ?_;rintro e w1 ⟨vp,rfl,hrow,hb1⟩;obtain⟨Ap,cp,rfl,-⟩:=zV hrow;rw[HL.out];have HB:=zh hb1;clear hrow hb1 HP;by_cases h0:I<0
 ·go_wp2_with fail;go_ret2;exact⟨rfl,HB.out⟩
 ·by_cases h1:(len:Int)<I
  ·go_wp2_with fail;go_ret2;exact⟨rfl,HB.out⟩
  ·have h2:C<0:=by rcases HRR.out with h | h | h;exact absurd h h0;exact absurd h h1;exact h
   go_wp2_with fail;go_ret2;exact⟨rfl,HB.out⟩
def PR (w:World) (v:Value) (cs:List (List UInt8)):Prop:=TR w 0 9 1 v cs.length (lu cs)
theorem PR.Yt {w:World} {A:Option Addr} {n c:Nat} {cs:List (List UInt8)} (h:PR w (.slice A n c) cs):Ve w A cs:=by
 intro i hi;obtain⟨A',c',e⟩:=TR.form h;injection e with e1 e2 e3;subst e1 e2 e3;obtain⟨g,o,hA,_,_,hc,_⟩:=TR.cells h (by omega);have hcl:=hc i (.string (fF (cs.getD i []))) (by omega) (by simp[lu,List.getD,hi]);exact⟨g,o,hA,World.block_lt_of_cell? w _ hcl,hcl⟩
theorem PR.grown {w w':World} {v:Value} {cs:List (List UInt8)} {X:Nat} {z:Array Value} (h:PR w v cs) (g:w.grownBy w' (some X)) (hX:Whole w X z 114):PR w' v cs:=TR.kept h g (.inr (TR.unlike h hX (by decide)))
theorem PR.below {w w':World} {v:Value} {cs:List (List UInt8)} (h:PR w v cs) (hb:Below w.heap.size w w'):PR w' v cs:=TR.below h hb
theorem xQ (base M m:Nat) (vs:Value) (f:Nat→RS) (i:Nat) (I C:Nat) (v:ByteArray) (w:World) (h:MV base w M vs m f) (hi:i<m) (hk:3≤(f i).kind) (hd:bD.rep (f i).data.data.toList=(f i).data.data.toList) (hz:(f i).data.size≤8000) (hI:I≤(iT (f i).data).length) (hC:C≤2000000) (hv:v.size≤8000) (nu:(aX v).size≤10000):
  Calls Tryz.prog 31 #[.pointer (some ⟨M,0,none⟩),.int .i64 (i:Int),.int .i64 (I:Int),.int .i64 (C:Int),.string v] w fun e w'=>∃ r,e=.returned (.tuple #[r,.int .i64 0])∧jP w.heap.size w' r [pU i I (f i).data ((min C ((iT (f i).data).length - I):Nat):Int) ((iT (aX v)).length:Nat)]∧
   MV base w' M vs m (aV f i fun n=>{ n with data:=jw (f i).data I C v })∧aB w w' (aC M vs m f) (aC M vs m (aV f i fun n=>{ n with data:=jw (f i).data I C v })):=by
 obtain⟨A,c,rfl⟩:=h.form;obtain⟨g,rfl,-⟩:=h.read hi;obtain⟨k0,c0,-,-,c3,-⟩:=h.rd hi;have q1:(0:Int)≤(i:Int):=by omega
 have q2:(i:Int)<(m:Int):=by omega
 have q3:¬ (f i).kind<3:=by omega
 have hgood:=bD.cu (f i).data.data.toList;have iP:=sW hd;have hfl:(iT (f i).data).flatten.length=(f i).data.size:=by rw[←iP];rfl
 obtain⟨cs,hcs⟩:=eX (iT (f i).data)
 have hll:cs.length≤(f i).data.size:=by rw[←hcs];exact yT _
 have HP:=zh (fun W=>sw (f i).data cs W (by omega) (by rw[←hcs];exact hgood) (by rw[←hcs];exact iP));obtain⟨len,hlen⟩:=eX (cs.length)
 obtain⟨cc,hcc⟩:=eX (min C (len - I))
 rw[hcs,hlen] at hI;have hmin:min (C:Int) ((len:Int) - (I:Int))=(cc:Int):=by omega
 obtain⟨rv,uh⟩:=eX (aX v)
 rw[uh] at nu;have HR:=zh (fun W=>kC v W (by omega));rw[show fF (bD.rep v.data.toList)=rv from uh] at HR;have hrr:bD.rep rv.data.toList=rv.data.toList:=by rw[←uh];exact bD.KZ _
 obtain⟨rl,hrl⟩:=eX ((iT rv).length)
 have NK:=zh (fun W=>sw rv (iT rv) W (by omega) (bD.cu _) (sW hrr));obtain⟨J1,Z7⟩:=eX (fF (seg cs 0 I).flatten)
 obtain⟨J2,hJ2⟩:=eX (fF (seg cs (I+cc) len).flatten)
 have hcl:cs.flatten.length=(f i).data.size:=by rw[←hcs];exact hfl
 have hz1:J1.size≤8000:=by rw[←Z7,kg];have:=yU cs 0 I;omega
 have hz2:J2.size≤8000:=by rw[←hJ2,kg];have:=yU cs (I+cc) len;omega
 have hnew:jw (f i).data I C v=J1++rv++J2:=by
  unfold jw;rw[←Z7,←hJ2,hcs,uh,←mD,←mD,tL];congr 1
  ·unfold seg;rw[←hlen,List.take_length];by_cases h:C≤len - I
   ·rw[show cc=C by omega]
   ·rw[List.drop_of_length_le (by omega),List.drop_of_length_le (by omega)]
 have su:=zh (And.intro hnew (And.intro (show (iT (aX v)).length=rl by rw[uh];exact hrl) (And.intro (show (iT (f i).data).length=len by rw[hcs];exact hlen) hcc)));have HJN:=zh (fun (W:World) (Ap:Option Addr) (cp:Nat) (hA:PR W (.slice Ap len cp) cs)=>And.intro (CQ Ap cp cs 0 (I:Int) W hA.Yt (by omega) (by omega) (by omega)) (CQ Ap cp cs ((I:Int)+(cc:Int)) (len:Int) W hA.Yt (by omega) (by omega) (by omega)));rw[show ((I:Int)).toNat=I by omega,show ((0:Int)).toNat=0 by omega,show ((I:Int)+(cc:Int)).toNat=I+cc by omega,show ((len:Int)).toNat=len by omega,Z7,hJ2,hlen] at HJN;have HM:=zh (fun (W:World) (hb:Below w.heap.size w W)=>h.below hb);have hgl:g<w.heap.size:=(h.row.lt g rfl).2;have KQ:=zh (fun (W:World) (hb:Below w.heap.size w W)=>(show W.cell? ⟨M,0,none⟩=some (.slice (some ⟨g,0,none⟩) m c)∧W.cell? ⟨g,i*7+3,none⟩=some (.string (f i).data) from⟨((h.below hb).rd hi).1,((h.below hb).rd hi).2.2.2.2.1⟩));have Z6:=zh hlen;have HRL:=zh hrl;have abF:len≤8000:=by omega
 have abU:cc≤8000:=by omega
 have r0:¬ (I:Int)<0:=by omega
 have r1:¬ (len:Int)<(I:Int):=by omega
 have r2:¬ (C:Int)<0:=by omega
 clear h hd hk hfl iP hgood hcs hlen hcl hrr uh hcc Z7 hJ2 hnew hrl
 go_enter Tryz.func31,Tryz.ntmps31
 go_wp2_with fail;refine (HP.out w).mono ?_;rintro e w1 ⟨vp,rfl,hrow,hb1⟩;have hRS:PR w1 vp cs:=(TR.jQ hrow).zero;obtain⟨Ap,cp,rfl⟩:=TR.form hRS;rw[Z6.out] at hRS ⊢;have HB1:=zh hb1;have HRS:=zh hRS;obtain⟨a1,a3⟩:=KQ.out w1 hb1;clear hrow hRS hb1 HP k0 c0 c3;go_wp2_with fail;refine (HR.out w1).mono ?_;rintro e w2 ⟨rfl,hb2⟩;have HB2:=zh (HB1.out.trans (hb2.mono HB1.out.size));have Yu:=zh (HRS.out.below hb2);clear hb2 HR a1 a3 HRS;go_wp2_with fail;obtain⟨V,hV⟩:=eX (w2.drew)
 have mX:Below w2.heap.size w2 V:=mW hV;have cZ:=zh (HB2.out.trans (mX.mono HB2.out.size));obtain⟨X1,hX1⟩:=eX (V.alloc (.cells #[.int .i64 0,.int .i64 0,.int .i64 0,.int .i64 0,.int .i64 0,.int .i64 0,.string ⟨#[]⟩,.string ⟨#[]⟩,.bool false,.int .i64 0,.int .i64 0] 114))
 have uI:Below V.heap.size V X1:=gU hX1;have yK:=zh (cZ.out.trans (uI.mono cZ.out.size));have NA:Hid (Whole X1 V.heap.size #[.int .i64 0,.int .i64 0,.int .i64 0,.int .i64 0,.int .i64 0,.int .i64 0,.string ⟨#[]⟩,.string ⟨#[]⟩,.bool false,.int .i64 0,.int .i64 0] 114):=zh (by rw[←hX1];exact Whole.new V _ _);have Vf:=zh (Yu.out.below mX);have Yv:=zh (Vf.out.below uI);clear mX uI
 go_cut [13] from 13 (fun u wc=>∃ X,u=.pointer (some ⟨X,0,none⟩)∧Whole wc X #[.int .i64 4,.int .i64 (i:Int),.int .i64 (-1),.int .i64 (-1),.int .i64 (-1),.int .i64 (I:Int),.string ⟨#[]⟩,.string (f i).data,.bool false,.int .i64 (cc:Int),.int .i64 (rl:Int)] 114∧w.heap.size≤X∧Below w.heap.size w wc∧PR wc (.slice Ap len cp) cs)
 case first=>
  rename_i J0 K0 hJ0 wR;refine wp_region_noPanic ?_;refine wp_region_held_drew (S:=(fun W=>W.cell? ⟨M,0,none⟩=some (.slice (some ⟨g,0,none⟩) m c)∧W.cell? ⟨g,i*7+3,none⟩=some (.string (f i).data))) (by kernel_rfl) ?_ (fun ah=>?_)
  ·exact (by rw[hV];exact KQ.out V cZ.out)
  rw[hV] at ah ⊢;refine bE [0,1,2,3,4,5,6,7,8,9,10,11] ?_;iterate 12 (refine jl ?_;try simp only[pS])
  refine bF ?_;refine zm 12 15 (fun K hK=>?_) fun K hK=>?_
  ·go_simp;refine (NK.out V).mono ?_;rintro e w6 ⟨v6,rfl,xk,hb6⟩;obtain⟨A6,c6,rfl,-⟩:=zV xk;rw[HRL.out];have qx:=zh (cZ.out.trans (hb6.mono cZ.out.size));have Vg:=zh (Vf.out.below hb6);clear xk;clear hb6;refine hK.out _ _ (KQ.out w6 qx.out) fun ah=>?_;clear hK K;(try simp only[pS]);refine bE [13,14] ?_;iterate 2 (refine jl ?_;try simp only[pS])
   refine bF ?_;refine bO 15 fun K hK=>?_;go_simp;obtain⟨w7,hw7⟩:=eX (w6.alloc (.cells #[.int .i64 0,.int .i64 0,.int .i64 0,.int .i64 0,.int .i64 0,.int .i64 0,.string ⟨#[]⟩,.string ⟨#[]⟩,.bool false,.int .i64 0,.int .i64 0] 114))
   have aK:Whole w7 w6.heap.size #[.int .i64 0,.int .i64 0,.int .i64 0,.int .i64 0,.int .i64 0,.int .i64 0,.string ⟨#[]⟩,.string ⟨#[]⟩,.bool false,.int .i64 0,.int .i64 0] 114:=by rw[←hw7];exact Whole.new w6 _ _
   have nL:Below w6.heap.size w6 w7:=gU hw7;have hs6:=qx.out.size;have iL:=zh (qx.out.trans (nL.mono qx.out.size));have aaV:=zh (Vg.out.below nL);(try rw[hw7]);obtain⟨w8,hw8,zU,g8⟩:=kQ aK (.int .i64 4) (.int .i64 (i:Int)) (.int .i64 (-1)) (.int .i64 (-1)) (.int .i64 (-1)) (.int .i64 (I:Int)) (.string ⟨#[]⟩) (.string (f i).data) (.bool false) (.int .i64 (cc:Int)) (.int .i64 (rl:Int));have jB:=(iL.out).grown g8 (iL.out).size (fun j hj=>by injection hj with hj;omega);have kH:=zh (And.intro zU (And.intro (show w.heap.size≤w6.heap.size by omega) (And.intro jB (aaV.out.grown g8 aK))));have y0:w7.cell? ⟨w6.heap.size,0,none⟩=some (.int .i64 0):=aK.cell 0;have EZ:=aK.free 0;have y1:w7.cell? ⟨w6.heap.size,1,none⟩=some (.int .i64 0):=aK.cell 1;have E5:=aK.free 1;have y2:w7.cell? ⟨w6.heap.size,2,none⟩=some (.int .i64 0):=aK.cell 2;have E8:=aK.free 2;have y3:w7.cell? ⟨w6.heap.size,3,none⟩=some (.int .i64 0):=aK.cell 3;have E9:=aK.free 3;have y4:w7.cell? ⟨w6.heap.size,4,none⟩=some (.int .i64 0):=aK.cell 4;have Fa:=aK.free 4;have y5:w7.cell? ⟨w6.heap.size,5,none⟩=some (.int .i64 0):=aK.cell 5;have Fb:=aK.free 5;have y6:w7.cell? ⟨w6.heap.size,6,none⟩=some (.string ⟨#[]⟩):=aK.cell 6;have Fe:=aK.free 6;have y7:w7.cell? ⟨w6.heap.size,7,none⟩=some (.string ⟨#[]⟩):=aK.cell 7;have Fg:=aK.free 7;have y8:w7.cell? ⟨w6.heap.size,8,none⟩=some (.bool false):=aK.cell 8;have Fh:=aK.free 8;have y9:w7.cell? ⟨w6.heap.size,9,none⟩=some (.int .i64 0):=aK.cell 9;have Fj:=aK.free 9;have wP:w7.cell? ⟨w6.heap.size,10,none⟩=some (.int .i64 0):=aK.cell 10;have rJ:=aK.free 10;clear aK zU g8 jB;clear nL;refine hK.out _ _ (KQ.out w7 iL.out) fun ah=>?_;clear hK K;(try simp only[pS]);refine bO 16 fun K hK=>?_;go_simp;(try rw[hw8]);refine hK.out _ _ (KQ.out w8 kH.out.2.2.1) fun ah=>?_;clear hK K;(try simp only[pS]);refine gQ ?_;exact wR _ _ (Met.intro (hJ0 _ _ ⟨_,_,_,_,_,_,_,_,_,_,_,_,_,_,_,_,_,_,_,_,_,_,_,_,_,_,_,_,_,_,_,_,_,_,_,_,_,_,_,_,_,_,_,_,_,_,_,_,_,_,_,_,_,_,_,_,_,_,_,_,_,_,_,_,_,_,_,_,_,_,_,_,_,_,_,_,⟨_,rfl,kH.out⟩,rfl⟩))
  ·go_simp;(try rw[hX1]);refine hK.out _ _ (KQ.out X1 yK.out) fun ah=>?_;clear hK K;(try simp only[pS]);refine bO 12 fun K hK=>?_;go_simp;refine (NK.out X1).mono ?_;rintro e w6 ⟨v6,rfl,xk,hb6⟩;obtain⟨A6,c6,rfl,-⟩:=zV xk;rw[HRL.out];have qx:=zh (yK.out.trans (hb6.mono yK.out.size));have Vg:=zh (Yv.out.below hb6);clear xk;have aK:=NA.out.below hb6 NA.out.lt;have hs6:=cZ.out.size;clear hb6;obtain⟨w8,hw8,zU,g8⟩:=kQ aK (.int .i64 4) (.int .i64 (i:Int)) (.int .i64 (-1)) (.int .i64 (-1)) (.int .i64 (-1)) (.int .i64 (I:Int)) (.string ⟨#[]⟩) (.string (f i).data) (.bool false) (.int .i64 (cc:Int)) (.int .i64 (rl:Int));have jB:=(qx.out).grown g8 (qx.out).size (fun j hj=>by injection hj with hj;omega);have kH:=zh (And.intro zU (And.intro (show w.heap.size≤V.heap.size by omega) (And.intro jB (Vg.out.grown g8 aK))));have y0:w6.cell? ⟨V.heap.size,0,none⟩=some (.int .i64 0):=aK.cell 0;have EZ:=aK.free 0;have y1:w6.cell? ⟨V.heap.size,1,none⟩=some (.int .i64 0):=aK.cell 1;have E5:=aK.free 1;have y2:w6.cell? ⟨V.heap.size,2,none⟩=some (.int .i64 0):=aK.cell 2;have E8:=aK.free 2;have y3:w6.cell? ⟨V.heap.size,3,none⟩=some (.int .i64 0):=aK.cell 3;have E9:=aK.free 3;have y4:w6.cell? ⟨V.heap.size,4,none⟩=some (.int .i64 0):=aK.cell 4;have Fa:=aK.free 4;have y5:w6.cell? ⟨V.heap.size,5,none⟩=some (.int .i64 0):=aK.cell 5;have Fb:=aK.free 5;have y6:w6.cell? ⟨V.heap.size,6,none⟩=some (.string ⟨#[]⟩):=aK.cell 6;have Fe:=aK.free 6;have y7:w6.cell? ⟨V.heap.size,7,none⟩=some (.string ⟨#[]⟩):=aK.cell 7;have Fg:=aK.free 7;have y8:w6.cell? ⟨V.heap.size,8,none⟩=some (.bool false):=aK.cell 8;have Fh:=aK.free 8;have y9:w6.cell? ⟨V.heap.size,9,none⟩=some (.int .i64 0):=aK.cell 9;have Fj:=aK.free 9;have wP:w6.cell? ⟨V.heap.size,10,none⟩=some (.int .i64 0):=aK.cell 10;have rJ:=aK.free 10;clear aK zU g8 jB;refine hK.out _ _ (KQ.out w6 qx.out) fun ah=>?_;clear hK K;(try simp only[pS]);refine bE [13,14] ?_;iterate 2 (refine jl ?_;try simp only[pS])
   refine bF ?_;refine bO 16 fun K hK=>?_;go_simp;(try rw[hw8]);refine hK.out _ _ (KQ.out w8 kH.out.2.2.1) fun ah=>?_;clear hK K;(try simp only[pS]);refine gQ ?_;exact wR _ _ (Met.intro (hJ0 _ _ ⟨_,_,_,_,_,_,_,_,_,_,_,_,_,_,_,_,_,_,_,_,_,_,_,_,_,_,_,_,_,_,_,_,_,_,_,_,_,_,_,_,_,_,_,_,_,_,_,_,_,_,_,_,_,_,_,_,_,_,_,_,_,_,_,_,_,_,_,_,_,_,_,_,_,_,_,_,⟨_,rfl,kH.out⟩,rfl⟩))
 case rest=>
  obtain⟨X,rfl,hX,Xy,hbc,hRS⟩:=hcut;obtain⟨W,hW⟩:=eX (wc.drew)
  have hbd:Below wc.heap.size wc W:=mW hW;have ru:=hbc.trans (hbd.mono hbc.size);obtain⟨kd,k3⟩:=KQ.out W ru;have kf:=(HM.out W ru).fz (i*7+3);obtain⟨tY,xU⟩:=(HM.out W ru).put (j:=3) (v:=.string (jw (f i).data I C v)) hi (by omega) (fun n=>{ n with data:=jw (f i).data I C v }) rfl ⟨rfl,rfl,rfl,rfl⟩;rw[su.out.1] at tY xU;obtain⟨w9,wK⟩:=eX (W.setCell ⟨g,i*7+3,none⟩ (.string (J1++rv++J2)))
  rw[wK] at tY xU;have TJ:=hX.below hbd hX.lt;have fD:Whole w9 X #[.int .i64 4,.int .i64 (i:Int),.int .i64 (-1),.int .i64 (-1),.int .i64 (-1),.int .i64 (I:Int),.string ⟨#[]⟩,.string (f i).data,.bool false,.int .i64 (cc:Int),.int .i64 (rl:Int)] 114:=by rw[←wK];exact TJ.other (by show X≠g;omega) _
  have Yw:=hRS.below hbd;have HJ:=zh (HJN.out W Ap cp Yw);have k9:w9.cell? ⟨M,0,none⟩=some (.slice (some ⟨g,0,none⟩) m c):=tY.cell.1;have BD:w.heap.size≤w9.heap.size:=Nat.le_trans ru.size xU.1.size;have qm:=(Below.refl _ w9).alloc (Nat.le_refl _) (.cells #[.int .i64 4,.int .i64 (i:Int),.int .i64 (-1),.int .i64 (-1),.int .i64 (-1),.int .i64 (I:Int),.string ⟨#[]⟩,.string (f i).data,.bool false,.int .i64 (cc:Int),.int .i64 (rl:Int)] 114);have bf:=zh (And.intro (nW w9 (pU i I (f i).data (cc:Int) (rl:Int)) w.heap.size BD) (And.intro (tY.below qm) (((aB.of_below ru).trans xU).trans (.of_below qm))));have hwr:IntKind.i64.wrap ((I:Int)+(cc:Int))=(I:Int)+(cc:Int):=by rw[IntKind.wrap_i64];omega
  have u6:¬ 9223372036854775807<J1.size+rv.size+J2.size:=by omega
  have u7:¬ 9223372036854775807<J1.size+rv.size:=by omega
  have z0:w9.cell? ⟨X,0,none⟩=some (.int .i64 4):=fD.cell 0;have z1:w9.cell? ⟨X,1,none⟩=some (.int .i64 (i:Int)):=fD.cell 1;have z2:w9.cell? ⟨X,2,none⟩=some (.int .i64 (-1)):=fD.cell 2;have z3:w9.cell? ⟨X,3,none⟩=some (.int .i64 (-1)):=fD.cell 3;have z4:w9.cell? ⟨X,4,none⟩=some (.int .i64 (-1)):=fD.cell 4;have z5:w9.cell? ⟨X,5,none⟩=some (.int .i64 (I:Int)):=fD.cell 5;have z6:w9.cell? ⟨X,6,none⟩=some (.string ⟨#[]⟩):=fD.cell 6;have z7:w9.cell? ⟨X,7,none⟩=some (.string (f i).data):=fD.cell 7;have z8:w9.cell? ⟨X,8,none⟩=some (.bool false):=fD.cell 8;have z9:w9.cell? ⟨X,9,none⟩=some (.int .i64 (cc:Int)):=fD.cell 9;have XJ:w9.cell? ⟨X,10,none⟩=some (.int .i64 (rl:Int)):=fD.cell 10;clear hX fD TJ qm hbc ru hbd tY xU hRS Yw Yu Vf Yv;go_wp2_with fail;refine wp_region_noPanic ?_;refine wp_region_held_drew (S:=(fun W=>W.cell? ⟨M,0,none⟩=some (.slice (some ⟨g,0,none⟩) m c))) (by kernel_rfl) ?_ (fun ah=>?_)
  ·exact (by rw[hW];exact kd)
  rw[hW] at ah ⊢;refine bE [0,1,2,3,4,5,6,8,10,11,12,13,14,15] ?_;iterate 14 (refine jl ?_;try simp only[pS])
  refine bF ?_;refine bO 7 fun K hK=>?_;go_simp;refine HJ.out.1.mono ?_;rintro e w7 ⟨rfl,rfl⟩;refine hK.out _ _ (kd) fun ah=>?_;clear hK K;(try simp only[pS]);refine bE [9] ?_
  (refine jl ?_;try simp only[pS])
  refine bF ?_;refine bO 16 fun K hK=>?_;go_simp;refine HJ.out.2.mono ?_;rintro e w7 ⟨rfl,rfl⟩;refine hK.out _ _ (kd) fun ah=>?_;clear hK K;(try simp only[pS]);refine bE [17,18,19] ?_;iterate 3 (refine jl ?_;try simp only[pS])
  refine bF ?_;refine bO 20 fun K hK=>?_;go_simp;(try rw[wK]);refine hK.out _ _ (k9) fun ah=>?_;clear hK K;(try simp only[pS]);refine gQ ?_;go_wp2_with fail;go_ret2;obtain⟨e1,e2,e3⟩:=bf.out;rw[su.out.1,su.out.2.2.1,su.out.2.2.2,su.out.2.1];exact⟨_,rfl,e1,e2,e3⟩
end
end Go.Proofs.YtjpbhkcjmdndjaaGreatDoor
