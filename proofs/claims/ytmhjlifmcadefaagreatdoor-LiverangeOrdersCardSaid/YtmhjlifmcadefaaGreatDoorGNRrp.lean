/- Part of a proof about trees. -/
import Derived.Sort.CutIn
import Derived.Test.YtmhjlifmcadefaaGreatDoorGNRpk
import Derived.Test.YtmhjlifmcadefaaGreatDoorGNRsa
set_option linter.unusedVariables false
set_option linter.unusedSimpArgs false
set_option maxHeartbeats 4000000
set_option maxRecDepth 100000
namespace Go.Proofs.YtmhjlifmcadefaaGreatDoor
section
open Go.RowKit
def pG (i:Nat) (ix:Int) (old:ByteArray) (c sz:Int):Tr.Rec:=⟨4,i,-1,-1,-1,ix,⟨#[]⟩,old,false,c,sz⟩
theorem Ew (base M m:Nat) (vs:Value) (f:Nat→RS) (i:Nat) (I C:Int) (v:ByteArray) (w:World) (h:MV base w M vs m f) (hi:i<m) (hk:(f i).kind<3):
  Calls Tryz.prog 42 #[.pointer (some ⟨M,0,none⟩),.int .i64 (i:Int),.int .i64 I,.int .i64 C,.string v] w fun e w'=>e=.returned (nW 10)∧w'=w:=by
 obtain⟨A,c,rfl⟩:=h.form;obtain⟨g,rfl,-⟩:=h.read hi;obtain⟨k0,c0,_⟩:=h.rd hi;have q1:(0:Int)≤(i:Int):=by omega
 have q2:(i:Int)<(m:Int):=by omega
 clear h
 go_enter Tryz.func42,Tryz.ntmps42
 go_wp2_with fail;go_ret2;exact⟨rfl,rfl⟩
theorem zU (base M m:Nat) (vs:Value) (f:Nat→RS) (i:Nat) (I C:Int) (v:ByteArray) (w:World) (h:MV base w M vs m f) (hi:i<m) (hk:3≤(f i).kind) (hd:bB.rep (f i).data.data.toList=(f i).data.data.toList) (hz:(f i).data.size≤8000) (hr:I<0∨((iL (f i).data).length:Int)<I∨C<0):
  Calls Tryz.prog 42 #[.pointer (some ⟨M,0,none⟩),.int .i64 (i:Int),.int .i64 I,.int .i64 C,.string v] w fun e w'=>e=.returned (nW 2)∧Below w.heap.size w w':=by
 obtain⟨A,c,rfl⟩:=h.form;obtain⟨g,rfl,-⟩:=h.read hi;obtain⟨k0,c0,-,-,c3,-⟩:=h.rd hi;have q1:(0:Int)≤(i:Int):=by omega
 have q2:(i:Int)<(m:Int):=by omega
 have q3:¬ (f i).kind<3:=by omega
 have hgood:=bB.bV (f i).data.data.toList;have iH:=sJ hd;have hfl:(iL (f i).data).flatten.length=(f i).data.size:=by rw[←iH];rfl
 obtain⟨cs,hcs⟩:=eX (iL (f i).data)
 have hll:cs.length≤(f i).data.size:=by rw[←hcs];exact zq _
 have HP:=zh (fun W=>oq (f i).data cs W (by omega) (by rw[←hcs];exact hgood) (by rw[←hcs];exact iH));rw[hcs] at hr;obtain⟨len,hlen⟩:=eX (cs.length)
 rw[hlen] at hr;have HL:=zh hlen;have HRR:=zh hr;clear h hd hk hfl iH hgood hcs hlen hll hr
 go_enter Tryz.func42,Tryz.ntmps42
 go_wp2_with fail;refine (HP.out w).mono ?_;rintro e w1 ⟨vp,rfl,hrow,hb1⟩;obtain⟨Ap,cp,rfl,-⟩:=AL hrow;rw[HL.out];have HB:=zh hb1;clear hrow hb1 HP;by_cases h0:I<0
 ·go_wp2_with fail;go_ret2;exact⟨rfl,HB.out⟩
 ·by_cases h1:(len:Int)<I
  ·go_wp2_with fail;go_ret2;exact⟨rfl,HB.out⟩
  ·have h2:C<0:=by rcases HRR.out with h | h | h;exact absurd h h0;exact absurd h h1;exact h
   go_wp2_with fail;go_ret2;exact⟨rfl,HB.out⟩
def PR (w:World) (v:Value) (cs:List (List UInt8)):Prop:=TR w 0 9 1 v cs.length (kR cs)
theorem PR.Za {w:World} {A:Option Addr} {n c:Nat} {cs:List (List UInt8)} (h:PR w (.slice A n c) cs):Wo w A cs:=by
 intro i hi;obtain⟨A',c',e⟩:=TR.form h;injection e with e1 e2 e3;subst e1 e2 e3;obtain⟨g,o,hA,_,_,hc,_⟩:=TR.cells h (by omega);have hcl:=hc i (.string (fB (cs.getD i []))) (by omega) (by simp[kR,List.getD,hi]);exact⟨g,o,hA,World.block_lt_of_cell? w _ hcl,hcl⟩
theorem PR.grown {w w':World} {v:Value} {cs:List (List UInt8)} {X:Nat} {z:Array Value} (h:PR w v cs) (g:w.grownBy w' (some X)) (hX:Whole w X z 147):PR w' v cs:=TR.kept h g (.inr (TR.unlike h hX (by decide)))
theorem PR.below {w w':World} {v:Value} {cs:List (List UInt8)} (h:PR w v cs) (hb:Below w.heap.size w w'):PR w' v cs:=TR.below h hb
theorem xS (base M m:Nat) (vs:Value) (f:Nat→RS) (i:Nat) (I C:Nat) (v:ByteArray) (w:World) (h:MV base w M vs m f) (hi:i<m) (hk:3≤(f i).kind) (hd:bB.rep (f i).data.data.toList=(f i).data.data.toList) (hz:(f i).data.size≤8000) (hI:I≤(iL (f i).data).length) (hC:C≤2000000) (hv:v.size≤8000) (mW:(aZ v).size≤10000):
  Calls Tryz.prog 42 #[.pointer (some ⟨M,0,none⟩),.int .i64 (i:Int),.int .i64 (I:Int),.int .i64 (C:Int),.string v] w fun e w'=>∃ r,e=.returned (.tuple #[r,.int .i64 0])∧jN w.heap.size w' r [pG i I (f i).data ((min C ((iL (f i).data).length - I):Nat):Int) ((iL (aZ v)).length:Nat)]∧
   MV base w' M vs m (aX f i fun n=>{ n with data:=jB (f i).data I C v })∧aB w w' (aC M vs m f) (aC M vs m (aX f i fun n=>{ n with data:=jB (f i).data I C v })):=by
 obtain⟨A,c,rfl⟩:=h.form;obtain⟨g,rfl,-⟩:=h.read hi;obtain⟨k0,c0,-,-,c3,-⟩:=h.rd hi;have q1:(0:Int)≤(i:Int):=by omega
 have q2:(i:Int)<(m:Int):=by omega
 have q3:¬ (f i).kind<3:=by omega
 have hgood:=bB.bV (f i).data.data.toList;have iH:=sJ hd;have hfl:(iL (f i).data).flatten.length=(f i).data.size:=by rw[←iH];rfl
 obtain⟨cs,hcs⟩:=eX (iL (f i).data)
 have hll:cs.length≤(f i).data.size:=by rw[←hcs];exact zq _
 have HP:=zh (fun W=>oq (f i).data cs W (by omega) (by rw[←hcs];exact hgood) (by rw[←hcs];exact iH));obtain⟨len,hlen⟩:=eX (cs.length)
 obtain⟨cc,hcc⟩:=eX (min C (len - I))
 rw[hcs,hlen] at hI;have hmin:min (C:Int) ((len:Int) - (I:Int))=(cc:Int):=by omega
 obtain⟨rv,uj⟩:=eX (aZ v)
 rw[uj] at mW;have HR:=zh (fun W=>kC v W (by omega));rw[show fB (bB.rep v.data.toList)=rv from uj] at HR;have hrr:bB.rep rv.data.toList=rv.data.toList:=by rw[←uj];exact bB.Lu _
 obtain⟨rl,hrl⟩:=eX ((iL rv).length)
 have RD:=zh (fun W=>oq rv (iL rv) W (by omega) (bB.bV _) (sJ hrr));obtain⟨J1,hJ1⟩:=eX (fB (seg cs 0 I).flatten)
 obtain⟨J2,hJ2⟩:=eX (fB (seg cs (I+cc) len).flatten)
 have hcl:cs.flatten.length=(f i).data.size:=by rw[←hcs];exact hfl
 have hz1:J1.size≤8000:=by rw[←hJ1,ko];have:=zu cs 0 I;omega
 have hz2:J2.size≤8000:=by rw[←hJ2,ko];have:=zu cs (I+cc) len;omega
 have hnew:jB (f i).data I C v=J1++rv++J2:=by
  unfold jB;rw[←hJ1,←hJ2,hcs,uj,←l6,←l6,tC];congr 1
  ·unfold seg;rw[←hlen,List.take_length];by_cases h:C≤len - I
   ·rw[show cc=C by omega]
   ·rw[List.drop_of_length_le (by omega),List.drop_of_length_le (by omega)]
 have rM:=zh (And.intro hnew (And.intro (show (iL (aZ v)).length=rl by rw[uj];exact hrl) (And.intro (show (iL (f i).data).length=len by rw[hcs];exact hlen) hcc)));have HJN:=zh (fun (W:World) (Ap:Option Addr) (cp:Nat) (hA:PR W (.slice Ap len cp) cs)=>And.intro (DI Ap cp cs 0 (I:Int) W hA.Za (by omega) (by omega) (by omega)) (DI Ap cp cs ((I:Int)+(cc:Int)) (len:Int) W hA.Za (by omega) (by omega) (by omega)));rw[show ((I:Int)).toNat=I by omega,show ((0:Int)).toNat=0 by omega,show ((I:Int)+(cc:Int)).toNat=I+cc by omega,show ((len:Int)).toNat=len by omega,hJ1,hJ2,hlen] at HJN;have HM:=zh (fun (W:World) (hb:Below w.heap.size w W)=>h.below hb);have hgl:g<w.heap.size:=(h.row.lt g rfl).2;have PG:=zh (fun (W:World) (hb:Below w.heap.size w W)=>(show W.cell? ⟨M,0,none⟩=some (.slice (some ⟨g,0,none⟩) m c)∧W.cell? ⟨g,i*7+3,none⟩=some (.string (f i).data) from⟨((h.below hb).rd hi).1,((h.below hb).rd hi).2.2.2.2.1⟩));have HLL:=zh hlen;have HRL:=zh hrl;have abG:len≤8000:=by omega
 have abS:cc≤8000:=by omega
 have r0:¬ (I:Int)<0:=by omega
 have r1:¬ (len:Int)<(I:Int):=by omega
 have r2:¬ (C:Int)<0:=by omega
 clear h hd hk hfl iH hgood hcs hlen hcl hrr uj hcc hJ1 hJ2 hnew hrl
 go_enter Tryz.func42,Tryz.ntmps42
 go_wp2_with fail;refine (HP.out w).mono ?_;rintro e w1 ⟨vp,rfl,hrow,hb1⟩;have hRS:PR w1 vp cs:=(TR.jP hrow).zero;obtain⟨Ap,cp,rfl⟩:=TR.form hRS;rw[HLL.out] at hRS ⊢;have HB1:=zh hb1;have HRS:=zh hRS;obtain⟨a1,a3⟩:=PG.out w1 hb1;clear hrow hRS hb1 HP k0 c0 c3;go_wp2_with fail;refine (HR.out w1).mono ?_;rintro e w2 ⟨rfl,hb2⟩;have HB2:=zh (HB1.out.trans (hb2.mono HB1.out.size));have Zb:=zh (HRS.out.below hb2);clear hb2 HR a1 a3 HRS;go_wp2_with fail;obtain⟨V,hV⟩:=eX (w2.drew)
 have sQ:Below w2.heap.size w2 V:=lW hV;have bK:=zh (HB2.out.trans (sQ.mono HB2.out.size));obtain⟨X1,hX1⟩:=eX (V.alloc (.cells #[.int .i64 0,.int .i64 0,.int .i64 0,.int .i64 0,.int .i64 0,.int .i64 0,.string ⟨#[]⟩,.string ⟨#[]⟩,.bool false,.int .i64 0,.int .i64 0] 147))
 have uz:Below V.heap.size V X1:=fI hX1;have uO:=zh (bK.out.trans (uz.mono bK.out.size));have Ru:Hid (Whole X1 V.heap.size #[.int .i64 0,.int .i64 0,.int .i64 0,.int .i64 0,.int .i64 0,.int .i64 0,.string ⟨#[]⟩,.string ⟨#[]⟩,.bool false,.int .i64 0,.int .i64 0] 147):=zh (by rw[←hX1];exact Whole.new V _ _);have Wp:=zh (Zb.out.below sQ);have Zc:=zh (Wp.out.below uz);clear sQ uz
 go_cut [13] from 13 (fun u wc=>∃ X,u=.pointer (some ⟨X,0,none⟩)∧Whole wc X #[.int .i64 4,.int .i64 (i:Int),.int .i64 (-1),.int .i64 (-1),.int .i64 (-1),.int .i64 (I:Int),.string ⟨#[]⟩,.string (f i).data,.bool false,.int .i64 (cc:Int),.int .i64 (rl:Int)] 147∧w.heap.size≤X∧Below w.heap.size w wc∧PR wc (.slice Ap len cp) cs)
 case first=>
  rename_i J0 K0 hJ0 xW;refine wp_region_noPanic ?_;refine wp_region_held_drew (S:=(fun W=>W.cell? ⟨M,0,none⟩=some (.slice (some ⟨g,0,none⟩) m c)∧W.cell? ⟨g,i*7+3,none⟩=some (.string (f i).data))) (by kernel_rfl) ?_ (fun ah=>?_)
  ·exact (by rw[hV];exact PG.out V bK.out)
  rw[hV] at ah ⊢;refine bn [0,1,2,3,4,5,6,7,8,9,10,11] ?_;iterate 12 (refine jf ?_;try simp only[pS])
  refine bq ?_;refine zQ 12 15 (fun K hK=>?_) fun K hK=>?_
  ·go_simp;refine (RD.out V).mono ?_;rintro e w6 ⟨v6,rfl,xk,hb6⟩;obtain⟨A6,c6,rfl,-⟩:=AL xk;rw[HRL.out];have iQ:=zh (bK.out.trans (hb6.mono bK.out.size));have Wq:=zh (Wp.out.below hb6);clear xk;clear hb6;refine hK.out _ _ (PG.out w6 iQ.out) fun ah=>?_;clear hK K;(try simp only[pS]);refine bn [13,14] ?_;iterate 2 (refine jf ?_;try simp only[pS])
   refine bq ?_;refine bG 15 fun K hK=>?_;go_simp;obtain⟨w7,hw7⟩:=eX (w6.alloc (.cells #[.int .i64 0,.int .i64 0,.int .i64 0,.int .i64 0,.int .i64 0,.int .i64 0,.string ⟨#[]⟩,.string ⟨#[]⟩,.bool false,.int .i64 0,.int .i64 0] 147))
   have aL:Whole w7 w6.heap.size #[.int .i64 0,.int .i64 0,.int .i64 0,.int .i64 0,.int .i64 0,.int .i64 0,.string ⟨#[]⟩,.string ⟨#[]⟩,.bool false,.int .i64 0,.int .i64 0] 147:=by rw[←hw7];exact Whole.new w6 _ _
   have lq:Below w6.heap.size w6 w7:=fI hw7;have hs6:=iQ.out.size;have lT:=zh (iQ.out.trans (lq.mono iQ.out.size));have aaR:=zh (Wq.out.below lq);(try rw[hw7]);obtain⟨w8,hw8,xu,g8⟩:=kJ aL (.int .i64 4) (.int .i64 (i:Int)) (.int .i64 (-1)) (.int .i64 (-1)) (.int .i64 (-1)) (.int .i64 (I:Int)) (.string ⟨#[]⟩) (.string (f i).data) (.bool false) (.int .i64 (cc:Int)) (.int .i64 (rl:Int));have mX:=(lT.out).grown g8 (lT.out).size (fun j hj=>by injection hj with hj;omega);have pq:=zh (And.intro xu (And.intro (show w.heap.size≤w6.heap.size by omega) (And.intro mX (aaR.out.grown g8 aL))));have y0:w7.cell? ⟨w6.heap.size,0,none⟩=some (.int .i64 0):=aL.cell 0;have yZ:=aL.free 0;have y1:w7.cell? ⟨w6.heap.size,1,none⟩=some (.int .i64 0):=aL.cell 1;have za:=aL.free 1;have y2:w7.cell? ⟨w6.heap.size,2,none⟩=some (.int .i64 0):=aL.cell 2;have CZ:=aL.free 2;have y3:w7.cell? ⟨w6.heap.size,3,none⟩=some (.int .i64 0):=aL.cell 3;have C8:=aL.free 3;have y4:w7.cell? ⟨w6.heap.size,4,none⟩=some (.int .i64 0):=aL.cell 4;have C9:=aL.free 4;have y5:w7.cell? ⟨w6.heap.size,5,none⟩=some (.int .i64 0):=aL.cell 5;have Da:=aL.free 5;have y6:w7.cell? ⟨w6.heap.size,6,none⟩=some (.string ⟨#[]⟩):=aL.cell 6;have Db:=aL.free 6;have y7:w7.cell? ⟨w6.heap.size,7,none⟩=some (.string ⟨#[]⟩):=aL.cell 7;have Dc:=aL.free 7;have y8:w7.cell? ⟨w6.heap.size,8,none⟩=some (.bool false):=aL.cell 8;have Df:=aL.free 8;have y9:w7.cell? ⟨w6.heap.size,9,none⟩=some (.int .i64 0):=aL.cell 9;have FN:=aL.free 9;have wT:w7.cell? ⟨w6.heap.size,10,none⟩=some (.int .i64 0):=aL.cell 10;have qZ:=aL.free 10;clear aL xu g8 mX;clear lq;refine hK.out _ _ (PG.out w7 lT.out) fun ah=>?_;clear hK K;(try simp only[pS]);refine bG 16 fun K hK=>?_;go_simp;(try rw[hw8]);refine hK.out _ _ (PG.out w8 pq.out.2.2.1) fun ah=>?_;clear hK K;(try simp only[pS]);refine eY ?_;exact xW _ _ (Met.intro (hJ0 _ _ ⟨_,_,_,_,_,_,_,_,_,_,_,_,_,_,_,_,_,_,_,_,_,_,_,_,_,_,_,_,_,_,_,_,_,_,_,_,_,_,_,_,_,_,_,_,_,_,_,_,_,_,_,_,_,_,_,_,_,_,_,_,_,_,_,_,_,_,_,_,_,_,_,_,_,_,_,_,⟨_,rfl,pq.out⟩,rfl⟩))
  ·go_simp;(try rw[hX1]);refine hK.out _ _ (PG.out X1 uO.out) fun ah=>?_;clear hK K;(try simp only[pS]);refine bG 12 fun K hK=>?_;go_simp;refine (RD.out X1).mono ?_;rintro e w6 ⟨v6,rfl,xk,hb6⟩;obtain⟨A6,c6,rfl,-⟩:=AL xk;rw[HRL.out];have iQ:=zh (uO.out.trans (hb6.mono uO.out.size));have Wq:=zh (Zc.out.below hb6);clear xk;have aL:=Ru.out.below hb6 Ru.out.lt;have hs6:=bK.out.size;clear hb6;obtain⟨w8,hw8,xu,g8⟩:=kJ aL (.int .i64 4) (.int .i64 (i:Int)) (.int .i64 (-1)) (.int .i64 (-1)) (.int .i64 (-1)) (.int .i64 (I:Int)) (.string ⟨#[]⟩) (.string (f i).data) (.bool false) (.int .i64 (cc:Int)) (.int .i64 (rl:Int));have mX:=(iQ.out).grown g8 (iQ.out).size (fun j hj=>by injection hj with hj;omega);have pq:=zh (And.intro xu (And.intro (show w.heap.size≤V.heap.size by omega) (And.intro mX (Wq.out.grown g8 aL))));have y0:w6.cell? ⟨V.heap.size,0,none⟩=some (.int .i64 0):=aL.cell 0;have yZ:=aL.free 0;have y1:w6.cell? ⟨V.heap.size,1,none⟩=some (.int .i64 0):=aL.cell 1;have za:=aL.free 1;have y2:w6.cell? ⟨V.heap.size,2,none⟩=some (.int .i64 0):=aL.cell 2;have CZ:=aL.free 2;have y3:w6.cell? ⟨V.heap.size,3,none⟩=some (.int .i64 0):=aL.cell 3;have C8:=aL.free 3;have y4:w6.cell? ⟨V.heap.size,4,none⟩=some (.int .i64 0):=aL.cell 4;have C9:=aL.free 4;have y5:w6.cell? ⟨V.heap.size,5,none⟩=some (.int .i64 0):=aL.cell 5;have Da:=aL.free 5;have y6:w6.cell? ⟨V.heap.size,6,none⟩=some (.string ⟨#[]⟩):=aL.cell 6;have Db:=aL.free 6;have y7:w6.cell? ⟨V.heap.size,7,none⟩=some (.string ⟨#[]⟩):=aL.cell 7;have Dc:=aL.free 7;have y8:w6.cell? ⟨V.heap.size,8,none⟩=some (.bool false):=aL.cell 8;have Df:=aL.free 8;have y9:w6.cell? ⟨V.heap.size,9,none⟩=some (.int .i64 0):=aL.cell 9;have FN:=aL.free 9;have wT:w6.cell? ⟨V.heap.size,10,none⟩=some (.int .i64 0):=aL.cell 10;have qZ:=aL.free 10;clear aL xu g8 mX;refine hK.out _ _ (PG.out w6 iQ.out) fun ah=>?_;clear hK K;(try simp only[pS]);refine bn [13,14] ?_;iterate 2 (refine jf ?_;try simp only[pS])
   refine bq ?_;refine bG 16 fun K hK=>?_;go_simp;(try rw[hw8]);refine hK.out _ _ (PG.out w8 pq.out.2.2.1) fun ah=>?_;clear hK K;(try simp only[pS]);refine eY ?_;exact xW _ _ (Met.intro (hJ0 _ _ ⟨_,_,_,_,_,_,_,_,_,_,_,_,_,_,_,_,_,_,_,_,_,_,_,_,_,_,_,_,_,_,_,_,_,_,_,_,_,_,_,_,_,_,_,_,_,_,_,_,_,_,_,_,_,_,_,_,_,_,_,_,_,_,_,_,_,_,_,_,_,_,_,_,_,_,_,_,⟨_,rfl,pq.out⟩,rfl⟩))
 case rest=>
  obtain⟨X,rfl,hX,Yu,hbc,hRS⟩:=hcut;obtain⟨W,hW⟩:=eX (wc.drew)
  have hbd:Below wc.heap.size wc W:=lW hW;have qP:=hbc.trans (hbd.mono hbc.size);obtain⟨kd,k3⟩:=PG.out W qP;have kf:=(HM.out W qP).fz (i*7+3);obtain⟨uf,xX⟩:=(HM.out W qP).put (j:=3) (v:=.string (jB (f i).data I C v)) hi (by omega) (fun n=>{ n with data:=jB (f i).data I C v }) rfl ⟨rfl,rfl,rfl,rfl⟩;rw[rM.out.1] at uf xX;obtain⟨w9,wO⟩:=eX (W.setCell ⟨g,i*7+3,none⟩ (.string (J1++rv++J2)))
  rw[wO] at uf xX;have UM:=hX.below hbd hX.lt;have gN:Whole w9 X #[.int .i64 4,.int .i64 (i:Int),.int .i64 (-1),.int .i64 (-1),.int .i64 (-1),.int .i64 (I:Int),.string ⟨#[]⟩,.string (f i).data,.bool false,.int .i64 (cc:Int),.int .i64 (rl:Int)] 147:=by rw[←wO];exact UM.other (by show X≠g;omega) _
  have Zd:=hRS.below hbd;have HJ:=zh (HJN.out W Ap cp Zd);have k9:w9.cell? ⟨M,0,none⟩=some (.slice (some ⟨g,0,none⟩) m c):=uf.cell.1;have Cn:w.heap.size≤w9.heap.size:=Nat.le_trans qP.size xX.1.size;have qh:=(Below.refl _ w9).alloc (Nat.le_refl _) (.cells #[.int .i64 4,.int .i64 (i:Int),.int .i64 (-1),.int .i64 (-1),.int .i64 (-1),.int .i64 (I:Int),.string ⟨#[]⟩,.string (f i).data,.bool false,.int .i64 (cc:Int),.int .i64 (rl:Int)] 147);have bC:=zh (And.intro (nP w9 (pG i I (f i).data (cc:Int) (rl:Int)) w.heap.size Cn) (And.intro (uf.below qh) (((aB.of_below qP).trans xX).trans (.of_below qh))));have hwr:IntKind.i64.wrap ((I:Int)+(cc:Int))=(I:Int)+(cc:Int):=by rw[IntKind.wrap_i64];omega
  have u6:¬ 9223372036854775807<J1.size+rv.size+J2.size:=by omega
  have u7:¬ 9223372036854775807<J1.size+rv.size:=by omega
  have z0:w9.cell? ⟨X,0,none⟩=some (.int .i64 4):=gN.cell 0;have z1:w9.cell? ⟨X,1,none⟩=some (.int .i64 (i:Int)):=gN.cell 1;have z2:w9.cell? ⟨X,2,none⟩=some (.int .i64 (-1)):=gN.cell 2;have z3:w9.cell? ⟨X,3,none⟩=some (.int .i64 (-1)):=gN.cell 3;have z4:w9.cell? ⟨X,4,none⟩=some (.int .i64 (-1)):=gN.cell 4;have z5:w9.cell? ⟨X,5,none⟩=some (.int .i64 (I:Int)):=gN.cell 5;have z6:w9.cell? ⟨X,6,none⟩=some (.string ⟨#[]⟩):=gN.cell 6;have z7:w9.cell? ⟨X,7,none⟩=some (.string (f i).data):=gN.cell 7;have z8:w9.cell? ⟨X,8,none⟩=some (.bool false):=gN.cell 8;have z9:w9.cell? ⟨X,9,none⟩=some (.int .i64 (cc:Int)):=gN.cell 9;have YH:w9.cell? ⟨X,10,none⟩=some (.int .i64 (rl:Int)):=gN.cell 10;clear hX gN UM qh hbc qP hbd uf xX hRS Zd Zb Wp Zc;go_wp2_with fail;refine wp_region_noPanic ?_;refine wp_region_held_drew (S:=(fun W=>W.cell? ⟨M,0,none⟩=some (.slice (some ⟨g,0,none⟩) m c))) (by kernel_rfl) ?_ (fun ah=>?_)
  ·exact (by rw[hW];exact kd)
  rw[hW] at ah ⊢;refine bn [0,1,2,3,4,5,6,8,10,11,12,13,14,15] ?_;iterate 14 (refine jf ?_;try simp only[pS])
  refine bq ?_;refine bG 7 fun K hK=>?_;go_simp;refine HJ.out.1.mono ?_;rintro e w7 ⟨rfl,rfl⟩;refine hK.out _ _ (kd) fun ah=>?_;clear hK K;(try simp only[pS]);refine bn [9] ?_
  (refine jf ?_;try simp only[pS])
  refine bq ?_;refine bG 16 fun K hK=>?_;go_simp;refine HJ.out.2.mono ?_;rintro e w7 ⟨rfl,rfl⟩;refine hK.out _ _ (kd) fun ah=>?_;clear hK K;(try simp only[pS]);refine bn [17,18,19] ?_;iterate 3 (refine jf ?_;try simp only[pS])
  refine bq ?_;refine bG 20 fun K hK=>?_;go_simp;(try rw[wO]);refine hK.out _ _ (k9) fun ah=>?_;clear hK K;(try simp only[pS]);refine eY ?_;go_wp2_with fail;go_ret2;obtain⟨e1,e2,e3⟩:=bC.out;rw[rM.out.1,rM.out.2.2.1,rM.out.2.2.2,rM.out.2.1];exact⟨_,rfl,e1,e2,e3⟩
end
end Go.Proofs.YtmhjlifmcadefaaGreatDoor
