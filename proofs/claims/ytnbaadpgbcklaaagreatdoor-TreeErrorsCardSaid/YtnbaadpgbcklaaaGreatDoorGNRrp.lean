/- Part of a proof about trees: NRrp. -/
import Derived.Sort.CutIn
import Derived.Test.YtnbaadpgbcklaaaGreatDoorGNRpk
import Derived.Test.YtnbaadpgbcklaaaGreatDoorGNRsa
set_option linter.unusedVariables false
set_option linter.unusedSimpArgs false
set_option linter.unusedSectionVars false
set_option maxHeartbeats 4000000
set_option maxRecDepth 100000
namespace Go.Proofs.YtnbaadpgbcklaaaGreatDoor
section
open Go.RowKit
def pF (i:Nat) (ix:Int) (old:ByteArray) (c sz:Int):Tr.Rec:=⟨4,i,-1,-1,-1,ix,⟨#[]⟩,old,false,c,sz⟩
theorem CU (base M m:Nat) (vs:Value) (f:Nat→RS) (i:Nat) (I C:Int) (v:ByteArray) (w:World) (h:MV base w M vs m f) (hi:i<m) (hk:(f i).kind<3):
  Calls Tryz.prog 54 #[.pointer (some ⟨M,0,none⟩),.int .i64 (i:Int),.int .i64 I,.int .i64 C,.string v] w fun e w'=>e=.returned (nG 10)∧w'=w:=by
 obtain⟨A,c,rfl⟩:=h.form;obtain⟨g,rfl,-⟩:=h.read hi;obtain⟨k0,c0,_⟩:=h.rd hi;have q1:(0:Int)≤(i:Int):=by omega
 have q2:(i:Int)<(m:Int):=by omega
 clear h
 go_enter Tryz.func54,Tryz.ntmps54
 go_wp2_with fail;go_ret2;exact⟨rfl,rfl⟩
theorem yN (base M m:Nat) (vs:Value) (f:Nat→RS) (i:Nat) (I C:Int) (v:ByteArray) (w:World) (h:MV base w M vs m f) (hi:i<m) (hk:3≤(f i).kind) (hd:bJ.rep (f i).data.data.toList=(f i).data.data.toList) (hz:(f i).data.size≤8000) (hr:I<0∨((iK (f i).data).length:Int)<I∨C<0):
  Calls Tryz.prog 54 #[.pointer (some ⟨M,0,none⟩),.int .i64 (i:Int),.int .i64 I,.int .i64 C,.string v] w fun e w'=>e=.returned (nG 2)∧Below w.heap.size w w':=by
 obtain⟨A,c,rfl⟩:=h.form;obtain⟨g,rfl,-⟩:=h.read hi;obtain⟨k0,c0,-,-,c3,-⟩:=h.rd hi;have q1:(0:Int)≤(i:Int):=by omega
 have q2:(i:Int)<(m:Int):=by omega
 have q3:¬ (f i).kind<3:=by omega
 have hgood:=bJ.cO (f i).data.data.toList;have iE:=sQ hd;have hfl:(iK (f i).data).flatten.length=(f i).data.size:=by rw[←iE];rfl
 obtain⟨cs,hcs⟩:∃ cs,iK (f i).data=cs:=⟨_,rfl⟩
 have hll:cs.length≤(f i).data.size:=by rw[←hcs];exact yD _
 have HP:=zh (fun W=>sj (f i).data cs W (by omega) (by rw[←hcs];exact hgood) (by rw[←hcs];exact iE));rw[hcs] at hr;obtain⟨len,hlen⟩:∃ len,cs.length=len:=⟨_,rfl⟩
 rw[hlen] at hr;have HL:=zh hlen;have HRR:=zh hr;clear h hd hk hfl iE hgood hcs hlen hll hr
 go_enter Tryz.func54,Tryz.ntmps54
 go_wp2_with fail;refine (HP.out w).mono ?_;rintro e w1 ⟨vp,rfl,hrow,hb1⟩;obtain⟨Ap,cp,rfl,-⟩:=zx hrow;rw[HL.out];have HB:=zh hb1;clear hrow hb1 HP;by_cases h0:I<0
 ·go_wp2_with fail;go_ret2;exact⟨rfl,HB.out⟩
 ·by_cases h1:(len:Int)<I
  ·go_wp2_with fail;go_ret2;exact⟨rfl,HB.out⟩
  ·have h2:C<0:=by rcases HRR.out with h | h | h;exact absurd h h0;exact absurd h h1;exact h
   go_wp2_with fail;go_ret2;exact⟨rfl,HB.out⟩
def PR (w:World) (v:Value) (cs:List (List UInt8)):Prop:=TR w 0 9 1 v cs.length (kH cs)
theorem PR.Wm {w:World} {A:Option Addr} {n c:Nat} {cs:List (List UInt8)} (h:PR w (.slice A n c) cs):Ta w A cs:=by
 intro i hi;obtain⟨A',c',e⟩:=TR.form h;injection e with e1 e2 e3;subst e1 e2 e3;obtain⟨g,o,hA,_,_,hc,_⟩:=TR.cells h (by omega);have hcl:=hc i (.string (fJ (cs.getD i []))) (by omega) (by simp[kH,List.getD,hi]);exact⟨g,o,hA,World.block_lt_of_cell? w _ hcl,hcl⟩
theorem PR.grown {w w':World} {v:Value} {cs:List (List UInt8)} {X:Nat} {z:Array Value} (h:PR w v cs) (g:w.grownBy w' (some X)) (hX:Whole w X z 147):PR w' v cs:=TR.kept h g (.inr (TR.unlike h hX (by decide)))
theorem PR.below {w w':World} {v:Value} {cs:List (List UInt8)} (h:PR w v cs) (hb:Below w.heap.size w w'):PR w' v cs:=TR.below h hb
theorem xB (base M m:Nat) (vs:Value) (f:Nat→RS) (i:Nat) (I C:Nat) (v:ByteArray) (w:World) (h:MV base w M vs m f) (hi:i<m) (hk:3≤(f i).kind) (hd:bJ.rep (f i).data.data.toList=(f i).data.data.toList) (hz:(f i).data.size≤8000) (hI:I≤(iK (f i).data).length) (hC:C≤2000000) (hv:v.size≤8000) (mQ:(aX v).size≤10000):
  Calls Tryz.prog 54 #[.pointer (some ⟨M,0,none⟩),.int .i64 (i:Int),.int .i64 (I:Int),.int .i64 (C:Int),.string v] w fun e w'=>∃ r,e=.returned (.tuple #[r,.int .i64 0])∧jI w.heap.size w' r [pF i I (f i).data ((min C ((iK (f i).data).length - I):Nat):Int) ((iK (aX v)).length:Nat)]∧
   MV base w' M vs m (bg f i fun n=>{ n with data:=ji (f i).data I C v })∧ay w w' (aB M vs m f) (aB M vs m (bg f i fun n=>{ n with data:=ji (f i).data I C v })):=by
 obtain⟨A,c,rfl⟩:=h.form;obtain⟨g,rfl,-⟩:=h.read hi;obtain⟨k0,c0,-,-,c3,-⟩:=h.rd hi;have q1:(0:Int)≤(i:Int):=by omega
 have q2:(i:Int)<(m:Int):=by omega
 have q3:¬ (f i).kind<3:=by omega
 have hgood:=bJ.cO (f i).data.data.toList;have iE:=sQ hd;have hfl:(iK (f i).data).flatten.length=(f i).data.size:=by rw[←iE];rfl
 obtain⟨cs,hcs⟩:∃ cs,iK (f i).data=cs:=⟨_,rfl⟩
 have hll:cs.length≤(f i).data.size:=by rw[←hcs];exact yD _
 have HP:=zh (fun W=>sj (f i).data cs W (by omega) (by rw[←hcs];exact hgood) (by rw[←hcs];exact iE));obtain⟨len,hlen⟩:∃ len,cs.length=len:=⟨_,rfl⟩
 obtain⟨cc,hcc⟩:∃ cc,min C (len - I)=cc:=⟨_,rfl⟩
 rw[hcs,hlen] at hI;have hmin:min (C:Int) ((len:Int) - (I:Int))=(cc:Int):=by omega
 obtain⟨rv,uf⟩:∃ rv,aX v=rv:=⟨_,rfl⟩
 rw[uf] at mQ;have HR:=zh (fun W=>jT v W (by omega));rw[show fJ (bJ.rep v.data.toList)=rv from uf] at HR;have hrr:bJ.rep rv.data.toList=rv.data.toList:=by rw[←uf];exact bJ.JJ _
 obtain⟨rl,hrl⟩:∃ rl,(iK rv).length=rl:=⟨_,rfl⟩
 have O5:=zh (fun W=>sj rv (iK rv) W (by omega) (bJ.cO _) (sQ hrr));obtain⟨J1,X0⟩:∃ x,fJ (seg cs 0 I).flatten=x:=⟨_,rfl⟩
 obtain⟨J2,hJ2⟩:∃ x,fJ (seg cs (I+cc) len).flatten=x:=⟨_,rfl⟩
 have hcl:cs.flatten.length=(f i).data.size:=by rw[←hcs];exact hfl
 have hz1:J1.size≤8000:=by rw[←X0,jP];have:=yE cs 0 I;omega
 have hz2:J2.size≤8000:=by rw[←hJ2,jP];have:=yE cs (I+cc) len;omega
 have hnew:ji (f i).data I C v=J1++rv++J2:=by
  unfold ji;rw[←X0,←hJ2,hcs,uf,←lW,←lW,tJ];congr 1
  ·unfold seg;rw[←hlen,List.take_length];by_cases h:C≤len - I
   ·rw[show cc=C by omega]
   ·rw[List.drop_of_length_le (by omega),List.drop_of_length_le (by omega)]
 have rZ:=zh (And.intro hnew (And.intro (show (iK (aX v)).length=rl by rw[uf];exact hrl) (And.intro (show (iK (f i).data).length=len by rw[hcs];exact hlen) hcc)));have HJN:=zh (fun (W:World) (Ap:Option Addr) (cp:Nat) (hA:PR W (.slice Ap len cp) cs)=>And.intro (BZ Ap cp cs 0 (I:Int) W hA.Wm (by omega) (by omega) (by omega)) (BZ Ap cp cs ((I:Int)+(cc:Int)) (len:Int) W hA.Wm (by omega) (by omega) (by omega)));rw[show ((I:Int)).toNat=I by omega,show ((0:Int)).toNat=0 by omega,show ((I:Int)+(cc:Int)).toNat=I+cc by omega,show ((len:Int)).toNat=len by omega,X0,hJ2,hlen] at HJN;have HM:=zh (fun (W:World) (hb:Below w.heap.size w W)=>h.below hb);have hgl:g<w.heap.size:=(h.row.lt g rfl).2;have Nq:=zh (fun (W:World) (hb:Below w.heap.size w W)=>(show W.cell? ⟨M,0,none⟩=some (.slice (some ⟨g,0,none⟩) m c)∧W.cell? ⟨g,i*7+3,none⟩=some (.string (f i).data) from⟨((h.below hb).rd hi).1,((h.below hb).rd hi).2.2.2.2.1⟩));have XZ:=zh hlen;have HRL:=zh hrl;have aaG:len≤8000:=by omega
 have aaT:cc≤8000:=by omega
 have r0:¬ (I:Int)<0:=by omega
 have r1:¬ (len:Int)<(I:Int):=by omega
 have r2:¬ (C:Int)<0:=by omega
 clear h hd hk hfl iE hgood hcs hlen hcl hrr uf hcc X0 hJ2 hnew hrl
 go_enter Tryz.func54,Tryz.ntmps54
 go_wp2_with fail;refine (HP.out w).mono ?_;rintro e w1 ⟨vp,rfl,hrow,hb1⟩;have hRS:PR w1 vp cs:=(TR.jJ hrow).zero;obtain⟨Ap,cp,rfl⟩:=TR.form hRS;rw[XZ.out] at hRS ⊢;have HB1:=zh hb1;have HRS:=zh hRS;obtain⟨a1,a3⟩:=Nq.out w1 hb1;clear hrow hRS hb1 HP k0 c0 c3;go_wp2_with fail;refine (HR.out w1).mono ?_;rintro e w2 ⟨rfl,hb2⟩;have HB2:=zh (HB1.out.trans (hb2.mono HB1.out.size));have Wn:=zh (HRS.out.below hb2);clear hb2 HR a1 a3 HRS;go_wp2_with fail;obtain⟨V,hV⟩:∃ V,w2.drew=V:=⟨_,rfl⟩
 have oU:Below w2.heap.size w2 V:=mJ hV;have bZ:=zh (HB2.out.trans (oU.mono HB2.out.size));obtain⟨X1,hX1⟩:∃ X1,V.alloc (.cells #[.int .i64 0,.int .i64 0,.int .i64 0,.int .i64 0,.int .i64 0,.int .i64 0,.string ⟨#[]⟩,.string ⟨#[]⟩,.bool false,.int .i64 0,.int .i64 0] 147)=X1:=⟨_,rfl⟩
 have uQ:Below V.heap.size V X1:=eP hX1;have yj:=zh (bZ.out.trans (uQ.mono bZ.out.size));have OV:Hid (Whole X1 V.heap.size #[.int .i64 0,.int .i64 0,.int .i64 0,.int .i64 0,.int .i64 0,.int .i64 0,.string ⟨#[]⟩,.string ⟨#[]⟩,.bool false,.int .i64 0,.int .i64 0] 147):=zh (by rw[←hX1];exact Whole.new V _ _);have Tc:=zh (Wn.out.below oU);have Wo:=zh (Tc.out.below uQ);clear oU uQ
 go_cut [13] from 13 (fun u wc=>∃ X,u=.pointer (some ⟨X,0,none⟩)∧Whole wc X #[.int .i64 4,.int .i64 (i:Int),.int .i64 (-1),.int .i64 (-1),.int .i64 (-1),.int .i64 (I:Int),.string ⟨#[]⟩,.string (f i).data,.bool false,.int .i64 (cc:Int),.int .i64 (rl:Int)] 147∧w.heap.size≤X∧Below w.heap.size w wc∧PR wc (.slice Ap len cp) cs)
 case first=>
  rename_i J0 K0 hJ0 uR;refine wp_region_noPanic ?_;refine wp_region_held_drew (S:=(fun W=>W.cell? ⟨M,0,none⟩=some (.slice (some ⟨g,0,none⟩) m c)∧W.cell? ⟨g,i*7+3,none⟩=some (.string (f i).data))) (by kernel_rfl) ?_ (fun hHeld=>?_)
  ·exact (by rw[hV];exact Nq.out V bZ.out)
  rw[hV] at hHeld ⊢;refine bD [0,1,2,3,4,5,6,7,8,9,10,11] ?_;iterate 12 (refine iZ ?_;try simp only[pS])
  refine bE ?_;refine wpAnyH_ready (rs:=[12,15]) (by kernel_rfl) (by simp) ?_;refine AllReadyH.cons rfl (fun K hK=>?_) (AllReadyH.cons rfl (fun K hK=>?_) AllReadyH.nil)
  ·go_simp;refine (O5.out V).mono ?_;rintro e w6 ⟨v6,rfl,wT,hb6⟩;obtain⟨A6,c6,rfl,-⟩:=zx wT;rw[HRL.out];have oq:=zh (bZ.out.trans (hb6.mono bZ.out.size));have Td:=zh (Tc.out.below hb6);clear wT;clear hb6;refine hK.out _ _ (Nq.out w6 oq.out) fun hHeld=>?_;clear hK K;(try simp only[pS]);refine bD [13,14] ?_;iterate 2 (refine iZ ?_;try simp only[pS])
   refine bE ?_;refine bL 15 fun K hK=>?_;go_simp;obtain⟨w7,hw7⟩:∃ w7,w6.alloc (.cells #[.int .i64 0,.int .i64 0,.int .i64 0,.int .i64 0,.int .i64 0,.int .i64 0,.string ⟨#[]⟩,.string ⟨#[]⟩,.bool false,.int .i64 0,.int .i64 0] 147)=w7:=⟨_,rfl⟩
   have aO:Whole w7 w6.heap.size #[.int .i64 0,.int .i64 0,.int .i64 0,.int .i64 0,.int .i64 0,.int .i64 0,.string ⟨#[]⟩,.string ⟨#[]⟩,.bool false,.int .i64 0,.int .i64 0] 147:=by rw[←hw7];exact Whole.new w6 _ _
   have lK:Below w6.heap.size w6 w7:=eP hw7;have hs6:=oq.out.size;have jm:=zh (oq.out.trans (lK.mono oq.out.size));have ZQ:=zh (Td.out.below lK);(try rw[hw7]);obtain⟨w8,hw8,zw,g8⟩:=jZ aO (.int .i64 4) (.int .i64 (i:Int)) (.int .i64 (-1)) (.int .i64 (-1)) (.int .i64 (-1)) (.int .i64 (I:Int)) (.string ⟨#[]⟩) (.string (f i).data) (.bool false) (.int .i64 (cc:Int)) (.int .i64 (rl:Int));have jo:=(jm.out).grown g8 (jm.out).size (fun j hj=>by injection hj with hj;omega);have jW:=zh (And.intro zw (And.intro (show w.heap.size≤w6.heap.size by omega) (And.intro jo (ZQ.out.grown g8 aO))));have y0:w7.cell? ⟨w6.heap.size,0,none⟩=some (.int .i64 0):=aO.cell 0;have Cy:=aO.free 0;have y1:w7.cell? ⟨w6.heap.size,1,none⟩=some (.int .i64 0):=aO.cell 1;have Cz:=aO.free 1;have y2:w7.cell? ⟨w6.heap.size,2,none⟩=some (.int .i64 0):=aO.cell 2;have CB:=aO.free 2;have y3:w7.cell? ⟨w6.heap.size,3,none⟩=some (.int .i64 0):=aO.cell 3;have CF:=aO.free 3;have y4:w7.cell? ⟨w6.heap.size,4,none⟩=some (.int .i64 0):=aO.cell 4;have CG:=aO.free 4;have y5:w7.cell? ⟨w6.heap.size,5,none⟩=some (.int .i64 0):=aO.cell 5;have CJ:=aO.free 5;have y6:w7.cell? ⟨w6.heap.size,6,none⟩=some (.string ⟨#[]⟩):=aO.cell 6;have CK:=aO.free 6;have y7:w7.cell? ⟨w6.heap.size,7,none⟩=some (.string ⟨#[]⟩):=aO.cell 7;have CO:=aO.free 7;have y8:w7.cell? ⟨w6.heap.size,8,none⟩=some (.bool false):=aO.cell 8;have CP:=aO.free 8;have y9:w7.cell? ⟨w6.heap.size,9,none⟩=some (.int .i64 0):=aO.cell 9;have EA:=aO.free 9;have wJ:w7.cell? ⟨w6.heap.size,10,none⟩=some (.int .i64 0):=aO.cell 10;have rH:=aO.free 10;clear aO zw g8 jo;clear lK;refine hK.out _ _ (Nq.out w7 jm.out) fun hHeld=>?_;clear hK K;(try simp only[pS]);refine bL 16 fun K hK=>?_;go_simp;(try rw[hw8]);refine hK.out _ _ (Nq.out w8 jW.out.2.2.1) fun hHeld=>?_;clear hK K;(try simp only[pS]);refine fB ?_;exact uR _ _ (Met.intro (hJ0 _ _ ⟨_,_,_,_,_,_,_,_,_,_,_,_,_,_,_,_,_,_,_,_,_,_,_,_,_,_,_,_,_,_,_,_,_,_,_,_,_,_,_,_,_,_,_,_,_,_,_,_,_,_,_,_,_,_,_,_,_,_,_,_,_,_,_,_,_,_,_,_,_,_,_,_,_,_,_,_,⟨_,rfl,jW.out⟩,rfl⟩))
  ·go_simp;(try rw[hX1]);refine hK.out _ _ (Nq.out X1 yj.out) fun hHeld=>?_;clear hK K;(try simp only[pS]);refine bL 12 fun K hK=>?_;go_simp;refine (O5.out X1).mono ?_;rintro e w6 ⟨v6,rfl,wT,hb6⟩;obtain⟨A6,c6,rfl,-⟩:=zx wT;rw[HRL.out];have oq:=zh (yj.out.trans (hb6.mono yj.out.size));have Td:=zh (Wo.out.below hb6);clear wT;have aO:=OV.out.below hb6 OV.out.lt;have hs6:=bZ.out.size;clear hb6;obtain⟨w8,hw8,zw,g8⟩:=jZ aO (.int .i64 4) (.int .i64 (i:Int)) (.int .i64 (-1)) (.int .i64 (-1)) (.int .i64 (-1)) (.int .i64 (I:Int)) (.string ⟨#[]⟩) (.string (f i).data) (.bool false) (.int .i64 (cc:Int)) (.int .i64 (rl:Int));have jo:=(oq.out).grown g8 (oq.out).size (fun j hj=>by injection hj with hj;omega);have jW:=zh (And.intro zw (And.intro (show w.heap.size≤V.heap.size by omega) (And.intro jo (Td.out.grown g8 aO))));have y0:w6.cell? ⟨V.heap.size,0,none⟩=some (.int .i64 0):=aO.cell 0;have Cy:=aO.free 0;have y1:w6.cell? ⟨V.heap.size,1,none⟩=some (.int .i64 0):=aO.cell 1;have Cz:=aO.free 1;have y2:w6.cell? ⟨V.heap.size,2,none⟩=some (.int .i64 0):=aO.cell 2;have CB:=aO.free 2;have y3:w6.cell? ⟨V.heap.size,3,none⟩=some (.int .i64 0):=aO.cell 3;have CF:=aO.free 3;have y4:w6.cell? ⟨V.heap.size,4,none⟩=some (.int .i64 0):=aO.cell 4;have CG:=aO.free 4;have y5:w6.cell? ⟨V.heap.size,5,none⟩=some (.int .i64 0):=aO.cell 5;have CJ:=aO.free 5;have y6:w6.cell? ⟨V.heap.size,6,none⟩=some (.string ⟨#[]⟩):=aO.cell 6;have CK:=aO.free 6;have y7:w6.cell? ⟨V.heap.size,7,none⟩=some (.string ⟨#[]⟩):=aO.cell 7;have CO:=aO.free 7;have y8:w6.cell? ⟨V.heap.size,8,none⟩=some (.bool false):=aO.cell 8;have CP:=aO.free 8;have y9:w6.cell? ⟨V.heap.size,9,none⟩=some (.int .i64 0):=aO.cell 9;have EA:=aO.free 9;have wJ:w6.cell? ⟨V.heap.size,10,none⟩=some (.int .i64 0):=aO.cell 10;have rH:=aO.free 10;clear aO zw g8 jo;refine hK.out _ _ (Nq.out w6 oq.out) fun hHeld=>?_;clear hK K;(try simp only[pS]);refine bD [13,14] ?_;iterate 2 (refine iZ ?_;try simp only[pS])
   refine bE ?_;refine bL 16 fun K hK=>?_;go_simp;(try rw[hw8]);refine hK.out _ _ (Nq.out w8 jW.out.2.2.1) fun hHeld=>?_;clear hK K;(try simp only[pS]);refine fB ?_;exact uR _ _ (Met.intro (hJ0 _ _ ⟨_,_,_,_,_,_,_,_,_,_,_,_,_,_,_,_,_,_,_,_,_,_,_,_,_,_,_,_,_,_,_,_,_,_,_,_,_,_,_,_,_,_,_,_,_,_,_,_,_,_,_,_,_,_,_,_,_,_,_,_,_,_,_,_,_,_,_,_,_,_,_,_,_,_,_,_,⟨_,rfl,jW.out⟩,rfl⟩))
 case rest=>
  obtain⟨X,rfl,hX,Vf,hbc,hRS⟩:=hcut;obtain⟨W,hW⟩:∃ W,wc.drew=W:=⟨_,rfl⟩
  have hbd:Below wc.heap.size wc W:=mJ hW;have ru:=hbc.trans (hbd.mono hbc.size);obtain⟨kd,k3⟩:=Nq.out W ru;have kf:=(HM.out W ru).fz (i*7+3);obtain⟨tV,xH⟩:=(HM.out W ru).put (j:=3) (v:=.string (ji (f i).data I C v)) hi (by omega) (fun n=>{ n with data:=ji (f i).data I C v }) rfl ⟨rfl,rfl,rfl,rfl⟩;rw[rZ.out.1] at tV xH;obtain⟨w9,wu⟩:∃ w9,W.setCell ⟨g,i*7+3,none⟩ (.string (J1++rv++J2))=w9:=⟨_,rfl⟩
  rw[wu] at tV xH;have Ri:=hX.below hbd hX.lt;have fH:Whole w9 X #[.int .i64 4,.int .i64 (i:Int),.int .i64 (-1),.int .i64 (-1),.int .i64 (-1),.int .i64 (I:Int),.string ⟨#[]⟩,.string (f i).data,.bool false,.int .i64 (cc:Int),.int .i64 (rl:Int)] 147:=by rw[←wu];exact Ri.other (by show X≠g;omega) _
  have Wp:=hRS.below hbd;have HJ:=zh (HJN.out W Ap cp Wp);have k9:w9.cell? ⟨M,0,none⟩=some (.slice (some ⟨g,0,none⟩) m c):=tV.cell.1;have AQ:w.heap.size≤w9.heap.size:=Nat.le_trans ru.size xH.1.size;have qd:=(Below.refl _ w9).alloc (Nat.le_refl _) (.cells #[.int .i64 4,.int .i64 (i:Int),.int .i64 (-1),.int .i64 (-1),.int .i64 (-1),.int .i64 (I:Int),.string ⟨#[]⟩,.string (f i).data,.bool false,.int .i64 (cc:Int),.int .i64 (rl:Int)] 147);have bf:=zh (And.intro (nQ w9 (pF i I (f i).data (cc:Int) (rl:Int)) w.heap.size AQ) (And.intro (tV.below qd) (((ay.of_below ru).trans xH).trans (.of_below qd))));have hwr:IntKind.i64.wrap ((I:Int)+(cc:Int))=(I:Int)+(cc:Int):=by rw[IntKind.wrap_i64];omega
  have u6:¬ 9223372036854775807<J1.size+rv.size+J2.size:=by omega
  have u7:¬ 9223372036854775807<J1.size+rv.size:=by omega
  have z0:w9.cell? ⟨X,0,none⟩=some (.int .i64 4):=fH.cell 0;have z1:w9.cell? ⟨X,1,none⟩=some (.int .i64 (i:Int)):=fH.cell 1;have z2:w9.cell? ⟨X,2,none⟩=some (.int .i64 (-1)):=fH.cell 2;have z3:w9.cell? ⟨X,3,none⟩=some (.int .i64 (-1)):=fH.cell 3;have z4:w9.cell? ⟨X,4,none⟩=some (.int .i64 (-1)):=fH.cell 4;have z5:w9.cell? ⟨X,5,none⟩=some (.int .i64 (I:Int)):=fH.cell 5;have z6:w9.cell? ⟨X,6,none⟩=some (.string ⟨#[]⟩):=fH.cell 6;have z7:w9.cell? ⟨X,7,none⟩=some (.string (f i).data):=fH.cell 7;have z8:w9.cell? ⟨X,8,none⟩=some (.bool false):=fH.cell 8;have z9:w9.cell? ⟨X,9,none⟩=some (.int .i64 (cc:Int)):=fH.cell 9;have VI:w9.cell? ⟨X,10,none⟩=some (.int .i64 (rl:Int)):=fH.cell 10;clear hX fH Ri qd hbc ru hbd tV xH hRS Wp Wn Tc Wo;go_wp2_with fail;refine wp_region_noPanic ?_;refine wp_region_held_drew (S:=(fun W=>W.cell? ⟨M,0,none⟩=some (.slice (some ⟨g,0,none⟩) m c))) (by kernel_rfl) ?_ (fun hHeld=>?_)
  ·exact (by rw[hW];exact kd)
  rw[hW] at hHeld ⊢;refine bD [0,1,2,3,4,5,6,8,10,11,12,13,14,15] ?_;iterate 14 (refine iZ ?_;try simp only[pS])
  refine bE ?_;refine bL 7 fun K hK=>?_;go_simp;refine HJ.out.1.mono ?_;rintro e w7 ⟨rfl,rfl⟩;refine hK.out _ _ (kd) fun hHeld=>?_;clear hK K;(try simp only[pS]);refine bD [9] ?_
  (refine iZ ?_;try simp only[pS])
  refine bE ?_;refine bL 16 fun K hK=>?_;go_simp;refine HJ.out.2.mono ?_;rintro e w7 ⟨rfl,rfl⟩;refine hK.out _ _ (kd) fun hHeld=>?_;clear hK K;(try simp only[pS]);refine bD [17,18,19] ?_;iterate 3 (refine iZ ?_;try simp only[pS])
  refine bE ?_;refine bL 20 fun K hK=>?_;go_simp;(try rw[wu]);refine hK.out _ _ (k9) fun hHeld=>?_;clear hK K;(try simp only[pS]);refine fB ?_;go_wp2_with fail;go_ret2;obtain⟨e1,e2,e3⟩:=bf.out;rw[rZ.out.1,rZ.out.2.2.1,rZ.out.2.2.2,rZ.out.2.1];exact⟨_,rfl,e1,e2,e3⟩
end
end Go.Proofs.YtnbaadpgbcklaaaGreatDoor
