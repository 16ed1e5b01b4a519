/- Part of a proof about trees: NRrp. -/
import Derived.Sort.CutIn
import Derived.Test.YtaigmpkcdjbpiaaGreatDoorGNRpk
import Derived.Test.YtaigmpkcdjbpiaaGreatDoorGNRsa
set_option linter.unusedVariables false
set_option linter.unusedSimpArgs false
set_option linter.unusedSectionVars false
set_option maxHeartbeats 4000000
set_option maxRecDepth 100000
namespace Go.Proofs.YtaigmpkcdjbpiaaGreatDoor
section
open Go.RowKit
def dataRecM (i:Nat) (ix:Int) (old:ByteArray) (c sz:Int):Tr.Rec:=⟨4,i,-1,-1,-1,ix,⟨#[]⟩,old,false,c,sz⟩
theorem rreplace_not (base M m:Nat) (vs:Value) (f:Nat→RS) (i:Nat) (I C:Int) (v:ByteArray) (w:World) (h:MV base w M vs m f) (hi:i<m) (hk:(f i).kind<3):
  Calls Tryz.prog 47 #[.pointer (some ⟨M,0,none⟩),.int .i64 (i:Int),.int .i64 I,.int .i64 C,.string v] w fun e w'=>e=.returned (errV 10)∧w'=w:=by
 obtain⟨A,c,rfl⟩:=h.form;obtain⟨g,rfl,-⟩:=h.read hi;obtain⟨k0,c0,_⟩:=h.rd hi;have q1:(0:Int)≤(i:Int):=by omega
 have q2:(i:Int)<(m:Int):=by omega
 clear h
 go_enter Tryz.func47,Tryz.ntmps47
 go_wp2_with fail;go_ret2;exact⟨rfl,rfl⟩
theorem rreplace_range (base M m:Nat) (vs:Value) (f:Nat→RS) (i:Nat) (I C:Int) (v:ByteArray) (w:World) (h:MV base w M vs m f) (hi:i<m) (hk:3≤(f i).kind) (hd:Txt.rep (f i).data.data.toList=(f i).data.data.toList) (hz:(f i).data.size≤8000) (hr:I<0∨((chk (f i).data).length:Int)<I∨C<0):
  Calls Tryz.prog 47 #[.pointer (some ⟨M,0,none⟩),.int .i64 (i:Int),.int .i64 I,.int .i64 C,.string v] w fun e w'=>e=.returned (errV 2)∧Below w.heap.size w w':=by
 obtain⟨A,c,rfl⟩:=h.form;obtain⟨g,rfl,-⟩:=h.read hi;obtain⟨k0,c0,-,-,c3,-⟩:=h.rd hi;have q1:(0:Int)≤(i:Int):=by omega
 have q2:(i:Int)<(m:Int):=by omega
 have q3:¬ (f i).kind<3:=by omega
 have hgood:=Txt.chunks_all_good (f i).data.data.toList;have hflat:=chk_rep hd;have hfl:(chk (f i).data).flatten.length=(f i).data.size:=by rw[←hflat];rfl
 obtain⟨cs,hcs⟩:∃ cs,chk (f i).data=cs:=⟨_,rfl⟩
 have hll:cs.length≤(f i).data.size:=by rw[←hcs];exact chk_len _
 have HP:=zh (fun W=>rpoints_any (f i).data cs W (by omega) (by rw[←hcs];exact hgood) (by rw[←hcs];exact hflat));rw[hcs] at hr;obtain⟨len,hlen⟩:∃ len,cs.length=len:=⟨_,rfl⟩
 rw[hlen] at hr;have HL:=zh hlen;have HRR:=zh hr;clear h hd hk hfl hflat hgood hcs hlen hll hr
 go_enter Tryz.func47,Tryz.ntmps47
 go_wp2_with fail;refine (HP.out w).mono ?_;rintro e w1 ⟨vp,rfl,hrow,hb1⟩;obtain⟨Ap,cp,rfl,-⟩:=rowS_own hrow;rw[HL.out];have HB:=zh hb1;clear hrow hb1 HP;by_cases h0:I<0
 ·go_wp2_with fail;go_ret2;exact⟨rfl,HB.out⟩
 ·by_cases h1:(len:Int)<I
  ·go_wp2_with fail;go_ret2;exact⟨rfl,HB.out⟩
  ·have h2:C<0:=by rcases HRR.out with h | h | h;exact absurd h h0;exact absurd h h1;exact h
   go_wp2_with fail;go_ret2;exact⟨rfl,HB.out⟩
def PR (w:World) (v:Value) (cs:List (List UInt8)):Prop:=TR w 0 9 1 v cs.length (scells cs)
theorem PR.rowS {w:World} {A:Option Addr} {n c:Nat} {cs:List (List UInt8)} (h:PR w (.slice A n c) cs):RowS w A cs:=by
 intro i hi;obtain⟨A',c',e⟩:=TR.form h;injection e with e1 e2 e3;subst e1 e2 e3;obtain⟨g,o,hA,_,_,hc,_⟩:=TR.cells h (by omega);have hcl:=hc i (.string (tstr (cs.getD i []))) (by omega) (by simp[scells,List.getD,hi]);exact⟨g,o,hA,World.block_lt_of_cell? w _ hcl,hcl⟩
theorem PR.grown {w w':World} {v:Value} {cs:List (List UInt8)} {X:Nat} {z:Array Value} (h:PR w v cs) (g:w.grownBy w' (some X)) (hX:Whole w X z 137):PR w' v cs:=TR.kept h g (.inr (TR.unlike h hX (by decide)))
theorem PR.below {w w':World} {v:Value} {cs:List (List UInt8)} (h:PR w v cs) (hb:Below w.heap.size w w'):PR w' v cs:=TR.below h hb
theorem rreplace_ok (base M m:Nat) (vs:Value) (f:Nat→RS) (i:Nat) (I C:Nat) (v:ByteArray) (w:World) (h:MV base w M vs m f) (hi:i<m) (hk:3≤(f i).kind) (hd:Txt.rep (f i).data.data.toList=(f i).data.data.toList) (hz:(f i).data.size≤8000) (hI:I≤(chk (f i).data).length) (hC:C≤2000000) (hv:v.size≤8000) (hrv:(repB v).size≤10000):
  Calls Tryz.prog 47 #[.pointer (some ⟨M,0,none⟩),.int .i64 (i:Int),.int .i64 (I:Int),.int .i64 (C:Int),.string v] w fun e w'=>∃ r,e=.returned (.tuple #[r,.int .i64 0])∧RRow w.heap.size w' r [dataRecM i I (f i).data ((min C ((chk (f i).data).length - I):Nat):Int) ((chk (repB v)).length:Nat)]∧
   MV base w' M vs m (updM f i fun n=>{ n with data:=repD (f i).data I C v })∧AStep w w' (MFoot M vs m f) (MFoot M vs m (updM f i fun n=>{ n with data:=repD (f i).data I C v })):=by
 obtain⟨A,c,rfl⟩:=h.form;obtain⟨g,rfl,-⟩:=h.read hi;obtain⟨k0,c0,-,-,c3,-⟩:=h.rd hi;have q1:(0:Int)≤(i:Int):=by omega
 have q2:(i:Int)<(m:Int):=by omega
 have q3:¬ (f i).kind<3:=by omega
 have hgood:=Txt.chunks_all_good (f i).data.data.toList;have hflat:=chk_rep hd;have hfl:(chk (f i).data).flatten.length=(f i).data.size:=by rw[←hflat];rfl
 obtain⟨cs,hcs⟩:∃ cs,chk (f i).data=cs:=⟨_,rfl⟩
 have hll:cs.length≤(f i).data.size:=by rw[←hcs];exact chk_len _
 have HP:=zh (fun W=>rpoints_any (f i).data cs W (by omega) (by rw[←hcs];exact hgood) (by rw[←hcs];exact hflat));obtain⟨len,hlen⟩:∃ len,cs.length=len:=⟨_,rfl⟩
 obtain⟨cc,hcc⟩:∃ cc,min C (len - I)=cc:=⟨_,rfl⟩
 rw[hcs,hlen] at hI;have hmin:min (C:Int) ((len:Int) - (I:Int))=(cc:Int):=by omega
 obtain⟨rv,hrvd⟩:∃ rv,repB v=rv:=⟨_,rfl⟩
 rw[hrvd] at hrv;have HR:=zh (fun W=>rrepair_any v W (by omega));rw[show tstr (Txt.rep v.data.toList)=rv from hrvd] at HR;have hrr:Txt.rep rv.data.toList=rv.data.toList:=by rw[←hrvd];exact Txt.rep_rep _
 obtain⟨rl,hrl⟩:∃ rl,(chk rv).length=rl:=⟨_,rfl⟩
 have HLR:=zh (fun W=>rpoints_any rv (chk rv) W (by omega) (Txt.chunks_all_good _) (chk_rep hrr));obtain⟨J1,hJ1⟩:∃ x,tstr (seg cs 0 I).flatten=x:=⟨_,rfl⟩
 obtain⟨J2,hJ2⟩:∃ x,tstr (seg cs (I+cc) len).flatten=x:=⟨_,rfl⟩
 have hcl:cs.flatten.length=(f i).data.size:=by rw[←hcs];exact hfl
 have hz1:J1.size≤8000:=by rw[←hJ1,tstr_size];have:=seg_len cs 0 I;omega
 have hz2:J2.size≤8000:=by rw[←hJ2,tstr_size];have:=seg_len cs (I+cc) len;omega
 have hnew:repD (f i).data I C v=J1++rv++J2:=by
  unfold repD;rw[←hJ1,←hJ2,hcs,hrvd,←tstr_append,←tstr_append,tstr_of];congr 1
  ·unfold seg;rw[←hlen,List.take_length];by_cases h:C≤len - I
   ·rw[show cc=C by omega]
   ·rw[List.drop_of_length_le (by omega),List.drop_of_length_le (by omega)]
 have HNEW:=zh (And.intro hnew (And.intro (show (chk (repB v)).length=rl by rw[hrvd];exact hrl) (And.intro (show (chk (f i).data).length=len by rw[hcs];exact hlen) hcc)));have HJN:=zh (fun (W:World) (Ap:Option Addr) (cp:Nat) (hA:PR W (.slice Ap len cp) cs)=>And.intro (rjoin_any Ap cp cs 0 (I:Int) W hA.rowS (by omega) (by omega) (by omega)) (rjoin_any Ap cp cs ((I:Int)+(cc:Int)) (len:Int) W hA.rowS (by omega) (by omega) (by omega)));rw[show ((I:Int)).toNat=I by omega,show ((0:Int)).toNat=0 by omega,show ((I:Int)+(cc:Int)).toNat=I+cc by omega,show ((len:Int)).toNat=len by omega,hJ1,hJ2,hlen] at HJN;have HM:=zh (fun (W:World) (hb:Below w.heap.size w W)=>h.below hb);have hgl:g<w.heap.size:=(h.row.lt g rfl).2;have HCS:=zh (fun (W:World) (hb:Below w.heap.size w W)=>(show W.cell? ⟨M,0,none⟩=some (.slice (some ⟨g,0,none⟩) m c)∧W.cell? ⟨g,i*7+3,none⟩=some (.string (f i).data) from⟨((h.below hb).rd hi).1,((h.below hb).rd hi).2.2.2.2.1⟩));have HLL:=zh hlen;have HRL:=zh hrl;have hlen8:len≤8000:=by omega
 have hcc8:cc≤8000:=by omega
 have r0:¬ (I:Int)<0:=by omega
 have r1:¬ (len:Int)<(I:Int):=by omega
 have r2:¬ (C:Int)<0:=by omega
 clear h hd hk hfl hflat hgood hcs hlen hcl hrr hrvd hcc hJ1 hJ2 hnew hrl
 go_enter Tryz.func47,Tryz.ntmps47
 go_wp2_with fail;refine (HP.out w).mono ?_;rintro e w1 ⟨vp,rfl,hrow,hb1⟩;have hRS:PR w1 vp cs:=(TR.of_own hrow).zero;obtain⟨Ap,cp,rfl⟩:=TR.form hRS;rw[HLL.out] at hRS ⊢;have HB1:=zh hb1;have HRS:=zh hRS;obtain⟨a1,a3⟩:=HCS.out w1 hb1;clear hrow hRS hb1 HP k0 c0 c3;go_wp2_with fail;refine (HR.out w1).mono ?_;rintro e w2 ⟨rfl,hb2⟩;have HB2:=zh (HB1.out.trans (hb2.mono HB1.out.size));have HRS2:=zh (HRS.out.below hb2);clear hb2 HR a1 a3 HRS;go_wp2_with fail;obtain⟨V,hV⟩:∃ V,w2.drew=V:=⟨_,rfl⟩
 have hVB:Below w2.heap.size w2 V:=bzD hV;have HBV:=zh (HB2.out.trans (hVB.mono HB2.out.size));obtain⟨X1,hX1⟩:∃ X1,V.alloc (.cells #[.int .i64 0,.int .i64 0,.int .i64 0,.int .i64 0,.int .i64 0,.int .i64 0,.string ⟨#[]⟩,.string ⟨#[]⟩,.bool false,.int .i64 0,.int .i64 0] 137)=X1:=⟨_,rfl⟩
 have hXB:Below V.heap.size V X1:=bzA hX1;have HBX:=zh (HBV.out.trans (hXB.mono HBV.out.size));have HWX:Hid (Whole X1 V.heap.size #[.int .i64 0,.int .i64 0,.int .i64 0,.int .i64 0,.int .i64 0,.int .i64 0,.string ⟨#[]⟩,.string ⟨#[]⟩,.bool false,.int .i64 0,.int .i64 0] 137):=zh (by rw[←hX1];exact Whole.new V _ _);have HRSV:=zh (HRS2.out.below hVB);have HRSX:=zh (HRSV.out.below hXB);clear hVB hXB
 go_cut [13] from 13 (fun u wc=>∃ X,u=.pointer (some ⟨X,0,none⟩)∧Whole wc X #[.int .i64 4,.int .i64 (i:Int),.int .i64 (-1),.int .i64 (-1),.int .i64 (-1),.int .i64 (I:Int),.string ⟨#[]⟩,.string (f i).data,.bool false,.int .i64 (cc:Int),.int .i64 (rl:Int)] 137∧w.heap.size≤X∧Below w.heap.size w wc∧PR wc (.slice Ap len cp) cs)
 case first=>
  rename_i J0 K0 hJ0 hK0;refine wp_region_noPanic ?_;refine wp_region_held_drew (S:=(fun W=>W.cell? ⟨M,0,none⟩=some (.slice (some ⟨g,0,none⟩) m c)∧W.cell? ⟨g,i*7+3,none⟩=some (.string (f i).data))) (by kernel_rfl) ?_ (fun hHeld=>?_)
  ·exact (by rw[hV];exact HCS.out V HBV.out)
  rw[hV] at hHeld ⊢;refine agE [0,1,2,3,4,5,6,7,8,9,10,11] ?_;iterate 12 (refine tkA ?_;try simp only[pS])
  refine agN ?_;refine wpAnyH_ready (rs:=[12,15]) (by kernel_rfl) (by simp) ?_;refine AllReadyH.cons rfl (fun K hK=>?_) (AllReadyH.cons rfl (fun K hK=>?_) AllReadyH.nil)
  ·go_simp;refine (HLR.out V).mono ?_;rintro e w6 ⟨v6,rfl,hr6,hb6⟩;obtain⟨A6,c6,rfl,-⟩:=rowS_own hr6;rw[HRL.out];have HB6:=zh (HBV.out.trans (hb6.mono HBV.out.size));have HRS6:=zh (HRSV.out.below hb6);clear hr6;clear hb6;refine hK.out _ _ (HCS.out w6 HB6.out) fun hHeld=>?_;clear hK K;(try simp only[pS]);refine agE [13,14] ?_;iterate 2 (refine tkA ?_;try simp only[pS])
   refine agN ?_;refine rd1 15 fun K hK=>?_;go_simp;obtain⟨w7,hw7⟩:∃ w7,w6.alloc (.cells #[.int .i64 0,.int .i64 0,.int .i64 0,.int .i64 0,.int .i64 0,.int .i64 0,.string ⟨#[]⟩,.string ⟨#[]⟩,.bool false,.int .i64 0,.int .i64 0] 137)=w7:=⟨_,rfl⟩
   have hX7:Whole w7 w6.heap.size #[.int .i64 0,.int .i64 0,.int .i64 0,.int .i64 0,.int .i64 0,.int .i64 0,.string ⟨#[]⟩,.string ⟨#[]⟩,.bool false,.int .i64 0,.int .i64 0] 137:=by rw[←hw7];exact Whole.new w6 _ _
   have hb7:Below w6.heap.size w6 w7:=bzA hw7;have hs6:=HB6.out.size;have HB7:=zh (HB6.out.trans (hb7.mono HB6.out.size));have HRS7:=zh (HRS6.out.below hb7);(try rw[hw7]);obtain⟨w8,hw8,hX8,g8⟩:=box11 hX7 (.int .i64 4) (.int .i64 (i:Int)) (.int .i64 (-1)) (.int .i64 (-1)) (.int .i64 (-1)) (.int .i64 (I:Int)) (.string ⟨#[]⟩) (.string (f i).data) (.bool false) (.int .i64 (cc:Int)) (.int .i64 (rl:Int));have hb8:=(HB7.out).grown g8 (HB7.out).size (fun j hj=>by injection hj with hj;omega);have HX8:=zh (And.intro hX8 (And.intro (show w.heap.size≤w6.heap.size by omega) (And.intro hb8 (HRS7.out.grown g8 hX7))));have y0:w7.cell? ⟨w6.heap.size,0,none⟩=some (.int .i64 0):=hX7.cell 0;have yf0:=hX7.free 0;have y1:w7.cell? ⟨w6.heap.size,1,none⟩=some (.int .i64 0):=hX7.cell 1;have yf1:=hX7.free 1;have y2:w7.cell? ⟨w6.heap.size,2,none⟩=some (.int .i64 0):=hX7.cell 2;have yf2:=hX7.free 2;have y3:w7.cell? ⟨w6.heap.size,3,none⟩=some (.int .i64 0):=hX7.cell 3;have yf3:=hX7.free 3;have y4:w7.cell? ⟨w6.heap.size,4,none⟩=some (.int .i64 0):=hX7.cell 4;have yf4:=hX7.free 4;have y5:w7.cell? ⟨w6.heap.size,5,none⟩=some (.int .i64 0):=hX7.cell 5;have yf5:=hX7.free 5;have y6:w7.cell? ⟨w6.heap.size,6,none⟩=some (.string ⟨#[]⟩):=hX7.cell 6;have yf6:=hX7.free 6;have y7:w7.cell? ⟨w6.heap.size,7,none⟩=some (.string ⟨#[]⟩):=hX7.cell 7;have yf7:=hX7.free 7;have y8:w7.cell? ⟨w6.heap.size,8,none⟩=some (.bool false):=hX7.cell 8;have yf8:=hX7.free 8;have y9:w7.cell? ⟨w6.heap.size,9,none⟩=some (.int .i64 0):=hX7.cell 9;have yf9:=hX7.free 9;have y10:w7.cell? ⟨w6.heap.size,10,none⟩=some (.int .i64 0):=hX7.cell 10;have yf10:=hX7.free 10;clear hX7 hX8 g8 hb8;clear hb7;refine hK.out _ _ (HCS.out w7 HB7.out) fun hHeld=>?_;clear hK K;(try simp only[pS]);refine rd1 16 fun K hK=>?_;go_simp;(try rw[hw8]);refine hK.out _ _ (HCS.out w8 HX8.out.2.2.1) fun hHeld=>?_;clear hK K;(try simp only[pS]);refine dnH ?_;exact hK0 _ _ (Met.intro (hJ0 _ _ ⟨_,_,_,_,_,_,_,_,_,_,_,_,_,_,_,_,_,_,_,_,_,_,_,_,_,_,_,_,_,_,_,_,_,_,_,_,_,_,_,_,_,_,_,_,_,_,_,_,_,_,_,_,_,_,_,_,_,_,_,_,_,_,_,_,_,_,_,_,_,_,_,_,_,_,_,_,⟨_,rfl,HX8.out⟩,rfl⟩))
  ·go_simp;(try rw[hX1]);refine hK.out _ _ (HCS.out X1 HBX.out) fun hHeld=>?_;clear hK K;(try simp only[pS]);refine rd1 12 fun K hK=>?_;go_simp;refine (HLR.out X1).mono ?_;rintro e w6 ⟨v6,rfl,hr6,hb6⟩;obtain⟨A6,c6,rfl,-⟩:=rowS_own hr6;rw[HRL.out];have HB6:=zh (HBX.out.trans (hb6.mono HBX.out.size));have HRS6:=zh (HRSX.out.below hb6);clear hr6;have hX7:=HWX.out.below hb6 HWX.out.lt;have hs6:=HBV.out.size;clear hb6;obtain⟨w8,hw8,hX8,g8⟩:=box11 hX7 (.int .i64 4) (.int .i64 (i:Int)) (.int .i64 (-1)) (.int .i64 (-1)) (.int .i64 (-1)) (.int .i64 (I:Int)) (.string ⟨#[]⟩) (.string (f i).data) (.bool false) (.int .i64 (cc:Int)) (.int .i64 (rl:Int));have hb8:=(HB6.out).grown g8 (HB6.out).size (fun j hj=>by injection hj with hj;omega);have HX8:=zh (And.intro hX8 (And.intro (show w.heap.size≤V.heap.size by omega) (And.intro hb8 (HRS6.out.grown g8 hX7))));have y0:w6.cell? ⟨V.heap.size,0,none⟩=some (.int .i64 0):=hX7.cell 0;have yf0:=hX7.free 0;have y1:w6.cell? ⟨V.heap.size,1,none⟩=some (.int .i64 0):=hX7.cell 1;have yf1:=hX7.free 1;have y2:w6.cell? ⟨V.heap.size,2,none⟩=some (.int .i64 0):=hX7.cell 2;have yf2:=hX7.free 2;have y3:w6.cell? ⟨V.heap.size,3,none⟩=some (.int .i64 0):=hX7.cell 3;have yf3:=hX7.free 3;have y4:w6.cell? ⟨V.heap.size,4,none⟩=some (.int .i64 0):=hX7.cell 4;have yf4:=hX7.free 4;have y5:w6.cell? ⟨V.heap.size,5,none⟩=some (.int .i64 0):=hX7.cell 5;have yf5:=hX7.free 5;have y6:w6.cell? ⟨V.heap.size,6,none⟩=some (.string ⟨#[]⟩):=hX7.cell 6;have yf6:=hX7.free 6;have y7:w6.cell? ⟨V.heap.size,7,none⟩=some (.string ⟨#[]⟩):=hX7.cell 7;have yf7:=hX7.free 7;have y8:w6.cell? ⟨V.heap.size,8,none⟩=some (.bool false):=hX7.cell 8;have yf8:=hX7.free 8;have y9:w6.cell? ⟨V.heap.size,9,none⟩=some (.int .i64 0):=hX7.cell 9;have yf9:=hX7.free 9;have y10:w6.cell? ⟨V.heap.size,10,none⟩=some (.int .i64 0):=hX7.cell 10;have yf10:=hX7.free 10;clear hX7 hX8 g8 hb8;refine hK.out _ _ (HCS.out w6 HB6.out) fun hHeld=>?_;clear hK K;(try simp only[pS]);refine agE [13,14] ?_;iterate 2 (refine tkA ?_;try simp only[pS])
   refine agN ?_;refine rd1 16 fun K hK=>?_;go_simp;(try rw[hw8]);refine hK.out _ _ (HCS.out w8 HX8.out.2.2.1) fun hHeld=>?_;clear hK K;(try simp only[pS]);refine dnH ?_;exact hK0 _ _ (Met.intro (hJ0 _ _ ⟨_,_,_,_,_,_,_,_,_,_,_,_,_,_,_,_,_,_,_,_,_,_,_,_,_,_,_,_,_,_,_,_,_,_,_,_,_,_,_,_,_,_,_,_,_,_,_,_,_,_,_,_,_,_,_,_,_,_,_,_,_,_,_,_,_,_,_,_,_,_,_,_,_,_,_,_,⟨_,rfl,HX8.out⟩,rfl⟩))
 case rest=>
  obtain⟨X,rfl,hX,hXw,hbc,hRS⟩:=hcut;obtain⟨W,hW⟩:∃ W,wc.drew=W:=⟨_,rfl⟩
  have hbd:Below wc.heap.size wc W:=bzD hW;have hbcd:=hbc.trans (hbd.mono hbc.size);obtain⟨kd,k3⟩:=HCS.out W hbcd;have kf:=(HM.out W hbcd).fz (i*7+3);obtain⟨hm9,st9⟩:=(HM.out W hbcd).put (j:=3) (v:=.string (repD (f i).data I C v)) hi (by omega) (fun n=>{ n with data:=repD (f i).data I C v }) rfl ⟨rfl,rfl,rfl,rfl⟩;rw[HNEW.out.1] at hm9 st9;obtain⟨w9,hw9⟩:∃ w9,W.setCell ⟨g,i*7+3,none⟩ (.string (J1++rv++J2))=w9:=⟨_,rfl⟩
  rw[hw9] at hm9 st9;have hXd:=hX.below hbd hX.lt;have hX9:Whole w9 X #[.int .i64 4,.int .i64 (i:Int),.int .i64 (-1),.int .i64 (-1),.int .i64 (-1),.int .i64 (I:Int),.string ⟨#[]⟩,.string (f i).data,.bool false,.int .i64 (cc:Int),.int .i64 (rl:Int)] 137:=by rw[←hw9];exact hXd.other (by show X≠g;omega) _
  have hRSd:=hRS.below hbd;have HJ:=zh (HJN.out W Ap cp hRSd);have k9:w9.cell? ⟨M,0,none⟩=some (.slice (some ⟨g,0,none⟩) m c):=hm9.cell.1;have hsz9:w.heap.size≤w9.heap.size:=Nat.le_trans hbcd.size st9.1.size;have hBA:=(Below.refl _ w9).alloc (Nat.le_refl _) (.cells #[.int .i64 4,.int .i64 (i:Int),.int .i64 (-1),.int .i64 (-1),.int .i64 (-1),.int .i64 (I:Int),.string ⟨#[]⟩,.string (f i).data,.bool false,.int .i64 (cc:Int),.int .i64 (rl:Int)] 137);have HFIN:=zh (And.intro (rrow_one w9 (dataRecM i I (f i).data (cc:Int) (rl:Int)) w.heap.size hsz9) (And.intro (hm9.below hBA) (((AStep.of_below hbcd).trans st9).trans (.of_below hBA))));have hwr:IntKind.i64.wrap ((I:Int)+(cc:Int))=(I:Int)+(cc:Int):=by rw[IntKind.wrap_i64];omega
  have u6:¬ 9223372036854775807<J1.size+rv.size+J2.size:=by omega
  have u7:¬ 9223372036854775807<J1.size+rv.size:=by omega
  have z0:w9.cell? ⟨X,0,none⟩=some (.int .i64 4):=hX9.cell 0;have z1:w9.cell? ⟨X,1,none⟩=some (.int .i64 (i:Int)):=hX9.cell 1;have z2:w9.cell? ⟨X,2,none⟩=some (.int .i64 (-1)):=hX9.cell 2;have z3:w9.cell? ⟨X,3,none⟩=some (.int .i64 (-1)):=hX9.cell 3;have z4:w9.cell? ⟨X,4,none⟩=some (.int .i64 (-1)):=hX9.cell 4;have z5:w9.cell? ⟨X,5,none⟩=some (.int .i64 (I:Int)):=hX9.cell 5;have z6:w9.cell? ⟨X,6,none⟩=some (.string ⟨#[]⟩):=hX9.cell 6;have z7:w9.cell? ⟨X,7,none⟩=some (.string (f i).data):=hX9.cell 7;have z8:w9.cell? ⟨X,8,none⟩=some (.bool false):=hX9.cell 8;have z9:w9.cell? ⟨X,9,none⟩=some (.int .i64 (cc:Int)):=hX9.cell 9;have z10:w9.cell? ⟨X,10,none⟩=some (.int .i64 (rl:Int)):=hX9.cell 10;clear hX hX9 hXd hBA hbc hbcd hbd hm9 st9 hRS hRSd HRS2 HRSV HRSX;go_wp2_with fail;refine wp_region_noPanic ?_;refine wp_region_held_drew (S:=(fun W=>W.cell? ⟨M,0,none⟩=some (.slice (some ⟨g,0,none⟩) m c))) (by kernel_rfl) ?_ (fun hHeld=>?_)
  ·exact (by rw[hW];exact kd)
  rw[hW] at hHeld ⊢;refine agE [0,1,2,3,4,5,6,8,10,11,12,13,14,15] ?_;iterate 14 (refine tkA ?_;try simp only[pS])
  refine agN ?_;refine rd1 7 fun K hK=>?_;go_simp;refine HJ.out.1.mono ?_;rintro e w7 ⟨rfl,rfl⟩;refine hK.out _ _ (kd) fun hHeld=>?_;clear hK K;(try simp only[pS]);refine agE [9] ?_
  (refine tkA ?_;try simp only[pS])
  refine agN ?_;refine rd1 16 fun K hK=>?_;go_simp;refine HJ.out.2.mono ?_;rintro e w7 ⟨rfl,rfl⟩;refine hK.out _ _ (kd) fun hHeld=>?_;clear hK K;(try simp only[pS]);refine agE [17,18,19] ?_;iterate 3 (refine tkA ?_;try simp only[pS])
  refine agN ?_;refine rd1 20 fun K hK=>?_;go_simp;(try rw[hw9]);refine hK.out _ _ (k9) fun hHeld=>?_;clear hK K;(try simp only[pS]);refine dnH ?_;go_wp2_with fail;go_ret2;obtain⟨e1,e2,e3⟩:=HFIN.out;rw[HNEW.out.1,HNEW.out.2.2.1,HNEW.out.2.2.2,HNEW.out.2.1];exact⟨_,rfl,e1,e2,e3⟩
end
end Go.Proofs.YtaigmpkcdjbpiaaGreatDoor
