/- Part of a proof about trees: NRpk. -/
import Derived.Test.YtnbaadpgbcklaaaGreatDoorS03
set_option linter.unusedVariables false
set_option linter.unusedSimpArgs false
set_option linter.unusedSectionVars false
set_option maxHeartbeats 4000000
set_option maxRecDepth 100000
namespace Go.Proofs.YtnbaadpgbcklaaaGreatDoor
section
open Go.RowKit
theorem qI (s:ByteArray) (i e:Nat):(s.extract i e).data.toList=(s.data.toList.drop i).take (e - i):=by
 rw[ByteArray.data_extract,Array.toList_extract,List.extract_eq_take_drop]
theorem extract_drop (s:ByteArray) (i:Nat):(s.extract i s.size).data.toList=s.data.toList.drop i:=by
 rw[qI,List.take_of_length_le];rw[List.length_drop];exact Nat.le_refl _
theorem FJ {d v:ByteArray} {I C cc st dl len:Nat} (iE:d.data.toList=(iK d).flatten) (hlen:(iK d).length=len) (hI:I≤len) (hcc:min C (len - I)=cc) (hst:jf (iK d) I=st) (hdl:jf ((iK d).drop I) cc=dl):ji d I C v=d.extract 0 st++aX v++d.extract (st+dl) d.size:=by
 have h1:(d.extract 0 st).data.toList=((iK d).take I).flatten:=by rw[qI,List.drop_zero,Nat.sub_zero,iE,←hst,KU]
 have h2:(d.extract (st+dl) d.size).data.toList=((iK d).drop (I+C)).flatten:=by
  rw[extract_drop,iE,←List.drop_drop,←hst,pV,←hdl,pV,List.drop_drop];by_cases h:C≤len - I
  ·rw[show cc=C by omega]
  ·rw[List.drop_of_length_le (by omega),List.drop_of_length_le (by omega)]
 unfold ji;rw[←h1,←h2,←lW,←lW,tJ,tJ,tJ]
theorem extract_size (s:ByteArray) (i e:Nat):(s.extract i e).size≤s.size:=by
 have h:(s.extract i e).size=(s.extract i e).data.toList.length:=rfl;rw[h,qI,List.length_take,List.length_drop];have:s.data.toList.length=s.size:=rfl;omega
theorem sQ {d:ByteArray} (h:bJ.rep d.data.toList=d.data.toList):d.data.toList=(iK d).flatten:=h.symm
theorem yD (d:ByteArray):(iK d).length≤d.size:=bJ.uK _
theorem CV (base B:Nat) (b s root h:Int) (I C:Nat) (live n:Nat) (g:Tr.G) (av:Int→Tr.Sl) (fr:List Nat) (vs vf:Value) (nd:Tr.GN) (v:ByteArray) (w:World) (hm:TV base w B b s vs n (Tr.raw g av) vf fr live root) (hS:Sound b s n (Tr.raw g av) fr live) (ha:AT w g av) (eg:g h=some nd) (hk:nd.kind=3) (hd:bJ.rep nd.data.data.toList=nd.data.data.toList) (hz:nd.data.size≤8000) (hI:I≤(iK nd.data).length) (hC:C≤2000000) (hv:v.size≤8000) (mQ:(aX v).size≤10000) (hT:Lit w):
  Calls Tryz.prog 22 #[.pointer (some ⟨B,0,none⟩),.int .i64 h,.int .i64 (I:Int),.int .i64 (C:Int),.string v] w fun e w'=>∃ r,e=.returned (.tuple #[r,.int .i64 0])∧bO w.heap.size w' r [sO h I nd.data ((min C ((iK nd.data).length - I):Nat):Int) ((iK (aX v)).length:Nat)]∧
   TV base w' B b s vs n (Tr.raw (Tr.dD g h fun n=>{ n with data:=ji nd.data I C v }) av) vf fr live root∧Sound b s n (Tr.raw (Tr.dD g h fun n=>{ n with data:=ji nd.data I C v }) av) fr live∧
   AT w' (Tr.dD g h fun n=>{ n with data:=ji nd.data I C v }) av∧ay w w' (aD B vs vf) (aD B vs vf):=by
 have hgood:=bJ.cO nd.data.data.toList;have iE:=sQ hd;have hfl:(iK nd.data).flatten.length=nd.data.size:=by rw[←iE];rfl
 obtain⟨len,hlen⟩:∃ len,(iK nd.data).length=len:=⟨_,rfl⟩
 have hll:len≤nd.data.size:=by rw[←hlen];exact yD _
 obtain⟨cc,hcc⟩:∃ cc,min C (len - I)=cc:=⟨_,rfl⟩
 have hmin:min (C:Int) ((len:Int) - (I:Int))=(cc:Int):=by omega
 obtain⟨st,hst⟩:∃ st,jf (iK nd.data) I=st:=⟨_,rfl⟩
 have ZO:st≤nd.data.size:=by rw[←hst,←hfl];exact tK _ _
 obtain⟨dl,hdl⟩:∃ dl,jf ((iK nd.data).drop I) cc=dl:=⟨_,rfl⟩
 have hdrop:(iK nd.data).flatten.drop st=((iK nd.data).drop I).flatten:=by rw[←hst];exact pV _ _
 have ZP:st+dl≤nd.data.size:=by
  have h1:=tK ((iK nd.data).drop I) cc;rw[hdl,←hdrop,List.length_drop,hfl] at h1;omega
 have HL:=zh (fun W=>rY nd.data W (by omega));rw[show (bJ.chunks nd.data.data.toList).length=len from hlen] at HL;have Np:=zh (fun W=>qJ nd.data (iK nd.data) I W (by omega) (by omega) hgood iE);rw[hst] at Np;have hsub:(nd.data.extract st nd.data.size).data.toList=((iK nd.data).drop I).flatten:=by rw[←hdrop,←iE];exact extract_drop _ _
 have FK:(nd.data.extract st nd.data.size).size≤20000:=by
  have:(nd.data.extract st nd.data.size).size=(nd.data.extract st nd.data.size).data.toList.length:=rfl;rw[this,hsub,←hdrop,List.length_drop,hfl];omega
 have S9:=zh (fun W=>qJ (nd.data.extract st nd.data.size) ((iK nd.data).drop I) cc W FK (by omega) (fun c hc=>hgood c (List.mem_of_mem_drop hc)) hsub);rw[hdl] at S9;obtain⟨rv,uf⟩:∃ rv,aX v=rv:=⟨_,rfl⟩
 rw[uf] at mQ;have HR:=zh (fun (W:World) (hT:Lit W)=>iq v W (by omega) hT);rw[show fJ (bJ.rep v.data.toList)=rv from uf] at HR;have O5:=zh (fun W=>rY rv W mQ);obtain⟨rl,hrl⟩:∃ rl,(bJ.chunks rv.data.toList).length=rl:=⟨_,rfl⟩
 rw[hrl] at O5;have hnew:ji nd.data I C v=nd.data.extract 0 st++rv++nd.data.extract (st+dl) nd.data.size:=by
  rw[←uf];exact FJ iE hlen (by omega) hcc hst hdl
 have rZ:=zh (And.intro hnew (And.intro (show (iK (aX v)).length=rl by rw[uf];exact hrl) (And.intro hlen hcc)));have HM:=zh (fun (W:World) (hb:Below w.heap.size w W)=>hm.below hb);have HA:=zh (fun (W:World) (hb:Below w.heap.size w W)=>ig base B b s root h live n _ fr vs vf _ W (hm.below hb) hS (Tr.ah eg));have HAT:=zh (fun (W:World) (hb:Below w.heap.size w W)=>(ha.below hb));have rC:=zh (fun (W:World) (hb:Below w.heap.size w W)=>hT.below hb);have Kh:=zh hm.lt;have gW:=zh hS;have qb:=zh eg;have q0:(nd.kind == 0)=false:=by simp[hk]
 have q3:(nd.kind != 3)=false:=by simp[hk]
 have r0:¬ (I:Int)<0:=by omega
 have r1:¬ (len:Int)<(I:Int):=by omega
 have r2:¬ (C:Int)<0:=by omega
 have r3:(0:Int)≤(st:Int):=by omega
 have r4:(st:Int)≤(nd.data.size:Int):=by omega
 clear hm hS ha hk hd hT hnew hrl hlen hgood iE hfl hsub FK hdrop hdl hst hcc
 go_enter Tryz.func22,Tryz.ntmps22
 go_wp2_with fail;refine (HA.out w (Below.refl _ w)).mono ?_;rintro e w1 ⟨gb,o,rfl,hpt,hb1⟩;obtain⟨t0,_,_,t3,_⟩:=((HM.out w1 hb1).np hpt (Tr.ah qb.out)).cells;have t0':w1.cell? ⟨gb,o,none⟩=some (.int .i64 nd.kind):=t0;have PL:w1.cell? ⟨gb,o+3,none⟩=some (.string nd.data):=t3;have HB1:=zh hb1;have yx:=zh hpt;clear t0 t3 hb1 hpt HA;have wz:=zh (fun (W:World) (hb:Below w.heap.size w W)=>(show W.cell? ⟨gb,o,none⟩=some (.int .i64 nd.kind)∧W.cell? ⟨gb,o+3,none⟩=some (.string nd.data) from⟨((HM.out W hb).np yx.out (Tr.ah qb.out)).cells.1,((HM.out W hb).np yx.out (Tr.ah qb.out)).cells.2.2.2.1⟩));go_wp2_with fail;refine (HL.out w1).mono ?_;rintro e w2 ⟨rfl,hb2⟩;have HB2:=zh (HB1.out.trans (hb2.mono HB1.out.size));obtain⟨t0,t3⟩:=wz.out w2 HB2.out;clear t0' PL hb2 HL;go_wp2_with fail;refine (Np.out w2).mono ?_;rintro e w3 ⟨rfl,hb3⟩;have HB3:=zh (HB2.out.trans (hb3.mono HB2.out.size));obtain⟨-,PL⟩:=wz.out w3 HB3.out;clear t0 t3 hb3 Np;go_wp2_with fail;refine (S9.out w3).mono ?_;rintro e w4 ⟨rfl,hb4⟩;have uG:=zh (HB3.out.trans (hb4.mono HB3.out.size));obtain⟨-,t3⟩:=wz.out w4 uG.out;clear PL hb4 S9;go_wp2_with fail;refine (HR.out w4 (rC.out w4 uG.out)).mono ?_;rintro e w5 ⟨rfl,hb5⟩;have mq:=zh (uG.out.trans (hb5.mono uG.out.size));obtain⟨-,PL⟩:=wz.out w5 mq.out;clear t3 hb5 HR;have u1:¬ (1048576:Int)<(nd.data.size:Int) - ((st:Int)+(dl:Int) - (st:Int))+(rv.size:Int):=by omega
 have u2:¬ (1048576:Int)<(nd.data.size:Int) - (dl:Int)+(rv.size:Int):=by omega
 go_wp2_with fail;obtain⟨V,hV⟩:∃ V,w5.drew=V:=⟨_,rfl⟩
 have oU:Below w5.heap.size w5 V:=mJ hV;have bZ:=zh (mq.out.trans (oU.mono mq.out.size));obtain⟨X1,hX1⟩:∃ X1,V.alloc (.cells #[.int .i64 0,.int .i64 0,.int .i64 0,.int .i64 0,.int .i64 0,.int .i64 0,.string ⟨#[]⟩,.string ⟨#[]⟩,.bool false,.int .i64 0,.int .i64 0] 48)=X1:=⟨_,rfl⟩
 have uQ:Below V.heap.size V X1:=eP hX1;have yj:=zh (bZ.out.trans (uQ.mono bZ.out.size));have OV:Hid (Whole X1 V.heap.size #[.int .i64 0,.int .i64 0,.int .i64 0,.int .i64 0,.int .i64 0,.int .i64 0,.string ⟨#[]⟩,.string ⟨#[]⟩,.bool false,.int .i64 0,.int .i64 0] 48):=zh (by rw[←hX1];exact Whole.new V _ _);have kV:=(wz.out V bZ.out).2;have kX:=(wz.out X1 yj.out).2;clear oU uQ
 go_cut [16] from 16 (fun u wc=>∃ X,u=.pointer (some ⟨X,0,none⟩)∧Whole wc X #[.int .i64 4,.int .i64 h,.int .i64 0,.int .i64 0,.int .i64 0,.int .i64 (I:Int),.string ⟨#[]⟩,.string nd.data,.bool false,.int .i64 (cc:Int),.int .i64 (rl:Int)] 48∧w.heap.size≤X∧Below w.heap.size w wc)
 case first=>
  rename_i J0 K0 hJ0 uR;refine wp_region_noPanic ?_;refine wp_region_held_drew (S:=(fun W=>W.cell? ⟨gb,o+3,none⟩=some (.string nd.data))) (by kernel_rfl) ?_ (fun hHeld=>?_)
  ·exact (by rw[hV];exact kV)
  rw[hV] at hHeld ⊢;refine bD [0,1,2,3,4,5,6,7] ?_;iterate 8 (refine iZ ?_;try simp only[pS])
  refine bE ?_;refine wpAnyH_ready (rs:=[8,10]) (by kernel_rfl) (by simp) ?_;refine AllReadyH.cons rfl (fun K hK=>?_) (AllReadyH.cons rfl (fun K hK=>?_) AllReadyH.nil)
  ·go_simp;refine (O5.out V).mono ?_;rintro e w6 ⟨rfl,hb6⟩;have oq:=zh (bZ.out.trans (hb6.mono bZ.out.size));have k6:=(wz.out w6 oq.out).2;clear hb6;refine hK.out _ _ (k6) fun hHeld=>?_;clear hK K;(try simp only[pS]);refine bD [9] ?_
   (refine iZ ?_;try simp only[pS])
   refine bE ?_;refine bL 10 fun K hK=>?_;go_simp;obtain⟨w7,hw7⟩:∃ w7,w6.alloc (.cells #[.int .i64 0,.int .i64 0,.int .i64 0,.int .i64 0,.int .i64 0,.int .i64 0,.string ⟨#[]⟩,.string ⟨#[]⟩,.bool false,.int .i64 0,.int .i64 0] 48)=w7:=⟨_,rfl⟩
   have aO:Whole w7 w6.heap.size #[.int .i64 0,.int .i64 0,.int .i64 0,.int .i64 0,.int .i64 0,.int .i64 0,.string ⟨#[]⟩,.string ⟨#[]⟩,.bool false,.int .i64 0,.int .i64 0] 48:=by rw[←hw7];exact Whole.new w6 _ _
   have lK:Below w6.heap.size w6 w7:=eP hw7;have hs6:=oq.out.size;have jm:=zh (oq.out.trans (lK.mono oq.out.size));have k7:=(wz.out w7 jm.out).2;(try rw[hw7]);obtain⟨w8,hw8,zw,g8⟩:=jZ aO (.int .i64 4) (.int .i64 h) (.int .i64 0) (.int .i64 0) (.int .i64 0) (.int .i64 (I:Int)) (.string ⟨#[]⟩) (.string nd.data) (.bool false) (.int .i64 (cc:Int)) (.int .i64 (rl:Int));have jo:=(jm.out).grown g8 (jm.out).size (fun j hj=>by injection hj with hj;omega);have k8:=(wz.out w8 jo).2;have jW:=zh (And.intro zw (And.intro (show w.heap.size≤w6.heap.size by omega) jo));have y0:w7.cell? ⟨w6.heap.size,0,none⟩=some (.int .i64 0):=aO.cell 0;have Cy:=aO.free 0;have y1:w7.cell? ⟨w6.heap.size,1,none⟩=some (.int .i64 0):=aO.cell 1;have Cz:=aO.free 1;have y2:w7.cell? ⟨w6.heap.size,2,none⟩=some (.int .i64 0):=aO.cell 2;have CB:=aO.free 2;have y3:w7.cell? ⟨w6.heap.size,3,none⟩=some (.int .i64 0):=aO.cell 3;have CF:=aO.free 3;have y4:w7.cell? ⟨w6.heap.size,4,none⟩=some (.int .i64 0):=aO.cell 4;have CG:=aO.free 4;have y5:w7.cell? ⟨w6.heap.size,5,none⟩=some (.int .i64 0):=aO.cell 5;have CJ:=aO.free 5;have y6:w7.cell? ⟨w6.heap.size,6,none⟩=some (.string ⟨#[]⟩):=aO.cell 6;have CK:=aO.free 6;have y7:w7.cell? ⟨w6.heap.size,7,none⟩=some (.string ⟨#[]⟩):=aO.cell 7;have CO:=aO.free 7;have y8:w7.cell? ⟨w6.heap.size,8,none⟩=some (.bool false):=aO.cell 8;have CP:=aO.free 8;have y9:w7.cell? ⟨w6.heap.size,9,none⟩=some (.int .i64 0):=aO.cell 9;have EA:=aO.free 9;have wJ:w7.cell? ⟨w6.heap.size,10,none⟩=some (.int .i64 0):=aO.cell 10;have rH:=aO.free 10;clear aO zw g8 jo;clear lK;refine hK.out _ _ (k7) fun hHeld=>?_;clear hK K;(try simp only[pS]);refine bL 11 fun K hK=>?_;go_simp;(try rw[hw8]);refine hK.out _ _ (k8) fun hHeld=>?_;clear hK K;(try simp only[pS]);refine fB ?_;exact uR _ _ (Met.intro (hJ0 _ _ ⟨_,_,_,_,_,_,_,_,_,_,_,_,_,_,_,_,_,_,_,_,_,_,_,_,_,_,_,_,_,_,_,_,_,_,_,_,_,_,_,_,_,_,_,_,_,_,_,_,_,_,_,_,_,_,_,_,_,_,_,_,_,_,_,_,_,_,_,_,_,_,_,_,_,_,_,_,_,_,_,_,_,_,_,_,_,_,_,_,_,_,_,_,_,_,_,_,_,_,_,_,_,_,_,_,_,_,⟨_,rfl,jW.out⟩,rfl⟩))
  ·go_simp;(try rw[hX1]);refine hK.out _ _ (kX) fun hHeld=>?_;clear hK K;(try simp only[pS]);refine bL 8 fun K hK=>?_;go_simp;refine (O5.out X1).mono ?_;rintro e w6 ⟨rfl,hb6⟩;have oq:=zh (yj.out.trans (hb6.mono yj.out.size));have k6:=(wz.out w6 oq.out).2;have aO:=OV.out.below hb6 OV.out.lt;have hs6:=bZ.out.size;clear hb6;obtain⟨w8,hw8,zw,g8⟩:=jZ aO (.int .i64 4) (.int .i64 h) (.int .i64 0) (.int .i64 0) (.int .i64 0) (.int .i64 (I:Int)) (.string ⟨#[]⟩) (.string nd.data) (.bool false) (.int .i64 (cc:Int)) (.int .i64 (rl:Int));have jo:=(oq.out).grown g8 (oq.out).size (fun j hj=>by injection hj with hj;omega);have k8:=(wz.out w8 jo).2;have jW:=zh (And.intro zw (And.intro (show w.heap.size≤V.heap.size by omega) jo));have y0:w6.cell? ⟨V.heap.size,0,none⟩=some (.int .i64 0):=aO.cell 0;have Cy:=aO.free 0;have y1:w6.cell? ⟨V.heap.size,1,none⟩=some (.int .i64 0):=aO.cell 1;have Cz:=aO.free 1;have y2:w6.cell? ⟨V.heap.size,2,none⟩=some (.int .i64 0):=aO.cell 2;have CB:=aO.free 2;have y3:w6.cell? ⟨V.heap.size,3,none⟩=some (.int .i64 0):=aO.cell 3;have CF:=aO.free 3;have y4:w6.cell? ⟨V.heap.size,4,none⟩=some (.int .i64 0):=aO.cell 4;have CG:=aO.free 4;have y5:w6.cell? ⟨V.heap.size,5,none⟩=some (.int .i64 0):=aO.cell 5;have CJ:=aO.free 5;have y6:w6.cell? ⟨V.heap.size,6,none⟩=some (.string ⟨#[]⟩):=aO.cell 6;have CK:=aO.free 6;have y7:w6.cell? ⟨V.heap.size,7,none⟩=some (.string ⟨#[]⟩):=aO.cell 7;have CO:=aO.free 7;have y8:w6.cell? ⟨V.heap.size,8,none⟩=some (.bool false):=aO.cell 8;have CP:=aO.free 8;have y9:w6.cell? ⟨V.heap.size,9,none⟩=some (.int .i64 0):=aO.cell 9;have EA:=aO.free 9;have wJ:w6.cell? ⟨V.heap.size,10,none⟩=some (.int .i64 0):=aO.cell 10;have rH:=aO.free 10;clear aO zw g8 jo;refine hK.out _ _ (k6) fun hHeld=>?_;clear hK K;(try simp only[pS]);refine bD [9] ?_
   (refine iZ ?_;try simp only[pS])
   refine bE ?_;refine bL 11 fun K hK=>?_;go_simp;(try rw[hw8]);refine hK.out _ _ (k8) fun hHeld=>?_;clear hK K;(try simp only[pS]);refine fB ?_;exact uR _ _ (Met.intro (hJ0 _ _ ⟨_,_,_,_,_,_,_,_,_,_,_,_,_,_,_,_,_,_,_,_,_,_,_,_,_,_,_,_,_,_,_,_,_,_,_,_,_,_,_,_,_,_,_,_,_,_,_,_,_,_,_,_,_,_,_,_,_,_,_,_,_,_,_,_,_,_,_,_,_,_,_,_,_,_,_,_,_,_,_,_,_,_,_,_,_,_,_,_,_,_,_,_,_,_,_,_,_,_,_,_,_,_,_,_,_,_,⟨_,rfl,jW.out⟩,rfl⟩))
 case rest=>
  obtain⟨X,rfl,hX,Vf,hbc⟩:=hcut;have kc:=(wz.out wc hbc).2;obtain⟨s0,s1⟩:=(HM.out wc hbc).np yx.out (Tr.ah qb.out) 3 (by omega);have hgw:gb<w.heap.size:=(Kh.out gb yx.out.foot).2;have hput:=(HM.out wc hbc).vG gW.out (HAT.out wc hbc) yx.out qb.out (ji nd.data I C v);rw[rZ.out.1] at hput;obtain⟨w9,wu⟩:∃ w9,wc.drew.setCell ⟨gb,o+3,none⟩ (.string (nd.data.extract 0 st++rv++nd.data.extract (st+dl) nd.data.size))=w9:=⟨_,rfl⟩
  have hbd:Below wc.heap.size wc wc.drew:=⟨rfl,rfl,rfl,Nat.le_refl _,fun _ _=>rfl⟩
  have ru:=hbc.trans (hbd.mono hbc.size);have hput:=(HM.out wc.drew ru).vG gW.out (HAT.out wc.drew ru) yx.out qb.out (nd.data.extract 0 st++rv++nd.data.extract (st+dl) nd.data.size);rw[wu] at hput;have kd:wc.drew.cell? ⟨gb,o+3,none⟩=some (.string nd.data):=kc;have sd:wc.drew.frozen? ⟨gb,o+3,none⟩=false:=s1;have Ri:=hX.below hbd hX.lt;have fH:Whole w9 X #[.int .i64 4,.int .i64 h,.int .i64 0,.int .i64 0,.int .i64 0,.int .i64 (I:Int),.string ⟨#[]⟩,.string nd.data,.bool false,.int .i64 (cc:Int),.int .i64 (rl:Int)] 48:=by rw[←wu];exact Ri.other (by show X≠gb;omega) _
  have g9:wc.drew.grownBy w9 (some gb):=by rw[←wu];exact aL (ak (Below.refl wc.drew.heap.size wc.drew) _) _ _
  have AQ:w.heap.size≤w9.heap.size:=Nat.le_trans ru.size g9.size;have qd:=(Below.refl _ w9).alloc (Nat.le_refl _) (.cells #[.int .i64 4,.int .i64 h,.int .i64 0,.int .i64 0,.int .i64 0,.int .i64 (I:Int),.string ⟨#[]⟩,.string nd.data,.bool false,.int .i64 (cc:Int),.int .i64 (rl:Int)] 48);have bf:=zh (And.intro (mM w9 (sO h I nd.data (cc:Int) (rl:Int)) w.heap.size AQ) (And.intro (hput.1.below qd) (And.intro hput.2.1 (And.intro (hput.2.2.1.below qd) (((ay.of_below ru).trans hput.2.2.2).trans (.of_below qd))))));have d1:∀ W:World,(Op.stringOp .add (nd.data.extract 0 st) rv).run Tryz.prog W=.ok (.string (nd.data.extract 0 st++rv)) W:=fun W=>run_string_add_sum W _ _ (by have:=extract_size nd.data 0 st;omega);have d2:∀ W:World,(Op.stringOp .add (nd.data.extract 0 st++rv) (nd.data.extract (st+dl) nd.data.size)).run Tryz.prog W=.ok (.string (nd.data.extract 0 st++rv++nd.data.extract (st+dl) nd.data.size)) W:=fun W=>run_string_add_sum W _ _ (by have:=extract_size nd.data 0 st;have:=extract_size nd.data (st+dl) nd.data.size;rw[ByteArray.size_append];omega);have u5:((st:Int)+(dl:Int)).toNat=st+dl:=by omega
  have u6:¬ 9223372036854775807<st+rv.size+(nd.data.size - (st+dl)):=by omega
  have u3:(0:Int)≤(st:Int)+(dl:Int):=by omega
  have u4:(st:Int)+(dl:Int)≤(nd.data.size:Int):=by omega
  have z0:w9.cell? ⟨X,0,none⟩=some (.int .i64 4):=fH.cell 0;have z1:w9.cell? ⟨X,1,none⟩=some (.int .i64 h):=fH.cell 1;have z2:w9.cell? ⟨X,2,none⟩=some (.int .i64 0):=fH.cell 2;have z3:w9.cell? ⟨X,3,none⟩=some (.int .i64 0):=fH.cell 3;have z4:w9.cell? ⟨X,4,none⟩=some (.int .i64 0):=fH.cell 4;have z5:w9.cell? ⟨X,5,none⟩=some (.int .i64 (I:Int)):=fH.cell 5;have z6:w9.cell? ⟨X,6,none⟩=some (.string ⟨#[]⟩):=fH.cell 6;have z7:w9.cell? ⟨X,7,none⟩=some (.string nd.data):=fH.cell 7;have z8:w9.cell? ⟨X,8,none⟩=some (.bool false):=fH.cell 8;have z9:w9.cell? ⟨X,9,none⟩=some (.int .i64 (cc:Int)):=fH.cell 9;have VI:w9.cell? ⟨X,10,none⟩=some (.int .i64 (rl:Int)):=fH.cell 10;clear hput hX fH Ri g9 qd hbc ru hbd kV kX;go_wp2_with fail;refine wp_region_noPanic ?_;refine wp_region_held_drew (S:=(fun W=>True)) (by kernel_rfl) ?_ (fun hHeld=>?_)
  ·exact trivial
  refine bD [0,1,2,3,5,7,9,10,11,13] ?_;iterate 10 (refine iZ ?_;try simp only[pS])
  refine bE ?_;apply Bq
  ·intro KEY;refine wpAnyH_ready (rs:=[4,12]) (by kernel_rfl) (by simp) ?_;refine AllReadyH.cons rfl (fun K hK=>?_) (AllReadyH.cons rfl (fun K hK=>?_) AllReadyH.nil)
   ·go_simp;refine hK.out _ _ (trivial) fun hHeld=>?_;clear hK K;(try simp only[pS]);refine bD [6,8] ?_;iterate 2 (refine iZ ?_;try simp only[pS])
    refine bE ?_;refine bL 12 fun K hK=>?_;go_simp;refine hK.out _ _ (trivial) fun hHeld=>?_;clear hK K;(try simp only[pS]);refine bD [14] ?_
    (refine iZ ?_;try simp only[pS])
    refine bE ?_;exact KEY
   ·go_simp;refine hK.out _ _ (trivial) fun hHeld=>?_;clear hK K;(try simp only[pS]);refine bD [14] ?_
    (refine iZ ?_;try simp only[pS])
    refine bE ?_;refine bL 4 fun K hK=>?_;go_simp;refine hK.out _ _ (trivial) fun hHeld=>?_;clear hK K;(try simp only[pS]);refine bD [6,8] ?_;iterate 2 (refine iZ ?_;try simp only[pS])
    refine bE ?_;exact KEY
  refine bD [15,16,17] ?_;iterate 3 (refine iZ ?_;try simp only[pS])
  refine bE ?_;refine bL 18 fun K hK=>?_;go_simp;(try rw[wu]);refine hK.out _ _ (trivial) fun hHeld=>?_;clear hK K;(try simp only[pS]);refine fB ?_;go_wp2_with fail;go_ret2;obtain⟨e1,e2,e3,e4,e5⟩:=bf.out;rw[rZ.out.1,rZ.out.2.2.1,rZ.out.2.2.2,rZ.out.2.1];exact⟨_,rfl,e1,e2,e3,e4,e5⟩
theorem CX (base B:Nat) (b s root h:Int) (I C:Nat) (live n:Nat) (g:Tr.G) (av:Int→Tr.Sl) (fr:List Nat) (vs vf:Value) (nd:Tr.GN) (v:ByteArray) (w:World) (hm:TV base w B b s vs n (Tr.raw g av) vf fr live root) (hS:Sound b s n (Tr.raw g av) fr live) (ha:AT w g av) (eg:g h=some nd) (hk:nd.kind=4) (hd:bJ.rep nd.data.data.toList=nd.data.data.toList) (hz:nd.data.size≤8000) (hI:I≤(iK nd.data).length) (hC:C≤2000000) (hv:v.size≤8000) (mQ:(aX v).size≤10000) (hT:Lit w):
  Calls Tryz.prog 22 #[.pointer (some ⟨B,0,none⟩),.int .i64 h,.int .i64 (I:Int),.int .i64 (C:Int),.string v] w fun e w'=>∃ r,e=.returned (.tuple #[r,.int .i64 0])∧bO w.heap.size w' r [sO h I nd.data ((min C ((iK nd.data).length - I):Nat):Int) ((iK (aX v)).length:Nat)]∧
   TV base w' B b s vs n (Tr.raw (Tr.dD g h fun n=>{ n with data:=ji nd.data I C v }) av) vf fr live root∧Sound b s n (Tr.raw (Tr.dD g h fun n=>{ n with data:=ji nd.data I C v }) av) fr live∧
   AT w' (Tr.dD g h fun n=>{ n with data:=ji nd.data I C v }) av∧ay w w' (aD B vs vf) (aD B vs vf):=by
 have hgood:=bJ.cO nd.data.data.toList;have iE:=sQ hd;have hfl:(iK nd.data).flatten.length=nd.data.size:=by rw[←iE];rfl
 obtain⟨len,hlen⟩:∃ len,(iK nd.data).length=len:=⟨_,rfl⟩
 have hll:len≤nd.data.size:=by rw[←hlen];exact yD _
 obtain⟨cc,hcc⟩:∃ cc,min C (len - I)=cc:=⟨_,rfl⟩
 have hmin:min (C:Int) ((len:Int) - (I:Int))=(cc:Int):=by omega
 obtain⟨st,hst⟩:∃ st,jf (iK nd.data) I=st:=⟨_,rfl⟩
 have ZO:st≤nd.data.size:=by rw[←hst,←hfl];exact tK _ _
 obtain⟨dl,hdl⟩:∃ dl,jf ((iK nd.data).drop I) cc=dl:=⟨_,rfl⟩
 have hdrop:(iK nd.data).flatten.drop st=((iK nd.data).drop I).flatten:=by rw[←hst];exact pV _ _
 have ZP:st+dl≤nd.data.size:=by
  have h1:=tK ((iK nd.data).drop I) cc;rw[hdl,←hdrop,List.length_drop,hfl] at h1;omega
 have HL:=zh (fun W=>rY nd.data W (by omega));rw[show (bJ.chunks nd.data.data.toList).length=len from hlen] at HL;have Np:=zh (fun W=>qJ nd.data (iK nd.data) I W (by omega) (by omega) hgood iE);rw[hst] at Np;have hsub:(nd.data.extract st nd.data.size).data.toList=((iK nd.data).drop I).flatten:=by rw[←hdrop,←iE];exact extract_drop _ _
 have FK:(nd.data.extract st nd.data.size).size≤20000:=by
  have:(nd.data.extract st nd.data.size).size=(nd.data.extract st nd.data.size).data.toList.length:=rfl;rw[this,hsub,←hdrop,List.length_drop,hfl];omega
 have S9:=zh (fun W=>qJ (nd.data.extract st nd.data.size) ((iK nd.data).drop I) cc W FK (by omega) (fun c hc=>hgood c (List.mem_of_mem_drop hc)) hsub);rw[hdl] at S9;obtain⟨rv,uf⟩:∃ rv,aX v=rv:=⟨_,rfl⟩
 rw[uf] at mQ;have HR:=zh (fun (W:World) (hT:Lit W)=>iq v W (by omega) hT);rw[show fJ (bJ.rep v.data.toList)=rv from uf] at HR;have O5:=zh (fun W=>rY rv W mQ);obtain⟨rl,hrl⟩:∃ rl,(bJ.chunks rv.data.toList).length=rl:=⟨_,rfl⟩
 rw[hrl] at O5;have hnew:ji nd.data I C v=nd.data.extract 0 st++rv++nd.data.extract (st+dl) nd.data.size:=by
  rw[←uf];exact FJ iE hlen (by omega) hcc hst hdl
 have rZ:=zh (And.intro hnew (And.intro (show (iK (aX v)).length=rl by rw[uf];exact hrl) (And.intro hlen hcc)));have HM:=zh (fun (W:World) (hb:Below w.heap.size w W)=>hm.below hb);have HA:=zh (fun (W:World) (hb:Below w.heap.size w W)=>ig base B b s root h live n _ fr vs vf _ W (hm.below hb) hS (Tr.ah eg));have HAT:=zh (fun (W:World) (hb:Below w.heap.size w W)=>(ha.below hb));have rC:=zh (fun (W:World) (hb:Below w.heap.size w W)=>hT.below hb);have Kh:=zh hm.lt;have gW:=zh hS;have qb:=zh eg;have q0:(nd.kind == 0)=false:=by simp[hk]
 have q3:(nd.kind != 3)=true:=by simp[hk]
 have q4:(nd.kind != 4)=false:=by simp[hk]
 have r0:¬ (I:Int)<0:=by omega
 have r1:¬ (len:Int)<(I:Int):=by omega
 have r2:¬ (C:Int)<0:=by omega
 have r3:(0:Int)≤(st:Int):=by omega
 have r4:(st:Int)≤(nd.data.size:Int):=by omega
 clear hm hS ha hk hd hT hnew hrl hlen hgood iE hfl hsub FK hdrop hdl hst hcc
 go_enter Tryz.func22,Tryz.ntmps22
 go_wp2_with fail;refine (HA.out w (Below.refl _ w)).mono ?_;rintro e w1 ⟨gb,o,rfl,hpt,hb1⟩;obtain⟨t0,_,_,t3,_⟩:=((HM.out w1 hb1).np hpt (Tr.ah qb.out)).cells;have t0':w1.cell? ⟨gb,o,none⟩=some (.int .i64 nd.kind):=t0;have PL:w1.cell? ⟨gb,o+3,none⟩=some (.string nd.data):=t3;have HB1:=zh hb1;have yx:=zh hpt;clear t0 t3 hb1 hpt HA;have wz:=zh (fun (W:World) (hb:Below w.heap.size w W)=>(show W.cell? ⟨gb,o,none⟩=some (.int .i64 nd.kind)∧W.cell? ⟨gb,o+3,none⟩=some (.string nd.data) from⟨((HM.out W hb).np yx.out (Tr.ah qb.out)).cells.1,((HM.out W hb).np yx.out (Tr.ah qb.out)).cells.2.2.2.1⟩));go_wp2_with fail;refine (HL.out w1).mono ?_;rintro e w2 ⟨rfl,hb2⟩;have HB2:=zh (HB1.out.trans (hb2.mono HB1.out.size));obtain⟨t0,t3⟩:=wz.out w2 HB2.out;clear t0' PL hb2 HL;go_wp2_with fail;refine (Np.out w2).mono ?_;rintro e w3 ⟨rfl,hb3⟩;have HB3:=zh (HB2.out.trans (hb3.mono HB2.out.size));obtain⟨-,PL⟩:=wz.out w3 HB3.out;clear t0 t3 hb3 Np;go_wp2_with fail;refine (S9.out w3).mono ?_;rintro e w4 ⟨rfl,hb4⟩;have uG:=zh (HB3.out.trans (hb4.mono HB3.out.size));obtain⟨-,t3⟩:=wz.out w4 uG.out;clear PL hb4 S9;go_wp2_with fail;refine (HR.out w4 (rC.out w4 uG.out)).mono ?_;rintro e w5 ⟨rfl,hb5⟩;have mq:=zh (uG.out.trans (hb5.mono uG.out.size));obtain⟨-,PL⟩:=wz.out w5 mq.out;clear t3 hb5 HR;have u1:¬ (1048576:Int)<(nd.data.size:Int) - ((st:Int)+(dl:Int) - (st:Int))+(rv.size:Int):=by omega
 have u2:¬ (1048576:Int)<(nd.data.size:Int) - (dl:Int)+(rv.size:Int):=by omega
 go_wp2_with fail;obtain⟨V,hV⟩:∃ V,w5.drew=V:=⟨_,rfl⟩
 have oU:Below w5.heap.size w5 V:=mJ hV;have bZ:=zh (mq.out.trans (oU.mono mq.out.size));obtain⟨X1,hX1⟩:∃ X1,V.alloc (.cells #[.int .i64 0,.int .i64 0,.int .i64 0,.int .i64 0,.int .i64 0,.int .i64 0,.string ⟨#[]⟩,.string ⟨#[]⟩,.bool false,.int .i64 0,.int .i64 0] 48)=X1:=⟨_,rfl⟩
 have uQ:Below V.heap.size V X1:=eP hX1;have yj:=zh (bZ.out.trans (uQ.mono bZ.out.size));have OV:Hid (Whole X1 V.heap.size #[.int .i64 0,.int .i64 0,.int .i64 0,.int .i64 0,.int .i64 0,.int .i64 0,.string ⟨#[]⟩,.string ⟨#[]⟩,.bool false,.int .i64 0,.int .i64 0] 48):=zh (by rw[←hX1];exact Whole.new V _ _);have kV:=(wz.out V bZ.out).2;have kX:=(wz.out X1 yj.out).2;clear oU uQ
 go_cut [16] from 16 (fun u wc=>∃ X,u=.pointer (some ⟨X,0,none⟩)∧Whole wc X #[.int .i64 4,.int .i64 h,.int .i64 0,.int .i64 0,.int .i64 0,.int .i64 (I:Int),.string ⟨#[]⟩,.string nd.data,.bool false,.int .i64 (cc:Int),.int .i64 (rl:Int)] 48∧w.heap.size≤X∧Below w.heap.size w wc)
 case first=>
  rename_i J0 K0 hJ0 uR;refine wp_region_noPanic ?_;refine wp_region_held_drew (S:=(fun W=>W.cell? ⟨gb,o+3,none⟩=some (.string nd.data))) (by kernel_rfl) ?_ (fun hHeld=>?_)
  ·exact (by rw[hV];exact kV)
  rw[hV] at hHeld ⊢;refine bD [0,1,2,3,4,5,6,7] ?_;iterate 8 (refine iZ ?_;try simp only[pS])
  refine bE ?_;refine wpAnyH_ready (rs:=[8,10]) (by kernel_rfl) (by simp) ?_;refine AllReadyH.cons rfl (fun K hK=>?_) (AllReadyH.cons rfl (fun K hK=>?_) AllReadyH.nil)
  ·go_simp;refine (O5.out V).mono ?_;rintro e w6 ⟨rfl,hb6⟩;have oq:=zh (bZ.out.trans (hb6.mono bZ.out.size));have k6:=(wz.out w6 oq.out).2;clear hb6;refine hK.out _ _ (k6) fun hHeld=>?_;clear hK K;(try simp only[pS]);refine bD [9] ?_
   (refine iZ ?_;try simp only[pS])
   refine bE ?_;refine bL 10 fun K hK=>?_;go_simp;obtain⟨w7,hw7⟩:∃ w7,w6.alloc (.cells #[.int .i64 0,.int .i64 0,.int .i64 0,.int .i64 0,.int .i64 0,.int .i64 0,.string ⟨#[]⟩,.string ⟨#[]⟩,.bool false,.int .i64 0,.int .i64 0] 48)=w7:=⟨_,rfl⟩
   have aO:Whole w7 w6.heap.size #[.int .i64 0,.int .i64 0,.int .i64 0,.int .i64 0,.int .i64 0,.int .i64 0,.string ⟨#[]⟩,.string ⟨#[]⟩,.bool false,.int .i64 0,.int .i64 0] 48:=by rw[←hw7];exact Whole.new w6 _ _
   have lK:Below w6.heap.size w6 w7:=eP hw7;have hs6:=oq.out.size;have jm:=zh (oq.out.trans (lK.mono oq.out.size));have k7:=(wz.out w7 jm.out).2;(try rw[hw7]);obtain⟨w8,hw8,zw,g8⟩:=jZ aO (.int .i64 4) (.int .i64 h) (.int .i64 0) (.int .i64 0) (.int .i64 0) (.int .i64 (I:Int)) (.string ⟨#[]⟩) (.string nd.data) (.bool false) (.int .i64 (cc:Int)) (.int .i64 (rl:Int));have jo:=(jm.out).grown g8 (jm.out).size (fun j hj=>by injection hj with hj;omega);have k8:=(wz.out w8 jo).2;have jW:=zh (And.intro zw (And.intro (show w.heap.size≤w6.heap.size by omega) jo));have y0:w7.cell? ⟨w6.heap.size,0,none⟩=some (.int .i64 0):=aO.cell 0;have Cy:=aO.free 0;have y1:w7.cell? ⟨w6.heap.size,1,none⟩=some (.int .i64 0):=aO.cell 1;have Cz:=aO.free 1;have y2:w7.cell? ⟨w6.heap.size,2,none⟩=some (.int .i64 0):=aO.cell 2;have CB:=aO.free 2;have y3:w7.cell? ⟨w6.heap.size,3,none⟩=some (.int .i64 0):=aO.cell 3;have CF:=aO.free 3;have y4:w7.cell? ⟨w6.heap.size,4,none⟩=some (.int .i64 0):=aO.cell 4;have CG:=aO.free 4;have y5:w7.cell? ⟨w6.heap.size,5,none⟩=some (.int .i64 0):=aO.cell 5;have CJ:=aO.free 5;have y6:w7.cell? ⟨w6.heap.size,6,none⟩=some (.string ⟨#[]⟩):=aO.cell 6;have CK:=aO.free 6;have y7:w7.cell? ⟨w6.heap.size,7,none⟩=some (.string ⟨#[]⟩):=aO.cell 7;have CO:=aO.free 7;have y8:w7.cell? ⟨w6.heap.size,8,none⟩=some (.bool false):=aO.cell 8;have CP:=aO.free 8;have y9:w7.cell? ⟨w6.heap.size,9,none⟩=some (.int .i64 0):=aO.cell 9;have EA:=aO.free 9;have wJ:w7.cell? ⟨w6.heap.size,10,none⟩=some (.int .i64 0):=aO.cell 10;have rH:=aO.free 10;clear aO zw g8 jo;clear lK;refine hK.out _ _ (k7) fun hHeld=>?_;clear hK K;(try simp only[pS]);refine bL 11 fun K hK=>?_;go_simp;(try rw[hw8]);refine hK.out _ _ (k8) fun hHeld=>?_;clear hK K;(try simp only[pS]);refine fB ?_;exact uR _ _ (Met.intro (hJ0 _ _ ⟨_,_,_,_,_,_,_,_,_,_,_,_,_,_,_,_,_,_,_,_,_,_,_,_,_,_,_,_,_,_,_,_,_,_,_,_,_,_,_,_,_,_,_,_,_,_,_,_,_,_,_,_,_,_,_,_,_,_,_,_,_,_,_,_,_,_,_,_,_,_,_,_,_,_,_,_,_,_,_,_,_,_,_,_,_,_,_,_,_,_,_,_,_,_,_,_,_,_,_,_,_,_,_,_,_,_,⟨_,rfl,jW.out⟩,rfl⟩))
  ·go_simp;(try rw[hX1]);refine hK.out _ _ (kX) fun hHeld=>?_;clear hK K;(try simp only[pS]);refine bL 8 fun K hK=>?_;go_simp;refine (O5.out X1).mono ?_;rintro e w6 ⟨rfl,hb6⟩;have oq:=zh (yj.out.trans (hb6.mono yj.out.size));have k6:=(wz.out w6 oq.out).2;have aO:=OV.out.below hb6 OV.out.lt;have hs6:=bZ.out.size;clear hb6;obtain⟨w8,hw8,zw,g8⟩:=jZ aO (.int .i64 4) (.int .i64 h) (.int .i64 0) (.int .i64 0) (.int .i64 0) (.int .i64 (I:Int)) (.string ⟨#[]⟩) (.string nd.data) (.bool false) (.int .i64 (cc:Int)) (.int .i64 (rl:Int));have jo:=(oq.out).grown g8 (oq.out).size (fun j hj=>by injection hj with hj;omega);have k8:=(wz.out w8 jo).2;have jW:=zh (And.intro zw (And.intro (show w.heap.size≤V.heap.size by omega) jo));have y0:w6.cell? ⟨V.heap.size,0,none⟩=some (.int .i64 0):=aO.cell 0;have Cy:=aO.free 0;have y1:w6.cell? ⟨V.heap.size,1,none⟩=some (.int .i64 0):=aO.cell 1;have Cz:=aO.free 1;have y2:w6.cell? ⟨V.heap.size,2,none⟩=some (.int .i64 0):=aO.cell 2;have CB:=aO.free 2;have y3:w6.cell? ⟨V.heap.size,3,none⟩=some (.int .i64 0):=aO.cell 3;have CF:=aO.free 3;have y4:w6.cell? ⟨V.heap.size,4,none⟩=some (.int .i64 0):=aO.cell 4;have CG:=aO.free 4;have y5:w6.cell? ⟨V.heap.size,5,none⟩=some (.int .i64 0):=aO.cell 5;have CJ:=aO.free 5;have y6:w6.cell? ⟨V.heap.size,6,none⟩=some (.string ⟨#[]⟩):=aO.cell 6;have CK:=aO.free 6;have y7:w6.cell? ⟨V.heap.size,7,none⟩=some (.string ⟨#[]⟩):=aO.cell 7;have CO:=aO.free 7;have y8:w6.cell? ⟨V.heap.size,8,none⟩=some (.bool false):=aO.cell 8;have CP:=aO.free 8;have y9:w6.cell? ⟨V.heap.size,9,none⟩=some (.int .i64 0):=aO.cell 9;have EA:=aO.free 9;have wJ:w6.cell? ⟨V.heap.size,10,none⟩=some (.int .i64 0):=aO.cell 10;have rH:=aO.free 10;clear aO zw g8 jo;refine hK.out _ _ (k6) fun hHeld=>?_;clear hK K;(try simp only[pS]);refine bD [9] ?_
   (refine iZ ?_;try simp only[pS])
   refine bE ?_;refine bL 11 fun K hK=>?_;go_simp;(try rw[hw8]);refine hK.out _ _ (k8) fun hHeld=>?_;clear hK K;(try simp only[pS]);refine fB ?_;exact uR _ _ (Met.intro (hJ0 _ _ ⟨_,_,_,_,_,_,_,_,_,_,_,_,_,_,_,_,_,_,_,_,_,_,_,_,_,_,_,_,_,_,_,_,_,_,_,_,_,_,_,_,_,_,_,_,_,_,_,_,_,_,_,_,_,_,_,_,_,_,_,_,_,_,_,_,_,_,_,_,_,_,_,_,_,_,_,_,_,_,_,_,_,_,_,_,_,_,_,_,_,_,_,_,_,_,_,_,_,_,_,_,_,_,_,_,_,_,⟨_,rfl,jW.out⟩,rfl⟩))
 case rest=>
  obtain⟨X,rfl,hX,Vf,hbc⟩:=hcut;have kc:=(wz.out wc hbc).2;obtain⟨s0,s1⟩:=(HM.out wc hbc).np yx.out (Tr.ah qb.out) 3 (by omega);have hgw:gb<w.heap.size:=(Kh.out gb yx.out.foot).2;have hput:=(HM.out wc hbc).vG gW.out (HAT.out wc hbc) yx.out qb.out (ji nd.data I C v);rw[rZ.out.1] at hput;obtain⟨w9,wu⟩:∃ w9,wc.drew.setCell ⟨gb,o+3,none⟩ (.string (nd.data.extract 0 st++rv++nd.data.extract (st+dl) nd.data.size))=w9:=⟨_,rfl⟩
  have hbd:Below wc.heap.size wc wc.drew:=⟨rfl,rfl,rfl,Nat.le_refl _,fun _ _=>rfl⟩
  have ru:=hbc.trans (hbd.mono hbc.size);have hput:=(HM.out wc.drew ru).vG gW.out (HAT.out wc.drew ru) yx.out qb.out (nd.data.extract 0 st++rv++nd.data.extract (st+dl) nd.data.size);rw[wu] at hput;have kd:wc.drew.cell? ⟨gb,o+3,none⟩=some (.string nd.data):=kc;have sd:wc.drew.frozen? ⟨gb,o+3,none⟩=false:=s1;have Ri:=hX.below hbd hX.lt;have fH:Whole w9 X #[.int .i64 4,.int .i64 h,.int .i64 0,.int .i64 0,.int .i64 0,.int .i64 (I:Int),.string ⟨#[]⟩,.string nd.data,.bool false,.int .i64 (cc:Int),.int .i64 (rl:Int)] 48:=by rw[←wu];exact Ri.other (by show X≠gb;omega) _
  have g9:wc.drew.grownBy w9 (some gb):=by rw[←wu];exact aL (ak (Below.refl wc.drew.heap.size wc.drew) _) _ _
  have AQ:w.heap.size≤w9.heap.size:=Nat.le_trans ru.size g9.size;have qd:=(Below.refl _ w9).alloc (Nat.le_refl _) (.cells #[.int .i64 4,.int .i64 h,.int .i64 0,.int .i64 0,.int .i64 0,.int .i64 (I:Int),.string ⟨#[]⟩,.string nd.data,.bool false,.int .i64 (cc:Int),.int .i64 (rl:Int)] 48);have bf:=zh (And.intro (mM w9 (sO h I nd.data (cc:Int) (rl:Int)) w.heap.size AQ) (And.intro (hput.1.below qd) (And.intro hput.2.1 (And.intro (hput.2.2.1.below qd) (((ay.of_below ru).trans hput.2.2.2).trans (.of_below qd))))));have d1:∀ W:World,(Op.stringOp .add (nd.data.extract 0 st) rv).run Tryz.prog W=.ok (.string (nd.data.extract 0 st++rv)) W:=fun W=>run_string_add_sum W _ _ (by have:=extract_size nd.data 0 st;omega);have d2:∀ W:World,(Op.stringOp .add (nd.data.extract 0 st++rv) (nd.data.extract (st+dl) nd.data.size)).run Tryz.prog W=.ok (.string (nd.data.extract 0 st++rv++nd.data.extract (st+dl) nd.data.size)) W:=fun W=>run_string_add_sum W _ _ (by have:=extract_size nd.data 0 st;have:=extract_size nd.data (st+dl) nd.data.size;rw[ByteArray.size_append];omega);have u5:((st:Int)+(dl:Int)).toNat=st+dl:=by omega
  have u6:¬ 9223372036854775807<st+rv.size+(nd.data.size - (st+dl)):=by omega
  have u3:(0:Int)≤(st:Int)+(dl:Int):=by omega
  have u4:(st:Int)+(dl:Int)≤(nd.data.size:Int):=by omega
  have z0:w9.cell? ⟨X,0,none⟩=some (.int .i64 4):=fH.cell 0;have z1:w9.cell? ⟨X,1,none⟩=some (.int .i64 h):=fH.cell 1;have z2:w9.cell? ⟨X,2,none⟩=some (.int .i64 0):=fH.cell 2;have z3:w9.cell? ⟨X,3,none⟩=some (.int .i64 0):=fH.cell 3;have z4:w9.cell? ⟨X,4,none⟩=some (.int .i64 0):=fH.cell 4;have z5:w9.cell? ⟨X,5,none⟩=some (.int .i64 (I:Int)):=fH.cell 5;have z6:w9.cell? ⟨X,6,none⟩=some (.string ⟨#[]⟩):=fH.cell 6;have z7:w9.cell? ⟨X,7,none⟩=some (.string nd.data):=fH.cell 7;have z8:w9.cell? ⟨X,8,none⟩=some (.bool false):=fH.cell 8;have z9:w9.cell? ⟨X,9,none⟩=some (.int .i64 (cc:Int)):=fH.cell 9;have VI:w9.cell? ⟨X,10,none⟩=some (.int .i64 (rl:Int)):=fH.cell 10;clear hput hX fH Ri g9 qd hbc ru hbd kV kX;go_wp2_with fail;refine wp_region_noPanic ?_;refine wp_region_held_drew (S:=(fun W=>True)) (by kernel_rfl) ?_ (fun hHeld=>?_)
  ·exact trivial
  refine bD [0,1,2,3,5,7,9,10,11,13] ?_;iterate 10 (refine iZ ?_;try simp only[pS])
  refine bE ?_;apply Bq
  ·intro KEY;refine wpAnyH_ready (rs:=[4,12]) (by kernel_rfl) (by simp) ?_;refine AllReadyH.cons rfl (fun K hK=>?_) (AllReadyH.cons rfl (fun K hK=>?_) AllReadyH.nil)
   ·go_simp;refine hK.out _ _ (trivial) fun hHeld=>?_;clear hK K;(try simp only[pS]);refine bD [6,8] ?_;iterate 2 (refine iZ ?_;try simp only[pS])
    refine bE ?_;refine bL 12 fun K hK=>?_;go_simp;refine hK.out _ _ (trivial) fun hHeld=>?_;clear hK K;(try simp only[pS]);refine bD [14] ?_
    (refine iZ ?_;try simp only[pS])
    refine bE ?_;exact KEY
   ·go_simp;refine hK.out _ _ (trivial) fun hHeld=>?_;clear hK K;(try simp only[pS]);refine bD [14] ?_
    (refine iZ ?_;try simp only[pS])
    refine bE ?_;refine bL 4 fun K hK=>?_;go_simp;refine hK.out _ _ (trivial) fun hHeld=>?_;clear hK K;(try simp only[pS]);refine bD [6,8] ?_;iterate 2 (refine iZ ?_;try simp only[pS])
    refine bE ?_;exact KEY
  refine bD [15,16,17] ?_;iterate 3 (refine iZ ?_;try simp only[pS])
  refine bE ?_;refine bL 18 fun K hK=>?_;go_simp;(try rw[wu]);refine hK.out _ _ (trivial) fun hHeld=>?_;clear hK K;(try simp only[pS]);refine fB ?_;go_wp2_with fail;go_ret2;obtain⟨e1,e2,e3,e4,e5⟩:=bf.out;rw[rZ.out.1,rZ.out.2.2.1,rZ.out.2.2.2,rZ.out.2.1];exact⟨_,rfl,e1,e2,e3,e4,e5⟩
end
end Go.Proofs.YtnbaadpgbcklaaaGreatDoor
