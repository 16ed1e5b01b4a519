/- Part of a proof about trees. -/
import Derived.Test.YtnbaadpgbcklaaaGreatDoorGNVal
set_option linter.unusedVariables false
set_option linter.unusedSimpArgs false
set_option maxHeartbeats 4000000
set_option maxRecDepth 100000
namespace Go.Proofs.YtnbaadpgbcklaaaGreatDoor
section
open Go.RowKit
theorem qD (s:ByteArray) (i e:Nat):(s.extract i e).data.toList=(s.data.toList.drop i).take (e - i):=by
 rw[ByteArray.data_extract,Array.toList_extract,List.extract_eq_take_drop]
theorem extract_drop (s:ByteArray) (i:Nat):(s.extract i s.size).data.toList=s.data.toList.drop i:=by
 rw[qD,List.take_of_length_le];rw[List.length_drop];exact Nat.le_refl _
theorem FQ {d v:ByteArray} {I C cc st dl len:Nat} (iG:d.data.toList=(iM d).flatten) (hlen:(iM d).length=len) (hI:I≤len) (hcc:min C (len - I)=cc) (hst:jk (iM d) I=st) (hdl:jk ((iM d).drop I) cc=dl):jo d I C v=d.extract 0 st++aX v++d.extract (st+dl) d.size:=by
 have h1:(d.extract 0 st).data.toList=((iM d).take I).flatten:=by rw[qD,List.drop_zero,Nat.sub_zero,iG,←hst,LJ]
 have h2:(d.extract (st+dl) d.size).data.toList=((iM d).drop (I+C)).flatten:=by
  rw[extract_drop,iG,←List.drop_drop,←hst,pU,←hdl,pU,List.drop_drop];by_cases h:C≤len - I
  ·rw[show cc=C by omega]
  ·rw[List.drop_of_length_le (by omega),List.drop_of_length_le (by omega)]
 unfold jo;rw[←h1,←h2,←lZ,←lZ,tF,tF,tF]
theorem extract_size (s:ByteArray) (i e:Nat):(s.extract i e).size≤s.size:=by
 have h:(s.extract i e).size=(s.extract i e).data.toList.length:=rfl;rw[h,qD,List.length_take,List.length_drop];have:s.data.toList.length=s.size:=rfl;omega
theorem sM {d:ByteArray} (h:bD.rep d.data.toList=d.data.toList):d.data.toList=(iM d).flatten:=h.symm
theorem yJ (d:ByteArray):(iM d).length≤d.size:=bD.uH _
theorem Dp (base B:Nat) (b s root h:Int) (I C:Nat) (live n:Nat) (g:Tr.G) (av:Int→Tr.Sl) (fr:List Nat) (vs vf:Value) (nd:Tr.GN) (v:ByteArray) (w:World) (hm:TV base w B b s vs n (Tr.raw g av) vf fr live root) (hS:Sound b s n (Tr.raw g av) fr live) (ha:AT w g av) (eg:g h=some nd) (hk:nd.kind=3) (hd:bD.rep nd.data.data.toList=nd.data.data.toList) (hz:nd.data.size≤8000) (hI:I≤(iM nd.data).length) (hC:C≤2000000) (hv:v.size≤8000) (mQ:(aX v).size≤10000) (hT:Lit w):
  Calls Tryz.prog 22 #[.pointer (some ⟨B,0,none⟩),.int .i64 h,.int .i64 (I:Int),.int .i64 (C:Int),.string v] w fun e w'=>∃ r,e=.returned (.tuple #[r,.int .i64 0])∧bG w.heap.size w' r [sK h I nd.data ((min C ((iM nd.data).length - I):Nat):Int) ((iM (aX v)).length:Nat)]∧
   TV base w' B b s vs n (Tr.raw (Tr.cB g h fun n=>{ n with data:=jo nd.data I C v }) av) vf fr live root∧Sound b s n (Tr.raw (Tr.cB g h fun n=>{ n with data:=jo nd.data I C v }) av) fr live∧
   AT w' (Tr.cB g h fun n=>{ n with data:=jo nd.data I C v }) av∧aB w w' (aD B vs vf) (aD B vs vf):=by
 have hgood:=bD.bZ nd.data.data.toList;have iG:=sM hd;have hfl:(iM nd.data).flatten.length=nd.data.size:=by rw[←iG];rfl
 obtain⟨len,hlen⟩:=eX ((iM nd.data).length)
 have hll:len≤nd.data.size:=by rw[←hlen];exact yJ _
 obtain⟨cc,hcc⟩:=eX (min C (len - I))
 have hmin:min (C:Int) ((len:Int) - (I:Int))=(cc:Int):=by omega
 obtain⟨st,hst⟩:=eX (jk (iM nd.data) I)
 have aaB:st≤nd.data.size:=by rw[←hst,←hfl];exact tH _ _
 obtain⟨dl,hdl⟩:=eX (jk ((iM nd.data).drop I) cc)
 have hdrop:(iM nd.data).flatten.drop st=((iM nd.data).drop I).flatten:=by rw[←hst];exact pU _ _
 have aaC:st+dl≤nd.data.size:=by
  have h1:=tH ((iM nd.data).drop I) cc;rw[hdl,←hdrop,List.length_drop,hfl] at h1;omega
 have HL:=zh (fun W=>rW nd.data W (by omega));rw[show (bD.chunks nd.data.data.toList).length=len from hlen] at HL;have Oj:=zh (fun W=>qE nd.data (iM nd.data) I W (by omega) (by omega) hgood iG);rw[hst] at Oj;have hsub:(nd.data.extract st nd.data.size).data.toList=((iM nd.data).drop I).flatten:=by rw[←hdrop,←iG];exact extract_drop _ _
 have FR:(nd.data.extract st nd.data.size).size≤20000:=by
  have:(nd.data.extract st nd.data.size).size=(nd.data.extract st nd.data.size).data.toList.length:=rfl;rw[this,hsub,←hdrop,List.length_drop,hfl];omega
 have Uf:=zh (fun W=>qE (nd.data.extract st nd.data.size) ((iM nd.data).drop I) cc W FR (by omega) (fun c hc=>hgood c (List.mem_of_mem_drop hc)) hsub);rw[hdl] at Uf;obtain⟨rv,tY⟩:=eX (aX v)
 rw[tY] at mQ;have HR:=zh (fun (W:World) (hT:Lit W)=>ig v W (by omega) hT);rw[show fA (bD.rep v.data.toList)=rv from tY] at HR;have Qg:=zh (fun W=>rW rv W mQ);obtain⟨rl,hrl⟩:=eX ((bD.chunks rv.data.toList).length)
 rw[hrl] at Qg;have hnew:jo nd.data I C v=nd.data.extract 0 st++rv++nd.data.extract (st+dl) nd.data.size:=by
  rw[←tY];exact FQ iG hlen (by omega) hcc hst hdl
 have rX:=zh (And.intro hnew (And.intro (show (iM (aX v)).length=rl by rw[tY];exact hrl) (And.intro hlen hcc)));have HM:=zh (fun (W:World) (hb:Below w.heap.size w W)=>hm.below hb);have HA:=zh (fun (W:World) (hb:Below w.heap.size w W)=>gZ base B b s root h live n _ fr vs vf _ W (hm.below hb) hS (Tr.aj eg));have HAT:=zh (fun (W:World) (hb:Below w.heap.size w W)=>(ha.below hb));have rA:=zh (fun (W:World) (hb:Below w.heap.size w W)=>hT.below hb);have K3:=zh hm.lt;have gI:=zh hS;have nX:=zh eg;have q0:(nd.kind == 0)=false:=by simp[hk]
 have q3:(nd.kind != 3)=false:=by simp[hk]
 have r0:¬ (I:Int)<0:=by omega
 have r1:¬ (len:Int)<(I:Int):=by omega
 have r2:¬ (C:Int)<0:=by omega
 have r3:(0:Int)≤(st:Int):=by omega
 have r4:(st:Int)≤(nd.data.size:Int):=by omega
 clear hm hS ha hk hd hT hnew hrl hlen hgood iG hfl hsub FR hdrop hdl hst hcc
 go_enter Tryz.func22,Tryz.ntmps22
 go_wp2_with fail;refine (HA.out w (Below.refl _ w)).mono ?_;rintro e w1 ⟨gb,o,rfl,hpt,hb1⟩;obtain⟨t0,_,_,t3,_⟩:=((HM.out w1 hb1).np hpt (Tr.aj nX.out)).cells;have t0':w1.cell? ⟨gb,o,none⟩=some (.int .i64 nd.kind):=t0;have QB:w1.cell? ⟨gb,o+3,none⟩=some (.string nd.data):=t3;have HB1:=zh hb1;have yE:=zh hpt;clear t0 t3 hb1 hpt HA;have wz:=zh (fun (W:World) (hb:Below w.heap.size w W)=>(show W.cell? ⟨gb,o,none⟩=some (.int .i64 nd.kind)∧W.cell? ⟨gb,o+3,none⟩=some (.string nd.data) from⟨((HM.out W hb).np yE.out (Tr.aj nX.out)).cells.1,((HM.out W hb).np yE.out (Tr.aj nX.out)).cells.2.2.2.1⟩));go_wp2_with fail;refine (HL.out w1).mono ?_;rintro e w2 ⟨rfl,hb2⟩;have HB2:=zh (HB1.out.trans (hb2.mono HB1.out.size));obtain⟨t0,t3⟩:=wz.out w2 HB2.out;clear t0' QB hb2 HL;go_wp2_with fail;refine (Oj.out w2).mono ?_;rintro e w3 ⟨rfl,hb3⟩;have HB3:=zh (HB2.out.trans (hb3.mono HB2.out.size));obtain⟨-,QB⟩:=wz.out w3 HB3.out;clear t0 t3 hb3 Oj;go_wp2_with fail;refine (Uf.out w3).mono ?_;rintro e w4 ⟨rfl,hb4⟩;have uy:=zh (HB3.out.trans (hb4.mono HB3.out.size));obtain⟨-,t3⟩:=wz.out w4 uy.out;clear QB hb4 Uf;go_wp2_with fail;refine (HR.out w4 (rA.out w4 uy.out)).mono ?_;rintro e w5 ⟨rfl,hb5⟩;have oK:=zh (uy.out.trans (hb5.mono uy.out.size));obtain⟨-,QB⟩:=wz.out w5 oK.out;clear t3 hb5 HR;have u1:¬ (1048576:Int)<(nd.data.size:Int) - ((st:Int)+(dl:Int) - (st:Int))+(rv.size:Int):=by omega
 have u2:¬ (1048576:Int)<(nd.data.size:Int) - (dl:Int)+(rv.size:Int):=by omega
 go_wp2_with fail;obtain⟨V,hV⟩:=eX (w5.drew)
 have oW:Below w5.heap.size w5 V:=qd hV;have bW:=zh (oK.out.trans (oW.mono oK.out.size));obtain⟨X1,hX1⟩:=eX (V.alloc (.cells #[.int .i64 0,.int .i64 0,.int .i64 0,.int .i64 0,.int .i64 0,.int .i64 0,.string ⟨#[]⟩,.string ⟨#[]⟩,.bool false,.int .i64 0,.int .i64 0] 48))
 have yH:Below V.heap.size V X1:=gP hX1;have yj:=zh (bW.out.trans (yH.mono bW.out.size));have P7:Hid (Whole X1 V.heap.size #[.int .i64 0,.int .i64 0,.int .i64 0,.int .i64 0,.int .i64 0,.int .i64 0,.string ⟨#[]⟩,.string ⟨#[]⟩,.bool false,.int .i64 0,.int .i64 0] 48):=zh (by rw[←hX1];exact Whole.new V _ _);have kV:=(wz.out V bW.out).2;have kX:=(wz.out X1 yj.out).2;clear oW yH
 go_cut [16] from 16 (fun u wc=>∃ X,u=.pointer (some ⟨X,0,none⟩)∧Whole wc X #[.int .i64 4,.int .i64 h,.int .i64 0,.int .i64 0,.int .i64 0,.int .i64 (I:Int),.string ⟨#[]⟩,.string nd.data,.bool false,.int .i64 (cc:Int),.int .i64 (rl:Int)] 48∧w.heap.size≤X∧Below w.heap.size w wc)
 case first=>
  rename_i J0 K0 hJ0 jg;refine wp_region_noPanic ?_;refine wp_region_held_drew (S:=(fun W=>W.cell? ⟨gb,o+3,none⟩=some (.string nd.data))) (by kernel_rfl) ?_ (fun ah=>?_)
  ·exact (by rw[hV];exact kV)
  rw[hV] at ah ⊢;refine bE [0,1,2,3,4,5,6,7] ?_;iterate 8 (refine jf ?_;try simp only[pS])
  refine bF ?_;refine yg 8 10 (fun K hK=>?_) fun K hK=>?_
  ·go_simp;refine (Qg.out V).mono ?_;rintro e w6 ⟨rfl,hb6⟩;have qb:=zh (bW.out.trans (hb6.mono bW.out.size));have k6:=(wz.out w6 qb.out).2;clear hb6;refine hK.out _ _ (k6) fun ah=>?_;clear hK K;(try simp only[pS]);refine bE [9] ?_
   (refine jf ?_;try simp only[pS])
   refine bF ?_;refine bI 10 fun K hK=>?_;go_simp;obtain⟨w7,hw7⟩:=eX (w6.alloc (.cells #[.int .i64 0,.int .i64 0,.int .i64 0,.int .i64 0,.int .i64 0,.int .i64 0,.string ⟨#[]⟩,.string ⟨#[]⟩,.bool false,.int .i64 0,.int .i64 0] 48))
   have aP:Whole w7 w6.heap.size #[.int .i64 0,.int .i64 0,.int .i64 0,.int .i64 0,.int .i64 0,.int .i64 0,.string ⟨#[]⟩,.string ⟨#[]⟩,.bool false,.int .i64 0,.int .i64 0] 48:=by rw[←hw7];exact Whole.new w6 _ _
   have ng:Below w6.heap.size w6 w7:=gP hw7;have hs6:=qb.out.size;have kC:=zh (qb.out.trans (ng.mono qb.out.size));have k7:=(wz.out w7 kC.out).2;(try rw[hw7]);obtain⟨w8,hw8,zG,g8⟩:=kG aP (.int .i64 4) (.int .i64 h) (.int .i64 0) (.int .i64 0) (.int .i64 0) (.int .i64 (I:Int)) (.string ⟨#[]⟩) (.string nd.data) (.bool false) (.int .i64 (cc:Int)) (.int .i64 (rl:Int));have jr:=(kC.out).grown g8 (kC.out).size (fun j hj=>by injection hj with hj;omega);have k8:=(wz.out w8 jr).2;have kD:=zh (And.intro zG (And.intro (show w.heap.size≤w6.heap.size by omega) jr));have y0:w7.cell? ⟨w6.heap.size,0,none⟩=some (.int .i64 0):=aP.cell 0;have AU:=aP.free 0;have y1:w7.cell? ⟨w6.heap.size,1,none⟩=some (.int .i64 0):=aP.cell 1;have AV:=aP.free 1;have y2:w7.cell? ⟨w6.heap.size,2,none⟩=some (.int .i64 0):=aP.cell 2;have AX:=aP.free 2;have y3:w7.cell? ⟨w6.heap.size,3,none⟩=some (.int .i64 0):=aP.cell 3;have AY:=aP.free 3;have y4:w7.cell? ⟨w6.heap.size,4,none⟩=some (.int .i64 0):=aP.cell 4;have AZ:=aP.free 4;have y5:w7.cell? ⟨w6.heap.size,5,none⟩=some (.int .i64 0):=aP.cell 5;have Ba:=aP.free 5;have y6:w7.cell? ⟨w6.heap.size,6,none⟩=some (.string ⟨#[]⟩):=aP.cell 6;have Bb:=aP.free 6;have y7:w7.cell? ⟨w6.heap.size,7,none⟩=some (.string ⟨#[]⟩):=aP.cell 7;have Bc:=aP.free 7;have y8:w7.cell? ⟨w6.heap.size,8,none⟩=some (.bool false):=aP.cell 8;have Bd:=aP.free 8;have y9:w7.cell? ⟨w6.heap.size,9,none⟩=some (.int .i64 0):=aP.cell 9;have EM:=aP.free 9;have wH:w7.cell? ⟨w6.heap.size,10,none⟩=some (.int .i64 0):=aP.cell 10;have rF:=aP.free 10;clear aP zG g8 jr;clear ng;refine hK.out _ _ (k7) fun ah=>?_;clear hK K;(try simp only[pS]);refine bI 11 fun K hK=>?_;go_simp;(try rw[hw8]);refine hK.out _ _ (k8) fun ah=>?_;clear hK K;(try simp only[pS]);refine gq ?_;exact jg _ _ (Met.intro (hJ0 _ _ ⟨_,_,_,_,_,_,_,_,_,_,_,_,_,_,_,_,_,_,_,_,_,_,_,_,_,_,_,_,_,_,_,_,_,_,_,_,_,_,_,_,_,_,_,_,_,_,_,_,_,_,_,_,_,_,_,_,_,_,_,_,_,_,_,_,_,_,_,_,_,_,_,_,_,_,_,_,_,_,_,_,_,_,_,_,_,_,_,_,_,_,_,_,_,_,_,_,_,_,_,_,_,_,_,_,_,_,⟨_,rfl,kD.out⟩,rfl⟩))
  ·go_simp;(try rw[hX1]);refine hK.out _ _ (kX) fun ah=>?_;clear hK K;(try simp only[pS]);refine bI 8 fun K hK=>?_;go_simp;refine (Qg.out X1).mono ?_;rintro e w6 ⟨rfl,hb6⟩;have qb:=zh (yj.out.trans (hb6.mono yj.out.size));have k6:=(wz.out w6 qb.out).2;have aP:=P7.out.below hb6 P7.out.lt;have hs6:=bW.out.size;clear hb6;obtain⟨w8,hw8,zG,g8⟩:=kG aP (.int .i64 4) (.int .i64 h) (.int .i64 0) (.int .i64 0) (.int .i64 0) (.int .i64 (I:Int)) (.string ⟨#[]⟩) (.string nd.data) (.bool false) (.int .i64 (cc:Int)) (.int .i64 (rl:Int));have jr:=(qb.out).grown g8 (qb.out).size (fun j hj=>by injection hj with hj;omega);have k8:=(wz.out w8 jr).2;have kD:=zh (And.intro zG (And.intro (show w.heap.size≤V.heap.size by omega) jr));have y0:w6.cell? ⟨V.heap.size,0,none⟩=some (.int .i64 0):=aP.cell 0;have AU:=aP.free 0;have y1:w6.cell? ⟨V.heap.size,1,none⟩=some (.int .i64 0):=aP.cell 1;have AV:=aP.free 1;have y2:w6.cell? ⟨V.heap.size,2,none⟩=some (.int .i64 0):=aP.cell 2;have AX:=aP.free 2;have y3:w6.cell? ⟨V.heap.size,3,none⟩=some (.int .i64 0):=aP.cell 3;have AY:=aP.free 3;have y4:w6.cell? ⟨V.heap.size,4,none⟩=some (.int .i64 0):=aP.cell 4;have AZ:=aP.free 4;have y5:w6.cell? ⟨V.heap.size,5,none⟩=some (.int .i64 0):=aP.cell 5;have Ba:=aP.free 5;have y6:w6.cell? ⟨V.heap.size,6,none⟩=some (.string ⟨#[]⟩):=aP.cell 6;have Bb:=aP.free 6;have y7:w6.cell? ⟨V.heap.size,7,none⟩=some (.string ⟨#[]⟩):=aP.cell 7;have Bc:=aP.free 7;have y8:w6.cell? ⟨V.heap.size,8,none⟩=some (.bool false):=aP.cell 8;have Bd:=aP.free 8;have y9:w6.cell? ⟨V.heap.size,9,none⟩=some (.int .i64 0):=aP.cell 9;have EM:=aP.free 9;have wH:w6.cell? ⟨V.heap.size,10,none⟩=some (.int .i64 0):=aP.cell 10;have rF:=aP.free 10;clear aP zG g8 jr;refine hK.out _ _ (k6) fun ah=>?_;clear hK K;(try simp only[pS]);refine bE [9] ?_
   (refine jf ?_;try simp only[pS])
   refine bF ?_;refine bI 11 fun K hK=>?_;go_simp;(try rw[hw8]);refine hK.out _ _ (k8) fun ah=>?_;clear hK K;(try simp only[pS]);refine gq ?_;exact jg _ _ (Met.intro (hJ0 _ _ ⟨_,_,_,_,_,_,_,_,_,_,_,_,_,_,_,_,_,_,_,_,_,_,_,_,_,_,_,_,_,_,_,_,_,_,_,_,_,_,_,_,_,_,_,_,_,_,_,_,_,_,_,_,_,_,_,_,_,_,_,_,_,_,_,_,_,_,_,_,_,_,_,_,_,_,_,_,_,_,_,_,_,_,_,_,_,_,_,_,_,_,_,_,_,_,_,_,_,_,_,_,_,_,_,_,_,_,⟨_,rfl,kD.out⟩,rfl⟩))
 case rest=>
  obtain⟨X,rfl,hX,Wm,hbc⟩:=hcut;have kc:=(wz.out wc hbc).2;obtain⟨s0,s1⟩:=(HM.out wc hbc).np yE.out (Tr.aj nX.out) 3 (by omega);have hgw:gb<w.heap.size:=(K3.out gb yE.out.foot).2;have hput:=(HM.out wc hbc).vD gI.out (HAT.out wc hbc) yE.out nX.out (jo nd.data I C v);rw[rX.out.1] at hput;obtain⟨w9,wu⟩:=eX (wc.drew.setCell ⟨gb,o+3,none⟩ (.string (nd.data.extract 0 st++rv++nd.data.extract (st+dl) nd.data.size)))
  have hbd:Below wc.heap.size wc wc.drew:=⟨rfl,rfl,rfl,Nat.le_refl _,fun _ _=>rfl⟩
  have qW:=hbc.trans (hbd.mono hbc.size);have hput:=(HM.out wc.drew qW).vD gI.out (HAT.out wc.drew qW) yE.out nX.out (nd.data.extract 0 st++rv++nd.data.extract (st+dl) nd.data.size);rw[wu] at hput;have kd:wc.drew.cell? ⟨gb,o+3,none⟩=some (.string nd.data):=kc;have sd:wc.drew.frozen? ⟨gb,o+3,none⟩=false:=s1;have Sq:=hX.below hbd hX.lt;have fq:Whole w9 X #[.int .i64 4,.int .i64 h,.int .i64 0,.int .i64 0,.int .i64 0,.int .i64 (I:Int),.string ⟨#[]⟩,.string nd.data,.bool false,.int .i64 (cc:Int),.int .i64 (rl:Int)] 48:=by rw[←wu];exact Sq.other (by show X≠gb;omega) _
  have g9:wc.drew.grownBy w9 (some gb):=by rw[←wu];exact aK (au (Below.refl wc.drew.heap.size wc.drew) _) _ _
  have Bl:w.heap.size≤w9.heap.size:=Nat.le_trans qW.size g9.size;have pY:=(Below.refl _ w9).alloc (Nat.le_refl _) (.cells #[.int .i64 4,.int .i64 h,.int .i64 0,.int .i64 0,.int .i64 0,.int .i64 (I:Int),.string ⟨#[]⟩,.string nd.data,.bool false,.int .i64 (cc:Int),.int .i64 (rl:Int)] 48);have bf:=zh (And.intro (mO w9 (sK h I nd.data (cc:Int) (rl:Int)) w.heap.size Bl) (And.intro (hput.1.below pY) (And.intro hput.2.1 (And.intro (hput.2.2.1.below pY) (((aB.of_below qW).trans hput.2.2.2).trans (.of_below pY))))));have d1:∀ W:World,(Op.stringOp .add (nd.data.extract 0 st) rv).run Tryz.prog W=.ok (.string (nd.data.extract 0 st++rv)) W:=fun W=>run_string_add_sum W _ _ (by have:=extract_size nd.data 0 st;omega);have d2:∀ W:World,(Op.stringOp .add (nd.data.extract 0 st++rv) (nd.data.extract (st+dl) nd.data.size)).run Tryz.prog W=.ok (.string (nd.data.extract 0 st++rv++nd.data.extract (st+dl) nd.data.size)) W:=fun W=>run_string_add_sum W _ _ (by have:=extract_size nd.data 0 st;have:=extract_size nd.data (st+dl) nd.data.size;rw[ByteArray.size_append];omega);have u5:((st:Int)+(dl:Int)).toNat=st+dl:=by omega
  have u6:¬ 9223372036854775807<st+rv.size+(nd.data.size - (st+dl)):=by omega
  have u3:(0:Int)≤(st:Int)+(dl:Int):=by omega
  have u4:(st:Int)+(dl:Int)≤(nd.data.size:Int):=by omega
  have z0:w9.cell? ⟨X,0,none⟩=some (.int .i64 4):=fq.cell 0;have z1:w9.cell? ⟨X,1,none⟩=some (.int .i64 h):=fq.cell 1;have z2:w9.cell? ⟨X,2,none⟩=some (.int .i64 0):=fq.cell 2;have z3:w9.cell? ⟨X,3,none⟩=some (.int .i64 0):=fq.cell 3;have z4:w9.cell? ⟨X,4,none⟩=some (.int .i64 0):=fq.cell 4;have z5:w9.cell? ⟨X,5,none⟩=some (.int .i64 (I:Int)):=fq.cell 5;have z6:w9.cell? ⟨X,6,none⟩=some (.string ⟨#[]⟩):=fq.cell 6;have z7:w9.cell? ⟨X,7,none⟩=some (.string nd.data):=fq.cell 7;have z8:w9.cell? ⟨X,8,none⟩=some (.bool false):=fq.cell 8;have z9:w9.cell? ⟨X,9,none⟩=some (.int .i64 (cc:Int)):=fq.cell 9;have WI:w9.cell? ⟨X,10,none⟩=some (.int .i64 (rl:Int)):=fq.cell 10;clear hput hX fq Sq g9 pY hbc qW hbd kV kX;go_wp2_with fail;refine wp_region_noPanic ?_;refine wp_region_held_drew (S:=(fun W=>True)) (by kernel_rfl) ?_ (fun ah=>?_)
  ·exact trivial
  refine bE [0,1,2,3,5,7,9,10,11,13] ?_;iterate 10 (refine jf ?_;try simp only[pS])
  refine bF ?_;apply yU
  ·intro KEY;refine yg 4 12 (fun K hK=>?_) fun K hK=>?_
   ·go_simp;refine hK.out _ _ (trivial) fun ah=>?_;clear hK K;(try simp only[pS]);refine bE [6,8] ?_;iterate 2 (refine jf ?_;try simp only[pS])
    refine bF ?_;refine bI 12 fun K hK=>?_;go_simp;refine hK.out _ _ (trivial) fun ah=>?_;clear hK K;(try simp only[pS]);refine bE [14] ?_
    (refine jf ?_;try simp only[pS])
    refine bF ?_;exact KEY
   ·go_simp;refine hK.out _ _ (trivial) fun ah=>?_;clear hK K;(try simp only[pS]);refine bE [14] ?_
    (refine jf ?_;try simp only[pS])
    refine bF ?_;refine bI 4 fun K hK=>?_;go_simp;refine hK.out _ _ (trivial) fun ah=>?_;clear hK K;(try simp only[pS]);refine bE [6,8] ?_;iterate 2 (refine jf ?_;try simp only[pS])
    refine bF ?_;exact KEY
  refine bE [15,16,17] ?_;iterate 3 (refine jf ?_;try simp only[pS])
  refine bF ?_;refine bI 18 fun K hK=>?_;go_simp;(try rw[wu]);refine hK.out _ _ (trivial) fun ah=>?_;clear hK K;(try simp only[pS]);refine gq ?_;go_wp2_with fail;go_ret2;obtain⟨e1,e2,e3,e4,e5⟩:=bf.out;rw[rX.out.1,rX.out.2.2.1,rX.out.2.2.2,rX.out.2.1];exact⟨_,rfl,e1,e2,e3,e4,e5⟩
theorem Dq (base B:Nat) (b s root h:Int) (I C:Nat) (live n:Nat) (g:Tr.G) (av:Int→Tr.Sl) (fr:List Nat) (vs vf:Value) (nd:Tr.GN) (v:ByteArray) (w:World) (hm:TV base w B b s vs n (Tr.raw g av) vf fr live root) (hS:Sound b s n (Tr.raw g av) fr live) (ha:AT w g av) (eg:g h=some nd) (hk:nd.kind=4) (hd:bD.rep nd.data.data.toList=nd.data.data.toList) (hz:nd.data.size≤8000) (hI:I≤(iM nd.data).length) (hC:C≤2000000) (hv:v.size≤8000) (mQ:(aX v).size≤10000) (hT:Lit w):
  Calls Tryz.prog 22 #[.pointer (some ⟨B,0,none⟩),.int .i64 h,.int .i64 (I:Int),.int .i64 (C:Int),.string v] w fun e w'=>∃ r,e=.returned (.tuple #[r,.int .i64 0])∧bG w.heap.size w' r [sK h I nd.data ((min C ((iM nd.data).length - I):Nat):Int) ((iM (aX v)).length:Nat)]∧
   TV base w' B b s vs n (Tr.raw (Tr.cB g h fun n=>{ n with data:=jo nd.data I C v }) av) vf fr live root∧Sound b s n (Tr.raw (Tr.cB g h fun n=>{ n with data:=jo nd.data I C v }) av) fr live∧
   AT w' (Tr.cB g h fun n=>{ n with data:=jo nd.data I C v }) av∧aB w w' (aD B vs vf) (aD B vs vf):=by
 have hgood:=bD.bZ nd.data.data.toList;have iG:=sM hd;have hfl:(iM nd.data).flatten.length=nd.data.size:=by rw[←iG];rfl
 obtain⟨len,hlen⟩:=eX ((iM nd.data).length)
 have hll:len≤nd.data.size:=by rw[←hlen];exact yJ _
 obtain⟨cc,hcc⟩:=eX (min C (len - I))
 have hmin:min (C:Int) ((len:Int) - (I:Int))=(cc:Int):=by omega
 obtain⟨st,hst⟩:=eX (jk (iM nd.data) I)
 have aaB:st≤nd.data.size:=by rw[←hst,←hfl];exact tH _ _
 obtain⟨dl,hdl⟩:=eX (jk ((iM nd.data).drop I) cc)
 have hdrop:(iM nd.data).flatten.drop st=((iM nd.data).drop I).flatten:=by rw[←hst];exact pU _ _
 have aaC:st+dl≤nd.data.size:=by
  have h1:=tH ((iM nd.data).drop I) cc;rw[hdl,←hdrop,List.length_drop,hfl] at h1;omega
 have HL:=zh (fun W=>rW nd.data W (by omega));rw[show (bD.chunks nd.data.data.toList).length=len from hlen] at HL;have Oj:=zh (fun W=>qE nd.data (iM nd.data) I W (by omega) (by omega) hgood iG);rw[hst] at Oj;have hsub:(nd.data.extract st nd.data.size).data.toList=((iM nd.data).drop I).flatten:=by rw[←hdrop,←iG];exact extract_drop _ _
 have FR:(nd.data.extract st nd.data.size).size≤20000:=by
  have:(nd.data.extract st nd.data.size).size=(nd.data.extract st nd.data.size).data.toList.length:=rfl;rw[this,hsub,←hdrop,List.length_drop,hfl];omega
 have Uf:=zh (fun W=>qE (nd.data.extract st nd.data.size) ((iM nd.data).drop I) cc W FR (by omega) (fun c hc=>hgood c (List.mem_of_mem_drop hc)) hsub);rw[hdl] at Uf;obtain⟨rv,tY⟩:=eX (aX v)
 rw[tY] at mQ;have HR:=zh (fun (W:World) (hT:Lit W)=>ig v W (by omega) hT);rw[show fA (bD.rep v.data.toList)=rv from tY] at HR;have Qg:=zh (fun W=>rW rv W mQ);obtain⟨rl,hrl⟩:=eX ((bD.chunks rv.data.toList).length)
 rw[hrl] at Qg;have hnew:jo nd.data I C v=nd.data.extract 0 st++rv++nd.data.extract (st+dl) nd.data.size:=by
  rw[←tY];exact FQ iG hlen (by omega) hcc hst hdl
 have rX:=zh (And.intro hnew (And.intro (show (iM (aX v)).length=rl by rw[tY];exact hrl) (And.intro hlen hcc)));have HM:=zh (fun (W:World) (hb:Below w.heap.size w W)=>hm.below hb);have HA:=zh (fun (W:World) (hb:Below w.heap.size w W)=>gZ base B b s root h live n _ fr vs vf _ W (hm.below hb) hS (Tr.aj eg));have HAT:=zh (fun (W:World) (hb:Below w.heap.size w W)=>(ha.below hb));have rA:=zh (fun (W:World) (hb:Below w.heap.size w W)=>hT.below hb);have K3:=zh hm.lt;have gI:=zh hS;have nX:=zh eg;have q0:(nd.kind == 0)=false:=by simp[hk]
 have q3:(nd.kind != 3)=true:=by simp[hk]
 have q4:(nd.kind != 4)=false:=by simp[hk]
 have r0:¬ (I:Int)<0:=by omega
 have r1:¬ (len:Int)<(I:Int):=by omega
 have r2:¬ (C:Int)<0:=by omega
 have r3:(0:Int)≤(st:Int):=by omega
 have r4:(st:Int)≤(nd.data.size:Int):=by omega
 clear hm hS ha hk hd hT hnew hrl hlen hgood iG hfl hsub FR hdrop hdl hst hcc
 go_enter Tryz.func22,Tryz.ntmps22
 go_wp2_with fail;refine (HA.out w (Below.refl _ w)).mono ?_;rintro e w1 ⟨gb,o,rfl,hpt,hb1⟩;obtain⟨t0,_,_,t3,_⟩:=((HM.out w1 hb1).np hpt (Tr.aj nX.out)).cells;have t0':w1.cell? ⟨gb,o,none⟩=some (.int .i64 nd.kind):=t0;have QB:w1.cell? ⟨gb,o+3,none⟩=some (.string nd.data):=t3;have HB1:=zh hb1;have yE:=zh hpt;clear t0 t3 hb1 hpt HA;have wz:=zh (fun (W:World) (hb:Below w.heap.size w W)=>(show W.cell? ⟨gb,o,none⟩=some (.int .i64 nd.kind)∧W.cell? ⟨gb,o+3,none⟩=some (.string nd.data) from⟨((HM.out W hb).np yE.out (Tr.aj nX.out)).cells.1,((HM.out W hb).np yE.out (Tr.aj nX.out)).cells.2.2.2.1⟩));go_wp2_with fail;refine (HL.out w1).mono ?_;rintro e w2 ⟨rfl,hb2⟩;have HB2:=zh (HB1.out.trans (hb2.mono HB1.out.size));obtain⟨t0,t3⟩:=wz.out w2 HB2.out;clear t0' QB hb2 HL;go_wp2_with fail;refine (Oj.out w2).mono ?_;rintro e w3 ⟨rfl,hb3⟩;have HB3:=zh (HB2.out.trans (hb3.mono HB2.out.size));obtain⟨-,QB⟩:=wz.out w3 HB3.out;clear t0 t3 hb3 Oj;go_wp2_with fail;refine (Uf.out w3).mono ?_;rintro e w4 ⟨rfl,hb4⟩;have uy:=zh (HB3.out.trans (hb4.mono HB3.out.size));obtain⟨-,t3⟩:=wz.out w4 uy.out;clear QB hb4 Uf;go_wp2_with fail;refine (HR.out w4 (rA.out w4 uy.out)).mono ?_;rintro e w5 ⟨rfl,hb5⟩;have oK:=zh (uy.out.trans (hb5.mono uy.out.size));obtain⟨-,QB⟩:=wz.out w5 oK.out;clear t3 hb5 HR;have u1:¬ (1048576:Int)<(nd.data.size:Int) - ((st:Int)+(dl:Int) - (st:Int))+(rv.size:Int):=by omega
 have u2:¬ (1048576:Int)<(nd.data.size:Int) - (dl:Int)+(rv.size:Int):=by omega
 go_wp2_with fail;obtain⟨V,hV⟩:=eX (w5.drew)
 have oW:Below w5.heap.size w5 V:=qd hV;have bW:=zh (oK.out.trans (oW.mono oK.out.size));obtain⟨X1,hX1⟩:=eX (V.alloc (.cells #[.int .i64 0,.int .i64 0,.int .i64 0,.int .i64 0,.int .i64 0,.int .i64 0,.string ⟨#[]⟩,.string ⟨#[]⟩,.bool false,.int .i64 0,.int .i64 0] 48))
 have yH:Below V.heap.size V X1:=gP hX1;have yj:=zh (bW.out.trans (yH.mono bW.out.size));have P7:Hid (Whole X1 V.heap.size #[.int .i64 0,.int .i64 0,.int .i64 0,.int .i64 0,.int .i64 0,.int .i64 0,.string ⟨#[]⟩,.string ⟨#[]⟩,.bool false,.int .i64 0,.int .i64 0] 48):=zh (by rw[←hX1];exact Whole.new V _ _);have kV:=(wz.out V bW.out).2;have kX:=(wz.out X1 yj.out).2;clear oW yH
 go_cut [16] from 16 (fun u wc=>∃ X,u=.pointer (some ⟨X,0,none⟩)∧Whole wc X #[.int .i64 4,.int .i64 h,.int .i64 0,.int .i64 0,.int .i64 0,.int .i64 (I:Int),.string ⟨#[]⟩,.string nd.data,.bool false,.int .i64 (cc:Int),.int .i64 (rl:Int)] 48∧w.heap.size≤X∧Below w.heap.size w wc)
 case first=>
  rename_i J0 K0 hJ0 jg;refine wp_region_noPanic ?_;refine wp_region_held_drew (S:=(fun W=>W.cell? ⟨gb,o+3,none⟩=some (.string nd.data))) (by kernel_rfl) ?_ (fun ah=>?_)
  ·exact (by rw[hV];exact kV)
  rw[hV] at ah ⊢;refine bE [0,1,2,3,4,5,6,7] ?_;iterate 8 (refine jf ?_;try simp only[pS])
  refine bF ?_;refine yg 8 10 (fun K hK=>?_) fun K hK=>?_
  ·go_simp;refine (Qg.out V).mono ?_;rintro e w6 ⟨rfl,hb6⟩;have qb:=zh (bW.out.trans (hb6.mono bW.out.size));have k6:=(wz.out w6 qb.out).2;clear hb6;refine hK.out _ _ (k6) fun ah=>?_;clear hK K;(try simp only[pS]);refine bE [9] ?_
   (refine jf ?_;try simp only[pS])
   refine bF ?_;refine bI 10 fun K hK=>?_;go_simp;obtain⟨w7,hw7⟩:=eX (w6.alloc (.cells #[.int .i64 0,.int .i64 0,.int .i64 0,.int .i64 0,.int .i64 0,.int .i64 0,.string ⟨#[]⟩,.string ⟨#[]⟩,.bool false,.int .i64 0,.int .i64 0] 48))
   have aP:Whole w7 w6.heap.size #[.int .i64 0,.int .i64 0,.int .i64 0,.int .i64 0,.int .i64 0,.int .i64 0,.string ⟨#[]⟩,.string ⟨#[]⟩,.bool false,.int .i64 0,.int .i64 0] 48:=by rw[←hw7];exact Whole.new w6 _ _
   have ng:Below w6.heap.size w6 w7:=gP hw7;have hs6:=qb.out.size;have kC:=zh (qb.out.trans (ng.mono qb.out.size));have k7:=(wz.out w7 kC.out).2;(try rw[hw7]);obtain⟨w8,hw8,zG,g8⟩:=kG aP (.int .i64 4) (.int .i64 h) (.int .i64 0) (.int .i64 0) (.int .i64 0) (.int .i64 (I:Int)) (.string ⟨#[]⟩) (.string nd.data) (.bool false) (.int .i64 (cc:Int)) (.int .i64 (rl:Int));have jr:=(kC.out).grown g8 (kC.out).size (fun j hj=>by injection hj with hj;omega);have k8:=(wz.out w8 jr).2;have kD:=zh (And.intro zG (And.intro (show w.heap.size≤w6.heap.size by omega) jr));have y0:w7.cell? ⟨w6.heap.size,0,none⟩=some (.int .i64 0):=aP.cell 0;have AU:=aP.free 0;have y1:w7.cell? ⟨w6.heap.size,1,none⟩=some (.int .i64 0):=aP.cell 1;have AV:=aP.free 1;have y2:w7.cell? ⟨w6.heap.size,2,none⟩=some (.int .i64 0):=aP.cell 2;have AX:=aP.free 2;have y3:w7.cell? ⟨w6.heap.size,3,none⟩=some (.int .i64 0):=aP.cell 3;have AY:=aP.free 3;have y4:w7.cell? ⟨w6.heap.size,4,none⟩=some (.int .i64 0):=aP.cell 4;have AZ:=aP.free 4;have y5:w7.cell? ⟨w6.heap.size,5,none⟩=some (.int .i64 0):=aP.cell 5;have Ba:=aP.free 5;have y6:w7.cell? ⟨w6.heap.size,6,none⟩=some (.string ⟨#[]⟩):=aP.cell 6;have Bb:=aP.free 6;have y7:w7.cell? ⟨w6.heap.size,7,none⟩=some (.string ⟨#[]⟩):=aP.cell 7;have Bc:=aP.free 7;have y8:w7.cell? ⟨w6.heap.size,8,none⟩=some (.bool false):=aP.cell 8;have Bd:=aP.free 8;have y9:w7.cell? ⟨w6.heap.size,9,none⟩=some (.int .i64 0):=aP.cell 9;have EM:=aP.free 9;have wH:w7.cell? ⟨w6.heap.size,10,none⟩=some (.int .i64 0):=aP.cell 10;have rF:=aP.free 10;clear aP zG g8 jr;clear ng;refine hK.out _ _ (k7) fun ah=>?_;clear hK K;(try simp only[pS]);refine bI 11 fun K hK=>?_;go_simp;(try rw[hw8]);refine hK.out _ _ (k8) fun ah=>?_;clear hK K;(try simp only[pS]);refine gq ?_;exact jg _ _ (Met.intro (hJ0 _ _ ⟨_,_,_,_,_,_,_,_,_,_,_,_,_,_,_,_,_,_,_,_,_,_,_,_,_,_,_,_,_,_,_,_,_,_,_,_,_,_,_,_,_,_,_,_,_,_,_,_,_,_,_,_,_,_,_,_,_,_,_,_,_,_,_,_,_,_,_,_,_,_,_,_,_,_,_,_,_,_,_,_,_,_,_,_,_,_,_,_,_,_,_,_,_,_,_,_,_,_,_,_,_,_,_,_,_,_,⟨_,rfl,kD.out⟩,rfl⟩))
  ·go_simp;(try rw[hX1]);refine hK.out _ _ (kX) fun ah=>?_;clear hK K;(try simp only[pS]);refine bI 8 fun K hK=>?_;go_simp;refine (Qg.out X1).mono ?_;rintro e w6 ⟨rfl,hb6⟩;have qb:=zh (yj.out.trans (hb6.mono yj.out.size));have k6:=(wz.out w6 qb.out).2;have aP:=P7.out.below hb6 P7.out.lt;have hs6:=bW.out.size;clear hb6;obtain⟨w8,hw8,zG,g8⟩:=kG aP (.int .i64 4) (.int .i64 h) (.int .i64 0) (.int .i64 0) (.int .i64 0) (.int .i64 (I:Int)) (.string ⟨#[]⟩) (.string nd.data) (.bool false) (.int .i64 (cc:Int)) (.int .i64 (rl:Int));have jr:=(qb.out).grown g8 (qb.out).size (fun j hj=>by injection hj with hj;omega);have k8:=(wz.out w8 jr).2;have kD:=zh (And.intro zG (And.intro (show w.heap.size≤V.heap.size by omega) jr));have y0:w6.cell? ⟨V.heap.size,0,none⟩=some (.int .i64 0):=aP.cell 0;have AU:=aP.free 0;have y1:w6.cell? ⟨V.heap.size,1,none⟩=some (.int .i64 0):=aP.cell 1;have AV:=aP.free 1;have y2:w6.cell? ⟨V.heap.size,2,none⟩=some (.int .i64 0):=aP.cell 2;have AX:=aP.free 2;have y3:w6.cell? ⟨V.heap.size,3,none⟩=some (.int .i64 0):=aP.cell 3;have AY:=aP.free 3;have y4:w6.cell? ⟨V.heap.size,4,none⟩=some (.int .i64 0):=aP.cell 4;have AZ:=aP.free 4;have y5:w6.cell? ⟨V.heap.size,5,none⟩=some (.int .i64 0):=aP.cell 5;have Ba:=aP.free 5;have y6:w6.cell? ⟨V.heap.size,6,none⟩=some (.string ⟨#[]⟩):=aP.cell 6;have Bb:=aP.free 6;have y7:w6.cell? ⟨V.heap.size,7,none⟩=some (.string ⟨#[]⟩):=aP.cell 7;have Bc:=aP.free 7;have y8:w6.cell? ⟨V.heap.size,8,none⟩=some (.bool false):=aP.cell 8;have Bd:=aP.free 8;have y9:w6.cell? ⟨V.heap.size,9,none⟩=some (.int .i64 0):=aP.cell 9;have EM:=aP.free 9;have wH:w6.cell? ⟨V.heap.size,10,none⟩=some (.int .i64 0):=aP.cell 10;have rF:=aP.free 10;clear aP zG g8 jr;refine hK.out _ _ (k6) fun ah=>?_;clear hK K;(try simp only[pS]);refine bE [9] ?_
   (refine jf ?_;try simp only[pS])
   refine bF ?_;refine bI 11 fun K hK=>?_;go_simp;(try rw[hw8]);refine hK.out _ _ (k8) fun ah=>?_;clear hK K;(try simp only[pS]);refine gq ?_;exact jg _ _ (Met.intro (hJ0 _ _ ⟨_,_,_,_,_,_,_,_,_,_,_,_,_,_,_,_,_,_,_,_,_,_,_,_,_,_,_,_,_,_,_,_,_,_,_,_,_,_,_,_,_,_,_,_,_,_,_,_,_,_,_,_,_,_,_,_,_,_,_,_,_,_,_,_,_,_,_,_,_,_,_,_,_,_,_,_,_,_,_,_,_,_,_,_,_,_,_,_,_,_,_,_,_,_,_,_,_,_,_,_,_,_,_,_,_,_,⟨_,rfl,kD.out⟩,rfl⟩))
 case rest=>
  obtain⟨X,rfl,hX,Wm,hbc⟩:=hcut;have kc:=(wz.out wc hbc).2;obtain⟨s0,s1⟩:=(HM.out wc hbc).np yE.out (Tr.aj nX.out) 3 (by omega);have hgw:gb<w.heap.size:=(K3.out gb yE.out.foot).2;have hput:=(HM.out wc hbc).vD gI.out (HAT.out wc hbc) yE.out nX.out (jo nd.data I C v);rw[rX.out.1] at hput;obtain⟨w9,wu⟩:=eX (wc.drew.setCell ⟨gb,o+3,none⟩ (.string (nd.data.extract 0 st++rv++nd.data.extract (st+dl) nd.data.size)))
  have hbd:Below wc.heap.size wc wc.drew:=⟨rfl,rfl,rfl,Nat.le_refl _,fun _ _=>rfl⟩
  have qW:=hbc.trans (hbd.mono hbc.size);have hput:=(HM.out wc.drew qW).vD gI.out (HAT.out wc.drew qW) yE.out nX.out (nd.data.extract 0 st++rv++nd.data.extract (st+dl) nd.data.size);rw[wu] at hput;have kd:wc.drew.cell? ⟨gb,o+3,none⟩=some (.string nd.data):=kc;have sd:wc.drew.frozen? ⟨gb,o+3,none⟩=false:=s1;have Sq:=hX.below hbd hX.lt;have fq:Whole w9 X #[.int .i64 4,.int .i64 h,.int .i64 0,.int .i64 0,.int .i64 0,.int .i64 (I:Int),.string ⟨#[]⟩,.string nd.data,.bool false,.int .i64 (cc:Int),.int .i64 (rl:Int)] 48:=by rw[←wu];exact Sq.other (by show X≠gb;omega) _
  have g9:wc.drew.grownBy w9 (some gb):=by rw[←wu];exact aK (au (Below.refl wc.drew.heap.size wc.drew) _) _ _
  have Bl:w.heap.size≤w9.heap.size:=Nat.le_trans qW.size g9.size;have pY:=(Below.refl _ w9).alloc (Nat.le_refl _) (.cells #[.int .i64 4,.int .i64 h,.int .i64 0,.int .i64 0,.int .i64 0,.int .i64 (I:Int),.string ⟨#[]⟩,.string nd.data,.bool false,.int .i64 (cc:Int),.int .i64 (rl:Int)] 48);have bf:=zh (And.intro (mO w9 (sK h I nd.data (cc:Int) (rl:Int)) w.heap.size Bl) (And.intro (hput.1.below pY) (And.intro hput.2.1 (And.intro (hput.2.2.1.below pY) (((aB.of_below qW).trans hput.2.2.2).trans (.of_below pY))))));have d1:∀ W:World,(Op.stringOp .add (nd.data.extract 0 st) rv).run Tryz.prog W=.ok (.string (nd.data.extract 0 st++rv)) W:=fun W=>run_string_add_sum W _ _ (by have:=extract_size nd.data 0 st;omega);have d2:∀ W:World,(Op.stringOp .add (nd.data.extract 0 st++rv) (nd.data.extract (st+dl) nd.data.size)).run Tryz.prog W=.ok (.string (nd.data.extract 0 st++rv++nd.data.extract (st+dl) nd.data.size)) W:=fun W=>run_string_add_sum W _ _ (by have:=extract_size nd.data 0 st;have:=extract_size nd.data (st+dl) nd.data.size;rw[ByteArray.size_append];omega);have u5:((st:Int)+(dl:Int)).toNat=st+dl:=by omega
  have u6:¬ 9223372036854775807<st+rv.size+(nd.data.size - (st+dl)):=by omega
  have u3:(0:Int)≤(st:Int)+(dl:Int):=by omega
  have u4:(st:Int)+(dl:Int)≤(nd.data.size:Int):=by omega
  have z0:w9.cell? ⟨X,0,none⟩=some (.int .i64 4):=fq.cell 0;have z1:w9.cell? ⟨X,1,none⟩=some (.int .i64 h):=fq.cell 1;have z2:w9.cell? ⟨X,2,none⟩=some (.int .i64 0):=fq.cell 2;have z3:w9.cell? ⟨X,3,none⟩=some (.int .i64 0):=fq.cell 3;have z4:w9.cell? ⟨X,4,none⟩=some (.int .i64 0):=fq.cell 4;have z5:w9.cell? ⟨X,5,none⟩=some (.int .i64 (I:Int)):=fq.cell 5;have z6:w9.cell? ⟨X,6,none⟩=some (.string ⟨#[]⟩):=fq.cell 6;have z7:w9.cell? ⟨X,7,none⟩=some (.string nd.data):=fq.cell 7;have z8:w9.cell? ⟨X,8,none⟩=some (.bool false):=fq.cell 8;have z9:w9.cell? ⟨X,9,none⟩=some (.int .i64 (cc:Int)):=fq.cell 9;have WI:w9.cell? ⟨X,10,none⟩=some (.int .i64 (rl:Int)):=fq.cell 10;clear hput hX fq Sq g9 pY hbc qW hbd kV kX;go_wp2_with fail;refine wp_region_noPanic ?_;refine wp_region_held_drew (S:=(fun W=>True)) (by kernel_rfl) ?_ (fun ah=>?_)
  ·exact trivial
  refine bE [0,1,2,3,5,7,9,10,11,13] ?_;iterate 10 (refine jf ?_;try simp only[pS])
  refine bF ?_;apply yU
  ·intro KEY;refine yg 4 12 (fun K hK=>?_) fun K hK=>?_
   ·go_simp;refine hK.out _ _ (trivial) fun ah=>?_;clear hK K;(try simp only[pS]);refine bE [6,8] ?_;iterate 2 (refine jf ?_;try simp only[pS])
    refine bF ?_;refine bI 12 fun K hK=>?_;go_simp;refine hK.out _ _ (trivial) fun ah=>?_;clear hK K;(try simp only[pS]);refine bE [14] ?_
    (refine jf ?_;try simp only[pS])
    refine bF ?_;exact KEY
   ·go_simp;refine hK.out _ _ (trivial) fun ah=>?_;clear hK K;(try simp only[pS]);refine bE [14] ?_
    (refine jf ?_;try simp only[pS])
    refine bF ?_;refine bI 4 fun K hK=>?_;go_simp;refine hK.out _ _ (trivial) fun ah=>?_;clear hK K;(try simp only[pS]);refine bE [6,8] ?_;iterate 2 (refine jf ?_;try simp only[pS])
    refine bF ?_;exact KEY
  refine bE [15,16,17] ?_;iterate 3 (refine jf ?_;try simp only[pS])
  refine bF ?_;refine bI 18 fun K hK=>?_;go_simp;(try rw[wu]);refine hK.out _ _ (trivial) fun ah=>?_;clear hK K;(try simp only[pS]);refine gq ?_;go_wp2_with fail;go_ret2;obtain⟨e1,e2,e3,e4,e5⟩:=bf.out;rw[rX.out.1,rX.out.2.2.1,rX.out.2.2.2,rX.out.2.1];exact⟨_,rfl,e1,e2,e3,e4,e5⟩
end
end Go.Proofs.YtnbaadpgbcklaaaGreatDoor
