/- Part of a proof about trees. -/
import Derived.Test.YtmhjlifmcadefaaGreatDoorS03
set_option linter.unusedVariables false
set_option linter.unusedSimpArgs false
set_option maxHeartbeats 4000000
set_option maxRecDepth 100000
namespace Go.Proofs.YtmhjlifmcadefaaGreatDoor
section
open Go.RowKit
theorem qD (s:ByteArray) (i e:Nat):(s.extract i e).data.toList=(s.data.toList.drop i).take (e - i):=by
 rw[ByteArray.data_extract,Array.toList_extract,List.extract_eq_take_drop]
theorem extract_drop (s:ByteArray) (i:Nat):(s.extract i s.size).data.toList=s.data.toList.drop i:=by
 rw[qD,List.take_of_length_le];rw[List.length_drop];exact Nat.le_refl _
theorem Gw {d v:ByteArray} {I C cc st dl len:Nat} (iH:d.data.toList=(iL d).flatten) (hlen:(iL d).length=len) (hI:I≤len) (hcc:min C (len - I)=cc) (hst:jq (iL d) I=st) (hdl:jq ((iL d).drop I) cc=dl):jB d I C v=d.extract 0 st++aZ v++d.extract (st+dl) d.size:=by
 have h1:(d.extract 0 st).data.toList=((iL d).take I).flatten:=by rw[qD,List.drop_zero,Nat.sub_zero,iH,←hst,Na]
 have h2:(d.extract (st+dl) d.size).data.toList=((iL d).drop (I+C)).flatten:=by
  rw[extract_drop,iH,←List.drop_drop,←hst,pU,←hdl,pU,List.drop_drop];by_cases h:C≤len - I
  ·rw[show cc=C by omega]
  ·rw[List.drop_of_length_le (by omega),List.drop_of_length_le (by omega)]
 unfold jB;rw[←h1,←h2,←l6,←l6,tC,tC,tC]
theorem extract_size (s:ByteArray) (i e:Nat):(s.extract i e).size≤s.size:=by
 have h:(s.extract i e).size=(s.extract i e).data.toList.length:=rfl;rw[h,qD,List.length_take,List.length_drop];have:s.data.toList.length=s.size:=rfl;omega
theorem sJ {d:ByteArray} (h:bB.rep d.data.toList=d.data.toList):d.data.toList=(iL d).flatten:=h.symm
theorem zq (d:ByteArray):(iL d).length≤d.size:=bB.iY _
theorem Ey (base B:Nat) (b s root h:Int) (I C:Nat) (live n:Nat) (g:Tr.G) (av:Int→Tr.Sl) (fr:List Nat) (vs vf:Value) (nd:Tr.GN) (v:ByteArray) (w:World) (hm:TV base w B b s vs n (Tr.raw g av) vf fr live root) (hS:Sound b s n (Tr.raw g av) fr live) (ha:AT w g av) (eg:g h=some nd) (hk:nd.kind=3) (hd:bB.rep nd.data.data.toList=nd.data.data.toList) (hz:nd.data.size≤8000) (hI:I≤(iL nd.data).length) (hC:C≤2000000) (hv:v.size≤8000) (mW:(aZ v).size≤10000) (hT:Lit w):
  Calls Tryz.prog 41 #[.pointer (some ⟨B,0,none⟩),.int .i64 h,.int .i64 (I:Int),.int .i64 (C:Int),.string v] w fun e w'=>∃ r,e=.returned (.tuple #[r,.int .i64 0])∧bL w.heap.size w' r [sI h I nd.data ((min C ((iL nd.data).length - I):Nat):Int) ((iL (aZ v)).length:Nat)]∧
   TV base w' B b s vs n (Tr.raw (Tr.cK g h fun n=>{ n with data:=jB nd.data I C v }) av) vf fr live root∧Sound b s n (Tr.raw (Tr.cK g h fun n=>{ n with data:=jB nd.data I C v }) av) fr live∧
   AT w' (Tr.cK g h fun n=>{ n with data:=jB nd.data I C v }) av∧aB w w' (aD B vs vf) (aD B vs vf):=by
 have hgood:=bB.bV nd.data.data.toList;have iH:=sJ hd;have hfl:(iL nd.data).flatten.length=nd.data.size:=by rw[←iH];rfl
 obtain⟨len,hlen⟩:=eX ((iL nd.data).length)
 have hll:len≤nd.data.size:=by rw[←hlen];exact zq _
 obtain⟨cc,hcc⟩:=eX (min C (len - I))
 have hmin:min (C:Int) ((len:Int) - (I:Int))=(cc:Int):=by omega
 obtain⟨st,hst⟩:=eX (jq (iL nd.data) I)
 have aaP:st≤nd.data.size:=by rw[←hst,←hfl];exact tF _ _
 obtain⟨dl,hdl⟩:=eX (jq ((iL nd.data).drop I) cc)
 have hdrop:(iL nd.data).flatten.drop st=((iL nd.data).drop I).flatten:=by rw[←hst];exact pU _ _
 have aaQ:st+dl≤nd.data.size:=by
  have h1:=tF ((iL nd.data).drop I) cc;rw[hdl,←hdrop,List.length_drop,hfl] at h1;omega
 have HL:=zh (fun W=>pV nd.data W (by omega));rw[show (bB.chunks nd.data.data.toList).length=len from hlen] at HL;have PE:=zh (fun W=>qE nd.data (iL nd.data) I W (by omega) (by omega) hgood iH);rw[hst] at PE;have hsub:(nd.data.extract st nd.data.size).data.toList=((iL nd.data).drop I).flatten:=by rw[←hdrop,←iH];exact extract_drop _ _
 have Gx:(nd.data.extract st nd.data.size).size≤20000:=by
  have:(nd.data.extract st nd.data.size).size=(nd.data.extract st nd.data.size).data.toList.length:=rfl;rw[this,hsub,←hdrop,List.length_drop,hfl];omega
 have RB:=zh (fun W=>qE (nd.data.extract st nd.data.size) ((iL nd.data).drop I) cc W Gx (by omega) (fun c hc=>hgood c (List.mem_of_mem_drop hc)) hsub);rw[hdl] at RB;obtain⟨rv,uj⟩:=eX (aZ v)
 rw[uj] at mW;have HR:=zh (fun (W:World) (hT:Lit W)=>gY v W (by omega) hT);rw[show fB (bB.rep v.data.toList)=rv from uj] at HR;have RD:=zh (fun W=>pV rv W mW);obtain⟨rl,hrl⟩:=eX ((bB.chunks rv.data.toList).length)
 rw[hrl] at RD;have hnew:jB nd.data I C v=nd.data.extract 0 st++rv++nd.data.extract (st+dl) nd.data.size:=by
  rw[←uj];exact Gw iH hlen (by omega) hcc hst hdl
 have rM:=zh (And.intro hnew (And.intro (show (iL (aZ v)).length=rl by rw[uj];exact hrl) (And.intro hlen hcc)));have HM:=zh (fun (W:World) (hb:Below w.heap.size w W)=>hm.below hb);have HA:=zh (fun (W:World) (hb:Below w.heap.size w W)=>gW base B b s root h live n _ fr vs vf _ W (hm.below hb) hS (Tr.aj eg));have HAT:=zh (fun (W:World) (hb:Below w.heap.size w W)=>(ha.below hb));have uJ:=zh (fun (W:World) (hb:Below w.heap.size w W)=>hT.below hb);have MB:=zh hm.lt;have gV:=zh hS;have qg:=zh eg;have q0:(nd.kind == 0)=false:=by simp[hk]
 have q3:(nd.kind != 3)=false:=by simp[hk]
 have r0:¬ (I:Int)<0:=by omega
 have r1:¬ (len:Int)<(I:Int):=by omega
 have r2:¬ (C:Int)<0:=by omega
 have r3:(0:Int)≤(st:Int):=by omega
 have r4:(st:Int)≤(nd.data.size:Int):=by omega
 clear hm hS ha hk hd hT hnew hrl hlen hgood iH hfl hsub Gx hdrop hdl hst hcc
 go_enter Tryz.func41,Tryz.ntmps41
 go_wp2_with fail;refine (HA.out w (Below.refl _ w)).mono ?_;rintro e w1 ⟨gb,o,rfl,hpt,hb1⟩;obtain⟨t0,_,_,t3,_⟩:=((HM.out w1 hb1).np hpt (Tr.aj qg.out)).cells;have t0':w1.cell? ⟨gb,o,none⟩=some (.int .i64 nd.kind):=t0;have Si:w1.cell? ⟨gb,o+3,none⟩=some (.string nd.data):=t3;have HB1:=zh hb1;have yY:=zh hpt;clear t0 t3 hb1 hpt HA;have wP:=zh (fun (W:World) (hb:Below w.heap.size w W)=>(show W.cell? ⟨gb,o,none⟩=some (.int .i64 nd.kind)∧W.cell? ⟨gb,o+3,none⟩=some (.string nd.data) from⟨((HM.out W hb).np yY.out (Tr.aj qg.out)).cells.1,((HM.out W hb).np yY.out (Tr.aj qg.out)).cells.2.2.2.1⟩));go_wp2_with fail;refine (HL.out w1).mono ?_;rintro e w2 ⟨rfl,hb2⟩;have HB2:=zh (HB1.out.trans (hb2.mono HB1.out.size));obtain⟨t0,t3⟩:=wP.out w2 HB2.out;clear t0' Si hb2 HL;go_wp2_with fail;refine (PE.out w2).mono ?_;rintro e w3 ⟨rfl,hb3⟩;have HB3:=zh (HB2.out.trans (hb3.mono HB2.out.size));obtain⟨-,Si⟩:=wP.out w3 HB3.out;clear t0 t3 hb3 PE;go_wp2_with fail;refine (RB.out w3).mono ?_;rintro e w4 ⟨rfl,hb4⟩;have jy:=zh (HB3.out.trans (hb4.mono HB3.out.size));obtain⟨-,t3⟩:=wP.out w4 jy.out;clear Si hb4 RB;go_wp2_with fail;refine (HR.out w4 (uJ.out w4 jy.out)).mono ?_;rintro e w5 ⟨rfl,hb5⟩;have jg:=zh (jy.out.trans (hb5.mono jy.out.size));obtain⟨-,Si⟩:=wP.out w5 jg.out;clear t3 hb5 HR;have u1:¬ (1048576:Int)<(nd.data.size:Int) - ((st:Int)+(dl:Int) - (st:Int))+(rv.size:Int):=by omega
 have u2:¬ (1048576:Int)<(nd.data.size:Int) - (dl:Int)+(rv.size:Int):=by omega
 go_wp2_with fail;obtain⟨V,hV⟩:=eX (w5.drew)
 have sQ:Below w5.heap.size w5 V:=lW hV;have bK:=zh (jg.out.trans (sQ.mono jg.out.size));obtain⟨X1,hX1⟩:=eX (V.alloc (.cells #[.int .i64 0,.int .i64 0,.int .i64 0,.int .i64 0,.int .i64 0,.int .i64 0,.string ⟨#[]⟩,.string ⟨#[]⟩,.bool false,.int .i64 0,.int .i64 0] 144))
 have uz:Below V.heap.size V X1:=fI hX1;have uO:=zh (bK.out.trans (uz.mono bK.out.size));have Ru:Hid (Whole X1 V.heap.size #[.int .i64 0,.int .i64 0,.int .i64 0,.int .i64 0,.int .i64 0,.int .i64 0,.string ⟨#[]⟩,.string ⟨#[]⟩,.bool false,.int .i64 0,.int .i64 0] 144):=zh (by rw[←hX1];exact Whole.new V _ _);have kV:=(wP.out V bK.out).2;have kX:=(wP.out X1 uO.out).2;clear sQ uz
 go_cut [16] from 16 (fun u wc=>∃ X,u=.pointer (some ⟨X,0,none⟩)∧Whole wc X #[.int .i64 4,.int .i64 h,.int .i64 0,.int .i64 0,.int .i64 0,.int .i64 (I:Int),.string ⟨#[]⟩,.string nd.data,.bool false,.int .i64 (cc:Int),.int .i64 (rl:Int)] 144∧w.heap.size≤X∧Below w.heap.size w wc)
 case first=>
  rename_i J0 K0 hJ0 xW;refine wp_region_noPanic ?_;refine wp_region_held_drew (S:=(fun W=>W.cell? ⟨gb,o+3,none⟩=some (.string nd.data))) (by kernel_rfl) ?_ (fun ah=>?_)
  ·exact (by rw[hV];exact kV)
  rw[hV] at ah ⊢;refine bn [0,1,2,3,4,5,6,7] ?_;iterate 8 (refine jf ?_;try simp only[pS])
  refine bq ?_;refine zQ 8 10 (fun K hK=>?_) fun K hK=>?_
  ·go_simp;refine (RD.out V).mono ?_;rintro e w6 ⟨rfl,hb6⟩;have iQ:=zh (bK.out.trans (hb6.mono bK.out.size));have k6:=(wP.out w6 iQ.out).2;clear hb6;refine hK.out _ _ (k6) fun ah=>?_;clear hK K;(try simp only[pS]);refine bn [9] ?_
   (refine jf ?_;try simp only[pS])
   refine bq ?_;refine bG 10 fun K hK=>?_;go_simp;obtain⟨w7,hw7⟩:=eX (w6.alloc (.cells #[.int .i64 0,.int .i64 0,.int .i64 0,.int .i64 0,.int .i64 0,.int .i64 0,.string ⟨#[]⟩,.string ⟨#[]⟩,.bool false,.int .i64 0,.int .i64 0] 144))
   have aL:Whole w7 w6.heap.size #[.int .i64 0,.int .i64 0,.int .i64 0,.int .i64 0,.int .i64 0,.int .i64 0,.string ⟨#[]⟩,.string ⟨#[]⟩,.bool false,.int .i64 0,.int .i64 0] 144:=by rw[←hw7];exact Whole.new w6 _ _
   have lq:Below w6.heap.size w6 w7:=fI hw7;have hs6:=iQ.out.size;have lT:=zh (iQ.out.trans (lq.mono iQ.out.size));have k7:=(wP.out w7 lT.out).2;(try rw[hw7]);obtain⟨w8,hw8,xu,g8⟩:=kJ aL (.int .i64 4) (.int .i64 h) (.int .i64 0) (.int .i64 0) (.int .i64 0) (.int .i64 (I:Int)) (.string ⟨#[]⟩) (.string nd.data) (.bool false) (.int .i64 (cc:Int)) (.int .i64 (rl:Int));have mX:=(lT.out).grown g8 (lT.out).size (fun j hj=>by injection hj with hj;omega);have k8:=(wP.out w8 mX).2;have pq:=zh (And.intro xu (And.intro (show w.heap.size≤w6.heap.size by omega) mX));have y0:w7.cell? ⟨w6.heap.size,0,none⟩=some (.int .i64 0):=aL.cell 0;have yZ:=aL.free 0;have y1:w7.cell? ⟨w6.heap.size,1,none⟩=some (.int .i64 0):=aL.cell 1;have za:=aL.free 1;have y2:w7.cell? ⟨w6.heap.size,2,none⟩=some (.int .i64 0):=aL.cell 2;have CZ:=aL.free 2;have y3:w7.cell? ⟨w6.heap.size,3,none⟩=some (.int .i64 0):=aL.cell 3;have C8:=aL.free 3;have y4:w7.cell? ⟨w6.heap.size,4,none⟩=some (.int .i64 0):=aL.cell 4;have C9:=aL.free 4;have y5:w7.cell? ⟨w6.heap.size,5,none⟩=some (.int .i64 0):=aL.cell 5;have Da:=aL.free 5;have y6:w7.cell? ⟨w6.heap.size,6,none⟩=some (.string ⟨#[]⟩):=aL.cell 6;have Db:=aL.free 6;have y7:w7.cell? ⟨w6.heap.size,7,none⟩=some (.string ⟨#[]⟩):=aL.cell 7;have Dc:=aL.free 7;have y8:w7.cell? ⟨w6.heap.size,8,none⟩=some (.bool false):=aL.cell 8;have Df:=aL.free 8;have y9:w7.cell? ⟨w6.heap.size,9,none⟩=some (.int .i64 0):=aL.cell 9;have FN:=aL.free 9;have wT:w7.cell? ⟨w6.heap.size,10,none⟩=some (.int .i64 0):=aL.cell 10;have qZ:=aL.free 10;clear aL xu g8 mX;clear lq;refine hK.out _ _ (k7) fun ah=>?_;clear hK K;(try simp only[pS]);refine bG 11 fun K hK=>?_;go_simp;(try rw[hw8]);refine hK.out _ _ (k8) fun ah=>?_;clear hK K;(try simp only[pS]);refine eY ?_;exact xW _ _ (Met.intro (hJ0 _ _ ⟨_,_,_,_,_,_,_,_,_,_,_,_,_,_,_,_,_,_,_,_,_,_,_,_,_,_,_,_,_,_,_,_,_,_,_,_,_,_,_,_,_,_,_,_,_,_,_,_,_,_,_,_,_,_,_,_,_,_,_,_,_,_,_,_,_,_,_,_,_,_,_,_,_,_,_,_,_,_,_,_,_,_,_,_,_,_,_,_,_,_,_,_,_,_,_,_,_,_,_,_,_,_,_,_,_,_,⟨_,rfl,pq.out⟩,rfl⟩))
  ·go_simp;(try rw[hX1]);refine hK.out _ _ (kX) fun ah=>?_;clear hK K;(try simp only[pS]);refine bG 8 fun K hK=>?_;go_simp;refine (RD.out X1).mono ?_;rintro e w6 ⟨rfl,hb6⟩;have iQ:=zh (uO.out.trans (hb6.mono uO.out.size));have k6:=(wP.out w6 iQ.out).2;have aL:=Ru.out.below hb6 Ru.out.lt;have hs6:=bK.out.size;clear hb6;obtain⟨w8,hw8,xu,g8⟩:=kJ aL (.int .i64 4) (.int .i64 h) (.int .i64 0) (.int .i64 0) (.int .i64 0) (.int .i64 (I:Int)) (.string ⟨#[]⟩) (.string nd.data) (.bool false) (.int .i64 (cc:Int)) (.int .i64 (rl:Int));have mX:=(iQ.out).grown g8 (iQ.out).size (fun j hj=>by injection hj with hj;omega);have k8:=(wP.out w8 mX).2;have pq:=zh (And.intro xu (And.intro (show w.heap.size≤V.heap.size by omega) mX));have y0:w6.cell? ⟨V.heap.size,0,none⟩=some (.int .i64 0):=aL.cell 0;have yZ:=aL.free 0;have y1:w6.cell? ⟨V.heap.size,1,none⟩=some (.int .i64 0):=aL.cell 1;have za:=aL.free 1;have y2:w6.cell? ⟨V.heap.size,2,none⟩=some (.int .i64 0):=aL.cell 2;have CZ:=aL.free 2;have y3:w6.cell? ⟨V.heap.size,3,none⟩=some (.int .i64 0):=aL.cell 3;have C8:=aL.free 3;have y4:w6.cell? ⟨V.heap.size,4,none⟩=some (.int .i64 0):=aL.cell 4;have C9:=aL.free 4;have y5:w6.cell? ⟨V.heap.size,5,none⟩=some (.int .i64 0):=aL.cell 5;have Da:=aL.free 5;have y6:w6.cell? ⟨V.heap.size,6,none⟩=some (.string ⟨#[]⟩):=aL.cell 6;have Db:=aL.free 6;have y7:w6.cell? ⟨V.heap.size,7,none⟩=some (.string ⟨#[]⟩):=aL.cell 7;have Dc:=aL.free 7;have y8:w6.cell? ⟨V.heap.size,8,none⟩=some (.bool false):=aL.cell 8;have Df:=aL.free 8;have y9:w6.cell? ⟨V.heap.size,9,none⟩=some (.int .i64 0):=aL.cell 9;have FN:=aL.free 9;have wT:w6.cell? ⟨V.heap.size,10,none⟩=some (.int .i64 0):=aL.cell 10;have qZ:=aL.free 10;clear aL xu g8 mX;refine hK.out _ _ (k6) fun ah=>?_;clear hK K;(try simp only[pS]);refine bn [9] ?_
   (refine jf ?_;try simp only[pS])
   refine bq ?_;refine bG 11 fun K hK=>?_;go_simp;(try rw[hw8]);refine hK.out _ _ (k8) fun ah=>?_;clear hK K;(try simp only[pS]);refine eY ?_;exact xW _ _ (Met.intro (hJ0 _ _ ⟨_,_,_,_,_,_,_,_,_,_,_,_,_,_,_,_,_,_,_,_,_,_,_,_,_,_,_,_,_,_,_,_,_,_,_,_,_,_,_,_,_,_,_,_,_,_,_,_,_,_,_,_,_,_,_,_,_,_,_,_,_,_,_,_,_,_,_,_,_,_,_,_,_,_,_,_,_,_,_,_,_,_,_,_,_,_,_,_,_,_,_,_,_,_,_,_,_,_,_,_,_,_,_,_,_,_,⟨_,rfl,pq.out⟩,rfl⟩))
 case rest=>
  obtain⟨X,rfl,hX,Yu,hbc⟩:=hcut;have kc:=(wP.out wc hbc).2;obtain⟨s0,s1⟩:=(HM.out wc hbc).np yY.out (Tr.aj qg.out) 3 (by omega);have hgw:gb<w.heap.size:=(MB.out gb yY.out.foot).2;have hput:=(HM.out wc hbc).vT gV.out (HAT.out wc hbc) yY.out qg.out (jB nd.data I C v);rw[rM.out.1] at hput;obtain⟨w9,wO⟩:=eX (wc.drew.setCell ⟨gb,o+3,none⟩ (.string (nd.data.extract 0 st++rv++nd.data.extract (st+dl) nd.data.size)))
  have hbd:Below wc.heap.size wc wc.drew:=⟨rfl,rfl,rfl,Nat.le_refl _,fun _ _=>rfl⟩
  have qP:=hbc.trans (hbd.mono hbc.size);have hput:=(HM.out wc.drew qP).vT gV.out (HAT.out wc.drew qP) yY.out qg.out (nd.data.extract 0 st++rv++nd.data.extract (st+dl) nd.data.size);rw[wO] at hput;have kd:wc.drew.cell? ⟨gb,o+3,none⟩=some (.string nd.data):=kc;have sd:wc.drew.frozen? ⟨gb,o+3,none⟩=false:=s1;have UM:=hX.below hbd hX.lt;have gN:Whole w9 X #[.int .i64 4,.int .i64 h,.int .i64 0,.int .i64 0,.int .i64 0,.int .i64 (I:Int),.string ⟨#[]⟩,.string nd.data,.bool false,.int .i64 (cc:Int),.int .i64 (rl:Int)] 144:=by rw[←wO];exact UM.other (by show X≠gb;omega) _
  have g9:wc.drew.grownBy w9 (some gb):=by rw[←wO];exact aJ (ay (Below.refl wc.drew.heap.size wc.drew) _) _ _
  have Cn:w.heap.size≤w9.heap.size:=Nat.le_trans qP.size g9.size;have qh:=(Below.refl _ w9).alloc (Nat.le_refl _) (.cells #[.int .i64 4,.int .i64 h,.int .i64 0,.int .i64 0,.int .i64 0,.int .i64 (I:Int),.string ⟨#[]⟩,.string nd.data,.bool false,.int .i64 (cc:Int),.int .i64 (rl:Int)] 144);have bC:=zh (And.intro (mU w9 (sI h I nd.data (cc:Int) (rl:Int)) w.heap.size Cn) (And.intro (hput.1.below qh) (And.intro hput.2.1 (And.intro (hput.2.2.1.below qh) (((aB.of_below qP).trans hput.2.2.2).trans (.of_below qh))))));have d1:∀ W:World,(Op.stringOp .add (nd.data.extract 0 st) rv).run Tryz.prog W=.ok (.string (nd.data.extract 0 st++rv)) W:=fun W=>run_string_add_sum W _ _ (by have:=extract_size nd.data 0 st;omega);have d2:∀ W:World,(Op.stringOp .add (nd.data.extract 0 st++rv) (nd.data.extract (st+dl) nd.data.size)).run Tryz.prog W=.ok (.string (nd.data.extract 0 st++rv++nd.data.extract (st+dl) nd.data.size)) W:=fun W=>run_string_add_sum W _ _ (by have:=extract_size nd.data 0 st;have:=extract_size nd.data (st+dl) nd.data.size;rw[ByteArray.size_append];omega);have u5:((st:Int)+(dl:Int)).toNat=st+dl:=by omega
  have u6:¬ 9223372036854775807<st+rv.size+(nd.data.size - (st+dl)):=by omega
  have u3:(0:Int)≤(st:Int)+(dl:Int):=by omega
  have u4:(st:Int)+(dl:Int)≤(nd.data.size:Int):=by omega
  have z0:w9.cell? ⟨X,0,none⟩=some (.int .i64 4):=gN.cell 0;have z1:w9.cell? ⟨X,1,none⟩=some (.int .i64 h):=gN.cell 1;have z2:w9.cell? ⟨X,2,none⟩=some (.int .i64 0):=gN.cell 2;have z3:w9.cell? ⟨X,3,none⟩=some (.int .i64 0):=gN.cell 3;have z4:w9.cell? ⟨X,4,none⟩=some (.int .i64 0):=gN.cell 4;have z5:w9.cell? ⟨X,5,none⟩=some (.int .i64 (I:Int)):=gN.cell 5;have z6:w9.cell? ⟨X,6,none⟩=some (.string ⟨#[]⟩):=gN.cell 6;have z7:w9.cell? ⟨X,7,none⟩=some (.string nd.data):=gN.cell 7;have z8:w9.cell? ⟨X,8,none⟩=some (.bool false):=gN.cell 8;have z9:w9.cell? ⟨X,9,none⟩=some (.int .i64 (cc:Int)):=gN.cell 9;have YH:w9.cell? ⟨X,10,none⟩=some (.int .i64 (rl:Int)):=gN.cell 10;clear hput hX gN UM g9 qh hbc qP hbd kV kX;go_wp2_with fail;refine wp_region_noPanic ?_;refine wp_region_held_drew (S:=(fun W=>True)) (by kernel_rfl) ?_ (fun ah=>?_)
  ·exact trivial
  refine bn [0,1,2,3,5,7,9,10,11,13] ?_;iterate 10 (refine jf ?_;try simp only[pS])
  refine bq ?_;apply Dh
  ·intro KEY;refine zQ 4 12 (fun K hK=>?_) fun K hK=>?_
   ·go_simp;refine hK.out _ _ (trivial) fun ah=>?_;clear hK K;(try simp only[pS]);refine bn [6,8] ?_;iterate 2 (refine jf ?_;try simp only[pS])
    refine bq ?_;refine bG 12 fun K hK=>?_;go_simp;refine hK.out _ _ (trivial) fun ah=>?_;clear hK K;(try simp only[pS]);refine bn [14] ?_
    (refine jf ?_;try simp only[pS])
    refine bq ?_;exact KEY
   ·go_simp;refine hK.out _ _ (trivial) fun ah=>?_;clear hK K;(try simp only[pS]);refine bn [14] ?_
    (refine jf ?_;try simp only[pS])
    refine bq ?_;refine bG 4 fun K hK=>?_;go_simp;refine hK.out _ _ (trivial) fun ah=>?_;clear hK K;(try simp only[pS]);refine bn [6,8] ?_;iterate 2 (refine jf ?_;try simp only[pS])
    refine bq ?_;exact KEY
  refine bn [15,16,17] ?_;iterate 3 (refine jf ?_;try simp only[pS])
  refine bq ?_;refine bG 18 fun K hK=>?_;go_simp;(try rw[wO]);refine hK.out _ _ (trivial) fun ah=>?_;clear hK K;(try simp only[pS]);refine eY ?_;go_wp2_with fail;go_ret2;obtain⟨e1,e2,e3,e4,e5⟩:=bC.out;rw[rM.out.1,rM.out.2.2.1,rM.out.2.2.2,rM.out.2.1];exact⟨_,rfl,e1,e2,e3,e4,e5⟩
theorem Ez (base B:Nat) (b s root h:Int) (I C:Nat) (live n:Nat) (g:Tr.G) (av:Int→Tr.Sl) (fr:List Nat) (vs vf:Value) (nd:Tr.GN) (v:ByteArray) (w:World) (hm:TV base w B b s vs n (Tr.raw g av) vf fr live root) (hS:Sound b s n (Tr.raw g av) fr live) (ha:AT w g av) (eg:g h=some nd) (hk:nd.kind=4) (hd:bB.rep nd.data.data.toList=nd.data.data.toList) (hz:nd.data.size≤8000) (hI:I≤(iL nd.data).length) (hC:C≤2000000) (hv:v.size≤8000) (mW:(aZ v).size≤10000) (hT:Lit w):
  Calls Tryz.prog 41 #[.pointer (some ⟨B,0,none⟩),.int .i64 h,.int .i64 (I:Int),.int .i64 (C:Int),.string v] w fun e w'=>∃ r,e=.returned (.tuple #[r,.int .i64 0])∧bL w.heap.size w' r [sI h I nd.data ((min C ((iL nd.data).length - I):Nat):Int) ((iL (aZ v)).length:Nat)]∧
   TV base w' B b s vs n (Tr.raw (Tr.cK g h fun n=>{ n with data:=jB nd.data I C v }) av) vf fr live root∧Sound b s n (Tr.raw (Tr.cK g h fun n=>{ n with data:=jB nd.data I C v }) av) fr live∧
   AT w' (Tr.cK g h fun n=>{ n with data:=jB nd.data I C v }) av∧aB w w' (aD B vs vf) (aD B vs vf):=by
 have hgood:=bB.bV nd.data.data.toList;have iH:=sJ hd;have hfl:(iL nd.data).flatten.length=nd.data.size:=by rw[←iH];rfl
 obtain⟨len,hlen⟩:=eX ((iL nd.data).length)
 have hll:len≤nd.data.size:=by rw[←hlen];exact zq _
 obtain⟨cc,hcc⟩:=eX (min C (len - I))
 have hmin:min (C:Int) ((len:Int) - (I:Int))=(cc:Int):=by omega
 obtain⟨st,hst⟩:=eX (jq (iL nd.data) I)
 have aaP:st≤nd.data.size:=by rw[←hst,←hfl];exact tF _ _
 obtain⟨dl,hdl⟩:=eX (jq ((iL nd.data).drop I) cc)
 have hdrop:(iL nd.data).flatten.drop st=((iL nd.data).drop I).flatten:=by rw[←hst];exact pU _ _
 have aaQ:st+dl≤nd.data.size:=by
  have h1:=tF ((iL nd.data).drop I) cc;rw[hdl,←hdrop,List.length_drop,hfl] at h1;omega
 have HL:=zh (fun W=>pV nd.data W (by omega));rw[show (bB.chunks nd.data.data.toList).length=len from hlen] at HL;have PE:=zh (fun W=>qE nd.data (iL nd.data) I W (by omega) (by omega) hgood iH);rw[hst] at PE;have hsub:(nd.data.extract st nd.data.size).data.toList=((iL nd.data).drop I).flatten:=by rw[←hdrop,←iH];exact extract_drop _ _
 have Gx:(nd.data.extract st nd.data.size).size≤20000:=by
  have:(nd.data.extract st nd.data.size).size=(nd.data.extract st nd.data.size).data.toList.length:=rfl;rw[this,hsub,←hdrop,List.length_drop,hfl];omega
 have RB:=zh (fun W=>qE (nd.data.extract st nd.data.size) ((iL nd.data).drop I) cc W Gx (by omega) (fun c hc=>hgood c (List.mem_of_mem_drop hc)) hsub);rw[hdl] at RB;obtain⟨rv,uj⟩:=eX (aZ v)
 rw[uj] at mW;have HR:=zh (fun (W:World) (hT:Lit W)=>gY v W (by omega) hT);rw[show fB (bB.rep v.data.toList)=rv from uj] at HR;have RD:=zh (fun W=>pV rv W mW);obtain⟨rl,hrl⟩:=eX ((bB.chunks rv.data.toList).length)
 rw[hrl] at RD;have hnew:jB nd.data I C v=nd.data.extract 0 st++rv++nd.data.extract (st+dl) nd.data.size:=by
  rw[←uj];exact Gw iH hlen (by omega) hcc hst hdl
 have rM:=zh (And.intro hnew (And.intro (show (iL (aZ v)).length=rl by rw[uj];exact hrl) (And.intro hlen hcc)));have HM:=zh (fun (W:World) (hb:Below w.heap.size w W)=>hm.below hb);have HA:=zh (fun (W:World) (hb:Below w.heap.size w W)=>gW base B b s root h live n _ fr vs vf _ W (hm.below hb) hS (Tr.aj eg));have HAT:=zh (fun (W:World) (hb:Below w.heap.size w W)=>(ha.below hb));have uJ:=zh (fun (W:World) (hb:Below w.heap.size w W)=>hT.below hb);have MB:=zh hm.lt;have gV:=zh hS;have qg:=zh eg;have q0:(nd.kind == 0)=false:=by simp[hk]
 have q3:(nd.kind != 3)=true:=by simp[hk]
 have q4:(nd.kind != 4)=false:=by simp[hk]
 have r0:¬ (I:Int)<0:=by omega
 have r1:¬ (len:Int)<(I:Int):=by omega
 have r2:¬ (C:Int)<0:=by omega
 have r3:(0:Int)≤(st:Int):=by omega
 have r4:(st:Int)≤(nd.data.size:Int):=by omega
 clear hm hS ha hk hd hT hnew hrl hlen hgood iH hfl hsub Gx hdrop hdl hst hcc
 go_enter Tryz.func41,Tryz.ntmps41
 go_wp2_with fail;refine (HA.out w (Below.refl _ w)).mono ?_;rintro e w1 ⟨gb,o,rfl,hpt,hb1⟩;obtain⟨t0,_,_,t3,_⟩:=((HM.out w1 hb1).np hpt (Tr.aj qg.out)).cells;have t0':w1.cell? ⟨gb,o,none⟩=some (.int .i64 nd.kind):=t0;have Si:w1.cell? ⟨gb,o+3,none⟩=some (.string nd.data):=t3;have HB1:=zh hb1;have yY:=zh hpt;clear t0 t3 hb1 hpt HA;have wP:=zh (fun (W:World) (hb:Below w.heap.size w W)=>(show W.cell? ⟨gb,o,none⟩=some (.int .i64 nd.kind)∧W.cell? ⟨gb,o+3,none⟩=some (.string nd.data) from⟨((HM.out W hb).np yY.out (Tr.aj qg.out)).cells.1,((HM.out W hb).np yY.out (Tr.aj qg.out)).cells.2.2.2.1⟩));go_wp2_with fail;refine (HL.out w1).mono ?_;rintro e w2 ⟨rfl,hb2⟩;have HB2:=zh (HB1.out.trans (hb2.mono HB1.out.size));obtain⟨t0,t3⟩:=wP.out w2 HB2.out;clear t0' Si hb2 HL;go_wp2_with fail;refine (PE.out w2).mono ?_;rintro e w3 ⟨rfl,hb3⟩;have HB3:=zh (HB2.out.trans (hb3.mono HB2.out.size));obtain⟨-,Si⟩:=wP.out w3 HB3.out;clear t0 t3 hb3 PE;go_wp2_with fail;refine (RB.out w3).mono ?_;rintro e w4 ⟨rfl,hb4⟩;have jy:=zh (HB3.out.trans (hb4.mono HB3.out.size));obtain⟨-,t3⟩:=wP.out w4 jy.out;clear Si hb4 RB;go_wp2_with fail;refine (HR.out w4 (uJ.out w4 jy.out)).mono ?_;rintro e w5 ⟨rfl,hb5⟩;have jg:=zh (jy.out.trans (hb5.mono jy.out.size));obtain⟨-,Si⟩:=wP.out w5 jg.out;clear t3 hb5 HR;have u1:¬ (1048576:Int)<(nd.data.size:Int) - ((st:Int)+(dl:Int) - (st:Int))+(rv.size:Int):=by omega
 have u2:¬ (1048576:Int)<(nd.data.size:Int) - (dl:Int)+(rv.size:Int):=by omega
 go_wp2_with fail;obtain⟨V,hV⟩:=eX (w5.drew)
 have sQ:Below w5.heap.size w5 V:=lW hV;have bK:=zh (jg.out.trans (sQ.mono jg.out.size));obtain⟨X1,hX1⟩:=eX (V.alloc (.cells #[.int .i64 0,.int .i64 0,.int .i64 0,.int .i64 0,.int .i64 0,.int .i64 0,.string ⟨#[]⟩,.string ⟨#[]⟩,.bool false,.int .i64 0,.int .i64 0] 144))
 have uz:Below V.heap.size V X1:=fI hX1;have uO:=zh (bK.out.trans (uz.mono bK.out.size));have Ru:Hid (Whole X1 V.heap.size #[.int .i64 0,.int .i64 0,.int .i64 0,.int .i64 0,.int .i64 0,.int .i64 0,.string ⟨#[]⟩,.string ⟨#[]⟩,.bool false,.int .i64 0,.int .i64 0] 144):=zh (by rw[←hX1];exact Whole.new V _ _);have kV:=(wP.out V bK.out).2;have kX:=(wP.out X1 uO.out).2;clear sQ uz
 go_cut [16] from 16 (fun u wc=>∃ X,u=.pointer (some ⟨X,0,none⟩)∧Whole wc X #[.int .i64 4,.int .i64 h,.int .i64 0,.int .i64 0,.int .i64 0,.int .i64 (I:Int),.string ⟨#[]⟩,.string nd.data,.bool false,.int .i64 (cc:Int),.int .i64 (rl:Int)] 144∧w.heap.size≤X∧Below w.heap.size w wc)
 case first=>
  rename_i J0 K0 hJ0 xW;refine wp_region_noPanic ?_;refine wp_region_held_drew (S:=(fun W=>W.cell? ⟨gb,o+3,none⟩=some (.string nd.data))) (by kernel_rfl) ?_ (fun ah=>?_)
  ·exact (by rw[hV];exact kV)
  rw[hV] at ah ⊢;refine bn [0,1,2,3,4,5,6,7] ?_;iterate 8 (refine jf ?_;try simp only[pS])
  refine bq ?_;refine zQ 8 10 (fun K hK=>?_) fun K hK=>?_
  ·go_simp;refine (RD.out V).mono ?_;rintro e w6 ⟨rfl,hb6⟩;have iQ:=zh (bK.out.trans (hb6.mono bK.out.size));have k6:=(wP.out w6 iQ.out).2;clear hb6;refine hK.out _ _ (k6) fun ah=>?_;clear hK K;(try simp only[pS]);refine bn [9] ?_
   (refine jf ?_;try simp only[pS])
   refine bq ?_;refine bG 10 fun K hK=>?_;go_simp;obtain⟨w7,hw7⟩:=eX (w6.alloc (.cells #[.int .i64 0,.int .i64 0,.int .i64 0,.int .i64 0,.int .i64 0,.int .i64 0,.string ⟨#[]⟩,.string ⟨#[]⟩,.bool false,.int .i64 0,.int .i64 0] 144))
   have aL:Whole w7 w6.heap.size #[.int .i64 0,.int .i64 0,.int .i64 0,.int .i64 0,.int .i64 0,.int .i64 0,.string ⟨#[]⟩,.string ⟨#[]⟩,.bool false,.int .i64 0,.int .i64 0] 144:=by rw[←hw7];exact Whole.new w6 _ _
   have lq:Below w6.heap.size w6 w7:=fI hw7;have hs6:=iQ.out.size;have lT:=zh (iQ.out.trans (lq.mono iQ.out.size));have k7:=(wP.out w7 lT.out).2;(try rw[hw7]);obtain⟨w8,hw8,xu,g8⟩:=kJ aL (.int .i64 4) (.int .i64 h) (.int .i64 0) (.int .i64 0) (.int .i64 0) (.int .i64 (I:Int)) (.string ⟨#[]⟩) (.string nd.data) (.bool false) (.int .i64 (cc:Int)) (.int .i64 (rl:Int));have mX:=(lT.out).grown g8 (lT.out).size (fun j hj=>by injection hj with hj;omega);have k8:=(wP.out w8 mX).2;have pq:=zh (And.intro xu (And.intro (show w.heap.size≤w6.heap.size by omega) mX));have y0:w7.cell? ⟨w6.heap.size,0,none⟩=some (.int .i64 0):=aL.cell 0;have yZ:=aL.free 0;have y1:w7.cell? ⟨w6.heap.size,1,none⟩=some (.int .i64 0):=aL.cell 1;have za:=aL.free 1;have y2:w7.cell? ⟨w6.heap.size,2,none⟩=some (.int .i64 0):=aL.cell 2;have CZ:=aL.free 2;have y3:w7.cell? ⟨w6.heap.size,3,none⟩=some (.int .i64 0):=aL.cell 3;have C8:=aL.free 3;have y4:w7.cell? ⟨w6.heap.size,4,none⟩=some (.int .i64 0):=aL.cell 4;have C9:=aL.free 4;have y5:w7.cell? ⟨w6.heap.size,5,none⟩=some (.int .i64 0):=aL.cell 5;have Da:=aL.free 5;have y6:w7.cell? ⟨w6.heap.size,6,none⟩=some (.string ⟨#[]⟩):=aL.cell 6;have Db:=aL.free 6;have y7:w7.cell? ⟨w6.heap.size,7,none⟩=some (.string ⟨#[]⟩):=aL.cell 7;have Dc:=aL.free 7;have y8:w7.cell? ⟨w6.heap.size,8,none⟩=some (.bool false):=aL.cell 8;have Df:=aL.free 8;have y9:w7.cell? ⟨w6.heap.size,9,none⟩=some (.int .i64 0):=aL.cell 9;have FN:=aL.free 9;have wT:w7.cell? ⟨w6.heap.size,10,none⟩=some (.int .i64 0):=aL.cell 10;have qZ:=aL.free 10;clear aL xu g8 mX;clear lq;refine hK.out _ _ (k7) fun ah=>?_;clear hK K;(try simp only[pS]);refine bG 11 fun K hK=>?_;go_simp;(try rw[hw8]);refine hK.out _ _ (k8) fun ah=>?_;clear hK K;(try simp only[pS]);refine eY ?_;exact xW _ _ (Met.intro (hJ0 _ _ ⟨_,_,_,_,_,_,_,_,_,_,_,_,_,_,_,_,_,_,_,_,_,_,_,_,_,_,_,_,_,_,_,_,_,_,_,_,_,_,_,_,_,_,_,_,_,_,_,_,_,_,_,_,_,_,_,_,_,_,_,_,_,_,_,_,_,_,_,_,_,_,_,_,_,_,_,_,_,_,_,_,_,_,_,_,_,_,_,_,_,_,_,_,_,_,_,_,_,_,_,_,_,_,_,_,_,_,⟨_,rfl,pq.out⟩,rfl⟩))
  ·go_simp;(try rw[hX1]);refine hK.out _ _ (kX) fun ah=>?_;clear hK K;(try simp only[pS]);refine bG 8 fun K hK=>?_;go_simp;refine (RD.out X1).mono ?_;rintro e w6 ⟨rfl,hb6⟩;have iQ:=zh (uO.out.trans (hb6.mono uO.out.size));have k6:=(wP.out w6 iQ.out).2;have aL:=Ru.out.below hb6 Ru.out.lt;have hs6:=bK.out.size;clear hb6;obtain⟨w8,hw8,xu,g8⟩:=kJ aL (.int .i64 4) (.int .i64 h) (.int .i64 0) (.int .i64 0) (.int .i64 0) (.int .i64 (I:Int)) (.string ⟨#[]⟩) (.string nd.data) (.bool false) (.int .i64 (cc:Int)) (.int .i64 (rl:Int));have mX:=(iQ.out).grown g8 (iQ.out).size (fun j hj=>by injection hj with hj;omega);have k8:=(wP.out w8 mX).2;have pq:=zh (And.intro xu (And.intro (show w.heap.size≤V.heap.size by omega) mX));have y0:w6.cell? ⟨V.heap.size,0,none⟩=some (.int .i64 0):=aL.cell 0;have yZ:=aL.free 0;have y1:w6.cell? ⟨V.heap.size,1,none⟩=some (.int .i64 0):=aL.cell 1;have za:=aL.free 1;have y2:w6.cell? ⟨V.heap.size,2,none⟩=some (.int .i64 0):=aL.cell 2;have CZ:=aL.free 2;have y3:w6.cell? ⟨V.heap.size,3,none⟩=some (.int .i64 0):=aL.cell 3;have C8:=aL.free 3;have y4:w6.cell? ⟨V.heap.size,4,none⟩=some (.int .i64 0):=aL.cell 4;have C9:=aL.free 4;have y5:w6.cell? ⟨V.heap.size,5,none⟩=some (.int .i64 0):=aL.cell 5;have Da:=aL.free 5;have y6:w6.cell? ⟨V.heap.size,6,none⟩=some (.string ⟨#[]⟩):=aL.cell 6;have Db:=aL.free 6;have y7:w6.cell? ⟨V.heap.size,7,none⟩=some (.string ⟨#[]⟩):=aL.cell 7;have Dc:=aL.free 7;have y8:w6.cell? ⟨V.heap.size,8,none⟩=some (.bool false):=aL.cell 8;have Df:=aL.free 8;have y9:w6.cell? ⟨V.heap.size,9,none⟩=some (.int .i64 0):=aL.cell 9;have FN:=aL.free 9;have wT:w6.cell? ⟨V.heap.size,10,none⟩=some (.int .i64 0):=aL.cell 10;have qZ:=aL.free 10;clear aL xu g8 mX;refine hK.out _ _ (k6) fun ah=>?_;clear hK K;(try simp only[pS]);refine bn [9] ?_
   (refine jf ?_;try simp only[pS])
   refine bq ?_;refine bG 11 fun K hK=>?_;go_simp;(try rw[hw8]);refine hK.out _ _ (k8) fun ah=>?_;clear hK K;(try simp only[pS]);refine eY ?_;exact xW _ _ (Met.intro (hJ0 _ _ ⟨_,_,_,_,_,_,_,_,_,_,_,_,_,_,_,_,_,_,_,_,_,_,_,_,_,_,_,_,_,_,_,_,_,_,_,_,_,_,_,_,_,_,_,_,_,_,_,_,_,_,_,_,_,_,_,_,_,_,_,_,_,_,_,_,_,_,_,_,_,_,_,_,_,_,_,_,_,_,_,_,_,_,_,_,_,_,_,_,_,_,_,_,_,_,_,_,_,_,_,_,_,_,_,_,_,_,⟨_,rfl,pq.out⟩,rfl⟩))
 case rest=>
  obtain⟨X,rfl,hX,Yu,hbc⟩:=hcut;have kc:=(wP.out wc hbc).2;obtain⟨s0,s1⟩:=(HM.out wc hbc).np yY.out (Tr.aj qg.out) 3 (by omega);have hgw:gb<w.heap.size:=(MB.out gb yY.out.foot).2;have hput:=(HM.out wc hbc).vT gV.out (HAT.out wc hbc) yY.out qg.out (jB nd.data I C v);rw[rM.out.1] at hput;obtain⟨w9,wO⟩:=eX (wc.drew.setCell ⟨gb,o+3,none⟩ (.string (nd.data.extract 0 st++rv++nd.data.extract (st+dl) nd.data.size)))
  have hbd:Below wc.heap.size wc wc.drew:=⟨rfl,rfl,rfl,Nat.le_refl _,fun _ _=>rfl⟩
  have qP:=hbc.trans (hbd.mono hbc.size);have hput:=(HM.out wc.drew qP).vT gV.out (HAT.out wc.drew qP) yY.out qg.out (nd.data.extract 0 st++rv++nd.data.extract (st+dl) nd.data.size);rw[wO] at hput;have kd:wc.drew.cell? ⟨gb,o+3,none⟩=some (.string nd.data):=kc;have sd:wc.drew.frozen? ⟨gb,o+3,none⟩=false:=s1;have UM:=hX.below hbd hX.lt;have gN:Whole w9 X #[.int .i64 4,.int .i64 h,.int .i64 0,.int .i64 0,.int .i64 0,.int .i64 (I:Int),.string ⟨#[]⟩,.string nd.data,.bool false,.int .i64 (cc:Int),.int .i64 (rl:Int)] 144:=by rw[←wO];exact UM.other (by show X≠gb;omega) _
  have g9:wc.drew.grownBy w9 (some gb):=by rw[←wO];exact aJ (ay (Below.refl wc.drew.heap.size wc.drew) _) _ _
  have Cn:w.heap.size≤w9.heap.size:=Nat.le_trans qP.size g9.size;have qh:=(Below.refl _ w9).alloc (Nat.le_refl _) (.cells #[.int .i64 4,.int .i64 h,.int .i64 0,.int .i64 0,.int .i64 0,.int .i64 (I:Int),.string ⟨#[]⟩,.string nd.data,.bool false,.int .i64 (cc:Int),.int .i64 (rl:Int)] 144);have bC:=zh (And.intro (mU w9 (sI h I nd.data (cc:Int) (rl:Int)) w.heap.size Cn) (And.intro (hput.1.below qh) (And.intro hput.2.1 (And.intro (hput.2.2.1.below qh) (((aB.of_below qP).trans hput.2.2.2).trans (.of_below qh))))));have d1:∀ W:World,(Op.stringOp .add (nd.data.extract 0 st) rv).run Tryz.prog W=.ok (.string (nd.data.extract 0 st++rv)) W:=fun W=>run_string_add_sum W _ _ (by have:=extract_size nd.data 0 st;omega);have d2:∀ W:World,(Op.stringOp .add (nd.data.extract 0 st++rv) (nd.data.extract (st+dl) nd.data.size)).run Tryz.prog W=.ok (.string (nd.data.extract 0 st++rv++nd.data.extract (st+dl) nd.data.size)) W:=fun W=>run_string_add_sum W _ _ (by have:=extract_size nd.data 0 st;have:=extract_size nd.data (st+dl) nd.data.size;rw[ByteArray.size_append];omega);have u5:((st:Int)+(dl:Int)).toNat=st+dl:=by omega
  have u6:¬ 9223372036854775807<st+rv.size+(nd.data.size - (st+dl)):=by omega
  have u3:(0:Int)≤(st:Int)+(dl:Int):=by omega
  have u4:(st:Int)+(dl:Int)≤(nd.data.size:Int):=by omega
  have z0:w9.cell? ⟨X,0,none⟩=some (.int .i64 4):=gN.cell 0;have z1:w9.cell? ⟨X,1,none⟩=some (.int .i64 h):=gN.cell 1;have z2:w9.cell? ⟨X,2,none⟩=some (.int .i64 0):=gN.cell 2;have z3:w9.cell? ⟨X,3,none⟩=some (.int .i64 0):=gN.cell 3;have z4:w9.cell? ⟨X,4,none⟩=some (.int .i64 0):=gN.cell 4;have z5:w9.cell? ⟨X,5,none⟩=some (.int .i64 (I:Int)):=gN.cell 5;have z6:w9.cell? ⟨X,6,none⟩=some (.string ⟨#[]⟩):=gN.cell 6;have z7:w9.cell? ⟨X,7,none⟩=some (.string nd.data):=gN.cell 7;have z8:w9.cell? ⟨X,8,none⟩=some (.bool false):=gN.cell 8;have z9:w9.cell? ⟨X,9,none⟩=some (.int .i64 (cc:Int)):=gN.cell 9;have YH:w9.cell? ⟨X,10,none⟩=some (.int .i64 (rl:Int)):=gN.cell 10;clear hput hX gN UM g9 qh hbc qP hbd kV kX;go_wp2_with fail;refine wp_region_noPanic ?_;refine wp_region_held_drew (S:=(fun W=>True)) (by kernel_rfl) ?_ (fun ah=>?_)
  ·exact trivial
  refine bn [0,1,2,3,5,7,9,10,11,13] ?_;iterate 10 (refine jf ?_;try simp only[pS])
  refine bq ?_;apply Dh
  ·intro KEY;refine zQ 4 12 (fun K hK=>?_) fun K hK=>?_
   ·go_simp;refine hK.out _ _ (trivial) fun ah=>?_;clear hK K;(try simp only[pS]);refine bn [6,8] ?_;iterate 2 (refine jf ?_;try simp only[pS])
    refine bq ?_;refine bG 12 fun K hK=>?_;go_simp;refine hK.out _ _ (trivial) fun ah=>?_;clear hK K;(try simp only[pS]);refine bn [14] ?_
    (refine jf ?_;try simp only[pS])
    refine bq ?_;exact KEY
   ·go_simp;refine hK.out _ _ (trivial) fun ah=>?_;clear hK K;(try simp only[pS]);refine bn [14] ?_
    (refine jf ?_;try simp only[pS])
    refine bq ?_;refine bG 4 fun K hK=>?_;go_simp;refine hK.out _ _ (trivial) fun ah=>?_;clear hK K;(try simp only[pS]);refine bn [6,8] ?_;iterate 2 (refine jf ?_;try simp only[pS])
    refine bq ?_;exact KEY
  refine bn [15,16,17] ?_;iterate 3 (refine jf ?_;try simp only[pS])
  refine bq ?_;refine bG 18 fun K hK=>?_;go_simp;(try rw[wO]);refine hK.out _ _ (trivial) fun ah=>?_;clear hK K;(try simp only[pS]);refine eY ?_;go_wp2_with fail;go_ret2;obtain⟨e1,e2,e3,e4,e5⟩:=bC.out;rw[rM.out.1,rM.out.2.2.1,rM.out.2.2.2,rM.out.2.1];exact⟨_,rfl,e1,e2,e3,e4,e5⟩
end
end Go.Proofs.YtmhjlifmcadefaaGreatDoor
