/- Part of a proof about trees. -/
import Derived.Test.YtjpbhkcjmdndjaaGreatDoorS03
set_option linter.unusedVariables false
set_option linter.unusedSimpArgs false
set_option maxHeartbeats 4000000
set_option maxRecDepth 100000
namespace Go.Proofs.YtjpbhkcjmdndjaaGreatDoor
section
open Go.RowKit
theorem qI (s:ByteArray) (i e:Nat):(s.extract i e).data.toList=(s.data.toList.drop i).take (e - i):=by
 rw[ByteArray.data_extract,Array.toList_extract,List.extract_eq_take_drop]
theorem extract_drop (s:ByteArray) (i:Nat):(s.extract i s.size).data.toList=s.data.toList.drop i:=by
 rw[qI,List.take_of_length_le];rw[List.length_drop];exact Nat.le_refl _
theorem Gj {d v:ByteArray} {I C cc st dl len:Nat} (iP:d.data.toList=(iT d).flatten) (hlen:(iT d).length=len) (hI:I≤len) (hcc:min C (len - I)=cc) (hst:jo (iT d) I=st) (hdl:jo ((iT d).drop I) cc=dl):jw d I C v=d.extract 0 st++aX v++d.extract (st+dl) d.size:=by
 have h1:(d.extract 0 st).data.toList=((iT d).take I).flatten:=by rw[qI,List.drop_zero,Nat.sub_zero,iP,←hst,Mr]
 have h2:(d.extract (st+dl) d.size).data.toList=((iT d).drop (I+C)).flatten:=by
  rw[extract_drop,iP,←List.drop_drop,←hst,qb,←hdl,qb,List.drop_drop];by_cases h:C≤len - I
  ·rw[show cc=C by omega]
  ·rw[List.drop_of_length_le (by omega),List.drop_of_length_le (by omega)]
 unfold jw;rw[←h1,←h2,←mD,←mD,tL,tL,tL]
theorem extract_size (s:ByteArray) (i e:Nat):(s.extract i e).size≤s.size:=by
 have h:(s.extract i e).size=(s.extract i e).data.toList.length:=rfl;rw[h,qI,List.length_take,List.length_drop];have:s.data.toList.length=s.size:=rfl;omega
theorem sW {d:ByteArray} (h:bD.rep d.data.toList=d.data.toList):d.data.toList=(iT d).flatten:=h.symm
theorem yT (d:ByteArray):(iT d).length≤d.size:=bD.uR _
theorem DF (base B:Nat) (b s root h:Int) (I C:Nat) (live n:Nat) (g:Tr.G) (av:Int→Tr.Sl) (fr:List Nat) (vs vf:Value) (nd:Tr.GN) (v:ByteArray) (w:World) (hm:TV base w B b s vs n (Tr.raw g av) vf fr live root) (hS:Sound b s n (Tr.raw g av) fr live) (ha:AT w g av) (eg:g h=some nd) (hk:nd.kind=3) (hd:bD.rep nd.data.data.toList=nd.data.data.toList) (hz:nd.data.size≤8000) (hI:I≤(iT nd.data).length) (hC:C≤2000000) (hv:v.size≤8000) (nu:(aX v).size≤10000) (hT:Lit w):
  Calls Tryz.prog 30 #[.pointer (some ⟨B,0,none⟩),.int .i64 h,.int .i64 (I:Int),.int .i64 (C:Int),.string v] w fun e w'=>∃ r,e=.returned (.tuple #[r,.int .i64 0])∧bH w.heap.size w' r [sV h I nd.data ((min C ((iT nd.data).length - I):Nat):Int) ((iT (aX v)).length:Nat)]∧
   TV base w' B b s vs n (Tr.raw (Tr.cO g h fun n=>{ n with data:=jw nd.data I C v }) av) vf fr live root∧Sound b s n (Tr.raw (Tr.cO g h fun n=>{ n with data:=jw nd.data I C v }) av) fr live∧
   AT w' (Tr.cO g h fun n=>{ n with data:=jw nd.data I C v }) av∧aB w w' (aD B vs vf) (aD B vs vf):=by
 have hgood:=bD.cu nd.data.data.toList;have iP:=sW hd;have hfl:(iT nd.data).flatten.length=nd.data.size:=by rw[←iP];rfl
 obtain⟨len,hlen⟩:=eX ((iT nd.data).length)
 have hll:len≤nd.data.size:=by rw[←hlen];exact yT _
 obtain⟨cc,hcc⟩:=eX (min C (len - I))
 have hmin:min (C:Int) ((len:Int) - (I:Int))=(cc:Int):=by omega
 obtain⟨st,hst⟩:=eX (jo (iT nd.data) I)
 have aaT:st≤nd.data.size:=by rw[←hst,←hfl];exact tN _ _
 obtain⟨dl,hdl⟩:=eX (jo ((iT nd.data).drop I) cc)
 have hdrop:(iT nd.data).flatten.drop st=((iT nd.data).drop I).flatten:=by rw[←hst];exact qb _ _
 have aaU:st+dl≤nd.data.size:=by
  have h1:=tN ((iT nd.data).drop I) cc;rw[hdl,←hdrop,List.length_drop,hfl] at h1;omega
 have HL:=zh (fun W=>sj nd.data W (by omega));rw[show (bD.chunks nd.data.data.toList).length=len from hlen] at HL;have OW:=zh (fun W=>qJ nd.data (iT nd.data) I W (by omega) (by omega) hgood iP);rw[hst] at OW;have hsub:(nd.data.extract st nd.data.size).data.toList=((iT nd.data).drop I).flatten:=by rw[←hdrop,←iP];exact extract_drop _ _
 have Gl:(nd.data.extract st nd.data.size).size≤20000:=by
  have:(nd.data.extract st nd.data.size).size=(nd.data.extract st nd.data.size).data.toList.length:=rfl;rw[this,hsub,←hdrop,List.length_drop,hfl];omega
 have Vd:=zh (fun W=>qJ (nd.data.extract st nd.data.size) ((iT nd.data).drop I) cc W Gl (by omega) (fun c hc=>hgood c (List.mem_of_mem_drop hc)) hsub);rw[hdl] at Vd;obtain⟨rv,uh⟩:=eX (aX v)
 rw[uh] at nu;have HR:=zh (fun (W:World) (hT:Lit W)=>iC v W (by omega) hT);rw[show fF (bD.rep v.data.toList)=rv from uh] at HR;have NK:=zh (fun W=>sj rv W nu);obtain⟨rl,hrl⟩:=eX ((bD.chunks rv.data.toList).length)
 rw[hrl] at NK;have hnew:jw nd.data I C v=nd.data.extract 0 st++rv++nd.data.extract (st+dl) nd.data.size:=by
  rw[←uh];exact Gj iP hlen (by omega) hcc hst hdl
 have su:=zh (And.intro hnew (And.intro (show (iT (aX v)).length=rl by rw[uh];exact hrl) (And.intro hlen hcc)));have HM:=zh (fun (W:World) (hb:Below w.heap.size w W)=>hm.below hb);have HA:=zh (fun (W:World) (hb:Below w.heap.size w W)=>gW base B b s root h live n _ fr vs vf _ W (hm.below hb) hS (Tr.aj eg));have HAT:=zh (fun (W:World) (hb:Below w.heap.size w W)=>(ha.below hb));have rD:=zh (fun (W:World) (hb:Below w.heap.size w W)=>hT.below hb);have LH:=zh hm.lt;have iU:=zh hS;have ql:=zh eg;have q0:(nd.kind == 0)=false:=by simp[hk]
 have q3:(nd.kind != 3)=false:=by simp[hk]
 have r0:¬ (I:Int)<0:=by omega
 have r1:¬ (len:Int)<(I:Int):=by omega
 have r2:¬ (C:Int)<0:=by omega
 have r3:(0:Int)≤(st:Int):=by omega
 have r4:(st:Int)≤(nd.data.size:Int):=by omega
 clear hm hS ha hk hd hT hnew hrl hlen hgood iP hfl hsub Gl hdrop hdl hst hcc
 go_enter Tryz.func30,Tryz.ntmps30
 go_wp2_with fail;refine (HA.out w (Below.refl _ w)).mono ?_;rintro e w1 ⟨gb,o,rfl,hpt,hb1⟩;obtain⟨t0,_,_,t3,_⟩:=((HM.out w1 hb1).np hpt (Tr.aj ql.out)).cells;have t0':w1.cell? ⟨gb,o,none⟩=some (.int .i64 nd.kind):=t0;have Rq:w1.cell? ⟨gb,o+3,none⟩=some (.string nd.data):=t3;have HB1:=zh hb1;have yH:=zh hpt;clear t0 t3 hb1 hpt HA;have wL:=zh (fun (W:World) (hb:Below w.heap.size w W)=>(show W.cell? ⟨gb,o,none⟩=some (.int .i64 nd.kind)∧W.cell? ⟨gb,o+3,none⟩=some (.string nd.data) from⟨((HM.out W hb).np yH.out (Tr.aj ql.out)).cells.1,((HM.out W hb).np yH.out (Tr.aj ql.out)).cells.2.2.2.1⟩));go_wp2_with fail;refine (HL.out w1).mono ?_;rintro e w2 ⟨rfl,hb2⟩;have HB2:=zh (HB1.out.trans (hb2.mono HB1.out.size));obtain⟨t0,t3⟩:=wL.out w2 HB2.out;clear t0' Rq hb2 HL;go_wp2_with fail;refine (OW.out w2).mono ?_;rintro e w3 ⟨rfl,hb3⟩;have HB3:=zh (HB2.out.trans (hb3.mono HB2.out.size));obtain⟨-,Rq⟩:=wL.out w3 HB3.out;clear t0 t3 hb3 OW;go_wp2_with fail;refine (Vd.out w3).mono ?_;rintro e w4 ⟨rfl,hb4⟩;have ow:=zh (HB3.out.trans (hb4.mono HB3.out.size));obtain⟨-,t3⟩:=wL.out w4 ow.out;clear Rq hb4 Vd;go_wp2_with fail;refine (HR.out w4 (rD.out w4 ow.out)).mono ?_;rintro e w5 ⟨rfl,hb5⟩;have mH:=zh (ow.out.trans (hb5.mono ow.out.size));obtain⟨-,Rq⟩:=wL.out w5 mH.out;clear t3 hb5 HR;have u1:¬ (1048576:Int)<(nd.data.size:Int) - ((st:Int)+(dl:Int) - (st:Int))+(rv.size:Int):=by omega
 have u2:¬ (1048576:Int)<(nd.data.size:Int) - (dl:Int)+(rv.size:Int):=by omega
 go_wp2_with fail;obtain⟨V,hV⟩:=eX (w5.drew)
 have mX:Below w5.heap.size w5 V:=mW hV;have cZ:=zh (mH.out.trans (mX.mono mH.out.size));obtain⟨X1,hX1⟩:=eX (V.alloc (.cells #[.int .i64 0,.int .i64 0,.int .i64 0,.int .i64 0,.int .i64 0,.int .i64 0,.string ⟨#[]⟩,.string ⟨#[]⟩,.bool false,.int .i64 0,.int .i64 0] 68))
 have uI:Below V.heap.size V X1:=gU hX1;have yK:=zh (cZ.out.trans (uI.mono cZ.out.size));have NA:Hid (Whole X1 V.heap.size #[.int .i64 0,.int .i64 0,.int .i64 0,.int .i64 0,.int .i64 0,.int .i64 0,.string ⟨#[]⟩,.string ⟨#[]⟩,.bool false,.int .i64 0,.int .i64 0] 68):=zh (by rw[←hX1];exact Whole.new V _ _);have kV:=(wL.out V cZ.out).2;have kX:=(wL.out X1 yK.out).2;clear mX uI
 go_cut [16] from 16 (fun u wc=>∃ X,u=.pointer (some ⟨X,0,none⟩)∧Whole wc X #[.int .i64 4,.int .i64 h,.int .i64 0,.int .i64 0,.int .i64 0,.int .i64 (I:Int),.string ⟨#[]⟩,.string nd.data,.bool false,.int .i64 (cc:Int),.int .i64 (rl:Int)] 68∧w.heap.size≤X∧Below w.heap.size w wc)
 case first=>
  rename_i J0 K0 hJ0 wR;refine wp_region_noPanic ?_;refine wp_region_held_drew (S:=(fun W=>W.cell? ⟨gb,o+3,none⟩=some (.string nd.data))) (by kernel_rfl) ?_ (fun ah=>?_)
  ·exact (by rw[hV];exact kV)
  rw[hV] at ah ⊢;refine bE [0,1,2,3,4,5,6,7] ?_;iterate 8 (refine jl ?_;try simp only[pS])
  refine bF ?_;refine zm 8 10 (fun K hK=>?_) fun K hK=>?_
  ·go_simp;refine (NK.out V).mono ?_;rintro e w6 ⟨rfl,hb6⟩;have qx:=zh (cZ.out.trans (hb6.mono cZ.out.size));have k6:=(wL.out w6 qx.out).2;clear hb6;refine hK.out _ _ (k6) fun ah=>?_;clear hK K;(try simp only[pS]);refine bE [9] ?_
   (refine jl ?_;try simp only[pS])
   refine bF ?_;refine bO 10 fun K hK=>?_;go_simp;obtain⟨w7,hw7⟩:=eX (w6.alloc (.cells #[.int .i64 0,.int .i64 0,.int .i64 0,.int .i64 0,.int .i64 0,.int .i64 0,.string ⟨#[]⟩,.string ⟨#[]⟩,.bool false,.int .i64 0,.int .i64 0] 68))
   have aK:Whole w7 w6.heap.size #[.int .i64 0,.int .i64 0,.int .i64 0,.int .i64 0,.int .i64 0,.int .i64 0,.string ⟨#[]⟩,.string ⟨#[]⟩,.bool false,.int .i64 0,.int .i64 0] 68:=by rw[←hw7];exact Whole.new w6 _ _
   have nL:Below w6.heap.size w6 w7:=gU hw7;have hs6:=qx.out.size;have iL:=zh (qx.out.trans (nL.mono qx.out.size));have k7:=(wL.out w7 iL.out).2;(try rw[hw7]);obtain⟨w8,hw8,zU,g8⟩:=kQ aK (.int .i64 4) (.int .i64 h) (.int .i64 0) (.int .i64 0) (.int .i64 0) (.int .i64 (I:Int)) (.string ⟨#[]⟩) (.string nd.data) (.bool false) (.int .i64 (cc:Int)) (.int .i64 (rl:Int));have jB:=(iL.out).grown g8 (iL.out).size (fun j hj=>by injection hj with hj;omega);have k8:=(wL.out w8 jB).2;have kH:=zh (And.intro zU (And.intro (show w.heap.size≤w6.heap.size by omega) jB));have y0:w7.cell? ⟨w6.heap.size,0,none⟩=some (.int .i64 0):=aK.cell 0;have EZ:=aK.free 0;have y1:w7.cell? ⟨w6.heap.size,1,none⟩=some (.int .i64 0):=aK.cell 1;have E5:=aK.free 1;have y2:w7.cell? ⟨w6.heap.size,2,none⟩=some (.int .i64 0):=aK.cell 2;have E8:=aK.free 2;have y3:w7.cell? ⟨w6.heap.size,3,none⟩=some (.int .i64 0):=aK.cell 3;have E9:=aK.free 3;have y4:w7.cell? ⟨w6.heap.size,4,none⟩=some (.int .i64 0):=aK.cell 4;have Fa:=aK.free 4;have y5:w7.cell? ⟨w6.heap.size,5,none⟩=some (.int .i64 0):=aK.cell 5;have Fb:=aK.free 5;have y6:w7.cell? ⟨w6.heap.size,6,none⟩=some (.string ⟨#[]⟩):=aK.cell 6;have Fe:=aK.free 6;have y7:w7.cell? ⟨w6.heap.size,7,none⟩=some (.string ⟨#[]⟩):=aK.cell 7;have Fg:=aK.free 7;have y8:w7.cell? ⟨w6.heap.size,8,none⟩=some (.bool false):=aK.cell 8;have Fh:=aK.free 8;have y9:w7.cell? ⟨w6.heap.size,9,none⟩=some (.int .i64 0):=aK.cell 9;have Fj:=aK.free 9;have wP:w7.cell? ⟨w6.heap.size,10,none⟩=some (.int .i64 0):=aK.cell 10;have rJ:=aK.free 10;clear aK zU g8 jB;clear nL;refine hK.out _ _ (k7) fun ah=>?_;clear hK K;(try simp only[pS]);refine bO 11 fun K hK=>?_;go_simp;(try rw[hw8]);refine hK.out _ _ (k8) fun ah=>?_;clear hK K;(try simp only[pS]);refine gQ ?_;exact wR _ _ (Met.intro (hJ0 _ _ ⟨_,_,_,_,_,_,_,_,_,_,_,_,_,_,_,_,_,_,_,_,_,_,_,_,_,_,_,_,_,_,_,_,_,_,_,_,_,_,_,_,_,_,_,_,_,_,_,_,_,_,_,_,_,_,_,_,_,_,_,_,_,_,_,_,_,_,_,_,_,_,_,_,_,_,_,_,_,_,_,_,_,_,_,_,_,_,_,_,_,_,_,_,_,_,_,_,_,_,_,_,_,_,_,_,_,_,⟨_,rfl,kH.out⟩,rfl⟩))
  ·go_simp;(try rw[hX1]);refine hK.out _ _ (kX) fun ah=>?_;clear hK K;(try simp only[pS]);refine bO 8 fun K hK=>?_;go_simp;refine (NK.out X1).mono ?_;rintro e w6 ⟨rfl,hb6⟩;have qx:=zh (yK.out.trans (hb6.mono yK.out.size));have k6:=(wL.out w6 qx.out).2;have aK:=NA.out.below hb6 NA.out.lt;have hs6:=cZ.out.size;clear hb6;obtain⟨w8,hw8,zU,g8⟩:=kQ aK (.int .i64 4) (.int .i64 h) (.int .i64 0) (.int .i64 0) (.int .i64 0) (.int .i64 (I:Int)) (.string ⟨#[]⟩) (.string nd.data) (.bool false) (.int .i64 (cc:Int)) (.int .i64 (rl:Int));have jB:=(qx.out).grown g8 (qx.out).size (fun j hj=>by injection hj with hj;omega);have k8:=(wL.out w8 jB).2;have kH:=zh (And.intro zU (And.intro (show w.heap.size≤V.heap.size by omega) jB));have y0:w6.cell? ⟨V.heap.size,0,none⟩=some (.int .i64 0):=aK.cell 0;have EZ:=aK.free 0;have y1:w6.cell? ⟨V.heap.size,1,none⟩=some (.int .i64 0):=aK.cell 1;have E5:=aK.free 1;have y2:w6.cell? ⟨V.heap.size,2,none⟩=some (.int .i64 0):=aK.cell 2;have E8:=aK.free 2;have y3:w6.cell? ⟨V.heap.size,3,none⟩=some (.int .i64 0):=aK.cell 3;have E9:=aK.free 3;have y4:w6.cell? ⟨V.heap.size,4,none⟩=some (.int .i64 0):=aK.cell 4;have Fa:=aK.free 4;have y5:w6.cell? ⟨V.heap.size,5,none⟩=some (.int .i64 0):=aK.cell 5;have Fb:=aK.free 5;have y6:w6.cell? ⟨V.heap.size,6,none⟩=some (.string ⟨#[]⟩):=aK.cell 6;have Fe:=aK.free 6;have y7:w6.cell? ⟨V.heap.size,7,none⟩=some (.string ⟨#[]⟩):=aK.cell 7;have Fg:=aK.free 7;have y8:w6.cell? ⟨V.heap.size,8,none⟩=some (.bool false):=aK.cell 8;have Fh:=aK.free 8;have y9:w6.cell? ⟨V.heap.size,9,none⟩=some (.int .i64 0):=aK.cell 9;have Fj:=aK.free 9;have wP:w6.cell? ⟨V.heap.size,10,none⟩=some (.int .i64 0):=aK.cell 10;have rJ:=aK.free 10;clear aK zU g8 jB;refine hK.out _ _ (k6) fun ah=>?_;clear hK K;(try simp only[pS]);refine bE [9] ?_
   (refine jl ?_;try simp only[pS])
   refine bF ?_;refine bO 11 fun K hK=>?_;go_simp;(try rw[hw8]);refine hK.out _ _ (k8) fun ah=>?_;clear hK K;(try simp only[pS]);refine gQ ?_;exact wR _ _ (Met.intro (hJ0 _ _ ⟨_,_,_,_,_,_,_,_,_,_,_,_,_,_,_,_,_,_,_,_,_,_,_,_,_,_,_,_,_,_,_,_,_,_,_,_,_,_,_,_,_,_,_,_,_,_,_,_,_,_,_,_,_,_,_,_,_,_,_,_,_,_,_,_,_,_,_,_,_,_,_,_,_,_,_,_,_,_,_,_,_,_,_,_,_,_,_,_,_,_,_,_,_,_,_,_,_,_,_,_,_,_,_,_,_,_,⟨_,rfl,kH.out⟩,rfl⟩))
 case rest=>
  obtain⟨X,rfl,hX,Xy,hbc⟩:=hcut;have kc:=(wL.out wc hbc).2;obtain⟨s0,s1⟩:=(HM.out wc hbc).np yH.out (Tr.aj ql.out) 3 (by omega);have hgw:gb<w.heap.size:=(LH.out gb yH.out.foot).2;have hput:=(HM.out wc hbc).vQ iU.out (HAT.out wc hbc) yH.out ql.out (jw nd.data I C v);rw[su.out.1] at hput;obtain⟨w9,wK⟩:=eX (wc.drew.setCell ⟨gb,o+3,none⟩ (.string (nd.data.extract 0 st++rv++nd.data.extract (st+dl) nd.data.size)))
  have hbd:Below wc.heap.size wc wc.drew:=⟨rfl,rfl,rfl,Nat.le_refl _,fun _ _=>rfl⟩
  have ru:=hbc.trans (hbd.mono hbc.size);have hput:=(HM.out wc.drew ru).vQ iU.out (HAT.out wc.drew ru) yH.out ql.out (nd.data.extract 0 st++rv++nd.data.extract (st+dl) nd.data.size);rw[wK] at hput;have kd:wc.drew.cell? ⟨gb,o+3,none⟩=some (.string nd.data):=kc;have sd:wc.drew.frozen? ⟨gb,o+3,none⟩=false:=s1;have TJ:=hX.below hbd hX.lt;have fD:Whole w9 X #[.int .i64 4,.int .i64 h,.int .i64 0,.int .i64 0,.int .i64 0,.int .i64 (I:Int),.string ⟨#[]⟩,.string nd.data,.bool false,.int .i64 (cc:Int),.int .i64 (rl:Int)] 68:=by rw[←wK];exact TJ.other (by show X≠gb;omega) _
  have g9:wc.drew.grownBy w9 (some gb):=by rw[←wK];exact aO (ay (Below.refl wc.drew.heap.size wc.drew) _) _ _
  have BD:w.heap.size≤w9.heap.size:=Nat.le_trans ru.size g9.size;have qm:=(Below.refl _ w9).alloc (Nat.le_refl _) (.cells #[.int .i64 4,.int .i64 h,.int .i64 0,.int .i64 0,.int .i64 0,.int .i64 (I:Int),.string ⟨#[]⟩,.string nd.data,.bool false,.int .i64 (cc:Int),.int .i64 (rl:Int)] 68);have bf:=zh (And.intro (ng w9 (sV h I nd.data (cc:Int) (rl:Int)) w.heap.size BD) (And.intro (hput.1.below qm) (And.intro hput.2.1 (And.intro (hput.2.2.1.below qm) (((aB.of_below ru).trans hput.2.2.2).trans (.of_below qm))))));have d1:∀ W:World,(Op.stringOp .add (nd.data.extract 0 st) rv).run Tryz.prog W=.ok (.string (nd.data.extract 0 st++rv)) W:=fun W=>run_string_add_sum W _ _ (by have:=extract_size nd.data 0 st;omega);have d2:∀ W:World,(Op.stringOp .add (nd.data.extract 0 st++rv) (nd.data.extract (st+dl) nd.data.size)).run Tryz.prog W=.ok (.string (nd.data.extract 0 st++rv++nd.data.extract (st+dl) nd.data.size)) W:=fun W=>run_string_add_sum W _ _ (by have:=extract_size nd.data 0 st;have:=extract_size nd.data (st+dl) nd.data.size;rw[ByteArray.size_append];omega);have u5:((st:Int)+(dl:Int)).toNat=st+dl:=by omega
  have u6:¬ 9223372036854775807<st+rv.size+(nd.data.size - (st+dl)):=by omega
  have u3:(0:Int)≤(st:Int)+(dl:Int):=by omega
  have u4:(st:Int)+(dl:Int)≤(nd.data.size:Int):=by omega
  have z0:w9.cell? ⟨X,0,none⟩=some (.int .i64 4):=fD.cell 0;have z1:w9.cell? ⟨X,1,none⟩=some (.int .i64 h):=fD.cell 1;have z2:w9.cell? ⟨X,2,none⟩=some (.int .i64 0):=fD.cell 2;have z3:w9.cell? ⟨X,3,none⟩=some (.int .i64 0):=fD.cell 3;have z4:w9.cell? ⟨X,4,none⟩=some (.int .i64 0):=fD.cell 4;have z5:w9.cell? ⟨X,5,none⟩=some (.int .i64 (I:Int)):=fD.cell 5;have z6:w9.cell? ⟨X,6,none⟩=some (.string ⟨#[]⟩):=fD.cell 6;have z7:w9.cell? ⟨X,7,none⟩=some (.string nd.data):=fD.cell 7;have z8:w9.cell? ⟨X,8,none⟩=some (.bool false):=fD.cell 8;have z9:w9.cell? ⟨X,9,none⟩=some (.int .i64 (cc:Int)):=fD.cell 9;have XJ:w9.cell? ⟨X,10,none⟩=some (.int .i64 (rl:Int)):=fD.cell 10;clear hput hX fD TJ g9 qm hbc ru hbd kV kX;go_wp2_with fail;refine wp_region_noPanic ?_;refine wp_region_held_drew (S:=(fun W=>True)) (by kernel_rfl) ?_ (fun ah=>?_)
  ·exact trivial
  refine bE [0,1,2,3,5,7,9,10,11,13] ?_;iterate 10 (refine jl ?_;try simp only[pS])
  refine bF ?_;apply Ce
  ·intro KEY;refine zm 4 12 (fun K hK=>?_) fun K hK=>?_
   ·go_simp;refine hK.out _ _ (trivial) fun ah=>?_;clear hK K;(try simp only[pS]);refine bE [6,8] ?_;iterate 2 (refine jl ?_;try simp only[pS])
    refine bF ?_;refine bO 12 fun K hK=>?_;go_simp;refine hK.out _ _ (trivial) fun ah=>?_;clear hK K;(try simp only[pS]);refine bE [14] ?_
    (refine jl ?_;try simp only[pS])
    refine bF ?_;exact KEY
   ·go_simp;refine hK.out _ _ (trivial) fun ah=>?_;clear hK K;(try simp only[pS]);refine bE [14] ?_
    (refine jl ?_;try simp only[pS])
    refine bF ?_;refine bO 4 fun K hK=>?_;go_simp;refine hK.out _ _ (trivial) fun ah=>?_;clear hK K;(try simp only[pS]);refine bE [6,8] ?_;iterate 2 (refine jl ?_;try simp only[pS])
    refine bF ?_;exact KEY
  refine bE [15,16,17] ?_;iterate 3 (refine jl ?_;try simp only[pS])
  refine bF ?_;refine bO 18 fun K hK=>?_;go_simp;(try rw[wK]);refine hK.out _ _ (trivial) fun ah=>?_;clear hK K;(try simp only[pS]);refine gQ ?_;go_wp2_with fail;go_ret2;obtain⟨e1,e2,e3,e4,e5⟩:=bf.out;rw[su.out.1,su.out.2.2.1,su.out.2.2.2,su.out.2.1];exact⟨_,rfl,e1,e2,e3,e4,e5⟩
theorem DI (base B:Nat) (b s root h:Int) (I C:Nat) (live n:Nat) (g:Tr.G) (av:Int→Tr.Sl) (fr:List Nat) (vs vf:Value) (nd:Tr.GN) (v:ByteArray) (w:World) (hm:TV base w B b s vs n (Tr.raw g av) vf fr live root) (hS:Sound b s n (Tr.raw g av) fr live) (ha:AT w g av) (eg:g h=some nd) (hk:nd.kind=4) (hd:bD.rep nd.data.data.toList=nd.data.data.toList) (hz:nd.data.size≤8000) (hI:I≤(iT nd.data).length) (hC:C≤2000000) (hv:v.size≤8000) (nu:(aX v).size≤10000) (hT:Lit w):
  Calls Tryz.prog 30 #[.pointer (some ⟨B,0,none⟩),.int .i64 h,.int .i64 (I:Int),.int .i64 (C:Int),.string v] w fun e w'=>∃ r,e=.returned (.tuple #[r,.int .i64 0])∧bH w.heap.size w' r [sV h I nd.data ((min C ((iT nd.data).length - I):Nat):Int) ((iT (aX v)).length:Nat)]∧
   TV base w' B b s vs n (Tr.raw (Tr.cO g h fun n=>{ n with data:=jw nd.data I C v }) av) vf fr live root∧Sound b s n (Tr.raw (Tr.cO g h fun n=>{ n with data:=jw nd.data I C v }) av) fr live∧
   AT w' (Tr.cO g h fun n=>{ n with data:=jw nd.data I C v }) av∧aB w w' (aD B vs vf) (aD B vs vf):=by
 have hgood:=bD.cu nd.data.data.toList;have iP:=sW hd;have hfl:(iT nd.data).flatten.length=nd.data.size:=by rw[←iP];rfl
 obtain⟨len,hlen⟩:=eX ((iT nd.data).length)
 have hll:len≤nd.data.size:=by rw[←hlen];exact yT _
 obtain⟨cc,hcc⟩:=eX (min C (len - I))
 have hmin:min (C:Int) ((len:Int) - (I:Int))=(cc:Int):=by omega
 obtain⟨st,hst⟩:=eX (jo (iT nd.data) I)
 have aaT:st≤nd.data.size:=by rw[←hst,←hfl];exact tN _ _
 obtain⟨dl,hdl⟩:=eX (jo ((iT nd.data).drop I) cc)
 have hdrop:(iT nd.data).flatten.drop st=((iT nd.data).drop I).flatten:=by rw[←hst];exact qb _ _
 have aaU:st+dl≤nd.data.size:=by
  have h1:=tN ((iT nd.data).drop I) cc;rw[hdl,←hdrop,List.length_drop,hfl] at h1;omega
 have HL:=zh (fun W=>sj nd.data W (by omega));rw[show (bD.chunks nd.data.data.toList).length=len from hlen] at HL;have OW:=zh (fun W=>qJ nd.data (iT nd.data) I W (by omega) (by omega) hgood iP);rw[hst] at OW;have hsub:(nd.data.extract st nd.data.size).data.toList=((iT nd.data).drop I).flatten:=by rw[←hdrop,←iP];exact extract_drop _ _
 have Gl:(nd.data.extract st nd.data.size).size≤20000:=by
  have:(nd.data.extract st nd.data.size).size=(nd.data.extract st nd.data.size).data.toList.length:=rfl;rw[this,hsub,←hdrop,List.length_drop,hfl];omega
 have Vd:=zh (fun W=>qJ (nd.data.extract st nd.data.size) ((iT nd.data).drop I) cc W Gl (by omega) (fun c hc=>hgood c (List.mem_of_mem_drop hc)) hsub);rw[hdl] at Vd;obtain⟨rv,uh⟩:=eX (aX v)
 rw[uh] at nu;have HR:=zh (fun (W:World) (hT:Lit W)=>iC v W (by omega) hT);rw[show fF (bD.rep v.data.toList)=rv from uh] at HR;have NK:=zh (fun W=>sj rv W nu);obtain⟨rl,hrl⟩:=eX ((bD.chunks rv.data.toList).length)
 rw[hrl] at NK;have hnew:jw nd.data I C v=nd.data.extract 0 st++rv++nd.data.extract (st+dl) nd.data.size:=by
  rw[←uh];exact Gj iP hlen (by omega) hcc hst hdl
 have su:=zh (And.intro hnew (And.intro (show (iT (aX v)).length=rl by rw[uh];exact hrl) (And.intro hlen hcc)));have HM:=zh (fun (W:World) (hb:Below w.heap.size w W)=>hm.below hb);have HA:=zh (fun (W:World) (hb:Below w.heap.size w W)=>gW base B b s root h live n _ fr vs vf _ W (hm.below hb) hS (Tr.aj eg));have HAT:=zh (fun (W:World) (hb:Below w.heap.size w W)=>(ha.below hb));have rD:=zh (fun (W:World) (hb:Below w.heap.size w W)=>hT.below hb);have LH:=zh hm.lt;have iU:=zh hS;have ql:=zh eg;have q0:(nd.kind == 0)=false:=by simp[hk]
 have q3:(nd.kind != 3)=true:=by simp[hk]
 have q4:(nd.kind != 4)=false:=by simp[hk]
 have r0:¬ (I:Int)<0:=by omega
 have r1:¬ (len:Int)<(I:Int):=by omega
 have r2:¬ (C:Int)<0:=by omega
 have r3:(0:Int)≤(st:Int):=by omega
 have r4:(st:Int)≤(nd.data.size:Int):=by omega
 clear hm hS ha hk hd hT hnew hrl hlen hgood iP hfl hsub Gl hdrop hdl hst hcc
 go_enter Tryz.func30,Tryz.ntmps30
 go_wp2_with fail;refine (HA.out w (Below.refl _ w)).mono ?_;rintro e w1 ⟨gb,o,rfl,hpt,hb1⟩;obtain⟨t0,_,_,t3,_⟩:=((HM.out w1 hb1).np hpt (Tr.aj ql.out)).cells;have t0':w1.cell? ⟨gb,o,none⟩=some (.int .i64 nd.kind):=t0;have Rq:w1.cell? ⟨gb,o+3,none⟩=some (.string nd.data):=t3;have HB1:=zh hb1;have yH:=zh hpt;clear t0 t3 hb1 hpt HA;have wL:=zh (fun (W:World) (hb:Below w.heap.size w W)=>(show W.cell? ⟨gb,o,none⟩=some (.int .i64 nd.kind)∧W.cell? ⟨gb,o+3,none⟩=some (.string nd.data) from⟨((HM.out W hb).np yH.out (Tr.aj ql.out)).cells.1,((HM.out W hb).np yH.out (Tr.aj ql.out)).cells.2.2.2.1⟩));go_wp2_with fail;refine (HL.out w1).mono ?_;rintro e w2 ⟨rfl,hb2⟩;have HB2:=zh (HB1.out.trans (hb2.mono HB1.out.size));obtain⟨t0,t3⟩:=wL.out w2 HB2.out;clear t0' Rq hb2 HL;go_wp2_with fail;refine (OW.out w2).mono ?_;rintro e w3 ⟨rfl,hb3⟩;have HB3:=zh (HB2.out.trans (hb3.mono HB2.out.size));obtain⟨-,Rq⟩:=wL.out w3 HB3.out;clear t0 t3 hb3 OW;go_wp2_with fail;refine (Vd.out w3).mono ?_;rintro e w4 ⟨rfl,hb4⟩;have ow:=zh (HB3.out.trans (hb4.mono HB3.out.size));obtain⟨-,t3⟩:=wL.out w4 ow.out;clear Rq hb4 Vd;go_wp2_with fail;refine (HR.out w4 (rD.out w4 ow.out)).mono ?_;rintro e w5 ⟨rfl,hb5⟩;have mH:=zh (ow.out.trans (hb5.mono ow.out.size));obtain⟨-,Rq⟩:=wL.out w5 mH.out;clear t3 hb5 HR;have u1:¬ (1048576:Int)<(nd.data.size:Int) - ((st:Int)+(dl:Int) - (st:Int))+(rv.size:Int):=by omega
 have u2:¬ (1048576:Int)<(nd.data.size:Int) - (dl:Int)+(rv.size:Int):=by omega
 go_wp2_with fail;obtain⟨V,hV⟩:=eX (w5.drew)
 have mX:Below w5.heap.size w5 V:=mW hV;have cZ:=zh (mH.out.trans (mX.mono mH.out.size));obtain⟨X1,hX1⟩:=eX (V.alloc (.cells #[.int .i64 0,.int .i64 0,.int .i64 0,.int .i64 0,.int .i64 0,.int .i64 0,.string ⟨#[]⟩,.string ⟨#[]⟩,.bool false,.int .i64 0,.int .i64 0] 68))
 have uI:Below V.heap.size V X1:=gU hX1;have yK:=zh (cZ.out.trans (uI.mono cZ.out.size));have NA:Hid (Whole X1 V.heap.size #[.int .i64 0,.int .i64 0,.int .i64 0,.int .i64 0,.int .i64 0,.int .i64 0,.string ⟨#[]⟩,.string ⟨#[]⟩,.bool false,.int .i64 0,.int .i64 0] 68):=zh (by rw[←hX1];exact Whole.new V _ _);have kV:=(wL.out V cZ.out).2;have kX:=(wL.out X1 yK.out).2;clear mX uI
 go_cut [16] from 16 (fun u wc=>∃ X,u=.pointer (some ⟨X,0,none⟩)∧Whole wc X #[.int .i64 4,.int .i64 h,.int .i64 0,.int .i64 0,.int .i64 0,.int .i64 (I:Int),.string ⟨#[]⟩,.string nd.data,.bool false,.int .i64 (cc:Int),.int .i64 (rl:Int)] 68∧w.heap.size≤X∧Below w.heap.size w wc)
 case first=>
  rename_i J0 K0 hJ0 wR;refine wp_region_noPanic ?_;refine wp_region_held_drew (S:=(fun W=>W.cell? ⟨gb,o+3,none⟩=some (.string nd.data))) (by kernel_rfl) ?_ (fun ah=>?_)
  ·exact (by rw[hV];exact kV)
  rw[hV] at ah ⊢;refine bE [0,1,2,3,4,5,6,7] ?_;iterate 8 (refine jl ?_;try simp only[pS])
  refine bF ?_;refine zm 8 10 (fun K hK=>?_) fun K hK=>?_
  ·go_simp;refine (NK.out V).mono ?_;rintro e w6 ⟨rfl,hb6⟩;have qx:=zh (cZ.out.trans (hb6.mono cZ.out.size));have k6:=(wL.out w6 qx.out).2;clear hb6;refine hK.out _ _ (k6) fun ah=>?_;clear hK K;(try simp only[pS]);refine bE [9] ?_
   (refine jl ?_;try simp only[pS])
   refine bF ?_;refine bO 10 fun K hK=>?_;go_simp;obtain⟨w7,hw7⟩:=eX (w6.alloc (.cells #[.int .i64 0,.int .i64 0,.int .i64 0,.int .i64 0,.int .i64 0,.int .i64 0,.string ⟨#[]⟩,.string ⟨#[]⟩,.bool false,.int .i64 0,.int .i64 0] 68))
   have aK:Whole w7 w6.heap.size #[.int .i64 0,.int .i64 0,.int .i64 0,.int .i64 0,.int .i64 0,.int .i64 0,.string ⟨#[]⟩,.string ⟨#[]⟩,.bool false,.int .i64 0,.int .i64 0] 68:=by rw[←hw7];exact Whole.new w6 _ _
   have nL:Below w6.heap.size w6 w7:=gU hw7;have hs6:=qx.out.size;have iL:=zh (qx.out.trans (nL.mono qx.out.size));have k7:=(wL.out w7 iL.out).2;(try rw[hw7]);obtain⟨w8,hw8,zU,g8⟩:=kQ aK (.int .i64 4) (.int .i64 h) (.int .i64 0) (.int .i64 0) (.int .i64 0) (.int .i64 (I:Int)) (.string ⟨#[]⟩) (.string nd.data) (.bool false) (.int .i64 (cc:Int)) (.int .i64 (rl:Int));have jB:=(iL.out).grown g8 (iL.out).size (fun j hj=>by injection hj with hj;omega);have k8:=(wL.out w8 jB).2;have kH:=zh (And.intro zU (And.intro (show w.heap.size≤w6.heap.size by omega) jB));have y0:w7.cell? ⟨w6.heap.size,0,none⟩=some (.int .i64 0):=aK.cell 0;have EZ:=aK.free 0;have y1:w7.cell? ⟨w6.heap.size,1,none⟩=some (.int .i64 0):=aK.cell 1;have E5:=aK.free 1;have y2:w7.cell? ⟨w6.heap.size,2,none⟩=some (.int .i64 0):=aK.cell 2;have E8:=aK.free 2;have y3:w7.cell? ⟨w6.heap.size,3,none⟩=some (.int .i64 0):=aK.cell 3;have E9:=aK.free 3;have y4:w7.cell? ⟨w6.heap.size,4,none⟩=some (.int .i64 0):=aK.cell 4;have Fa:=aK.free 4;have y5:w7.cell? ⟨w6.heap.size,5,none⟩=some (.int .i64 0):=aK.cell 5;have Fb:=aK.free 5;have y6:w7.cell? ⟨w6.heap.size,6,none⟩=some (.string ⟨#[]⟩):=aK.cell 6;have Fe:=aK.free 6;have y7:w7.cell? ⟨w6.heap.size,7,none⟩=some (.string ⟨#[]⟩):=aK.cell 7;have Fg:=aK.free 7;have y8:w7.cell? ⟨w6.heap.size,8,none⟩=some (.bool false):=aK.cell 8;have Fh:=aK.free 8;have y9:w7.cell? ⟨w6.heap.size,9,none⟩=some (.int .i64 0):=aK.cell 9;have Fj:=aK.free 9;have wP:w7.cell? ⟨w6.heap.size,10,none⟩=some (.int .i64 0):=aK.cell 10;have rJ:=aK.free 10;clear aK zU g8 jB;clear nL;refine hK.out _ _ (k7) fun ah=>?_;clear hK K;(try simp only[pS]);refine bO 11 fun K hK=>?_;go_simp;(try rw[hw8]);refine hK.out _ _ (k8) fun ah=>?_;clear hK K;(try simp only[pS]);refine gQ ?_;exact wR _ _ (Met.intro (hJ0 _ _ ⟨_,_,_,_,_,_,_,_,_,_,_,_,_,_,_,_,_,_,_,_,_,_,_,_,_,_,_,_,_,_,_,_,_,_,_,_,_,_,_,_,_,_,_,_,_,_,_,_,_,_,_,_,_,_,_,_,_,_,_,_,_,_,_,_,_,_,_,_,_,_,_,_,_,_,_,_,_,_,_,_,_,_,_,_,_,_,_,_,_,_,_,_,_,_,_,_,_,_,_,_,_,_,_,_,_,_,⟨_,rfl,kH.out⟩,rfl⟩))
  ·go_simp;(try rw[hX1]);refine hK.out _ _ (kX) fun ah=>?_;clear hK K;(try simp only[pS]);refine bO 8 fun K hK=>?_;go_simp;refine (NK.out X1).mono ?_;rintro e w6 ⟨rfl,hb6⟩;have qx:=zh (yK.out.trans (hb6.mono yK.out.size));have k6:=(wL.out w6 qx.out).2;have aK:=NA.out.below hb6 NA.out.lt;have hs6:=cZ.out.size;clear hb6;obtain⟨w8,hw8,zU,g8⟩:=kQ aK (.int .i64 4) (.int .i64 h) (.int .i64 0) (.int .i64 0) (.int .i64 0) (.int .i64 (I:Int)) (.string ⟨#[]⟩) (.string nd.data) (.bool false) (.int .i64 (cc:Int)) (.int .i64 (rl:Int));have jB:=(qx.out).grown g8 (qx.out).size (fun j hj=>by injection hj with hj;omega);have k8:=(wL.out w8 jB).2;have kH:=zh (And.intro zU (And.intro (show w.heap.size≤V.heap.size by omega) jB));have y0:w6.cell? ⟨V.heap.size,0,none⟩=some (.int .i64 0):=aK.cell 0;have EZ:=aK.free 0;have y1:w6.cell? ⟨V.heap.size,1,none⟩=some (.int .i64 0):=aK.cell 1;have E5:=aK.free 1;have y2:w6.cell? ⟨V.heap.size,2,none⟩=some (.int .i64 0):=aK.cell 2;have E8:=aK.free 2;have y3:w6.cell? ⟨V.heap.size,3,none⟩=some (.int .i64 0):=aK.cell 3;have E9:=aK.free 3;have y4:w6.cell? ⟨V.heap.size,4,none⟩=some (.int .i64 0):=aK.cell 4;have Fa:=aK.free 4;have y5:w6.cell? ⟨V.heap.size,5,none⟩=some (.int .i64 0):=aK.cell 5;have Fb:=aK.free 5;have y6:w6.cell? ⟨V.heap.size,6,none⟩=some (.string ⟨#[]⟩):=aK.cell 6;have Fe:=aK.free 6;have y7:w6.cell? ⟨V.heap.size,7,none⟩=some (.string ⟨#[]⟩):=aK.cell 7;have Fg:=aK.free 7;have y8:w6.cell? ⟨V.heap.size,8,none⟩=some (.bool false):=aK.cell 8;have Fh:=aK.free 8;have y9:w6.cell? ⟨V.heap.size,9,none⟩=some (.int .i64 0):=aK.cell 9;have Fj:=aK.free 9;have wP:w6.cell? ⟨V.heap.size,10,none⟩=some (.int .i64 0):=aK.cell 10;have rJ:=aK.free 10;clear aK zU g8 jB;refine hK.out _ _ (k6) fun ah=>?_;clear hK K;(try simp only[pS]);refine bE [9] ?_
   (refine jl ?_;try simp only[pS])
   refine bF ?_;refine bO 11 fun K hK=>?_;go_simp;(try rw[hw8]);refine hK.out _ _ (k8) fun ah=>?_;clear hK K;(try simp only[pS]);refine gQ ?_;exact wR _ _ (Met.intro (hJ0 _ _ ⟨_,_,_,_,_,_,_,_,_,_,_,_,_,_,_,_,_,_,_,_,_,_,_,_,_,_,_,_,_,_,_,_,_,_,_,_,_,_,_,_,_,_,_,_,_,_,_,_,_,_,_,_,_,_,_,_,_,_,_,_,_,_,_,_,_,_,_,_,_,_,_,_,_,_,_,_,_,_,_,_,_,_,_,_,_,_,_,_,_,_,_,_,_,_,_,_,_,_,_,_,_,_,_,_,_,_,⟨_,rfl,kH.out⟩,rfl⟩))
 case rest=>
  obtain⟨X,rfl,hX,Xy,hbc⟩:=hcut;have kc:=(wL.out wc hbc).2;obtain⟨s0,s1⟩:=(HM.out wc hbc).np yH.out (Tr.aj ql.out) 3 (by omega);have hgw:gb<w.heap.size:=(LH.out gb yH.out.foot).2;have hput:=(HM.out wc hbc).vQ iU.out (HAT.out wc hbc) yH.out ql.out (jw nd.data I C v);rw[su.out.1] at hput;obtain⟨w9,wK⟩:=eX (wc.drew.setCell ⟨gb,o+3,none⟩ (.string (nd.data.extract 0 st++rv++nd.data.extract (st+dl) nd.data.size)))
  have hbd:Below wc.heap.size wc wc.drew:=⟨rfl,rfl,rfl,Nat.le_refl _,fun _ _=>rfl⟩
  have ru:=hbc.trans (hbd.mono hbc.size);have hput:=(HM.out wc.drew ru).vQ iU.out (HAT.out wc.drew ru) yH.out ql.out (nd.data.extract 0 st++rv++nd.data.extract (st+dl) nd.data.size);rw[wK] at hput;have kd:wc.drew.cell? ⟨gb,o+3,none⟩=some (.string nd.data):=kc;have sd:wc.drew.frozen? ⟨gb,o+3,none⟩=false:=s1;have TJ:=hX.below hbd hX.lt;have fD:Whole w9 X #[.int .i64 4,.int .i64 h,.int .i64 0,.int .i64 0,.int .i64 0,.int .i64 (I:Int),.string ⟨#[]⟩,.string nd.data,.bool false,.int .i64 (cc:Int),.int .i64 (rl:Int)] 68:=by rw[←wK];exact TJ.other (by show X≠gb;omega) _
  have g9:wc.drew.grownBy w9 (some gb):=by rw[←wK];exact aO (ay (Below.refl wc.drew.heap.size wc.drew) _) _ _
  have BD:w.heap.size≤w9.heap.size:=Nat.le_trans ru.size g9.size;have qm:=(Below.refl _ w9).alloc (Nat.le_refl _) (.cells #[.int .i64 4,.int .i64 h,.int .i64 0,.int .i64 0,.int .i64 0,.int .i64 (I:Int),.string ⟨#[]⟩,.string nd.data,.bool false,.int .i64 (cc:Int),.int .i64 (rl:Int)] 68);have bf:=zh (And.intro (ng w9 (sV h I nd.data (cc:Int) (rl:Int)) w.heap.size BD) (And.intro (hput.1.below qm) (And.intro hput.2.1 (And.intro (hput.2.2.1.below qm) (((aB.of_below ru).trans hput.2.2.2).trans (.of_below qm))))));have d1:∀ W:World,(Op.stringOp .add (nd.data.extract 0 st) rv).run Tryz.prog W=.ok (.string (nd.data.extract 0 st++rv)) W:=fun W=>run_string_add_sum W _ _ (by have:=extract_size nd.data 0 st;omega);have d2:∀ W:World,(Op.stringOp .add (nd.data.extract 0 st++rv) (nd.data.extract (st+dl) nd.data.size)).run Tryz.prog W=.ok (.string (nd.data.extract 0 st++rv++nd.data.extract (st+dl) nd.data.size)) W:=fun W=>run_string_add_sum W _ _ (by have:=extract_size nd.data 0 st;have:=extract_size nd.data (st+dl) nd.data.size;rw[ByteArray.size_append];omega);have u5:((st:Int)+(dl:Int)).toNat=st+dl:=by omega
  have u6:¬ 9223372036854775807<st+rv.size+(nd.data.size - (st+dl)):=by omega
  have u3:(0:Int)≤(st:Int)+(dl:Int):=by omega
  have u4:(st:Int)+(dl:Int)≤(nd.data.size:Int):=by omega
  have z0:w9.cell? ⟨X,0,none⟩=some (.int .i64 4):=fD.cell 0;have z1:w9.cell? ⟨X,1,none⟩=some (.int .i64 h):=fD.cell 1;have z2:w9.cell? ⟨X,2,none⟩=some (.int .i64 0):=fD.cell 2;have z3:w9.cell? ⟨X,3,none⟩=some (.int .i64 0):=fD.cell 3;have z4:w9.cell? ⟨X,4,none⟩=some (.int .i64 0):=fD.cell 4;have z5:w9.cell? ⟨X,5,none⟩=some (.int .i64 (I:Int)):=fD.cell 5;have z6:w9.cell? ⟨X,6,none⟩=some (.string ⟨#[]⟩):=fD.cell 6;have z7:w9.cell? ⟨X,7,none⟩=some (.string nd.data):=fD.cell 7;have z8:w9.cell? ⟨X,8,none⟩=some (.bool false):=fD.cell 8;have z9:w9.cell? ⟨X,9,none⟩=some (.int .i64 (cc:Int)):=fD.cell 9;have XJ:w9.cell? ⟨X,10,none⟩=some (.int .i64 (rl:Int)):=fD.cell 10;clear hput hX fD TJ g9 qm hbc ru hbd kV kX;go_wp2_with fail;refine wp_region_noPanic ?_;refine wp_region_held_drew (S:=(fun W=>True)) (by kernel_rfl) ?_ (fun ah=>?_)
  ·exact trivial
  refine bE [0,1,2,3,5,7,9,10,11,13] ?_;iterate 10 (refine jl ?_;try simp only[pS])
  refine bF ?_;apply Ce
  ·intro KEY;refine zm 4 12 (fun K hK=>?_) fun K hK=>?_
   ·go_simp;refine hK.out _ _ (trivial) fun ah=>?_;clear hK K;(try simp only[pS]);refine bE [6,8] ?_;iterate 2 (refine jl ?_;try simp only[pS])
    refine bF ?_;refine bO 12 fun K hK=>?_;go_simp;refine hK.out _ _ (trivial) fun ah=>?_;clear hK K;(try simp only[pS]);refine bE [14] ?_
    (refine jl ?_;try simp only[pS])
    refine bF ?_;exact KEY
   ·go_simp;refine hK.out _ _ (trivial) fun ah=>?_;clear hK K;(try simp only[pS]);refine bE [14] ?_
    (refine jl ?_;try simp only[pS])
    refine bF ?_;refine bO 4 fun K hK=>?_;go_simp;refine hK.out _ _ (trivial) fun ah=>?_;clear hK K;(try simp only[pS]);refine bE [6,8] ?_;iterate 2 (refine jl ?_;try simp only[pS])
    refine bF ?_;exact KEY
  refine bE [15,16,17] ?_;iterate 3 (refine jl ?_;try simp only[pS])
  refine bF ?_;refine bO 18 fun K hK=>?_;go_simp;(try rw[wK]);refine hK.out _ _ (trivial) fun ah=>?_;clear hK K;(try simp only[pS]);refine gQ ?_;go_wp2_with fail;go_ret2;obtain⟨e1,e2,e3,e4,e5⟩:=bf.out;rw[su.out.1,su.out.2.2.1,su.out.2.2.2,su.out.2.1];exact⟨_,rfl,e1,e2,e3,e4,e5⟩
end
end Go.Proofs.YtjpbhkcjmdndjaaGreatDoor
