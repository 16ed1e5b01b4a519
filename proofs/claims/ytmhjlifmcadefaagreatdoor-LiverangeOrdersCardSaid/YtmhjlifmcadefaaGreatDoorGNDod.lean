/- Part of a proof about trees. -/
import Derived.BigQuiet
import Derived.Deep.RegionHeld3
import Derived.Test.YtmhjlifmcadefaaGreatDoorGNDoc
import Derived.Test.YtmhjlifmcadefaaGreatDoorGNRrp
set_option linter.unusedVariables false
set_option linter.unusedSimpArgs false
set_option linter.unusedSectionVars false
set_option maxHeartbeats 8000000
set_option maxRecDepth 100000
namespace Go.Proofs.YtmhjlifmcadefaaGreatDoor
section
open Go.RowKit
variable [mQ]
theorem FU {hs:List Int} {i:Nat} {ix:Int} {old:ByteArray} {c sz:Int}:[pG i ix old c sz].map (rz (hof hs))=[sI (hof hs (i:Int)) ix old c sz]:=by simp[rz,pG,sI,mF]
theorem Dj (d:ByteArray) (i c:Nat) (s:ByteArray):(jB d i c s).data.toList=((iL d).take i++iL s++(iL d).drop (i+c)).flatten:=by
 unfold jB;rw[Dk,List.flatten_append,List.flatten_append];rfl
theorem FV (d:ByteArray) (i c:Nat) (s:ByteArray):bB.rep (jB d i c s).data.toList=(jB d i c s).data.toList:=by
 have hg:∀ x∈(iL d).take i++iL s++(iL d).drop (i+c),bB.Good x:=fun x hx=>by
  rcases List.mem_append.1 hx with h | h
  ·rcases List.mem_append.1 h with h | h
   ·exact bB.bV _ x (List.mem_of_mem_take h)
   ·exact bB.bV _ x h
  ·exact bB.bV _ x (List.mem_of_mem_drop h)
 rw[Dj];have:=bB.xR hg [];rw[List.append_nil,bB.iW,List.append_nil] at this;unfold bB.rep;rw[this]
theorem Dl {d:ByteArray} {i c:Nat} {s:ByteArray} (hd:bB.rep d.data.toList=d.data.toList):(jB d i c s).size≤d.size+(aZ s).size:=by
 have h1:(jB d i c s).size=(jB d i c s).data.toList.length:=rfl;have h2:(aZ s).size=(iL s).flatten.length:=rfl;have h3:d.size=(iL d).flatten.length:=by have:=sJ hd;rw[←this];rfl
 have h4:(iL d).flatten.length=((iL d).take i).flatten.length+((iL d).drop i).flatten.length:=by rw[←List.length_append,←List.flatten_append,List.take_append_drop]
 have h5:((iL d).drop i).flatten.length=(((iL d).drop i).take c).flatten.length+(((iL d).drop i).drop c).flatten.length:=by rw[←List.length_append,←List.flatten_append,List.take_append_drop]
 rw[List.drop_drop] at h5;rw[h1,Dj,List.flatten_append,List.flatten_append,List.length_append,List.length_append,h2,h3];omega
theorem Js (base bM T B M:Nat) (b s:Int) (vs vf aP vh:Value) (n live m:Nat) (fr:List Nat) (av:Int→Tr.Sl) (f:Nat→RS) (hs:List Int) (g:Tr.G) (K:Nat) (o:qp) (w:World) (H:TW w base bM T B M b s vs vf aP vh n live m fr av f hs g K) (ho:pE o) (hkd:o.kind.tmod 10=7) (hm:m≤300) (hK:K≤60) (hT:Lit w):
  uL base bM T B M b s K o w:=by
 unfold uL;obtain⟨ia,hia,aI⟩:=aR ho.a.1 H.m0;obtain⟨ib,hib,iT⟩:=aR ho.b.1 H.m0;obtain⟨ic,hic,qw⟩:=aR (m:=m+1) ho.c.1 (by omega);rw[Int.natCast_add] at hic;have hlen:=H.len;have hm0:=H.m0;obtain⟨w1,gh,oh,ch,rfl,mz,IU,IV,IW,hw1,fQ,HB1,H1,ql,jM,HLEN,sG,sH,t0,t1,t2,x0,x1,x2,x3,x4,x5,x6,x7,IX,IY,IZ,I4,I5,I6,I7,I8⟩:=iB H ho hT;have ze:=zh (fun (W:World) (hb:Below w.heap.size w W)=>H.mv.below hb);have dZ:=zh (fun (W:World) (hb:Below w.heap.size w W) (j:Nat) (hj:j<m)=>bX bM M m aP f j W (H.mv.below hb) hj (by omega));clear H ho hT
 go_enter Tryz.func16,Tryz.ntmps16
 go_wp2_with fail;(try rw[hw1]);try go_wp2_with fail
 go_quiet (fail)
 obtain⟨V,hV⟩:=eX (w1.drewN nq)
 have dS:Below w1.heap.size w1 V:=Jg hV;have bK:=zh (HB1.out.trans (dS.mono HB1.out.size));have dH:=zh (fQ.out.below dS fQ.out.lt);have HV:=zh (H1.out.below dS);have vv:=zh (jM.out.below dS);obtain⟨t0',t1',t2'⟩:=sH.out V bK.out;have z0:V.cell? ⟨w.heap.size,0,none⟩=some (.int .u8 o.kind):=dH.out.cell 0;have z4:V.cell? ⟨w.heap.size,4,none⟩=some (.string o.s):=dH.out.cell 4;have z5:V.cell? ⟨w.heap.size,5,none⟩=some (.string o.t):=dH.out.cell 5;have z6:V.cell? ⟨w.heap.size,6,none⟩=some (.int .i8 o.n):=dH.out.cell 6;have z7:V.cell? ⟨w.heap.size,7,none⟩=some (.int .i8 o.k):=dH.out.cell 7;clear t0 t1 t2 x0 x1 x2 x3 x4 x5 x6 x7 dS;(try rw[hV]);go_wp2_with fail;refine (dZ.out V bK.out ia aI).mono ?_;rintro e w2 ⟨rfl,hw2⟩;rw[hw2];clear dZ hw2;go_wp2_with fail;obtain⟨h,hh⟩:=eX (hof hs (ia:Int))
 obtain⟨V2,hV2⟩:=eX (V.drew)
 have bN:Below V.heap.size V V2:=lW hV2;have ru:=zh (bK.out.trans (bN.mono bK.out.size));have HW2:=zh (HV.out.below bN);have gG:=zh (dH.out.below bN dH.out.lt);have HL2:=zh (vv.out.below bN);have gV:=zh (show jw T B M gh oh m ch w.heap.size ia h o V2 from bD HW2.out.tw gG.out HLEN.out (by rw[←hh];exact HV.out.bJ aI));have K4:(0:Int)≤(ia:Int):=by omega
 have K5:(ia:Int)<(m:Int):=by omega
 obtain⟨zt,zn,zk⟩:=And.intro ql.out.t (And.intro ql.out.n ql.out.k);obtain⟨zn0,zn1⟩:=zn;obtain⟨zk0,zk1⟩:=zk;have wrn:IntKind.i64.wrap o.n=o.n:=by rw[IntKind.wrap_i64];omega
 have wrk:IntKind.i64.wrap o.k=o.k:=by rw[IntKind.wrap_i64];omega
 cases hg:(f ia).gone with
 | true=>
  obtain⟨e1,e2⟩:=HW2.out.mD aI hg;have HC:=zh (qx base B b s (hof hs 0) h o.n o.k 6 live n (Tr.raw g av) fr vs vf Tr.yX o.t V2 HW2.out.tv HW2.out.so (by rw[←hh];exact HW2.out.i64 aI) (by rw[←hh,e1,Tr.bF e2];rfl) (by decide) rfl (by decide));clear e1 e2;refine wp_region_noPanic ?_;refine wp_region_held_drew (S:=jw T B M gh oh m ch w.heap.size ia h o) (by kernel_rfl) ?_ (fun ah=>?_)
  ·exact (by rw[hV2];exact gV.out)
  rw[hV2] at ah ⊢;refine bn [0,1,2,3,4,5,6,7,8,9,10,11,12,13,14,15,16,17,18] ?_;iterate 19 (refine cZ ?_;try simp only[pS])
  refine bq ?_;refine bG 19 fun K hK=>?_;go_simp;refine HC.out.mono ?_;rintro e w3 ⟨rfl,hb3⟩;have gJ:=zh (HW2.out.below hb3).up;have eU:=zh (gG.out.below hb3 gG.out.lt);have jA:=zh (show jw T B M gh oh m ch w.heap.size ia h o w3 from bD gJ.out.tw eU.out HLEN.out (by rw[←hh];exact HV.out.bJ aI));clear hb3;refine hK.out _ _ (jA.out) fun ah=>?_;clear hK K;(try simp only[pS]);refine bn [20,21,22,23,24] ?_;iterate 5 (refine cZ ?_;try simp only[pS])
  refine bq ?_;refine eY ?_;go_wp2_with fail;go_ret2;exact⟨_,[],_,_,_,_,_,_,_,_,_,_,_,_,rfl,gJ.out⟩
 | false=>
  have eg:g h=some (Tr.eD (hof hs) (jZ (f ia))):=by rw[←hh];exact HW2.out.dx aI hg
  have Ji:gI h:=by rw[←hh];exact HW2.out.i64 aI
  have hrd:(Tr.raw g av h).getD Tr.yX=Tr.dW g av h (Tr.eD (hof hs) (jZ (f ia))):=by rw[Tr.aj eg];rfl
  have FJ:=zh (HW2.out.bd ia aI);have hb2:=FJ.out.2.1;have Cg:=FJ.out.1;have Yo:(aZ o.t).size≤120:=by
   have h1:=bB.mV o.t.data.toList;have h2:(aZ o.t).size=(bB.rep o.t.data.toList).length:=ko _;have h3:o.t.data.toList.length=o.t.size:=rfl;omega
  have hkk:(f ia).kind≠0:=HW2.out.kinds h _ eg;by_cases hk3:(f ia).kind<3
  ·have hkr:1≤(f ia).kind:=by
    by_cases h0:ia=0
    ·rw[h0,HW2.out.km.1];decide
    ·rcases HW2.out.km.2 ia aI h0 with e | e | e<;>omega
   have HC:=zh (qx base B b s (hof hs 0) h o.n o.k 10 live n (Tr.raw g av) fr vs vf _ o.t V2 HW2.out.tv HW2.out.so Ji hrd (by show (f ia).data.size≤10000;omega) (by show Dm (f ia).kind _ _ _=10;unfold Dm;rw[if_neg hkk,if_pos (by omega)]) (by decide));have HK:=zh hk3;clear eg hk3 hkr hrd hkk;refine wp_region_noPanic ?_;refine wp_region_held_drew (S:=jw T B M gh oh m ch w.heap.size ia h o) (by kernel_rfl) ?_ (fun ah=>?_)
   ·exact (by rw[hV2];exact gV.out)
   rw[hV2] at ah ⊢;refine bn [0,1,2,3,4,5,6,7,8,9,10,11,12,13,14,15,16,17,18] ?_;iterate 19 (refine cZ ?_;try simp only[pS])
   refine bq ?_;refine bG 19 fun K hK=>?_;go_simp;refine HC.out.mono ?_;rintro e w3 ⟨rfl,hb3⟩;have gJ:=zh (HW2.out.below hb3).up;have eU:=zh (gG.out.below hb3 gG.out.lt);have jA:=zh (show jw T B M gh oh m ch w.heap.size ia h o w3 from bD gJ.out.tw eU.out HLEN.out (by rw[←hh];exact HV.out.bJ aI));clear hb3;refine hK.out _ _ (jA.out) fun ah=>?_;clear hK K;(try simp only[pS]);refine bn [20,21,22,23,24] ?_;iterate 5 (refine cZ ?_;try simp only[pS])
   refine bq ?_;refine eY ?_;go_wp2_with fail;obtain⟨V3,kL⟩:=eX (w3.drew)
   have bP:Below w3.heap.size w3 V3:=lW kL;have rA:=zh (gJ.out.below bP);have iJ:=zh (eU.out.below bP eU.out.lt);have nV:=zh (show jw T B M gh oh m ch w.heap.size ia h o V3 from bD rA.out.tw iJ.out HLEN.out (by rw[←hh];exact HV.out.bJ aI));have HR:=zh (Ew bM M m aP f ia o.n o.k o.t V3 rA.out.mv aI HK.out);have qm:=zh (dB T B M 0 0 _ (.slice none 0 0) (.slice none 0 0) hs [] V3 rA.out.tw (World.ownsRow_nil _ _ _ _) (World.ownsRow_nil _ _ _ _) (by simp));refine wp_region_noPanic ?_;refine wp_region_held_drew (S:=jw T B M gh oh m ch w.heap.size ia h o) (by kernel_rfl) ?_ (fun ah=>?_)
   ·exact (by rw[kL];exact nV.out)
   rw[kL] at ah ⊢;refine bn [0,1,2,3,4,5,6,7,8,9,10,11,12] ?_;iterate 13 (refine cZ ?_;try simp only[pS])
   refine bq ?_;refine bG 13 fun K hK=>?_;go_simp;refine HR.out.mono ?_;rintro e w4 ⟨rfl,hw4⟩;rw[hw4];clear hw4;refine hK.out _ _ (nV.out) fun ah=>?_;clear hK K;(try simp only[pS]);refine bn [14,15,16,17,18] ?_;iterate 5 (refine cZ ?_;try simp only[pS])
   refine bq ?_;refine eY ?_;go_wp2_with fail;refine qm.out.mono ?_;rintro e w5 ⟨rfl,hb5⟩;have bC:=zh (rA.out.below hb5);clear hb5;go_wp2_with fail;go_ret2;exact⟨_,[],_,_,_,_,_,_,_,_,_,_,_,_,rfl,bC.out⟩
  ·have Yp:(f ia).kind=3∨(f ia).kind=4:=by
    by_cases h0:ia=0
    ·have:=HW2.out.km.1;rw[h0] at hk3;omega
    ·rcases HW2.out.km.2 ia aI h0 with e | e | e<;>omega
   by_cases hr:o.n<0∨((iL (f ia).data).length:Int)<o.n∨o.k<0
   ·have HC:=zh (qx base B b s (hof hs 0) h o.n o.k 2 live n (Tr.raw g av) fr vs vf _ o.t V2 HW2.out.tv HW2.out.so Ji hrd (by show (f ia).data.size≤10000;omega) (by show Dm (f ia).kind (iL (f ia).data).length _ _=2;unfold Dm;rw[if_neg hkk,if_neg (by omega),if_pos hr]) (by decide));have HK:=zh (show 3≤(f ia).kind by omega);have HR0:=zh hr;clear eg hk3 hrd hkk Yp hr;refine wp_region_noPanic ?_;refine wp_region_held_drew (S:=jw T B M gh oh m ch w.heap.size ia h o) (by kernel_rfl) ?_ (fun ah=>?_)
    ·exact (by rw[hV2];exact gV.out)
    rw[hV2] at ah ⊢;refine bn [0,1,2,3,4,5,6,7,8,9,10,11,12,13,14,15,16,17,18] ?_;iterate 19 (refine cZ ?_;try simp only[pS])
    refine bq ?_;refine bG 19 fun K hK=>?_;go_simp;refine HC.out.mono ?_;rintro e w3 ⟨rfl,hb3⟩;have gJ:=zh (HW2.out.below hb3).up;have eU:=zh (gG.out.below hb3 gG.out.lt);have jA:=zh (show jw T B M gh oh m ch w.heap.size ia h o w3 from bD gJ.out.tw eU.out HLEN.out (by rw[←hh];exact HV.out.bJ aI));clear hb3;refine hK.out _ _ (jA.out) fun ah=>?_;clear hK K;(try simp only[pS]);refine bn [20,21,22,23,24] ?_;iterate 5 (refine cZ ?_;try simp only[pS])
    refine bq ?_;refine eY ?_;go_wp2_with fail;obtain⟨V3,kL⟩:=eX (w3.drew)
    have bP:Below w3.heap.size w3 V3:=lW kL;have rA:=zh (gJ.out.below bP);have iJ:=zh (eU.out.below bP eU.out.lt);have nV:=zh (show jw T B M gh oh m ch w.heap.size ia h o V3 from bD rA.out.tw iJ.out HLEN.out (by rw[←hh];exact HV.out.bJ aI));have HR:=zh (zU bM M m aP f ia o.n o.k o.t V3 rA.out.mv aI HK.out FJ.out.2.2 (by omega) HR0.out)
    skip
    refine wp_region_noPanic ?_;refine wp_region_held_drew (S:=jw T B M gh oh m ch w.heap.size ia h o) (by kernel_rfl) ?_ (fun ah=>?_)
    ·exact (by rw[kL];exact nV.out)
    rw[kL] at ah ⊢;refine bn [0,1,2,3,4,5,6,7,8,9,10,11,12] ?_;iterate 13 (refine cZ ?_;try simp only[pS])
    refine bq ?_;refine bG 13 fun K hK=>?_;go_simp;refine HR.out.mono ?_;rintro e w4 ⟨rfl,hb4⟩;have Vq:=zh (rA.out.below hb4);have wU:=zh (iJ.out.below hb4 iJ.out.lt);have Ev:=zh (show jw T B M gh oh m ch w.heap.size ia h o w4 from bD Vq.out.tw wU.out HLEN.out (by rw[←hh];exact HV.out.bJ aI));have qm:=zh (dB T B M 0 0 _ (.slice none 0 0) (.slice none 0 0) hs [] w4 Vq.out.tw (World.ownsRow_nil _ _ _ _) (World.ownsRow_nil _ _ _ _) (by simp));clear hb4;refine hK.out _ _ (Ev.out) fun ah=>?_;clear hK K;(try simp only[pS]);refine bn [14,15,16,17,18] ?_;iterate 5 (refine cZ ?_;try simp only[pS])
    refine bq ?_;refine eY ?_;go_wp2_with fail;refine qm.out.mono ?_;rintro e w5 ⟨rfl,hb5⟩;have bC:=zh (Vq.out.below hb5);clear hb5;go_wp2_with fail;go_ret2;exact⟨_,[],_,_,_,_,_,_,_,_,_,_,_,_,rfl,bC.out⟩
   ·obtain⟨I,hI⟩:=Int.eq_ofNat_of_zero_le (show 0≤o.n by omega);obtain⟨C,hC⟩:=Int.eq_ofNat_of_zero_le (show 0≤o.k by omega);have hIl:I≤(iL (f ia).data).length:=by omega
    have hCl:C≤128:=by omega
    have Un:=zh (And.intro hI hC);have EG:=zh eg;clear eg hk3 hrd hkk hr hI hC;rcases Yp with hk | hk
    ·have HK:=zh (show (Tr.eD (hof hs) (jZ (f ia))).kind=3 from hk);clear hk;have HC:=zh (Ey base B b s (hof hs 0) h I C live n g av fr vs vf _ o.t V2 HW2.out.tv HW2.out.so HW2.out.at' EG.out HK.out FJ.out.2.2 (by show (f ia).data.size≤8000;omega) (by show I≤(iL (f ia).data).length;omega) (by omega) (by omega) (by omega) HL2.out);rw[pF EG.out (U2:=fun n=>{ n with data:=jB (f ia).data I C o.t }) rfl,←Un.out.1,←Un.out.2] at HC;refine wp_region_noPanic ?_;refine wp_region_held_drew (S:=jw T B M gh oh m ch w.heap.size ia h o) (by kernel_rfl) ?_ (fun ah=>?_)
     ·exact (by rw[hV2];exact gV.out)
     rw[hV2] at ah ⊢;refine bn [0,1,2,3,4,5,6,7,8,9,10,11,12,13,14,15,16,17,18] ?_;iterate 19 (refine cZ ?_;try simp only[pS])
     refine bq ?_;refine bG 19 fun K hK=>?_;go_simp;refine HC.out.mono ?_;rintro e w3 ⟨v3,rfl,hr3,hv3,hs3,pz,fF⟩;obtain⟨a1,a2,-,-,-⟩:=HW2.out.after fF;have eU:=zh (gG.out.turns fF.1 (HW2.out.tv.aV gG.out (by decide) (by decide) (by decide)));have jA:=zh (show jw T B M gh oh m ch w.heap.size ia h o w3 from bD a1 eU.out HLEN.out (by rw[←hh];exact HV.out.bJ aI));have HT3:=zh (And.intro a1 a2);have uy:=zh (And.intro hv3 (And.intro hs3 (And.intro pz fF)));have HR3:=zh hr3;obtain⟨A3,c3,rfl⟩:=aF (aG hr3);clear a1 a2 hv3 hs3 pz fF hr3;refine hK.out _ _ (jA.out) fun ah=>?_;clear hK K;(try simp only[pS]);refine bn [20,21,22,23,24] ?_;iterate 5 (refine cZ ?_;try simp only[pS])
     refine bq ?_;refine eY ?_;go_wp2_with fail;obtain⟨V3,kL⟩:=eX (w3.drew)
     have bP:Below w3.heap.size w3 V3:=lW kL;have iJ:=zh (eU.out.below bP eU.out.lt);have Lc:=zh (HT3.out.2.below bP);have zi:=zh (HT3.out.1.below bP);have Di:=zh (show bL V2.heap.size V3 _ _ from bY (S:=fun _=>False) HR3.out (.of_below bP) (fun _ _=>id));have HV5:=zh (And.intro (uy.out.1.below bP) (And.intro uy.out.2.1 (And.intro (uy.out.2.2.1.below bP) (uy.out.2.2.2.trans (.of_below bP)))));have nV:=zh (show jw T B M gh oh m ch w.heap.size ia h o V3 from bD zi.out iJ.out HLEN.out (by rw[←hh];exact HV.out.bJ aI));have HR:=zh (xS bM M m aP f ia I C o.t V3 Lc.out aI (by have:=HK.out;show 3≤(f ia).kind;have h3:(f ia).kind=3:=this;omega) FJ.out.2.2 (by omega) (by omega) (by omega) (by omega) (by omega));rw[←Un.out.1,←Un.out.2] at HR;refine wp_region_noPanic ?_;refine wp_region_held_drew (S:=jw T B M gh oh m ch w.heap.size ia h o) (by kernel_rfl) ?_ (fun ah=>?_)
     ·exact (by rw[kL];exact nV.out)
     rw[kL] at ah ⊢;refine bn [0,1,2,3,4,5,6,7,8,9,10,11,12] ?_;iterate 13 (refine cZ ?_;try simp only[pS])
     refine bq ?_;refine bG 13 fun K hK=>?_;go_simp;refine HR.out.mono ?_;rintro e w4 ⟨v4,rfl,hr4,oI,dJ⟩;have gJ:=zh (HW2.out.put (iK:=av) (u:=fun n=>{ n with data:=jB (f ia).data I C o.t }) (U:=fun n=>{ n with data:=jB (f ia).data I C o.t }) aI hg (fun _=>⟨rfl,rfl⟩) (fun _=>rfl) (fun _=>⟨rfl,rfl⟩) (fun _=>rfl) (by rw[hh];exact HV5.out.1) (by rw[hh];exact HV5.out.2.1) (by rw[hh];exact HV5.out.2.2.1) HV5.out.2.2.2 oI dJ (by have h2:=Dl (i:=I) (c:=C) (s:=o.t) FJ.out.2.2;exact⟨by show (f ia).at'.length≤_;omega,by show (jB (f ia).data I C o.t).size≤_;omega,FV _ _ _ _⟩) ((HW2.out.ok.2 ia aI).same rfl rfl rfl));have uM:=zh (iJ.out.turns dJ.1 (Lc.out.aV iJ.out (by decide) (by decide) (by decide) (by decide)));have FT:=zh (show jw T B M gh oh m ch w.heap.size ia h o w4 from bD gJ.out.tw uM.out HLEN.out (by rw[←hh];exact HV.out.bJ aI));have qm:=zh (dB T B M V2.heap.size V3.heap.size _ _ v4 hs [pG ia o.n (f ia).data ((min C ((iL (f ia).data).length - I):Nat):Int) ((iL (aZ o.t)).length:Nat)] w4 gJ.out.tw (by rw[FU,hh];exact bY Di.out dJ.1 (fun k hk hm=>by have h1:=(Di.out.lt k hk).1;have h2:=(HW2.out.mv.lt k hm).2;omega)) hr4 (by simp));obtain⟨A4,c4,rfl⟩:=aF (aG hr4);clear hr4 oI dJ;refine hK.out _ _ (FT.out) fun ah=>?_;clear hK K;(try simp only[pS]);refine bn [14,15,16,17,18] ?_;iterate 5 (refine cZ ?_;try simp only[pS])
     refine bq ?_;refine eY ?_;go_wp2_with fail;refine qm.out.mono ?_;rintro e w5 ⟨rfl,hb5⟩;have bC:=zh (gJ.out.below hb5);clear hb5;go_wp2_with fail;go_ret2;exact⟨_,[],_,_,_,_,_,_,_,_,_,_,_,_,rfl,bC.out⟩
    ·have HK:=zh (show (Tr.eD (hof hs) (jZ (f ia))).kind=4 from hk);clear hk;have HC:=zh (Ez base B b s (hof hs 0) h I C live n g av fr vs vf _ o.t V2 HW2.out.tv HW2.out.so HW2.out.at' EG.out HK.out FJ.out.2.2 (by show (f ia).data.size≤8000;omega) (by show I≤(iL (f ia).data).length;omega) (by omega) (by omega) (by omega) HL2.out);rw[pF EG.out (U2:=fun n=>{ n with data:=jB (f ia).data I C o.t }) rfl,←Un.out.1,←Un.out.2] at HC;refine wp_region_noPanic ?_;refine wp_region_held_drew (S:=jw T B M gh oh m ch w.heap.size ia h o) (by kernel_rfl) ?_ (fun ah=>?_)
     ·exact (by rw[hV2];exact gV.out)
     rw[hV2] at ah ⊢;refine bn [0,1,2,3,4,5,6,7,8,9,10,11,12,13,14,15,16,17,18] ?_;iterate 19 (refine cZ ?_;try simp only[pS])
     refine bq ?_;refine bG 19 fun K hK=>?_;go_simp;refine HC.out.mono ?_;rintro e w3 ⟨v3,rfl,hr3,hv3,hs3,pz,fF⟩;obtain⟨a1,a2,-,-,-⟩:=HW2.out.after fF;have eU:=zh (gG.out.turns fF.1 (HW2.out.tv.aV gG.out (by decide) (by decide) (by decide)));have jA:=zh (show jw T B M gh oh m ch w.heap.size ia h o w3 from bD a1 eU.out HLEN.out (by rw[←hh];exact HV.out.bJ aI));have HT3:=zh (And.intro a1 a2);have uy:=zh (And.intro hv3 (And.intro hs3 (And.intro pz fF)));have HR3:=zh hr3;obtain⟨A3,c3,rfl⟩:=aF (aG hr3);clear a1 a2 hv3 hs3 pz fF hr3;refine hK.out _ _ (jA.out) fun ah=>?_;clear hK K;(try simp only[pS]);refine bn [20,21,22,23,24] ?_;iterate 5 (refine cZ ?_;try simp only[pS])
     refine bq ?_;refine eY ?_;go_wp2_with fail;obtain⟨V3,kL⟩:=eX (w3.drew)
     have bP:Below w3.heap.size w3 V3:=lW kL;have iJ:=zh (eU.out.below bP eU.out.lt);have Lc:=zh (HT3.out.2.below bP);have zi:=zh (HT3.out.1.below bP);have Di:=zh (show bL V2.heap.size V3 _ _ from bY (S:=fun _=>False) HR3.out (.of_below bP) (fun _ _=>id));have HV5:=zh (And.intro (uy.out.1.below bP) (And.intro uy.out.2.1 (And.intro (uy.out.2.2.1.below bP) (uy.out.2.2.2.trans (.of_below bP)))));have nV:=zh (show jw T B M gh oh m ch w.heap.size ia h o V3 from bD zi.out iJ.out HLEN.out (by rw[←hh];exact HV.out.bJ aI));have HR:=zh (xS bM M m aP f ia I C o.t V3 Lc.out aI (by have:=HK.out;show 3≤(f ia).kind;have h3:(f ia).kind=4:=this;omega) FJ.out.2.2 (by omega) (by omega) (by omega) (by omega) (by omega));rw[←Un.out.1,←Un.out.2] at HR;refine wp_region_noPanic ?_;refine wp_region_held_drew (S:=jw T B M gh oh m ch w.heap.size ia h o) (by kernel_rfl) ?_ (fun ah=>?_)
     ·exact (by rw[kL];exact nV.out)
     rw[kL] at ah ⊢;refine bn [0,1,2,3,4,5,6,7,8,9,10,11,12] ?_;iterate 13 (refine cZ ?_;try simp only[pS])
     refine bq ?_;refine bG 13 fun K hK=>?_;go_simp;refine HR.out.mono ?_;rintro e w4 ⟨v4,rfl,hr4,oI,dJ⟩;have gJ:=zh (HW2.out.put (iK:=av) (u:=fun n=>{ n with data:=jB (f ia).data I C o.t }) (U:=fun n=>{ n with data:=jB (f ia).data I C o.t }) aI hg (fun _=>⟨rfl,rfl⟩) (fun _=>rfl) (fun _=>⟨rfl,rfl⟩) (fun _=>rfl) (by rw[hh];exact HV5.out.1) (by rw[hh];exact HV5.out.2.1) (by rw[hh];exact HV5.out.2.2.1) HV5.out.2.2.2 oI dJ (by have h2:=Dl (i:=I) (c:=C) (s:=o.t) FJ.out.2.2;exact⟨by show (f ia).at'.length≤_;omega,by show (jB (f ia).data I C o.t).size≤_;omega,FV _ _ _ _⟩) ((HW2.out.ok.2 ia aI).same rfl rfl rfl));have uM:=zh (iJ.out.turns dJ.1 (Lc.out.aV iJ.out (by decide) (by decide) (by decide) (by decide)));have FT:=zh (show jw T B M gh oh m ch w.heap.size ia h o w4 from bD gJ.out.tw uM.out HLEN.out (by rw[←hh];exact HV.out.bJ aI));have qm:=zh (dB T B M V2.heap.size V3.heap.size _ _ v4 hs [pG ia o.n (f ia).data ((min C ((iL (f ia).data).length - I):Nat):Int) ((iL (aZ o.t)).length:Nat)] w4 gJ.out.tw (by rw[FU,hh];exact bY Di.out dJ.1 (fun k hk hm=>by have h1:=(Di.out.lt k hk).1;have h2:=(HW2.out.mv.lt k hm).2;omega)) hr4 (by simp));obtain⟨A4,c4,rfl⟩:=aF (aG hr4);clear hr4 oI dJ;refine hK.out _ _ (FT.out) fun ah=>?_;clear hK K;(try simp only[pS]);refine bn [14,15,16,17,18] ?_;iterate 5 (refine cZ ?_;try simp only[pS])
     refine bq ?_;refine eY ?_;go_wp2_with fail;refine qm.out.mono ?_;rintro e w5 ⟨rfl,hb5⟩;have bC:=zh (gJ.out.below hb5);clear hb5;go_wp2_with fail;go_ret2;exact⟨_,[],_,_,_,_,_,_,_,_,_,_,_,_,rfl,bC.out⟩
end
end Go.Proofs.YtmhjlifmcadefaaGreatDoor
