/- Part of a proof about trees. -/
import Derived.BigQuiet
import Derived.Deep.RegionHeld3
import Derived.Test.YtmhjlifmcadefaaGreatDoorS06
set_option linter.unusedVariables false
set_option linter.unusedSimpArgs false
set_option linter.unusedSectionVars false
set_option maxHeartbeats 8000000
set_option maxRecDepth 100000
namespace Go.Proofs.YtmhjlifmcadefaaGreatDoor
section
open Go.RowKit
variable [mQ]
theorem FR (l:List (ByteArray×ByteArray)) (nm v:ByteArray):(gF l nm v).length≤l.length+1:=by
 unfold gF
 split<;>simp
theorem Jh (base bM T B M:Nat) (b s:Int) (vs vf aP vh:Value) (n live m:Nat) (fr:List Nat) (av:Int→Tr.Sl) (f:Nat→RS) (hs:List Int) (g:Tr.G) (K:Nat) (o:qp) (w:World) (H:TW w base bM T B M b s vs vf aP vh n live m fr av f hs g K) (ho:pE o) (hkd:o.kind.tmod 10=5) (hm:m≤300) (hK:K≤60) (hT:Lit w):
  uL base bM T B M b s K o w:=by
 unfold uL;obtain⟨ia,hia,aI⟩:=aR ho.a.1 H.m0;obtain⟨ib,hib,iT⟩:=aR ho.b.1 H.m0;obtain⟨ic,hic,qw⟩:=aR (m:=m+1) ho.c.1 (by omega);rw[Int.natCast_add] at hic;have hlen:=H.len;have hm0:=H.m0;obtain⟨w1,gh,oh,ch,rfl,mz,IU,IV,IW,hw1,fQ,HB1,H1,ql,jM,HLEN,sG,sH,t0,t1,t2,x0,x1,x2,x3,x4,x5,x6,x7,IX,IY,IZ,I4,I5,I6,I7,I8⟩:=iB H ho hT;have ze:=zh (fun (W:World) (hb:Below w.heap.size w W)=>H.mv.below hb);have dZ:=zh (fun (W:World) (hb:Below w.heap.size w W) (j:Nat) (hj:j<m)=>bX bM M m aP f j W (H.mv.below hb) hj (by omega));have RP:=zh (And.intro ho.s ho.t);clear H ho hT
 go_enter Tryz.func16,Tryz.ntmps16
 go_wp2_with fail;(try rw[hw1]);try go_wp2_with fail
 go_quiet (fail)
 obtain⟨V,hV⟩:=eX (w1.drewN nq)
 have dS:Below w1.heap.size w1 V:=Jg hV;have bK:=zh (HB1.out.trans (dS.mono HB1.out.size));have dH:=zh (fQ.out.below dS fQ.out.lt);have HV:=zh (H1.out.below dS);have vv:=zh (jM.out.below dS);obtain⟨t0',t1',t2'⟩:=sH.out V bK.out;have z0:V.cell? ⟨w.heap.size,0,none⟩=some (.int .u8 o.kind):=dH.out.cell 0;have z4:V.cell? ⟨w.heap.size,4,none⟩=some (.string o.s):=dH.out.cell 4;have z5:V.cell? ⟨w.heap.size,5,none⟩=some (.string o.t):=dH.out.cell 5;have z6:V.cell? ⟨w.heap.size,6,none⟩=some (.int .i8 o.n):=dH.out.cell 6;have z7:V.cell? ⟨w.heap.size,7,none⟩=some (.int .i8 o.k):=dH.out.cell 7;clear t0 t1 t2 x0 x1 x2 x3 x4 x5 x6 x7 dS;(try rw[hV]);go_wp2_with fail;refine (dZ.out V bK.out ia aI).mono ?_;rintro e w2 ⟨rfl,hw2⟩;rw[hw2];clear dZ hw2;go_wp2_with fail;obtain⟨h,hh⟩:=eX (hof hs (ia:Int))
 obtain⟨V2,hV2⟩:=eX (V.drew)
 have bN:Below V.heap.size V V2:=lW hV2;have ru:=zh (bK.out.trans (bN.mono bK.out.size));have HW2:=zh (HV.out.below bN);have gG:=zh (dH.out.below bN dH.out.lt);have HL2:=zh (vv.out.below bN);have gV:=zh (show jw T B M gh oh m ch w.heap.size ia h o V2 from bD HW2.out.tw gG.out HLEN.out (by rw[←hh];exact HV.out.bJ aI));have K4:(0:Int)≤(ia:Int):=by omega
 have K5:(ia:Int)<(m:Int):=by omega
 have Rx:=zh HW2.out.kinds;obtain⟨zs,zt⟩:=And.intro ql.out.s ql.out.t;cases hg:(f ia).gone with
 | true=>
  obtain⟨e1,e2⟩:=HW2.out.mD aI hg;have Vp:fD g h=6:=by unfold fD;rw[←hh,e1,e2]
  have HC:=zh (zT base B b s (hof hs 0) h live n g av fr vs vf o.s o.t V2 HW2.out.tv HW2.out.so (by rw[←hh];exact HW2.out.i64 aI) Rx.out (by rw[Vp];decide));rw[Vp] at HC;clear e1 e2 Vp;refine wp_region_noPanic ?_;refine wp_region_held_drew (S:=jw T B M gh oh m ch w.heap.size ia h o) (by kernel_rfl) ?_ (fun ah=>?_)
  ·exact (by rw[hV2];exact gV.out)
  rw[hV2] at ah ⊢;refine bn [0,1,2,3,4,5,6,7,8,9,10,11,12,13,14] ?_;iterate 15 (refine cZ ?_;try simp only[pS])
  refine bq ?_;refine bG 15 fun K hK=>?_;go_simp;refine HC.out.mono ?_;rintro e w3 ⟨rfl,hb3⟩;have gJ:=zh (HW2.out.below hb3).up;have eU:=zh (gG.out.below hb3 gG.out.lt);have jA:=zh (show jw T B M gh oh m ch w.heap.size ia h o w3 from bD gJ.out.tw eU.out HLEN.out (by rw[←hh];exact HV.out.bJ aI));clear hb3;refine hK.out _ _ (jA.out) fun ah=>?_;clear hK K;(try simp only[pS]);refine bn [16,17,18,19,20] ?_;iterate 5 (refine cZ ?_;try simp only[pS])
  refine bq ?_;refine eY ?_;go_wp2_with fail;go_ret2;exact⟨_,[],_,_,_,_,_,_,_,_,_,_,_,_,rfl,gJ.out⟩
 | false=>
  have eg:g h=some (Tr.eD (hof hs) (jZ (f ia))):=by rw[←hh];exact HW2.out.dx aI hg
  have Ji:gI h:=by rw[←hh];exact HW2.out.i64 aI
  by_cases hk2:(f ia).kind=2
  ·have he0:fD g h=0:=by unfold fD;rw[eg];exact if_pos hk2
   have EG:=zh eg;have FI:=zh hk2;have HE0:=zh he0;have hal:=(HW2.out.bd ia aI).1;clear hk2 eg he0;cases hnm:Nm.attr o.s with
   | false=>
    have RQ:=zh hnm;clear hnm;have HC:=zh (Jj base B b s (hof hs 0) h live n g av fr vs vf o.s o.t V2 HW2.out.tv HW2.out.so Ji Rx.out HE0.out (by omega) HL2.out RQ.out);refine wp_region_noPanic ?_;refine wp_region_held_drew (S:=jw T B M gh oh m ch w.heap.size ia h o) (by kernel_rfl) ?_ (fun ah=>?_)
    ·exact (by rw[hV2];exact gV.out)
    rw[hV2] at ah ⊢;refine bn [0,1,2,3,4,5,6,7,8,9,10,11,12,13,14] ?_;iterate 15 (refine cZ ?_;try simp only[pS])
    refine bq ?_;refine bG 15 fun K hK=>?_;go_simp;refine HC.out.mono ?_;rintro e w3 ⟨rfl,hb3⟩;have gJ:=zh (HW2.out.below hb3).up;have eU:=zh (gG.out.below hb3 gG.out.lt);have jA:=zh (show jw T B M gh oh m ch w.heap.size ia h o w3 from bD gJ.out.tw eU.out HLEN.out (by rw[←hh];exact HV.out.bJ aI));clear hb3;refine hK.out _ _ (jA.out) fun ah=>?_;clear hK K;(try simp only[pS]);refine bn [16,17,18,19,20] ?_;iterate 5 (refine cZ ?_;try simp only[pS])
    refine bq ?_;refine eY ?_;go_wp2_with fail;obtain⟨V3,kL⟩:=eX (w3.drew)
    have bP:Below w3.heap.size w3 V3:=lW kL;have rA:=zh (gJ.out.below bP);have iJ:=zh (eU.out.below bP eU.out.lt);have nV:=zh (show jw T B M gh oh m ch w.heap.size ia h o V3 from bD rA.out.tw iJ.out HLEN.out (by rw[←hh];exact HV.out.bJ aI));have HR:=zh (Jk bM M m aP f ia o.s o.t V3 rA.out.mv aI FI.out (by omega) RQ.out)
    skip
    refine wp_region_noPanic ?_;refine wp_region_held_drew (S:=jw T B M gh oh m ch w.heap.size ia h o) (by kernel_rfl) ?_ (fun ah=>?_)
    ·exact (by rw[kL];exact nV.out)
    rw[kL] at ah ⊢;refine bn [0,1,2,3,4,5,6,7,8] ?_;iterate 9 (refine cZ ?_;try simp only[pS])
    refine bq ?_;refine bG 9 fun K hK=>?_;go_simp;refine HR.out.mono ?_;rintro e w4 ⟨rfl,hb4⟩;have Vq:=zh (rA.out.below hb4);have wU:=zh (iJ.out.below hb4 iJ.out.lt);have Ev:=zh (show jw T B M gh oh m ch w.heap.size ia h o w4 from bD Vq.out.tw wU.out HLEN.out (by rw[←hh];exact HV.out.bJ aI));have qm:=zh (dB T B M 0 0 _ (.slice none 0 0) (.slice none 0 0) hs [] w4 Vq.out.tw (World.ownsRow_nil _ _ _ _) (World.ownsRow_nil _ _ _ _) (by simp));clear hb4;refine hK.out _ _ (Ev.out) fun ah=>?_;clear hK K;(try simp only[pS]);refine bn [10,11,12,13,14] ?_;iterate 5 (refine cZ ?_;try simp only[pS])
    refine bq ?_;refine eY ?_;go_wp2_with fail;refine qm.out.mono ?_;rintro e w5 ⟨rfl,hb5⟩;have bC:=zh (Vq.out.below hb5);clear hb5;go_wp2_with fail;go_ret2;exact⟨_,[],_,_,_,_,_,_,_,_,_,_,_,_,rfl,bC.out⟩
   | true=>
   have RQ:=zh hnm;clear hnm;by_cases hat:oZ (f ia).at' o.s<(f ia).at'.length
   ·have HAT:=zh hat;clear hat;have HC:=zh (Jl base B b s (hof hs 0) h live n g av fr vs vf _ o.s o.t V2 HW2.out.tv HW2.out.so HW2.out.at' Rx.out EG.out FI.out (by show (f ia).at'.length≤63;omega) (by omega) (by omega) HL2.out RQ.out HAT.out);rw[pF EG.out (U2:=fun n=>{ n with attrs:=gF (f ia).at' o.s (aZ o.t) }) rfl] at HC;refine wp_region_noPanic ?_;refine wp_region_held_drew (S:=jw T B M gh oh m ch w.heap.size ia h o) (by kernel_rfl) ?_ (fun ah=>?_)
    ·exact (by rw[hV2];exact gV.out)
    rw[hV2] at ah ⊢;refine bn [0,1,2,3,4,5,6,7,8,9,10,11,12,13,14] ?_;iterate 15 (refine cZ ?_;try simp only[pS])
    refine bq ?_;refine bG 15 fun K hK=>?_;go_simp;refine HC.out.mono ?_;rintro e w3 ⟨v3,Yn,rfl,hr3,hv3,hs3,pz,fF⟩;obtain⟨a1,a2,-,-,-⟩:=HW2.out.after fF;have eU:=zh (gG.out.turns fF.1 (HW2.out.tv.aV gG.out (by decide) (by decide) (by decide)));have jA:=zh (show jw T B M gh oh m ch w.heap.size ia h o w3 from bD a1 eU.out HLEN.out (by rw[←hh];exact HV.out.bJ aI));have HT3:=zh (And.intro a1 a2);have uy:=zh (And.intro hv3 (And.intro hs3 (And.intro pz fF)));have HR3:=zh hr3;obtain⟨A3,c3,rfl⟩:=aF (aG hr3);clear a1 a2 hv3 hs3 pz fF hr3;refine hK.out _ _ (jA.out) fun ah=>?_;clear hK K;(try simp only[pS]);refine bn [16,17,18,19,20] ?_;iterate 5 (refine cZ ?_;try simp only[pS])
    refine bq ?_;refine eY ?_;go_wp2_with fail;obtain⟨V3,kL⟩:=eX (w3.drew)
    have bP:Below w3.heap.size w3 V3:=lW kL;have iJ:=zh (eU.out.below bP eU.out.lt);have Lc:=zh (HT3.out.2.below bP);have zi:=zh (HT3.out.1.below bP);have Di:=zh (show bL V2.heap.size V3 _ _ from bY (S:=fun _=>False) HR3.out (.of_below bP) (fun _ _=>id));have HV5:=zh (And.intro (uy.out.1.below bP) (And.intro uy.out.2.1 (And.intro (uy.out.2.2.1.below bP) (uy.out.2.2.2.trans (.of_below bP)))));have nV:=zh (show jw T B M gh oh m ch w.heap.size ia h o V3 from bD zi.out iJ.out HLEN.out (by rw[←hh];exact HV.out.bJ aI));have HR:=zh (Jm bM M m aP f ia o.s o.t V3 Lc.out aI (by omega) FI.out (by omega) (by omega) (by omega) RQ.out HAT.out);refine wp_region_noPanic ?_;refine wp_region_held_drew (S:=jw T B M gh oh m ch w.heap.size ia h o) (by kernel_rfl) ?_ (fun ah=>?_)
    ·exact (by rw[kL];exact nV.out)
    rw[kL] at ah ⊢;refine bn [0,1,2,3,4,5,6,7,8] ?_;iterate 9 (refine cZ ?_;try simp only[pS])
    refine bq ?_;refine bG 9 fun K hK=>?_;go_simp;refine HR.out.mono ?_;rintro e w4 ⟨v4,Oy,rfl,hr4,oI,dJ⟩;have gJ:=zh (HW2.out.put (iK:=Tr.fq av h Yn) (u:=fun n=>{ n with a:=Oy,at':=gF (f ia).at' o.s (aZ o.t) }) (U:=fun n=>{ n with attrs:=gF (f ia).at' o.s (aZ o.t) }) aI hg (fun _=>⟨rfl,rfl⟩) (fun _=>rfl) (fun _=>⟨rfl,rfl⟩) (fun _=>rfl) (by rw[hh];exact HV5.out.1) (by rw[hh];exact HV5.out.2.1) (by rw[hh];exact HV5.out.2.2.1) HV5.out.2.2.2 oI dJ (by have h1:=HW2.out.bd ia aI;have h2:=FR (f ia).at' o.s (aZ o.t);exact⟨by show (gF (f ia).at' o.s (aZ o.t)).length≤_;omega,by show (f ia).data.size≤_;omega,h1.2.2⟩) ((HW2.out.ok.2 ia aI).set FI.out RQ.out (by have:=RP.out.1;omega) (kg (by have:=RP.out.2;omega)) Oy));have uM:=zh (iJ.out.turns dJ.1 (Lc.out.aV iJ.out (by decide) (by decide) (by decide) (by decide)));have FT:=zh (show jw T B M gh oh m ch w.heap.size ia h o w4 from bD gJ.out.tw uM.out HLEN.out (by rw[←hh];exact HV.out.bJ aI));have hrc:[fK ia o.s (lD (f ia).at' o.s) (vw (f ia).at' o.s)].map (rz (hof hs))=[jL h o.s (lD (f ia).at' o.s) (vw (f ia).at' o.s)]:=by rw[←hh];simp[rz,fK,jL,mF]
    have qm:=zh (dB T B M V2.heap.size V3.heap.size _ _ v4 hs [fK ia o.s (lD (f ia).at' o.s) (vw (f ia).at' o.s)] w4 gJ.out.tw (by rw[hrc];exact bY Di.out dJ.1 (fun k hk hm=>by have h1:=(Di.out.lt k hk).1;have h2:=(HW2.out.mv.lt k hm).2;omega)) hr4 (by simp));obtain⟨A4,c4,rfl⟩:=aF (aG hr4);clear hr4 oI dJ hrc;refine hK.out _ _ (FT.out) fun ah=>?_;clear hK K;(try simp only[pS]);refine bn [10,11,12,13,14] ?_;iterate 5 (refine cZ ?_;try simp only[pS])
    refine bq ?_;refine eY ?_;go_wp2_with fail;refine qm.out.mono ?_;rintro e w5 ⟨rfl,hb5⟩;have bC:=zh (gJ.out.below hb5);clear hb5;go_wp2_with fail;go_ret2;exact⟨_,[],_,_,_,_,_,_,_,_,_,_,_,_,rfl,bC.out⟩
   ·have HAT:=zh hat;clear hat;have HC:=zh (Jo base B b s (hof hs 0) h live n g av fr vs vf _ o.s o.t V2 HW2.out.tv HW2.out.so HW2.out.at' Rx.out EG.out FI.out (by show (f ia).at'.length≤63;omega) (by omega) (by omega) HL2.out RQ.out HAT.out);rw[pF EG.out (U2:=fun n=>{ n with attrs:=gF (f ia).at' o.s (aZ o.t) }) rfl] at HC;refine wp_region_noPanic ?_;refine wp_region_held_drew (S:=jw T B M gh oh m ch w.heap.size ia h o) (by kernel_rfl) ?_ (fun ah=>?_)
    ·exact (by rw[hV2];exact gV.out)
    rw[hV2] at ah ⊢;refine bn [0,1,2,3,4,5,6,7,8,9,10,11,12,13,14] ?_;iterate 15 (refine cZ ?_;try simp only[pS])
    refine bq ?_;refine bG 15 fun K hK=>?_;go_simp;refine HC.out.mono ?_;rintro e w3 ⟨v3,Yn,rfl,hr3,hv3,hs3,pz,fF⟩;obtain⟨a1,a2,-,-,-⟩:=HW2.out.after fF;have eU:=zh (gG.out.turns fF.1 (HW2.out.tv.aV gG.out (by decide) (by decide) (by decide)));have jA:=zh (show jw T B M gh oh m ch w.heap.size ia h o w3 from bD a1 eU.out HLEN.out (by rw[←hh];exact HV.out.bJ aI));have HT3:=zh (And.intro a1 a2);have uy:=zh (And.intro hv3 (And.intro hs3 (And.intro pz fF)));have HR3:=zh hr3;obtain⟨A3,c3,rfl⟩:=aF (aG hr3);clear a1 a2 hv3 hs3 pz fF hr3;refine hK.out _ _ (jA.out) fun ah=>?_;clear hK K;(try simp only[pS]);refine bn [16,17,18,19,20] ?_;iterate 5 (refine cZ ?_;try simp only[pS])
    refine bq ?_;refine eY ?_;go_wp2_with fail;obtain⟨V3,kL⟩:=eX (w3.drew)
    have bP:Below w3.heap.size w3 V3:=lW kL;have iJ:=zh (eU.out.below bP eU.out.lt);have Lc:=zh (HT3.out.2.below bP);have zi:=zh (HT3.out.1.below bP);have Di:=zh (show bL V2.heap.size V3 _ _ from bY (S:=fun _=>False) HR3.out (.of_below bP) (fun _ _=>id));have HV5:=zh (And.intro (uy.out.1.below bP) (And.intro uy.out.2.1 (And.intro (uy.out.2.2.1.below bP) (uy.out.2.2.2.trans (.of_below bP)))));have nV:=zh (show jw T B M gh oh m ch w.heap.size ia h o V3 from bD zi.out iJ.out HLEN.out (by rw[←hh];exact HV.out.bJ aI));have HR:=zh (Jp bM M m aP f ia o.s o.t V3 Lc.out aI (by omega) FI.out (by omega) (by omega) (by omega) RQ.out HAT.out);refine wp_region_noPanic ?_;refine wp_region_held_drew (S:=jw T B M gh oh m ch w.heap.size ia h o) (by kernel_rfl) ?_ (fun ah=>?_)
    ·exact (by rw[kL];exact nV.out)
    rw[kL] at ah ⊢;refine bn [0,1,2,3,4,5,6,7,8] ?_;iterate 9 (refine cZ ?_;try simp only[pS])
    refine bq ?_;refine bG 9 fun K hK=>?_;go_simp;refine HR.out.mono ?_;rintro e w4 ⟨v4,Oy,rfl,hr4,oI,dJ⟩;have gJ:=zh (HW2.out.put (iK:=Tr.fq av h Yn) (u:=fun n=>{ n with a:=Oy,at':=gF (f ia).at' o.s (aZ o.t) }) (U:=fun n=>{ n with attrs:=gF (f ia).at' o.s (aZ o.t) }) aI hg (fun _=>⟨rfl,rfl⟩) (fun _=>rfl) (fun _=>⟨rfl,rfl⟩) (fun _=>rfl) (by rw[hh];exact HV5.out.1) (by rw[hh];exact HV5.out.2.1) (by rw[hh];exact HV5.out.2.2.1) HV5.out.2.2.2 oI dJ (by have h1:=HW2.out.bd ia aI;have h2:=FR (f ia).at' o.s (aZ o.t);exact⟨by show (gF (f ia).at' o.s (aZ o.t)).length≤_;omega,by show (f ia).data.size≤_;omega,h1.2.2⟩) ((HW2.out.ok.2 ia aI).set FI.out RQ.out (by have:=RP.out.1;omega) (kg (by have:=RP.out.2;omega)) Oy));have uM:=zh (iJ.out.turns dJ.1 (Lc.out.aV iJ.out (by decide) (by decide) (by decide) (by decide)));have FT:=zh (show jw T B M gh oh m ch w.heap.size ia h o w4 from bD gJ.out.tw uM.out HLEN.out (by rw[←hh];exact HV.out.bJ aI));have hrc:[fK ia o.s (lD (f ia).at' o.s) (vw (f ia).at' o.s)].map (rz (hof hs))=[jL h o.s (lD (f ia).at' o.s) (vw (f ia).at' o.s)]:=by rw[←hh];simp[rz,fK,jL,mF]
    have qm:=zh (dB T B M V2.heap.size V3.heap.size _ _ v4 hs [fK ia o.s (lD (f ia).at' o.s) (vw (f ia).at' o.s)] w4 gJ.out.tw (by rw[hrc];exact bY Di.out dJ.1 (fun k hk hm=>by have h1:=(Di.out.lt k hk).1;have h2:=(HW2.out.mv.lt k hm).2;omega)) hr4 (by simp));obtain⟨A4,c4,rfl⟩:=aF (aG hr4);clear hr4 oI dJ hrc;refine hK.out _ _ (FT.out) fun ah=>?_;clear hK K;(try simp only[pS]);refine bn [10,11,12,13,14] ?_;iterate 5 (refine cZ ?_;try simp only[pS])
    refine bq ?_;refine eY ?_;go_wp2_with fail;refine qm.out.mono ?_;rintro e w5 ⟨rfl,hb5⟩;have bC:=zh (gJ.out.below hb5);clear hb5;go_wp2_with fail;go_ret2;exact⟨_,[],_,_,_,_,_,_,_,_,_,_,_,_,rfl,bC.out⟩
  ·have Jq:fD g h=10:=by unfold fD;rw[eg];exact if_neg hk2
   have HC:=zh (zT base B b s (hof hs 0) h live n g av fr vs vf o.s o.t V2 HW2.out.tv HW2.out.so Ji Rx.out (by rw[Jq];decide));rw[Jq] at HC;have FI:=zh hk2;clear eg Jq hk2;refine wp_region_noPanic ?_;refine wp_region_held_drew (S:=jw T B M gh oh m ch w.heap.size ia h o) (by kernel_rfl) ?_ (fun ah=>?_)
   ·exact (by rw[hV2];exact gV.out)
   rw[hV2] at ah ⊢;refine bn [0,1,2,3,4,5,6,7,8,9,10,11,12,13,14] ?_;iterate 15 (refine cZ ?_;try simp only[pS])
   refine bq ?_;refine bG 15 fun K hK=>?_;go_simp;refine HC.out.mono ?_;rintro e w3 ⟨rfl,hb3⟩;have gJ:=zh (HW2.out.below hb3).up;have eU:=zh (gG.out.below hb3 gG.out.lt);have jA:=zh (show jw T B M gh oh m ch w.heap.size ia h o w3 from bD gJ.out.tw eU.out HLEN.out (by rw[←hh];exact HV.out.bJ aI));clear hb3;refine hK.out _ _ (jA.out) fun ah=>?_;clear hK K;(try simp only[pS]);refine bn [16,17,18,19,20] ?_;iterate 5 (refine cZ ?_;try simp only[pS])
   refine bq ?_;refine eY ?_;go_wp2_with fail;obtain⟨V3,kL⟩:=eX (w3.drew)
   have bP:Below w3.heap.size w3 V3:=lW kL;have rA:=zh (gJ.out.below bP);have iJ:=zh (eU.out.below bP eU.out.lt);have nV:=zh (show jw T B M gh oh m ch w.heap.size ia h o V3 from bD rA.out.tw iJ.out HLEN.out (by rw[←hh];exact HV.out.bJ aI));have HR:=zh (Jr bM M m aP f ia o.s o.t V3 rA.out.mv aI FI.out);have qm:=zh (dB T B M 0 0 _ (.slice none 0 0) (.slice none 0 0) hs [] V3 rA.out.tw (World.ownsRow_nil _ _ _ _) (World.ownsRow_nil _ _ _ _) (by simp));refine wp_region_noPanic ?_;refine wp_region_held_drew (S:=jw T B M gh oh m ch w.heap.size ia h o) (by kernel_rfl) ?_ (fun ah=>?_)
   ·exact (by rw[kL];exact nV.out)
   rw[kL] at ah ⊢;refine bn [0,1,2,3,4,5,6,7,8] ?_;iterate 9 (refine cZ ?_;try simp only[pS])
   refine bq ?_;refine bG 9 fun K hK=>?_;go_simp;refine HR.out.mono ?_;rintro e w4 ⟨rfl,hw4⟩;rw[hw4];clear hw4;refine hK.out _ _ (nV.out) fun ah=>?_;clear hK K;(try simp only[pS]);refine bn [10,11,12,13,14] ?_;iterate 5 (refine cZ ?_;try simp only[pS])
   refine bq ?_;refine eY ?_;go_wp2_with fail;refine qm.out.mono ?_;rintro e w5 ⟨rfl,hb5⟩;have bC:=zh (rA.out.below hb5);clear hb5;go_wp2_with fail;go_ret2;exact⟨_,[],_,_,_,_,_,_,_,_,_,_,_,_,rfl,bC.out⟩
end
end Go.Proofs.YtmhjlifmcadefaaGreatDoor
