/- Part of a proof about trees. -/
import Derived.BigQuiet
import Derived.Deep.RegionHeld3
import Derived.Test.YtjpbhkcjmdndjaaGreatDoorS06
set_option linter.unusedVariables false
set_option linter.unusedSimpArgs false
set_option linter.unusedSectionVars false
set_option maxHeartbeats 8000000
set_option maxRecDepth 100000
namespace Go.Proofs.YtjpbhkcjmdndjaaGreatDoor
section
open Go.RowKit
variable [mY]
theorem Fu (l:List (ByteArray×ByteArray)) (nm v:ByteArray):(gK l nm v).length≤l.length+1:=by
 unfold gK
 split<;>simp
theorem IW (base bM T B M:Nat) (b s:Int) (vs vf aQ vh:Value) (n live m:Nat) (fr:List Nat) (av:Int→Tr.Sl) (f:Nat→RS) (hs:List Int) (g:Tr.G) (K:Nat) (o:qQ) (w:World) (H:TW w base bM T B M b s vs vf aQ vh n live m fr av f hs g K) (ho:pQ o) (hkd:o.kind.tmod 10=5) (hm:m≤300) (hK:K≤60) (hT:Lit w):
  uF base bM T B M b s K o w:=by
 unfold uF;obtain⟨ia,hia,aI⟩:=aR ho.a.1 H.m0;obtain⟨ib,hib,iY⟩:=aR ho.b.1 H.m0;obtain⟨ic,hic,qz⟩:=aR (m:=m+1) ho.c.1 (by omega);rw[Int.natCast_add] at hic;have hlen:=H.len;have hm0:=H.m0;obtain⟨w1,gh,oh,ch,rfl,mz,Ik,Il,Io,hw1,eP,HB1,H1,qp,jL,HLEN,qy,sU,t0,t1,t2,x0,x1,x2,x3,x4,x5,x6,x7,Ip,Iq,Ir,Iu,Iw,Iy,Iz,IB⟩:=iH H ho hT;have yP:=zh (fun (W:World) (hb:Below w.heap.size w W)=>H.mv.below hb);have eT:=zh (fun (W:World) (hb:Below w.heap.size w W) (j:Nat) (hj:j<m)=>bX bM M m aQ f j W (H.mv.below hb) hj (by omega));have QM:=zh (And.intro ho.s ho.t);clear H ho hT
 go_enter Tryz.func7,Tryz.ntmps7
 go_wp2_with fail;(try rw[hw1]);try go_wp2_with fail
 go_quiet (fail)
 obtain⟨V,hV⟩:=eX (w1.drewN nq)
 have eH:Below w1.heap.size w1 V:=IV hV;have cZ:=zh (HB1.out.trans (eH.mono HB1.out.size));have dw:=zh (eP.out.below eH eP.out.lt);have HV:=zh (H1.out.below eH);have uG:=zh (jL.out.below eH);obtain⟨t0',t1',t2'⟩:=sU.out V cZ.out;have z0:V.cell? ⟨w.heap.size,0,none⟩=some (.int .u8 o.kind):=dw.out.cell 0;have z4:V.cell? ⟨w.heap.size,4,none⟩=some (.string o.s):=dw.out.cell 4;have z5:V.cell? ⟨w.heap.size,5,none⟩=some (.string o.t):=dw.out.cell 5;have z6:V.cell? ⟨w.heap.size,6,none⟩=some (.int .i8 o.n):=dw.out.cell 6;have z7:V.cell? ⟨w.heap.size,7,none⟩=some (.int .i8 o.k):=dw.out.cell 7;clear t0 t1 t2 x0 x1 x2 x3 x4 x5 x6 x7 eH;(try rw[hV]);go_wp2_with fail;refine (eT.out V cZ.out ia aI).mono ?_;rintro e w2 ⟨rfl,hw2⟩;rw[hw2];clear eT hw2;go_wp2_with fail;obtain⟨h,hh⟩:=eX (hof hs (ia:Int))
 obtain⟨V2,hV2⟩:=eX (V.drew)
 have bK:Below V.heap.size V V2:=mW hV2;have rM:=zh (cZ.out.trans (bK.mono cZ.out.size));have HW2:=zh (HV.out.below bK);have gM:=zh (dw.out.below bK dw.out.lt);have HL2:=zh (uG.out.below bK);have iU:=zh (show jr T B M gh oh m ch w.heap.size ia h o V2 from bn HW2.out.tw gM.out HLEN.out (by rw[←hh];exact HV.out.bI aI));have Kr:(0:Int)≤(ia:Int):=by omega
 have Kt:(ia:Int)<(m:Int):=by omega
 have QA:=zh HW2.out.kinds;obtain⟨zs,zt⟩:=And.intro qp.out.s qp.out.t;cases hg:(f ia).gone with
 | true=>
  obtain⟨e1,e2⟩:=HW2.out.kL aI hg;have Um:fH g h=6:=by unfold fH;rw[←hh,e1,e2]
  have HC:=zh (zu base B b s (hof hs 0) h live n g av fr vs vf o.s o.t V2 HW2.out.tv HW2.out.so (by rw[←hh];exact HW2.out.i64 aI) QA.out (by rw[Um];decide));rw[Um] at HC;clear e1 e2 Um;refine wp_region_noPanic ?_;refine wp_region_held_drew (S:=jr T B M gh oh m ch w.heap.size ia h o) (by kernel_rfl) ?_ (fun ah=>?_)
  ·exact (by rw[hV2];exact iU.out)
  rw[hV2] at ah ⊢;refine bE [0,1,2,3,4,5,6,7,8,9,10,11,12,13,14] ?_;iterate 15 (refine eY ?_;try simp only[pS])
  refine bF ?_;refine bO 15 fun K hK=>?_;go_simp;refine HC.out.mono ?_;rintro e w3 ⟨rfl,hb3⟩;have gJ:=zh (HW2.out.below hb3).up;have fu:=zh (gM.out.below hb3 gM.out.lt);have jh:=zh (show jr T B M gh oh m ch w.heap.size ia h o w3 from bn gJ.out.tw fu.out HLEN.out (by rw[←hh];exact HV.out.bI aI));clear hb3;refine hK.out _ _ (jh.out) fun ah=>?_;clear hK K;(try simp only[pS]);refine bE [16,17,18,19,20] ?_;iterate 5 (refine eY ?_;try simp only[pS])
  refine bF ?_;refine gQ ?_;go_wp2_with fail;go_ret2;exact⟨_,[],_,_,_,_,_,_,_,_,_,_,_,_,rfl,gJ.out⟩
 | false=>
  have eg:g h=some (Tr.fC (hof hs) (lH (f ia))):=by rw[←hh];exact HW2.out.dJ aI hg
  have IX:kM h:=by rw[←hh];exact HW2.out.i64 aI
  by_cases hk2:(f ia).kind=2
  ·have he0:fH g h=0:=by unfold fH;rw[eg];exact if_pos hk2
   have EG:=zh eg;have ES:=zh hk2;have HE0:=zh he0;have hal:=(HW2.out.bd ia aI).1;clear hk2 eg he0;cases hnm:Nm.attr o.s with
   | false=>
    have QN:=zh hnm;clear hnm;have HC:=zh (IY base B b s (hof hs 0) h live n g av fr vs vf o.s o.t V2 HW2.out.tv HW2.out.so IX QA.out HE0.out (by omega) HL2.out QN.out);refine wp_region_noPanic ?_;refine wp_region_held_drew (S:=jr T B M gh oh m ch w.heap.size ia h o) (by kernel_rfl) ?_ (fun ah=>?_)
    ·exact (by rw[hV2];exact iU.out)
    rw[hV2] at ah ⊢;refine bE [0,1,2,3,4,5,6,7,8,9,10,11,12,13,14] ?_;iterate 15 (refine eY ?_;try simp only[pS])
    refine bF ?_;refine bO 15 fun K hK=>?_;go_simp;refine HC.out.mono ?_;rintro e w3 ⟨rfl,hb3⟩;have gJ:=zh (HW2.out.below hb3).up;have fu:=zh (gM.out.below hb3 gM.out.lt);have jh:=zh (show jr T B M gh oh m ch w.heap.size ia h o w3 from bn gJ.out.tw fu.out HLEN.out (by rw[←hh];exact HV.out.bI aI));clear hb3;refine hK.out _ _ (jh.out) fun ah=>?_;clear hK K;(try simp only[pS]);refine bE [16,17,18,19,20] ?_;iterate 5 (refine eY ?_;try simp only[pS])
    refine bF ?_;refine gQ ?_;go_wp2_with fail;obtain⟨V3,kT⟩:=eX (w3.drew)
    have bP:Below w3.heap.size w3 V3:=mW kT;have kK:=zh (gJ.out.below bP);have gT:=zh (fu.out.below bP fu.out.lt);have oq:=zh (show jr T B M gh oh m ch w.heap.size ia h o V3 from bn kK.out.tw gT.out HLEN.out (by rw[←hh];exact HV.out.bI aI));have HR:=zh (IZ bM M m aQ f ia o.s o.t V3 kK.out.mv aI ES.out (by omega) QN.out)
    skip
    refine wp_region_noPanic ?_;refine wp_region_held_drew (S:=jr T B M gh oh m ch w.heap.size ia h o) (by kernel_rfl) ?_ (fun ah=>?_)
    ·exact (by rw[kT];exact oq.out)
    rw[kT] at ah ⊢;refine bE [0,1,2,3,4,5,6,7,8] ?_;iterate 9 (refine eY ?_;try simp only[pS])
    refine bF ?_;refine bO 9 fun K hK=>?_;go_simp;refine HR.out.mono ?_;rintro e w4 ⟨rfl,hb4⟩;have Un:=zh (kK.out.below hb4);have wQ:=zh (gT.out.below hb4 gT.out.lt);have Fv:=zh (show jr T B M gh oh m ch w.heap.size ia h o w4 from bn Un.out.tw wQ.out HLEN.out (by rw[←hh];exact HV.out.bI aI));have oN:=zh (dF T B M 0 0 _ (.slice none 0 0) (.slice none 0 0) hs [] w4 Un.out.tw (World.ownsRow_nil _ _ _ _) (World.ownsRow_nil _ _ _ _) (by simp));clear hb4;refine hK.out _ _ (Fv.out) fun ah=>?_;clear hK K;(try simp only[pS]);refine bE [10,11,12,13,14] ?_;iterate 5 (refine eY ?_;try simp only[pS])
    refine bF ?_;refine gQ ?_;go_wp2_with fail;refine oN.out.mono ?_;rintro e w5 ⟨rfl,hb5⟩;have bf:=zh (Un.out.below hb5);clear hb5;go_wp2_with fail;go_ret2;exact⟨_,[],_,_,_,_,_,_,_,_,_,_,_,_,rfl,bf.out⟩
   | true=>
   have QN:=zh hnm;clear hnm;by_cases hat:pG (f ia).at' o.s<(f ia).at'.length
   ·have HAT:=zh hat;clear hat;have HC:=zh (I4 base B b s (hof hs 0) h live n g av fr vs vf _ o.s o.t V2 HW2.out.tv HW2.out.so HW2.out.at' QA.out EG.out ES.out (by show (f ia).at'.length≤63;omega) (by omega) (by omega) HL2.out QN.out HAT.out);rw[pR EG.out (U2:=fun n=>{ n with attrs:=gK (f ia).at' o.s (aX o.t) }) rfl] at HC;refine wp_region_noPanic ?_;refine wp_region_held_drew (S:=jr T B M gh oh m ch w.heap.size ia h o) (by kernel_rfl) ?_ (fun ah=>?_)
    ·exact (by rw[hV2];exact iU.out)
    rw[hV2] at ah ⊢;refine bE [0,1,2,3,4,5,6,7,8,9,10,11,12,13,14] ?_;iterate 15 (refine eY ?_;try simp only[pS])
    refine bF ?_;refine bO 15 fun K hK=>?_;go_simp;refine HC.out.mono ?_;rintro e w3 ⟨v3,Xr,rfl,hr3,hv3,hs3,pK,fK⟩;obtain⟨a1,a2,-,-,-⟩:=HW2.out.after fK;have fu:=zh (gM.out.turns fK.1 (HW2.out.tv.aU gM.out (by decide) (by decide) (by decide)));have jh:=zh (show jr T B M gh oh m ch w.heap.size ia h o w3 from bn a1 fu.out HLEN.out (by rw[←hh];exact HV.out.bI aI));have HT3:=zh (And.intro a1 a2);have uo:=zh (And.intro hv3 (And.intro hs3 (And.intro pK fK)));have HR3:=zh hr3;obtain⟨A3,c3,rfl⟩:=aF (aG hr3);clear a1 a2 hv3 hs3 pK fK hr3;refine hK.out _ _ (jh.out) fun ah=>?_;clear hK K;(try simp only[pS]);refine bE [16,17,18,19,20] ?_;iterate 5 (refine eY ?_;try simp only[pS])
    refine bF ?_;refine gQ ?_;go_wp2_with fail;obtain⟨V3,kT⟩:=eX (w3.drew)
    have bP:Below w3.heap.size w3 V3:=mW kT;have gT:=zh (fu.out.below bP fu.out.lt);have KE:=zh (HT3.out.2.below bP);have Dz:=zh (HT3.out.1.below bP);have Cg:=zh (show bH V2.heap.size V3 _ _ from bW (S:=fun _=>False) HR3.out (.of_below bP) (fun _ _=>id));have HV5:=zh (And.intro (uo.out.1.below bP) (And.intro uo.out.2.1 (And.intro (uo.out.2.2.1.below bP) (uo.out.2.2.2.trans (.of_below bP)))));have oq:=zh (show jr T B M gh oh m ch w.heap.size ia h o V3 from bn Dz.out gT.out HLEN.out (by rw[←hh];exact HV.out.bI aI));have HR:=zh (I5 bM M m aQ f ia o.s o.t V3 KE.out aI (by omega) ES.out (by omega) (by omega) (by omega) QN.out HAT.out);refine wp_region_noPanic ?_;refine wp_region_held_drew (S:=jr T B M gh oh m ch w.heap.size ia h o) (by kernel_rfl) ?_ (fun ah=>?_)
    ·exact (by rw[kT];exact oq.out)
    rw[kT] at ah ⊢;refine bE [0,1,2,3,4,5,6,7,8] ?_;iterate 9 (refine eY ?_;try simp only[pS])
    refine bF ?_;refine bO 9 fun K hK=>?_;go_simp;refine HR.out.mono ?_;rintro e w4 ⟨v4,NG,rfl,hr4,mJ,dK⟩;have gJ:=zh (HW2.out.put (iR:=Tr.eZ av h Xr) (u:=fun n=>{ n with a:=NG,at':=gK (f ia).at' o.s (aX o.t) }) (U:=fun n=>{ n with attrs:=gK (f ia).at' o.s (aX o.t) }) aI hg (fun _=>⟨rfl,rfl⟩) (fun _=>rfl) (fun _=>⟨rfl,rfl⟩) (fun _=>rfl) (by rw[hh];exact HV5.out.1) (by rw[hh];exact HV5.out.2.1) (by rw[hh];exact HV5.out.2.2.1) HV5.out.2.2.2 mJ dK (by have h1:=HW2.out.bd ia aI;have h2:=Fu (f ia).at' o.s (aX o.t);exact⟨by show (gK (f ia).at' o.s (aX o.t)).length≤_;omega,by show (f ia).data.size≤_;omega,h1.2.2⟩) ((HW2.out.ok.2 ia aI).set ES.out QN.out (by have:=QM.out.1;omega) (jZ (by have:=QM.out.2;omega)) NG));have uH:=zh (gT.out.turns dK.1 (KE.out.aU gT.out (by decide) (by decide) (by decide) (by decide)));have Fw:=zh (show jr T B M gh oh m ch w.heap.size ia h o w4 from bn gJ.out.tw uH.out HLEN.out (by rw[←hh];exact HV.out.bI aI));have hrc:[fV ia o.s (lJ (f ia).at' o.s) (vg (f ia).at' o.s)].map (rO (hof hs))=[jK h o.s (lJ (f ia).at' o.s) (vg (f ia).at' o.s)]:=by rw[←hh];simp[rO,fV,jK,mK]
    have oN:=zh (dF T B M V2.heap.size V3.heap.size _ _ v4 hs [fV ia o.s (lJ (f ia).at' o.s) (vg (f ia).at' o.s)] w4 gJ.out.tw (by rw[hrc];exact bW Cg.out dK.1 (fun k hk hm=>by have h1:=(Cg.out.lt k hk).1;have h2:=(HW2.out.mv.lt k hm).2;omega)) hr4 (by simp));obtain⟨A4,c4,rfl⟩:=aF (aG hr4);clear hr4 mJ dK hrc;refine hK.out _ _ (Fw.out) fun ah=>?_;clear hK K;(try simp only[pS]);refine bE [10,11,12,13,14] ?_;iterate 5 (refine eY ?_;try simp only[pS])
    refine bF ?_;refine gQ ?_;go_wp2_with fail;refine oN.out.mono ?_;rintro e w5 ⟨rfl,hb5⟩;have bf:=zh (gJ.out.below hb5);clear hb5;go_wp2_with fail;go_ret2;exact⟨_,[],_,_,_,_,_,_,_,_,_,_,_,_,rfl,bf.out⟩
   ·have HAT:=zh hat;clear hat;have HC:=zh (I6 base B b s (hof hs 0) h live n g av fr vs vf _ o.s o.t V2 HW2.out.tv HW2.out.so HW2.out.at' QA.out EG.out ES.out (by show (f ia).at'.length≤63;omega) (by omega) (by omega) HL2.out QN.out HAT.out);rw[pR EG.out (U2:=fun n=>{ n with attrs:=gK (f ia).at' o.s (aX o.t) }) rfl] at HC;refine wp_region_noPanic ?_;refine wp_region_held_drew (S:=jr T B M gh oh m ch w.heap.size ia h o) (by kernel_rfl) ?_ (fun ah=>?_)
    ·exact (by rw[hV2];exact iU.out)
    rw[hV2] at ah ⊢;refine bE [0,1,2,3,4,5,6,7,8,9,10,11,12,13,14] ?_;iterate 15 (refine eY ?_;try simp only[pS])
    refine bF ?_;refine bO 15 fun K hK=>?_;go_simp;refine HC.out.mono ?_;rintro e w3 ⟨v3,Xr,rfl,hr3,hv3,hs3,pK,fK⟩;obtain⟨a1,a2,-,-,-⟩:=HW2.out.after fK;have fu:=zh (gM.out.turns fK.1 (HW2.out.tv.aU gM.out (by decide) (by decide) (by decide)));have jh:=zh (show jr T B M gh oh m ch w.heap.size ia h o w3 from bn a1 fu.out HLEN.out (by rw[←hh];exact HV.out.bI aI));have HT3:=zh (And.intro a1 a2);have uo:=zh (And.intro hv3 (And.intro hs3 (And.intro pK fK)));have HR3:=zh hr3;obtain⟨A3,c3,rfl⟩:=aF (aG hr3);clear a1 a2 hv3 hs3 pK fK hr3;refine hK.out _ _ (jh.out) fun ah=>?_;clear hK K;(try simp only[pS]);refine bE [16,17,18,19,20] ?_;iterate 5 (refine eY ?_;try simp only[pS])
    refine bF ?_;refine gQ ?_;go_wp2_with fail;obtain⟨V3,kT⟩:=eX (w3.drew)
    have bP:Below w3.heap.size w3 V3:=mW kT;have gT:=zh (fu.out.below bP fu.out.lt);have KE:=zh (HT3.out.2.below bP);have Dz:=zh (HT3.out.1.below bP);have Cg:=zh (show bH V2.heap.size V3 _ _ from bW (S:=fun _=>False) HR3.out (.of_below bP) (fun _ _=>id));have HV5:=zh (And.intro (uo.out.1.below bP) (And.intro uo.out.2.1 (And.intro (uo.out.2.2.1.below bP) (uo.out.2.2.2.trans (.of_below bP)))));have oq:=zh (show jr T B M gh oh m ch w.heap.size ia h o V3 from bn Dz.out gT.out HLEN.out (by rw[←hh];exact HV.out.bI aI));have HR:=zh (I7 bM M m aQ f ia o.s o.t V3 KE.out aI (by omega) ES.out (by omega) (by omega) (by omega) QN.out HAT.out);refine wp_region_noPanic ?_;refine wp_region_held_drew (S:=jr T B M gh oh m ch w.heap.size ia h o) (by kernel_rfl) ?_ (fun ah=>?_)
    ·exact (by rw[kT];exact oq.out)
    rw[kT] at ah ⊢;refine bE [0,1,2,3,4,5,6,7,8] ?_;iterate 9 (refine eY ?_;try simp only[pS])
    refine bF ?_;refine bO 9 fun K hK=>?_;go_simp;refine HR.out.mono ?_;rintro e w4 ⟨v4,NG,rfl,hr4,mJ,dK⟩;have gJ:=zh (HW2.out.put (iR:=Tr.eZ av h Xr) (u:=fun n=>{ n with a:=NG,at':=gK (f ia).at' o.s (aX o.t) }) (U:=fun n=>{ n with attrs:=gK (f ia).at' o.s (aX o.t) }) aI hg (fun _=>⟨rfl,rfl⟩) (fun _=>rfl) (fun _=>⟨rfl,rfl⟩) (fun _=>rfl) (by rw[hh];exact HV5.out.1) (by rw[hh];exact HV5.out.2.1) (by rw[hh];exact HV5.out.2.2.1) HV5.out.2.2.2 mJ dK (by have h1:=HW2.out.bd ia aI;have h2:=Fu (f ia).at' o.s (aX o.t);exact⟨by show (gK (f ia).at' o.s (aX o.t)).length≤_;omega,by show (f ia).data.size≤_;omega,h1.2.2⟩) ((HW2.out.ok.2 ia aI).set ES.out QN.out (by have:=QM.out.1;omega) (jZ (by have:=QM.out.2;omega)) NG));have uH:=zh (gT.out.turns dK.1 (KE.out.aU gT.out (by decide) (by decide) (by decide) (by decide)));have Fw:=zh (show jr T B M gh oh m ch w.heap.size ia h o w4 from bn gJ.out.tw uH.out HLEN.out (by rw[←hh];exact HV.out.bI aI));have hrc:[fV ia o.s (lJ (f ia).at' o.s) (vg (f ia).at' o.s)].map (rO (hof hs))=[jK h o.s (lJ (f ia).at' o.s) (vg (f ia).at' o.s)]:=by rw[←hh];simp[rO,fV,jK,mK]
    have oN:=zh (dF T B M V2.heap.size V3.heap.size _ _ v4 hs [fV ia o.s (lJ (f ia).at' o.s) (vg (f ia).at' o.s)] w4 gJ.out.tw (by rw[hrc];exact bW Cg.out dK.1 (fun k hk hm=>by have h1:=(Cg.out.lt k hk).1;have h2:=(HW2.out.mv.lt k hm).2;omega)) hr4 (by simp));obtain⟨A4,c4,rfl⟩:=aF (aG hr4);clear hr4 mJ dK hrc;refine hK.out _ _ (Fw.out) fun ah=>?_;clear hK K;(try simp only[pS]);refine bE [10,11,12,13,14] ?_;iterate 5 (refine eY ?_;try simp only[pS])
    refine bF ?_;refine gQ ?_;go_wp2_with fail;refine oN.out.mono ?_;rintro e w5 ⟨rfl,hb5⟩;have bf:=zh (gJ.out.below hb5);clear hb5;go_wp2_with fail;go_ret2;exact⟨_,[],_,_,_,_,_,_,_,_,_,_,_,_,rfl,bf.out⟩
  ·have I8:fH g h=10:=by unfold fH;rw[eg];exact if_neg hk2
   have HC:=zh (zu base B b s (hof hs 0) h live n g av fr vs vf o.s o.t V2 HW2.out.tv HW2.out.so IX QA.out (by rw[I8];decide));rw[I8] at HC;have ES:=zh hk2;clear eg I8 hk2;refine wp_region_noPanic ?_;refine wp_region_held_drew (S:=jr T B M gh oh m ch w.heap.size ia h o) (by kernel_rfl) ?_ (fun ah=>?_)
   ·exact (by rw[hV2];exact iU.out)
   rw[hV2] at ah ⊢;refine bE [0,1,2,3,4,5,6,7,8,9,10,11,12,13,14] ?_;iterate 15 (refine eY ?_;try simp only[pS])
   refine bF ?_;refine bO 15 fun K hK=>?_;go_simp;refine HC.out.mono ?_;rintro e w3 ⟨rfl,hb3⟩;have gJ:=zh (HW2.out.below hb3).up;have fu:=zh (gM.out.below hb3 gM.out.lt);have jh:=zh (show jr T B M gh oh m ch w.heap.size ia h o w3 from bn gJ.out.tw fu.out HLEN.out (by rw[←hh];exact HV.out.bI aI));clear hb3;refine hK.out _ _ (jh.out) fun ah=>?_;clear hK K;(try simp only[pS]);refine bE [16,17,18,19,20] ?_;iterate 5 (refine eY ?_;try simp only[pS])
   refine bF ?_;refine gQ ?_;go_wp2_with fail;obtain⟨V3,kT⟩:=eX (w3.drew)
   have bP:Below w3.heap.size w3 V3:=mW kT;have kK:=zh (gJ.out.below bP);have gT:=zh (fu.out.below bP fu.out.lt);have oq:=zh (show jr T B M gh oh m ch w.heap.size ia h o V3 from bn kK.out.tw gT.out HLEN.out (by rw[←hh];exact HV.out.bI aI));have HR:=zh (I9 bM M m aQ f ia o.s o.t V3 kK.out.mv aI ES.out);have oN:=zh (dF T B M 0 0 _ (.slice none 0 0) (.slice none 0 0) hs [] V3 kK.out.tw (World.ownsRow_nil _ _ _ _) (World.ownsRow_nil _ _ _ _) (by simp));refine wp_region_noPanic ?_;refine wp_region_held_drew (S:=jr T B M gh oh m ch w.heap.size ia h o) (by kernel_rfl) ?_ (fun ah=>?_)
   ·exact (by rw[kT];exact oq.out)
   rw[kT] at ah ⊢;refine bE [0,1,2,3,4,5,6,7,8] ?_;iterate 9 (refine eY ?_;try simp only[pS])
   refine bF ?_;refine bO 9 fun K hK=>?_;go_simp;refine HR.out.mono ?_;rintro e w4 ⟨rfl,hw4⟩;rw[hw4];clear hw4;refine hK.out _ _ (oq.out) fun ah=>?_;clear hK K;(try simp only[pS]);refine bE [10,11,12,13,14] ?_;iterate 5 (refine eY ?_;try simp only[pS])
   refine bF ?_;refine gQ ?_;go_wp2_with fail;refine oN.out.mono ?_;rintro e w5 ⟨rfl,hb5⟩;have bf:=zh (kK.out.below hb5);clear hb5;go_wp2_with fail;go_ret2;exact⟨_,[],_,_,_,_,_,_,_,_,_,_,_,_,rfl,bf.out⟩
end
end Go.Proofs.YtjpbhkcjmdndjaaGreatDoor
