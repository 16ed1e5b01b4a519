/- Part of a proof about trees. -/
import Derived.BigQuiet
import Derived.Deep.RegionHeld3
import Derived.Test.YtjpbhkcjmdndjaaGreatDoorS06
set_option linter.unusedVariables false
set_option linter.unusedSimpArgs false
set_option linter.unusedSectionVars false
set_option maxHeartbeats 8000000
set_option maxRecDepth 100000
namespace Go.Proofs.YtjpbhkcjmdndjaaGreatDoor
section
open Go.RowKit
variable [mY]
theorem LM (base bM T B M:Nat) (b s:Int) (vs vf aQ vh:Value) (n live m:Nat) (fr:List Nat) (av:Int→Tr.Sl) (f:Nat→RS) (hs:List Int) (g:Tr.G) (K:Nat) (o:qQ) (w:World) (H:TW w base bM T B M b s vs vf aQ vh n live m fr av f hs g K) (ho:pQ o) (hkd:o.kind.tmod 10=3) (ic:Nat) (qz:ic<m) (hcz:o.c.tmod ((m:Int)+1)=(ic:Int)+1) (hga:∀ i:Nat,o.a.tmod (m:Int)=(i:Int)→(f i).gone=true) (hm:m≤300) (hK:K≤60) (hT:Lit w):
  uF base bM T B M b s K o w:=by
 unfold uF;obtain⟨ia,hia,aI⟩:=aR ho.a.1 H.m0;obtain⟨ib,hib,iY⟩:=aR ho.b.1 H.m0;have hic:o.c.tmod ((m:Int)+1)=(ic:Int)+1:=hcz;have jc0:(0:Int)≤(ic:Int):=by omega
 have jc1:(ic:Int)<(m:Int):=by omega
 have jc2:¬ (ic:Int)<0:=by omega
 have jc3:IntKind.i64.wrap ((ic:Int)+1 - 1)=(ic:Int):=by rw[IntKind.wrap_i64];omega
 have DK:=zh (hga ia hia);clear hga;have HG:=DK;have hlen:=H.len;have hm0:=H.m0;obtain⟨w1,gh,oh,ch,rfl,mz,Ik,Il,Io,hw1,eP,HB1,H1,qp,jL,HLEN,qy,sU,t0,t1,t2,x0,x1,x2,x3,x4,x5,x6,x7,Ip,Iq,Ir,Iu,Iw,Iy,Iz,IB⟩:=iH H ho hT;have yP:=zh (fun (W:World) (hb:Below w.heap.size w W)=>H.mv.below hb);have eT:=zh (fun (W:World) (hb:Below w.heap.size w W) (j:Nat) (hj:j<m)=>bX bM M m aQ f j W (H.mv.below hb) hj (by omega));clear H ho hT
 go_enter Tryz.func7,Tryz.ntmps7
 go_wp2_with fail;(try rw[hw1]);try go_wp2_with fail
 go_quiet (fail)
 obtain⟨V,hV⟩:=eX (w1.drewN nq)
 have eH:Below w1.heap.size w1 V:=IV hV;have cZ:=zh (HB1.out.trans (eH.mono HB1.out.size));have dw:=zh (eP.out.below eH eP.out.lt);have HV:=zh (H1.out.below eH);have uG:=zh (jL.out.below eH);obtain⟨t0',t1',t2'⟩:=sU.out V cZ.out;have z0:V.cell? ⟨w.heap.size,0,none⟩=some (.int .u8 o.kind):=dw.out.cell 0;have z4:V.cell? ⟨w.heap.size,4,none⟩=some (.string o.s):=dw.out.cell 4;have z5:V.cell? ⟨w.heap.size,5,none⟩=some (.string o.t):=dw.out.cell 5;have z6:V.cell? ⟨w.heap.size,6,none⟩=some (.int .i8 o.n):=dw.out.cell 6;have z7:V.cell? ⟨w.heap.size,7,none⟩=some (.int .i8 o.k):=dw.out.cell 7;clear t0 t1 t2 x0 x1 x2 x3 x4 x5 x6 x7 eH;(try rw[hV]);go_wp2_with fail;refine (eT.out V cZ.out ia aI).mono ?_;rintro e w2 ⟨rfl,hw2⟩;rw[hw2];clear hw2;rw[DK.out];go_wp2_with fail;obtain⟨h,hh⟩:=eX (hof hs (ia:Int))
 obtain⟨p,hp⟩:=eX (hof hs (ib:Int))
 obtain⟨V2,hV2⟩:=eX (V.drew)
 have bK:Below V.heap.size V V2:=mW hV2;have rM:=zh (cZ.out.trans (bK.mono cZ.out.size));have HW2:=zh (HV.out.below bK);have gM:=zh (dw.out.below bK dw.out.lt);have HL2:=zh (uG.out.below bK);have HG2:=zh (And.intro (HV.out.bI aI) (HV.out.bI iY));rw[hh,hp] at HG2;have iU:=zh (show Bo T B M gh oh m ch w.heap.size ia h o ib p V2 from iV HW2.out.tw gM.out HLEN.out HG2.out.1 HG2.out.2);have Kr:(0:Int)≤(ia:Int):=by omega
 have Kt:(ia:Int)<(m:Int):=by omega
 have Wh:(0:Int)≤(ib:Int):=by omega
 have Wi:(ib:Int)<(m:Int):=by omega
 have HC:=zh (l8 base B b s (hof hs 0) p h (hof hs ((ic:Nat):Int)) live n (Tr.raw g av) fr vs vf V2 HW2.out.tv HW2.out.so (by rw[←hp];exact HW2.out.i64 iY) (by rw[←hh];exact HW2.out.i64 aI) (HW2.out.i64 qz) (.inr (.inl (by obtain⟨e1,e2⟩:=HW2.out.kL aI HG.out;rw[←hh,e1];exact Tr.bG e2))));go_wp2_with fail;refine wp_region_noPanic ?_;refine wp_region_held_drew (S:=Bo T B M gh oh m ch w.heap.size ia h o ib p) (by kernel_rfl) ?_ (fun ah=>?_)
 ·exact (by rw[hV2];exact iU.out)
 rw[hV2] at ah ⊢;refine bE [0,1,2,3,4,5,6,7,8,9,10,11,12,13,14,15,16,17,18,19] ?_;iterate 20 (refine eY ?_;try simp only[pS])
 refine bF ?_;refine bO 20 fun K hK=>?_;go_simp;refine (fZ T B M _ hs ((ic:Nat):Int) V2 HW2.out.tw).mono ?_;rintro e w2 ⟨rfl,hw2⟩;rw[hw2];clear hw2;refine hK.out _ _ (iU.out) fun ah=>?_;clear hK K;(try simp only[pS]);refine bO 21 fun K hK=>?_;go_simp;refine HC.out.mono ?_;rintro e w3 ⟨rfl,hb3⟩;have gJ:=zh (HW2.out.below hb3).up;have fu:=zh (gM.out.below hb3 gM.out.lt);have jh:=zh (show Bo T B M gh oh m ch w.heap.size ia h o ib p w3 from iV gJ.out.tw fu.out HLEN.out HG2.out.1 HG2.out.2);clear hb3;refine hK.out _ _ (jh.out) fun ah=>?_;clear hK K;(try simp only[pS]);refine bE [22,23,24,25,26] ?_;iterate 5 (refine eY ?_;try simp only[pS])
 refine bF ?_;refine gQ ?_;go_wp2_with fail;go_ret2;exact⟨_,[],_,_,_,_,_,_,_,_,_,_,_,_,rfl,gJ.out⟩
theorem LP (base bM T B M:Nat) (b s:Int) (vs vf aQ vh:Value) (n live m:Nat) (fr:List Nat) (av:Int→Tr.Sl) (f:Nat→RS) (hs:List Int) (g:Tr.G) (K:Nat) (o:qQ) (w:World) (H:TW w base bM T B M b s vs vf aQ vh n live m fr av f hs g K) (ho:pQ o) (hkd:o.kind.tmod 10=3) (ic:Nat) (qz:ic<m) (hcz:o.c.tmod ((m:Int)+1)=(ic:Int)+1) (hga:∀ i:Nat,o.a.tmod (m:Int)=(i:Int)→(f i).gone=false) (hgb:∀ i:Nat,o.b.tmod (m:Int)=(i:Int)→(f i).gone=true) (hm:m≤300) (hK:K≤60) (hT:Lit w):
  uF base bM T B M b s K o w:=by
 unfold uF;obtain⟨ia,hia,aI⟩:=aR ho.a.1 H.m0;obtain⟨ib,hib,iY⟩:=aR ho.b.1 H.m0;have hic:o.c.tmod ((m:Int)+1)=(ic:Int)+1:=hcz;have jc0:(0:Int)≤(ic:Int):=by omega
 have jc1:(ic:Int)<(m:Int):=by omega
 have jc2:¬ (ic:Int)<0:=by omega
 have jc3:IntKind.i64.wrap ((ic:Int)+1 - 1)=(ic:Int):=by rw[IntKind.wrap_i64];omega
 have DK:=zh (hga ia hia);clear hga;have LQ:=zh (hgb ib hib);clear hgb;have HG:=LQ;have hlen:=H.len;have hm0:=H.m0;obtain⟨w1,gh,oh,ch,rfl,mz,Ik,Il,Io,hw1,eP,HB1,H1,qp,jL,HLEN,qy,sU,t0,t1,t2,x0,x1,x2,x3,x4,x5,x6,x7,Ip,Iq,Ir,Iu,Iw,Iy,Iz,IB⟩:=iH H ho hT;have yP:=zh (fun (W:World) (hb:Below w.heap.size w W)=>H.mv.below hb);have eT:=zh (fun (W:World) (hb:Below w.heap.size w W) (j:Nat) (hj:j<m)=>bX bM M m aQ f j W (H.mv.below hb) hj (by omega));clear H ho hT
 go_enter Tryz.func7,Tryz.ntmps7
 go_wp2_with fail;(try rw[hw1]);try go_wp2_with fail
 go_quiet (fail)
 obtain⟨V,hV⟩:=eX (w1.drewN nq)
 have eH:Below w1.heap.size w1 V:=IV hV;have cZ:=zh (HB1.out.trans (eH.mono HB1.out.size));have dw:=zh (eP.out.below eH eP.out.lt);have HV:=zh (H1.out.below eH);have uG:=zh (jL.out.below eH);obtain⟨t0',t1',t2'⟩:=sU.out V cZ.out;have z0:V.cell? ⟨w.heap.size,0,none⟩=some (.int .u8 o.kind):=dw.out.cell 0;have z4:V.cell? ⟨w.heap.size,4,none⟩=some (.string o.s):=dw.out.cell 4;have z5:V.cell? ⟨w.heap.size,5,none⟩=some (.string o.t):=dw.out.cell 5;have z6:V.cell? ⟨w.heap.size,6,none⟩=some (.int .i8 o.n):=dw.out.cell 6;have z7:V.cell? ⟨w.heap.size,7,none⟩=some (.int .i8 o.k):=dw.out.cell 7;clear t0 t1 t2 x0 x1 x2 x3 x4 x5 x6 x7 eH;(try rw[hV]);go_wp2_with fail;refine (eT.out V cZ.out ia aI).mono ?_;rintro e w2 ⟨rfl,hw2⟩;rw[hw2];clear hw2;rw[DK.out];go_wp2_with fail;refine (eT.out V cZ.out ib iY).mono ?_;rintro e w2 ⟨rfl,hw2⟩;rw[hw2];clear hw2;rw[LQ.out];go_wp2_with fail;obtain⟨h,hh⟩:=eX (hof hs (ia:Int))
 obtain⟨p,hp⟩:=eX (hof hs (ib:Int))
 obtain⟨V2,hV2⟩:=eX (V.drew)
 have bK:Below V.heap.size V V2:=mW hV2;have rM:=zh (cZ.out.trans (bK.mono cZ.out.size));have HW2:=zh (HV.out.below bK);have gM:=zh (dw.out.below bK dw.out.lt);have HL2:=zh (uG.out.below bK);have HG2:=zh (And.intro (HV.out.bI aI) (HV.out.bI iY));rw[hh,hp] at HG2;have iU:=zh (show Bo T B M gh oh m ch w.heap.size ia h o ib p V2 from iV HW2.out.tw gM.out HLEN.out HG2.out.1 HG2.out.2);have Kr:(0:Int)≤(ia:Int):=by omega
 have Kt:(ia:Int)<(m:Int):=by omega
 have Wh:(0:Int)≤(ib:Int):=by omega
 have Wi:(ib:Int)<(m:Int):=by omega
 have HC:=zh (l8 base B b s (hof hs 0) p h (hof hs ((ic:Nat):Int)) live n (Tr.raw g av) fr vs vf V2 HW2.out.tv HW2.out.so (by rw[←hp];exact HW2.out.i64 iY) (by rw[←hh];exact HW2.out.i64 aI) (HW2.out.i64 qz) (.inl (by obtain⟨e1,e2⟩:=HW2.out.kL iY HG.out;rw[←hp,e1];exact Tr.bG e2)));go_wp2_with fail;refine wp_region_noPanic ?_;refine wp_region_held_drew (S:=Bo T B M gh oh m ch w.heap.size ia h o ib p) (by kernel_rfl) ?_ (fun ah=>?_)
 ·exact (by rw[hV2];exact iU.out)
 rw[hV2] at ah ⊢;refine bE [0,1,2,3,4,5,6,7,8,9,10,11,12,13,14,15,16,17,18,19] ?_;iterate 20 (refine eY ?_;try simp only[pS])
 refine bF ?_;refine bO 20 fun K hK=>?_;go_simp;refine (fZ T B M _ hs ((ic:Nat):Int) V2 HW2.out.tw).mono ?_;rintro e w2 ⟨rfl,hw2⟩;rw[hw2];clear hw2;refine hK.out _ _ (iU.out) fun ah=>?_;clear hK K;(try simp only[pS]);refine bO 21 fun K hK=>?_;go_simp;refine HC.out.mono ?_;rintro e w3 ⟨rfl,hb3⟩;have gJ:=zh (HW2.out.below hb3).up;have fu:=zh (gM.out.below hb3 gM.out.lt);have jh:=zh (show Bo T B M gh oh m ch w.heap.size ia h o ib p w3 from iV gJ.out.tw fu.out HLEN.out HG2.out.1 HG2.out.2);clear hb3;refine hK.out _ _ (jh.out) fun ah=>?_;clear hK K;(try simp only[pS]);refine bE [22,23,24,25,26] ?_;iterate 5 (refine eY ?_;try simp only[pS])
 refine bF ?_;refine gQ ?_;go_wp2_with fail;go_ret2;exact⟨_,[],_,_,_,_,_,_,_,_,_,_,_,_,rfl,gJ.out⟩
theorem LU (base bM T B M:Nat) (b s:Int) (vs vf aQ vh:Value) (n live m:Nat) (fr:List Nat) (av:Int→Tr.Sl) (f:Nat→RS) (hs:List Int) (g:Tr.G) (K:Nat) (o:qQ) (w:World) (H:TW w base bM T B M b s vs vf aQ vh n live m fr av f hs g K) (ho:pQ o) (hkd:o.kind.tmod 10=3) (ic:Nat) (qz:ic<m) (hcz:o.c.tmod ((m:Int)+1)=(ic:Int)+1) (hga:∀ i:Nat,o.a.tmod (m:Int)=(i:Int)→(f i).gone=false) (hgb:∀ i:Nat,o.b.tmod (m:Int)=(i:Int)→(f i).gone=false) (hgc:(f ic).gone=true) (hm:m≤300) (hK:K≤60) (hT:Lit w):
  uF base bM T B M b s K o w:=by
 unfold uF;obtain⟨ia,hia,aI⟩:=aR ho.a.1 H.m0;obtain⟨ib,hib,iY⟩:=aR ho.b.1 H.m0;have hic:o.c.tmod ((m:Int)+1)=(ic:Int)+1:=hcz;have jc0:(0:Int)≤(ic:Int):=by omega
 have jc1:(ic:Int)<(m:Int):=by omega
 have jc2:¬ (ic:Int)<0:=by omega
 have jc3:IntKind.i64.wrap ((ic:Int)+1 - 1)=(ic:Int):=by rw[IntKind.wrap_i64];omega
 have DK:=zh (hga ia hia);clear hga;have LQ:=zh (hgb ib hib);clear hgb;have Xv:=zh hgc;clear hgc;have HG:=Xv;have hlen:=H.len;have hm0:=H.m0;obtain⟨w1,gh,oh,ch,rfl,mz,Ik,Il,Io,hw1,eP,HB1,H1,qp,jL,HLEN,qy,sU,t0,t1,t2,x0,x1,x2,x3,x4,x5,x6,x7,Ip,Iq,Ir,Iu,Iw,Iy,Iz,IB⟩:=iH H ho hT;have yP:=zh (fun (W:World) (hb:Below w.heap.size w W)=>H.mv.below hb);have eT:=zh (fun (W:World) (hb:Below w.heap.size w W) (j:Nat) (hj:j<m)=>bX bM M m aQ f j W (H.mv.below hb) hj (by omega));clear H ho hT
 go_enter Tryz.func7,Tryz.ntmps7
 go_wp2_with fail;(try rw[hw1]);try go_wp2_with fail
 go_quiet (fail)
 obtain⟨V,hV⟩:=eX (w1.drewN nq)
 have eH:Below w1.heap.size w1 V:=IV hV;have cZ:=zh (HB1.out.trans (eH.mono HB1.out.size));have dw:=zh (eP.out.below eH eP.out.lt);have HV:=zh (H1.out.below eH);have uG:=zh (jL.out.below eH);obtain⟨t0',t1',t2'⟩:=sU.out V cZ.out;have z0:V.cell? ⟨w.heap.size,0,none⟩=some (.int .u8 o.kind):=dw.out.cell 0;have z4:V.cell? ⟨w.heap.size,4,none⟩=some (.string o.s):=dw.out.cell 4;have z5:V.cell? ⟨w.heap.size,5,none⟩=some (.string o.t):=dw.out.cell 5;have z6:V.cell? ⟨w.heap.size,6,none⟩=some (.int .i8 o.n):=dw.out.cell 6;have z7:V.cell? ⟨w.heap.size,7,none⟩=some (.int .i8 o.k):=dw.out.cell 7;clear t0 t1 t2 x0 x1 x2 x3 x4 x5 x6 x7 eH;(try rw[hV]);go_wp2_with fail;refine (eT.out V cZ.out ia aI).mono ?_;rintro e w2 ⟨rfl,hw2⟩;rw[hw2];clear hw2;rw[DK.out];go_wp2_with fail;refine (eT.out V cZ.out ib iY).mono ?_;rintro e w2 ⟨rfl,hw2⟩;rw[hw2];clear hw2;rw[LQ.out];go_wp2_with fail;refine (eT.out V cZ.out ic qz).mono ?_;rintro e w2 ⟨rfl,hw2⟩;rw[hw2];clear hw2;rw[Xv.out];go_wp2_with fail;obtain⟨h,hh⟩:=eX (hof hs (ia:Int))
 obtain⟨p,hp⟩:=eX (hof hs (ib:Int))
 obtain⟨V2,hV2⟩:=eX (V.drew)
 have bK:Below V.heap.size V V2:=mW hV2;have rM:=zh (cZ.out.trans (bK.mono cZ.out.size));have HW2:=zh (HV.out.below bK);have gM:=zh (dw.out.below bK dw.out.lt);have HL2:=zh (uG.out.below bK);have HG2:=zh (And.intro (HV.out.bI aI) (HV.out.bI iY));rw[hh,hp] at HG2;have iU:=zh (show Bo T B M gh oh m ch w.heap.size ia h o ib p V2 from iV HW2.out.tw gM.out HLEN.out HG2.out.1 HG2.out.2);have Kr:(0:Int)≤(ia:Int):=by omega
 have Kt:(ia:Int)<(m:Int):=by omega
 have Wh:(0:Int)≤(ib:Int):=by omega
 have Wi:(ib:Int)<(m:Int):=by omega
 have HC:=zh (l8 base B b s (hof hs 0) p h (hof hs ((ic:Nat):Int)) live n (Tr.raw g av) fr vs vf V2 HW2.out.tv HW2.out.so (by rw[←hp];exact HW2.out.i64 iY) (by rw[←hh];exact HW2.out.i64 aI) (HW2.out.i64 qz) (.inr (.inr (by obtain⟨e1,e2⟩:=HW2.out.kL qz HG.out;rw[e1];exact⟨by decide,Tr.bG e2⟩))));go_wp2_with fail;refine wp_region_noPanic ?_;refine wp_region_held_drew (S:=Bo T B M gh oh m ch w.heap.size ia h o ib p) (by kernel_rfl) ?_ (fun ah=>?_)
 ·exact (by rw[hV2];exact iU.out)
 rw[hV2] at ah ⊢;refine bE [0,1,2,3,4,5,6,7,8,9,10,11,12,13,14,15,16,17,18,19] ?_;iterate 20 (refine eY ?_;try simp only[pS])
 refine bF ?_;refine bO 20 fun K hK=>?_;go_simp;refine (fZ T B M _ hs ((ic:Nat):Int) V2 HW2.out.tw).mono ?_;rintro e w2 ⟨rfl,hw2⟩;rw[hw2];clear hw2;refine hK.out _ _ (iU.out) fun ah=>?_;clear hK K;(try simp only[pS]);refine bO 21 fun K hK=>?_;go_simp;refine HC.out.mono ?_;rintro e w3 ⟨rfl,hb3⟩;have gJ:=zh (HW2.out.below hb3).up;have fu:=zh (gM.out.below hb3 gM.out.lt);have jh:=zh (show Bo T B M gh oh m ch w.heap.size ia h o ib p w3 from iV gJ.out.tw fu.out HLEN.out HG2.out.1 HG2.out.2);clear hb3;refine hK.out _ _ (jh.out) fun ah=>?_;clear hK K;(try simp only[pS]);refine bE [22,23,24,25,26] ?_;iterate 5 (refine eY ?_;try simp only[pS])
 refine bF ?_;refine gQ ?_;go_wp2_with fail;go_ret2;exact⟨_,[],_,_,_,_,_,_,_,_,_,_,_,_,rfl,gJ.out⟩
theorem LV (base bM T B M:Nat) (b s:Int) (vs vf aQ vh:Value) (n live m:Nat) (fr:List Nat) (av:Int→Tr.Sl) (f:Nat→RS) (hs:List Int) (g:Tr.G) (K:Nat) (o:qQ) (w:World) (H:TW w base bM T B M b s vs vf aQ vh n live m fr av f hs g K) (ho:pQ o) (hkd:o.kind.tmod 10=3) (ic:Nat) (qz:ic<m) (hcz:o.c.tmod ((m:Int)+1)=(ic:Int)+1) (hga:∀ i:Nat,o.a.tmod (m:Int)=(i:Int)→(f i).gone=false) (hgb:∀ i:Nat,o.b.tmod (m:Int)=(i:Int)→(f i).gone=false) (hgc:(f ic).gone=false) (hm:m≤300) (hK:K≤60) (hT:Lit w):
  uF base bM T B M b s K o w:=by
 unfold uF;obtain⟨ia,hia,aI⟩:=aR ho.a.1 H.m0;obtain⟨ib,hib,iY⟩:=aR ho.b.1 H.m0;have hic:o.c.tmod ((m:Int)+1)=(ic:Int)+1:=hcz;have jc0:(0:Int)≤(ic:Int):=by omega
 have jc1:(ic:Int)<(m:Int):=by omega
 have jc2:¬ (ic:Int)<0:=by omega
 have jc3:IntKind.i64.wrap ((ic:Int)+1 - 1)=(ic:Int):=by rw[IntKind.wrap_i64];omega
 have DK:=zh (hga ia hia);clear hga;have LQ:=zh (hgb ib hib);clear hgb;have Xv:=zh hgc;clear hgc;have HG:=DK;have hlen:=H.len;have hm0:=H.m0;obtain⟨w1,gh,oh,ch,rfl,mz,Ik,Il,Io,hw1,eP,HB1,H1,qp,jL,HLEN,qy,sU,t0,t1,t2,x0,x1,x2,x3,x4,x5,x6,x7,Ip,Iq,Ir,Iu,Iw,Iy,Iz,IB⟩:=iH H ho hT;have yP:=zh (fun (W:World) (hb:Below w.heap.size w W)=>H.mv.below hb);have eT:=zh (fun (W:World) (hb:Below w.heap.size w W) (j:Nat) (hj:j<m)=>bX bM M m aQ f j W (H.mv.below hb) hj (by omega));clear H ho hT
 go_enter Tryz.func7,Tryz.ntmps7
 go_wp2_with fail;(try rw[hw1]);try go_wp2_with fail
 go_quiet (fail)
 obtain⟨V,hV⟩:=eX (w1.drewN nq)
 have eH:Below w1.heap.size w1 V:=IV hV;have cZ:=zh (HB1.out.trans (eH.mono HB1.out.size));have dw:=zh (eP.out.below eH eP.out.lt);have HV:=zh (H1.out.below eH);have uG:=zh (jL.out.below eH);obtain⟨t0',t1',t2'⟩:=sU.out V cZ.out;have z0:V.cell? ⟨w.heap.size,0,none⟩=some (.int .u8 o.kind):=dw.out.cell 0;have z4:V.cell? ⟨w.heap.size,4,none⟩=some (.string o.s):=dw.out.cell 4;have z5:V.cell? ⟨w.heap.size,5,none⟩=some (.string o.t):=dw.out.cell 5;have z6:V.cell? ⟨w.heap.size,6,none⟩=some (.int .i8 o.n):=dw.out.cell 6;have z7:V.cell? ⟨w.heap.size,7,none⟩=some (.int .i8 o.k):=dw.out.cell 7;clear t0 t1 t2 x0 x1 x2 x3 x4 x5 x6 x7 eH;(try rw[hV]);go_wp2_with fail;refine (eT.out V cZ.out ia aI).mono ?_;rintro e w2 ⟨rfl,hw2⟩;rw[hw2];clear hw2;rw[DK.out];go_wp2_with fail;refine (eT.out V cZ.out ib iY).mono ?_;rintro e w2 ⟨rfl,hw2⟩;rw[hw2];clear hw2;rw[LQ.out];go_wp2_with fail;refine (eT.out V cZ.out ic qz).mono ?_;rintro e w2 ⟨rfl,hw2⟩;rw[hw2];clear hw2;rw[Xv.out];go_wp2_with fail;obtain⟨h,hh⟩:=eX (hof hs (ia:Int))
 obtain⟨p,hp⟩:=eX (hof hs (ib:Int))
 obtain⟨V2,hV2⟩:=eX (V.drew)
 have bK:Below V.heap.size V V2:=mW hV2;have rM:=zh (cZ.out.trans (bK.mono cZ.out.size));have HW2:=zh (HV.out.below bK);have gM:=zh (dw.out.below bK dw.out.lt);have HL2:=zh (uG.out.below bK);have HG2:=zh (And.intro (HV.out.bI aI) (HV.out.bI iY));rw[hh,hp] at HG2;have iU:=zh (show Bo T B M gh oh m ch w.heap.size ia h o ib p V2 from iV HW2.out.tw gM.out HLEN.out HG2.out.1 HG2.out.2);have Kr:(0:Int)≤(ia:Int):=by omega
 have Kt:(ia:Int)<(m:Int):=by omega
 have Wh:(0:Int)≤(ib:Int):=by omega
 have Wi:(ib:Int)<(m:Int):=by omega
 have HC:=zh (xR HW2.out (by omega) aI DK.out iY LQ.out (c:=((ic:Nat):Int)) (.inr ⟨ic,rfl,qz,Xv.out⟩));rw[hh,hp] at HC;go_wp2_with fail;refine wp_region_noPanic ?_;refine wp_region_held_drew (S:=Bo T B M gh oh m ch w.heap.size ia h o ib p) (by kernel_rfl) ?_ (fun ah=>?_)
 ·exact (by rw[hV2];exact iU.out)
 rw[hV2] at ah ⊢;refine bE [0,1,2,3,4,5,6,7,8,9,10,11,12,13,14,15,16,17,18,19] ?_;iterate 20 (refine eY ?_;try simp only[pS])
 refine bF ?_;refine bO 20 fun K hK=>?_;go_simp;refine (fZ T B M _ hs ((ic:Nat):Int) V2 HW2.out.tw).mono ?_;rintro e w2 ⟨rfl,hw2⟩;rw[hw2];clear hw2;refine hK.out _ _ (iU.out) fun ah=>?_;clear hK K;(try simp only[pS]);refine bO 21 fun K hK=>?_;go_simp;refine HC.out.mono ?_;rintro e w3 ⟨v,E,lm,rfl,hE,hlm,⟨A3,n3,c3,rfl⟩,oM,Du,fK,hM⟩;have fu:=zh (gM.out.turns fK.1 (HW2.out.tv.aU gM.out (by decide) (by decide) (by decide)));have jh:=zh (show Bo T B M gh oh m ch w.heap.size ia h o ib p w3 from iV oM fu.out HLEN.out HG2.out.1 HG2.out.2);have HM:=zh (hM w3 (Below.refl _ _));have HE:=zh (And.intro hE hlm);have hwE:IntKind.i64.wrap E=E:=by rcases hE with rfl | rfl | rfl<;>decide
 clear oM Du fK hM hE hlm HC;refine hK.out _ _ (jh.out) fun ah=>?_;clear hK K;(try simp only[pS]);refine bE [22,23,24,25,26] ?_;iterate 5 (refine eY ?_;try simp only[pS])
 refine bF ?_;refine gQ ?_;obtain⟨c0,c1,-⟩:=jh.out;go_wp2_with fail;refine HM.out.mono ?_;rintro e w4 ⟨r,f2,g2,rfl,hr4,hrec,dK,hspec,HT⟩;obtain⟨A4,c4,rfl⟩:=aF (aG hr4);have oN:=zh (dF T B M _ _ _ _ _ hs lm w4 HT.tw hrec hr4 (by have:=HE.out.2;omega));have WY:=zh HT;clear hr4 hrec dK HT HM;go_wp2_with fail;refine oN.out.mono ?_;rintro e w5 ⟨rfl,hb5⟩;have bf:=zh (WY.out.below hb5);clear hb5;go_wp2_with fail;go_ret2;exact⟨_,[],_,_,_,_,_,_,_,_,_,_,_,_,rfl,bf.out⟩
end
end Go.Proofs.YtjpbhkcjmdndjaaGreatDoor
