/- Part of a proof about trees. -/
import Derived.BigQuiet
import Derived.Deep.RegionHeld3
import Derived.Test.YtmhjlifmcadefaaGreatDoorS06
set_option linter.unusedVariables false
set_option linter.unusedSimpArgs false
set_option linter.unusedSectionVars false
set_option maxHeartbeats 8000000
set_option maxRecDepth 100000
namespace Go.Proofs.YtmhjlifmcadefaaGreatDoor
section
open Go.RowKit
variable [mQ]
theorem MG (base bM T B M:Nat) (b s:Int) (vs vf aP vh:Value) (n live m:Nat) (fr:List Nat) (av:Int→Tr.Sl) (f:Nat→RS) (hs:List Int) (g:Tr.G) (K:Nat) (o:qp) (w:World) (H:TW w base bM T B M b s vs vf aP vh n live m fr av f hs g K) (ho:pE o) (hkd:o.kind.tmod 10=3) (ic:Nat) (qw:ic<m) (hcz:o.c.tmod ((m:Int)+1)=(ic:Int)+1) (hga:∀ i:Nat,o.a.tmod (m:Int)=(i:Int)→(f i).gone=true) (hm:m≤300) (hK:K≤60) (hT:Lit w):
  uL base bM T B M b s K o w:=by
 unfold uL;obtain⟨ia,hia,aI⟩:=aR ho.a.1 H.m0;obtain⟨ib,hib,iT⟩:=aR ho.b.1 H.m0;have hic:o.c.tmod ((m:Int)+1)=(ic:Int)+1:=hcz;have jc0:(0:Int)≤(ic:Int):=by omega
 have jc1:(ic:Int)<(m:Int):=by omega
 have jc2:¬ (ic:Int)<0:=by omega
 have jc3:IntKind.i64.wrap ((ic:Int)+1 - 1)=(ic:Int):=by rw[IntKind.wrap_i64];omega
 have EA:=zh (hga ia hia);clear hga;have HG:=EA;have hlen:=H.len;have hm0:=H.m0;obtain⟨w1,gh,oh,ch,rfl,mz,IU,IV,IW,hw1,fQ,HB1,H1,ql,jM,HLEN,sG,sH,t0,t1,t2,x0,x1,x2,x3,x4,x5,x6,x7,IX,IY,IZ,I4,I5,I6,I7,I8⟩:=iB H ho hT;have ze:=zh (fun (W:World) (hb:Below w.heap.size w W)=>H.mv.below hb);have dZ:=zh (fun (W:World) (hb:Below w.heap.size w W) (j:Nat) (hj:j<m)=>bX bM M m aP f j W (H.mv.below hb) hj (by omega));clear H ho hT
 go_enter Tryz.func16,Tryz.ntmps16
 go_wp2_with fail;(try rw[hw1]);try go_wp2_with fail
 go_quiet (fail)
 obtain⟨V,hV⟩:=eX (w1.drewN nq)
 have dS:Below w1.heap.size w1 V:=Jg hV;have bK:=zh (HB1.out.trans (dS.mono HB1.out.size));have dH:=zh (fQ.out.below dS fQ.out.lt);have HV:=zh (H1.out.below dS);have vv:=zh (jM.out.below dS);obtain⟨t0',t1',t2'⟩:=sH.out V bK.out;have z0:V.cell? ⟨w.heap.size,0,none⟩=some (.int .u8 o.kind):=dH.out.cell 0;have z4:V.cell? ⟨w.heap.size,4,none⟩=some (.string o.s):=dH.out.cell 4;have z5:V.cell? ⟨w.heap.size,5,none⟩=some (.string o.t):=dH.out.cell 5;have z6:V.cell? ⟨w.heap.size,6,none⟩=some (.int .i8 o.n):=dH.out.cell 6;have z7:V.cell? ⟨w.heap.size,7,none⟩=some (.int .i8 o.k):=dH.out.cell 7;clear t0 t1 t2 x0 x1 x2 x3 x4 x5 x6 x7 dS;(try rw[hV]);go_wp2_with fail;refine (dZ.out V bK.out ia aI).mono ?_;rintro e w2 ⟨rfl,hw2⟩;rw[hw2];clear hw2;rw[EA.out];go_wp2_with fail;obtain⟨h,hh⟩:=eX (hof hs (ia:Int))
 obtain⟨p,hp⟩:=eX (hof hs (ib:Int))
 obtain⟨V2,hV2⟩:=eX (V.drew)
 have bN:Below V.heap.size V V2:=lW hV2;have ru:=zh (bK.out.trans (bN.mono bK.out.size));have HW2:=zh (HV.out.below bN);have gG:=zh (dH.out.below bN dH.out.lt);have HL2:=zh (vv.out.below bN);have HG2:=zh (And.intro (HV.out.bJ aI) (HV.out.bJ iT));rw[hh,hp] at HG2;have gV:=zh (show BZ T B M gh oh m ch w.heap.size ia h o ib p V2 from iO HW2.out.tw gG.out HLEN.out HG2.out.1 HG2.out.2);have K4:(0:Int)≤(ia:Int):=by omega
 have K5:(ia:Int)<(m:Int):=by omega
 have Xw:(0:Int)≤(ib:Int):=by omega
 have Xx:(ib:Int)<(m:Int):=by omega
 have HC:=zh (lX base B b s (hof hs 0) p h (hof hs ((ic:Nat):Int)) live n (Tr.raw g av) fr vs vf V2 HW2.out.tv HW2.out.so (by rw[←hp];exact HW2.out.i64 iT) (by rw[←hh];exact HW2.out.i64 aI) (HW2.out.i64 qw) (.inr (.inl (by obtain⟨e1,e2⟩:=HW2.out.mD aI HG.out;rw[←hh,e1];exact Tr.bF e2))));go_wp2_with fail;refine wp_region_noPanic ?_;refine wp_region_held_drew (S:=BZ T B M gh oh m ch w.heap.size ia h o ib p) (by kernel_rfl) ?_ (fun ah=>?_)
 ·exact (by rw[hV2];exact gV.out)
 rw[hV2] at ah ⊢;refine bn [0,1,2,3,4,5,6,7,8,9,10,11,12,13,14,15,16,17,18,19] ?_;iterate 20 (refine cZ ?_;try simp only[pS])
 refine bq ?_;refine bG 20 fun K hK=>?_;go_simp;refine (fM T B M _ hs ((ic:Nat):Int) V2 HW2.out.tw).mono ?_;rintro e w2 ⟨rfl,hw2⟩;rw[hw2];clear hw2;refine hK.out _ _ (gV.out) fun ah=>?_;clear hK K;(try simp only[pS]);refine bG 21 fun K hK=>?_;go_simp;refine HC.out.mono ?_;rintro e w3 ⟨rfl,hb3⟩;have gJ:=zh (HW2.out.below hb3).up;have eU:=zh (gG.out.below hb3 gG.out.lt);have jA:=zh (show BZ T B M gh oh m ch w.heap.size ia h o ib p w3 from iO gJ.out.tw eU.out HLEN.out HG2.out.1 HG2.out.2);clear hb3;refine hK.out _ _ (jA.out) fun ah=>?_;clear hK K;(try simp only[pS]);refine bn [22,23,24,25,26] ?_;iterate 5 (refine cZ ?_;try simp only[pS])
 refine bq ?_;refine eY ?_;go_wp2_with fail;go_ret2;exact⟨_,[],_,_,_,_,_,_,_,_,_,_,_,_,rfl,gJ.out⟩
theorem MH (base bM T B M:Nat) (b s:Int) (vs vf aP vh:Value) (n live m:Nat) (fr:List Nat) (av:Int→Tr.Sl) (f:Nat→RS) (hs:List Int) (g:Tr.G) (K:Nat) (o:qp) (w:World) (H:TW w base bM T B M b s vs vf aP vh n live m fr av f hs g K) (ho:pE o) (hkd:o.kind.tmod 10=3) (ic:Nat) (qw:ic<m) (hcz:o.c.tmod ((m:Int)+1)=(ic:Int)+1) (hga:∀ i:Nat,o.a.tmod (m:Int)=(i:Int)→(f i).gone=false) (hgb:∀ i:Nat,o.b.tmod (m:Int)=(i:Int)→(f i).gone=true) (hm:m≤300) (hK:K≤60) (hT:Lit w):
  uL base bM T B M b s K o w:=by
 unfold uL;obtain⟨ia,hia,aI⟩:=aR ho.a.1 H.m0;obtain⟨ib,hib,iT⟩:=aR ho.b.1 H.m0;have hic:o.c.tmod ((m:Int)+1)=(ic:Int)+1:=hcz;have jc0:(0:Int)≤(ic:Int):=by omega
 have jc1:(ic:Int)<(m:Int):=by omega
 have jc2:¬ (ic:Int)<0:=by omega
 have jc3:IntKind.i64.wrap ((ic:Int)+1 - 1)=(ic:Int):=by rw[IntKind.wrap_i64];omega
 have EA:=zh (hga ia hia);clear hga;have MI:=zh (hgb ib hib);clear hgb;have HG:=MI;have hlen:=H.len;have hm0:=H.m0;obtain⟨w1,gh,oh,ch,rfl,mz,IU,IV,IW,hw1,fQ,HB1,H1,ql,jM,HLEN,sG,sH,t0,t1,t2,x0,x1,x2,x3,x4,x5,x6,x7,IX,IY,IZ,I4,I5,I6,I7,I8⟩:=iB H ho hT;have ze:=zh (fun (W:World) (hb:Below w.heap.size w W)=>H.mv.below hb);have dZ:=zh (fun (W:World) (hb:Below w.heap.size w W) (j:Nat) (hj:j<m)=>bX bM M m aP f j W (H.mv.below hb) hj (by omega));clear H ho hT
 go_enter Tryz.func16,Tryz.ntmps16
 go_wp2_with fail;(try rw[hw1]);try go_wp2_with fail
 go_quiet (fail)
 obtain⟨V,hV⟩:=eX (w1.drewN nq)
 have dS:Below w1.heap.size w1 V:=Jg hV;have bK:=zh (HB1.out.trans (dS.mono HB1.out.size));have dH:=zh (fQ.out.below dS fQ.out.lt);have HV:=zh (H1.out.below dS);have vv:=zh (jM.out.below dS);obtain⟨t0',t1',t2'⟩:=sH.out V bK.out;have z0:V.cell? ⟨w.heap.size,0,none⟩=some (.int .u8 o.kind):=dH.out.cell 0;have z4:V.cell? ⟨w.heap.size,4,none⟩=some (.string o.s):=dH.out.cell 4;have z5:V.cell? ⟨w.heap.size,5,none⟩=some (.string o.t):=dH.out.cell 5;have z6:V.cell? ⟨w.heap.size,6,none⟩=some (.int .i8 o.n):=dH.out.cell 6;have z7:V.cell? ⟨w.heap.size,7,none⟩=some (.int .i8 o.k):=dH.out.cell 7;clear t0 t1 t2 x0 x1 x2 x3 x4 x5 x6 x7 dS;(try rw[hV]);go_wp2_with fail;refine (dZ.out V bK.out ia aI).mono ?_;rintro e w2 ⟨rfl,hw2⟩;rw[hw2];clear hw2;rw[EA.out];go_wp2_with fail;refine (dZ.out V bK.out ib iT).mono ?_;rintro e w2 ⟨rfl,hw2⟩;rw[hw2];clear hw2;rw[MI.out];go_wp2_with fail;obtain⟨h,hh⟩:=eX (hof hs (ia:Int))
 obtain⟨p,hp⟩:=eX (hof hs (ib:Int))
 obtain⟨V2,hV2⟩:=eX (V.drew)
 have bN:Below V.heap.size V V2:=lW hV2;have ru:=zh (bK.out.trans (bN.mono bK.out.size));have HW2:=zh (HV.out.below bN);have gG:=zh (dH.out.below bN dH.out.lt);have HL2:=zh (vv.out.below bN);have HG2:=zh (And.intro (HV.out.bJ aI) (HV.out.bJ iT));rw[hh,hp] at HG2;have gV:=zh (show BZ T B M gh oh m ch w.heap.size ia h o ib p V2 from iO HW2.out.tw gG.out HLEN.out HG2.out.1 HG2.out.2);have K4:(0:Int)≤(ia:Int):=by omega
 have K5:(ia:Int)<(m:Int):=by omega
 have Xw:(0:Int)≤(ib:Int):=by omega
 have Xx:(ib:Int)<(m:Int):=by omega
 have HC:=zh (lX base B b s (hof hs 0) p h (hof hs ((ic:Nat):Int)) live n (Tr.raw g av) fr vs vf V2 HW2.out.tv HW2.out.so (by rw[←hp];exact HW2.out.i64 iT) (by rw[←hh];exact HW2.out.i64 aI) (HW2.out.i64 qw) (.inl (by obtain⟨e1,e2⟩:=HW2.out.mD iT HG.out;rw[←hp,e1];exact Tr.bF e2)));go_wp2_with fail;refine wp_region_noPanic ?_;refine wp_region_held_drew (S:=BZ T B M gh oh m ch w.heap.size ia h o ib p) (by kernel_rfl) ?_ (fun ah=>?_)
 ·exact (by rw[hV2];exact gV.out)
 rw[hV2] at ah ⊢;refine bn [0,1,2,3,4,5,6,7,8,9,10,11,12,13,14,15,16,17,18,19] ?_;iterate 20 (refine cZ ?_;try simp only[pS])
 refine bq ?_;refine bG 20 fun K hK=>?_;go_simp;refine (fM T B M _ hs ((ic:Nat):Int) V2 HW2.out.tw).mono ?_;rintro e w2 ⟨rfl,hw2⟩;rw[hw2];clear hw2;refine hK.out _ _ (gV.out) fun ah=>?_;clear hK K;(try simp only[pS]);refine bG 21 fun K hK=>?_;go_simp;refine HC.out.mono ?_;rintro e w3 ⟨rfl,hb3⟩;have gJ:=zh (HW2.out.below hb3).up;have eU:=zh (gG.out.below hb3 gG.out.lt);have jA:=zh (show BZ T B M gh oh m ch w.heap.size ia h o ib p w3 from iO gJ.out.tw eU.out HLEN.out HG2.out.1 HG2.out.2);clear hb3;refine hK.out _ _ (jA.out) fun ah=>?_;clear hK K;(try simp only[pS]);refine bn [22,23,24,25,26] ?_;iterate 5 (refine cZ ?_;try simp only[pS])
 refine bq ?_;refine eY ?_;go_wp2_with fail;go_ret2;exact⟨_,[],_,_,_,_,_,_,_,_,_,_,_,_,rfl,gJ.out⟩
theorem MJ (base bM T B M:Nat) (b s:Int) (vs vf aP vh:Value) (n live m:Nat) (fr:List Nat) (av:Int→Tr.Sl) (f:Nat→RS) (hs:List Int) (g:Tr.G) (K:Nat) (o:qp) (w:World) (H:TW w base bM T B M b s vs vf aP vh n live m fr av f hs g K) (ho:pE o) (hkd:o.kind.tmod 10=3) (ic:Nat) (qw:ic<m) (hcz:o.c.tmod ((m:Int)+1)=(ic:Int)+1) (hga:∀ i:Nat,o.a.tmod (m:Int)=(i:Int)→(f i).gone=false) (hgb:∀ i:Nat,o.b.tmod (m:Int)=(i:Int)→(f i).gone=false) (hgc:(f ic).gone=true) (hm:m≤300) (hK:K≤60) (hT:Lit w):
  uL base bM T B M b s K o w:=by
 unfold uL;obtain⟨ia,hia,aI⟩:=aR ho.a.1 H.m0;obtain⟨ib,hib,iT⟩:=aR ho.b.1 H.m0;have hic:o.c.tmod ((m:Int)+1)=(ic:Int)+1:=hcz;have jc0:(0:Int)≤(ic:Int):=by omega
 have jc1:(ic:Int)<(m:Int):=by omega
 have jc2:¬ (ic:Int)<0:=by omega
 have jc3:IntKind.i64.wrap ((ic:Int)+1 - 1)=(ic:Int):=by rw[IntKind.wrap_i64];omega
 have EA:=zh (hga ia hia);clear hga;have MI:=zh (hgb ib hib);clear hgb;have Yq:=zh hgc;clear hgc;have HG:=Yq;have hlen:=H.len;have hm0:=H.m0;obtain⟨w1,gh,oh,ch,rfl,mz,IU,IV,IW,hw1,fQ,HB1,H1,ql,jM,HLEN,sG,sH,t0,t1,t2,x0,x1,x2,x3,x4,x5,x6,x7,IX,IY,IZ,I4,I5,I6,I7,I8⟩:=iB H ho hT;have ze:=zh (fun (W:World) (hb:Below w.heap.size w W)=>H.mv.below hb);have dZ:=zh (fun (W:World) (hb:Below w.heap.size w W) (j:Nat) (hj:j<m)=>bX bM M m aP f j W (H.mv.below hb) hj (by omega));clear H ho hT
 go_enter Tryz.func16,Tryz.ntmps16
 go_wp2_with fail;(try rw[hw1]);try go_wp2_with fail
 go_quiet (fail)
 obtain⟨V,hV⟩:=eX (w1.drewN nq)
 have dS:Below w1.heap.size w1 V:=Jg hV;have bK:=zh (HB1.out.trans (dS.mono HB1.out.size));have dH:=zh (fQ.out.below dS fQ.out.lt);have HV:=zh (H1.out.below dS);have vv:=zh (jM.out.below dS);obtain⟨t0',t1',t2'⟩:=sH.out V bK.out;have z0:V.cell? ⟨w.heap.size,0,none⟩=some (.int .u8 o.kind):=dH.out.cell 0;have z4:V.cell? ⟨w.heap.size,4,none⟩=some (.string o.s):=dH.out.cell 4;have z5:V.cell? ⟨w.heap.size,5,none⟩=some (.string o.t):=dH.out.cell 5;have z6:V.cell? ⟨w.heap.size,6,none⟩=some (.int .i8 o.n):=dH.out.cell 6;have z7:V.cell? ⟨w.heap.size,7,none⟩=some (.int .i8 o.k):=dH.out.cell 7;clear t0 t1 t2 x0 x1 x2 x3 x4 x5 x6 x7 dS;(try rw[hV]);go_wp2_with fail;refine (dZ.out V bK.out ia aI).mono ?_;rintro e w2 ⟨rfl,hw2⟩;rw[hw2];clear hw2;rw[EA.out];go_wp2_with fail;refine (dZ.out V bK.out ib iT).mono ?_;rintro e w2 ⟨rfl,hw2⟩;rw[hw2];clear hw2;rw[MI.out];go_wp2_with fail;refine (dZ.out V bK.out ic qw).mono ?_;rintro e w2 ⟨rfl,hw2⟩;rw[hw2];clear hw2;rw[Yq.out];go_wp2_with fail;obtain⟨h,hh⟩:=eX (hof hs (ia:Int))
 obtain⟨p,hp⟩:=eX (hof hs (ib:Int))
 obtain⟨V2,hV2⟩:=eX (V.drew)
 have bN:Below V.heap.size V V2:=lW hV2;have ru:=zh (bK.out.trans (bN.mono bK.out.size));have HW2:=zh (HV.out.below bN);have gG:=zh (dH.out.below bN dH.out.lt);have HL2:=zh (vv.out.below bN);have HG2:=zh (And.intro (HV.out.bJ aI) (HV.out.bJ iT));rw[hh,hp] at HG2;have gV:=zh (show BZ T B M gh oh m ch w.heap.size ia h o ib p V2 from iO HW2.out.tw gG.out HLEN.out HG2.out.1 HG2.out.2);have K4:(0:Int)≤(ia:Int):=by omega
 have K5:(ia:Int)<(m:Int):=by omega
 have Xw:(0:Int)≤(ib:Int):=by omega
 have Xx:(ib:Int)<(m:Int):=by omega
 have HC:=zh (lX base B b s (hof hs 0) p h (hof hs ((ic:Nat):Int)) live n (Tr.raw g av) fr vs vf V2 HW2.out.tv HW2.out.so (by rw[←hp];exact HW2.out.i64 iT) (by rw[←hh];exact HW2.out.i64 aI) (HW2.out.i64 qw) (.inr (.inr (by obtain⟨e1,e2⟩:=HW2.out.mD qw HG.out;rw[e1];exact⟨by decide,Tr.bF e2⟩))));go_wp2_with fail;refine wp_region_noPanic ?_;refine wp_region_held_drew (S:=BZ T B M gh oh m ch w.heap.size ia h o ib p) (by kernel_rfl) ?_ (fun ah=>?_)
 ·exact (by rw[hV2];exact gV.out)
 rw[hV2] at ah ⊢;refine bn [0,1,2,3,4,5,6,7,8,9,10,11,12,13,14,15,16,17,18,19] ?_;iterate 20 (refine cZ ?_;try simp only[pS])
 refine bq ?_;refine bG 20 fun K hK=>?_;go_simp;refine (fM T B M _ hs ((ic:Nat):Int) V2 HW2.out.tw).mono ?_;rintro e w2 ⟨rfl,hw2⟩;rw[hw2];clear hw2;refine hK.out _ _ (gV.out) fun ah=>?_;clear hK K;(try simp only[pS]);refine bG 21 fun K hK=>?_;go_simp;refine HC.out.mono ?_;rintro e w3 ⟨rfl,hb3⟩;have gJ:=zh (HW2.out.below hb3).up;have eU:=zh (gG.out.below hb3 gG.out.lt);have jA:=zh (show BZ T B M gh oh m ch w.heap.size ia h o ib p w3 from iO gJ.out.tw eU.out HLEN.out HG2.out.1 HG2.out.2);clear hb3;refine hK.out _ _ (jA.out) fun ah=>?_;clear hK K;(try simp only[pS]);refine bn [22,23,24,25,26] ?_;iterate 5 (refine cZ ?_;try simp only[pS])
 refine bq ?_;refine eY ?_;go_wp2_with fail;go_ret2;exact⟨_,[],_,_,_,_,_,_,_,_,_,_,_,_,rfl,gJ.out⟩
theorem MK (base bM T B M:Nat) (b s:Int) (vs vf aP vh:Value) (n live m:Nat) (fr:List Nat) (av:Int→Tr.Sl) (f:Nat→RS) (hs:List Int) (g:Tr.G) (K:Nat) (o:qp) (w:World) (H:TW w base bM T B M b s vs vf aP vh n live m fr av f hs g K) (ho:pE o) (hkd:o.kind.tmod 10=3) (ic:Nat) (qw:ic<m) (hcz:o.c.tmod ((m:Int)+1)=(ic:Int)+1) (hga:∀ i:Nat,o.a.tmod (m:Int)=(i:Int)→(f i).gone=false) (hgb:∀ i:Nat,o.b.tmod (m:Int)=(i:Int)→(f i).gone=false) (hgc:(f ic).gone=false) (hm:m≤300) (hK:K≤60) (hT:Lit w):
  uL base bM T B M b s K o w:=by
 unfold uL;obtain⟨ia,hia,aI⟩:=aR ho.a.1 H.m0;obtain⟨ib,hib,iT⟩:=aR ho.b.1 H.m0;have hic:o.c.tmod ((m:Int)+1)=(ic:Int)+1:=hcz;have jc0:(0:Int)≤(ic:Int):=by omega
 have jc1:(ic:Int)<(m:Int):=by omega
 have jc2:¬ (ic:Int)<0:=by omega
 have jc3:IntKind.i64.wrap ((ic:Int)+1 - 1)=(ic:Int):=by rw[IntKind.wrap_i64];omega
 have EA:=zh (hga ia hia);clear hga;have MI:=zh (hgb ib hib);clear hgb;have Yq:=zh hgc;clear hgc;have HG:=EA;have hlen:=H.len;have hm0:=H.m0;obtain⟨w1,gh,oh,ch,rfl,mz,IU,IV,IW,hw1,fQ,HB1,H1,ql,jM,HLEN,sG,sH,t0,t1,t2,x0,x1,x2,x3,x4,x5,x6,x7,IX,IY,IZ,I4,I5,I6,I7,I8⟩:=iB H ho hT;have ze:=zh (fun (W:World) (hb:Below w.heap.size w W)=>H.mv.below hb);have dZ:=zh (fun (W:World) (hb:Below w.heap.size w W) (j:Nat) (hj:j<m)=>bX bM M m aP f j W (H.mv.below hb) hj (by omega));clear H ho hT
 go_enter Tryz.func16,Tryz.ntmps16
 go_wp2_with fail;(try rw[hw1]);try go_wp2_with fail
 go_quiet (fail)
 obtain⟨V,hV⟩:=eX (w1.drewN nq)
 have dS:Below w1.heap.size w1 V:=Jg hV;have bK:=zh (HB1.out.trans (dS.mono HB1.out.size));have dH:=zh (fQ.out.below dS fQ.out.lt);have HV:=zh (H1.out.below dS);have vv:=zh (jM.out.below dS);obtain⟨t0',t1',t2'⟩:=sH.out V bK.out;have z0:V.cell? ⟨w.heap.size,0,none⟩=some (.int .u8 o.kind):=dH.out.cell 0;have z4:V.cell? ⟨w.heap.size,4,none⟩=some (.string o.s):=dH.out.cell 4;have z5:V.cell? ⟨w.heap.size,5,none⟩=some (.string o.t):=dH.out.cell 5;have z6:V.cell? ⟨w.heap.size,6,none⟩=some (.int .i8 o.n):=dH.out.cell 6;have z7:V.cell? ⟨w.heap.size,7,none⟩=some (.int .i8 o.k):=dH.out.cell 7;clear t0 t1 t2 x0 x1 x2 x3 x4 x5 x6 x7 dS;(try rw[hV]);go_wp2_with fail;refine (dZ.out V bK.out ia aI).mono ?_;rintro e w2 ⟨rfl,hw2⟩;rw[hw2];clear hw2;rw[EA.out];go_wp2_with fail;refine (dZ.out V bK.out ib iT).mono ?_;rintro e w2 ⟨rfl,hw2⟩;rw[hw2];clear hw2;rw[MI.out];go_wp2_with fail;refine (dZ.out V bK.out ic qw).mono ?_;rintro e w2 ⟨rfl,hw2⟩;rw[hw2];clear hw2;rw[Yq.out];go_wp2_with fail;obtain⟨h,hh⟩:=eX (hof hs (ia:Int))
 obtain⟨p,hp⟩:=eX (hof hs (ib:Int))
 obtain⟨V2,hV2⟩:=eX (V.drew)
 have bN:Below V.heap.size V V2:=lW hV2;have ru:=zh (bK.out.trans (bN.mono bK.out.size));have HW2:=zh (HV.out.below bN);have gG:=zh (dH.out.below bN dH.out.lt);have HL2:=zh (vv.out.below bN);have HG2:=zh (And.intro (HV.out.bJ aI) (HV.out.bJ iT));rw[hh,hp] at HG2;have gV:=zh (show BZ T B M gh oh m ch w.heap.size ia h o ib p V2 from iO HW2.out.tw gG.out HLEN.out HG2.out.1 HG2.out.2);have K4:(0:Int)≤(ia:Int):=by omega
 have K5:(ia:Int)<(m:Int):=by omega
 have Xw:(0:Int)≤(ib:Int):=by omega
 have Xx:(ib:Int)<(m:Int):=by omega
 have HC:=zh (xU HW2.out (by omega) aI EA.out iT MI.out (c:=((ic:Nat):Int)) (.inr ⟨ic,rfl,qw,Yq.out⟩));rw[hh,hp] at HC;go_wp2_with fail;refine wp_region_noPanic ?_;refine wp_region_held_drew (S:=BZ T B M gh oh m ch w.heap.size ia h o ib p) (by kernel_rfl) ?_ (fun ah=>?_)
 ·exact (by rw[hV2];exact gV.out)
 rw[hV2] at ah ⊢;refine bn [0,1,2,3,4,5,6,7,8,9,10,11,12,13,14,15,16,17,18,19] ?_;iterate 20 (refine cZ ?_;try simp only[pS])
 refine bq ?_;refine bG 20 fun K hK=>?_;go_simp;refine (fM T B M _ hs ((ic:Nat):Int) V2 HW2.out.tw).mono ?_;rintro e w2 ⟨rfl,hw2⟩;rw[hw2];clear hw2;refine hK.out _ _ (gV.out) fun ah=>?_;clear hK K;(try simp only[pS]);refine bG 21 fun K hK=>?_;go_simp;refine HC.out.mono ?_;rintro e w3 ⟨v,E,lm,rfl,hE,hlm,⟨A3,n3,c3,rfl⟩,oF,Ep,fF,hM⟩;have eU:=zh (gG.out.turns fF.1 (HW2.out.tv.aV gG.out (by decide) (by decide) (by decide)));have jA:=zh (show BZ T B M gh oh m ch w.heap.size ia h o ib p w3 from iO oF eU.out HLEN.out HG2.out.1 HG2.out.2);have HM:=zh (hM w3 (Below.refl _ _));have HE:=zh (And.intro hE hlm);have hwE:IntKind.i64.wrap E=E:=by rcases hE with rfl | rfl | rfl<;>decide
 clear oF Ep fF hM hE hlm HC;refine hK.out _ _ (jA.out) fun ah=>?_;clear hK K;(try simp only[pS]);refine bn [22,23,24,25,26] ?_;iterate 5 (refine cZ ?_;try simp only[pS])
 refine bq ?_;refine eY ?_;obtain⟨c0,c1,-⟩:=jA.out;go_wp2_with fail;refine HM.out.mono ?_;rintro e w4 ⟨r,f2,g2,rfl,hr4,hrec,dJ,hspec,HT⟩;obtain⟨A4,c4,rfl⟩:=aF (aG hr4);have qm:=zh (dB T B M _ _ _ _ _ hs lm w4 HT.tw hrec hr4 (by have:=HE.out.2;omega));have X0:=zh HT;clear hr4 hrec dJ HT HM;go_wp2_with fail;refine qm.out.mono ?_;rintro e w5 ⟨rfl,hb5⟩;have bC:=zh (X0.out.below hb5);clear hb5;go_wp2_with fail;go_ret2;exact⟨_,[],_,_,_,_,_,_,_,_,_,_,_,_,rfl,bC.out⟩
end
end Go.Proofs.YtmhjlifmcadefaaGreatDoor
