/- Part of a proof about trees. -/
import Derived.BigQuiet
import Derived.Deep.RegionHeld3
import Derived.Test.YtnbaadpgbcklaaaGreatDoorS06
set_option linter.unusedVariables false
set_option linter.unusedSimpArgs false
set_option linter.unusedSectionVars false
set_option maxHeartbeats 8000000
set_option maxRecDepth 100000
namespace Go.Proofs.YtnbaadpgbcklaaaGreatDoor
section
open Go.RowKit
variable [oQ]
theorem K6 (base bM T B M:Nat) (b s:Int) (vs vf aT vh:Value) (n live m:Nat) (fr:List Nat) (av:Int→Tr.Sl) (f:Nat→RS) (hs:List Int) (g:Tr.G) (K:Nat) (o:qM) (w:World) (H:TW w base bM T B M b s vs vf aT vh n live m fr av f hs g K) (ho:pE o) (hkd:o.kind.tmod 10=3) (ic:Nat) (ql:ic<m) (hcz:o.c.tmod ((m:Int)+1)=(ic:Int)+1) (hga:∀ i:Nat,o.a.tmod (m:Int)=(i:Int)→(f i).gone=true) (hm:m≤300) (hK:K≤60) (hT:Lit w):
  uo base bM T B M b s K o w:=by
 unfold uo;obtain⟨ia,hia,aL⟩:=aS ho.a.1 H.m0;obtain⟨ib,hib,iU⟩:=aS ho.b.1 H.m0;have hic:o.c.tmod ((m:Int)+1)=(ic:Int)+1:=hcz;have Zl:(0:Int)≤(ic:Int):=by omega
 have Zm:(ic:Int)<(m:Int):=by omega
 have Zn:¬ (ic:Int)<0:=by omega
 have Zo:IntKind.i64.wrap ((ic:Int)+1 - 1)=(ic:Int):=by rw[IntKind.wrap_i64];omega
 have Dr:=zh (hga ia hia);clear hga;have HG:=Dr;have hlen:=H.len;have hm0:=H.m0;obtain⟨w1,gh,oh,ch,rfl,mz,G9,He,Hf,hw1,fu,HB1,H1,p8,jI,HLEN,qX,qh,t0,t1,t2,x0,x1,x2,x3,x4,x5,x6,x7,Hg,Hl,Ho,Hq,Hr,Ht,Hu,Hw⟩:=iB H ho hT;have yF:=zh (fun (W:World) (hb:Below w.heap.size w W)=>H.mv.below hb);have eO:=zh (fun (W:World) (hb:Below w.heap.size w W) (j:Nat) (hj:j<m)=>dF bM M m aT f j W (H.mv.below hb) hj (by omega));clear H ho hT
 go_enter Tryz.func13,Tryz.ntmps13
 go_wp2_with fail;(try rw[hw1]);try go_wp2_with fail
 go_quiet (fail)
 obtain⟨V,hV⟩:=eX (w1.drewN nq)
 have eH:Below w1.heap.size w1 V:=Hy hV;have bW:=zh (HB1.out.trans (eH.mono HB1.out.size));have cZ:=zh (fu.out.below eH fu.out.lt);have HV:=zh (H1.out.below eH);have uq:=zh (jI.out.below eH);obtain⟨t0',t1',t2'⟩:=qh.out V bW.out;have z0:V.cell? ⟨w.heap.size,0,none⟩=some (.int .u8 o.kind):=cZ.out.cell 0;have z4:V.cell? ⟨w.heap.size,4,none⟩=some (.string o.s):=cZ.out.cell 4;have z5:V.cell? ⟨w.heap.size,5,none⟩=some (.string o.t):=cZ.out.cell 5;have z6:V.cell? ⟨w.heap.size,6,none⟩=some (.int .i8 o.n):=cZ.out.cell 6;have z7:V.cell? ⟨w.heap.size,7,none⟩=some (.int .i8 o.k):=cZ.out.cell 7;clear t0 t1 t2 x0 x1 x2 x3 x4 x5 x6 x7 eH;(try rw[hV]);go_wp2_with fail;refine (eO.out V bW.out ia aL).mono ?_;rintro e w2 ⟨rfl,hw2⟩;rw[hw2];clear hw2;rw[Dr.out];go_wp2_with fail;obtain⟨h,hh⟩:=eX (hof hs (ia:Int))
 obtain⟨p,hp⟩:=eX (hof hs (ib:Int))
 obtain⟨V2,hV2⟩:=eX (V.drew)
 have bK:Below V.heap.size V V2:=qd hV2;have nV:=zh (bW.out.trans (bK.mono bW.out.size));have HW2:=zh (HV.out.below bK);have gH:=zh (cZ.out.below bK cZ.out.lt);have HL2:=zh (uq.out.below bK);have HG2:=zh (And.intro (HV.out.bH aL) (HV.out.bH iU));rw[hh,hp] at HG2;have gI:=zh (show AB T B M gh oh m ch w.heap.size ia h o ib p V2 from iP HW2.out.tw gH.out HLEN.out HG2.out.1 HG2.out.2);have JR:(0:Int)≤(ia:Int):=by omega
 have JU:(ia:Int)<(m:Int):=by omega
 have U8:(0:Int)≤(ib:Int):=by omega
 have U9:(ib:Int)<(m:Int):=by omega
 have HC:=zh (lX base B b s (hof hs 0) p h (hof hs ((ic:Nat):Int)) live n (Tr.raw g av) fr vs vf V2 HW2.out.tv HW2.out.so (by rw[←hp];exact HW2.out.i64 iU) (by rw[←hh];exact HW2.out.i64 aL) (HW2.out.i64 ql) (.inr (.inl (by obtain⟨e1,e2⟩:=HW2.out.lC aL HG.out;rw[←hh,e1];exact Tr.bB e2))));go_wp2_with fail;refine wp_region_noPanic ?_;refine wp_region_held_drew (S:=AB T B M gh oh m ch w.heap.size ia h o ib p) (by kernel_rfl) ?_ (fun ah=>?_)
 ·exact (by rw[hV2];exact gI.out)
 rw[hV2] at ah ⊢;refine bE [0,1,2,3,4,5,6,7,8,9,10,11,12,13,14,15,16,17,18,19] ?_;iterate 20 (refine dQ ?_;try simp only[pS])
 refine bF ?_;refine bI 20 fun K hK=>?_;go_simp;refine (fM T B M _ hs ((ic:Nat):Int) V2 HW2.out.tw).mono ?_;rintro e w2 ⟨rfl,hw2⟩;rw[hw2];clear hw2;refine hK.out _ _ (gI.out) fun ah=>?_;clear hK K;(try simp only[pS]);refine bI 21 fun K hK=>?_;go_simp;refine HC.out.mono ?_;rintro e w3 ⟨rfl,hb3⟩;have gJ:=zh (HW2.out.below hb3).up;have eU:=zh (gH.out.below hb3 gH.out.lt);have jm:=zh (show AB T B M gh oh m ch w.heap.size ia h o ib p w3 from iP gJ.out.tw eU.out HLEN.out HG2.out.1 HG2.out.2);clear hb3;refine hK.out _ _ (jm.out) fun ah=>?_;clear hK K;(try simp only[pS]);refine bE [22,23,24,25,26] ?_;iterate 5 (refine dQ ?_;try simp only[pS])
 refine bF ?_;refine gq ?_;go_wp2_with fail;go_ret2;exact⟨_,[],_,_,_,_,_,_,_,_,_,_,_,_,rfl,gJ.out⟩
theorem K7 (base bM T B M:Nat) (b s:Int) (vs vf aT vh:Value) (n live m:Nat) (fr:List Nat) (av:Int→Tr.Sl) (f:Nat→RS) (hs:List Int) (g:Tr.G) (K:Nat) (o:qM) (w:World) (H:TW w base bM T B M b s vs vf aT vh n live m fr av f hs g K) (ho:pE o) (hkd:o.kind.tmod 10=3) (ic:Nat) (ql:ic<m) (hcz:o.c.tmod ((m:Int)+1)=(ic:Int)+1) (hga:∀ i:Nat,o.a.tmod (m:Int)=(i:Int)→(f i).gone=false) (hgb:∀ i:Nat,o.b.tmod (m:Int)=(i:Int)→(f i).gone=true) (hm:m≤300) (hK:K≤60) (hT:Lit w):
  uo base bM T B M b s K o w:=by
 unfold uo;obtain⟨ia,hia,aL⟩:=aS ho.a.1 H.m0;obtain⟨ib,hib,iU⟩:=aS ho.b.1 H.m0;have hic:o.c.tmod ((m:Int)+1)=(ic:Int)+1:=hcz;have Zl:(0:Int)≤(ic:Int):=by omega
 have Zm:(ic:Int)<(m:Int):=by omega
 have Zn:¬ (ic:Int)<0:=by omega
 have Zo:IntKind.i64.wrap ((ic:Int)+1 - 1)=(ic:Int):=by rw[IntKind.wrap_i64];omega
 have Dr:=zh (hga ia hia);clear hga;have K8:=zh (hgb ib hib);clear hgb;have HG:=K8;have hlen:=H.len;have hm0:=H.m0;obtain⟨w1,gh,oh,ch,rfl,mz,G9,He,Hf,hw1,fu,HB1,H1,p8,jI,HLEN,qX,qh,t0,t1,t2,x0,x1,x2,x3,x4,x5,x6,x7,Hg,Hl,Ho,Hq,Hr,Ht,Hu,Hw⟩:=iB H ho hT;have yF:=zh (fun (W:World) (hb:Below w.heap.size w W)=>H.mv.below hb);have eO:=zh (fun (W:World) (hb:Below w.heap.size w W) (j:Nat) (hj:j<m)=>dF bM M m aT f j W (H.mv.below hb) hj (by omega));clear H ho hT
 go_enter Tryz.func13,Tryz.ntmps13
 go_wp2_with fail;(try rw[hw1]);try go_wp2_with fail
 go_quiet (fail)
 obtain⟨V,hV⟩:=eX (w1.drewN nq)
 have eH:Below w1.heap.size w1 V:=Hy hV;have bW:=zh (HB1.out.trans (eH.mono HB1.out.size));have cZ:=zh (fu.out.below eH fu.out.lt);have HV:=zh (H1.out.below eH);have uq:=zh (jI.out.below eH);obtain⟨t0',t1',t2'⟩:=qh.out V bW.out;have z0:V.cell? ⟨w.heap.size,0,none⟩=some (.int .u8 o.kind):=cZ.out.cell 0;have z4:V.cell? ⟨w.heap.size,4,none⟩=some (.string o.s):=cZ.out.cell 4;have z5:V.cell? ⟨w.heap.size,5,none⟩=some (.string o.t):=cZ.out.cell 5;have z6:V.cell? ⟨w.heap.size,6,none⟩=some (.int .i8 o.n):=cZ.out.cell 6;have z7:V.cell? ⟨w.heap.size,7,none⟩=some (.int .i8 o.k):=cZ.out.cell 7;clear t0 t1 t2 x0 x1 x2 x3 x4 x5 x6 x7 eH;(try rw[hV]);go_wp2_with fail;refine (eO.out V bW.out ia aL).mono ?_;rintro e w2 ⟨rfl,hw2⟩;rw[hw2];clear hw2;rw[Dr.out];go_wp2_with fail;refine (eO.out V bW.out ib iU).mono ?_;rintro e w2 ⟨rfl,hw2⟩;rw[hw2];clear hw2;rw[K8.out];go_wp2_with fail;obtain⟨h,hh⟩:=eX (hof hs (ia:Int))
 obtain⟨p,hp⟩:=eX (hof hs (ib:Int))
 obtain⟨V2,hV2⟩:=eX (V.drew)
 have bK:Below V.heap.size V V2:=qd hV2;have nV:=zh (bW.out.trans (bK.mono bW.out.size));have HW2:=zh (HV.out.below bK);have gH:=zh (cZ.out.below bK cZ.out.lt);have HL2:=zh (uq.out.below bK);have HG2:=zh (And.intro (HV.out.bH aL) (HV.out.bH iU));rw[hh,hp] at HG2;have gI:=zh (show AB T B M gh oh m ch w.heap.size ia h o ib p V2 from iP HW2.out.tw gH.out HLEN.out HG2.out.1 HG2.out.2);have JR:(0:Int)≤(ia:Int):=by omega
 have JU:(ia:Int)<(m:Int):=by omega
 have U8:(0:Int)≤(ib:Int):=by omega
 have U9:(ib:Int)<(m:Int):=by omega
 have HC:=zh (lX base B b s (hof hs 0) p h (hof hs ((ic:Nat):Int)) live n (Tr.raw g av) fr vs vf V2 HW2.out.tv HW2.out.so (by rw[←hp];exact HW2.out.i64 iU) (by rw[←hh];exact HW2.out.i64 aL) (HW2.out.i64 ql) (.inl (by obtain⟨e1,e2⟩:=HW2.out.lC iU HG.out;rw[←hp,e1];exact Tr.bB e2)));go_wp2_with fail;refine wp_region_noPanic ?_;refine wp_region_held_drew (S:=AB T B M gh oh m ch w.heap.size ia h o ib p) (by kernel_rfl) ?_ (fun ah=>?_)
 ·exact (by rw[hV2];exact gI.out)
 rw[hV2] at ah ⊢;refine bE [0,1,2,3,4,5,6,7,8,9,10,11,12,13,14,15,16,17,18,19] ?_;iterate 20 (refine dQ ?_;try simp only[pS])
 refine bF ?_;refine bI 20 fun K hK=>?_;go_simp;refine (fM T B M _ hs ((ic:Nat):Int) V2 HW2.out.tw).mono ?_;rintro e w2 ⟨rfl,hw2⟩;rw[hw2];clear hw2;refine hK.out _ _ (gI.out) fun ah=>?_;clear hK K;(try simp only[pS]);refine bI 21 fun K hK=>?_;go_simp;refine HC.out.mono ?_;rintro e w3 ⟨rfl,hb3⟩;have gJ:=zh (HW2.out.below hb3).up;have eU:=zh (gH.out.below hb3 gH.out.lt);have jm:=zh (show AB T B M gh oh m ch w.heap.size ia h o ib p w3 from iP gJ.out.tw eU.out HLEN.out HG2.out.1 HG2.out.2);clear hb3;refine hK.out _ _ (jm.out) fun ah=>?_;clear hK K;(try simp only[pS]);refine bE [22,23,24,25,26] ?_;iterate 5 (refine dQ ?_;try simp only[pS])
 refine bF ?_;refine gq ?_;go_wp2_with fail;go_ret2;exact⟨_,[],_,_,_,_,_,_,_,_,_,_,_,_,rfl,gJ.out⟩
theorem K9 (base bM T B M:Nat) (b s:Int) (vs vf aT vh:Value) (n live m:Nat) (fr:List Nat) (av:Int→Tr.Sl) (f:Nat→RS) (hs:List Int) (g:Tr.G) (K:Nat) (o:qM) (w:World) (H:TW w base bM T B M b s vs vf aT vh n live m fr av f hs g K) (ho:pE o) (hkd:o.kind.tmod 10=3) (ic:Nat) (ql:ic<m) (hcz:o.c.tmod ((m:Int)+1)=(ic:Int)+1) (hga:∀ i:Nat,o.a.tmod (m:Int)=(i:Int)→(f i).gone=false) (hgb:∀ i:Nat,o.b.tmod (m:Int)=(i:Int)→(f i).gone=false) (hgc:(f ic).gone=true) (hm:m≤300) (hK:K≤60) (hT:Lit w):
  uo base bM T B M b s K o w:=by
 unfold uo;obtain⟨ia,hia,aL⟩:=aS ho.a.1 H.m0;obtain⟨ib,hib,iU⟩:=aS ho.b.1 H.m0;have hic:o.c.tmod ((m:Int)+1)=(ic:Int)+1:=hcz;have Zl:(0:Int)≤(ic:Int):=by omega
 have Zm:(ic:Int)<(m:Int):=by omega
 have Zn:¬ (ic:Int)<0:=by omega
 have Zo:IntKind.i64.wrap ((ic:Int)+1 - 1)=(ic:Int):=by rw[IntKind.wrap_i64];omega
 have Dr:=zh (hga ia hia);clear hga;have K8:=zh (hgb ib hib);clear hgb;have Wh:=zh hgc;clear hgc;have HG:=Wh;have hlen:=H.len;have hm0:=H.m0;obtain⟨w1,gh,oh,ch,rfl,mz,G9,He,Hf,hw1,fu,HB1,H1,p8,jI,HLEN,qX,qh,t0,t1,t2,x0,x1,x2,x3,x4,x5,x6,x7,Hg,Hl,Ho,Hq,Hr,Ht,Hu,Hw⟩:=iB H ho hT;have yF:=zh (fun (W:World) (hb:Below w.heap.size w W)=>H.mv.below hb);have eO:=zh (fun (W:World) (hb:Below w.heap.size w W) (j:Nat) (hj:j<m)=>dF bM M m aT f j W (H.mv.below hb) hj (by omega));clear H ho hT
 go_enter Tryz.func13,Tryz.ntmps13
 go_wp2_with fail;(try rw[hw1]);try go_wp2_with fail
 go_quiet (fail)
 obtain⟨V,hV⟩:=eX (w1.drewN nq)
 have eH:Below w1.heap.size w1 V:=Hy hV;have bW:=zh (HB1.out.trans (eH.mono HB1.out.size));have cZ:=zh (fu.out.below eH fu.out.lt);have HV:=zh (H1.out.below eH);have uq:=zh (jI.out.below eH);obtain⟨t0',t1',t2'⟩:=qh.out V bW.out;have z0:V.cell? ⟨w.heap.size,0,none⟩=some (.int .u8 o.kind):=cZ.out.cell 0;have z4:V.cell? ⟨w.heap.size,4,none⟩=some (.string o.s):=cZ.out.cell 4;have z5:V.cell? ⟨w.heap.size,5,none⟩=some (.string o.t):=cZ.out.cell 5;have z6:V.cell? ⟨w.heap.size,6,none⟩=some (.int .i8 o.n):=cZ.out.cell 6;have z7:V.cell? ⟨w.heap.size,7,none⟩=some (.int .i8 o.k):=cZ.out.cell 7;clear t0 t1 t2 x0 x1 x2 x3 x4 x5 x6 x7 eH;(try rw[hV]);go_wp2_with fail;refine (eO.out V bW.out ia aL).mono ?_;rintro e w2 ⟨rfl,hw2⟩;rw[hw2];clear hw2;rw[Dr.out];go_wp2_with fail;refine (eO.out V bW.out ib iU).mono ?_;rintro e w2 ⟨rfl,hw2⟩;rw[hw2];clear hw2;rw[K8.out];go_wp2_with fail;refine (eO.out V bW.out ic ql).mono ?_;rintro e w2 ⟨rfl,hw2⟩;rw[hw2];clear hw2;rw[Wh.out];go_wp2_with fail;obtain⟨h,hh⟩:=eX (hof hs (ia:Int))
 obtain⟨p,hp⟩:=eX (hof hs (ib:Int))
 obtain⟨V2,hV2⟩:=eX (V.drew)
 have bK:Below V.heap.size V V2:=qd hV2;have nV:=zh (bW.out.trans (bK.mono bW.out.size));have HW2:=zh (HV.out.below bK);have gH:=zh (cZ.out.below bK cZ.out.lt);have HL2:=zh (uq.out.below bK);have HG2:=zh (And.intro (HV.out.bH aL) (HV.out.bH iU));rw[hh,hp] at HG2;have gI:=zh (show AB T B M gh oh m ch w.heap.size ia h o ib p V2 from iP HW2.out.tw gH.out HLEN.out HG2.out.1 HG2.out.2);have JR:(0:Int)≤(ia:Int):=by omega
 have JU:(ia:Int)<(m:Int):=by omega
 have U8:(0:Int)≤(ib:Int):=by omega
 have U9:(ib:Int)<(m:Int):=by omega
 have HC:=zh (lX base B b s (hof hs 0) p h (hof hs ((ic:Nat):Int)) live n (Tr.raw g av) fr vs vf V2 HW2.out.tv HW2.out.so (by rw[←hp];exact HW2.out.i64 iU) (by rw[←hh];exact HW2.out.i64 aL) (HW2.out.i64 ql) (.inr (.inr (by obtain⟨e1,e2⟩:=HW2.out.lC ql HG.out;rw[e1];exact⟨by decide,Tr.bB e2⟩))));go_wp2_with fail;refine wp_region_noPanic ?_;refine wp_region_held_drew (S:=AB T B M gh oh m ch w.heap.size ia h o ib p) (by kernel_rfl) ?_ (fun ah=>?_)
 ·exact (by rw[hV2];exact gI.out)
 rw[hV2] at ah ⊢;refine bE [0,1,2,3,4,5,6,7,8,9,10,11,12,13,14,15,16,17,18,19] ?_;iterate 20 (refine dQ ?_;try simp only[pS])
 refine bF ?_;refine bI 20 fun K hK=>?_;go_simp;refine (fM T B M _ hs ((ic:Nat):Int) V2 HW2.out.tw).mono ?_;rintro e w2 ⟨rfl,hw2⟩;rw[hw2];clear hw2;refine hK.out _ _ (gI.out) fun ah=>?_;clear hK K;(try simp only[pS]);refine bI 21 fun K hK=>?_;go_simp;refine HC.out.mono ?_;rintro e w3 ⟨rfl,hb3⟩;have gJ:=zh (HW2.out.below hb3).up;have eU:=zh (gH.out.below hb3 gH.out.lt);have jm:=zh (show AB T B M gh oh m ch w.heap.size ia h o ib p w3 from iP gJ.out.tw eU.out HLEN.out HG2.out.1 HG2.out.2);clear hb3;refine hK.out _ _ (jm.out) fun ah=>?_;clear hK K;(try simp only[pS]);refine bE [22,23,24,25,26] ?_;iterate 5 (refine dQ ?_;try simp only[pS])
 refine bF ?_;refine gq ?_;go_wp2_with fail;go_ret2;exact⟨_,[],_,_,_,_,_,_,_,_,_,_,_,_,rfl,gJ.out⟩
theorem La (base bM T B M:Nat) (b s:Int) (vs vf aT vh:Value) (n live m:Nat) (fr:List Nat) (av:Int→Tr.Sl) (f:Nat→RS) (hs:List Int) (g:Tr.G) (K:Nat) (o:qM) (w:World) (H:TW w base bM T B M b s vs vf aT vh n live m fr av f hs g K) (ho:pE o) (hkd:o.kind.tmod 10=3) (ic:Nat) (ql:ic<m) (hcz:o.c.tmod ((m:Int)+1)=(ic:Int)+1) (hga:∀ i:Nat,o.a.tmod (m:Int)=(i:Int)→(f i).gone=false) (hgb:∀ i:Nat,o.b.tmod (m:Int)=(i:Int)→(f i).gone=false) (hgc:(f ic).gone=false) (hm:m≤300) (hK:K≤60) (hT:Lit w):
  uo base bM T B M b s K o w:=by
 unfold uo;obtain⟨ia,hia,aL⟩:=aS ho.a.1 H.m0;obtain⟨ib,hib,iU⟩:=aS ho.b.1 H.m0;have hic:o.c.tmod ((m:Int)+1)=(ic:Int)+1:=hcz;have Zl:(0:Int)≤(ic:Int):=by omega
 have Zm:(ic:Int)<(m:Int):=by omega
 have Zn:¬ (ic:Int)<0:=by omega
 have Zo:IntKind.i64.wrap ((ic:Int)+1 - 1)=(ic:Int):=by rw[IntKind.wrap_i64];omega
 have Dr:=zh (hga ia hia);clear hga;have K8:=zh (hgb ib hib);clear hgb;have Wh:=zh hgc;clear hgc;have HG:=Dr;have hlen:=H.len;have hm0:=H.m0;obtain⟨w1,gh,oh,ch,rfl,mz,G9,He,Hf,hw1,fu,HB1,H1,p8,jI,HLEN,qX,qh,t0,t1,t2,x0,x1,x2,x3,x4,x5,x6,x7,Hg,Hl,Ho,Hq,Hr,Ht,Hu,Hw⟩:=iB H ho hT;have yF:=zh (fun (W:World) (hb:Below w.heap.size w W)=>H.mv.below hb);have eO:=zh (fun (W:World) (hb:Below w.heap.size w W) (j:Nat) (hj:j<m)=>dF bM M m aT f j W (H.mv.below hb) hj (by omega));clear H ho hT
 go_enter Tryz.func13,Tryz.ntmps13
 go_wp2_with fail;(try rw[hw1]);try go_wp2_with fail
 go_quiet (fail)
 obtain⟨V,hV⟩:=eX (w1.drewN nq)
 have eH:Below w1.heap.size w1 V:=Hy hV;have bW:=zh (HB1.out.trans (eH.mono HB1.out.size));have cZ:=zh (fu.out.below eH fu.out.lt);have HV:=zh (H1.out.below eH);have uq:=zh (jI.out.below eH);obtain⟨t0',t1',t2'⟩:=qh.out V bW.out;have z0:V.cell? ⟨w.heap.size,0,none⟩=some (.int .u8 o.kind):=cZ.out.cell 0;have z4:V.cell? ⟨w.heap.size,4,none⟩=some (.string o.s):=cZ.out.cell 4;have z5:V.cell? ⟨w.heap.size,5,none⟩=some (.string o.t):=cZ.out.cell 5;have z6:V.cell? ⟨w.heap.size,6,none⟩=some (.int .i8 o.n):=cZ.out.cell 6;have z7:V.cell? ⟨w.heap.size,7,none⟩=some (.int .i8 o.k):=cZ.out.cell 7;clear t0 t1 t2 x0 x1 x2 x3 x4 x5 x6 x7 eH;(try rw[hV]);go_wp2_with fail;refine (eO.out V bW.out ia aL).mono ?_;rintro e w2 ⟨rfl,hw2⟩;rw[hw2];clear hw2;rw[Dr.out];go_wp2_with fail;refine (eO.out V bW.out ib iU).mono ?_;rintro e w2 ⟨rfl,hw2⟩;rw[hw2];clear hw2;rw[K8.out];go_wp2_with fail;refine (eO.out V bW.out ic ql).mono ?_;rintro e w2 ⟨rfl,hw2⟩;rw[hw2];clear hw2;rw[Wh.out];go_wp2_with fail;obtain⟨h,hh⟩:=eX (hof hs (ia:Int))
 obtain⟨p,hp⟩:=eX (hof hs (ib:Int))
 obtain⟨V2,hV2⟩:=eX (V.drew)
 have bK:Below V.heap.size V V2:=qd hV2;have nV:=zh (bW.out.trans (bK.mono bW.out.size));have HW2:=zh (HV.out.below bK);have gH:=zh (cZ.out.below bK cZ.out.lt);have HL2:=zh (uq.out.below bK);have HG2:=zh (And.intro (HV.out.bH aL) (HV.out.bH iU));rw[hh,hp] at HG2;have gI:=zh (show AB T B M gh oh m ch w.heap.size ia h o ib p V2 from iP HW2.out.tw gH.out HLEN.out HG2.out.1 HG2.out.2);have JR:(0:Int)≤(ia:Int):=by omega
 have JU:(ia:Int)<(m:Int):=by omega
 have U8:(0:Int)≤(ib:Int):=by omega
 have U9:(ib:Int)<(m:Int):=by omega
 have HC:=zh (xC HW2.out (by omega) aL Dr.out iU K8.out (c:=((ic:Nat):Int)) (.inr ⟨ic,rfl,ql,Wh.out⟩));rw[hh,hp] at HC;go_wp2_with fail;refine wp_region_noPanic ?_;refine wp_region_held_drew (S:=AB T B M gh oh m ch w.heap.size ia h o ib p) (by kernel_rfl) ?_ (fun ah=>?_)
 ·exact (by rw[hV2];exact gI.out)
 rw[hV2] at ah ⊢;refine bE [0,1,2,3,4,5,6,7,8,9,10,11,12,13,14,15,16,17,18,19] ?_;iterate 20 (refine dQ ?_;try simp only[pS])
 refine bF ?_;refine bI 20 fun K hK=>?_;go_simp;refine (fM T B M _ hs ((ic:Nat):Int) V2 HW2.out.tw).mono ?_;rintro e w2 ⟨rfl,hw2⟩;rw[hw2];clear hw2;refine hK.out _ _ (gI.out) fun ah=>?_;clear hK K;(try simp only[pS]);refine bI 21 fun K hK=>?_;go_simp;refine HC.out.mono ?_;rintro e w3 ⟨v,E,lm,rfl,hE,hlm,⟨A3,n3,c3,rfl⟩,oD,Dh,fT,hM⟩;have eU:=zh (gH.out.turns fT.1 (HW2.out.tv.aU gH.out (by decide) (by decide) (by decide)));have jm:=zh (show AB T B M gh oh m ch w.heap.size ia h o ib p w3 from iP oD eU.out HLEN.out HG2.out.1 HG2.out.2);have HM:=zh (hM w3 (Below.refl _ _));have HE:=zh (And.intro hE hlm);have hwE:IntKind.i64.wrap E=E:=by rcases hE with rfl | rfl | rfl<;>decide
 clear oD Dh fT hM hE hlm HC;refine hK.out _ _ (jm.out) fun ah=>?_;clear hK K;(try simp only[pS]);refine bE [22,23,24,25,26] ?_;iterate 5 (refine dQ ?_;try simp only[pS])
 refine bF ?_;refine gq ?_;obtain⟨c0,c1,-⟩:=jm.out;go_wp2_with fail;refine HM.out.mono ?_;rintro e w4 ⟨r,f2,g2,rfl,hr4,hrec,dO,hspec,HT⟩;obtain⟨A4,c4,rfl⟩:=aG (aH hr4);have qg:=zh (dD T B M _ _ _ _ _ hs lm w4 HT.tw hrec hr4 (by have:=HE.out.2;omega));have VD:=zh HT;clear hr4 hrec dO HT HM;go_wp2_with fail;refine qg.out.mono ?_;rintro e w5 ⟨rfl,hb5⟩;have bf:=zh (VD.out.below hb5);clear hb5;go_wp2_with fail;go_ret2;exact⟨_,[],_,_,_,_,_,_,_,_,_,_,_,_,rfl,bf.out⟩
end
end Go.Proofs.YtnbaadpgbcklaaaGreatDoor
