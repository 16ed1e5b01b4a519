/- Part of a proof about trees. -/
import Derived.BigQuiet
import Derived.Deep.RegionHeld3
import Derived.Test.YtnbaadpgbcklaaaGreatDoorS06
set_option linter.unusedVariables false
set_option linter.unusedSimpArgs false
set_option linter.unusedSectionVars false
set_option maxHeartbeats 8000000
set_option maxRecDepth 100000
namespace Go.Proofs.YtnbaadpgbcklaaaGreatDoor
section
open Go.RowKit
variable [oQ]
theorem EP (l:List (ByteArray×ByteArray)) (nm v:ByteArray):(gD l nm v).length≤l.length+1:=by
 unfold gD
 split<;>simp
theorem Ic (base bM T B M:Nat) (b s:Int) (vs vf aT vh:Value) (n live m:Nat) (fr:List Nat) (av:Int→Tr.Sl) (f:Nat→RS) (hs:List Int) (g:Tr.G) (K:Nat) (o:qM) (w:World) (H:TW w base bM T B M b s vs vf aT vh n live m fr av f hs g K) (ho:pE o) (hkd:o.kind.tmod 10=5) (hm:m≤300) (hK:K≤60) (hT:Lit w):
  uo base bM T B M b s K o w:=by
 unfold uo;obtain⟨ia,hia,aL⟩:=aS ho.a.1 H.m0;obtain⟨ib,hib,iU⟩:=aS ho.b.1 H.m0;obtain⟨ic,hic,ql⟩:=aS (m:=m+1) ho.c.1 (by omega);rw[Int.natCast_add] at hic;have hlen:=H.len;have hm0:=H.m0;obtain⟨w1,gh,oh,ch,rfl,mz,G9,He,Hf,hw1,fu,HB1,H1,p8,jI,HLEN,qX,qh,t0,t1,t2,x0,x1,x2,x3,x4,x5,x6,x7,Hg,Hl,Ho,Hq,Hr,Ht,Hu,Hw⟩:=iB H ho hT;have yF:=zh (fun (W:World) (hb:Below w.heap.size w W)=>H.mv.below hb);have eO:=zh (fun (W:World) (hb:Below w.heap.size w W) (j:Nat) (hj:j<m)=>dF bM M m aT f j W (H.mv.below hb) hj (by omega));have Qk:=zh (And.intro ho.s ho.t);clear H ho hT
 go_enter Tryz.func13,Tryz.ntmps13
 go_wp2_with fail;(try rw[hw1]);try go_wp2_with fail
 go_quiet (fail)
 obtain⟨V,hV⟩:=eX (w1.drewN nq)
 have eH:Below w1.heap.size w1 V:=Hy hV;have bW:=zh (HB1.out.trans (eH.mono HB1.out.size));have cZ:=zh (fu.out.below eH fu.out.lt);have HV:=zh (H1.out.below eH);have uq:=zh (jI.out.below eH);obtain⟨t0',t1',t2'⟩:=qh.out V bW.out;have z0:V.cell? ⟨w.heap.size,0,none⟩=some (.int .u8 o.kind):=cZ.out.cell 0;have z4:V.cell? ⟨w.heap.size,4,none⟩=some (.string o.s):=cZ.out.cell 4;have z5:V.cell? ⟨w.heap.size,5,none⟩=some (.string o.t):=cZ.out.cell 5;have z6:V.cell? ⟨w.heap.size,6,none⟩=some (.int .i8 o.n):=cZ.out.cell 6;have z7:V.cell? ⟨w.heap.size,7,none⟩=some (.int .i8 o.k):=cZ.out.cell 7;clear t0 t1 t2 x0 x1 x2 x3 x4 x5 x6 x7 eH;(try rw[hV]);go_wp2_with fail;refine (eO.out V bW.out ia aL).mono ?_;rintro e w2 ⟨rfl,hw2⟩;rw[hw2];clear eO hw2;go_wp2_with fail;obtain⟨h,hh⟩:=eX (hof hs (ia:Int))
 obtain⟨V2,hV2⟩:=eX (V.drew)
 have bK:Below V.heap.size V V2:=qd hV2;have nV:=zh (bW.out.trans (bK.mono bW.out.size));have HW2:=zh (HV.out.below bK);have gH:=zh (cZ.out.below bK cZ.out.lt);have HL2:=zh (uq.out.below bK);have gI:=zh (show jl T B M gh oh m ch w.heap.size ia h o V2 from bq HW2.out.tw gH.out HLEN.out (by rw[←hh];exact HV.out.bH aL));have JR:(0:Int)≤(ia:Int):=by omega
 have JU:(ia:Int)<(m:Int):=by omega
 have P9:=zh HW2.out.kinds;obtain⟨zs,zt⟩:=And.intro p8.out.s p8.out.t;cases hg:(f ia).gone with
 | true=>
  obtain⟨e1,e2⟩:=HW2.out.lC aL hg;have Td:fC g h=6:=by unfold fC;rw[←hh,e1,e2]
  have HC:=zh (yY base B b s (hof hs 0) h live n g av fr vs vf o.s o.t V2 HW2.out.tv HW2.out.so (by rw[←hh];exact HW2.out.i64 aL) P9.out (by rw[Td];decide));rw[Td] at HC;clear e1 e2 Td;refine wp_region_noPanic ?_;refine wp_region_held_drew (S:=jl T B M gh oh m ch w.heap.size ia h o) (by kernel_rfl) ?_ (fun ah=>?_)
  ·exact (by rw[hV2];exact gI.out)
  rw[hV2] at ah ⊢;refine bE [0,1,2,3,4,5,6,7,8,9,10,11,12,13,14] ?_;iterate 15 (refine dQ ?_;try simp only[pS])
  refine bF ?_;refine bI 15 fun K hK=>?_;go_simp;refine HC.out.mono ?_;rintro e w3 ⟨rfl,hb3⟩;have gJ:=zh (HW2.out.below hb3).up;have eU:=zh (gH.out.below hb3 gH.out.lt);have jm:=zh (show jl T B M gh oh m ch w.heap.size ia h o w3 from bq gJ.out.tw eU.out HLEN.out (by rw[←hh];exact HV.out.bH aL));clear hb3;refine hK.out _ _ (jm.out) fun ah=>?_;clear hK K;(try simp only[pS]);refine bE [16,17,18,19,20] ?_;iterate 5 (refine dQ ?_;try simp only[pS])
  refine bF ?_;refine gq ?_;go_wp2_with fail;go_ret2;exact⟨_,[],_,_,_,_,_,_,_,_,_,_,_,_,rfl,gJ.out⟩
 | false=>
  have eg:g h=some (Tr.dV (hof hs) (jD (f ia))):=by rw[←hh];exact HW2.out.cK aL hg
  have Ie:lQ h:=by rw[←hh];exact HW2.out.i64 aL
  by_cases hk2:(f ia).kind=2
  ·have he0:fC g h=0:=by unfold fC;rw[eg];exact if_pos hk2
   have EG:=zh eg;have EC:=zh hk2;have HE0:=zh he0;have hal:=(HW2.out.bd ia aL).1;clear hk2 eg he0;cases hnm:Nm.attr o.s with
   | false=>
    have Nb:=zh hnm;clear hnm;have HC:=zh (Ig base B b s (hof hs 0) h live n g av fr vs vf o.s o.t V2 HW2.out.tv HW2.out.so Ie P9.out HE0.out (by omega) HL2.out Nb.out);refine wp_region_noPanic ?_;refine wp_region_held_drew (S:=jl T B M gh oh m ch w.heap.size ia h o) (by kernel_rfl) ?_ (fun ah=>?_)
    ·exact (by rw[hV2];exact gI.out)
    rw[hV2] at ah ⊢;refine bE [0,1,2,3,4,5,6,7,8,9,10,11,12,13,14] ?_;iterate 15 (refine dQ ?_;try simp only[pS])
    refine bF ?_;refine bI 15 fun K hK=>?_;go_simp;refine HC.out.mono ?_;rintro e w3 ⟨rfl,hb3⟩;have gJ:=zh (HW2.out.below hb3).up;have eU:=zh (gH.out.below hb3 gH.out.lt);have jm:=zh (show jl T B M gh oh m ch w.heap.size ia h o w3 from bq gJ.out.tw eU.out HLEN.out (by rw[←hh];exact HV.out.bH aL));clear hb3;refine hK.out _ _ (jm.out) fun ah=>?_;clear hK K;(try simp only[pS]);refine bE [16,17,18,19,20] ?_;iterate 5 (refine dQ ?_;try simp only[pS])
    refine bF ?_;refine gq ?_;go_wp2_with fail;obtain⟨V3,jJ⟩:=eX (w3.drew)
    have bN:Below w3.heap.size w3 V3:=qd jJ;have oH:=zh (gJ.out.below bN);have gL:=zh (eU.out.below bN eU.out.lt);have nT:=zh (show jl T B M gh oh m ch w.heap.size ia h o V3 from bq oH.out.tw gL.out HLEN.out (by rw[←hh];exact HV.out.bH aL));have HR:=zh (Ih bM M m aT f ia o.s o.t V3 oH.out.mv aL EC.out (by omega) Nb.out)
    skip
    refine wp_region_noPanic ?_;refine wp_region_held_drew (S:=jl T B M gh oh m ch w.heap.size ia h o) (by kernel_rfl) ?_ (fun ah=>?_)
    ·exact (by rw[jJ];exact nT.out)
    rw[jJ] at ah ⊢;refine bE [0,1,2,3,4,5,6,7,8] ?_;iterate 9 (refine dQ ?_;try simp only[pS])
    refine bF ?_;refine bI 9 fun K hK=>?_;go_simp;refine HR.out.mono ?_;rintro e w4 ⟨rfl,hb4⟩;have Te:=zh (oH.out.below hb4);have wI:=zh (gL.out.below hb4 gL.out.lt);have ER:=zh (show jl T B M gh oh m ch w.heap.size ia h o w4 from bq Te.out.tw wI.out HLEN.out (by rw[←hh];exact HV.out.bH aL));have qg:=zh (dD T B M 0 0 _ (.slice none 0 0) (.slice none 0 0) hs [] w4 Te.out.tw (World.ownsRow_nil _ _ _ _) (World.ownsRow_nil _ _ _ _) (by simp));clear hb4;refine hK.out _ _ (ER.out) fun ah=>?_;clear hK K;(try simp only[pS]);refine bE [10,11,12,13,14] ?_;iterate 5 (refine dQ ?_;try simp only[pS])
    refine bF ?_;refine gq ?_;go_wp2_with fail;refine qg.out.mono ?_;rintro e w5 ⟨rfl,hb5⟩;have bf:=zh (Te.out.below hb5);clear hb5;go_wp2_with fail;go_ret2;exact⟨_,[],_,_,_,_,_,_,_,_,_,_,_,_,rfl,bf.out⟩
   | true=>
   have Nb:=zh hnm;clear hnm;by_cases hat:oV (f ia).at' o.s<(f ia).at'.length
   ·have HAT:=zh hat;clear hat;have HC:=zh (Ii base B b s (hof hs 0) h live n g av fr vs vf _ o.s o.t V2 HW2.out.tv HW2.out.so HW2.out.at' P9.out EG.out EC.out (by show (f ia).at'.length≤63;omega) (by omega) (by omega) HL2.out Nb.out HAT.out);rw[pF EG.out (U2:=fun n=>{ n with attrs:=gD (f ia).at' o.s (aX o.t) }) rfl] at HC;refine wp_region_noPanic ?_;refine wp_region_held_drew (S:=jl T B M gh oh m ch w.heap.size ia h o) (by kernel_rfl) ?_ (fun ah=>?_)
    ·exact (by rw[hV2];exact gI.out)
    rw[hV2] at ah ⊢;refine bE [0,1,2,3,4,5,6,7,8,9,10,11,12,13,14] ?_;iterate 15 (refine dQ ?_;try simp only[pS])
    refine bF ?_;refine bI 15 fun K hK=>?_;go_simp;refine HC.out.mono ?_;rintro e w3 ⟨v3,V6,rfl,hr3,hv3,hs3,pz,fT⟩;obtain⟨a1,a2,-,-,-⟩:=HW2.out.after fT;have eU:=zh (gH.out.turns fT.1 (HW2.out.tv.aU gH.out (by decide) (by decide) (by decide)));have jm:=zh (show jl T B M gh oh m ch w.heap.size ia h o w3 from bq a1 eU.out HLEN.out (by rw[←hh];exact HV.out.bH aL));have HT3:=zh (And.intro a1 a2);have ug:=zh (And.intro hv3 (And.intro hs3 (And.intro pz fT)));have HR3:=zh hr3;obtain⟨A3,c3,rfl⟩:=aG (aH hr3);clear a1 a2 hv3 hs3 pz fT hr3;refine hK.out _ _ (jm.out) fun ah=>?_;clear hK K;(try simp only[pS]);refine bE [16,17,18,19,20] ?_;iterate 5 (refine dQ ?_;try simp only[pS])
    refine bF ?_;refine gq ?_;go_wp2_with fail;obtain⟨V3,jJ⟩:=eX (w3.drew)
    have bN:Below w3.heap.size w3 V3:=qd jJ;have gL:=zh (eU.out.below bN eU.out.lt);have J3:=zh (HT3.out.2.below bN);have Dm:=zh (HT3.out.1.below bN);have BQ:=zh (show bG V2.heap.size V3 _ _ from bX (S:=fun _=>False) HR3.out (.of_below bN) (fun _ _=>id));have HV5:=zh (And.intro (ug.out.1.below bN) (And.intro ug.out.2.1 (And.intro (ug.out.2.2.1.below bN) (ug.out.2.2.2.trans (.of_below bN)))));have nT:=zh (show jl T B M gh oh m ch w.heap.size ia h o V3 from bq Dm.out gL.out HLEN.out (by rw[←hh];exact HV.out.bH aL));have HR:=zh (Ij bM M m aT f ia o.s o.t V3 J3.out aL (by omega) EC.out (by omega) (by omega) (by omega) Nb.out HAT.out);refine wp_region_noPanic ?_;refine wp_region_held_drew (S:=jl T B M gh oh m ch w.heap.size ia h o) (by kernel_rfl) ?_ (fun ah=>?_)
    ·exact (by rw[jJ];exact nT.out)
    rw[jJ] at ah ⊢;refine bE [0,1,2,3,4,5,6,7,8] ?_;iterate 9 (refine dQ ?_;try simp only[pS])
    refine bF ?_;refine bI 9 fun K hK=>?_;go_simp;refine HR.out.mono ?_;rintro e w4 ⟨v4,Na,rfl,hr4,nA,dO⟩;have gJ:=zh (HW2.out.put (iL:=Tr.eT av h V6) (u:=fun n=>{ n with a:=Na,at':=gD (f ia).at' o.s (aX o.t) }) (U:=fun n=>{ n with attrs:=gD (f ia).at' o.s (aX o.t) }) aL hg (fun _=>⟨rfl,rfl⟩) (fun _=>rfl) (fun _=>⟨rfl,rfl⟩) (fun _=>rfl) (by rw[hh];exact HV5.out.1) (by rw[hh];exact HV5.out.2.1) (by rw[hh];exact HV5.out.2.2.1) HV5.out.2.2.2 nA dO (by have h1:=HW2.out.bd ia aL;have h2:=EP (f ia).at' o.s (aX o.t);exact⟨by show (gD (f ia).at' o.s (aX o.t)).length≤_;omega,by show (f ia).data.size≤_;omega,h1.2.2⟩) ((HW2.out.ok.2 ia aL).set EC.out Nb.out (by have:=Qk.out.1;omega) (jU (by have:=Qk.out.2;omega)) Na));have vX:=zh (gL.out.turns dO.1 (J3.out.aU gL.out (by decide) (by decide) (by decide) (by decide)));have vY:=zh (show jl T B M gh oh m ch w.heap.size ia h o w4 from bq gJ.out.tw vX.out HLEN.out (by rw[←hh];exact HV.out.bH aL));have hrc:[fK ia o.s (lD (f ia).at' o.s) (uP (f ia).at' o.s)].map (rG (hof hs))=[jH h o.s (lD (f ia).at' o.s) (uP (f ia).at' o.s)]:=by rw[←hh];simp[rG,fK,jH,mq]
    have qg:=zh (dD T B M V2.heap.size V3.heap.size _ _ v4 hs [fK ia o.s (lD (f ia).at' o.s) (uP (f ia).at' o.s)] w4 gJ.out.tw (by rw[hrc];exact bX BQ.out dO.1 (fun k hk hm=>by have h1:=(BQ.out.lt k hk).1;have h2:=(HW2.out.mv.lt k hm).2;omega)) hr4 (by simp));obtain⟨A4,c4,rfl⟩:=aG (aH hr4);clear hr4 nA dO hrc;refine hK.out _ _ (vY.out) fun ah=>?_;clear hK K;(try simp only[pS]);refine bE [10,11,12,13,14] ?_;iterate 5 (refine dQ ?_;try simp only[pS])
    refine bF ?_;refine gq ?_;go_wp2_with fail;refine qg.out.mono ?_;rintro e w5 ⟨rfl,hb5⟩;have bf:=zh (gJ.out.below hb5);clear hb5;go_wp2_with fail;go_ret2;exact⟨_,[],_,_,_,_,_,_,_,_,_,_,_,_,rfl,bf.out⟩
   ·have HAT:=zh hat;clear hat;have HC:=zh (Ik base B b s (hof hs 0) h live n g av fr vs vf _ o.s o.t V2 HW2.out.tv HW2.out.so HW2.out.at' P9.out EG.out EC.out (by show (f ia).at'.length≤63;omega) (by omega) (by omega) HL2.out Nb.out HAT.out);rw[pF EG.out (U2:=fun n=>{ n with attrs:=gD (f ia).at' o.s (aX o.t) }) rfl] at HC;refine wp_region_noPanic ?_;refine wp_region_held_drew (S:=jl T B M gh oh m ch w.heap.size ia h o) (by kernel_rfl) ?_ (fun ah=>?_)
    ·exact (by rw[hV2];exact gI.out)
    rw[hV2] at ah ⊢;refine bE [0,1,2,3,4,5,6,7,8,9,10,11,12,13,14] ?_;iterate 15 (refine dQ ?_;try simp only[pS])
    refine bF ?_;refine bI 15 fun K hK=>?_;go_simp;refine HC.out.mono ?_;rintro e w3 ⟨v3,V6,rfl,hr3,hv3,hs3,pz,fT⟩;obtain⟨a1,a2,-,-,-⟩:=HW2.out.after fT;have eU:=zh (gH.out.turns fT.1 (HW2.out.tv.aU gH.out (by decide) (by decide) (by decide)));have jm:=zh (show jl T B M gh oh m ch w.heap.size ia h o w3 from bq a1 eU.out HLEN.out (by rw[←hh];exact HV.out.bH aL));have HT3:=zh (And.intro a1 a2);have ug:=zh (And.intro hv3 (And.intro hs3 (And.intro pz fT)));have HR3:=zh hr3;obtain⟨A3,c3,rfl⟩:=aG (aH hr3);clear a1 a2 hv3 hs3 pz fT hr3;refine hK.out _ _ (jm.out) fun ah=>?_;clear hK K;(try simp only[pS]);refine bE [16,17,18,19,20] ?_;iterate 5 (refine dQ ?_;try simp only[pS])
    refine bF ?_;refine gq ?_;go_wp2_with fail;obtain⟨V3,jJ⟩:=eX (w3.drew)
    have bN:Below w3.heap.size w3 V3:=qd jJ;have gL:=zh (eU.out.below bN eU.out.lt);have J3:=zh (HT3.out.2.below bN);have Dm:=zh (HT3.out.1.below bN);have BQ:=zh (show bG V2.heap.size V3 _ _ from bX (S:=fun _=>False) HR3.out (.of_below bN) (fun _ _=>id));have HV5:=zh (And.intro (ug.out.1.below bN) (And.intro ug.out.2.1 (And.intro (ug.out.2.2.1.below bN) (ug.out.2.2.2.trans (.of_below bN)))));have nT:=zh (show jl T B M gh oh m ch w.heap.size ia h o V3 from bq Dm.out gL.out HLEN.out (by rw[←hh];exact HV.out.bH aL));have HR:=zh (Il bM M m aT f ia o.s o.t V3 J3.out aL (by omega) EC.out (by omega) (by omega) (by omega) Nb.out HAT.out);refine wp_region_noPanic ?_;refine wp_region_held_drew (S:=jl T B M gh oh m ch w.heap.size ia h o) (by kernel_rfl) ?_ (fun ah=>?_)
    ·exact (by rw[jJ];exact nT.out)
    rw[jJ] at ah ⊢;refine bE [0,1,2,3,4,5,6,7,8] ?_;iterate 9 (refine dQ ?_;try simp only[pS])
    refine bF ?_;refine bI 9 fun K hK=>?_;go_simp;refine HR.out.mono ?_;rintro e w4 ⟨v4,Na,rfl,hr4,nA,dO⟩;have gJ:=zh (HW2.out.put (iL:=Tr.eT av h V6) (u:=fun n=>{ n with a:=Na,at':=gD (f ia).at' o.s (aX o.t) }) (U:=fun n=>{ n with attrs:=gD (f ia).at' o.s (aX o.t) }) aL hg (fun _=>⟨rfl,rfl⟩) (fun _=>rfl) (fun _=>⟨rfl,rfl⟩) (fun _=>rfl) (by rw[hh];exact HV5.out.1) (by rw[hh];exact HV5.out.2.1) (by rw[hh];exact HV5.out.2.2.1) HV5.out.2.2.2 nA dO (by have h1:=HW2.out.bd ia aL;have h2:=EP (f ia).at' o.s (aX o.t);exact⟨by show (gD (f ia).at' o.s (aX o.t)).length≤_;omega,by show (f ia).data.size≤_;omega,h1.2.2⟩) ((HW2.out.ok.2 ia aL).set EC.out Nb.out (by have:=Qk.out.1;omega) (jU (by have:=Qk.out.2;omega)) Na));have vX:=zh (gL.out.turns dO.1 (J3.out.aU gL.out (by decide) (by decide) (by decide) (by decide)));have vY:=zh (show jl T B M gh oh m ch w.heap.size ia h o w4 from bq gJ.out.tw vX.out HLEN.out (by rw[←hh];exact HV.out.bH aL));have hrc:[fK ia o.s (lD (f ia).at' o.s) (uP (f ia).at' o.s)].map (rG (hof hs))=[jH h o.s (lD (f ia).at' o.s) (uP (f ia).at' o.s)]:=by rw[←hh];simp[rG,fK,jH,mq]
    have qg:=zh (dD T B M V2.heap.size V3.heap.size _ _ v4 hs [fK ia o.s (lD (f ia).at' o.s) (uP (f ia).at' o.s)] w4 gJ.out.tw (by rw[hrc];exact bX BQ.out dO.1 (fun k hk hm=>by have h1:=(BQ.out.lt k hk).1;have h2:=(HW2.out.mv.lt k hm).2;omega)) hr4 (by simp));obtain⟨A4,c4,rfl⟩:=aG (aH hr4);clear hr4 nA dO hrc;refine hK.out _ _ (vY.out) fun ah=>?_;clear hK K;(try simp only[pS]);refine bE [10,11,12,13,14] ?_;iterate 5 (refine dQ ?_;try simp only[pS])
    refine bF ?_;refine gq ?_;go_wp2_with fail;refine qg.out.mono ?_;rintro e w5 ⟨rfl,hb5⟩;have bf:=zh (gJ.out.below hb5);clear hb5;go_wp2_with fail;go_ret2;exact⟨_,[],_,_,_,_,_,_,_,_,_,_,_,_,rfl,bf.out⟩
  ·have Io:fC g h=10:=by unfold fC;rw[eg];exact if_neg hk2
   have HC:=zh (yY base B b s (hof hs 0) h live n g av fr vs vf o.s o.t V2 HW2.out.tv HW2.out.so Ie P9.out (by rw[Io];decide));rw[Io] at HC;have EC:=zh hk2;clear eg Io hk2;refine wp_region_noPanic ?_;refine wp_region_held_drew (S:=jl T B M gh oh m ch w.heap.size ia h o) (by kernel_rfl) ?_ (fun ah=>?_)
   ·exact (by rw[hV2];exact gI.out)
   rw[hV2] at ah ⊢;refine bE [0,1,2,3,4,5,6,7,8,9,10,11,12,13,14] ?_;iterate 15 (refine dQ ?_;try simp only[pS])
   refine bF ?_;refine bI 15 fun K hK=>?_;go_simp;refine HC.out.mono ?_;rintro e w3 ⟨rfl,hb3⟩;have gJ:=zh (HW2.out.below hb3).up;have eU:=zh (gH.out.below hb3 gH.out.lt);have jm:=zh (show jl T B M gh oh m ch w.heap.size ia h o w3 from bq gJ.out.tw eU.out HLEN.out (by rw[←hh];exact HV.out.bH aL));clear hb3;refine hK.out _ _ (jm.out) fun ah=>?_;clear hK K;(try simp only[pS]);refine bE [16,17,18,19,20] ?_;iterate 5 (refine dQ ?_;try simp only[pS])
   refine bF ?_;refine gq ?_;go_wp2_with fail;obtain⟨V3,jJ⟩:=eX (w3.drew)
   have bN:Below w3.heap.size w3 V3:=qd jJ;have oH:=zh (gJ.out.below bN);have gL:=zh (eU.out.below bN eU.out.lt);have nT:=zh (show jl T B M gh oh m ch w.heap.size ia h o V3 from bq oH.out.tw gL.out HLEN.out (by rw[←hh];exact HV.out.bH aL));have HR:=zh (Ip bM M m aT f ia o.s o.t V3 oH.out.mv aL EC.out);have qg:=zh (dD T B M 0 0 _ (.slice none 0 0) (.slice none 0 0) hs [] V3 oH.out.tw (World.ownsRow_nil _ _ _ _) (World.ownsRow_nil _ _ _ _) (by simp));refine wp_region_noPanic ?_;refine wp_region_held_drew (S:=jl T B M gh oh m ch w.heap.size ia h o) (by kernel_rfl) ?_ (fun ah=>?_)
   ·exact (by rw[jJ];exact nT.out)
   rw[jJ] at ah ⊢;refine bE [0,1,2,3,4,5,6,7,8] ?_;iterate 9 (refine dQ ?_;try simp only[pS])
   refine bF ?_;refine bI 9 fun K hK=>?_;go_simp;refine HR.out.mono ?_;rintro e w4 ⟨rfl,hw4⟩;rw[hw4];clear hw4;refine hK.out _ _ (nT.out) fun ah=>?_;clear hK K;(try simp only[pS]);refine bE [10,11,12,13,14] ?_;iterate 5 (refine dQ ?_;try simp only[pS])
   refine bF ?_;refine gq ?_;go_wp2_with fail;refine qg.out.mono ?_;rintro e w5 ⟨rfl,hb5⟩;have bf:=zh (oH.out.below hb5);clear hb5;go_wp2_with fail;go_ret2;exact⟨_,[],_,_,_,_,_,_,_,_,_,_,_,_,rfl,bf.out⟩
end
end Go.Proofs.YtnbaadpgbcklaaaGreatDoor
