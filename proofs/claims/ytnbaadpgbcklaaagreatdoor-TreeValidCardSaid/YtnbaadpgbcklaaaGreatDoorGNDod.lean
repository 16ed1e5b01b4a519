/- Part of a proof about trees. -/
import Derived.BigQuiet
import Derived.Deep.RegionHeld3
import Derived.Test.YtnbaadpgbcklaaaGreatDoorGNDoc
import Derived.Test.YtnbaadpgbcklaaaGreatDoorGNRrp
set_option linter.unusedVariables false
set_option linter.unusedSimpArgs false
set_option linter.unusedSectionVars false
set_option maxHeartbeats 8000000
set_option maxRecDepth 100000
namespace Go.Proofs.YtnbaadpgbcklaaaGreatDoor
section
open Go.RowKit
variable [oQ]
theorem ES {hs:List Int} {i:Nat} {ix:Int} {old:ByteArray} {c sz:Int}:[pG i ix old c sz].map (rG (hof hs))=[sK (hof hs (i:Int)) ix old c sz]:=by simp[rG,pG,sK,mq]
theorem BR (d:ByteArray) (i c:Nat) (s:ByteArray):(jo d i c s).data.toList=((iM d).take i++iM s++(iM d).drop (i+c)).flatten:=by
 unfold jo;rw[BS,List.flatten_append,List.flatten_append];rfl
theorem ET (d:ByteArray) (i c:Nat) (s:ByteArray):bD.rep (jo d i c s).data.toList=(jo d i c s).data.toList:=by
 have hg:∀ x∈(iM d).take i++iM s++(iM d).drop (i+c),bD.Good x:=fun x hx=>by
  rcases List.mem_append.1 hx with h | h
  ·rcases List.mem_append.1 h with h | h
   ·exact bD.bZ _ x (List.mem_of_mem_take h)
   ·exact bD.bZ _ x h
  ·exact bD.bZ _ x (List.mem_of_mem_drop h)
 rw[BR];have:=bD.xA hg [];rw[List.append_nil,bD.iX,List.append_nil] at this;unfold bD.rep;rw[this]
theorem BU {d:ByteArray} {i c:Nat} {s:ByteArray} (hd:bD.rep d.data.toList=d.data.toList):(jo d i c s).size≤d.size+(aX s).size:=by
 have h1:(jo d i c s).size=(jo d i c s).data.toList.length:=rfl;have h2:(aX s).size=(iM s).flatten.length:=rfl;have h3:d.size=(iM d).flatten.length:=by have:=sM hd;rw[←this];rfl
 have h4:(iM d).flatten.length=((iM d).take i).flatten.length+((iM d).drop i).flatten.length:=by rw[←List.length_append,←List.flatten_append,List.take_append_drop]
 have h5:((iM d).drop i).flatten.length=(((iM d).drop i).take c).flatten.length+(((iM d).drop i).drop c).flatten.length:=by rw[←List.length_append,←List.flatten_append,List.take_append_drop]
 rw[List.drop_drop] at h5;rw[h1,BR,List.flatten_append,List.flatten_append,List.length_append,List.length_append,h2,h3];omega
theorem Iq (base bM T B M:Nat) (b s:Int) (vs vf aT vh:Value) (n live m:Nat) (fr:List Nat) (av:Int→Tr.Sl) (f:Nat→RS) (hs:List Int) (g:Tr.G) (K:Nat) (o:qM) (w:World) (H:TW w base bM T B M b s vs vf aT vh n live m fr av f hs g K) (ho:pE o) (hkd:o.kind.tmod 10=7) (hm:m≤300) (hK:K≤60) (hT:Lit w):
  uo base bM T B M b s K o w:=by
 unfold uo;obtain⟨ia,hia,aL⟩:=aS ho.a.1 H.m0;obtain⟨ib,hib,iU⟩:=aS ho.b.1 H.m0;obtain⟨ic,hic,ql⟩:=aS (m:=m+1) ho.c.1 (by omega);rw[Int.natCast_add] at hic;have hlen:=H.len;have hm0:=H.m0;obtain⟨w1,gh,oh,ch,rfl,mz,G9,He,Hf,hw1,fu,HB1,H1,p8,jI,HLEN,qX,qh,t0,t1,t2,x0,x1,x2,x3,x4,x5,x6,x7,Hg,Hl,Ho,Hq,Hr,Ht,Hu,Hw⟩:=iB H ho hT;have yF:=zh (fun (W:World) (hb:Below w.heap.size w W)=>H.mv.below hb);have eO:=zh (fun (W:World) (hb:Below w.heap.size w W) (j:Nat) (hj:j<m)=>dF bM M m aT f j W (H.mv.below hb) hj (by omega));clear H ho hT
 go_enter Tryz.func13,Tryz.ntmps13
 go_wp2_with fail;(try rw[hw1]);try go_wp2_with fail
 go_quiet (fail)
 obtain⟨V,hV⟩:=eX (w1.drewN nq)
 have eH:Below w1.heap.size w1 V:=Hy hV;have bW:=zh (HB1.out.trans (eH.mono HB1.out.size));have cZ:=zh (fu.out.below eH fu.out.lt);have HV:=zh (H1.out.below eH);have uq:=zh (jI.out.below eH);obtain⟨t0',t1',t2'⟩:=qh.out V bW.out;have z0:V.cell? ⟨w.heap.size,0,none⟩=some (.int .u8 o.kind):=cZ.out.cell 0;have z4:V.cell? ⟨w.heap.size,4,none⟩=some (.string o.s):=cZ.out.cell 4;have z5:V.cell? ⟨w.heap.size,5,none⟩=some (.string o.t):=cZ.out.cell 5;have z6:V.cell? ⟨w.heap.size,6,none⟩=some (.int .i8 o.n):=cZ.out.cell 6;have z7:V.cell? ⟨w.heap.size,7,none⟩=some (.int .i8 o.k):=cZ.out.cell 7;clear t0 t1 t2 x0 x1 x2 x3 x4 x5 x6 x7 eH;(try rw[hV]);go_wp2_with fail;refine (eO.out V bW.out ia aL).mono ?_;rintro e w2 ⟨rfl,hw2⟩;rw[hw2];clear eO hw2;go_wp2_with fail;obtain⟨h,hh⟩:=eX (hof hs (ia:Int))
 obtain⟨V2,hV2⟩:=eX (V.drew)
 have bK:Below V.heap.size V V2:=qd hV2;have nV:=zh (bW.out.trans (bK.mono bW.out.size));have HW2:=zh (HV.out.below bK);have gH:=zh (cZ.out.below bK cZ.out.lt);have HL2:=zh (uq.out.below bK);have gI:=zh (show jl T B M gh oh m ch w.heap.size ia h o V2 from bq HW2.out.tw gH.out HLEN.out (by rw[←hh];exact HV.out.bH aL));have JR:(0:Int)≤(ia:Int):=by omega
 have JU:(ia:Int)<(m:Int):=by omega
 obtain⟨zt,zn,zk⟩:=And.intro p8.out.t (And.intro p8.out.n p8.out.k);obtain⟨zn0,zn1⟩:=zn;obtain⟨zk0,zk1⟩:=zk;have wrn:IntKind.i64.wrap o.n=o.n:=by rw[IntKind.wrap_i64];omega
 have wrk:IntKind.i64.wrap o.k=o.k:=by rw[IntKind.wrap_i64];omega
 cases hg:(f ia).gone with
 | true=>
  obtain⟨e1,e2⟩:=HW2.out.lC aL hg;have HC:=zh (qm base B b s (hof hs 0) h o.n o.k 6 live n (Tr.raw g av) fr vs vf Tr.yD o.t V2 HW2.out.tv HW2.out.so (by rw[←hh];exact HW2.out.i64 aL) (by rw[←hh,e1,Tr.bB e2];rfl) (by decide) rfl (by decide));clear e1 e2;refine wp_region_noPanic ?_;refine wp_region_held_drew (S:=jl T B M gh oh m ch w.heap.size ia h o) (by kernel_rfl) ?_ (fun ah=>?_)
  ·exact (by rw[hV2];exact gI.out)
  rw[hV2] at ah ⊢;refine bE [0,1,2,3,4,5,6,7,8,9,10,11,12,13,14,15,16,17,18] ?_;iterate 19 (refine dQ ?_;try simp only[pS])
  refine bF ?_;refine bI 19 fun K hK=>?_;go_simp;refine HC.out.mono ?_;rintro e w3 ⟨rfl,hb3⟩;have gJ:=zh (HW2.out.below hb3).up;have eU:=zh (gH.out.below hb3 gH.out.lt);have jm:=zh (show jl T B M gh oh m ch w.heap.size ia h o w3 from bq gJ.out.tw eU.out HLEN.out (by rw[←hh];exact HV.out.bH aL));clear hb3;refine hK.out _ _ (jm.out) fun ah=>?_;clear hK K;(try simp only[pS]);refine bE [20,21,22,23,24] ?_;iterate 5 (refine dQ ?_;try simp only[pS])
  refine bF ?_;refine gq ?_;go_wp2_with fail;go_ret2;exact⟨_,[],_,_,_,_,_,_,_,_,_,_,_,_,rfl,gJ.out⟩
 | false=>
  have eg:g h=some (Tr.dV (hof hs) (jD (f ia))):=by rw[←hh];exact HW2.out.cK aL hg
  have Ie:lQ h:=by rw[←hh];exact HW2.out.i64 aL
  have hrd:(Tr.raw g av h).getD Tr.yD=Tr.bU g av h (Tr.dV (hof hs) (jD (f ia))):=by rw[Tr.aj eg];rfl
  have yZ:=zh (HW2.out.bd ia aL);have hb2:=yZ.out.2.1;have EU:=yZ.out.1;have V7:(aX o.t).size≤120:=by
   have h1:=bD.mP o.t.data.toList;have h2:(aX o.t).size=(bD.rep o.t.data.toList).length:=jV _;have h3:o.t.data.toList.length=o.t.size:=rfl;omega
  have hkk:(f ia).kind≠0:=HW2.out.kinds h _ eg;by_cases hk3:(f ia).kind<3
  ·have hkr:1≤(f ia).kind:=by
    by_cases h0:ia=0
    ·rw[h0,HW2.out.km.1];decide
    ·rcases HW2.out.km.2 ia aL h0 with e | e | e<;>omega
   have HC:=zh (qm base B b s (hof hs 0) h o.n o.k 10 live n (Tr.raw g av) fr vs vf _ o.t V2 HW2.out.tv HW2.out.so Ie hrd (by show (f ia).data.size≤10000;omega) (by show BX (f ia).kind _ _ _=10;unfold BX;rw[if_neg hkk,if_pos (by omega)]) (by decide));have HK:=zh hk3;clear eg hk3 hkr hrd hkk;refine wp_region_noPanic ?_;refine wp_region_held_drew (S:=jl T B M gh oh m ch w.heap.size ia h o) (by kernel_rfl) ?_ (fun ah=>?_)
   ·exact (by rw[hV2];exact gI.out)
   rw[hV2] at ah ⊢;refine bE [0,1,2,3,4,5,6,7,8,9,10,11,12,13,14,15,16,17,18] ?_;iterate 19 (refine dQ ?_;try simp only[pS])
   refine bF ?_;refine bI 19 fun K hK=>?_;go_simp;refine HC.out.mono ?_;rintro e w3 ⟨rfl,hb3⟩;have gJ:=zh (HW2.out.below hb3).up;have eU:=zh (gH.out.below hb3 gH.out.lt);have jm:=zh (show jl T B M gh oh m ch w.heap.size ia h o w3 from bq gJ.out.tw eU.out HLEN.out (by rw[←hh];exact HV.out.bH aL));clear hb3;refine hK.out _ _ (jm.out) fun ah=>?_;clear hK K;(try simp only[pS]);refine bE [20,21,22,23,24] ?_;iterate 5 (refine dQ ?_;try simp only[pS])
   refine bF ?_;refine gq ?_;go_wp2_with fail;obtain⟨V3,jJ⟩:=eX (w3.drew)
   have bN:Below w3.heap.size w3 V3:=qd jJ;have oH:=zh (gJ.out.below bN);have gL:=zh (eU.out.below bN eU.out.lt);have nT:=zh (show jl T B M gh oh m ch w.heap.size ia h o V3 from bq oH.out.tw gL.out HLEN.out (by rw[←hh];exact HV.out.bH aL));have HR:=zh (Dn bM M m aT f ia o.n o.k o.t V3 oH.out.mv aL HK.out);have qg:=zh (dD T B M 0 0 _ (.slice none 0 0) (.slice none 0 0) hs [] V3 oH.out.tw (World.ownsRow_nil _ _ _ _) (World.ownsRow_nil _ _ _ _) (by simp));refine wp_region_noPanic ?_;refine wp_region_held_drew (S:=jl T B M gh oh m ch w.heap.size ia h o) (by kernel_rfl) ?_ (fun ah=>?_)
   ·exact (by rw[jJ];exact nT.out)
   rw[jJ] at ah ⊢;refine bE [0,1,2,3,4,5,6,7,8,9,10,11,12] ?_;iterate 13 (refine dQ ?_;try simp only[pS])
   refine bF ?_;refine bI 13 fun K hK=>?_;go_simp;refine HR.out.mono ?_;rintro e w4 ⟨rfl,hw4⟩;rw[hw4];clear hw4;refine hK.out _ _ (nT.out) fun ah=>?_;clear hK K;(try simp only[pS]);refine bE [14,15,16,17,18] ?_;iterate 5 (refine dQ ?_;try simp only[pS])
   refine bF ?_;refine gq ?_;go_wp2_with fail;refine qg.out.mono ?_;rintro e w5 ⟨rfl,hb5⟩;have bf:=zh (oH.out.below hb5);clear hb5;go_wp2_with fail;go_ret2;exact⟨_,[],_,_,_,_,_,_,_,_,_,_,_,_,rfl,bf.out⟩
  ·have Wd:(f ia).kind=3∨(f ia).kind=4:=by
    by_cases h0:ia=0
    ·have:=HW2.out.km.1;rw[h0] at hk3;omega
    ·rcases HW2.out.km.2 ia aL h0 with e | e | e<;>omega
   by_cases hr:o.n<0∨((iM (f ia).data).length:Int)<o.n∨o.k<0
   ·have HC:=zh (qm base B b s (hof hs 0) h o.n o.k 2 live n (Tr.raw g av) fr vs vf _ o.t V2 HW2.out.tv HW2.out.so Ie hrd (by show (f ia).data.size≤10000;omega) (by show BX (f ia).kind (iM (f ia).data).length _ _=2;unfold BX;rw[if_neg hkk,if_neg (by omega),if_pos hr]) (by decide));have HK:=zh (show 3≤(f ia).kind by omega);have HR0:=zh hr;clear eg hk3 hrd hkk Wd hr;refine wp_region_noPanic ?_;refine wp_region_held_drew (S:=jl T B M gh oh m ch w.heap.size ia h o) (by kernel_rfl) ?_ (fun ah=>?_)
    ·exact (by rw[hV2];exact gI.out)
    rw[hV2] at ah ⊢;refine bE [0,1,2,3,4,5,6,7,8,9,10,11,12,13,14,15,16,17,18] ?_;iterate 19 (refine dQ ?_;try simp only[pS])
    refine bF ?_;refine bI 19 fun K hK=>?_;go_simp;refine HC.out.mono ?_;rintro e w3 ⟨rfl,hb3⟩;have gJ:=zh (HW2.out.below hb3).up;have eU:=zh (gH.out.below hb3 gH.out.lt);have jm:=zh (show jl T B M gh oh m ch w.heap.size ia h o w3 from bq gJ.out.tw eU.out HLEN.out (by rw[←hh];exact HV.out.bH aL));clear hb3;refine hK.out _ _ (jm.out) fun ah=>?_;clear hK K;(try simp only[pS]);refine bE [20,21,22,23,24] ?_;iterate 5 (refine dQ ?_;try simp only[pS])
    refine bF ?_;refine gq ?_;go_wp2_with fail;obtain⟨V3,jJ⟩:=eX (w3.drew)
    have bN:Below w3.heap.size w3 V3:=qd jJ;have oH:=zh (gJ.out.below bN);have gL:=zh (eU.out.below bN eU.out.lt);have nT:=zh (show jl T B M gh oh m ch w.heap.size ia h o V3 from bq oH.out.tw gL.out HLEN.out (by rw[←hh];exact HV.out.bH aL));have HR:=zh (za bM M m aT f ia o.n o.k o.t V3 oH.out.mv aL HK.out yZ.out.2.2 (by omega) HR0.out)
    skip
    refine wp_region_noPanic ?_;refine wp_region_held_drew (S:=jl T B M gh oh m ch w.heap.size ia h o) (by kernel_rfl) ?_ (fun ah=>?_)
    ·exact (by rw[jJ];exact nT.out)
    rw[jJ] at ah ⊢;refine bE [0,1,2,3,4,5,6,7,8,9,10,11,12] ?_;iterate 13 (refine dQ ?_;try simp only[pS])
    refine bF ?_;refine bI 13 fun K hK=>?_;go_simp;refine HR.out.mono ?_;rintro e w4 ⟨rfl,hb4⟩;have Te:=zh (oH.out.below hb4);have wI:=zh (gL.out.below hb4 gL.out.lt);have ER:=zh (show jl T B M gh oh m ch w.heap.size ia h o w4 from bq Te.out.tw wI.out HLEN.out (by rw[←hh];exact HV.out.bH aL));have qg:=zh (dD T B M 0 0 _ (.slice none 0 0) (.slice none 0 0) hs [] w4 Te.out.tw (World.ownsRow_nil _ _ _ _) (World.ownsRow_nil _ _ _ _) (by simp));clear hb4;refine hK.out _ _ (ER.out) fun ah=>?_;clear hK K;(try simp only[pS]);refine bE [14,15,16,17,18] ?_;iterate 5 (refine dQ ?_;try simp only[pS])
    refine bF ?_;refine gq ?_;go_wp2_with fail;refine qg.out.mono ?_;rintro e w5 ⟨rfl,hb5⟩;have bf:=zh (Te.out.below hb5);clear hb5;go_wp2_with fail;go_ret2;exact⟨_,[],_,_,_,_,_,_,_,_,_,_,_,_,rfl,bf.out⟩
   ·obtain⟨I,hI⟩:=Int.eq_ofNat_of_zero_le (show 0≤o.n by omega);obtain⟨C,hC⟩:=Int.eq_ofNat_of_zero_le (show 0≤o.k by omega);have hIl:I≤(iM (f ia).data).length:=by omega
    have hCl:C≤128:=by omega
    have RQ:=zh (And.intro hI hC);have EG:=zh eg;clear eg hk3 hrd hkk hr hI hC;rcases Wd with hk | hk
    ·have HK:=zh (show (Tr.dV (hof hs) (jD (f ia))).kind=3 from hk);clear hk;have HC:=zh (Dp base B b s (hof hs 0) h I C live n g av fr vs vf _ o.t V2 HW2.out.tv HW2.out.so HW2.out.at' EG.out HK.out yZ.out.2.2 (by show (f ia).data.size≤8000;omega) (by show I≤(iM (f ia).data).length;omega) (by omega) (by omega) (by omega) HL2.out);rw[pF EG.out (U2:=fun n=>{ n with data:=jo (f ia).data I C o.t }) rfl,←RQ.out.1,←RQ.out.2] at HC;refine wp_region_noPanic ?_;refine wp_region_held_drew (S:=jl T B M gh oh m ch w.heap.size ia h o) (by kernel_rfl) ?_ (fun ah=>?_)
     ·exact (by rw[hV2];exact gI.out)
     rw[hV2] at ah ⊢;refine bE [0,1,2,3,4,5,6,7,8,9,10,11,12,13,14,15,16,17,18] ?_;iterate 19 (refine dQ ?_;try simp only[pS])
     refine bF ?_;refine bI 19 fun K hK=>?_;go_simp;refine HC.out.mono ?_;rintro e w3 ⟨v3,rfl,hr3,hv3,hs3,pz,fT⟩;obtain⟨a1,a2,-,-,-⟩:=HW2.out.after fT;have eU:=zh (gH.out.turns fT.1 (HW2.out.tv.aU gH.out (by decide) (by decide) (by decide)));have jm:=zh (show jl T B M gh oh m ch w.heap.size ia h o w3 from bq a1 eU.out HLEN.out (by rw[←hh];exact HV.out.bH aL));have HT3:=zh (And.intro a1 a2);have ug:=zh (And.intro hv3 (And.intro hs3 (And.intro pz fT)));have HR3:=zh hr3;obtain⟨A3,c3,rfl⟩:=aG (aH hr3);clear a1 a2 hv3 hs3 pz fT hr3;refine hK.out _ _ (jm.out) fun ah=>?_;clear hK K;(try simp only[pS]);refine bE [20,21,22,23,24] ?_;iterate 5 (refine dQ ?_;try simp only[pS])
     refine bF ?_;refine gq ?_;go_wp2_with fail;obtain⟨V3,jJ⟩:=eX (w3.drew)
     have bN:Below w3.heap.size w3 V3:=qd jJ;have gL:=zh (eU.out.below bN eU.out.lt);have J3:=zh (HT3.out.2.below bN);have Dm:=zh (HT3.out.1.below bN);have BQ:=zh (show bG V2.heap.size V3 _ _ from bX (S:=fun _=>False) HR3.out (.of_below bN) (fun _ _=>id));have HV5:=zh (And.intro (ug.out.1.below bN) (And.intro ug.out.2.1 (And.intro (ug.out.2.2.1.below bN) (ug.out.2.2.2.trans (.of_below bN)))));have nT:=zh (show jl T B M gh oh m ch w.heap.size ia h o V3 from bq Dm.out gL.out HLEN.out (by rw[←hh];exact HV.out.bH aL));have HR:=zh (xB bM M m aT f ia I C o.t V3 J3.out aL (by have:=HK.out;show 3≤(f ia).kind;have h3:(f ia).kind=3:=this;omega) yZ.out.2.2 (by omega) (by omega) (by omega) (by omega) (by omega));rw[←RQ.out.1,←RQ.out.2] at HR;refine wp_region_noPanic ?_;refine wp_region_held_drew (S:=jl T B M gh oh m ch w.heap.size ia h o) (by kernel_rfl) ?_ (fun ah=>?_)
     ·exact (by rw[jJ];exact nT.out)
     rw[jJ] at ah ⊢;refine bE [0,1,2,3,4,5,6,7,8,9,10,11,12] ?_;iterate 13 (refine dQ ?_;try simp only[pS])
     refine bF ?_;refine bI 13 fun K hK=>?_;go_simp;refine HR.out.mono ?_;rintro e w4 ⟨v4,rfl,hr4,nA,dO⟩;have gJ:=zh (HW2.out.put (iL:=av) (u:=fun n=>{ n with data:=jo (f ia).data I C o.t }) (U:=fun n=>{ n with data:=jo (f ia).data I C o.t }) aL hg (fun _=>⟨rfl,rfl⟩) (fun _=>rfl) (fun _=>⟨rfl,rfl⟩) (fun _=>rfl) (by rw[hh];exact HV5.out.1) (by rw[hh];exact HV5.out.2.1) (by rw[hh];exact HV5.out.2.2.1) HV5.out.2.2.2 nA dO (by have h2:=BU (i:=I) (c:=C) (s:=o.t) yZ.out.2.2;exact⟨by show (f ia).at'.length≤_;omega,by show (jo (f ia).data I C o.t).size≤_;omega,ET _ _ _ _⟩) ((HW2.out.ok.2 ia aL).same rfl rfl rfl));have vX:=zh (gL.out.turns dO.1 (J3.out.aU gL.out (by decide) (by decide) (by decide) (by decide)));have vY:=zh (show jl T B M gh oh m ch w.heap.size ia h o w4 from bq gJ.out.tw vX.out HLEN.out (by rw[←hh];exact HV.out.bH aL));have qg:=zh (dD T B M V2.heap.size V3.heap.size _ _ v4 hs [pG ia o.n (f ia).data ((min C ((iM (f ia).data).length - I):Nat):Int) ((iM (aX o.t)).length:Nat)] w4 gJ.out.tw (by rw[ES,hh];exact bX BQ.out dO.1 (fun k hk hm=>by have h1:=(BQ.out.lt k hk).1;have h2:=(HW2.out.mv.lt k hm).2;omega)) hr4 (by simp));obtain⟨A4,c4,rfl⟩:=aG (aH hr4);clear hr4 nA dO;refine hK.out _ _ (vY.out) fun ah=>?_;clear hK K;(try simp only[pS]);refine bE [14,15,16,17,18] ?_;iterate 5 (refine dQ ?_;try simp only[pS])
     refine bF ?_;refine gq ?_;go_wp2_with fail;refine qg.out.mono ?_;rintro e w5 ⟨rfl,hb5⟩;have bf:=zh (gJ.out.below hb5);clear hb5;go_wp2_with fail;go_ret2;exact⟨_,[],_,_,_,_,_,_,_,_,_,_,_,_,rfl,bf.out⟩
    ·have HK:=zh (show (Tr.dV (hof hs) (jD (f ia))).kind=4 from hk);clear hk;have HC:=zh (Dq base B b s (hof hs 0) h I C live n g av fr vs vf _ o.t V2 HW2.out.tv HW2.out.so HW2.out.at' EG.out HK.out yZ.out.2.2 (by show (f ia).data.size≤8000;omega) (by show I≤(iM (f ia).data).length;omega) (by omega) (by omega) (by omega) HL2.out);rw[pF EG.out (U2:=fun n=>{ n with data:=jo (f ia).data I C o.t }) rfl,←RQ.out.1,←RQ.out.2] at HC;refine wp_region_noPanic ?_;refine wp_region_held_drew (S:=jl T B M gh oh m ch w.heap.size ia h o) (by kernel_rfl) ?_ (fun ah=>?_)
     ·exact (by rw[hV2];exact gI.out)
     rw[hV2] at ah ⊢;refine bE [0,1,2,3,4,5,6,7,8,9,10,11,12,13,14,15,16,17,18] ?_;iterate 19 (refine dQ ?_;try simp only[pS])
     refine bF ?_;refine bI 19 fun K hK=>?_;go_simp;refine HC.out.mono ?_;rintro e w3 ⟨v3,rfl,hr3,hv3,hs3,pz,fT⟩;obtain⟨a1,a2,-,-,-⟩:=HW2.out.after fT;have eU:=zh (gH.out.turns fT.1 (HW2.out.tv.aU gH.out (by decide) (by decide) (by decide)));have jm:=zh (show jl T B M gh oh m ch w.heap.size ia h o w3 from bq a1 eU.out HLEN.out (by rw[←hh];exact HV.out.bH aL));have HT3:=zh (And.intro a1 a2);have ug:=zh (And.intro hv3 (And.intro hs3 (And.intro pz fT)));have HR3:=zh hr3;obtain⟨A3,c3,rfl⟩:=aG (aH hr3);clear a1 a2 hv3 hs3 pz fT hr3;refine hK.out _ _ (jm.out) fun ah=>?_;clear hK K;(try simp only[pS]);refine bE [20,21,22,23,24] ?_;iterate 5 (refine dQ ?_;try simp only[pS])
     refine bF ?_;refine gq ?_;go_wp2_with fail;obtain⟨V3,jJ⟩:=eX (w3.drew)
     have bN:Below w3.heap.size w3 V3:=qd jJ;have gL:=zh (eU.out.below bN eU.out.lt);have J3:=zh (HT3.out.2.below bN);have Dm:=zh (HT3.out.1.below bN);have BQ:=zh (show bG V2.heap.size V3 _ _ from bX (S:=fun _=>False) HR3.out (.of_below bN) (fun _ _=>id));have HV5:=zh (And.intro (ug.out.1.below bN) (And.intro ug.out.2.1 (And.intro (ug.out.2.2.1.below bN) (ug.out.2.2.2.trans (.of_below bN)))));have nT:=zh (show jl T B M gh oh m ch w.heap.size ia h o V3 from bq Dm.out gL.out HLEN.out (by rw[←hh];exact HV.out.bH aL));have HR:=zh (xB bM M m aT f ia I C o.t V3 J3.out aL (by have:=HK.out;show 3≤(f ia).kind;have h3:(f ia).kind=4:=this;omega) yZ.out.2.2 (by omega) (by omega) (by omega) (by omega) (by omega));rw[←RQ.out.1,←RQ.out.2] at HR;refine wp_region_noPanic ?_;refine wp_region_held_drew (S:=jl T B M gh oh m ch w.heap.size ia h o) (by kernel_rfl) ?_ (fun ah=>?_)
     ·exact (by rw[jJ];exact nT.out)
     rw[jJ] at ah ⊢;refine bE [0,1,2,3,4,5,6,7,8,9,10,11,12] ?_;iterate 13 (refine dQ ?_;try simp only[pS])
     refine bF ?_;refine bI 13 fun K hK=>?_;go_simp;refine HR.out.mono ?_;rintro e w4 ⟨v4,rfl,hr4,nA,dO⟩;have gJ:=zh (HW2.out.put (iL:=av) (u:=fun n=>{ n with data:=jo (f ia).data I C o.t }) (U:=fun n=>{ n with data:=jo (f ia).data I C o.t }) aL hg (fun _=>⟨rfl,rfl⟩) (fun _=>rfl) (fun _=>⟨rfl,rfl⟩) (fun _=>rfl) (by rw[hh];exact HV5.out.1) (by rw[hh];exact HV5.out.2.1) (by rw[hh];exact HV5.out.2.2.1) HV5.out.2.2.2 nA dO (by have h2:=BU (i:=I) (c:=C) (s:=o.t) yZ.out.2.2;exact⟨by show (f ia).at'.length≤_;omega,by show (jo (f ia).data I C o.t).size≤_;omega,ET _ _ _ _⟩) ((HW2.out.ok.2 ia aL).same rfl rfl rfl));have vX:=zh (gL.out.turns dO.1 (J3.out.aU gL.out (by decide) (by decide) (by decide) (by decide)));have vY:=zh (show jl T B M gh oh m ch w.heap.size ia h o w4 from bq gJ.out.tw vX.out HLEN.out (by rw[←hh];exact HV.out.bH aL));have qg:=zh (dD T B M V2.heap.size V3.heap.size _ _ v4 hs [pG ia o.n (f ia).data ((min C ((iM (f ia).data).length - I):Nat):Int) ((iM (aX o.t)).length:Nat)] w4 gJ.out.tw (by rw[ES,hh];exact bX BQ.out dO.1 (fun k hk hm=>by have h1:=(BQ.out.lt k hk).1;have h2:=(HW2.out.mv.lt k hm).2;omega)) hr4 (by simp));obtain⟨A4,c4,rfl⟩:=aG (aH hr4);clear hr4 nA dO;refine hK.out _ _ (vY.out) fun ah=>?_;clear hK K;(try simp only[pS]);refine bE [14,15,16,17,18] ?_;iterate 5 (refine dQ ?_;try simp only[pS])
     refine bF ?_;refine gq ?_;go_wp2_with fail;refine qg.out.mono ?_;rintro e w5 ⟨rfl,hb5⟩;have bf:=zh (gJ.out.below hb5);clear hb5;go_wp2_with fail;go_ret2;exact⟨_,[],_,_,_,_,_,_,_,_,_,_,_,_,rfl,bf.out⟩
end
end Go.Proofs.YtnbaadpgbcklaaaGreatDoor
