/- Part of a proof about trees. -/
import Derived.BigQuiet
import Derived.Deep.RegionHeld3
import Derived.Test.YtjpbhkcjmdndjaaGreatDoorGNDoc
import Derived.Test.YtjpbhkcjmdndjaaGreatDoorGNRrp
set_option linter.unusedVariables false
set_option linter.unusedSimpArgs false
set_option linter.unusedSectionVars false
set_option maxHeartbeats 8000000
set_option maxRecDepth 100000
namespace Go.Proofs.YtjpbhkcjmdndjaaGreatDoor
section
open Go.RowKit
variable [mY]
theorem Fx {hs:List Int} {i:Nat} {ix:Int} {old:ByteArray} {c sz:Int}:[pU i ix old c sz].map (rO (hof hs))=[sV (hof hs (i:Int)) ix old c sz]:=by simp[rO,pU,sV,mK]
theorem Ch (d:ByteArray) (i c:Nat) (s:ByteArray):(jw d i c s).data.toList=((iT d).take i++iT s++(iT d).drop (i+c)).flatten:=by
 unfold jw;rw[Ci,List.flatten_append,List.flatten_append];rfl
theorem Fy (d:ByteArray) (i c:Nat) (s:ByteArray):bD.rep (jw d i c s).data.toList=(jw d i c s).data.toList:=by
 have hg:∀ x∈(iT d).take i++iT s++(iT d).drop (i+c),bD.Good x:=fun x hx=>by
  rcases List.mem_append.1 hx with h | h
  ·rcases List.mem_append.1 h with h | h
   ·exact bD.cu _ x (List.mem_of_mem_take h)
   ·exact bD.cu _ x h
  ·exact bD.cu _ x (List.mem_of_mem_drop h)
 rw[Ch];have:=bD.xP hg [];rw[List.append_nil,bD.je,List.append_nil] at this;unfold bD.rep;rw[this]
theorem Cj {d:ByteArray} {i c:Nat} {s:ByteArray} (hd:bD.rep d.data.toList=d.data.toList):(jw d i c s).size≤d.size+(aX s).size:=by
 have h1:(jw d i c s).size=(jw d i c s).data.toList.length:=rfl;have h2:(aX s).size=(iT s).flatten.length:=rfl;have h3:d.size=(iT d).flatten.length:=by have:=sW hd;rw[←this];rfl
 have h4:(iT d).flatten.length=((iT d).take i).flatten.length+((iT d).drop i).flatten.length:=by rw[←List.length_append,←List.flatten_append,List.take_append_drop]
 have h5:((iT d).drop i).flatten.length=(((iT d).drop i).take c).flatten.length+(((iT d).drop i).drop c).flatten.length:=by rw[←List.length_append,←List.flatten_append,List.take_append_drop]
 rw[List.drop_drop] at h5;rw[h1,Ch,List.flatten_append,List.flatten_append,List.length_append,List.length_append,h2,h3];omega
theorem Ja (base bM T B M:Nat) (b s:Int) (vs vf aQ vh:Value) (n live m:Nat) (fr:List Nat) (av:Int→Tr.Sl) (f:Nat→RS) (hs:List Int) (g:Tr.G) (K:Nat) (o:qQ) (w:World) (H:TW w base bM T B M b s vs vf aQ vh n live m fr av f hs g K) (ho:pQ o) (hkd:o.kind.tmod 10=7) (hm:m≤300) (hK:K≤60) (hT:Lit w):
  uF base bM T B M b s K o w:=by
 unfold uF;obtain⟨ia,hia,aI⟩:=aR ho.a.1 H.m0;obtain⟨ib,hib,iY⟩:=aR ho.b.1 H.m0;obtain⟨ic,hic,qz⟩:=aR (m:=m+1) ho.c.1 (by omega);rw[Int.natCast_add] at hic;have hlen:=H.len;have hm0:=H.m0;obtain⟨w1,gh,oh,ch,rfl,mz,Ik,Il,Io,hw1,eP,HB1,H1,qp,jL,HLEN,qy,sU,t0,t1,t2,x0,x1,x2,x3,x4,x5,x6,x7,Ip,Iq,Ir,Iu,Iw,Iy,Iz,IB⟩:=iH H ho hT;have yP:=zh (fun (W:World) (hb:Below w.heap.size w W)=>H.mv.below hb);have eT:=zh (fun (W:World) (hb:Below w.heap.size w W) (j:Nat) (hj:j<m)=>bX bM M m aQ f j W (H.mv.below hb) hj (by omega));clear H ho hT
 go_enter Tryz.func7,Tryz.ntmps7
 go_wp2_with fail;(try rw[hw1]);try go_wp2_with fail
 go_quiet (fail)
 obtain⟨V,hV⟩:=eX (w1.drewN nq)
 have eH:Below w1.heap.size w1 V:=IV hV;have cZ:=zh (HB1.out.trans (eH.mono HB1.out.size));have dw:=zh (eP.out.below eH eP.out.lt);have HV:=zh (H1.out.below eH);have uG:=zh (jL.out.below eH);obtain⟨t0',t1',t2'⟩:=sU.out V cZ.out;have z0:V.cell? ⟨w.heap.size,0,none⟩=some (.int .u8 o.kind):=dw.out.cell 0;have z4:V.cell? ⟨w.heap.size,4,none⟩=some (.string o.s):=dw.out.cell 4;have z5:V.cell? ⟨w.heap.size,5,none⟩=some (.string o.t):=dw.out.cell 5;have z6:V.cell? ⟨w.heap.size,6,none⟩=some (.int .i8 o.n):=dw.out.cell 6;have z7:V.cell? ⟨w.heap.size,7,none⟩=some (.int .i8 o.k):=dw.out.cell 7;clear t0 t1 t2 x0 x1 x2 x3 x4 x5 x6 x7 eH;(try rw[hV]);go_wp2_with fail;refine (eT.out V cZ.out ia aI).mono ?_;rintro e w2 ⟨rfl,hw2⟩;rw[hw2];clear eT hw2;go_wp2_with fail;obtain⟨h,hh⟩:=eX (hof hs (ia:Int))
 obtain⟨V2,hV2⟩:=eX (V.drew)
 have bK:Below V.heap.size V V2:=mW hV2;have rM:=zh (cZ.out.trans (bK.mono cZ.out.size));have HW2:=zh (HV.out.below bK);have gM:=zh (dw.out.below bK dw.out.lt);have HL2:=zh (uG.out.below bK);have iU:=zh (show jr T B M gh oh m ch w.heap.size ia h o V2 from bn HW2.out.tw gM.out HLEN.out (by rw[←hh];exact HV.out.bI aI));have Kr:(0:Int)≤(ia:Int):=by omega
 have Kt:(ia:Int)<(m:Int):=by omega
 obtain⟨zt,zn,zk⟩:=And.intro qp.out.t (And.intro qp.out.n qp.out.k);obtain⟨zn0,zn1⟩:=zn;obtain⟨zk0,zk1⟩:=zk;have wrn:IntKind.i64.wrap o.n=o.n:=by rw[IntKind.wrap_i64];omega
 have wrk:IntKind.i64.wrap o.k=o.k:=by rw[IntKind.wrap_i64];omega
 cases hg:(f ia).gone with
 | true=>
  obtain⟨e1,e2⟩:=HW2.out.kL aI hg;have HC:=zh (qA base B b s (hof hs 0) h o.n o.k 6 live n (Tr.raw g av) fr vs vf Tr.Bl o.t V2 HW2.out.tv HW2.out.so (by rw[←hh];exact HW2.out.i64 aI) (by rw[←hh,e1,Tr.bG e2];rfl) (by decide) rfl (by decide));clear e1 e2;refine wp_region_noPanic ?_;refine wp_region_held_drew (S:=jr T B M gh oh m ch w.heap.size ia h o) (by kernel_rfl) ?_ (fun ah=>?_)
  ·exact (by rw[hV2];exact iU.out)
  rw[hV2] at ah ⊢;refine bE [0,1,2,3,4,5,6,7,8,9,10,11,12,13,14,15,16,17,18] ?_;iterate 19 (refine eY ?_;try simp only[pS])
  refine bF ?_;refine bO 19 fun K hK=>?_;go_simp;refine HC.out.mono ?_;rintro e w3 ⟨rfl,hb3⟩;have gJ:=zh (HW2.out.below hb3).up;have fu:=zh (gM.out.below hb3 gM.out.lt);have jh:=zh (show jr T B M gh oh m ch w.heap.size ia h o w3 from bn gJ.out.tw fu.out HLEN.out (by rw[←hh];exact HV.out.bI aI));clear hb3;refine hK.out _ _ (jh.out) fun ah=>?_;clear hK K;(try simp only[pS]);refine bE [20,21,22,23,24] ?_;iterate 5 (refine eY ?_;try simp only[pS])
  refine bF ?_;refine gQ ?_;go_wp2_with fail;go_ret2;exact⟨_,[],_,_,_,_,_,_,_,_,_,_,_,_,rfl,gJ.out⟩
 | false=>
  have eg:g h=some (Tr.fC (hof hs) (lH (f ia))):=by rw[←hh];exact HW2.out.dJ aI hg
  have IX:kM h:=by rw[←hh];exact HW2.out.i64 aI
  have hrd:(Tr.raw g av h).getD Tr.Bl=Tr.fA g av h (Tr.fC (hof hs) (lH (f ia))):=by rw[Tr.aj eg];rfl
  have ET:=zh (HW2.out.bd ia aI);have hb2:=ET.out.2.1;have Fz:=ET.out.1;have Xt:(aX o.t).size≤120:=by
   have h1:=bD.nk o.t.data.toList;have h2:(aX o.t).size=(bD.rep o.t.data.toList).length:=kg _;have h3:o.t.data.toList.length=o.t.size:=rfl;omega
  have hkk:(f ia).kind≠0:=HW2.out.kinds h _ eg;by_cases hk3:(f ia).kind<3
  ·have hkr:1≤(f ia).kind:=by
    by_cases h0:ia=0
    ·rw[h0,HW2.out.km.1];decide
    ·rcases HW2.out.km.2 ia aI h0 with e | e | e<;>omega
   have HC:=zh (qA base B b s (hof hs 0) h o.n o.k 10 live n (Tr.raw g av) fr vs vf _ o.t V2 HW2.out.tv HW2.out.so IX hrd (by show (f ia).data.size≤10000;omega) (by show Ck (f ia).kind _ _ _=10;unfold Ck;rw[if_neg hkk,if_pos (by omega)]) (by decide));have HK:=zh hk3;clear eg hk3 hkr hrd hkk;refine wp_region_noPanic ?_;refine wp_region_held_drew (S:=jr T B M gh oh m ch w.heap.size ia h o) (by kernel_rfl) ?_ (fun ah=>?_)
   ·exact (by rw[hV2];exact iU.out)
   rw[hV2] at ah ⊢;refine bE [0,1,2,3,4,5,6,7,8,9,10,11,12,13,14,15,16,17,18] ?_;iterate 19 (refine eY ?_;try simp only[pS])
   refine bF ?_;refine bO 19 fun K hK=>?_;go_simp;refine HC.out.mono ?_;rintro e w3 ⟨rfl,hb3⟩;have gJ:=zh (HW2.out.below hb3).up;have fu:=zh (gM.out.below hb3 gM.out.lt);have jh:=zh (show jr T B M gh oh m ch w.heap.size ia h o w3 from bn gJ.out.tw fu.out HLEN.out (by rw[←hh];exact HV.out.bI aI));clear hb3;refine hK.out _ _ (jh.out) fun ah=>?_;clear hK K;(try simp only[pS]);refine bE [20,21,22,23,24] ?_;iterate 5 (refine eY ?_;try simp only[pS])
   refine bF ?_;refine gQ ?_;go_wp2_with fail;obtain⟨V3,kT⟩:=eX (w3.drew)
   have bP:Below w3.heap.size w3 V3:=mW kT;have kK:=zh (gJ.out.below bP);have gT:=zh (fu.out.below bP fu.out.lt);have oq:=zh (show jr T B M gh oh m ch w.heap.size ia h o V3 from bn kK.out.tw gT.out HLEN.out (by rw[←hh];exact HV.out.bI aI));have HR:=zh (DC bM M m aQ f ia o.n o.k o.t V3 kK.out.mv aI HK.out);have oN:=zh (dF T B M 0 0 _ (.slice none 0 0) (.slice none 0 0) hs [] V3 kK.out.tw (World.ownsRow_nil _ _ _ _) (World.ownsRow_nil _ _ _ _) (by simp));refine wp_region_noPanic ?_;refine wp_region_held_drew (S:=jr T B M gh oh m ch w.heap.size ia h o) (by kernel_rfl) ?_ (fun ah=>?_)
   ·exact (by rw[kT];exact oq.out)
   rw[kT] at ah ⊢;refine bE [0,1,2,3,4,5,6,7,8,9,10,11,12] ?_;iterate 13 (refine eY ?_;try simp only[pS])
   refine bF ?_;refine bO 13 fun K hK=>?_;go_simp;refine HR.out.mono ?_;rintro e w4 ⟨rfl,hw4⟩;rw[hw4];clear hw4;refine hK.out _ _ (oq.out) fun ah=>?_;clear hK K;(try simp only[pS]);refine bE [14,15,16,17,18] ?_;iterate 5 (refine eY ?_;try simp only[pS])
   refine bF ?_;refine gQ ?_;go_wp2_with fail;refine oN.out.mono ?_;rintro e w5 ⟨rfl,hb5⟩;have bf:=zh (kK.out.below hb5);clear hb5;go_wp2_with fail;go_ret2;exact⟨_,[],_,_,_,_,_,_,_,_,_,_,_,_,rfl,bf.out⟩
  ·have Xu:(f ia).kind=3∨(f ia).kind=4:=by
    by_cases h0:ia=0
    ·have:=HW2.out.km.1;rw[h0] at hk3;omega
    ·rcases HW2.out.km.2 ia aI h0 with e | e | e<;>omega
   by_cases hr:o.n<0∨((iT (f ia).data).length:Int)<o.n∨o.k<0
   ·have HC:=zh (qA base B b s (hof hs 0) h o.n o.k 2 live n (Tr.raw g av) fr vs vf _ o.t V2 HW2.out.tv HW2.out.so IX hrd (by show (f ia).data.size≤10000;omega) (by show Ck (f ia).kind (iT (f ia).data).length _ _=2;unfold Ck;rw[if_neg hkk,if_neg (by omega),if_pos hr]) (by decide));have HK:=zh (show 3≤(f ia).kind by omega);have HR0:=zh hr;clear eg hk3 hrd hkk Xu hr;refine wp_region_noPanic ?_;refine wp_region_held_drew (S:=jr T B M gh oh m ch w.heap.size ia h o) (by kernel_rfl) ?_ (fun ah=>?_)
    ·exact (by rw[hV2];exact iU.out)
    rw[hV2] at ah ⊢;refine bE [0,1,2,3,4,5,6,7,8,9,10,11,12,13,14,15,16,17,18] ?_;iterate 19 (refine eY ?_;try simp only[pS])
    refine bF ?_;refine bO 19 fun K hK=>?_;go_simp;refine HC.out.mono ?_;rintro e w3 ⟨rfl,hb3⟩;have gJ:=zh (HW2.out.below hb3).up;have fu:=zh (gM.out.below hb3 gM.out.lt);have jh:=zh (show jr T B M gh oh m ch w.heap.size ia h o w3 from bn gJ.out.tw fu.out HLEN.out (by rw[←hh];exact HV.out.bI aI));clear hb3;refine hK.out _ _ (jh.out) fun ah=>?_;clear hK K;(try simp only[pS]);refine bE [20,21,22,23,24] ?_;iterate 5 (refine eY ?_;try simp only[pS])
    refine bF ?_;refine gQ ?_;go_wp2_with fail;obtain⟨V3,kT⟩:=eX (w3.drew)
    have bP:Below w3.heap.size w3 V3:=mW kT;have kK:=zh (gJ.out.below bP);have gT:=zh (fu.out.below bP fu.out.lt);have oq:=zh (show jr T B M gh oh m ch w.heap.size ia h o V3 from bn kK.out.tw gT.out HLEN.out (by rw[←hh];exact HV.out.bI aI));have HR:=zh (zw bM M m aQ f ia o.n o.k o.t V3 kK.out.mv aI HK.out ET.out.2.2 (by omega) HR0.out)
    skip
    refine wp_region_noPanic ?_;refine wp_region_held_drew (S:=jr T B M gh oh m ch w.heap.size ia h o) (by kernel_rfl) ?_ (fun ah=>?_)
    ·exact (by rw[kT];exact oq.out)
    rw[kT] at ah ⊢;refine bE [0,1,2,3,4,5,6,7,8,9,10,11,12] ?_;iterate 13 (refine eY ?_;try simp only[pS])
    refine bF ?_;refine bO 13 fun K hK=>?_;go_simp;refine HR.out.mono ?_;rintro e w4 ⟨rfl,hb4⟩;have Un:=zh (kK.out.below hb4);have wQ:=zh (gT.out.below hb4 gT.out.lt);have Fv:=zh (show jr T B M gh oh m ch w.heap.size ia h o w4 from bn Un.out.tw wQ.out HLEN.out (by rw[←hh];exact HV.out.bI aI));have oN:=zh (dF T B M 0 0 _ (.slice none 0 0) (.slice none 0 0) hs [] w4 Un.out.tw (World.ownsRow_nil _ _ _ _) (World.ownsRow_nil _ _ _ _) (by simp));clear hb4;refine hK.out _ _ (Fv.out) fun ah=>?_;clear hK K;(try simp only[pS]);refine bE [14,15,16,17,18] ?_;iterate 5 (refine eY ?_;try simp only[pS])
    refine bF ?_;refine gQ ?_;go_wp2_with fail;refine oN.out.mono ?_;rintro e w5 ⟨rfl,hb5⟩;have bf:=zh (Un.out.below hb5);clear hb5;go_wp2_with fail;go_ret2;exact⟨_,[],_,_,_,_,_,_,_,_,_,_,_,_,rfl,bf.out⟩
   ·obtain⟨I,hI⟩:=Int.eq_ofNat_of_zero_le (show 0≤o.n by omega);obtain⟨C,hC⟩:=Int.eq_ofNat_of_zero_le (show 0≤o.k by omega);have hIl:I≤(iT (f ia).data).length:=by omega
    have hCl:C≤128:=by omega
    have Tc:=zh (And.intro hI hC);have EG:=zh eg;clear eg hk3 hrd hkk hr hI hC;rcases Xu with hk | hk
    ·have HK:=zh (show (Tr.fC (hof hs) (lH (f ia))).kind=3 from hk);clear hk;have HC:=zh (DF base B b s (hof hs 0) h I C live n g av fr vs vf _ o.t V2 HW2.out.tv HW2.out.so HW2.out.at' EG.out HK.out ET.out.2.2 (by show (f ia).data.size≤8000;omega) (by show I≤(iT (f ia).data).length;omega) (by omega) (by omega) (by omega) HL2.out);rw[pR EG.out (U2:=fun n=>{ n with data:=jw (f ia).data I C o.t }) rfl,←Tc.out.1,←Tc.out.2] at HC;refine wp_region_noPanic ?_;refine wp_region_held_drew (S:=jr T B M gh oh m ch w.heap.size ia h o) (by kernel_rfl) ?_ (fun ah=>?_)
     ·exact (by rw[hV2];exact iU.out)
     rw[hV2] at ah ⊢;refine bE [0,1,2,3,4,5,6,7,8,9,10,11,12,13,14,15,16,17,18] ?_;iterate 19 (refine eY ?_;try simp only[pS])
     refine bF ?_;refine bO 19 fun K hK=>?_;go_simp;refine HC.out.mono ?_;rintro e w3 ⟨v3,rfl,hr3,hv3,hs3,pK,fK⟩;obtain⟨a1,a2,-,-,-⟩:=HW2.out.after fK;have fu:=zh (gM.out.turns fK.1 (HW2.out.tv.aU gM.out (by decide) (by decide) (by decide)));have jh:=zh (show jr T B M gh oh m ch w.heap.size ia h o w3 from bn a1 fu.out HLEN.out (by rw[←hh];exact HV.out.bI aI));have HT3:=zh (And.intro a1 a2);have uo:=zh (And.intro hv3 (And.intro hs3 (And.intro pK fK)));have HR3:=zh hr3;obtain⟨A3,c3,rfl⟩:=aF (aG hr3);clear a1 a2 hv3 hs3 pK fK hr3;refine hK.out _ _ (jh.out) fun ah=>?_;clear hK K;(try simp only[pS]);refine bE [20,21,22,23,24] ?_;iterate 5 (refine eY ?_;try simp only[pS])
     refine bF ?_;refine gQ ?_;go_wp2_with fail;obtain⟨V3,kT⟩:=eX (w3.drew)
     have bP:Below w3.heap.size w3 V3:=mW kT;have gT:=zh (fu.out.below bP fu.out.lt);have KE:=zh (HT3.out.2.below bP);have Dz:=zh (HT3.out.1.below bP);have Cg:=zh (show bH V2.heap.size V3 _ _ from bW (S:=fun _=>False) HR3.out (.of_below bP) (fun _ _=>id));have HV5:=zh (And.intro (uo.out.1.below bP) (And.intro uo.out.2.1 (And.intro (uo.out.2.2.1.below bP) (uo.out.2.2.2.trans (.of_below bP)))));have oq:=zh (show jr T B M gh oh m ch w.heap.size ia h o V3 from bn Dz.out gT.out HLEN.out (by rw[←hh];exact HV.out.bI aI));have HR:=zh (xQ bM M m aQ f ia I C o.t V3 KE.out aI (by have:=HK.out;show 3≤(f ia).kind;have h3:(f ia).kind=3:=this;omega) ET.out.2.2 (by omega) (by omega) (by omega) (by omega) (by omega));rw[←Tc.out.1,←Tc.out.2] at HR;refine wp_region_noPanic ?_;refine wp_region_held_drew (S:=jr T B M gh oh m ch w.heap.size ia h o) (by kernel_rfl) ?_ (fun ah=>?_)
     ·exact (by rw[kT];exact oq.out)
     rw[kT] at ah ⊢;refine bE [0,1,2,3,4,5,6,7,8,9,10,11,12] ?_;iterate 13 (refine eY ?_;try simp only[pS])
     refine bF ?_;refine bO 13 fun K hK=>?_;go_simp;refine HR.out.mono ?_;rintro e w4 ⟨v4,rfl,hr4,mJ,dK⟩;have gJ:=zh (HW2.out.put (iR:=av) (u:=fun n=>{ n with data:=jw (f ia).data I C o.t }) (U:=fun n=>{ n with data:=jw (f ia).data I C o.t }) aI hg (fun _=>⟨rfl,rfl⟩) (fun _=>rfl) (fun _=>⟨rfl,rfl⟩) (fun _=>rfl) (by rw[hh];exact HV5.out.1) (by rw[hh];exact HV5.out.2.1) (by rw[hh];exact HV5.out.2.2.1) HV5.out.2.2.2 mJ dK (by have h2:=Cj (i:=I) (c:=C) (s:=o.t) ET.out.2.2;exact⟨by show (f ia).at'.length≤_;omega,by show (jw (f ia).data I C o.t).size≤_;omega,Fy _ _ _ _⟩) ((HW2.out.ok.2 ia aI).same rfl rfl rfl));have uH:=zh (gT.out.turns dK.1 (KE.out.aU gT.out (by decide) (by decide) (by decide) (by decide)));have Fw:=zh (show jr T B M gh oh m ch w.heap.size ia h o w4 from bn gJ.out.tw uH.out HLEN.out (by rw[←hh];exact HV.out.bI aI));have oN:=zh (dF T B M V2.heap.size V3.heap.size _ _ v4 hs [pU ia o.n (f ia).data ((min C ((iT (f ia).data).length - I):Nat):Int) ((iT (aX o.t)).length:Nat)] w4 gJ.out.tw (by rw[Fx,hh];exact bW Cg.out dK.1 (fun k hk hm=>by have h1:=(Cg.out.lt k hk).1;have h2:=(HW2.out.mv.lt k hm).2;omega)) hr4 (by simp));obtain⟨A4,c4,rfl⟩:=aF (aG hr4);clear hr4 mJ dK;refine hK.out _ _ (Fw.out) fun ah=>?_;clear hK K;(try simp only[pS]);refine bE [14,15,16,17,18] ?_;iterate 5 (refine eY ?_;try simp only[pS])
     refine bF ?_;refine gQ ?_;go_wp2_with fail;refine oN.out.mono ?_;rintro e w5 ⟨rfl,hb5⟩;have bf:=zh (gJ.out.below hb5);clear hb5;go_wp2_with fail;go_ret2;exact⟨_,[],_,_,_,_,_,_,_,_,_,_,_,_,rfl,bf.out⟩
    ·have HK:=zh (show (Tr.fC (hof hs) (lH (f ia))).kind=4 from hk);clear hk;have HC:=zh (DI base B b s (hof hs 0) h I C live n g av fr vs vf _ o.t V2 HW2.out.tv HW2.out.so HW2.out.at' EG.out HK.out ET.out.2.2 (by show (f ia).data.size≤8000;omega) (by show I≤(iT (f ia).data).length;omega) (by omega) (by omega) (by omega) HL2.out);rw[pR EG.out (U2:=fun n=>{ n with data:=jw (f ia).data I C o.t }) rfl,←Tc.out.1,←Tc.out.2] at HC;refine wp_region_noPanic ?_;refine wp_region_held_drew (S:=jr T B M gh oh m ch w.heap.size ia h o) (by kernel_rfl) ?_ (fun ah=>?_)
     ·exact (by rw[hV2];exact iU.out)
     rw[hV2] at ah ⊢;refine bE [0,1,2,3,4,5,6,7,8,9,10,11,12,13,14,15,16,17,18] ?_;iterate 19 (refine eY ?_;try simp only[pS])
     refine bF ?_;refine bO 19 fun K hK=>?_;go_simp;refine HC.out.mono ?_;rintro e w3 ⟨v3,rfl,hr3,hv3,hs3,pK,fK⟩;obtain⟨a1,a2,-,-,-⟩:=HW2.out.after fK;have fu:=zh (gM.out.turns fK.1 (HW2.out.tv.aU gM.out (by decide) (by decide) (by decide)));have jh:=zh (show jr T B M gh oh m ch w.heap.size ia h o w3 from bn a1 fu.out HLEN.out (by rw[←hh];exact HV.out.bI aI));have HT3:=zh (And.intro a1 a2);have uo:=zh (And.intro hv3 (And.intro hs3 (And.intro pK fK)));have HR3:=zh hr3;obtain⟨A3,c3,rfl⟩:=aF (aG hr3);clear a1 a2 hv3 hs3 pK fK hr3;refine hK.out _ _ (jh.out) fun ah=>?_;clear hK K;(try simp only[pS]);refine bE [20,21,22,23,24] ?_;iterate 5 (refine eY ?_;try simp only[pS])
     refine bF ?_;refine gQ ?_;go_wp2_with fail;obtain⟨V3,kT⟩:=eX (w3.drew)
     have bP:Below w3.heap.size w3 V3:=mW kT;have gT:=zh (fu.out.below bP fu.out.lt);have KE:=zh (HT3.out.2.below bP);have Dz:=zh (HT3.out.1.below bP);have Cg:=zh (show bH V2.heap.size V3 _ _ from bW (S:=fun _=>False) HR3.out (.of_below bP) (fun _ _=>id));have HV5:=zh (And.intro (uo.out.1.below bP) (And.intro uo.out.2.1 (And.intro (uo.out.2.2.1.below bP) (uo.out.2.2.2.trans (.of_below bP)))));have oq:=zh (show jr T B M gh oh m ch w.heap.size ia h o V3 from bn Dz.out gT.out HLEN.out (by rw[←hh];exact HV.out.bI aI));have HR:=zh (xQ bM M m aQ f ia I C o.t V3 KE.out aI (by have:=HK.out;show 3≤(f ia).kind;have h3:(f ia).kind=4:=this;omega) ET.out.2.2 (by omega) (by omega) (by omega) (by omega) (by omega));rw[←Tc.out.1,←Tc.out.2] at HR;refine wp_region_noPanic ?_;refine wp_region_held_drew (S:=jr T B M gh oh m ch w.heap.size ia h o) (by kernel_rfl) ?_ (fun ah=>?_)
     ·exact (by rw[kT];exact oq.out)
     rw[kT] at ah ⊢;refine bE [0,1,2,3,4,5,6,7,8,9,10,11,12] ?_;iterate 13 (refine eY ?_;try simp only[pS])
     refine bF ?_;refine bO 13 fun K hK=>?_;go_simp;refine HR.out.mono ?_;rintro e w4 ⟨v4,rfl,hr4,mJ,dK⟩;have gJ:=zh (HW2.out.put (iR:=av) (u:=fun n=>{ n with data:=jw (f ia).data I C o.t }) (U:=fun n=>{ n with data:=jw (f ia).data I C o.t }) aI hg (fun _=>⟨rfl,rfl⟩) (fun _=>rfl) (fun _=>⟨rfl,rfl⟩) (fun _=>rfl) (by rw[hh];exact HV5.out.1) (by rw[hh];exact HV5.out.2.1) (by rw[hh];exact HV5.out.2.2.1) HV5.out.2.2.2 mJ dK (by have h2:=Cj (i:=I) (c:=C) (s:=o.t) ET.out.2.2;exact⟨by show (f ia).at'.length≤_;omega,by show (jw (f ia).data I C o.t).size≤_;omega,Fy _ _ _ _⟩) ((HW2.out.ok.2 ia aI).same rfl rfl rfl));have uH:=zh (gT.out.turns dK.1 (KE.out.aU gT.out (by decide) (by decide) (by decide) (by decide)));have Fw:=zh (show jr T B M gh oh m ch w.heap.size ia h o w4 from bn gJ.out.tw uH.out HLEN.out (by rw[←hh];exact HV.out.bI aI));have oN:=zh (dF T B M V2.heap.size V3.heap.size _ _ v4 hs [pU ia o.n (f ia).data ((min C ((iT (f ia).data).length - I):Nat):Int) ((iT (aX o.t)).length:Nat)] w4 gJ.out.tw (by rw[Fx,hh];exact bW Cg.out dK.1 (fun k hk hm=>by have h1:=(Cg.out.lt k hk).1;have h2:=(HW2.out.mv.lt k hm).2;omega)) hr4 (by simp));obtain⟨A4,c4,rfl⟩:=aF (aG hr4);clear hr4 mJ dK;refine hK.out _ _ (Fw.out) fun ah=>?_;clear hK K;(try simp only[pS]);refine bE [14,15,16,17,18] ?_;iterate 5 (refine eY ?_;try simp only[pS])
     refine bF ?_;refine gQ ?_;go_wp2_with fail;refine oN.out.mono ?_;rintro e w5 ⟨rfl,hb5⟩;have bf:=zh (gJ.out.below hb5);clear hb5;go_wp2_with fail;go_ret2;exact⟨_,[],_,_,_,_,_,_,_,_,_,_,_,_,rfl,bf.out⟩
end
end Go.Proofs.YtjpbhkcjmdndjaaGreatDoor
