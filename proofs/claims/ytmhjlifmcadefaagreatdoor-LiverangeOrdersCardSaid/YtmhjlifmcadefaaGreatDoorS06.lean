/- Part of a proof about trees. -/
import Derived.BigQuiet
import Derived.Deep.RegionHeld3
import Derived.Test.YtmhjlifmcadefaaGreatDoorGNDoa
import Derived.Test.YtmhjlifmcadefaaGreatDoorGVPer
set_option linter.unusedVariables false
set_option linter.unusedSimpArgs false
set_option linter.unusedSectionVars false
set_option maxHeartbeats 8000000
set_option maxRecDepth 100000
namespace Go.Proofs.YtmhjlifmcadefaaGreatDoor
section
open Go.RowKit
variable [mQ]
theorem pF {g:Tr.G} {h:Int} {n:Tr.GN} (e:g h=some n) {U1 U2:Tr.GN→Tr.GN} (hu:U1 n=U2 n):Tr.cK g h U1=Tr.cK g h U2:=by
 funext x;unfold Tr.cK;by_cases hx:x=h
 ·rw[if_pos hx,if_pos hx,e];show some _=some _;rw[hu]
 ·rw[if_neg hx,if_neg hx]
theorem Ol (l:List (ByteArray×ByteArray)) (nm:ByteArray):(jY l nm).length≤l.length:=by
 unfold jY
 first | exact List.length_eraseIdx_le _ _ | (split<;>simp<;>omega) | (simp;omega)
theorem bD {w:World} {T B M gh oh ch m ia X:Nat} {hs:List Int} {h:Int} {o:qp} (H:oW w T B M (.slice (some ⟨gh,oh,none⟩) hs.length ch) hs) (hX:Whole w X #[.int .u8 o.kind,.int .u8 o.a,.int .u8 o.b,.int .u8 o.c,.string o.s,.string o.t,.int .i8 o.n,.int .i8 o.k] 62) (hl:hs.length=m) (hi:hs[ia]?=some h):jw T B M gh oh m ch X ia h o w:=by
 have hlt:=(List.getElem?_eq_some_iff.1 hi).1;rw[←hl];exact⟨H.var.cell 0,H.var.cell 1,H.var.cell 2,H.row.cellAt ia _ (by omega) (eu hi),hX.cell 4,hX.cell 5,hX.cell 6,hX.cell 7⟩
theorem MV.aV {bM M m:Nat} {w:World} {vs:Value} {f:Nat→RS} {k:Nat} {cs:Array Value} {t:TypeId} (hM:MV bM w M vs m f) (hX:Whole w k cs t) (h1:t≠72) (h2:75≠t) (h3:3≠t) (h4:96≠t):¬ aC M vs m f k:=by
 rintro (rfl | hx | ⟨i,hi,hx | hx⟩)
 ·exact hX.unlike hM.var h1 rfl
 ·exact bE hM.row hX h2 hx
 ·exact (hM.ar i hi).unlike hX h4 hx
 ·exact (hM.kr i hi).unlike hX h3 hx
theorem IC (base bM T B M:Nat) (b s:Int) (vs vf aP vh:Value) (n live m:Nat) (fr:List Nat) (av:Int→Tr.Sl) (f:Nat→RS) (hs:List Int) (g:Tr.G) (K:Nat) (o:qp) (w:World) (H:TW w base bM T B M b s vs vf aP vh n live m fr av f hs g K) (ho:pE o) (hkd:o.kind.tmod 10=6) (hm:m≤300) (hK:K≤60) (hT:Lit w):
  uL base bM T B M b s K o w:=by
 unfold uL;obtain⟨ia,hia,aI⟩:=aR ho.a.1 H.m0;obtain⟨ib,hib,iT⟩:=aR ho.b.1 H.m0;obtain⟨ic,hic,qw⟩:=aR (m:=m+1) ho.c.1 (by omega);rw[Int.natCast_add] at hic;have hlen:=H.len;have hm0:=H.m0;obtain⟨w1,gh,oh,ch,rfl,mz,IU,IV,IW,hw1,fQ,HB1,H1,ql,jM,HLEN,sG,sH,t0,t1,t2,x0,x1,x2,x3,x4,x5,x6,x7,IX,IY,IZ,I4,I5,I6,I7,I8⟩:=iB H ho hT;have ze:=zh (fun (W:World) (hb:Below w.heap.size w W)=>H.mv.below hb);have dZ:=zh (fun (W:World) (hb:Below w.heap.size w W) (j:Nat) (hj:j<m)=>bX bM M m aP f j W (H.mv.below hb) hj (by omega));clear H ho hT
 go_enter Tryz.func16,Tryz.ntmps16
 go_wp2_with fail;(try rw[hw1]);try go_wp2_with fail
 go_quiet (fail)
 obtain⟨V,hV⟩:=eX (w1.drewN nq)
 have dS:Below w1.heap.size w1 V:=Jg hV;have bK:=zh (HB1.out.trans (dS.mono HB1.out.size));have dH:=zh (fQ.out.below dS fQ.out.lt);have HV:=zh (H1.out.below dS);have vv:=zh (jM.out.below dS);obtain⟨t0',t1',t2'⟩:=sH.out V bK.out;have z0:V.cell? ⟨w.heap.size,0,none⟩=some (.int .u8 o.kind):=dH.out.cell 0;have z4:V.cell? ⟨w.heap.size,4,none⟩=some (.string o.s):=dH.out.cell 4;have z5:V.cell? ⟨w.heap.size,5,none⟩=some (.string o.t):=dH.out.cell 5;have z6:V.cell? ⟨w.heap.size,6,none⟩=some (.int .i8 o.n):=dH.out.cell 6;have z7:V.cell? ⟨w.heap.size,7,none⟩=some (.int .i8 o.k):=dH.out.cell 7;clear t0 t1 t2 x0 x1 x2 x3 x4 x5 x6 x7 dS;(try rw[hV]);go_wp2_with fail;refine (dZ.out V bK.out ia aI).mono ?_;rintro e w2 ⟨rfl,hw2⟩;rw[hw2];clear dZ hw2;go_wp2_with fail;obtain⟨h,hh⟩:=eX (hof hs (ia:Int))
 obtain⟨V2,hV2⟩:=eX (V.drew)
 have bN:Below V.heap.size V V2:=lW hV2;have ru:=zh (bK.out.trans (bN.mono bK.out.size));have HW2:=zh (HV.out.below bN);have gG:=zh (dH.out.below bN dH.out.lt);have HL2:=zh (vv.out.below bN);have gV:=zh (show jw T B M gh oh m ch w.heap.size ia h o V2 from bD HW2.out.tw gG.out HLEN.out (by rw[←hh];exact HV.out.bJ aI));have K4:(0:Int)≤(ia:Int):=by omega
 have K5:(ia:Int)<(m:Int):=by omega
 have Rx:=zh HW2.out.kinds;cases hg:(f ia).gone with
 | true=>
  obtain⟨e1,e2⟩:=HW2.out.mD aI hg;have Vp:fD g h=6:=by unfold fD;rw[←hh,e1,e2]
  have HC:=zh (zP base B b s (hof hs 0) h live n g av fr vs vf o.s V2 HW2.out.tv HW2.out.so (by rw[←hh];exact HW2.out.i64 aI) Rx.out (by rw[Vp];decide));rw[Vp] at HC;clear e1 e2 Vp;refine wp_region_noPanic ?_;refine wp_region_held_drew (S:=jw T B M gh oh m ch w.heap.size ia h o) (by kernel_rfl) ?_ (fun ah=>?_)
  ·exact (by rw[hV2];exact gV.out)
  rw[hV2] at ah ⊢;refine bn [0,1,2,3,4,5,6,7,8,9,10,11,12] ?_;iterate 13 (refine cZ ?_;try simp only[pS])
  refine bq ?_;refine bG 13 fun K hK=>?_;go_simp;refine HC.out.mono ?_;rintro e w3 ⟨rfl,hb3⟩;have gJ:=zh (HW2.out.below hb3).up;have eU:=zh (gG.out.below hb3 gG.out.lt);have jA:=zh (show jw T B M gh oh m ch w.heap.size ia h o w3 from bD gJ.out.tw eU.out HLEN.out (by rw[←hh];exact HV.out.bJ aI));clear hb3;refine hK.out _ _ (jA.out) fun ah=>?_;clear hK K;(try simp only[pS]);refine bn [14,15,16,17,18] ?_;iterate 5 (refine cZ ?_;try simp only[pS])
  refine bq ?_;refine eY ?_;go_wp2_with fail;go_ret2;exact⟨_,[],_,_,_,_,_,_,_,_,_,_,_,_,rfl,gJ.out⟩
 | false=>
  have eg:g h=some (Tr.eD (hof hs) (jZ (f ia))):=by rw[←hh];exact HW2.out.dx aI hg
  have Ji:gI h:=by rw[←hh];exact HW2.out.i64 aI
  by_cases hk2:(f ia).kind=2
  ·have EG:=zh eg;have FI:=zh hk2;have hal:=(HW2.out.bd ia aI).1;clear hk2 eg;by_cases hat:oZ (f ia).at' o.s<(f ia).at'.length
   ·have HAT:=zh hat;clear hat;have HC:=zh (FM base B b s (hof hs 0) h live n g av fr vs vf _ o.s V2 HW2.out.tv HW2.out.so HW2.out.at' Rx.out EG.out FI.out (by show (f ia).at'.length≤1000;omega) HAT.out);rw[pF EG.out (U2:=fun n=>{ n with attrs:=jY (f ia).at' o.s }) rfl] at HC;refine wp_region_noPanic ?_;refine wp_region_held_drew (S:=jw T B M gh oh m ch w.heap.size ia h o) (by kernel_rfl) ?_ (fun ah=>?_)
    ·exact (by rw[hV2];exact gV.out)
    rw[hV2] at ah ⊢;refine bn [0,1,2,3,4,5,6,7,8,9,10,11,12] ?_;iterate 13 (refine cZ ?_;try simp only[pS])
    refine bq ?_;refine bG 13 fun K hK=>?_;go_simp;refine HC.out.mono ?_;rintro e w3 ⟨v3,Yn,rfl,hr3,hv3,hs3,pz,fF⟩;obtain⟨a1,a2,-,-,-⟩:=HW2.out.after fF;have eU:=zh (gG.out.turns fF.1 (HW2.out.tv.aV gG.out (by decide) (by decide) (by decide)));have jA:=zh (show jw T B M gh oh m ch w.heap.size ia h o w3 from bD a1 eU.out HLEN.out (by rw[←hh];exact HV.out.bJ aI));have HT3:=zh (And.intro a1 a2);have uy:=zh (And.intro hv3 (And.intro hs3 (And.intro pz fF)));have HR3:=zh hr3;obtain⟨A3,c3,rfl⟩:=aF (aG hr3);clear a1 a2 hv3 hs3 pz fF hr3;refine hK.out _ _ (jA.out) fun ah=>?_;clear hK K;(try simp only[pS]);refine bn [14,15,16,17,18] ?_;iterate 5 (refine cZ ?_;try simp only[pS])
    refine bq ?_;refine eY ?_;go_wp2_with fail;obtain⟨V3,kL⟩:=eX (w3.drew)
    have bP:Below w3.heap.size w3 V3:=lW kL;have iJ:=zh (eU.out.below bP eU.out.lt);have Lc:=zh (HT3.out.2.below bP);have zi:=zh (HT3.out.1.below bP);have Di:=zh (show bL V2.heap.size V3 _ _ from bY (S:=fun _=>False) HR3.out (.of_below bP) (fun _ _=>id));have HV5:=zh (And.intro (uy.out.1.below bP) (And.intro uy.out.2.1 (And.intro (uy.out.2.2.1.below bP) (uy.out.2.2.2.trans (.of_below bP)))));have nV:=zh (show jw T B M gh oh m ch w.heap.size ia h o V3 from bD zi.out iJ.out HLEN.out (by rw[←hh];exact HV.out.bJ aI));have HR:=zh (Iy bM M m aP f ia o.s V3 Lc.out aI (by omega) FI.out (by omega) HAT.out);refine wp_region_noPanic ?_;refine wp_region_held_drew (S:=jw T B M gh oh m ch w.heap.size ia h o) (by kernel_rfl) ?_ (fun ah=>?_)
    ·exact (by rw[kL];exact nV.out)
    rw[kL] at ah ⊢;refine bn [0,1,2,3,4,5,6] ?_;iterate 7 (refine cZ ?_;try simp only[pS])
    refine bq ?_;refine bG 7 fun K hK=>?_;go_simp;refine HR.out.mono ?_;rintro e w4 ⟨v4,Oy,rfl,hr4,oI,dJ⟩;have gJ:=zh (HW2.out.put (iK:=Tr.fq av h Yn) (u:=fun n=>{ n with a:=Oy,at':=jY (f ia).at' o.s }) (U:=fun n=>{ n with attrs:=jY (f ia).at' o.s }) aI hg (fun _=>⟨rfl,rfl⟩) (fun _=>rfl) (fun _=>⟨rfl,rfl⟩) (fun _=>rfl) (by rw[hh];exact HV5.out.1) (by rw[hh];exact HV5.out.2.1) (by rw[hh];exact HV5.out.2.2.1) HV5.out.2.2.2 oI dJ (by have h1:=HW2.out.bd ia aI;have h2:=Ol (f ia).at' o.s;exact⟨by show (jY (f ia).at' o.s).length≤_;omega,by show (f ia).data.size≤_;omega,h1.2.2⟩) ((HW2.out.ok.2 ia aI).drop o.s Oy));have uM:=zh (iJ.out.turns dJ.1 (Lc.out.aV iJ.out (by decide) (by decide) (by decide) (by decide)));have FT:=zh (show jw T B M gh oh m ch w.heap.size ia h o w4 from bD gJ.out.tw uM.out HLEN.out (by rw[←hh];exact HV.out.bJ aI));have hrc:[fK ia o.s (lD (f ia).at' o.s) true].map (rz (hof hs))=[jL h o.s (lD (f ia).at' o.s) true]:=by rw[←hh];simp[rz,fK,jL,mF]
    have qm:=zh (dB T B M V2.heap.size V3.heap.size _ _ v4 hs [fK ia o.s (lD (f ia).at' o.s) true] w4 gJ.out.tw (by rw[hrc];exact bY Di.out dJ.1 (fun k hk hm=>by have h1:=(Di.out.lt k hk).1;have h2:=(HW2.out.mv.lt k hm).2;omega)) hr4 (by simp));obtain⟨A4,c4,rfl⟩:=aF (aG hr4);clear hr4 oI dJ hrc;refine hK.out _ _ (FT.out) fun ah=>?_;clear hK K;(try simp only[pS]);refine bn [8,9,10,11,12] ?_;iterate 5 (refine cZ ?_;try simp only[pS])
    refine bq ?_;refine eY ?_;go_wp2_with fail;refine qm.out.mono ?_;rintro e w5 ⟨rfl,hb5⟩;have bC:=zh (gJ.out.below hb5);clear hb5;go_wp2_with fail;go_ret2;exact⟨_,[],_,_,_,_,_,_,_,_,_,_,_,_,rfl,bC.out⟩
   ·have HAT:=zh hat;clear hat;have HC:=zh (FL base B b s (hof hs 0) h live n g av fr vs vf _ o.s V2 HW2.out.tv HW2.out.so HW2.out.at' Rx.out EG.out FI.out (by show (f ia).at'.length≤1000;omega) HAT.out);refine wp_region_noPanic ?_;refine wp_region_held_drew (S:=jw T B M gh oh m ch w.heap.size ia h o) (by kernel_rfl) ?_ (fun ah=>?_)
    ·exact (by rw[hV2];exact gV.out)
    rw[hV2] at ah ⊢;refine bn [0,1,2,3,4,5,6,7,8,9,10,11,12] ?_;iterate 13 (refine cZ ?_;try simp only[pS])
    refine bq ?_;refine bG 13 fun K hK=>?_;go_simp;refine HC.out.mono ?_;rintro e w3 ⟨rfl,hb3⟩;have gJ:=zh (HW2.out.below hb3).up;have eU:=zh (gG.out.below hb3 gG.out.lt);have jA:=zh (show jw T B M gh oh m ch w.heap.size ia h o w3 from bD gJ.out.tw eU.out HLEN.out (by rw[←hh];exact HV.out.bJ aI));clear hb3;refine hK.out _ _ (jA.out) fun ah=>?_;clear hK K;(try simp only[pS]);refine bn [14,15,16,17,18] ?_;iterate 5 (refine cZ ?_;try simp only[pS])
    refine bq ?_;refine eY ?_;go_wp2_with fail;obtain⟨V3,kL⟩:=eX (w3.drew)
    have bP:Below w3.heap.size w3 V3:=lW kL;have rA:=zh (gJ.out.below bP);have iJ:=zh (eU.out.below bP eU.out.lt);have nV:=zh (show jw T B M gh oh m ch w.heap.size ia h o V3 from bD rA.out.tw iJ.out HLEN.out (by rw[←hh];exact HV.out.bJ aI));have HR:=zh (Iw bM M m aP f ia o.s V3 rA.out.mv aI (by omega) FI.out (by omega) HAT.out);have qm:=zh (dB T B M 0 0 _ (.slice none 0 0) (.slice none 0 0) hs [] V3 rA.out.tw (World.ownsRow_nil _ _ _ _) (World.ownsRow_nil _ _ _ _) (by simp));refine wp_region_noPanic ?_;refine wp_region_held_drew (S:=jw T B M gh oh m ch w.heap.size ia h o) (by kernel_rfl) ?_ (fun ah=>?_)
    ·exact (by rw[kL];exact nV.out)
    rw[kL] at ah ⊢;refine bn [0,1,2,3,4,5,6] ?_;iterate 7 (refine cZ ?_;try simp only[pS])
    refine bq ?_;refine bG 7 fun K hK=>?_;go_simp;refine HR.out.mono ?_;rintro e w4 ⟨rfl,hw4⟩;rw[hw4];clear hw4;refine hK.out _ _ (nV.out) fun ah=>?_;clear hK K;(try simp only[pS]);refine bn [8,9,10,11,12] ?_;iterate 5 (refine cZ ?_;try simp only[pS])
    refine bq ?_;refine eY ?_;go_wp2_with fail;refine qm.out.mono ?_;rintro e w5 ⟨rfl,hb5⟩;have bC:=zh (rA.out.below hb5);clear hb5;go_wp2_with fail;go_ret2;exact⟨_,[],_,_,_,_,_,_,_,_,_,_,_,_,rfl,bC.out⟩
  ·have Jq:fD g h=10:=by unfold fD;rw[eg];exact if_neg hk2
   have HC:=zh (zP base B b s (hof hs 0) h live n g av fr vs vf o.s V2 HW2.out.tv HW2.out.so Ji Rx.out (by rw[Jq];decide));rw[Jq] at HC;have FI:=zh hk2;clear eg Jq hk2;refine wp_region_noPanic ?_;refine wp_region_held_drew (S:=jw T B M gh oh m ch w.heap.size ia h o) (by kernel_rfl) ?_ (fun ah=>?_)
   ·exact (by rw[hV2];exact gV.out)
   rw[hV2] at ah ⊢;refine bn [0,1,2,3,4,5,6,7,8,9,10,11,12] ?_;iterate 13 (refine cZ ?_;try simp only[pS])
   refine bq ?_;refine bG 13 fun K hK=>?_;go_simp;refine HC.out.mono ?_;rintro e w3 ⟨rfl,hb3⟩;have gJ:=zh (HW2.out.below hb3).up;have eU:=zh (gG.out.below hb3 gG.out.lt);have jA:=zh (show jw T B M gh oh m ch w.heap.size ia h o w3 from bD gJ.out.tw eU.out HLEN.out (by rw[←hh];exact HV.out.bJ aI));clear hb3;refine hK.out _ _ (jA.out) fun ah=>?_;clear hK K;(try simp only[pS]);refine bn [14,15,16,17,18] ?_;iterate 5 (refine cZ ?_;try simp only[pS])
   refine bq ?_;refine eY ?_;go_wp2_with fail;obtain⟨V3,kL⟩:=eX (w3.drew)
   have bP:Below w3.heap.size w3 V3:=lW kL;have rA:=zh (gJ.out.below bP);have iJ:=zh (eU.out.below bP eU.out.lt);have nV:=zh (show jw T B M gh oh m ch w.heap.size ia h o V3 from bD rA.out.tw iJ.out HLEN.out (by rw[←hh];exact HV.out.bJ aI));have HR:=zh (KH bM M m aP f ia o.s V3 rA.out.mv aI FI.out);have qm:=zh (dB T B M 0 0 _ (.slice none 0 0) (.slice none 0 0) hs [] V3 rA.out.tw (World.ownsRow_nil _ _ _ _) (World.ownsRow_nil _ _ _ _) (by simp));refine wp_region_noPanic ?_;refine wp_region_held_drew (S:=jw T B M gh oh m ch w.heap.size ia h o) (by kernel_rfl) ?_ (fun ah=>?_)
   ·exact (by rw[kL];exact nV.out)
   rw[kL] at ah ⊢;refine bn [0,1,2,3,4,5,6] ?_;iterate 7 (refine cZ ?_;try simp only[pS])
   refine bq ?_;refine bG 7 fun K hK=>?_;go_simp;refine HR.out.mono ?_;rintro e w4 ⟨rfl,hw4⟩;rw[hw4];clear hw4;refine hK.out _ _ (nV.out) fun ah=>?_;clear hK K;(try simp only[pS]);refine bn [8,9,10,11,12] ?_;iterate 5 (refine cZ ?_;try simp only[pS])
   refine bq ?_;refine eY ?_;go_wp2_with fail;refine qm.out.mono ?_;rintro e w5 ⟨rfl,hb5⟩;have bC:=zh (rA.out.below hb5);clear hb5;go_wp2_with fail;go_ret2;exact⟨_,[],_,_,_,_,_,_,_,_,_,_,_,_,rfl,bC.out⟩
end
section
open Go.RowKit
variable [mQ]
theorem oU {w:World} {T B M gh oh ch m X:Nat} {hs:List Int} {o:qp} (H:oW w T B M (.slice (some ⟨gh,oh,none⟩) hs.length ch) hs) (hX:Whole w X #[.int .u8 o.kind,.int .u8 o.a,.int .u8 o.b,.int .u8 o.c,.string o.s,.string o.t,.int .i8 o.n,.int .i8 o.k] 62) (hl:hs.length=m):Iq T B M gh oh m ch X o w:=by
 rw[←hl];exact⟨H.var.cell 0,H.var.cell 1,H.var.cell 2,hX.cell 4,hX.cell 5⟩
theorem IE (W:World) (E:TypeId) (a b c d:ByteArray):TR (W.alloc (.cells #[.string a,.string b,.string c,.string d] E)) 0 E 2 (.slice (some ⟨W.heap.size,0,none⟩) 2 2) 2 (fP [(a,b),(c,d)]):=
 (TR.jP (World.ownsRow_lit (base:=W.heap.size) (e:=E) (size:=2) W #[.string a,.string b,.string c,.string d] 2 (Nat.le_refl _) (by unfold maxLen;omega) rfl)).zero
end
section
open Go.RowKit
variable [mQ]
theorem BR (base bM T B M:Nat) (b s:Int) (vs vf aP vh:Value) (n live m:Nat) (fr:List Nat) (av:Int→Tr.Sl) (f:Nat→RS) (hs:List Int) (g:Tr.G) (K:Nat) (o:qp) (w:World) (H:TW w base bM T B M b s vs vf aP vh n live m fr av f hs g K) (ho:pE o) (kk kd:Int) (hkk:(kk=0∧kd=2)∨(kk=1∧kd=3)∨(kk=2∧kd=4)) (hkd:o.kind.tmod 10=kk) (hn0:¬ 0<o.n) (hm:m≤300) (hK:K≤60) (hT:Lit w):
  uL base bM T B M b s K o w:=by
 unfold uL;rcases hkk with ⟨rfl,TU⟩ | ⟨rfl,TU⟩ | ⟨rfl,TU⟩
 all_goals
  have Lm:=zh TU;clear TU;obtain⟨ia,hia,aI⟩:=aR ho.a.1 H.m0;obtain⟨ib,hib,iT⟩:=aR ho.b.1 H.m0;obtain⟨ic,hic,qw⟩:=aR (m:=m+1) ho.c.1 (by omega);rw[Int.natCast_add] at hic;have hlen:=H.len;have hm0:=H.m0;obtain⟨w1,gh,oh,ch,rfl,mz,IU,IV,IW,hw1,fQ,HB1,H1,ql,jM,HLEN,sG,sH,t0,t1,t2,x0,x1,x2,x3,x4,x5,x6,x7,IX,IY,IZ,I4,I5,I6,I7,I8⟩:=iB H ho hT;have ze:=zh (fun (W:World) (hb:Below w.heap.size w W)=>H.mv.below hb);have dZ:=zh (fun (W:World) (hb:Below w.heap.size w W) (j:Nat) (hj:j<m)=>bX bM M m aP f j W (H.mv.below hb) hj (by omega));clear H ho hT
  go_enter Tryz.func16,Tryz.ntmps16
  go_wp2_with fail;(try rw[hw1]);try go_wp2_with fail
  go_quiet (fail)
  obtain⟨V,hV⟩:=eX (w1.drewN nq)
  have dS:Below w1.heap.size w1 V:=Jg hV;have bK:=zh (HB1.out.trans (dS.mono HB1.out.size));have dH:=zh (fQ.out.below dS fQ.out.lt);have HV:=zh (H1.out.below dS);have vv:=zh (jM.out.below dS);obtain⟨t0',t1',t2'⟩:=sH.out V bK.out;have z0:V.cell? ⟨w.heap.size,0,none⟩=some (.int .u8 o.kind):=dH.out.cell 0;have z4:V.cell? ⟨w.heap.size,4,none⟩=some (.string o.s):=dH.out.cell 4;have z5:V.cell? ⟨w.heap.size,5,none⟩=some (.string o.t):=dH.out.cell 5;have z6:V.cell? ⟨w.heap.size,6,none⟩=some (.int .i8 o.n):=dH.out.cell 6;have z7:V.cell? ⟨w.heap.size,7,none⟩=some (.int .i8 o.k):=dH.out.cell 7;clear t0 t1 t2 x0 x1 x2 x3 x4 x5 x6 x7 dS;(try rw[hV]);go_wp2_with fail;refine (dZ.out V bK.out ia aI).mono ?_;rintro e w2 ⟨rfl,hw2⟩;rw[hw2];clear dZ hw2;have V4:=HV;have RX:=vv;have HXB:=dH;go_wp2_with fail;obtain⟨V2,hV2⟩:=eX (V.drew)
  have bN:Below V.heap.size V V2:=lW hV2;have HW2:=zh (V4.out.below bN);have gG:=zh (HXB.out.below bN HXB.out.lt);have HL2:=zh (RX.out.below bN);have gV:=zh (show Iq T B M gh oh m ch w.heap.size o V2 from oU HW2.out.tw gG.out HLEN.out);have Py:=zh HW2.out.mv;have HC:=zh (Ei (K:=K) HW2.out hm HL2.out kd (by have:=Lm.out;omega) o.s o.t ql.out.s ql.out.t [] (by simp) (by intro p hp;cases hp) none 0 (TR.nil _ _ _ _) none 0 (TR.nil _ _ _ _));rw[Lm.out] at HC;clear bN;refine wp_region_noPanic ?_;refine wp_region_held_drew (S:=Iq T B M gh oh m ch w.heap.size o) (by kernel_rfl) ?_ (fun ah=>?_)
  ·exact (by rw[hV2];exact gV.out)
  rw[hV2] at ah ⊢;refine bn [0,1,2,3,4,5,6,7,8,9] ?_;iterate 10 (refine cZ ?_;try simp only[pS])
  refine bq ?_;refine bG 10 fun K hK=>?_;go_simp;refine HC.out.mono ?_;rintro e w3 ⟨h,E,rfl,hE,ht3,oF,hM⟩;have eU:=zh (gG.out.turns ht3 (HW2.out.tv.aV gG.out (by decide) (by decide) (by decide)));have jA:=zh (show Iq T B M gh oh m ch w.heap.size o w3 from oU oF eU.out HLEN.out);have OI:=zh (Py.out.turns ht3 (fun x hx hf=>HW2.out.Xf x hf hx));have OH:=zh oF;have HM:=zh hM;have HE:=zh hE;clear ht3 oF hM hE HC;refine hK.out _ _ (jA.out) fun ah=>?_;clear hK K;(try simp only[pS]);refine bn [11,12,13,14,15] ?_;iterate 5 (refine cZ ?_;try simp only[pS])
  refine bq ?_;refine eY ?_;obtain⟨V3,kL⟩:=eX (w3.drew)
  have bP:Below w3.heap.size w3 V3:=lW kL;have iJ:=zh (eU.out.below bP eU.out.lt);have zi:=zh (OH.out.below bP);have Rl:=zh (OI.out.below bP);have nV:=zh (show Iq T B M gh oh m ch w.heap.size o V3 from oU zi.out iJ.out HLEN.out);have qV:=zh (HM.out V3 bP);clear bP HM;obtain⟨i0,hi0,hz0,hz1,hz2⟩:=info_parts lZ;rcases HE.out with hE | hE
  ·obtain⟨hE1,hE2⟩:=hE;subst hE1;subst hE2;go_wp2_with fail;refine wp_region_noPanic ?_;refine wp_region_held_drew (S:=Iq T B M gh oh m ch w.heap.size o) (by kernel_rfl) ?_ (fun ah=>?_)
   ·exact (by rw[kL];exact nV.out)
   rw[kL] at ah ⊢;refine bn [0,1,2,3,4,5,6,7,8,9] ?_;iterate 10 (refine cZ ?_;try simp only[pS])
   refine bq ?_;refine bG 10 fun K hK=>?_;go_simp;refine qV.out.mono ?_;rintro e w4 ⟨rfl,CU,hcase⟩;rcases hcase with ⟨-,-,h1⟩ | ⟨h1,-⟩
   rotate_left 1
   ·exact absurd h1 (by decide)
   have HF:=zh h1;clear h1;have wU:=zh (iJ.out.turns CU (Rl.out.aV iJ.out (by decide) (by decide) (by decide) (by decide)));have Ev:=zh (show Iq T B M gh oh m ch w.heap.size o w4 from oU HF.out.tw wU.out HLEN.out);clear CU;refine hK.out _ _ (Ev.out) fun ah=>?_;clear hK K;(try simp only[pS]);refine bn [11] ?_
   (refine cZ ?_;try simp only[pS])
   refine bq ?_;refine eY ?_;go_wp2_with fail;go_ret2;exact⟨_,[],_,_,_,_,_,_,_,_,_,_,_,_,rfl,HF.out⟩
  ·obtain⟨hE1,hh0⟩:=hE;subst hE1;have q1:(h == 0)=false:=by simpa using hh0
   have q2:(h != 0)=true:=by simpa using hh0
   go_wp2_with fail;refine wp_region_noPanic ?_;refine wp_region_held_drew (S:=Iq T B M gh oh m ch w.heap.size o) (by kernel_rfl) ?_ (fun ah=>?_)
   ·exact (by rw[kL];exact nV.out)
   rw[kL] at ah ⊢;refine bn [0,1,2,3,4,5,6,7,8,9] ?_;iterate 10 (refine cZ ?_;try simp only[pS])
   refine bq ?_;refine bG 10 fun K hK=>?_;go_simp;refine qV.out.mono ?_;rintro e w4 ⟨rfl,CU,hcase⟩;rcases hcase with ⟨h1,-⟩ | ⟨-,-,KM,hx4⟩
   ·exact absurd h1 (by decide)
   have wU:=zh (iJ.out.turns CU (Rl.out.aV iJ.out (by decide) (by decide) (by decide) (by decide)));have Ev:=zh (show Iq T B M gh oh m ch w.heap.size o w4 from oU KM wU.out HLEN.out);have Jc:=zh KM;have uM:=zh hx4;clear CU KM hx4;refine hK.out _ _ (Ev.out) fun ah=>?_;clear hK K;(try simp only[pS]);refine bn [11] ?_
   (refine cZ ?_;try simp only[pS])
   refine bq ?_;refine eY ?_;obtain⟨t0,t1,t2,-⟩:=Ev.out;obtain⟨w5,fE⟩:=eX (w4.alloc (.cells #[.int .i64 h] 3))
   have hb5:Below w4.heap.size w4 w5:=fI fE;have s5:=jh w4 3 (.int .i64 h);rw[fE] at s5;have xq:=(Jc.out.below hb5).row;have jg:=zh hb5;have hln:=HLEN.out;rw[hln] at xq;clear hb5
   go_wp2_with (at_builtin;refine bA rfl _ _ 39 rfl 0 3 i0 (.int .i64 0) 1 8 Tryz.underlying39 hi0 hz0 hz1 hz2 rfl (by decide) _ m (ints hs) rfl xq _ 1 (ints [h]) rfl rfl (.inr ⟨_,_,rfl,s5⟩) (eB _) ?c3 ?c4 (Nat.zero_le _) ?_)
   case c3=>unfold maxLen;omega
   case c4=>omega
   intro v6 w6 o6 g6 f6;rw[←gD,←hln] at o6;obtain⟨Xj,Rm,ht6,hv6⟩:=oW.pushed Jc.out jg.out g6 o6 f6;rw[hln] at o6;obtain⟨A6,c6,rfl⟩:=o6.form;have bC:=zh (uM.out _ _ Rm ht6 hv6);have e0:w6.cell? ⟨T,2,none⟩=some (.slice (some ⟨gh,oh,none⟩) hs.length ch):=Xj.cell 2;have e1:=Xj.free 2;clear g6 o6 f6 Xj Rm ht6 hv6 s5 xq hln;go_wp2_with fail;go_ret2;obtain⟨vs',dw,dP,n',aY,fr',iK,f',g',hfin⟩:=bC.out;exact⟨_,[],_,_,_,_,_,_,_,_,_,_,_,_,rfl,hfin⟩
end
section
open Go.RowKit
variable [mQ]
theorem BS (base bM T B M:Nat) (b s:Int) (vs vf aP vh:Value) (n live m:Nat) (fr:List Nat) (av:Int→Tr.Sl) (f:Nat→RS) (hs:List Int) (g:Tr.G) (K:Nat) (o:qp) (w:World) (H:TW w base bM T B M b s vs vf aP vh n live m fr av f hs g K) (ho:pE o) (kk kd:Int) (hkk:(kk=0∧kd=2)∨(kk=1∧kd=3)∨(kk=2∧kd=4)) (hkd:o.kind.tmod 10=kk) (hn0:0<o.n) (hm:m≤300) (hK:K≤60) (hT:Lit w):
  uL base bM T B M b s K o w:=by
 unfold uL;rcases hkk with ⟨rfl,TU⟩ | ⟨rfl,TU⟩ | ⟨rfl,TU⟩
 all_goals
  have Lm:=zh TU;clear TU;obtain⟨ia,hia,aI⟩:=aR ho.a.1 H.m0;obtain⟨ib,hib,iT⟩:=aR ho.b.1 H.m0;obtain⟨ic,hic,qw⟩:=aR (m:=m+1) ho.c.1 (by omega);rw[Int.natCast_add] at hic;have hlen:=H.len;have hm0:=H.m0;obtain⟨w1,gh,oh,ch,rfl,mz,IU,IV,IW,hw1,fQ,HB1,H1,ql,jM,HLEN,sG,sH,t0,t1,t2,x0,x1,x2,x3,x4,x5,x6,x7,IX,IY,IZ,I4,I5,I6,I7,I8⟩:=iB H ho hT;have ze:=zh (fun (W:World) (hb:Below w.heap.size w W)=>H.mv.below hb);have dZ:=zh (fun (W:World) (hb:Below w.heap.size w W) (j:Nat) (hj:j<m)=>bX bM M m aP f j W (H.mv.below hb) hj (by omega));clear H ho hT
  go_enter Tryz.func16,Tryz.ntmps16
  go_wp2_with fail;(try rw[hw1]);try go_wp2_with fail
  go_quiet (fail)
  obtain⟨V,hV⟩:=eX (w1.drewN nq)
  have dS:Below w1.heap.size w1 V:=Jg hV;have bK:=zh (HB1.out.trans (dS.mono HB1.out.size));have dH:=zh (fQ.out.below dS fQ.out.lt);have HV:=zh (H1.out.below dS);have vv:=zh (jM.out.below dS);obtain⟨t0',t1',t2'⟩:=sH.out V bK.out;have z0:V.cell? ⟨w.heap.size,0,none⟩=some (.int .u8 o.kind):=dH.out.cell 0;have z4:V.cell? ⟨w.heap.size,4,none⟩=some (.string o.s):=dH.out.cell 4;have z5:V.cell? ⟨w.heap.size,5,none⟩=some (.string o.t):=dH.out.cell 5;have z6:V.cell? ⟨w.heap.size,6,none⟩=some (.int .i8 o.n):=dH.out.cell 6;have z7:V.cell? ⟨w.heap.size,7,none⟩=some (.int .i8 o.k):=dH.out.cell 7;clear t0 t1 t2 x0 x1 x2 x3 x4 x5 x6 x7 dS;(try rw[hV]);go_wp2_with fail;refine (dZ.out V bK.out ia aI).mono ?_;rintro e w2 ⟨rfl,hw2⟩;rw[hw2];clear dZ hw2;obtain⟨WA,Ce⟩:=eX (V.alloc (.cells #[.string o.t,.string o.s,.string ⟨#[107]⟩,.string o.t] 95))
  have Ui:Below V.heap.size V WA:=fI Ce;have HRA:=zh (IE V 95 o.t o.s ⟨#[107]⟩ o.t);rw[Ce] at HRA;obtain⟨WB,Ve⟩:=eX (WA.alloc (.cells #[.string o.t,.string o.s,.string ⟨#[107]⟩,.string o.t] 96))
  have hbB:Below WA.heap.size WA WB:=fI Ve;have HRB:=zh (IE WA 96 o.t o.s ⟨#[107]⟩ o.t);rw[Ve] at HRB;have Rn:=dH.out.below Ui dH.out.lt;have uz:=Rn.below hbB Rn.lt;have y4:WA.cell? ⟨w.heap.size,4,none⟩=some (.string o.s):=Rn.cell 4;have y5:WA.cell? ⟨w.heap.size,5,none⟩=some (.string o.t):=Rn.cell 5;have V4:=zh ((HV.out.below Ui).below hbB);have RX:=zh ((vv.out.below Ui).below hbB);have HXB:=zh uz;have abB:=zh (HRA.out.below hbB);clear Ui hbB Rn uz HRA;go_wp2_with fail;(try rw[Ce]);(try go_wp2_with fail);(try rw[Ve]);(try go_wp2_with fail);clear Ce Ve;obtain⟨V2,hV2⟩:=eX (WB.drew)
  have bN:Below WB.heap.size WB V2:=lW hV2;have HW2:=zh (V4.out.below bN);have gG:=zh (HXB.out.below bN HXB.out.lt);have HL2:=zh (RX.out.below bN);have gV:=zh (show Iq T B M gh oh m ch w.heap.size o V2 from oU HW2.out.tw gG.out HLEN.out);have Py:=zh HW2.out.mv;have HC:=zh (Ei (K:=K) HW2.out hm HL2.out kd (by have:=Lm.out;omega) o.s o.t ql.out.s ql.out.t [(o.t,o.s),(⟨#[107]⟩,o.t)] (by simp) (by have h1:=ql.out.s;have h2:=ql.out.t;intro p hp;simp only[List.mem_cons,List.not_mem_nil,or_false] at hp;rcases hp with rfl | rfl<;>constructor<;>first | assumption | (show (1:Nat)≤40;decide)) (some ⟨V.heap.size,0,none⟩) 2 (abB.out.below bN) (some ⟨WA.heap.size,0,none⟩) 2 (HRB.out.below bN));rw[Lm.out] at HC;clear bN;refine wp_region_noPanic ?_;refine wp_region_held_drew (S:=Iq T B M gh oh m ch w.heap.size o) (by kernel_rfl) ?_ (fun ah=>?_)
  ·exact (by rw[hV2];exact gV.out)
  rw[hV2] at ah ⊢;refine bn [0,1,2,3,4,5,6,7,8,9] ?_;iterate 10 (refine cZ ?_;try simp only[pS])
  refine bq ?_;refine bG 10 fun K hK=>?_;go_simp;refine HC.out.mono ?_;rintro e w3 ⟨h,E,rfl,hE,ht3,oF,hM⟩;have eU:=zh (gG.out.turns ht3 (HW2.out.tv.aV gG.out (by decide) (by decide) (by decide)));have jA:=zh (show Iq T B M gh oh m ch w.heap.size o w3 from oU oF eU.out HLEN.out);have OI:=zh (Py.out.turns ht3 (fun x hx hf=>HW2.out.Xf x hf hx));have OH:=zh oF;have HM:=zh hM;have HE:=zh hE;clear ht3 oF hM hE HC;refine hK.out _ _ (jA.out) fun ah=>?_;clear hK K;(try simp only[pS]);refine bn [11,12,13,14,15] ?_;iterate 5 (refine cZ ?_;try simp only[pS])
  refine bq ?_;refine eY ?_;obtain⟨V3,kL⟩:=eX (w3.drew)
  have bP:Below w3.heap.size w3 V3:=lW kL;have iJ:=zh (eU.out.below bP eU.out.lt);have zi:=zh (OH.out.below bP);have Rl:=zh (OI.out.below bP);have nV:=zh (show Iq T B M gh oh m ch w.heap.size o V3 from oU zi.out iJ.out HLEN.out);have qV:=zh (HM.out V3 bP);clear bP HM;obtain⟨i0,hi0,hz0,hz1,hz2⟩:=info_parts lZ;rcases HE.out with hE | hE
  ·obtain⟨hE1,hE2⟩:=hE;subst hE1;subst hE2;go_wp2_with fail;refine wp_region_noPanic ?_;refine wp_region_held_drew (S:=Iq T B M gh oh m ch w.heap.size o) (by kernel_rfl) ?_ (fun ah=>?_)
   ·exact (by rw[kL];exact nV.out)
   rw[kL] at ah ⊢;refine bn [0,1,2,3,4,5,6,7,8,9] ?_;iterate 10 (refine cZ ?_;try simp only[pS])
   refine bq ?_;refine bG 10 fun K hK=>?_;go_simp;refine qV.out.mono ?_;rintro e w4 ⟨rfl,CU,hcase⟩;rcases hcase with ⟨-,-,h1⟩ | ⟨h1,-⟩
   rotate_left 1
   ·exact absurd h1 (by decide)
   have HF:=zh h1;clear h1;have wU:=zh (iJ.out.turns CU (Rl.out.aV iJ.out (by decide) (by decide) (by decide) (by decide)));have Ev:=zh (show Iq T B M gh oh m ch w.heap.size o w4 from oU HF.out.tw wU.out HLEN.out);clear CU;refine hK.out _ _ (Ev.out) fun ah=>?_;clear hK K;(try simp only[pS]);refine bn [11] ?_
   (refine cZ ?_;try simp only[pS])
   refine bq ?_;refine eY ?_;go_wp2_with fail;go_ret2;exact⟨_,[],_,_,_,_,_,_,_,_,_,_,_,_,rfl,HF.out⟩
  ·obtain⟨hE1,hh0⟩:=hE;subst hE1;have q1:(h == 0)=false:=by simpa using hh0
   have q2:(h != 0)=true:=by simpa using hh0
   go_wp2_with fail;refine wp_region_noPanic ?_;refine wp_region_held_drew (S:=Iq T B M gh oh m ch w.heap.size o) (by kernel_rfl) ?_ (fun ah=>?_)
   ·exact (by rw[kL];exact nV.out)
   rw[kL] at ah ⊢;refine bn [0,1,2,3,4,5,6,7,8,9] ?_;iterate 10 (refine cZ ?_;try simp only[pS])
   refine bq ?_;refine bG 10 fun K hK=>?_;go_simp;refine qV.out.mono ?_;rintro e w4 ⟨rfl,CU,hcase⟩;rcases hcase with ⟨h1,-⟩ | ⟨-,-,KM,hx4⟩
   ·exact absurd h1 (by decide)
   have wU:=zh (iJ.out.turns CU (Rl.out.aV iJ.out (by decide) (by decide) (by decide) (by decide)));have Ev:=zh (show Iq T B M gh oh m ch w.heap.size o w4 from oU KM wU.out HLEN.out);have Jc:=zh KM;have uM:=zh hx4;clear CU KM hx4;refine hK.out _ _ (Ev.out) fun ah=>?_;clear hK K;(try simp only[pS]);refine bn [11] ?_
   (refine cZ ?_;try simp only[pS])
   refine bq ?_;refine eY ?_;obtain⟨t0,t1,t2,-⟩:=Ev.out;obtain⟨w5,fE⟩:=eX (w4.alloc (.cells #[.int .i64 h] 3))
   have hb5:Below w4.heap.size w4 w5:=fI fE;have s5:=jh w4 3 (.int .i64 h);rw[fE] at s5;have xq:=(Jc.out.below hb5).row;have jg:=zh hb5;have hln:=HLEN.out;rw[hln] at xq;clear hb5
   go_wp2_with (at_builtin;refine bA rfl _ _ 39 rfl 0 3 i0 (.int .i64 0) 1 8 Tryz.underlying39 hi0 hz0 hz1 hz2 rfl (by decide) _ m (ints hs) rfl xq _ 1 (ints [h]) rfl rfl (.inr ⟨_,_,rfl,s5⟩) (eB _) ?c3 ?c4 (Nat.zero_le _) ?_)
   case c3=>unfold maxLen;omega
   case c4=>omega
   intro v6 w6 o6 g6 f6;rw[←gD,←hln] at o6;obtain⟨Xj,Rm,ht6,hv6⟩:=oW.pushed Jc.out jg.out g6 o6 f6;rw[hln] at o6;obtain⟨A6,c6,rfl⟩:=o6.form;have bC:=zh (uM.out _ _ Rm ht6 hv6);have e0:w6.cell? ⟨T,2,none⟩=some (.slice (some ⟨gh,oh,none⟩) hs.length ch):=Xj.cell 2;have e1:=Xj.free 2;clear g6 o6 f6 Xj Rm ht6 hv6 s5 xq hln;go_wp2_with fail;go_ret2;obtain⟨vs',dw,dP,n',aY,fr',iK,f',g',hfin⟩:=bC.out;exact⟨_,[],_,_,_,_,_,_,_,_,_,_,_,_,rfl,hfin⟩
end
section
open Go.RowKit
variable [mQ]
theorem TY (base bM T B M:Nat) (b s:Int) (vs vf aP vh:Value) (n live m:Nat) (fr:List Nat) (av:Int→Tr.Sl) (f:Nat→RS) (hs:List Int) (g:Tr.G) (K:Nat) (o:qp) (w:World) (H:TW w base bM T B M b s vs vf aP vh n live m fr av f hs g K) (ho:pE o) (hkd:o.kind.tmod 10=9) (hm:m≤300) (hK:K≤60) (hT:Lit w):
  uL base bM T B M b s K o w:=by
 unfold uL;obtain⟨ia,hia,aI⟩:=aR ho.a.1 H.m0;obtain⟨ib,hib,iT⟩:=aR ho.b.1 H.m0;obtain⟨ic,hic,qw⟩:=aR (m:=m+1) ho.c.1 (by omega);rw[Int.natCast_add] at hic;have hlen:=H.len;have hm0:=H.m0;obtain⟨w1,gh,oh,ch,rfl,mz,IU,IV,IW,hw1,fQ,HB1,H1,ql,jM,HLEN,sG,sH,t0,t1,t2,x0,x1,x2,x3,x4,x5,x6,x7,IX,IY,IZ,I4,I5,I6,I7,I8⟩:=iB H ho hT;have ze:=zh (fun (W:World) (hb:Below w.heap.size w W)=>H.mv.below hb);have dZ:=zh (fun (W:World) (hb:Below w.heap.size w W) (j:Nat) (hj:j<m)=>bX bM M m aP f j W (H.mv.below hb) hj (by omega));clear H ho hT
 go_enter Tryz.func16,Tryz.ntmps16
 go_wp2_with fail;(try rw[hw1]);try go_wp2_with fail
 go_quiet (fail)
 obtain⟨V,hV⟩:=eX (w1.drewN nq)
 have dS:Below w1.heap.size w1 V:=Jg hV;have bK:=zh (HB1.out.trans (dS.mono HB1.out.size));have dH:=zh (fQ.out.below dS fQ.out.lt);have HV:=zh (H1.out.below dS);have vv:=zh (jM.out.below dS);obtain⟨t0',t1',t2'⟩:=sH.out V bK.out;have z0:V.cell? ⟨w.heap.size,0,none⟩=some (.int .u8 o.kind):=dH.out.cell 0;have z4:V.cell? ⟨w.heap.size,4,none⟩=some (.string o.s):=dH.out.cell 4;have z5:V.cell? ⟨w.heap.size,5,none⟩=some (.string o.t):=dH.out.cell 5;have z6:V.cell? ⟨w.heap.size,6,none⟩=some (.int .i8 o.n):=dH.out.cell 6;have z7:V.cell? ⟨w.heap.size,7,none⟩=some (.int .i8 o.k):=dH.out.cell 7;clear t0 t1 t2 x0 x1 x2 x3 x4 x5 x6 x7 dS;(try rw[hV]);go_wp2_with fail;refine (dZ.out V bK.out ia aI).mono ?_;rintro e w2 ⟨rfl,hw2⟩;rw[hw2];clear dZ hw2;go_wp2_with fail;obtain⟨h,hh⟩:=eX (hof hs (ia:Int))
 obtain⟨V2,hV2⟩:=eX (V.drew)
 have bN:Below V.heap.size V V2:=lW hV2;have ru:=zh (bK.out.trans (bN.mono bK.out.size));have HW2:=zh (HV.out.below bN);have gG:=zh (dH.out.below bN dH.out.lt);have HL2:=zh (vv.out.below bN);have gV:=zh (show jw T B M gh oh m ch w.heap.size ia h o V2 from bD HW2.out.tw gG.out HLEN.out (by rw[←hh];exact HV.out.bJ aI));have K4:(0:Int)≤(ia:Int):=by omega
 have K5:(ia:Int)<(m:Int):=by omega
 have T9:=zh (show ∀ k,aC M aP m f k→¬ ((.slice (some ⟨gh,oh,none⟩) m ch):Value).ownBlock=some k from fun k hk hv=>(HW2.out.zw k (by rw[HLEN.out];exact hv)).2 hk);cases hg:(f ia).gone with
 | true=>
  obtain⟨e1,e2⟩:=HW2.out.mD aI hg;have HC:=zh (KD base B b s (hof hs 0) h live n (Tr.raw g av) fr vs vf V2 HW2.out.tv HW2.out.so (by rw[←hh];exact HW2.out.i64 aI) (by rw[←hh,e1];exact Tr.bF e2));clear e1 e2;refine wp_region_noPanic ?_;refine wp_region_held_drew (S:=jw T B M gh oh m ch w.heap.size ia h o) (by kernel_rfl) ?_ (fun ah=>?_)
  ·exact (by rw[hV2];exact gV.out)
  rw[hV2] at ah ⊢;refine bn [0,1,2,3,4,5,6,7,8,9,10] ?_;iterate 11 (refine cZ ?_;try simp only[pS])
  refine bq ?_;refine bG 11 fun K hK=>?_;go_simp;refine HC.out.mono ?_;rintro e w3 ⟨rfl,hb3⟩;have gJ:=zh (HW2.out.below hb3).up;have jA:=zh (show jw T B M gh oh m ch w.heap.size ia h o w3 from bD gJ.out.tw (gG.out.below hb3 gG.out.lt) HLEN.out (by rw[←hh];exact HV.out.bJ aI));clear hb3;refine hK.out _ _ (jA.out) fun ah=>?_;clear hK K;(try simp only[pS]);refine bn [12] ?_
  (refine cZ ?_;try simp only[pS])
  refine bq ?_;refine eY ?_;have O6:=zh (show oW w3 T B M (.slice (some ⟨gh,oh,none⟩) m ch) hs by have:=gJ.out.tw;rw[HLEN.out] at this;exact this);have HAP:=zh (show ∀ k,aC M aP m f k→¬ ((.slice (some ⟨gh,oh,none⟩) m ch):Value).ownBlock=some k from T9.out);go_wp2_with fail
  go_loopw [40] (fun u wr=>∃ j:Nat,u=.int .i64 (j:Int)∧j≤m∧Hid (HJ w3 T B M (.slice (some ⟨gh,oh,none⟩) m ch) m f hs j wr)) (fun u _=>m - (intOf u).toNat)
  case atStart=>exact⟨0,rfl,Nat.zero_le _,zh (HJ.start O6.out HLEN.out)⟩
  case round=>
   obtain⟨j,rfl,hj,qQ⟩:=hrel;by_cases hjm:j<m
   ·have y0:(0:Int)≤(j:Int):=by omega
    have y1:(j:Int)<(m:Int):=by omega
    have t1w:wr.cell? ⟨T,1,none⟩=some (.pointer (some ⟨M,0,none⟩)):=qQ.out.var.cell 1;have t2w:wr.cell? ⟨T,2,none⟩=some (.slice (some ⟨gh,oh,none⟩) m ch):=qQ.out.var.cell 2;have Vf:=zh (bX bM M m aP f j wr ((gJ.out.mv).turns qQ.out.turns HAP.out) hjm (by omega));obtain⟨xj,hxj⟩:∃ x,(hsJ f hs j)[j]?=some x:=⟨(hsJ f hs j)[j]'(by rw[qI,HLEN.out];exact hjm),by simp⟩
    have cj:wr.cell? ⟨gh,oh+j,none⟩=some (.int .i64 xj):=qQ.out.row.cellAt j _ (by omega) (eu hxj);have fj:=qQ.out.row.frozen (oh+j);clear hxj;go_wp2_with fail;refine Vf.out.mono ?_;rintro e w6 ⟨rfl,kZ⟩;rw[kZ];clear Vf kZ;cases hgj:(f j).gone with
    | true=>
     have HN:=zh (qQ.out.set hjm hgj);clear hgj;go_wp2_with fail
     go_roundw
     case rel=>exact⟨j+1,by go_num,by omega,HN⟩
     case measure=>simp[intOf];omega
    | false=>
     have HN:=zh (qQ.out.keep hgj);clear hgj;go_wp2_with fail
     go_roundw
     case rel=>exact⟨j+1,by go_num,by omega,HN⟩
     case measure=>simp[intOf];omega
   ·have y1:¬ (j:Int)<(m:Int):=by omega
    have IG:j=m:=by omega
    have Vg:=zh (show HJ w3 T B M (.slice (some ⟨gh,oh,none⟩) m ch) m f hs m wr by have:=qQ.out;rw[IG] at this;exact this);clear IG;have bC:=zh (gJ.out.handles (by rw[HLEN.out];have:=Vg.out.done HLEN.out;rw[BP m (fun i hi hg=>gJ.out.gn i hi hg)] at this;exact this) (by rw[HLEN.out];exact Vg.out.turns));go_wp2_with fail;go_ret2
    first | exact⟨_,[],_,_,_,_,_,_,_,_,_,_,_,_,rfl,bC.out⟩ | exact⟨⟨_,rfl⟩,_,_,_,_,_,_,_,_,_,_,_,_,bC.out⟩ | exact⟨⟨_,rfl⟩,[],_,_,_,_,_,_,_,_,_,_,_,_,bC.out⟩ | exact⟨[],_,_,_,_,_,_,_,_,_,_,_,_,bC.out⟩ | exact⟨[],_,_,_,_,_,_,_,_,_,_,_,_,rfl,bC.out⟩ | exact⟨rfl,_,[],_,_,_,_,_,_,_,_,_,_,_,_,bC.out⟩
 | false=>
  have eg:g h=some (Tr.eD (hof hs) (jZ (f ia))):=by rw[←hh];exact HW2.out.dx aI hg
  have hkk:(f ia).kind≠0:=HW2.out.kinds h _ eg;by_cases hst:ia=0∨∃ p:Nat,(f ia).pa=(p:Int)
  ·have HC:=zh (Ip base B b s (hof hs 0) h live n g av fr vs vf _ V2 HW2.out.tv HW2.out.so eg hkk (by
    rcases hst with e | ⟨p,e⟩
    ·refine .inl ?_;show (f ia).kind=1;rw[e];exact HW2.out.km.1
    ·refine .inr ?_;show hof hs (f ia).pa≠0;rcases HW2.out.im.pa _ _ (aM aI hg) with e1 | e1
     ·exact absurd (show (f ia).pa = -1 from e1) (by omega)
     ·exact HW2.out.im.nz _ e1))
   have HST:=zh hst;clear eg hkk hst;refine wp_region_noPanic ?_;refine wp_region_held_drew (S:=jw T B M gh oh m ch w.heap.size ia h o) (by kernel_rfl) ?_ (fun ah=>?_)
   ·exact (by rw[hV2];exact gV.out)
   rw[hV2] at ah ⊢;refine bn [0,1,2,3,4,5,6,7,8,9,10] ?_;iterate 11 (refine cZ ?_;try simp only[pS])
   refine bq ?_;refine bG 11 fun K hK=>?_;go_simp;refine HC.out.mono ?_;rintro e w3 ⟨rfl,hb3⟩;have gJ:=zh (HW2.out.below hb3).up;have jA:=zh (show jw T B M gh oh m ch w.heap.size ia h o w3 from bD gJ.out.tw (gG.out.below hb3 gG.out.lt) HLEN.out (by rw[←hh];exact HV.out.bJ aI));clear hb3;refine hK.out _ _ (jA.out) fun ah=>?_;clear hK K;(try simp only[pS]);refine bn [12] ?_
   (refine cZ ?_;try simp only[pS])
   refine bq ?_;refine eY ?_;have HR:=zh (Io bM M m aP f ia w3 gJ.out.mv aI HST.out);obtain⟨-,t13,-⟩:=jA.out;go_wp2_with fail;refine HR.out.mono ?_;rintro e w4 ⟨rfl,hw4⟩;rw[hw4];clear hw4;have O6:=zh (show oW w3 T B M (.slice (some ⟨gh,oh,none⟩) m ch) hs by have:=gJ.out.tw;rw[HLEN.out] at this;exact this);have HAP:=zh (show ∀ k,aC M aP m f k→¬ ((.slice (some ⟨gh,oh,none⟩) m ch):Value).ownBlock=some k from T9.out);go_wp2_with fail
   go_loopw [40] (fun u wr=>∃ j:Nat,u=.int .i64 (j:Int)∧j≤m∧Hid (HJ w3 T B M (.slice (some ⟨gh,oh,none⟩) m ch) m f hs j wr)) (fun u _=>m - (intOf u).toNat)
   case atStart=>exact⟨0,rfl,Nat.zero_le _,zh (HJ.start O6.out HLEN.out)⟩
   case round=>
    obtain⟨j,rfl,hj,qQ⟩:=hrel;by_cases hjm:j<m
    ·have y0:(0:Int)≤(j:Int):=by omega
     have y1:(j:Int)<(m:Int):=by omega
     have t1w:wr.cell? ⟨T,1,none⟩=some (.pointer (some ⟨M,0,none⟩)):=qQ.out.var.cell 1;have t2w:wr.cell? ⟨T,2,none⟩=some (.slice (some ⟨gh,oh,none⟩) m ch):=qQ.out.var.cell 2;have Vf:=zh (bX bM M m aP f j wr ((gJ.out.mv).turns qQ.out.turns HAP.out) hjm (by omega));obtain⟨xj,hxj⟩:∃ x,(hsJ f hs j)[j]?=some x:=⟨(hsJ f hs j)[j]'(by rw[qI,HLEN.out];exact hjm),by simp⟩
     have cj:wr.cell? ⟨gh,oh+j,none⟩=some (.int .i64 xj):=qQ.out.row.cellAt j _ (by omega) (eu hxj);have fj:=qQ.out.row.frozen (oh+j);clear hxj;go_wp2_with fail;refine Vf.out.mono ?_;rintro e w6 ⟨rfl,kZ⟩;rw[kZ];clear Vf kZ;cases hgj:(f j).gone with
     | true=>
      have HN:=zh (qQ.out.set hjm hgj);clear hgj;go_wp2_with fail
      go_roundw
      case rel=>exact⟨j+1,by go_num,by omega,HN⟩
      case measure=>simp[intOf];omega
     | false=>
      have HN:=zh (qQ.out.keep hgj);clear hgj;go_wp2_with fail
      go_roundw
      case rel=>exact⟨j+1,by go_num,by omega,HN⟩
      case measure=>simp[intOf];omega
    ·have y1:¬ (j:Int)<(m:Int):=by omega
     have IG:j=m:=by omega
     have Vg:=zh (show HJ w3 T B M (.slice (some ⟨gh,oh,none⟩) m ch) m f hs m wr by have:=qQ.out;rw[IG] at this;exact this);clear IG;have bC:=zh (gJ.out.handles (by rw[HLEN.out];have:=Vg.out.done HLEN.out;rw[BP m (fun i hi hg=>gJ.out.gn i hi hg)] at this;exact this) (by rw[HLEN.out];exact Vg.out.turns));have qm:=zh (dB T B M 0 0 _ (.slice none 0 0) (.slice none 0 0) _ [] wr bC.out.tw (World.ownsRow_nil _ _ _ _) (World.ownsRow_nil _ _ _ _) (by simp));go_wp2_with fail;refine qm.out.mono ?_;rintro e w7 ⟨rfl,lq⟩;have HF2:=zh (bC.out.below lq);clear lq;go_wp2_with fail;go_ret2;exact⟨_,[],_,_,_,_,_,_,_,_,_,_,_,_,rfl,HF2.out⟩
  ·have h0:ia≠0:=fun e=>hst (.inl e);have hpa:(f ia).pa = -1:=by
    rcases HW2.out.im.pa _ _ (aM aI hg) with e1 | e1
    ·exact e1
    ·obtain⟨p,e2,_⟩:=jv e1;exact absurd (.inr ⟨p,e2⟩) hst
   have hk1:(f ia).kind≠1:=by rcases HW2.out.km.2 ia aI h0 with e | e | e<;>omega
   have HC:=zh (Q9 base B b s (hof hs 0) h live n g av fr vs vf _ V2 HW2.out.tv HW2.out.so HW2.out.wf (by have:=HW2.out.tv.low;have:=HW2.out.tv.var.lt;omega) eg hkk hk1 (by show hof hs (f ia).pa=0;rw[hpa];exact HW2.out.im.zero) (by have:=HW2.out.im.GH HW2.out.wf aI hg;rw[hh] at this;omega));have H0:=zh (And.intro h0 hpa);clear eg hkk hst h0 hpa hk1;refine wp_region_noPanic ?_;refine wp_region_held_drew (S:=jw T B M gh oh m ch w.heap.size ia h o) (by kernel_rfl) ?_ (fun ah=>?_)
   ·exact (by rw[hV2];exact gV.out)
   rw[hV2] at ah ⊢;refine bn [0,1,2,3,4,5,6,7,8,9,10] ?_;iterate 11 (refine cZ ?_;try simp only[pS])
   refine bq ?_;refine bG 11 fun K hK=>?_;go_simp;refine HC.out.mono ?_;rintro e w3 ⟨vs3,vf3,fr3,L3,rfl,hv3,hs3,fF⟩;obtain⟨a1,a2,-,-,-⟩:=HW2.out.after fF;have eU:=zh (gG.out.turns fF.1 (HW2.out.tv.aV gG.out (by decide) (by decide) (by decide)));have jA:=zh (show jw T B M gh oh m ch w.heap.size ia h o w3 from bD a1 eU.out HLEN.out (by rw[←hh];exact HV.out.bJ aI));have HT3:=zh (And.intro a1 a2);have uy:=zh (And.intro hv3 (And.intro hs3 fF));clear a1 a2 hv3 hs3 fF;refine hK.out _ _ (jA.out) fun ah=>?_;clear hK K;(try simp only[pS]);refine bn [12] ?_
   (refine cZ ?_;try simp only[pS])
   refine bq ?_;refine eY ?_;have HR:=zh (Q7 bM M m aP f ia w3 HT3.out.2 (HW2.out.im.pull HW2.out.wf) aI hg (by omega) H0.out.1 H0.out.2);obtain⟨-,t13,-⟩:=jA.out;go_wp2_with fail;refine HR.out.mono ?_;rintro e w4 ⟨rfl,oI,dJ⟩;have Te:=zh oI;have abC:=zh dJ;obtain⟨f',hf'⟩:∃ f',iR f (Tr.ak (mg m f) (ia:Int))=f':=⟨_,rfl⟩
   have HF':=zh hf';rw[hf'] at Te;have T9:=zh (show ∀ k,aC M aP m f' k→¬ ((.slice (some ⟨gh,oh,none⟩) m ch):Value).ownBlock=some k from fun k hk hv=>(HW2.out.zw k (by rw[HLEN.out];exact hv)).2 (by rw[←hf',nT] at hk;exact hk));have F3:=zh (show oW w4 T B M (.slice (some ⟨gh,oh,none⟩) hs.length ch) hs from⟨HT3.out.1.var.turns dJ.1 HW2.out.K6.2,HT3.out.1.row.turns dJ.1 fun k hk=>(HW2.out.zw k hk).2⟩);clear oI dJ hf' ;have O6:=zh (show oW w4 T B M (.slice (some ⟨gh,oh,none⟩) m ch) hs by have:=F3.out;rw[HLEN.out] at this;exact this);have HAP:=zh (show ∀ k,aC M aP m f' k→¬ ((.slice (some ⟨gh,oh,none⟩) m ch):Value).ownBlock=some k from T9.out);go_wp2_with fail
   go_loopw [40] (fun u wr=>∃ j:Nat,u=.int .i64 (j:Int)∧j≤m∧Hid (HJ w4 T B M (.slice (some ⟨gh,oh,none⟩) m ch) m f' hs j wr)) (fun u _=>m - (intOf u).toNat)
   case atStart=>exact⟨0,rfl,Nat.zero_le _,zh (HJ.start O6.out HLEN.out)⟩
   case round=>
    obtain⟨j,rfl,hj,qQ⟩:=hrel;by_cases hjm:j<m
    ·have y0:(0:Int)≤(j:Int):=by omega
     have y1:(j:Int)<(m:Int):=by omega
     have t1w:wr.cell? ⟨T,1,none⟩=some (.pointer (some ⟨M,0,none⟩)):=qQ.out.var.cell 1;have t2w:wr.cell? ⟨T,2,none⟩=some (.slice (some ⟨gh,oh,none⟩) m ch):=qQ.out.var.cell 2;have Vf:=zh (bX bM M m aP f' j wr ((Te.out).turns qQ.out.turns HAP.out) hjm (by omega));obtain⟨xj,hxj⟩:∃ x,(hsJ f' hs j)[j]?=some x:=⟨(hsJ f' hs j)[j]'(by rw[qI,HLEN.out];exact hjm),by simp⟩
     have cj:wr.cell? ⟨gh,oh+j,none⟩=some (.int .i64 xj):=qQ.out.row.cellAt j _ (by omega) (eu hxj);have fj:=qQ.out.row.frozen (oh+j);clear hxj;go_wp2_with fail;refine Vf.out.mono ?_;rintro e w6 ⟨rfl,kZ⟩;rw[kZ];clear Vf kZ;cases hgj:(f' j).gone with
     | true=>
      have HN:=zh (qQ.out.set hjm hgj);clear hgj;go_wp2_with fail
      go_roundw
      case rel=>exact⟨j+1,by go_num,by omega,HN⟩
      case measure=>simp[intOf];omega
     | false=>
      have HN:=zh (qQ.out.keep hgj);clear hgj;go_wp2_with fail
      go_roundw
      case rel=>exact⟨j+1,by go_num,by omega,HN⟩
      case measure=>simp[intOf];omega
    ·have y1:¬ (j:Int)<(m:Int):=by omega
     have IG:j=m:=by omega
     have Vg:=zh (show HJ w4 T B M (.slice (some ⟨gh,oh,none⟩) m ch) m f' hs m wr by have:=qQ.out;rw[IG] at this;exact this);clear IG;have bC:=zh (HW2.out.dropped (w5:=wr) aI hg H0.out.1 H0.out.2 (by rw[hh];exact uy.out.1) (by rw[hh];exact uy.out.2.1) uy.out.2.2 (by rw[HF'.out];exact Te.out) abC.out (by rw[HF'.out,HLEN.out];exact Vg.out.done HLEN.out) (by rw[HLEN.out];exact Vg.out.turns));have qm:=zh (dB T B M 0 0 _ (.slice none 0 0) (.slice none 0 0) _ [] wr bC.out.tw (World.ownsRow_nil _ _ _ _) (World.ownsRow_nil _ _ _ _) (by simp));go_wp2_with fail;refine qm.out.mono ?_;rintro e w7 ⟨rfl,lq⟩;have HF2:=zh (bC.out.below lq);clear lq;go_wp2_with fail;go_ret2;exact⟨_,[],_,_,_,_,_,_,_,_,_,_,_,_,rfl,HF2.out⟩
end
section
open Go.RowKit
variable [mQ]
theorem iO {w:World} {T B M gh oh ch m ia ib X:Nat} {hs:List Int} {h p:Int} {o:qp} (H:oW w T B M (.slice (some ⟨gh,oh,none⟩) hs.length ch) hs) (hX:Whole w X #[.int .u8 o.kind,.int .u8 o.a,.int .u8 o.b,.int .u8 o.c,.string o.s,.string o.t,.int .i8 o.n,.int .i8 o.k] 62) (hl:hs.length=m) (hi:hs[ia]?=some h) (hp:hs[ib]?=some p):BZ T B M gh oh m ch X ia h o ib p w:=by
 have hlt:=(List.getElem?_eq_some_iff.1 hi).1;have hlt2:=(List.getElem?_eq_some_iff.1 hp).1;rw[←hl];exact⟨H.var.cell 0,H.var.cell 1,H.var.cell 2,H.row.cellAt ia _ (by omega) (eu hi),hX.cell 4,hX.cell 5,hX.cell 6,hX.cell 7,H.row.cellAt ib _ (by omega) (eu hp)⟩
theorem Om (base bM T B M:Nat) (b s:Int) (vs vf aP vh:Value) (n live m:Nat) (fr:List Nat) (av:Int→Tr.Sl) (f:Nat→RS) (hs:List Int) (g:Tr.G) (K:Nat) (o:qp) (w:World) (H:TW w base bM T B M b s vs vf aP vh n live m fr av f hs g K) (ho:pE o) (hkd:o.kind.tmod 10=3) (hcz:o.c.tmod ((m:Int)+1)=0) (hga:∀ i:Nat,o.a.tmod (m:Int)=(i:Int)→(f i).gone=true) (hm:m≤300) (hK:K≤60) (hT:Lit w):
  uL base bM T B M b s K o w:=by
 unfold uL;obtain⟨ia,hia,aI⟩:=aR ho.a.1 H.m0;obtain⟨ib,hib,iT⟩:=aR ho.b.1 H.m0;have hic:o.c.tmod ((m:Int)+1)=0:=hcz;have EA:=zh (hga ia hia);clear hga;have HG:=EA;have hlen:=H.len;have hm0:=H.m0;obtain⟨w1,gh,oh,ch,rfl,mz,IU,IV,IW,hw1,fQ,HB1,H1,ql,jM,HLEN,sG,sH,t0,t1,t2,x0,x1,x2,x3,x4,x5,x6,x7,IX,IY,IZ,I4,I5,I6,I7,I8⟩:=iB H ho hT;have ze:=zh (fun (W:World) (hb:Below w.heap.size w W)=>H.mv.below hb);have dZ:=zh (fun (W:World) (hb:Below w.heap.size w W) (j:Nat) (hj:j<m)=>bX bM M m aP f j W (H.mv.below hb) hj (by omega));clear H ho hT
 go_enter Tryz.func16,Tryz.ntmps16
 go_wp2_with fail;(try rw[hw1]);try go_wp2_with fail
 go_quiet (fail)
 obtain⟨V,hV⟩:=eX (w1.drewN nq)
 have dS:Below w1.heap.size w1 V:=Jg hV;have bK:=zh (HB1.out.trans (dS.mono HB1.out.size));have dH:=zh (fQ.out.below dS fQ.out.lt);have HV:=zh (H1.out.below dS);have vv:=zh (jM.out.below dS);obtain⟨t0',t1',t2'⟩:=sH.out V bK.out;have z0:V.cell? ⟨w.heap.size,0,none⟩=some (.int .u8 o.kind):=dH.out.cell 0;have z4:V.cell? ⟨w.heap.size,4,none⟩=some (.string o.s):=dH.out.cell 4;have z5:V.cell? ⟨w.heap.size,5,none⟩=some (.string o.t):=dH.out.cell 5;have z6:V.cell? ⟨w.heap.size,6,none⟩=some (.int .i8 o.n):=dH.out.cell 6;have z7:V.cell? ⟨w.heap.size,7,none⟩=some (.int .i8 o.k):=dH.out.cell 7;clear t0 t1 t2 x0 x1 x2 x3 x4 x5 x6 x7 dS;(try rw[hV]);go_wp2_with fail;refine (dZ.out V bK.out ia aI).mono ?_;rintro e w2 ⟨rfl,hw2⟩;rw[hw2];clear hw2;rw[EA.out];go_wp2_with fail;obtain⟨h,hh⟩:=eX (hof hs (ia:Int))
 obtain⟨p,hp⟩:=eX (hof hs (ib:Int))
 obtain⟨V2,hV2⟩:=eX (V.drew)
 have bN:Below V.heap.size V V2:=lW hV2;have ru:=zh (bK.out.trans (bN.mono bK.out.size));have HW2:=zh (HV.out.below bN);have gG:=zh (dH.out.below bN dH.out.lt);have HL2:=zh (vv.out.below bN);have HG2:=zh (And.intro (HV.out.bJ aI) (HV.out.bJ iT));rw[hh,hp] at HG2;have gV:=zh (show BZ T B M gh oh m ch w.heap.size ia h o ib p V2 from iO HW2.out.tw gG.out HLEN.out HG2.out.1 HG2.out.2);have K4:(0:Int)≤(ia:Int):=by omega
 have K5:(ia:Int)<(m:Int):=by omega
 have Xw:(0:Int)≤(ib:Int):=by omega
 have Xx:(ib:Int)<(m:Int):=by omega
 have HC:=zh (lX base B b s (hof hs 0) p h (hof hs (-1:Int)) live n (Tr.raw g av) fr vs vf V2 HW2.out.tv HW2.out.so (by rw[←hp];exact HW2.out.i64 iT) (by rw[←hh];exact HW2.out.i64 aI) (by rw[HW2.out.im.zero];constructor<;>omega) (.inr (.inl (by obtain⟨e1,e2⟩:=HW2.out.mD aI HG.out;rw[←hh,e1];exact Tr.bF e2))));go_wp2_with fail;refine wp_region_noPanic ?_;refine wp_region_held_drew (S:=BZ T B M gh oh m ch w.heap.size ia h o ib p) (by kernel_rfl) ?_ (fun ah=>?_)
 ·exact (by rw[hV2];exact gV.out)
 rw[hV2] at ah ⊢;refine bn [0,1,2,3,4,5,6,7,8,9,10,11,12,13,14,15,16,17,18,19] ?_;iterate 20 (refine cZ ?_;try simp only[pS])
 refine bq ?_;refine bG 20 fun K hK=>?_;go_simp;refine (fM T B M _ hs (-1:Int) V2 HW2.out.tw).mono ?_;rintro e w2 ⟨rfl,hw2⟩;rw[hw2];clear hw2;refine hK.out _ _ (gV.out) fun ah=>?_;clear hK K;(try simp only[pS]);refine bG 21 fun K hK=>?_;go_simp;refine HC.out.mono ?_;rintro e w3 ⟨rfl,hb3⟩;have gJ:=zh (HW2.out.below hb3).up;have eU:=zh (gG.out.below hb3 gG.out.lt);have jA:=zh (show BZ T B M gh oh m ch w.heap.size ia h o ib p w3 from iO gJ.out.tw eU.out HLEN.out HG2.out.1 HG2.out.2);clear hb3;refine hK.out _ _ (jA.out) fun ah=>?_;clear hK K;(try simp only[pS]);refine bn [22,23,24,25,26] ?_;iterate 5 (refine cZ ?_;try simp only[pS])
 refine bq ?_;refine eY ?_;go_wp2_with fail;go_ret2;exact⟨_,[],_,_,_,_,_,_,_,_,_,_,_,_,rfl,gJ.out⟩
theorem Oo (base bM T B M:Nat) (b s:Int) (vs vf aP vh:Value) (n live m:Nat) (fr:List Nat) (av:Int→Tr.Sl) (f:Nat→RS) (hs:List Int) (g:Tr.G) (K:Nat) (o:qp) (w:World) (H:TW w base bM T B M b s vs vf aP vh n live m fr av f hs g K) (ho:pE o) (hkd:o.kind.tmod 10=3) (hcz:o.c.tmod ((m:Int)+1)=0) (hga:∀ i:Nat,o.a.tmod (m:Int)=(i:Int)→(f i).gone=false) (hgb:∀ i:Nat,o.b.tmod (m:Int)=(i:Int)→(f i).gone=true) (hm:m≤300) (hK:K≤60) (hT:Lit w):
  uL base bM T B M b s K o w:=by
 unfold uL;obtain⟨ia,hia,aI⟩:=aR ho.a.1 H.m0;obtain⟨ib,hib,iT⟩:=aR ho.b.1 H.m0;have hic:o.c.tmod ((m:Int)+1)=0:=hcz;have EA:=zh (hga ia hia);clear hga;have MI:=zh (hgb ib hib);clear hgb;have HG:=MI;have hlen:=H.len;have hm0:=H.m0;obtain⟨w1,gh,oh,ch,rfl,mz,IU,IV,IW,hw1,fQ,HB1,H1,ql,jM,HLEN,sG,sH,t0,t1,t2,x0,x1,x2,x3,x4,x5,x6,x7,IX,IY,IZ,I4,I5,I6,I7,I8⟩:=iB H ho hT;have ze:=zh (fun (W:World) (hb:Below w.heap.size w W)=>H.mv.below hb);have dZ:=zh (fun (W:World) (hb:Below w.heap.size w W) (j:Nat) (hj:j<m)=>bX bM M m aP f j W (H.mv.below hb) hj (by omega));clear H ho hT
 go_enter Tryz.func16,Tryz.ntmps16
 go_wp2_with fail;(try rw[hw1]);try go_wp2_with fail
 go_quiet (fail)
 obtain⟨V,hV⟩:=eX (w1.drewN nq)
 have dS:Below w1.heap.size w1 V:=Jg hV;have bK:=zh (HB1.out.trans (dS.mono HB1.out.size));have dH:=zh (fQ.out.below dS fQ.out.lt);have HV:=zh (H1.out.below dS);have vv:=zh (jM.out.below dS);obtain⟨t0',t1',t2'⟩:=sH.out V bK.out;have z0:V.cell? ⟨w.heap.size,0,none⟩=some (.int .u8 o.kind):=dH.out.cell 0;have z4:V.cell? ⟨w.heap.size,4,none⟩=some (.string o.s):=dH.out.cell 4;have z5:V.cell? ⟨w.heap.size,5,none⟩=some (.string o.t):=dH.out.cell 5;have z6:V.cell? ⟨w.heap.size,6,none⟩=some (.int .i8 o.n):=dH.out.cell 6;have z7:V.cell? ⟨w.heap.size,7,none⟩=some (.int .i8 o.k):=dH.out.cell 7;clear t0 t1 t2 x0 x1 x2 x3 x4 x5 x6 x7 dS;(try rw[hV]);go_wp2_with fail;refine (dZ.out V bK.out ia aI).mono ?_;rintro e w2 ⟨rfl,hw2⟩;rw[hw2];clear hw2;rw[EA.out];go_wp2_with fail;refine (dZ.out V bK.out ib iT).mono ?_;rintro e w2 ⟨rfl,hw2⟩;rw[hw2];clear hw2;rw[MI.out];go_wp2_with fail;obtain⟨h,hh⟩:=eX (hof hs (ia:Int))
 obtain⟨p,hp⟩:=eX (hof hs (ib:Int))
 obtain⟨V2,hV2⟩:=eX (V.drew)
 have bN:Below V.heap.size V V2:=lW hV2;have ru:=zh (bK.out.trans (bN.mono bK.out.size));have HW2:=zh (HV.out.below bN);have gG:=zh (dH.out.below bN dH.out.lt);have HL2:=zh (vv.out.below bN);have HG2:=zh (And.intro (HV.out.bJ aI) (HV.out.bJ iT));rw[hh,hp] at HG2;have gV:=zh (show BZ T B M gh oh m ch w.heap.size ia h o ib p V2 from iO HW2.out.tw gG.out HLEN.out HG2.out.1 HG2.out.2);have K4:(0:Int)≤(ia:Int):=by omega
 have K5:(ia:Int)<(m:Int):=by omega
 have Xw:(0:Int)≤(ib:Int):=by omega
 have Xx:(ib:Int)<(m:Int):=by omega
 have HC:=zh (lX base B b s (hof hs 0) p h (hof hs (-1:Int)) live n (Tr.raw g av) fr vs vf V2 HW2.out.tv HW2.out.so (by rw[←hp];exact HW2.out.i64 iT) (by rw[←hh];exact HW2.out.i64 aI) (by rw[HW2.out.im.zero];constructor<;>omega) (.inl (by obtain⟨e1,e2⟩:=HW2.out.mD iT HG.out;rw[←hp,e1];exact Tr.bF e2)));go_wp2_with fail;refine wp_region_noPanic ?_;refine wp_region_held_drew (S:=BZ T B M gh oh m ch w.heap.size ia h o ib p) (by kernel_rfl) ?_ (fun ah=>?_)
 ·exact (by rw[hV2];exact gV.out)
 rw[hV2] at ah ⊢;refine bn [0,1,2,3,4,5,6,7,8,9,10,11,12,13,14,15,16,17,18,19] ?_;iterate 20 (refine cZ ?_;try simp only[pS])
 refine bq ?_;refine bG 20 fun K hK=>?_;go_simp;refine (fM T B M _ hs (-1:Int) V2 HW2.out.tw).mono ?_;rintro e w2 ⟨rfl,hw2⟩;rw[hw2];clear hw2;refine hK.out _ _ (gV.out) fun ah=>?_;clear hK K;(try simp only[pS]);refine bG 21 fun K hK=>?_;go_simp;refine HC.out.mono ?_;rintro e w3 ⟨rfl,hb3⟩;have gJ:=zh (HW2.out.below hb3).up;have eU:=zh (gG.out.below hb3 gG.out.lt);have jA:=zh (show BZ T B M gh oh m ch w.heap.size ia h o ib p w3 from iO gJ.out.tw eU.out HLEN.out HG2.out.1 HG2.out.2);clear hb3;refine hK.out _ _ (jA.out) fun ah=>?_;clear hK K;(try simp only[pS]);refine bn [22,23,24,25,26] ?_;iterate 5 (refine cZ ?_;try simp only[pS])
 refine bq ?_;refine eY ?_;go_wp2_with fail;go_ret2;exact⟨_,[],_,_,_,_,_,_,_,_,_,_,_,_,rfl,gJ.out⟩
theorem Oq (base bM T B M:Nat) (b s:Int) (vs vf aP vh:Value) (n live m:Nat) (fr:List Nat) (av:Int→Tr.Sl) (f:Nat→RS) (hs:List Int) (g:Tr.G) (K:Nat) (o:qp) (w:World) (H:TW w base bM T B M b s vs vf aP vh n live m fr av f hs g K) (ho:pE o) (hkd:o.kind.tmod 10=3) (hcz:o.c.tmod ((m:Int)+1)=0) (hga:∀ i:Nat,o.a.tmod (m:Int)=(i:Int)→(f i).gone=false) (hgb:∀ i:Nat,o.b.tmod (m:Int)=(i:Int)→(f i).gone=false) (hm:m≤300) (hK:K≤60) (hT:Lit w):
  uL base bM T B M b s K o w:=by
 unfold uL;obtain⟨ia,hia,aI⟩:=aR ho.a.1 H.m0;obtain⟨ib,hib,iT⟩:=aR ho.b.1 H.m0;have hic:o.c.tmod ((m:Int)+1)=0:=hcz;have EA:=zh (hga ia hia);clear hga;have MI:=zh (hgb ib hib);clear hgb;have HG:=EA;have hlen:=H.len;have hm0:=H.m0;obtain⟨w1,gh,oh,ch,rfl,mz,IU,IV,IW,hw1,fQ,HB1,H1,ql,jM,HLEN,sG,sH,t0,t1,t2,x0,x1,x2,x3,x4,x5,x6,x7,IX,IY,IZ,I4,I5,I6,I7,I8⟩:=iB H ho hT;have ze:=zh (fun (W:World) (hb:Below w.heap.size w W)=>H.mv.below hb);have dZ:=zh (fun (W:World) (hb:Below w.heap.size w W) (j:Nat) (hj:j<m)=>bX bM M m aP f j W (H.mv.below hb) hj (by omega));clear H ho hT
 go_enter Tryz.func16,Tryz.ntmps16
 go_wp2_with fail;(try rw[hw1]);try go_wp2_with fail
 go_quiet (fail)
 obtain⟨V,hV⟩:=eX (w1.drewN nq)
 have dS:Below w1.heap.size w1 V:=Jg hV;have bK:=zh (HB1.out.trans (dS.mono HB1.out.size));have dH:=zh (fQ.out.below dS fQ.out.lt);have HV:=zh (H1.out.below dS);have vv:=zh (jM.out.below dS);obtain⟨t0',t1',t2'⟩:=sH.out V bK.out;have z0:V.cell? ⟨w.heap.size,0,none⟩=some (.int .u8 o.kind):=dH.out.cell 0;have z4:V.cell? ⟨w.heap.size,4,none⟩=some (.string o.s):=dH.out.cell 4;have z5:V.cell? ⟨w.heap.size,5,none⟩=some (.string o.t):=dH.out.cell 5;have z6:V.cell? ⟨w.heap.size,6,none⟩=some (.int .i8 o.n):=dH.out.cell 6;have z7:V.cell? ⟨w.heap.size,7,none⟩=some (.int .i8 o.k):=dH.out.cell 7;clear t0 t1 t2 x0 x1 x2 x3 x4 x5 x6 x7 dS;(try rw[hV]);go_wp2_with fail;refine (dZ.out V bK.out ia aI).mono ?_;rintro e w2 ⟨rfl,hw2⟩;rw[hw2];clear hw2;rw[EA.out];go_wp2_with fail;refine (dZ.out V bK.out ib iT).mono ?_;rintro e w2 ⟨rfl,hw2⟩;rw[hw2];clear hw2;rw[MI.out];go_wp2_with fail;obtain⟨h,hh⟩:=eX (hof hs (ia:Int))
 obtain⟨p,hp⟩:=eX (hof hs (ib:Int))
 obtain⟨V2,hV2⟩:=eX (V.drew)
 have bN:Below V.heap.size V V2:=lW hV2;have ru:=zh (bK.out.trans (bN.mono bK.out.size));have HW2:=zh (HV.out.below bN);have gG:=zh (dH.out.below bN dH.out.lt);have HL2:=zh (vv.out.below bN);have HG2:=zh (And.intro (HV.out.bJ aI) (HV.out.bJ iT));rw[hh,hp] at HG2;have gV:=zh (show BZ T B M gh oh m ch w.heap.size ia h o ib p V2 from iO HW2.out.tw gG.out HLEN.out HG2.out.1 HG2.out.2);have K4:(0:Int)≤(ia:Int):=by omega
 have K5:(ia:Int)<(m:Int):=by omega
 have Xw:(0:Int)≤(ib:Int):=by omega
 have Xx:(ib:Int)<(m:Int):=by omega
 have HC:=zh (xU HW2.out (by omega) aI EA.out iT MI.out (c:=(-1:Int)) (.inl rfl));rw[hh,hp] at HC;go_wp2_with fail;refine wp_region_noPanic ?_;refine wp_region_held_drew (S:=BZ T B M gh oh m ch w.heap.size ia h o ib p) (by kernel_rfl) ?_ (fun ah=>?_)
 ·exact (by rw[hV2];exact gV.out)
 rw[hV2] at ah ⊢;refine bn [0,1,2,3,4,5,6,7,8,9,10,11,12,13,14,15,16,17,18,19] ?_;iterate 20 (refine cZ ?_;try simp only[pS])
 refine bq ?_;refine bG 20 fun K hK=>?_;go_simp;refine (fM T B M _ hs (-1:Int) V2 HW2.out.tw).mono ?_;rintro e w2 ⟨rfl,hw2⟩;rw[hw2];clear hw2;refine hK.out _ _ (gV.out) fun ah=>?_;clear hK K;(try simp only[pS]);refine bG 21 fun K hK=>?_;go_simp;refine HC.out.mono ?_;rintro e w3 ⟨v,E,lm,rfl,hE,hlm,⟨A3,n3,c3,rfl⟩,oF,Ep,fF,hM⟩;have eU:=zh (gG.out.turns fF.1 (HW2.out.tv.aV gG.out (by decide) (by decide) (by decide)));have jA:=zh (show BZ T B M gh oh m ch w.heap.size ia h o ib p w3 from iO oF eU.out HLEN.out HG2.out.1 HG2.out.2);have HM:=zh (hM w3 (Below.refl _ _));have HE:=zh (And.intro hE hlm);have hwE:IntKind.i64.wrap E=E:=by rcases hE with rfl | rfl | rfl<;>decide
 clear oF Ep fF hM hE hlm HC;refine hK.out _ _ (jA.out) fun ah=>?_;clear hK K;(try simp only[pS]);refine bn [22,23,24,25,26] ?_;iterate 5 (refine cZ ?_;try simp only[pS])
 refine bq ?_;refine eY ?_;obtain⟨c0,c1,-⟩:=jA.out;go_wp2_with fail;refine HM.out.mono ?_;rintro e w4 ⟨r,f2,g2,rfl,hr4,hrec,dJ,hspec,HT⟩;obtain⟨A4,c4,rfl⟩:=aF (aG hr4);have qm:=zh (dB T B M _ _ _ _ _ hs lm w4 HT.tw hrec hr4 (by have:=HE.out.2;omega));have X0:=zh HT;clear hr4 hrec dJ HT HM;go_wp2_with fail;refine qm.out.mono ?_;rintro e w5 ⟨rfl,hb5⟩;have bC:=zh (X0.out.below hb5);clear hb5;go_wp2_with fail;go_ret2;exact⟨_,[],_,_,_,_,_,_,_,_,_,_,_,_,rfl,bC.out⟩
end
section
open Go.RowKit
def Ej (n:RS):Nat:=if 2<n.kind then nE n.data else n.kids.length
theorem El (base M m:Nat) (vs:Value) (f:Nat→RS) (i:Nat) (w:World) (H:MV base w M vs m f) (hi:i<m) (hd:(f i).data.size≤10000) (hrep:bB.rep (f i).data.data.toList=(f i).data.data.toList) (hk:(f i).kids.length≤100000):
  Calls Tryz.prog 17 #[.pointer (some ⟨M,0,none⟩),.int .i64 (i:Int)] w fun e w'=>e=.returned (.int .i64 (Ej (f i):Nat))∧Below w.heap.size w w':=by
 obtain⟨A,c,rfl⟩:=H.form;obtain⟨g,rfl,c0,-,-,c3,-,c5,-⟩:=H.read hi;have cM:=H.cell.1;have hkn:=H.kn hi;rw[hkn] at c5;have q1:(0:Int)≤(i:Int):=by omega
 obtain⟨kd,hkd⟩:=eX ((f i).kind)
 obtain⟨dt,hdt⟩:=eX ((f i).data)
 rw[hkd] at c0;rw[hdt] at c3 hd hrep;have HD:=zh (And.intro hkd hdt);have HP:=zh (fun W=>oq dt (bB.chunks dt.data.toList) W hd (bB.bV _) (by first | exact hrep.symm | (rw[←bB.abD];exact hrep.symm) | (have:=hrep;unfold bB.rep at this;exact this.symm)));clear hkd hdt H
 go_enter Tryz.func17,Tryz.ntmps17
 by_cases h2:2<kd
 ·go_wp2_with fail;refine (HP.out w).mono ?_;rintro e w2 ⟨v,rfl,ho,hb⟩;obtain⟨Av,cv,rfl⟩:=aF (aG ho);go_wp2_with fail
  go_ret
  refine⟨?_,hb⟩;unfold Ej;rw[HD.out.1,HD.out.2,if_pos h2];rfl
 ·go_wp2_with fail
  go_ret
  refine⟨?_,Below.refl _ _⟩;unfold Ej;rw[HD.out.1,if_neg (by omega)];rfl
structure KN (base B:Nat) (b s root:Int) (live n:Nat) (g:Tr.G) (av:Int→Tr.Sl) (fr:List Nat) (vs vf:Value) (w:World):Prop where
 tv:TV base w B b s vs n (Tr.raw g av) vf fr live root
 so:Sound b s n (Tr.raw g av) fr live
 wf:Tr.WF 0 g
 at':AT w g av
 al:∀ k m,g k=some m→m.attrs.length≤1000
 dl:∀ k m,g k=some m→m.data.size≤10000
 kl:∀ k m,g k=some m→m.kids.length≤100000
 lf:Lv.Leaf g
 kd:∀ k m,g k=some m→m.kind≤4
theorem KN.below {base B:Nat} {b s root:Int} {live n:Nat} {g:Tr.G} {av:Int→Tr.Sl} {fr:List Nat} {vs vf:Value} {w w':World} (H:KN base B b s root live n g av fr vs vf w) (hb:Below w.heap.size w w'):KN base B b s root live n g av fr vs vf w':=
 ⟨H.tv.below hb,H.so,H.wf,H.at'.below hb,H.al,H.dl,H.kl,H.lf,H.kd⟩
def oV (g:Tr.G) (h i:Int):Int:=match g h with | none=>6 | some m=>if i<0∨(Lv.qK nE m:Int)<i then 2 else 0
theorem sw (base B:Nat) (b s root h i:Int) (live n:Nat) (g:Tr.G) (av:Int→Tr.Sl) (fr:List Nat) (vs vf:Value) (w:World) (H:KN base B b s root live n g av fr vs vf w) (hh:gI h) (hi:gI i):
  Calls Tryz.prog 18 #[.pointer (some ⟨B,0,none⟩),.agg #[.int .i64 h,.int .i64 i]] w fun e w'=>e=.returned (.int .i64 (oV g h i))∧Below w.heap.size w w':=by
 cases e:g h with
 | none=>
  have h1:Tr.raw g av h=none:=Tr.bF e;have:=G5 base B b s root h i live n g av fr vs vf w Tr.yX [] false H.tv H.so H.wf hh hi (by rw[h1];rfl) (TR.nil _ _ _ _) (by decide) (by rw[h1];rfl) 0 (by rw[Tr.gH e];rfl) (by decide) (by decide);rw[if_pos rfl] at this;unfold oV;rw[e];exact this
 | some m=>
  have:=G5 base B b s root h i live n g av fr vs vf w (Tr.dW g av h m) m.attrs true H.tv H.so H.wf hh hi (by rw[Tr.aj e];rfl) (H.at' h m e) (H.al h m e) (by rw[Tr.aj e];rfl) m.kids.length (by rw[Tr.aH e]) (H.kl h m e) (H.dl h m e);rw[if_neg (by decide)] at this;unfold oV;rw[e];have hk:=H.kd h m e;have h2:(if (Tr.dW g av h m).kind=3∨(Tr.dW g av h m).kind=4 then nE (Tr.dW g av h m).data else m.kids.length)=Lv.qK nE m:=by
   unfold Lv.qK;show (if m.kind=3∨m.kind=4 then nE m.data else m.kids.length)=_;by_cases h3:2<m.kind
   ·rw[if_pos h3,if_pos (by omega)]
   ·rw[if_neg h3,if_neg (by omega)]
  rw[h2] at this;exact this
def rP (g:Tr.G) (x i y j:Int):Int×Int:=if oV g x i≠0∨oV g y j≠0 then (0,2) else if Tr.dF (Tr.aS g x)≠Tr.dF (Tr.aS g y) then (0,6) else (ou ((Lv.cO nE g (Tr.dF (Tr.aS g x))).idxOf (x,i):Nat) ((Lv.cO nE g (Tr.dF (Tr.aS g x))).idxOf (y,j):Nat),0)
theorem zL {g:Tr.G} {h i:Int} (e:oV g h i=0):∃ (m:Tr.GN) (k:Nat),g h=some m∧i=(k:Int)∧k≤Lv.qK nE m:=by
 unfold oV at e;cases e2:g h with
 | none=>rw[e2] at e;simp at e
 | some m=>
  rw[e2] at e;simp only at e
  split at e
  ·cases e
  ·rename_i h1;exact⟨m,i.toNat,rfl,by omega,by omega⟩
theorem size_le {base B:Nat} {b s root:Int} {live n:Nat} {g:Tr.G} {av:Int→Tr.Sl} {fr:List Nat} {vs vf:Value} {w:World} (H:KN base B b s root live n g av fr vs vf w) {h:Int} {m:Tr.GN} (e:g h=some m):Lv.qK nE m≤100000:=by
 unfold Lv.qK
 split
 ·have h1:=H.dl h m e;have h2:=bB.iY m.data.data.toList;unfold nE;have:m.data.data.toList.length=m.data.size:=rfl;omega
 ·exact H.kl h m e
theorem PY (base B:Nat) (b s root x i y j:Int) (live n:Nat) (g:Tr.G) (av:Int→Tr.Sl) (fr:List Nat) (vs vf:Value) (w:World) (H:KN base B b s root live n g av fr vs vf w) (hx:gI x) (hi:gI i) (hy:gI y) (hj:gI j):
  Calls Tryz.prog 8 #[.pointer (some ⟨B,0,none⟩),.agg #[.int .i64 x,.int .i64 i],.agg #[.int .i64 y,.int .i64 j]] w fun e w'=>e=.returned (.tuple #[.int .i64 (rP g x i y j).1,.int .i64 (rP g x i y j).2])∧Below w.heap.size w w':=by
 obtain⟨R1,R2,hR⟩:∃ R1 R2:Int,rP g x i y j=(R1,R2):=⟨_,_,rfl⟩
 rw[hR];have HR:=zh hR;clear hR;obtain⟨w1,hw1⟩:=eX (w.alloc (.cells #[.int .i64 x,.int .i64 i] 31))
 obtain⟨w2,hw2⟩:=eX (w1.alloc (.cells #[.int .i64 y,.int .i64 j] 31))
 have hX1:Whole w1 w.heap.size #[.int .i64 x,.int .i64 i] 31:=by rw[←hw1];exact Whole.new _ _ _
 have hz1:w1.heap.size=w.heap.size+1:=by rw[←hw1];simp
 have hb1:Below w.heap.size w w1:=fI hw1;have hb2:Below w1.heap.size w1 w2:=fI hw2;have hX2:Whole w2 (w.heap.size+1) #[.int .i64 y,.int .i64 j] 31:=by rw[←hw2,←hz1];exact Whole.new _ _ _
 have HB2:Hid (Below w.heap.size w w2):=zh (hb1.trans (hb2.mono hb1.size));have HC:Hid (∀ W,Below w2.heap.size w2 W→W.cell? ⟨w.heap.size,0,none⟩=some (.int .i64 x)∧W.cell? ⟨w.heap.size,1,none⟩=some (.int .i64 i)∧W.cell? ⟨w.heap.size+1,0,none⟩=some (.int .i64 y)∧W.cell? ⟨w.heap.size+1,1,none⟩=some (.int .i64 j)):=zh fun W hb=>by
  have h1:=(hX1.below hb2 hX1.lt).below hb (hX1.below hb2 hX1.lt).lt;have h2:=hX2.below hb hX2.lt;exact⟨h1.cell 0,h1.cell 1,h2.cell 0,h2.cell 1⟩
 have HW2:Hid ((w.alloc (.cells #[.int .i64 x,.int .i64 i] 31)).alloc (.cells #[.int .i64 y,.int .i64 j] 31)=w2):=zh (by rw[hw1,hw2]);have HH:Hid (∀ W,Below w2.heap.size w2 W→KN base B b s root live n g av fr vs vf W):=zh fun W hb=>(H.below (HB2.out)).below hb;obtain⟨e1,he1⟩:=eX (oV g x i)
 obtain⟨e2,he2⟩:=eX (oV g y j)
 have XW:Hid (∀ W,Below w2.heap.size w2 W→Calls Tryz.prog 18 #[.pointer (some ⟨B,0,none⟩),.agg #[.int .i64 x,.int .i64 i]] W fun e w'=>e=.returned (.int .i64 e1)∧Below W.heap.size W w'):=zh fun W hb=>by rw[←he1];exact sw base B b s root x i live n g av fr vs vf W (HH.out W hb) hx hi
 have HP2:Hid (∀ W,Below w2.heap.size w2 W→Calls Tryz.prog 18 #[.pointer (some ⟨B,0,none⟩),.agg #[.int .i64 y,.int .i64 j]] W fun e w'=>e=.returned (.int .i64 e2)∧Below W.heap.size W w'):=zh fun W hb=>by rw[←he2];exact sw base B b s root y j live n g av fr vs vf W (HH.out W hb) hy hj
 have HT1:Hid (∀ W,Below w2.heap.size w2 W→Calls Tryz.prog 19 #[.pointer (some ⟨B,0,none⟩),.int .i64 x] W fun e w'=>e=.returned (.int .i64 (Tr.dF (Tr.aS g x)))∧Below W.heap.size W w'):=zh fun W hb=>tO base B b s root x live n g av fr vs vf W (HH.out W hb).tv (HH.out W hb).so (HH.out W hb).wf hx;have HT2:Hid (∀ W,Below w2.heap.size w2 W→Calls Tryz.prog 19 #[.pointer (some ⟨B,0,none⟩),.int .i64 y] W fun e w'=>e=.returned (.int .i64 (Tr.dF (Tr.aS g y)))∧Below W.heap.size W w'):=zh fun W hb=>tO base B b s root y live n g av fr vs vf W (HH.out W hb).tv (HH.out W hb).so (HH.out W hb).wf hy;obtain⟨tx,htx⟩:=eX (Tr.dF (Tr.aS g x))
 obtain⟨ty,hty⟩:=eX (Tr.dF (Tr.aS g y))
 rw[htx] at HT1;rw[hty] at HT2;have zM:=zh (And.intro he1 (And.intro he2 (And.intro htx hty)));have uo:=zh (fun (W:World) (hb:Below w2.heap.size w2 W)=>HB2.out.trans (hb.mono HB2.out.size));obtain⟨c0,c1,c2,c3⟩:=HC.out w2 (Below.refl _ _);clear hw1 hw2 hX1 hX2 hz1 hb1 hb2 H he1 he2 htx hty
 go_enter Tryz.func8,Tryz.ntmps8
 go_upto_region 1 with fail
 rw[HW2.out];clear HW2;go_wp2_with fail;refine (XW.out w2 (Below.refl _ _)).mono ?_;rintro e w3 ⟨rfl,hb3⟩;have HB3:=zh hb3;clear c0 c1 c2 c3;obtain⟨c0,c1,c2,c3⟩:=HC.out w3 hb3;clear hb3;by_cases h1:e1=0
 ·subst h1;go_wp2_with fail;refine (HP2.out w3 HB3.out).mono ?_;rintro e w4 ⟨rfl,hb4⟩;have jy:=zh (HB3.out.trans (hb4.mono HB3.out.size));clear c0 c1 c2 c3 hb4;obtain⟨c0,c1,c2,c3⟩:=HC.out w4 jy.out;by_cases h2:e2=0
  ·subst h2;obtain⟨V,hV⟩:=eX (w4.drew)
   have bK:=zh (jy.out.trans ((lW hV).mono jy.out.size))
   go_upto_region 3 with fail
   refine wp_region_noPanic ?_;refine wp_region_held_drew (S:=(fun W=>W.cell? ⟨w.heap.size,0,none⟩=some (.int .i64 x)∧W.cell? ⟨w.heap.size,1,none⟩=some (.int .i64 i)∧W.cell? ⟨w.heap.size+1,0,none⟩=some (.int .i64 y)∧W.cell? ⟨w.heap.size+1,1,none⟩=some (.int .i64 j))) (by kernel_rfl) ?_ (fun ah=>?_)
   ·exact (by rw[hV];exact HC.out V bK.out)
   rw[hV] at ah ⊢;refine bn [0,1,2,4,5,6] ?_;iterate 6 (refine cZ ?_;try simp only[pS])
   refine bq ?_;refine bG 3 fun K hK=>?_;go_simp;refine (HT1.out V bK.out).mono ?_;rintro e w5 ⟨rfl,hbb⟩;have jg:=zh (bK.out.trans (hbb.mono bK.out.size));refine hK.out _ _ (HC.out w5 jg.out) fun ah=>?_;clear hK K hbb;(try simp only[pS]);refine bG 7 fun K hK=>?_;go_simp;refine (HT2.out w5 jg.out).mono ?_;rintro e w6 ⟨rfl,hbb⟩;have iQ:=zh (jg.out.trans (hbb.mono jg.out.size));refine hK.out _ _ (HC.out w6 iQ.out) fun ah=>?_;clear hK K hbb;(try simp only[pS]);refine bn [8,9] ?_;iterate 2 (refine cZ ?_;try simp only[pS])
   refine bq ?_;refine eY ?_;clear ah c0 c1 c2 c3;by_cases h3:tx=ty
   ·subst h3;have hq:(tx != tx)=false:=by simp
    obtain⟨c0,c1,c2,c3⟩:=HC.out w6 iQ.out;obtain⟨nx,i',ex,rfl,hi'⟩:=zL zM.out.1;obtain⟨ny,j',ey,rfl,hj'⟩:=zL zM.out.2.1;have HO:=zh (DR base B b s root x y tx i' j' live n g av fr vs vf nx ny nE w6 (HH.out w6 iQ.out).tv (HH.out w6 iQ.out).so (HH.out w6 iQ.out).wf (HH.out w6 iQ.out).at' (HH.out w6 iQ.out).al (HH.out w6 iQ.out).lf ex ey hi' hj' (by have:=size_le (HH.out w6 iQ.out) ex;omega) (by have:=size_le (HH.out w6 iQ.out) ey;omega) zM.out.2.2.1 zM.out.2.2.2);have hR:=HR.out;unfold rP at hR;rw[if_neg (by rw[zM.out.1,zM.out.2.1];simp),if_neg (by rw[zM.out.2.2.1,zM.out.2.2.2];simp),zM.out.2.2.1] at hR;injection hR with wN hR2;subst hR2;rw[wN] at HO;clear ex ey hi' hj' wN;go_wp2_with fail;refine HO.out.mono ?_;rintro e w7 ⟨rfl,lq⟩;have lT:=zh (iQ.out.trans (lq.mono iQ.out.size));clear lq c0 c1 c2 c3;go_wp2_with fail;go_ret2;exact⟨rfl,uo.out _ lT.out⟩
   ·have hq:(tx != ty)=true:=by simpa using h3
    have hR:=HR.out;unfold rP at hR;rw[if_neg (by rw[zM.out.1,zM.out.2.1];simp),if_pos (by rw[zM.out.2.2.1,zM.out.2.2.2];exact h3)] at hR;injection hR with wN hR2;subst wN hR2;go_wp2_with fail;go_ret2;exact⟨rfl,uo.out _ iQ.out⟩
  ·have hq:(e2 != 0)=true:=by simpa using h2
   have hR:=HR.out;unfold rP at hR;rw[if_pos (.inr (by rw[zM.out.2.1];exact h2))] at hR;injection hR with wN hR2;subst wN hR2;go_wp2_with fail;go_ret2;exact⟨rfl,uo.out _ jy.out⟩
 ·have hq:(e1 != 0)=true:=by simpa using h1
  have hR:=HR.out;unfold rP at hR;rw[if_pos (.inl (by rw[zM.out.1];exact h1))] at hR;injection hR with wN hR2;subst wN hR2;go_wp2_with fail;go_ret2;exact⟨rfl,uo.out _ HB3.out⟩
def fV (l:List Lv.Pt):List Value:=l.flatMap fun p=>[.int .i64 p.1,.int .i64 p.2]
theorem uI (l r:List Lv.Pt):fV (l++r)=fV l++fV r:=by unfold fV;rw[List.flatMap_append]
theorem KO (l:List Lv.Pt):(fV l).length=l.length*2:=by
 induction l with
 | nil=>rfl
 | cons p r ih=>
  have:fV (p::r)=[.int .i64 p.1,.int .i64 p.2]++fV r:=rfl;rw[this,List.length_append,ih,List.length_cons];simp;omega
theorem KQ (l:List Lv.Pt):∀ {k:Nat} {p:Lv.Pt},l[k]?=some p→(fV l)[k*2]?=some (.int .i64 p.1)∧(fV l)[k*2+1]?=some (.int .i64 p.2):=by
 induction l with
 | nil=>intro k p h;simp at h
 | cons q r ih=>
  intro k p h;have e:fV (q::r)=.int .i64 q.1::.int .i64 q.2::fV r:=rfl;cases k with
  | zero=>simp at h;subst h;rw[e];exact⟨rfl,rfl⟩
  | succ k=>
   have h2:=ih (k:=k) (p:=p) (by simpa using h);rw[e,show (k+1)*2=k*2+1+1 by omega,show k*2+1+1+1=k*2+1+1+1 from rfl];exact⟨by simpa using h2.1,by simpa using h2.2⟩
theorem BU (base:Nat) (v:Value) (l:List Lv.Pt) (p1 p2:Int) (w:World) (H:TR w base 30 2 v l.length (fV l)) (hl:l.length≤1000000000):
  Calls Tryz.prog 22 #[v,.agg #[.int .i64 p1,.int .i64 p2]] w fun e w'=>e=.returned (.int .i64 (if (p1,p2)∈l then ((l.idxOf (p1,p2):Nat):Int) else -1))∧Below w.heap.size w w':=by
 obtain⟨A,c,rfl⟩:=H.form;obtain⟨R,hR⟩:∃ R:Int,(if (p1,p2)∈l then ((l.idxOf (p1,p2):Nat):Int) else -1)=R:=⟨_,rfl⟩
 rw[hR];have HR:=zh hR;clear hR;obtain⟨w1,hw1⟩:=eX (w.alloc (.cells #[.int .i64 p1,.int .i64 p2] 30))
 have hX:Whole w1 w.heap.size #[.int .i64 p1,.int .i64 p2] 30:=by rw[←hw1];exact Whole.new _ _ _
 have HB1:Hid (Below w.heap.size w w1):=zh (by rw[←hw1];exact (Below.refl _ w).alloc (Nat.le_refl _) _);have HX:=zh hX;have HH:=zh (fun (W:World) (hb:Below w.heap.size w W)=>H.below hb);have HW1:=zh hw1;clear hw1 hX H
 go_enter Tryz.func22,Tryz.ntmps22
 go_upto_region 1 with fail
 rw[HW1.out];go_wp2_with fail
 go_loopw [5] (fun u wr=>∃ k:Nat,u=.int .i64 (k:Int)∧k≤l.length∧Hid ((p1,p2)∉l.take k∧Below w1.heap.size w1 wr)) (fun u _=>l.length - (intOf u).toNat)
 case atStart=>exact⟨0,rfl,Nat.zero_le _,zh ⟨by simp,Below.refl _ _⟩⟩
 case round=>
  obtain⟨wo,hwo⟩:∃ wo:World,wo=wr:=⟨_,rfl⟩
  subst hwo;obtain⟨k,rfl,hk,HB⟩:=hrel;by_cases hkl:k<l.length
  ·obtain⟨⟨q1,q2⟩,hq⟩:∃ q,l[k]?=some q:=⟨l[k],by simp[hkl]⟩
   have y0:(0:Int)≤(k:Int):=by omega
   have y1:(k:Int)<(l.length:Int):=by omega
   obtain⟨gl,ol,hA,-,-,-,-⟩:=TR.cells (HH.out wo (HB1.out.trans (HB.out.2.mono HB1.out.size))) (by omega);subst hA;have HS:Hid (∀ W,Below w1.heap.size w1 W→W.cell? ⟨gl,ol+k*2,none⟩=some (.int .i64 q1)∧W.cell? ⟨gl,ol+k*2+1,none⟩=some (.int .i64 q2)∧W.cell? ⟨w.heap.size,0,none⟩=some (.int .i64 p1)∧W.cell? ⟨w.heap.size,1,none⟩=some (.int .i64 p2)):=zh fun W hb=>by
    have h1:=HH.out W (HB1.out.trans (hb.mono HB1.out.size));have h2:=HX.out.below hb HX.out.lt;obtain⟨g1,g2⟩:=KQ l hq;refine⟨h1.cellAt (k*2) _ (by omega) g1,?_,h2.cell 0,h2.cell 1⟩;rw[Nat.add_assoc];exact h1.cellAt (k*2+1) _ (by omega) g2
   have HQ:=zh hq;obtain⟨V,hV⟩:=eX (wo.drew)
   have bK:=zh (HB.out.2.trans ((lW hV).mono HB.out.2.size));clear hq;by_cases h1:q1=p1
   ·by_cases h2:q2=p2
    ·have hR:R=(k:Int):=by
      subst h1;subst h2;have hm:(q1,q2)∈l:=List.mem_of_getElem? HQ.out;rw[←HR.out,if_pos hm];have e2:l=l.take k++(q1,q2)::l.drop (k+1):=by
       obtain⟨h1,h2⟩:=List.getElem?_eq_some_iff.1 HQ.out;rw[←h2,List.getElem_cons_drop h1,List.take_append_drop]
      have h3:l.idxOf (q1,q2)=k:=by
       rw[e2,List.idxOf_append,if_neg HB.out.1,List.idxOf_cons_self,List.length_take];omega
      rw[h3]
     have HRK:=zh hR;clear hR
     go_upto_region 4 with fail
     refine wp_region_noPanic ?_;refine wp_region_held_drew (S:=(fun W=>W.cell? ⟨gl,ol+k*2,none⟩=some (.int .i64 q1)∧W.cell? ⟨gl,ol+k*2+1,none⟩=some (.int .i64 q2)∧W.cell? ⟨w.heap.size,0,none⟩=some (.int .i64 p1)∧W.cell? ⟨w.heap.size,1,none⟩=some (.int .i64 p2))) (by kernel_rfl) ?_ (fun ah=>?_)
     ·exact (by rw[hV];exact HS.out V bK.out)
     rw[hV] at ah ⊢;refine bn [0,1,2,3,4,5] ?_;iterate 6 (refine cZ ?_;try simp only[pS])
     refine bq ?_;refine eY ?_;clear ah;go_wp2_with fail
     go_ret
     exact⟨by rw[HRK.out];rfl,HB1.out.trans (bK.out.mono HB1.out.size)⟩
    ·have HH2:=zh h2;have HN:Hid ((p1,p2)∉l.take (k+1)):=zh (by
      rw[List.take_add_one,HQ.out];intro hm;rcases List.mem_append.1 hm with hm | hm
      ·exact HB.out.1 hm
      ·have hm2:=List.mem_singleton.1 hm;injection hm2 with f1 f2
       exact HH2.out f2.symm)
     go_upto_region 4 with fail
     refine wp_region_noPanic ?_;refine wp_region_held_drew (S:=(fun W=>W.cell? ⟨gl,ol+k*2,none⟩=some (.int .i64 q1)∧W.cell? ⟨gl,ol+k*2+1,none⟩=some (.int .i64 q2)∧W.cell? ⟨w.heap.size,0,none⟩=some (.int .i64 p1)∧W.cell? ⟨w.heap.size,1,none⟩=some (.int .i64 p2))) (by kernel_rfl) ?_ (fun ah=>?_)
     ·exact (by rw[hV];exact HS.out V bK.out)
     rw[hV] at ah ⊢;refine bn [0,1,2,3,4,5] ?_;iterate 6 (refine cZ ?_;try simp only[pS])
     refine bq ?_;refine eY ?_;clear ah;go_wp2_with fail
     go_roundw
     case rel=>exact⟨k+1,by go_num,by omega,zh ⟨HN.out,bK.out⟩⟩
     case measure=>simp[intOf];omega
   ·have HH1:=zh h1;have HN:Hid ((p1,p2)∉l.take (k+1)):=zh (by
     rw[List.take_add_one,HQ.out];intro hm;rcases List.mem_append.1 hm with hm | hm
     ·exact HB.out.1 hm
     ·have hm2:=List.mem_singleton.1 hm;injection hm2 with f1 f2
      exact HH1.out f1.symm)
    go_upto_region 4 with fail
    refine wp_region_noPanic ?_;refine wp_region_held_drew (S:=(fun W=>W.cell? ⟨gl,ol+k*2,none⟩=some (.int .i64 q1)∧W.cell? ⟨gl,ol+k*2+1,none⟩=some (.int .i64 q2)∧W.cell? ⟨w.heap.size,0,none⟩=some (.int .i64 p1)∧W.cell? ⟨w.heap.size,1,none⟩=some (.int .i64 p2))) (by kernel_rfl) ?_ (fun ah=>?_)
    ·exact (by rw[hV];exact HS.out V bK.out)
    rw[hV] at ah ⊢;refine bn [0,1,2,3,4,5] ?_;iterate 6 (refine cZ ?_;try simp only[pS])
    refine bq ?_;refine eY ?_;clear ah;go_wp2_with fail
    go_roundw
    case rel=>exact⟨k+1,by go_num,by omega,zh ⟨HN.out,bK.out⟩⟩
    case measure=>simp[intOf];omega
  ·have y1:¬ (k:Int)<(l.length:Int):=by omega
   have hR:R = -1:=by
    have hkl':k=l.length:=by omega
    have:=HB.out.1;rw[hkl',List.take_length] at this;rw[←HR.out,if_neg this]
   have HRK:=zh hR;clear hR;go_wp2_with fail
   go_ret
   exact⟨by rw[HRK.out];rfl,HB1.out.trans (HB.out.2.mono HB1.out.size)⟩
end
section
namespace Lv
open Tr
def sD (F:Int→List Pt) (kd:Int) (o:Option Int):List Pt:=if kd<3 then (match o with | some k=>F k | none=>[]) else []
theorem yM (F:Int→List Pt) {kd:Int} (k:Int) (h:kd<3):sD F kd (some k)=F k:=by unfold sD;rw[if_pos h]
theorem yN (F:Int→List Pt) (kd:Int):sD F kd none=[]:=by unfold sD;split<;>rfl
theorem Em (F:Int→List Pt) {kd:Int} (o:Option Int) (h:¬ kd<3):sD F kd o=[]:=by unfold sD;rw[if_neg h]
def je (F:Int→List Pt) (h kd:Int) (kids:List Int):Nat→List Pt
 | 0=>[]
 | j+1=>je F h kd kids j++(h,(j:Int))::sD F kd kids[j]?
theorem KR (F:Int→List Pt) (h kd:Int) (kids:List Int) (hk:kd<3):∀ j,j≤kids.length→je F h kd kids j++iE F h j (kids.drop j)=iE F h 0 kids:=by
 intro j
 induction j with
 | zero=>intro _;rfl
 | succ j ih=>
  intro hj;have hjl:j<kids.length:=by omega
  rw[←ih (by omega),je,List.getElem?_eq_getElem hjl,yM F _ hk,←List.getElem_cons_drop hjl,iE];simp
theorem Ot {P:ByteArray→Nat} {g:G} {z:Int} (w:WF z g) {h:Int} {n:GN} (e:g h=some n) (hk:0<n.kind):je (cO P g) h n.kind n.kids (qK P n+1)=cO P g h:=by
 rw[gq w e];unfold qK
 split
 ·rename_i h2;have key:∀ m,je (cO P g) h n.kind n.kids m=(List.range m).map fun i:Nat=>(h,(i:Int)):=by
   intro m
   induction m with
   | zero=>rfl
   | succ m ih=>rw[je,ih,Em _ _ (by omega),List.range_succ,List.map_append];rfl
  exact key _
 ·rename_i h2;have h3:=KR (cO P g) h n.kind n.kids (by omega) n.kids.length (Nat.le_refl _);rw[List.drop_length,iE] at h3;rw[je,List.getElem?_eq_none (Nat.le_refl _),yN,h3]
theorem Ou (F:Int→List Pt) (h kd:Int) (kids:List Int) (j:Nat):(je F h kd kids j).length≤(je F h kd kids (j+1)).length:=by
 rw[je,List.length_append];omega
theorem KT (F:Int→List Pt) (h kd:Int) (kids:List Int) {i j:Nat} (hij:i≤j):(je F h kd kids i).length≤(je F h kd kids j).length:=by
 induction j with
 | zero=>have:i=0:=(by omega);rw[this];exact Nat.le_refl _
 | succ j ih=>
  by_cases e:i=j+1
  ·rw[e];exact Nat.le_refl _
  ·exact Nat.le_trans (ih (by omega)) (Ou F h kd kids j)
theorem II (F:Int→List Pt) (h:Int):∀ (i:Nat) (l:List Int),(iE F h i l).length=l.length+1+(l.flatMap F).length:=by
 intro i l
 induction l generalizing i with
 | nil=>rfl
 | cons k r ih=>rw[iE,List.length_cons,List.length_append,ih,List.flatMap_cons,List.length_append,List.length_cons];omega
theorem Mr {P:ByteArray→Nat} {g:G} {z:Int} (w:WF z g) {C:Nat} (hC:∀ h n,g h=some n→qK P n≤C):∀ h,(cO P g h).length≤(ak g h).length*(C+1):=by
 refine w.induct fun h ih=>?_;cases e:g h with
 | none=>rw[xL e];exact Nat.zero_le _
 | some n=>
  have hs:=hC h n e;unfold qK at hs;rw[gq w e,w.bR e,List.length_cons,Nat.succ_mul]
  split
  ·rename_i h2;rw[if_pos h2] at hs;rw[List.length_map,List.length_range];omega
  ·rename_i h2;rw[if_neg h2] at hs;rw[II];have key:∀ l:List Int,(∀ k∈l,k∈n.kids)→(l.flatMap (cO P g)).length≤(l.flatMap (ak g)).length*(C+1):=by
    intro l
    induction l with
    | nil=>intro _;exact Nat.zero_le _
    | cons k r ih2=>
     intro hl;rw[List.flatMap_cons,List.flatMap_cons,List.length_append,List.length_append,Nat.add_mul];exact Nat.add_le_add (ih n e k (hl k (List.mem_cons_self ..))) (ih2 fun j hj=>hl j (List.mem_cons_of_mem _ hj))
   have:=key n.kids fun k hk=>hk;omega
end Lv
end
section
open Go.RowKit
theorem Xk:(Tryz.prog.info? 30).map (fun i=>(i.zero,i.size,i.bytes))=some (some (.agg #[.int .i64 0,.int .i64 0]),2,16):=by kernel_rfl
theorem KU (l:List Lv.Pt):∀ u∈fV l,u.oneCell'=true:=by
 intro u hu;obtain⟨p,-,h⟩:=List.mem_flatMap.1 hu;rcases List.mem_cons.1 h with rfl | h
 ·rfl
 ·rw[List.mem_singleton.1 h];rfl
theorem Ua (w:World) (e:TypeId) (u v:Value):∀ j x,[u,v][j]?=some x→(w.alloc (.cells #[u,v] e)).cell? ((⟨w.heap.size,0,none⟩:Addr).add j)=some x:=by
 intro j x hj;have hg:(w.alloc (.cells #[u,v] e)).heap[w.heap.size]?=some (.cells #[u,v] e (0,0)):=heap_alloc_new w _;rw[Addr.add_lit,cell_of_row _ _ _ _ e (0,0) hg];simpa using hj
theorem Ro (base M m:Nat) (vs:Value) (f:Nat→RS) (hw:Tr.WF (-1) (mg m f)) (hm:m≤1000) (hdt:∀ i,i<m→(f i).data.size≤10000∧bB.rep (f i).data.data.toList=(f i).data.data.toList∧0<(f i).kind):∀ h,(mg m f h).isSome→∀ w,MV base w M vs m f→
  Calls Tryz.prog 21 #[.pointer (some ⟨M,0,none⟩),.int .i64 h] w fun e w'=>∃ v,e=.returned v∧TR w' w.heap.size 30 2 v (Lv.cO nE (mg m f) h).length (fV (Lv.cO nE (mg m f) h))∧Below w.heap.size w w':=by
 obtain⟨i0,hi0,hz0,hz1,hz2⟩:=info_parts Xk;refine hw.induct ?_;intro h ih hs w H;obtain⟨i,rfl,hi,hg,U7⟩:=jv hs;have hle:=eP hw hi hg;obtain⟨A,c,rfl⟩:=H.form;obtain⟨n,hn⟩:=eX ((f i).kids.length)
 rw[hn] at hle;obtain⟨F,hF⟩:=eX (Lv.cO nE (mg m f))
 have hall:Lv.je F i (f i).kind (f i).kids (Ej (f i)+1)=F (i:Int):=by rw[←hF];exact Lv.Ot hw U7 (hdt i hi).2.2
 have hlen:(F (i:Int)).length≤200000000:=by
  rw[←hF];have h1:=Lv.Mr (P:=nE) hw (C:=100000) (fun h2 n2 e2=>by
   obtain⟨i2,rfl,hi2,hg2,rfl⟩:=jk e2;have h3:=hdt i2 hi2;have h4:=eP hw hi2 hg2;show (if 2<(f i2).kind then nE (f i2).data else (f i2).kids.length)≤_
   split
   ·have h5:=bB.iY (f i2).data.data.toList;have h6:(f i2).data.data.toList.length=(f i2).data.size:=rfl;unfold nE;omega
   ·omega) (i:Int)
  have h2:=zJ hw (i:Int);have h3:(Tr.ak (mg m f) (i:Int)).length*(100000+1)≤1000*(100000+1):=Nat.mul_le_mul_right _ (by omega);omega
 obtain⟨S,hS⟩:=eX (Ej (f i))
 rw[hS] at hall;obtain⟨kd,hkd⟩:=eX ((f i).kind)
 have hSn:kd<3→S=n:=fun h3=>by rw[←hS,←hn];unfold Ej;rw[if_neg (by omega)]
 rw[hkd] at hall;have hSb:S≤100000:=by
  rw[←hS];have h3:=hdt i hi;unfold Ej
  split
  ·have h5:=bB.iY (f i).data.data.toList;have h6:(f i).data.data.toList.length=(f i).data.size:=rfl;unfold nE;omega
  ·omega
 obtain⟨g,rfl,-⟩:=H.read hi;have q1:(0:Int)≤(i:Int):=by omega
 have q2:(i:Int)<(m:Int):=by omega
 have Rw:=zh (fun (W:World) (hb:Below w.heap.size w W)=>show W.cell? ⟨M,0,none⟩=some (.slice (some ⟨g,0,none⟩) m c)∧W.cell? ⟨g,i*7,none⟩=some (.int .i64 kd)∧W.cell? ⟨g,i*7+5,none⟩=some (.slice (f i).k.a n (f i).k.c) from by
  obtain⟨g2,hA,x0,-,-,-,-,x5,-⟩:=(H.below hb).read hi;injection hA with hA;injection hA with hA;subst hA;have hkn:=H.kn hi;rw[hkn,hn] at x5
  exact⟨(H.below hb).cell.1,by rw[←hkd];exact x0,x5⟩)
 have HKC:=zh (fun (W:World) (hb:Below w.heap.size w W) (j:Nat) (k:Int) (hj:(f i).kids[j]?=some k)=>(H.below hb).kid hi hj);have XG:=zh (fun (W:World) (hb:Below w.heap.size w W)=>H.below hb);have Vd:=zh (fun (W:World) (hb:Below w.heap.size w W)=>show Calls Tryz.prog 17 #[.pointer (some ⟨M,0,none⟩),.int .i64 (i:Int)] W fun e w'=>e=.returned (.int .i64 (S:Nat))∧Below W.heap.size W w' from by
  rw[←hS];exact El base M m _ f i W (H.below hb) hi (hdt i hi).1 (hdt i hi).2.1 (by omega))
 rw[hF] at ih ⊢;have HI:=zh ih;have HA:=zh hall;have HL:=zh hlen;have HW:=zh hw;have HN:=zh (And.intro hn hSn);have HG:=zh hg;clear H ih hall hlen hw U7 hs hn hg hF hS hkd hSn hdt
 go_enter Tryz.func21,Tryz.ntmps21
 go_wp2_with fail
 go_loopw [5,6] (fun v u wr=>∃ j:Nat,u=.int .i64 (j:Int)∧j≤S+1∧TR wr w.heap.size 30 2 v (Lv.je F i kd (f i).kids j).length (fV (Lv.je F i kd (f i).kids j))∧Below w.heap.size w wr) (fun _ u _=>S+1 - (intOf u).toNat)
 case atStart=>exact⟨0,rfl,Nat.zero_le _,TR.nil _ _ _ _,Below.refl _ _⟩
 case round=>
  obtain⟨j,rfl,hj,o,hbr⟩:=hrel;have j0:(0:Int)≤(j:Int):=by omega
  have HO0:=zh o;have LM:=zh hbr;clear o;go_wp2_with fail;refine (Vd.out _ hbr).mono ?_;rintro e w2 ⟨rfl,hb2⟩;have HB2:=zh (LM.out.trans (hb2.mono LM.out.size));have RB:=zh (HO0.out.below hb2);clear hb2 hbr;by_cases hjS:j≤S
  ·have j1:(j:Int)≤(S:Int):=by omega
   obtain⟨P,hP⟩:=eX (Lv.je F i kd (f i).kids j)
   obtain⟨KP,hKP⟩:=eX (Lv.sD F kd (f i).kids[j]?)
   have hl1:(Lv.je F i kd (f i).kids (j+1)).length≤200000000:=by
    have:=Lv.KT F i kd (f i).kids (i:=j+1) (j:=S+1) (by omega);rw[HA.out] at this;have:=HL.out;omega
   have hsn:Lv.je F i kd (f i).kids (j+1)=P++((i:Int),(j:Int))::KP:=by rw[Lv.je,hP,hKP]
   rw[hsn,List.length_append,List.length_cons] at hl1;have HX:=zh hsn;have RO:=zh hKP;have o:=RB.out;rw[hP] at o;obtain⟨w3,hw3⟩:=eX (w2.alloc (.cells #[.int .i64 (i:Int),.int .i64 (j:Int)] 30))
   have src:=Ua w2 30 (.int .i64 (i:Int)) (.int .i64 (j:Int));rw[hw3] at src;have hb3:Below w2.heap.size w2 w3:=fI hw3;have HB3:=zh (HB2.out.trans (hb3.mono HB2.out.size));have o':=o.below hb3;have hbs:=HB3.out.size;have HW3:=zh hw3;clear hsn hP hKP o hb3 hw3
   go_wp2_with (at_builtin;(try rw[HW3.out]);refine bA rfl _ _ 76 rfl w.heap.size 30 i0 (.agg #[.int .i64 0,.int .i64 0]) 2 16 Tryz.underlying76 hi0 hz0 hz1 hz2 rfl (by decide) _ P.length (fV P) rfl o' _ 1 [.int .i64 (i:Int),.int .i64 (j:Int)] rfl rfl (.inr ⟨_,_,rfl,src⟩) ?c2 ?c3 ?c4 hbs ?_)
   case c2=>intro u hu;rcases List.mem_cons.1 hu with rfl | hu;rfl;rw[List.mem_singleton.1 hu];rfl
   case c3=>unfold maxLen;omega
   case c4=>omega
   intro v4 w4 o4 g4 f4;have hb4:=HB3.out.grown g4 hbs (fun j hj=>(o'.lt j hj).1);have jy:=zh hb4;obtain⟨P1,hP1⟩:=eX (P++[((i:Int),(j:Int))])
   have HO4:Hid (TR w4 w.heap.size 30 2 v4 P1.length (fV P1)):=zh (by rw[←hP1,uI,List.length_append];exact o4);have XW:=zh hP1;have hl2:P1.length=P.length+1:=by rw[←hP1,List.length_append];rfl
   clear hb4 o4 g4 f4 o' src hbs hP1;obtain⟨k0,c0,c5⟩:=Rw.out w4 jy.out;have Vh:KP=[]→TR w4 w.heap.size 30 2 v4 (Lv.je F i kd (f i).kids (j+1)).length (fV (Lv.je F i kd (f i).kids (j+1))):=fun e=>by
    rw[HX.out,e,XW.out];exact HO4.out
   have HSK:=zh Vh;clear Vh;by_cases hk3:kd<3
   ·have hSn:=HN.out.2 hk3;by_cases hjn:j<n
    ·have n1:(j:Int)<(n:Int):=by omega
     obtain⟨k,hk⟩:∃ k,(f i).kids[j]?=some k:=⟨(f i).kids[j]'(by rw[HN.out.1];exact hjn),by simp⟩
     obtain⟨ga,oa,hA,ck⟩:=HKC.out _ jy.out j k hk;rw[hA] at c5;have hkm:k∈(f i).kids:=List.mem_of_getElem? hk;obtain⟨i',hki,hi',hg',_⟩:=Live.kid HW.out hi HG.out hkm;have hcall:=HI.out _ (aM hi HG.out) k hkm (by rw[hki,jm hi',hg'];rfl) _ (XG.out _ jy.out);have hkp:KP=F k:=by rw[←RO.out,hk,Lv.yM F k hk3]
     subst hkp;obtain⟨Q,hQ⟩:=eX (F k)
     rw[hQ] at hl1 hcall;have HQ:=zh hQ;have HC:=zh hcall;clear hcall hk hkm hki hA hg' hQ;go_wp2_with fail;refine HC.out.mono ?_;rintro e w5 ⟨v2,rfl,o2,hb5⟩;have jg:=zh (jy.out.trans (hb5.mono jy.out.size));have o5:=HO4.out.below hb5;have src:=o2.source;have hbs:=jg.out.size;clear HC o2 hb5
     go_wp2_with (at_builtin;refine bA rfl _ _ 76 rfl w.heap.size 30 i0 (.agg #[.int .i64 0,.int .i64 0]) 2 16 Tryz.underlying76 hi0 hz0 hz1 hz2 rfl (by decide) _ P1.length (fV P1) rfl o5 _ Q.length (fV Q) rfl (KO Q) src (KU Q) ?c5 ?c6 hbs ?_)
     case c5=>unfold maxLen;omega
     case c6=>omega
     intro v6 w6 o6 g6 f6;have iQ:=zh (jg.out.grown g6 hbs (fun j hj=>(o5.lt j hj).1));have HO6:Hid (TR w6 w.heap.size 30 2 v6 (Lv.je F i kd (f i).kids (j+1)).length (fV (Lv.je F i kd (f i).kids (j+1)))):=zh (by
      rw[HX.out,HQ.out,show P++((i:Int),(j:Int))::Q=P1++Q by rw[←XW.out];simp,uI,List.length_append,hl2]
      exact o6)
     clear o6 g6 f6 o5 src hbs;go_wp2_with fail
     go_roundw
     case rel=>exact⟨j+1,by go_num,by omega,HO6.out,iQ.out⟩
     case measure=>simp[intOf];omega
    ·have n1:¬ (j:Int)<(n:Int):=by omega
     have hkp:KP=[]:=by rw[←RO.out,List.getElem?_eq_none (by rw[HN.out.1];omega),Lv.yN]
     have HO5:=zh (HSK.out hkp);clear hkp;go_wp2_with fail
     go_roundw
     case rel=>exact⟨j+1,by go_num,by omega,HO5.out,jy.out⟩
     case measure=>simp[intOf];omega
   ·have hkp:KP=[]:=by rw[←RO.out,Lv.Em F _ hk3]
    have HO5:=zh (HSK.out hkp);clear hkp;go_wp2_with fail
    go_roundw
    case rel=>exact⟨j+1,by go_num,by omega,HO5.out,jy.out⟩
    case measure=>simp[intOf];omega
  ·have j1:¬ (j:Int)≤(S:Int):=by omega
   have abE:j=S+1:=by omega
   subst abE;have HO:=zh (show TR w2 w.heap.size 30 2 _ (F (i:Int)).length (fV (F (i:Int))) from by rw[←HA.out];exact RB.out);go_wp2_with fail
   go_ret
   exact⟨_,rfl,HO.out,HB2.out⟩
theorem Nh (base M m:Nat) (vs:Value) (f:Nat→RS) (x i y j:Int) (w:World) (H:MV base w M vs m f) (hw:Tr.WF (-1) (mg m f)) (hm:m≤1000) (hdt:∀ i,i<m→(f i).data.size≤10000∧bB.rep (f i).data.data.toList=(f i).data.data.toList∧0<(f i).kind) (hb:(mg m f x).isSome) (hb0:0≤x) (t:Int) (ht:Tr.dF (Tr.aS (mg m f) x)=t) (hts:(mg m f t).isSome)
  (hx:(x,i)∈Lv.cO nE (mg m f) t) (hy:(y,j)∈Lv.cO nE (mg m f) t) (hln:(Lv.cO nE (mg m f) t).length≤1000000000):
  Calls Tryz.prog 11 #[.pointer (some ⟨M,0,none⟩),.agg #[.int .i64 x,.int .i64 i],.agg #[.int .i64 y,.int .i64 j]] w fun e w'=>e=.returned (.int .i64 (ou ((Lv.cO nE (mg m f) t).idxOf (x,i):Nat) ((Lv.cO nE (mg m f) t).idxOf (y,j):Nat)))∧Below w.heap.size w w':=by
 obtain⟨l,hl⟩:=eX (Lv.cO nE (mg m f) t)
 rw[hl] at hx hy hln ⊢;obtain⟨ix,hix⟩:=eX (l.idxOf (x,i))
 obtain⟨iy,RF⟩:=eX (l.idxOf (y,j))
 have aci:ix<l.length:=by rw[←hix];exact List.idxOf_lt_length_of_mem hx
 have acj:iy<l.length:=by rw[←RF];exact List.idxOf_lt_length_of_mem hy
 rw[hix,RF];obtain⟨R,hR⟩:=eX (ou (ix:Int) (iy:Int))
 rw[hR];have HR:=zh hR;clear hR;obtain⟨w1,hw1⟩:=eX (w.alloc (.cells #[.int .i64 x,.int .i64 i] 30))
 obtain⟨w2,hw2⟩:=eX (w1.alloc (.cells #[.int .i64 y,.int .i64 j] 30))
 have hX1:Whole w1 w.heap.size #[.int .i64 x,.int .i64 i] 30:=by rw[←hw1];exact Whole.new _ _ _
 have hz1:w1.heap.size=w.heap.size+1:=by rw[←hw1];simp
 have hb1:Below w.heap.size w w1:=fI hw1;have hb2:Below w1.heap.size w1 w2:=fI hw2;have hX2:Whole w2 (w.heap.size+1) #[.int .i64 y,.int .i64 j] 30:=by rw[←hw2,←hz1];exact Whole.new _ _ _
 have HB2:Hid (Below w.heap.size w w2):=zh (hb1.trans (hb2.mono hb1.size));have HC:Hid (∀ W,Below w2.heap.size w2 W→W.cell? ⟨w.heap.size,0,none⟩=some (.int .i64 x)∧W.cell? ⟨w.heap.size,1,none⟩=some (.int .i64 i)∧W.cell? ⟨w.heap.size+1,0,none⟩=some (.int .i64 y)∧W.cell? ⟨w.heap.size+1,1,none⟩=some (.int .i64 j)):=zh fun W hb=>by
  have h1:=(hX1.below hb2 hX1.lt).below hb (hX1.below hb2 hX1.lt).lt;have h2:=hX2.below hb hX2.lt;exact⟨h1.cell 0,h1.cell 1,h2.cell 0,h2.cell 1⟩
 have HW2:Hid ((w.alloc (.cells #[.int .i64 x,.int .i64 i] 30)).alloc (.cells #[.int .i64 y,.int .i64 j] 30)=w2):=zh (by rw[hw1,hw2]);have HH:Hid (∀ W,Below w2.heap.size w2 W→MV base W M vs m f):=zh fun W hb=>(H.below (HB2.out)).below hb;have HT:=zh (fun W (hb':Below w2.heap.size w2 W)=>show Calls Tryz.prog 10 #[.pointer (some ⟨M,0,none⟩),.int .i64 x] W fun e w'=>e=.returned (.int .i64 t)∧w'=W from by rw[←ht];exact AU base M m vs f x W (HH.out W hb') hw (.inr hb) hb0 (by omega));have HAL:=zh (fun W (hb':Below w2.heap.size w2 W)=>Ro base M m vs f hw hm hdt t hts W (HH.out W hb'));rw[hl] at HAL;have uo:=zh (fun (W:World) (hb:Below w2.heap.size w2 W)=>HB2.out.trans (hb.mono HB2.out.size));have HM:=zh (And.intro hx (And.intro hy (And.intro hix RF)));obtain⟨c0,c1,c2,c3⟩:=HC.out w2 (Below.refl _ _);clear hw1 hw2 hX1 hX2 hz1 hb1 hb2 H hw hdt hb ht hts hx hy hl hix RF
 go_enter Tryz.func11,Tryz.ntmps11
 go_upto_region 1 with fail
 rw[HW2.out];clear HW2;go_wp2_with fail;refine (HT.out w2 (Below.refl _ _)).mono ?_;rintro e w3 ⟨rfl,hw3⟩;rw[hw3];clear hw3 w3;go_wp2_with fail;refine (HAL.out w2 (Below.refl _ _)).mono ?_;rintro e w3 ⟨v,rfl,htr,hb3⟩;obtain⟨Al,cl,rfl⟩:=TR.form htr;have HB3:=zh hb3;have HF1:=zh (fun W (hb:Below w3.heap.size w3 W)=>show Calls Tryz.prog 22 #[.slice Al l.length cl,.agg #[.int .i64 x,.int .i64 i]] W fun e w'=>e=.returned (.int .i64 (ix:Nat))∧Below W.heap.size W w' from by
  have:=BU w2.heap.size (.slice Al l.length cl) l x i W (TR.below htr hb) hln;rw[if_pos HM.out.1,HM.out.2.2.1] at this
  exact this)
 have HF2:=zh (fun W (hb:Below w3.heap.size w3 W)=>show Calls Tryz.prog 22 #[.slice Al l.length cl,.agg #[.int .i64 y,.int .i64 j]] W fun e w'=>e=.returned (.int .i64 (iy:Nat))∧Below W.heap.size W w' from by
  have:=BU w2.heap.size (.slice Al l.length cl) l y j W (TR.below htr hb) hln;rw[if_pos HM.out.2.1,HM.out.2.2.2] at this
  exact this)
 have HC3:=zh (fun W (hb:Below w3.heap.size w3 W)=>HC.out W (HB3.out.trans (hb.mono HB3.out.size)));have HR3:=zh (Below.refl w3.heap.size w3);obtain⟨V,hV⟩:=eX (w3.drew)
 have bK:=zh (HR3.out.trans ((lW hV).mono HR3.out.size));clear htr hb3 c0 c1 c2 c3
 go_upto_region 2 with fail
 refine wp_region_noPanic ?_;refine wp_region_held_drew (S:=(fun W=>W.cell? ⟨w.heap.size,0,none⟩=some (.int .i64 x)∧W.cell? ⟨w.heap.size,1,none⟩=some (.int .i64 i)∧W.cell? ⟨w.heap.size+1,0,none⟩=some (.int .i64 y)∧W.cell? ⟨w.heap.size+1,1,none⟩=some (.int .i64 j))) (by kernel_rfl) ?_ (fun ah=>?_)
 ·exact (by rw[hV];exact HC3.out V bK.out)
 rw[hV] at ah ⊢;refine bn [0,1,3,4] ?_;iterate 4 (refine cZ ?_;try simp only[pS])
 refine bq ?_;refine bG 2 fun K hK=>?_;go_simp;refine (HF1.out V bK.out).mono ?_;rintro e w5 ⟨rfl,hbb⟩;have jg:=zh (bK.out.trans (hbb.mono bK.out.size));refine hK.out _ _ (HC3.out w5 jg.out) fun ah=>?_;clear hK K hbb;(try simp only[pS]);refine bG 5 fun K hK=>?_;go_simp;refine (HF2.out w5 jg.out).mono ?_;rintro e w6 ⟨rfl,hbb⟩;have iQ:=zh (jg.out.trans (hbb.mono jg.out.size));refine hK.out _ _ (HC3.out w6 iQ.out) fun ah=>?_;clear hK K hbb;(try simp only[pS]);refine bn [6,7] ?_;iterate 2 (refine cZ ?_;try simp only[pS])
 refine bq ?_;refine eY ?_;clear ah;have HE:=zh (uo.out _ (HB3.out.trans (iQ.out.mono HB3.out.size)));rcases Nat.lt_trichotomy ix iy with h | h | h
 ·have h1:(ix:Int)<(iy:Int):=by omega
  have HV:=zh (show R = -1 from by rw[←HR.out,mM h1]);go_wp2_with fail
  go_ret
  exact⟨by rw[HV.out];rfl,HE.out⟩
 ·subst h;have HV:=zh (show R=0 from by rw[←HR.out,p9]);have h1:¬ (ix:Int)<(ix:Int):=by omega
  have h2:(ix:Int) - (ix:Int)=0:=by omega
  go_wp2_with fail
  go_ret
  exact⟨by rw[HV.out];rfl,HE.out⟩
 ·have h1:(iy:Int)<(ix:Int):=by omega
  have HV:=zh (show R=1 from by rw[←HR.out,mO h1]);have h3:¬ (ix:Int)<(iy:Int):=by omega
  obtain⟨d,hd⟩:∃ d:Nat,(ix:Int) - (iy:Int)=(d:Int)+1:=⟨ix - iy - 1,by omega⟩
  have hw:IntKind.i64.wrap ((ix:Int) - (iy:Int))=(d:Int)+1:=by rw[IntKind.wrap_i64];omega
  have h4:¬ (d:Int)+1<1:=by omega
  go_wp2_with fail
  go_ret
  refine⟨?_,HE.out⟩;rw[HV.out]
  first | rfl | (show Ending.returned (.int .i64 _)=_;congr 2;omega)
def BX (g:Tr.G) (x i y j:Int):Bool:=decide (Tr.dF (Tr.aS g x)=Tr.dF (Tr.aS g y)) && decide (ou ((Lv.cO nE g (Tr.dF (Tr.aS g x))).idxOf (x,i):Nat) ((Lv.cO nE g (Tr.dF (Tr.aS g x))).idxOf (y,j):Nat)≤0)
theorem IJ (base B:Nat) (b s root x i y j:Int) (live n:Nat) (g:Tr.G) (av:Int→Tr.Sl) (fr:List Nat) (vs vf:Value) (w:World) (H:KN base B b s root live n g av fr vs vf w) (hx:gI x) (hi:gI i) (hy:gI y) (hj:gI j) (he1:oV g x i=0) (he2:oV g y j=0):
  Calls Tryz.prog 59 #[.pointer (some ⟨B,0,none⟩),.agg #[.int .i64 x,.int .i64 i],.agg #[.int .i64 y,.int .i64 j]] w fun e w'=>e=.returned (.bool (BX g x i y j))∧Below w.heap.size w w':=by
 obtain⟨R,hR⟩:=eX (BX g x i y j)
 rw[hR];have HR:=zh hR;clear hR;obtain⟨w1,hw1⟩:=eX (w.alloc (.cells #[.int .i64 x,.int .i64 i] 31))
 obtain⟨w2,hw2⟩:=eX (w1.alloc (.cells #[.int .i64 y,.int .i64 j] 31))
 have hX1:Whole w1 w.heap.size #[.int .i64 x,.int .i64 i] 31:=by rw[←hw1];exact Whole.new _ _ _
 have hz1:w1.heap.size=w.heap.size+1:=by rw[←hw1];simp
 have hb1:Below w.heap.size w w1:=fI hw1;have hb2:Below w1.heap.size w1 w2:=fI hw2;have hX2:Whole w2 (w.heap.size+1) #[.int .i64 y,.int .i64 j] 31:=by rw[←hw2,←hz1];exact Whole.new _ _ _
 have HB2:Hid (Below w.heap.size w w2):=zh (hb1.trans (hb2.mono hb1.size));have HC:Hid (∀ W,Below w2.heap.size w2 W→W.cell? ⟨w.heap.size,0,none⟩=some (.int .i64 x)∧W.cell? ⟨w.heap.size,1,none⟩=some (.int .i64 i)∧W.cell? ⟨w.heap.size+1,0,none⟩=some (.int .i64 y)∧W.cell? ⟨w.heap.size+1,1,none⟩=some (.int .i64 j)):=zh fun W hb=>by
  have h1:=(hX1.below hb2 hX1.lt).below hb (hX1.below hb2 hX1.lt).lt;have h2:=hX2.below hb hX2.lt;exact⟨h1.cell 0,h1.cell 1,h2.cell 0,h2.cell 1⟩
 have HW2:Hid ((w.alloc (.cells #[.int .i64 x,.int .i64 i] 31)).alloc (.cells #[.int .i64 y,.int .i64 j] 31)=w2):=zh (by rw[hw1,hw2]);have HH:Hid (∀ W,Below w2.heap.size w2 W→KN base B b s root live n g av fr vs vf W):=zh fun W hb=>(H.below (HB2.out)).below hb;have HT1:Hid (∀ W,Below w2.heap.size w2 W→Calls Tryz.prog 19 #[.pointer (some ⟨B,0,none⟩),.int .i64 x] W fun e w'=>e=.returned (.int .i64 (Tr.dF (Tr.aS g x)))∧Below W.heap.size W w'):=zh fun W hb=>tO base B b s root x live n g av fr vs vf W (HH.out W hb).tv (HH.out W hb).so (HH.out W hb).wf hx;have HT2:Hid (∀ W,Below w2.heap.size w2 W→Calls Tryz.prog 19 #[.pointer (some ⟨B,0,none⟩),.int .i64 y] W fun e w'=>e=.returned (.int .i64 (Tr.dF (Tr.aS g y)))∧Below W.heap.size W w'):=zh fun W hb=>tO base B b s root y live n g av fr vs vf W (HH.out W hb).tv (HH.out W hb).so (HH.out W hb).wf hy;obtain⟨tx,htx⟩:=eX (Tr.dF (Tr.aS g x))
 obtain⟨ty,hty⟩:=eX (Tr.dF (Tr.aS g y))
 rw[htx] at HT1;rw[hty] at HT2;have zM:=zh (And.intro he1 (And.intro he2 (And.intro htx hty)));have uo:=zh (fun (W:World) (hb:Below w2.heap.size w2 W)=>HB2.out.trans (hb.mono HB2.out.size));have HR2:=zh (Below.refl w2.heap.size w2);obtain⟨V,hV⟩:=eX (w2.drew)
 have bK:=zh (HR2.out.trans ((lW hV).mono HR2.out.size));have HO:tx=ty→∃ z:Int,-1≤z∧z≤1∧ou ((Lv.cO nE g tx).idxOf (x,i):Nat) ((Lv.cO nE g tx).idxOf (y,j):Nat)=z∧Hid (∀ W,Below w2.heap.size w2 W→Calls Tryz.prog 20 #[.pointer (some ⟨B,0,none⟩),.agg #[.int .i64 x,.int .i64 i],.agg #[.int .i64 y,.int .i64 j]] W fun e w'=>e=.returned (.int .i64 z)∧Below W.heap.size W w'):=fun Xl=>by
  obtain⟨nx,i',ex,rfl,hi'⟩:=zL zM.out.1;obtain⟨ny,j',ey,rfl,hj'⟩:=zL zM.out.2.1;have hb:=P7 ((Lv.cO nE g tx).idxOf (x,(i':Int)):Nat) ((Lv.cO nE g tx).idxOf (y,(j':Int)):Nat);exact⟨_,hb.1,hb.2,rfl,zh fun W hb=>DR base B b s root x y tx i' j' live n g av fr vs vf nx ny nE W (HH.out W hb).tv (HH.out W hb).so (HH.out W hb).wf (HH.out W hb).at' (HH.out W hb).al (HH.out W hb).lf ex ey hi' hj' (by have:=size_le (HH.out W hb) ex;omega) (by have:=size_le (HH.out W hb) ey;omega) zM.out.2.2.1 (by rw[zM.out.2.2.2,Xl])⟩
 clear hw1 hw2 hX1 hX2 hz1 hb1 hb2 H he1 he2 htx hty
 go_enter Tryz.func59,Tryz.ntmps59
 go_upto_region 1 with fail
 rw[HW2.out];clear HW2;by_cases Xl:tx=ty
 ·obtain⟨z,z1,z2,hz,HOO⟩:=HO Xl;have HRZ:=zh (show R=decide (z≤0) from by
   rw[←HR.out];unfold BX;rw[zM.out.2.2.1,zM.out.2.2.2,hz,Xl]
   simp)
  subst Xl;clear hz HO;by_cases hz0:z≤0;all_goals
   refine wp_region_noPanic ?_;refine wp_region_held_drew (S:=(fun W=>W.cell? ⟨w.heap.size,0,none⟩=some (.int .i64 x)∧W.cell? ⟨w.heap.size,1,none⟩=some (.int .i64 i)∧W.cell? ⟨w.heap.size+1,0,none⟩=some (.int .i64 y)∧W.cell? ⟨w.heap.size+1,1,none⟩=some (.int .i64 j))) (by kernel_rfl) ?_ (fun ah=>?_)
   ·exact (by rw[hV];exact HC.out V bK.out)
   rw[hV] at ah ⊢;refine bn [0,1,2,4,5,6] ?_;iterate 6 (refine cZ ?_;try simp only[pS])
   refine bq ?_;refine bG 3 fun K hK=>?_;go_simp;refine (HT1.out V bK.out).mono ?_;rintro e w5 ⟨rfl,hbb⟩;have jg:=zh (bK.out.trans (hbb.mono bK.out.size));refine hK.out _ _ (HC.out w5 jg.out) fun ah=>?_;clear hK K hbb;(try simp only[pS]);refine bG 7 fun K hK=>?_;go_simp;refine (HT2.out w5 jg.out).mono ?_;rintro e w6 ⟨rfl,hbb⟩;have iQ:=zh (jg.out.trans (hbb.mono jg.out.size));refine hK.out _ _ (HC.out w6 iQ.out) fun ah=>?_;clear hK K hbb;(try simp only[pS]);refine bn [8,9,10,11,12] ?_;iterate 5 (refine cZ ?_;try simp only[pS])
   refine bq ?_;refine bG 13 fun K hK=>?_;go_simp;refine (HOO.out w6 iQ.out).mono ?_;rintro e w7 ⟨rfl,hbb⟩;have lT:=zh (iQ.out.trans (hbb.mono iQ.out.size));refine hK.out _ _ (HC.out w7 lT.out) fun ah=>?_;clear hK K hbb;(try simp only[pS]);refine bn [14,15,16] ?_;iterate 3 (refine cZ ?_;try simp only[pS])
   refine bq ?_;refine eY ?_;clear ah;go_wp2_with fail
   go_ret
   exact⟨by rw[HRZ.out];first | (rw[decide_eq_true hz0];rfl) | (rw[decide_eq_false (Int.not_le.2 hz0)];rfl),uo.out _ lT.out⟩
 ·have HRZ:=zh (show R=false from by
   rw[←HR.out];unfold BX;rw[zM.out.2.2.1,zM.out.2.2.2,decide_eq_false Xl]
   rfl)
  have hq:(tx == ty)=false:=by simpa using Xl
  clear HO;refine wp_region_noPanic ?_;refine wp_region_held_drew (S:=(fun W=>W.cell? ⟨w.heap.size,0,none⟩=some (.int .i64 x)∧W.cell? ⟨w.heap.size,1,none⟩=some (.int .i64 i)∧W.cell? ⟨w.heap.size+1,0,none⟩=some (.int .i64 y)∧W.cell? ⟨w.heap.size+1,1,none⟩=some (.int .i64 j))) (by kernel_rfl) ?_ (fun ah=>?_)
  ·exact (by rw[hV];exact HC.out V bK.out)
  rw[hV] at ah ⊢;refine bn [0,1,2,4,5,6] ?_;iterate 6 (refine cZ ?_;try simp only[pS])
  refine bq ?_;refine bG 3 fun K hK=>?_;go_simp;refine (HT1.out V bK.out).mono ?_;rintro e w5 ⟨rfl,hbb⟩;have jg:=zh (bK.out.trans (hbb.mono bK.out.size));refine hK.out _ _ (HC.out w5 jg.out) fun ah=>?_;clear hK K hbb;(try simp only[pS]);refine bG 7 fun K hK=>?_;go_simp;refine (HT2.out w5 jg.out).mono ?_;rintro e w6 ⟨rfl,hbb⟩;have iQ:=zh (jg.out.trans (hbb.mono jg.out.size));refine hK.out _ _ (HC.out w6 iQ.out) fun ah=>?_;clear hK K hbb;(try simp only[pS]);refine bn [8,9] ?_;iterate 2 (refine cZ ?_;try simp only[pS])
  refine bq ?_;refine bn [10,11,12,13,14] ?_;iterate 5 (refine cZ (v:=undef) ?_ (hy:=Or.inr ⟨by rfl,rfl⟩);try simp only[pS])
  refine bq ?_;refine bn [15,16] ?_;iterate 2 (refine cZ ?_;try simp only[pS])
  refine bq ?_;refine eY ?_;clear ah;go_wp2_with fail
  go_ret
  exact⟨by rw[HRZ.out];rfl,uo.out _ iQ.out⟩
theorem Rp (base B:Nat) (b s root id x i y j:Int) (live n:Nat) (g:Tr.G) (av:Int→Tr.Sl) (fr:List Nat) (vs vf:Value) (w:World) (H:KN base B b s root live n g av fr vs vf w) (hx:gI x) (hi:gI i) (hy:gI y) (hj:gI j) (he1:oV g x i=0) (he2:oV g y j=0) (hin:BX g x i y j=true):
  Calls Tryz.prog 26 #[.pointer (some ⟨B,0,none⟩),.agg #[.int .i64 id,.int .i64 x,.int .i64 i,.int .i64 y,.int .i64 j]] w fun e w'=>e=.returned (.bool true)∧Below w.heap.size w w':=by
 obtain⟨w1,hw1⟩:=eX (w.alloc (.cells #[.int .i64 id,.int .i64 x,.int .i64 i,.int .i64 y,.int .i64 j] 86))
 have hX:Whole w1 w.heap.size #[.int .i64 id,.int .i64 x,.int .i64 i,.int .i64 y,.int .i64 j] 86:=by rw[←hw1];exact Whole.new _ _ _
 have hb1:Below w.heap.size w w1:=fI hw1;have HB1:=zh hb1;have HH:=zh (fun (W:World) (hb:Below w1.heap.size w1 W)=>(H.below hb1).below hb);have HX:=zh (fun (W:World) (hb:Below w1.heap.size w1 W)=>hX.below hb hX.lt);have XW:=zh (fun (W:World) (hb:Below w1.heap.size w1 W)=>show Calls Tryz.prog 18 #[.pointer (some ⟨B,0,none⟩),.agg #[.int .i64 x,.int .i64 i]] W fun e w'=>e=.returned (.int .i64 0)∧Below W.heap.size W w' from by rw[←he1];exact sw base B b s root x i live n g av fr vs vf W (HH.out W hb) hx hi);have HP2:=zh (fun (W:World) (hb:Below w1.heap.size w1 W)=>show Calls Tryz.prog 18 #[.pointer (some ⟨B,0,none⟩),.agg #[.int .i64 y,.int .i64 j]] W fun e w'=>e=.returned (.int .i64 0)∧Below W.heap.size W w' from by rw[←he2];exact sw base B b s root y j live n g av fr vs vf W (HH.out W hb) hy hj);have XU:=zh (fun (W:World) (hb:Below w1.heap.size w1 W)=>show Calls Tryz.prog 59 #[.pointer (some ⟨B,0,none⟩),.agg #[.int .i64 x,.int .i64 i],.agg #[.int .i64 y,.int .i64 j]] W fun e w'=>e=.returned (.bool true)∧Below W.heap.size W w' from by rw[←hin];exact IJ base B b s root x i y j live n g av fr vs vf W (HH.out W hb) hx hi hy hj he1 he2);have HW1:=zh hw1;have x1:=hX.cell 1;have x2:=hX.cell 2;clear hw1 hX hb1 H hin he1 he2
 go_enter Tryz.func26,Tryz.ntmps26
 go_upto_region 1 with fail
 rw[HW1.out];go_wp2_with fail;refine (XW.out w1 (Below.refl _ _)).mono ?_;rintro e w2 ⟨rfl,hb2⟩;have HB2:=zh hb2;clear hb2 x1 x2;have x3:=(HX.out w2 HB2.out).cell 3;have x4:=(HX.out w2 HB2.out).cell 4;go_wp2_with fail;refine (HP2.out w2 HB2.out).mono ?_;rintro e w3 ⟨rfl,hb3⟩;have HB3:=zh (HB2.out.trans (hb3.mono HB2.out.size));clear hb3 x3 x4;have x1:=(HX.out w3 HB3.out).cell 1;have x2:=(HX.out w3 HB3.out).cell 2;have x3:=(HX.out w3 HB3.out).cell 3;have x4:=(HX.out w3 HB3.out).cell 4;go_wp2_with fail;refine (XU.out w3 HB3.out).mono ?_;rintro e w4 ⟨rfl,hb4⟩;have jy:=zh (HB3.out.trans (hb4.mono HB3.out.size));clear hb4 x1 x2 x3 x4;go_wp2_with fail
 go_ret
 exact⟨rfl,HB1.out.trans (jy.out.mono HB1.out.size)⟩
theorem sF (A:Option Addr) (n c:Nat) (w:World) (hn:n≤1):Calls Tryz.prog 62 #[.slice A n c] w fun e w'=>e=.returned (.bool true)∧w'=w:=by
 have h1:¬ (0:Int)<(n:Int) - 1:=by omega
 have h2:IntKind.i64.wrap ((n:Int) - 1)=(n:Int) - 1:=by rw[IntKind.wrap_i64];omega
 go_enter Tryz.func62,Tryz.ntmps62
 go_wp2_with fail
 go_loopw [3] (fun u wr=>u=.int .i64 ((n:Int) - 1)∧wr=w) (fun _ _=>0)
 case atStart=>exact⟨rfl,rfl⟩
 case round=>
  obtain⟨rfl,rfl⟩:=hrel;go_wp2_with fail
  go_ret
  exact⟨rfl,rfl⟩
theorem IK (A:Option Addr) (c:Nat) (w:World):Calls Tryz.prog 140 #[.slice A 1 c,.int .i64 0,.int .i64 1] w fun e w'=>(∃ v,e=.returned v)∧w'=w:=by
 go_enter Tryz.func140,Tryz.ntmps140
 go_wp2_with fail
 go_loopw [6] (fun u wr=>u=.int .i64 1∧wr=w) (fun _ _=>0)
 case atStart=>exact⟨rfl,rfl⟩
 case round=>
  obtain⟨rfl,rfl⟩:=hrel;go_wp2_with fail
  first | exact bodyPost_end (results_none rfl _ _ _) rfl ⟨⟨_,rfl⟩,rfl⟩ | exact bodyPost_ret (results_none rfl _ _ _) rfl ⟨⟨_,rfl⟩,rfl⟩
theorem Ov (w:World):Calls Tryz.prog 149 #[.int .u64 1] w fun e w'=>(∃ k:Int,e=.returned (.int .i64 k))∧w'=w:=by
 go_enter Tryz.func149,Tryz.ntmps149
 go_wp2_with fail
 go_ret
 exact⟨⟨_,rfl⟩,rfl⟩
theorem Ub (w:World):Calls Tryz.prog 109 #[.int .u64 1] w fun e w'=>(∃ k:Int,e=.returned (.int .i64 k))∧w'=w:=by
 have HL:=zh (Ov w)
 go_enter Tryz.func109,Tryz.ntmps109
 go_wp2_with fail;refine HL.out.mono ?_;rintro e w2 ⟨⟨k,rfl⟩,hw2⟩;rw[hw2];go_wp2_with fail
 go_ret
 exact⟨⟨_,rfl⟩,rfl⟩
theorem Uc (A:Option Addr) (c:Nat) (k:Int) (w:World):Calls Tryz.prog 108 #[.slice A 1 c,.int .i64 0,.int .i64 1,.int .i64 k] w fun e w'=>(∃ v,e=.returned v)∧w'=w:=by
 have HI:=zh (IK A c w)
 go_enter Tryz.func108,Tryz.ntmps108
 go_wp2_with fail
 go_loopw [1,2] (fun u1 u2 wr=>u1=.int .i64 0∧u2=.int .i64 1∧wr=w) (fun _ _ _=>0)
 case atStart=>exact⟨rfl,rfl,rfl⟩
 case round=>
  obtain⟨rfl,rfl,rfl⟩:=hrel;go_wp2_with fail;refine HI.out.mono ?_;rintro e w2 ⟨⟨v,rfl⟩,hw2⟩;rw[hw2];go_wp2_with fail
  first | exact bodyPost_end (results_none rfl _ _ _) rfl ⟨⟨_,rfl⟩,rfl⟩ | exact bodyPost_ret (results_none rfl _ _ _) rfl ⟨⟨_,rfl⟩,rfl⟩
theorem Rq (A:Option Addr) (c:Nat) (w:World):Calls Tryz.prog 61 #[.slice A 1 c] w fun e w'=>(∃ v,e=.returned v)∧w'=w:=by
 have HL:=zh (Ub w);have HP:=zh (fun k=>Uc A c k w)
 go_enter Tryz.func61,Tryz.ntmps61
 go_wp2_with fail;refine HL.out.mono ?_;rintro e w2 ⟨⟨k,rfl⟩,hw2⟩;rw[hw2];go_wp2_with fail;refine (HP.out k).mono ?_;rintro e w3 ⟨⟨v,rfl⟩,hw3⟩;rw[hw3];go_wp2_with fail
 first | exact bodyPost_end (results_none rfl _ _ _) rfl ⟨⟨_,rfl⟩,rfl⟩ | exact bodyPost_ret (results_none rfl _ _ _) rfl ⟨⟨_,rfl⟩,rfl⟩
theorem Xm {G X:Prop} (use:X→G) (k:X):G:=use k
theorem Xn:(Tryz.prog.info? 86).map (fun i=>(i.zero,i.size,i.bytes))=some (some (.agg #[.int .i64 0,.int .i64 0,.int .i64 0,.int .i64 0,.int .i64 0]),5,40):=by kernel_rfl
theorem IL (base B X:Nat) (b s root x i:Int) (live n:Nat) (g:Tr.G) (av:Int→Tr.Sl) (fr:List Nat) (vs vf:Value) (w:World) (H:KN base B b s root live n g av fr vs vf w) (hX:Whole w X #[.slice none 0 0,.slice none 0 0,.int .i64 0] 52) (hx:gI x) (hi:gI i) (he:oV g x i=0):
  Calls Tryz.prog 13 #[.pointer (some ⟨X,0,none⟩),.pointer (some ⟨B,0,none⟩),.agg #[.int .i64 x,.int .i64 i]] w fun e w'=>∃ (A:Option Addr) (c:Nat),e=.returned (.tuple #[.int .i64 1,.int .i64 0])∧Whole w' X #[.slice A 1 c,.slice none 0 0,.int .i64 1] 52∧TR w' w.heap.size 86 5 (.slice A 1 c) 1 [.int .i64 1,.int .i64 x,.int .i64 i,.int .i64 x,.int .i64 i]∧Turns (fun k=>k=X) w w':=by
 obtain⟨i0,hi0,hz0,hz1,hz2⟩:=info_parts Xn;obtain⟨w1,hw1⟩:=eX (w.alloc (.cells #[.int .i64 x,.int .i64 i] 31))
 have hX1:Whole w1 w.heap.size #[.int .i64 x,.int .i64 i] 31:=by rw[←hw1];exact Whole.new _ _ _
 have hb1:Below w.heap.size w w1:=fI hw1;have HB1:=zh hb1;have hXl:=hX.lt;have HP:=zh (show Calls Tryz.prog 18 #[.pointer (some ⟨B,0,none⟩),.agg #[.int .i64 x,.int .i64 i]] w1 fun e w'=>e=.returned (.int .i64 0)∧Below w1.heap.size w1 w' from by rw[←he];exact sw base B b s root x i live n g av fr vs vf w1 (H.below hb1) hx hi);have HX0:=zh (hX.below hb1 hX.lt);have fQ:=zh hX1;have HW1:=zh hw1;have x0:=hX1.cell 0;have x1:=hX1.cell 1;clear hw1 hX1 hb1 H he hX
 go_enter Tryz.func13,Tryz.ntmps13
 go_upto_region 1 with fail
 rw[HW1.out];go_wp2_with fail;refine HP.out.mono ?_;rintro e w2 ⟨rfl,hb2⟩;have HB2:=zh (HB1.out.trans (hb2.mono HB1.out.size));have hX2:=HX0.out.below hb2 HX0.out.lt;have aW:=fQ.out.below hb2 fQ.out.lt;obtain⟨W1,hW1⟩:=eX (w2.setCell ⟨X,2,none⟩ (.int .i64 1))
 have hXW:Whole W1 X #[.slice none 0 0,.slice none 0 0,.int .i64 1] 52:=by rw[←hW1];exact hX2.put 2 _
 have hBW:Whole W1 w.heap.size #[.int .i64 x,.int .i64 i] 31:=by rw[←hW1];exact aW.other (by show w.heap.size≠X;omega) _
 have hT1:Turns (fun k=>k=X) w W1:=by
  rw[←hW1];exact (Turns.of_below (S:=fun k=>k=X) HB2.out).trans (Turns.aU (S:=fun k=>k=X) (aJ (ay (Below.refl w2.heap.size w2) (some X)) 2 _) (fun k e=>by injection e with e;exact e.symm)) (fun k _ h=>h) (fun k _ h=>h)
 have y0:=hX2.cell 0;have y2:=hX2.cell 2;have yf:=hX2.free 2;obtain⟨V,hV⟩:=eX (W1.drew)
 have dS:=lW hV;have hXV:=hXW.below dS hXW.lt;have hBV:=hBW.below dS hBW.lt;have Ud:=zh (And.intro hXV (And.intro hBV (hT1.trans (Turns.of_below (S:=fun _=>False) dS) (fun k _ h=>h) (fun k _ h=>h.elim):Turns (fun k=>k=X) w V)));have HW2:=zh hW1;clear hb2 hX2 aW hXW hBW hT1 dS hXV hBV x0 x1
 go_upto_region 5 with fail
 (try rw[HW2.out]);obtain⟨w5,fE⟩:=eX (V.alloc (.cells #[.int .i64 1,.int .i64 x,.int .i64 i,.int .i64 x,.int .i64 i] 86))
 have hb5:Below V.heap.size V w5:=fI fE;have dM:=Ud.out.1.below hb5 Ud.out.1.lt;have hB5:=Ud.out.2.1.below hb5 Ud.out.2.1.lt;have RV:=zh (show V.cell? ⟨X,2,none⟩=some (.int .i64 1)∧V.cell? ⟨w.heap.size,0,none⟩=some (.int .i64 x)∧V.cell? ⟨w.heap.size,1,none⟩=some (.int .i64 i) from⟨Ud.out.1.cell 2,Ud.out.2.1.cell 0,Ud.out.2.1.cell 1⟩);have nV:=zh (show w5.cell? ⟨X,2,none⟩=some (.int .i64 1)∧w5.cell? ⟨w.heap.size,0,none⟩=some (.int .i64 x)∧w5.cell? ⟨w.heap.size,1,none⟩=some (.int .i64 i) from⟨dM.cell 2,hB5.cell 0,hB5.cell 1⟩);have f0:V.cell? ⟨X,0,none⟩=some (.slice none 0 0):=Ud.out.1.cell 0;have f5:w5.cell? ⟨X,0,none⟩=some (.slice none 0 0):=dM.cell 0;have hsrc:∀ j u,[Value.int .i64 1,.int .i64 x,.int .i64 i,.int .i64 x,.int .i64 i][j]?=some u→w5.cell? ((⟨V.heap.size,0,none⟩:Addr).add j)=some u:=by
  intro j u hj;have hg:w5.heap[V.heap.size]?=some (.cells #[.int .i64 1,.int .i64 x,.int .i64 i,.int .i64 x,.int .i64 i] 86 (0,0)):=by rw[←fE];exact heap_alloc_new V _
  rw[Addr.add_lit,cell_of_row _ _ _ _ 86 (0,0) hg];simpa using hj
 have zi:=zh (And.intro dM (And.intro hB5 (Ud.out.2.2.trans (Turns.of_below (S:=fun _=>False) hb5) (fun k _ h=>h) (fun k _ h=>h.elim):Turns (fun k=>k=X) w w5)));have hsz5:w.heap.size≤w5.heap.size:=zi.out.2.2.size;clear hb5 dM hB5;refine wp_region_noPanic ?_;refine wp_region_held_drew (S:=(fun W=>W.cell? ⟨X,2,none⟩=some (.int .i64 1)∧W.cell? ⟨w.heap.size,0,none⟩=some (.int .i64 x)∧W.cell? ⟨w.heap.size,1,none⟩=some (.int .i64 i))) (by kernel_rfl) ?_ (fun ah=>?_)
 ·exact (by rw[hV];exact RV.out)
 rw[hV] at ah ⊢;refine bn [0,1,2,3,5,6,7,8,9,10,11] ?_;iterate 11 (refine cZ ?_;try simp only[pS])
 refine bq ?_;apply Xm
 ·intro KEY;refine zQ 4 12 (fun K hK=>?_) fun K hK=>?_
  ·go_simp;refine hK.out _ _ RV.out fun ah=>?_;clear hK K;(try simp only[pS]);refine bG 12 fun K hK=>?_;go_simp;(try rw[fE]);refine hK.out _ _ nV.out fun ah=>?_;clear hK K;(try simp only[pS]);exact KEY
  ·go_simp;(try rw[fE]);refine hK.out _ _ nV.out fun ah=>?_;clear hK K;(try simp only[pS]);refine bG 4 fun K hK=>?_;go_simp;refine hK.out _ _ nV.out fun ah=>?_;clear hK K;(try simp only[pS]);exact KEY
 refine bG 13 fun K hK=>?_;refine aQ rfl _ _ 49 rfl w.heap.size 86 i0 (.agg #[.int .i64 0,.int .i64 0,.int .i64 0,.int .i64 0,.int .i64 0]) 5 40 Tryz.underlying49 hi0 hz0 hz1 hz2 rfl (by decide) _ 0 [] rfl (TR.nil _ _ _ _) _ 1 [.int .i64 1,.int .i64 x,.int .i64 i,.int .i64 x,.int .i64 i] rfl rfl (.inr ⟨_,_,rfl,hsrc⟩) ?c3 ?c4 ?c5 hsz5 ?_
 case c3=>intro u hu;simp at hu;rcases hu with rfl | rfl | rfl | rfl | rfl<;>rfl
 case c4=>unfold maxLen;omega
 case c5=>omega
 intro v7 w6 o7 g7 f7;obtain⟨A7,c7,rfl⟩:=o7.form;have gL:=zi.out.1.grown g7 (by simp[Value.ownBlock,Act.eval]);have hB6:=zi.out.2.1.grown g7 (by simp[Value.ownBlock,Act.eval]);have hT6:Turns (fun k=>k=X) w w6:=zi.out.2.2.trans (Turns.aU (S:=fun _=>False) g7 (fun k e=>by simp[Value.ownBlock,Act.eval] at e)) (fun k _ h=>h) (fun k _ h=>h.elim);obtain⟨w7,hw7⟩:=eX (w6.setCell ⟨X,0,none⟩ (.slice A7 (0+1) c7))
 have g8:w6.grownBy w7 (some X):=by rw[←hw7];exact aJ (ay (Below.refl w6.heap.size w6) _) _ _
 have aL:Whole w7 X #[.slice A7 1 c7,.slice none 0 0,.int .i64 1] 52:=by rw[←hw7];exact gL.put 0 _
 have hB7:=hB6.grown g8 (fun e=>by injection e with e;omega);have Zg:TR w7 w.heap.size 86 5 (.slice A7 1 c7) 1 [.int .i64 1,.int .i64 x,.int .i64 i,.int .i64 x,.int .i64 i]:=TR.turns (S:=fun k=>k=X) o7 (Turns.aU g8 (fun k e=>by injection e with e;exact e.symm)) (fun k hk e=>by have:=(o7.lt k hk).1;omega);have Pk:Turns (fun k=>k=X) w w7:=hT6.trans (Turns.aU (S:=fun k=>k=X) g8 (fun k e=>by injection e with e;exact e.symm)) (fun k _ h=>h) (fun k _ h=>h);have Ev:=zh (show w6.cell? ⟨X,2,none⟩=some (.int .i64 1)∧w6.cell? ⟨w.heap.size,0,none⟩=some (.int .i64 x)∧w6.cell? ⟨w.heap.size,1,none⟩=some (.int .i64 i) from⟨gL.cell 2,hB6.cell 0,hB6.cell 1⟩);have Ll:=zh (show w7.cell? ⟨X,2,none⟩=some (.int .i64 1)∧w7.cell? ⟨w.heap.size,0,none⟩=some (.int .i64 x)∧w7.cell? ⟨w.heap.size,1,none⟩=some (.int .i64 i) from⟨aL.cell 2,hB7.cell 0,hB7.cell 1⟩);have z0:=gL.cell 0;have zf:=gL.free 0;have s2:w7.cell? ⟨X,2,none⟩=some (.int .i64 1):=aL.cell 2;have bC:=zh (And.intro aL (And.intro Zg Pk));refine hK.out _ _ Ev.out fun ah=>?_;clear hK K gL hB6 hT6 g8 aL hB7 Zg Pk o7 g7 f7 hsrc hsz5;(try simp only[pS]);refine bn [14,15] ?_;iterate 2 (refine cZ ?_;try simp only[pS])
 refine bq ?_;refine bG 16 fun K hK=>?_;go_simp;(try rw[hw7]);refine hK.out _ _ Ll.out fun ah=>?_;clear hK K;(try simp only[pS]);refine eY ?_;clear ah;go_wp2_with fail;go_ret2;exact⟨A7,c7,rfl,bC.out.1,bC.out.2.1,bC.out.2.2⟩
theorem KV (w:World) (o p:Obj):((w.alloc o).alloc p).heap[w.heap.size+1]?=some p:=by
 have h:=heap_alloc_new (w.alloc o) p
 rwa [show (w.alloc o).heap.size=w.heap.size+1 from by simp only[World.alloc,Array.size_push]] at h
theorem FH (X base c:Nat) (A:Option Addr) (x i:Int) (w:World) (hX:Whole w X #[.slice A 1 c,.slice none 0 0,.int .i64 1] 52) (hr:TR w base 86 5 (.slice A 1 c) 1 [.int .i64 1,.int .i64 x,.int .i64 i,.int .i64 x,.int .i64 i]):
  Calls Tryz.prog 28 #[.pointer (some ⟨X,0,none⟩)] w fun e w'=>e=.returned (.bool true)∧Below w.heap.size w w':=by
 obtain⟨i0,hi0,hz0,hz1,hz2⟩:=info_parts lZ;obtain⟨g,o,rfl,-,-,-,-⟩:=hr.cells (by omega);have HX:=zh (fun (W:World) (hb:Below w.heap.size w W)=>And.intro ((hX.below hb hX.lt).cell 0) (And.intro ((hX.below hb hX.lt).cell 1) ((hX.below hb hX.lt).cell 2)));have HR:=zh (fun (W:World) (hb:Below w.heap.size w W)=>show W.cell? ⟨g,o,none⟩=some (.int .i64 1)∧W.cell? ⟨g,o+1,none⟩=some (.int .i64 x)∧W.cell? ⟨g,o+2,none⟩=some (.int .i64 i)∧W.cell? ⟨g,o+3,none⟩=some (.int .i64 x)∧W.cell? ⟨g,o+4,none⟩=some (.int .i64 i) from by
  have h:=hr.below hb
  exact⟨h.cellAt 0 _ (by omega) rfl,h.cellAt 1 _ (by omega) rfl,h.cellAt 2 _ (by omega) rfl,h.cellAt 3 _ (by omega) rfl,h.cellAt 4 _ (by omega) rfl⟩)
 obtain⟨x0,x1,x2⟩:=HX.out w (Below.refl _ _);clear hX hr
 go_enter Tryz.func28,Tryz.ntmps28
 go_wp2_with fail
 go_loopw [18,3] (fun j v wr=>((j=.int .i64 0∧v=.slice none 0 0)∨(j=.int .i64 1∧TR wr w.heap.size 3 1 v 1 (ints [1])))∧Below w.heap.size w wr) (fun j _ _=>1 - (intOf j).toNat)
 case atStart=>exact⟨.inl ⟨rfl,rfl⟩,Below.refl _ _⟩
 case round=>
  obtain⟨wo,hwo⟩:∃ wo:World,wo=wr:=⟨_,rfl⟩
  subst hwo;obtain⟨hj,hbr⟩:=hrel;have HB:=zh hbr;rcases hj with ⟨rfl,rfl⟩ | ⟨rfl,ho⟩
  ·obtain⟨r0,r1,r2,r3,r4⟩:=HR.out wo hbr
   go_wp2_with (at_builtin;refine bA rfl _ _ 39 rfl w.heap.size 3 i0 (.int .i64 0) 1 8 Tryz.underlying39 hi0 hz0 hz1 hz2 rfl (by decide) _ 0 [] rfl (TR.nil _ _ _ _) _ 1 (ints [1]) rfl rfl (.inr ⟨_,_,rfl,?hs⟩) (eB _) ?c3 ?c4 ?c5 ?_)
   case hs=>
    intro j u hj;rw[Addr.add_lit,cell_of_row _ _ _ _ 3 (0,0) (KV _ _ _)];simpa [ints] using hj
   case c3=>unfold maxLen;omega
   case c4=>omega
   case c5=>
    have:=hbr.size;simp only[World.alloc,Array.size_push];omega
   intro v5 w5 o5 g5 f5;have OU:TR w5 w.heap.size 3 1 v5 1 (ints [1]):=by simpa using o5
   have hb5:Below w.heap.size w w5:=((hbr.alloc hbr.size _).alloc (by have:=hbr.size;simp only[World.alloc,Array.size_push];omega) _).grown g5 (by have:=hbr.size;simp only[World.alloc,Array.size_push];omega) (fun j hj=>by simp[Value.ownBlock,Act.eval] at hj);clear g5 f5 o5 r0 r1 r2 r3 r4;go_wp2_with fail
   go_roundw
   case rel=>exact⟨.inr ⟨rfl,OU⟩,hb5⟩
   case measure=>simp[intOf]
  ·obtain⟨y0,y1,y2⟩:=HX.out wo hbr;obtain⟨Av,cv,rfl⟩:=ho.form;obtain⟨w1,hw1⟩:=eX (wo.alloc (.cells #[.slice Av 1 cv,.slice none 0 0] 39))
   have hX1:Whole w1 wo.heap.size #[.slice Av 1 cv,.slice none 0 0] 39:=by rw[←hw1];exact Whole.new _ _ _
   have hb1:Below w.heap.size w w1:=by rw[←hw1];exact hbr.alloc hbr.size _
   have hb1':Below wo.heap.size wo w1:=fI hw1;have HB1:=zh hb1;have HW1:=zh hw1;have HC:=zh (Iu wo.heap.size (.slice Av 1 cv) (.slice none 0 0) [1] [] w1 (hX1.cell 0) (hX1.cell 1) hX1.lt ((ho.below hb1').lower (Nat.zero_le _)) (TR.nil _ _ _ _) (by simp) (by simp));clear hX1 hw1 hb1 hb1' ho;go_wp2_with fail
   go_loopw [33,4] (fun u v4 wr=>u=.int .i64 0∧v4=.slice none 0 0∧wr=wo) (fun _ _ _=>0)
   case atStart=>exact⟨rfl,rfl,rfl⟩
   case round=>
    obtain⟨rfl,rfl,rfl⟩:=hrel;go_wp2_with fail;rw[HW1.out];refine HC.out.mono ?_;rintro e w2 ⟨v2,rfl,o2,hb2⟩;obtain⟨A2,c2,rfl⟩:=o2.form;simp only[List.append_nil] at o2;have hb3:Below w.heap.size w w2:=HB1.out.trans (hb2.mono HB1.out.size);have HB3:=zh hb3;obtain⟨z0,z1,z2⟩:=HX.out w2 hb3;obtain⟨g2,q2,rfl,-,-,-,-⟩:=o2.cells (by decide);have k2:w2.cell? ⟨g2,q2,none⟩=some (.int .i64 1):=o2.cellAt 0 _ (by decide) rfl;have HS:=zh (Rq (some ⟨g2,q2,none⟩) c2 w2);have HI1:=zh (sF Av 1 cv w2 (by omega));have HI2:=zh (sF none 0 0 w2 (by omega));clear HC hb2 hb3 o2 y0 y1 y2 HW1 HB1;go_wp2_with fail;refine HS.out.mono ?_;rintro e w3 ⟨⟨v3,rfl⟩,hw3⟩;rw[hw3];clear hw3;go_wp2_with fail
    go_loopw [51,10] (fun u n wr=>((u=.int .i64 0∧n=.int .i64 0)∨(u=.int .i64 1∧n=.int .i64 1))∧wr=w2) (fun u _ _=>1 - (intOf u).toNat)
    case atStart=>exact⟨.inl ⟨rfl,rfl⟩,rfl⟩
    case round=>
     obtain⟨hu,rfl⟩:=hrel;rcases hu with ⟨rfl,rfl⟩ | ⟨rfl,rfl⟩
     ·go_wp2_with fail
      go_roundw
      case rel=>exact⟨.inr ⟨rfl,rfl⟩,trivial⟩
      case measure=>simp[intOf]
     ·go_wp2_with fail;refine HI1.out.mono ?_;rintro e w4 ⟨rfl,hw4⟩;rw[hw4];clear hw4;go_wp2_with fail;refine HI2.out.mono ?_;rintro e w5 ⟨rfl,fE⟩;rw[fE];clear fE;go_wp2_with fail
      go_ret
      exact⟨rfl,HB3.out⟩
theorem KW (g:Tr.G) (x i:Int):BX g x i x i=true:=by
 unfold BX ou;simp
theorem Ow (base B X base' c:Nat) (A:Option Addr) (b s root x i:Int) (live n:Nat) (g:Tr.G) (av:Int→Tr.Sl) (fr:List Nat) (vs vf:Value) (w:World) (H:KN base B b s root live n g av fr vs vf w) (hX:Whole w X #[.slice A 1 c,.slice none 0 0,.int .i64 1] 52) (hr:TR w base' 86 5 (.slice A 1 c) 1 [.int .i64 1,.int .i64 x,.int .i64 i,.int .i64 x,.int .i64 i]) (hx:gI x) (hi:gI i) (he:oV g x i=0):
  Calls Tryz.prog 14 #[.pointer (some ⟨X,0,none⟩),.pointer (some ⟨B,0,none⟩)] w fun e w'=>e=.returned (.bool true)∧Below w.heap.size w w':=by
 have HP:=zh (rQ B w);have HS:=zh (fun (W:World) (hb:Below w.heap.size w W)=>Rp base B b s root 1 x i x i live n g av fr vs vf W (H.below hb) hx hi hx hi he he (KW g x i));have HN:=zh (fun (W:World) (hb:Below w.heap.size w W)=>FH X base' c A x i W (hX.below hb hX.lt) (hr.below hb));obtain⟨g0,o,rfl,-,-,-,-⟩:=hr.cells (by omega);have HX:=zh (fun (W:World) (hb:Below w.heap.size w W)=>And.intro ((hX.below hb hX.lt).cell 0) (And.intro ((hX.below hb hX.lt).cell 1) ((hX.below hb hX.lt).cell 2)));have HR:=zh (fun (W:World) (hb:Below w.heap.size w W)=>show W.cell? ⟨g0,o,none⟩=some (.int .i64 1)∧W.cell? ⟨g0,o+1,none⟩=some (.int .i64 x)∧W.cell? ⟨g0,o+2,none⟩=some (.int .i64 i)∧W.cell? ⟨g0,o+3,none⟩=some (.int .i64 x)∧W.cell? ⟨g0,o+4,none⟩=some (.int .i64 i) from by
  have h:=hr.below hb
  exact⟨h.cellAt 0 _ (by omega) rfl,h.cellAt 1 _ (by omega) rfl,h.cellAt 2 _ (by omega) rfl,h.cellAt 3 _ (by omega) rfl,h.cellAt 4 _ (by omega) rfl⟩)
 obtain⟨x0,x1,x2⟩:=HX.out w (Below.refl _ _);clear hX hr H he
 go_enter Tryz.func14,Tryz.ntmps14
 go_wp2_with fail;refine HP.out.mono ?_;rintro e w2 ⟨rfl,hw2⟩;rw[hw2];clear hw2;go_wp2_with fail
 go_loopw [16] (fun j wr=>(j=.int .i64 0∨j=.int .i64 1)∧Below w.heap.size w wr) (fun j _=>1 - (intOf j).toNat)
 case atStart=>exact⟨.inl rfl,Below.refl _ _⟩
 case round=>
  obtain⟨wo,hwo⟩:∃ wo:World,wo=wr:=⟨_,rfl⟩
  subst hwo;obtain⟨hj,hbr⟩:=hrel;rcases hj with rfl | rfl
  ·obtain⟨r0,r1,r2,r3,r4⟩:=HR.out wo hbr;obtain⟨w1,hw1⟩:=eX (wo.alloc (.cells #[.int .i64 1,.int .i64 x,.int .i64 i,.int .i64 x,.int .i64 i] 86))
   have hb1:Below w.heap.size w w1:=by rw[←hw1];exact hbr.alloc hbr.size _
   have HB1:=zh hb1;have HW1:=zh hw1;have HSO:=zh (HS.out w1 hb1);clear hb1 hw1;go_wp2_with fail;rw[HW1.out];refine HSO.out.mono ?_;rintro e w3 ⟨rfl,hb3⟩;have Cg:Below w.heap.size w w3:=HB1.out.trans (hb3.mono HB1.out.size);clear hb3 r0 r1 r2 r3 r4;go_wp2_with fail
   go_roundw
   case rel=>exact⟨.inr rfl,Cg⟩
   case measure=>simp[intOf]
  ·obtain⟨y0,y1,y2⟩:=HX.out wo hbr;have Y8:=zh (HN.out wo hbr);have LM:=zh hbr;clear hbr;go_wp2_with fail
   go_loopw [30] (fun u wr=>u=.int .i64 0∧wr=wo) (fun _ _=>0)
   case atStart=>exact⟨rfl,rfl⟩
   case round=>
    obtain⟨rfl,rfl⟩:=hrel;go_wp2_with fail;refine Y8.out.mono ?_;rintro e w3 ⟨rfl,hb3⟩;go_wp2_with fail
    go_ret
    exact⟨rfl,LM.out.trans (hb3.mono LM.out.size)⟩
theorem qd {root x:Int} {q:Tr.GN} (e:Tr.dK xH root lN x=some q):q=lN:=by
 by_cases hx:x=root
 ·subst hx;rw[Tr.bQ] at e;exact (Option.some.inj e).symm
 ·rw[Tr.bZ hx] at e;cases e
theorem IQ {base B:Nat} {root:Int} {vs vf:Value} {w:World} (hm:TV base w B 0 0 vs 1 (Tr.raw (Tr.dK xH root lN) CF) vf [] 1 root) (hS:Sound 0 0 1 (Tr.raw (Tr.dK xH root lN) CF) [] 1) (hw:Tr.WF 0 (Tr.dK xH root lN)):
  KN base B 0 0 root 1 1 (Tr.dK xH root lN) CF [] vs vf w:=
 ⟨hm,hS,hw,fun x q e=>by rw[qd e];exact TR.nil _ _ _ _,fun x q e=>by rw[qd e];decide,fun x q e=>by rw[qd e];decide,fun x q e=>by rw[qd e];decide,fun x q e _=>by rw[qd e],fun x q e=>by rw[qd e];decide⟩
theorem yG (w:World):
  Calls Tryz.prog 4 #[] w fun e w'=>e=.returned (.bool true)∧Below w.heap.size w w':=by
 go_enter Tryz.func4,Tryz.ntmps4
 go_wp2_with fail;refine (Ma 0 0 w).mono ?_;rintro e w1 ⟨B,vs,vf,rfl,hm,hS,hw,hb1⟩;obtain⟨root,hroot⟩:=eX (Ar.hdl 0 0 0)
 have hz:=bH hS (h:=Ar.hdl 0 0 0) (by rw[aK,Tr.bQ];rfl);rw[hroot] at hm hS hw hz;have hL:=IQ hm hS hw;have hpe:oV (Tr.dK xH root lN) root 0=0:=by
  unfold oV;rw[Tr.bQ];rfl
 obtain⟨w2,hw2⟩:=eX (w1.alloc (.cells #[.slice none 0 0,.slice none 0 0,.int .i64 0] 52))
 have hX:Whole w2 w1.heap.size #[.slice none 0 0,.slice none 0 0,.int .i64 0] 52:=by rw[←hw2];exact Whole.new _ _ _
 have hb2:Below w1.heap.size w1 w2:=fI hw2;have dV:Below w.heap.size w w2:=hb1.trans (hb2.mono hb1.size);obtain⟨X,Ry⟩:=eX (w1.heap.size)
 have hfo:=hm.lt;rw[Ry] at hX hfo;have hX0:w.heap.size≤X:=by rw[←Ry];exact hb1.size
 have hL2:=hL.below hb2;have HC:=zh (IL _ B X 0 0 root root 0 1 1 _ _ [] vs vf w2 hL2 hX hz.1 (by constructor<;>omega) hpe);obtain⟨_,_,_,_,_,r5⟩:=hL2.tv.cells;have HW2:=zh hw2;have HB2:=zh dV;have HL2:=zh hL2;have HFO:=zh hfo;have hz1:=hz.1;clear hm hS hw hb1 hb2 hw2 hX hL hL2 hfo hz hroot dV
 go_upto_region 5 with fail
 rw[HW2.out];clear Ry;go_wp2_with fail;refine HC.out.mono ?_;rintro e w3 ⟨A,c,rfl,aW,hr3,ht3⟩;have hL3:KN _ B 0 0 root 1 1 (Tr.dK xH root lN) CF [] vs vf w3:=
  IQ (HL2.out.tv.turns ht3 fun k hk e=>by have:=(HFO.out k hk).2;omega) HL2.out.so HL2.out.wf
 have HB3:=zh (show Below w.heap.size w w3 from HB2.out.trans (ht3.below HB2.out.size (fun k e=>by omega)));have HV:=zh (Ow _ B X w2.heap.size c A 0 0 root root 0 1 1 _ _ [] vs vf w3 hL3 aW hr3 hz1 (by constructor<;>omega) hpe);clear HC aW hr3 ht3 hL3 HL2 HFO r5 HB2 HW2 hpe;go_wp2_with fail;refine HV.out.mono ?_;rintro e w4 ⟨rfl,hb4⟩;have hb:=HB3.out.trans (hb4.mono HB3.out.size);go_wp2_with fail
 go_ret
 exact⟨rfl,hb⟩
end
end Go.Proofs.YtmhjlifmcadefaaGreatDoor
