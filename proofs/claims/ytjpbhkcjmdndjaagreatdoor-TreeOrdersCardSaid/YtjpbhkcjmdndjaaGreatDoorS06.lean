/- Part of a proof about trees. -/
import Derived.BigQuiet
import Derived.Deep.RegionHeld3
import Derived.Test.YtjpbhkcjmdndjaaGreatDoorGNDoa
import Derived.Test.YtjpbhkcjmdndjaaGreatDoorGNRcq
set_option linter.unusedVariables false
set_option linter.unusedSimpArgs false
set_option linter.unusedSectionVars false
set_option maxHeartbeats 8000000
set_option maxRecDepth 100000
namespace Go.Proofs.YtjpbhkcjmdndjaaGreatDoor
section
open Go.RowKit
variable [mY]
theorem pR {g:Tr.G} {h:Int} {n:Tr.GN} (e:g h=some n) {U1 U2:Tr.GN→Tr.GN} (hu:U1 n=U2 n):Tr.cO g h U1=Tr.cO g h U2:=by
 funext x;unfold Tr.cO;by_cases hx:x=h
 ·rw[if_pos hx,if_pos hx,e];show some _=some _;rw[hu]
 ·rw[if_neg hx,if_neg hx]
theorem Nu (l:List (ByteArray×ByteArray)) (nm:ByteArray):(jY l nm).length≤l.length:=by
 unfold jY
 first | exact List.length_eraseIdx_le _ _ | (split<;>simp<;>omega) | (simp;omega)
theorem bn {w:World} {T B M gh oh ch m ia X:Nat} {hs:List Int} {h:Int} {o:qQ} (H:pF w T B M (.slice (some ⟨gh,oh,none⟩) hs.length ch) hs) (hX:Whole w X #[.int .u8 o.kind,.int .u8 o.a,.int .u8 o.b,.int .u8 o.c,.string o.s,.string o.t,.int .i8 o.n,.int .i8 o.k] 39) (hl:hs.length=m) (hi:hs[ia]?=some h):jr T B M gh oh m ch X ia h o w:=by
 have hlt:=(List.getElem?_eq_some_iff.1 hi).1;rw[←hl];exact⟨H.var.cell 0,H.var.cell 1,H.var.cell 2,H.row.cellAt ia _ (by omega) (dP hi),hX.cell 4,hX.cell 5,hX.cell 6,hX.cell 7⟩
theorem MV.aU {bM M m:Nat} {w:World} {vs:Value} {f:Nat→RS} {k:Nat} {cs:Array Value} {t:TypeId} (hM:MV bM w M vs m f) (hX:Whole w k cs t) (h1:t≠55) (h2:52≠t) (h3:3≠t) (h4:74≠t):¬ aC M vs m f k:=by
 rintro (rfl | hx | ⟨i,hi,hx | hx⟩)
 ·exact hX.unlike hM.var h1 rfl
 ·exact bA hM.row hX h2 hx
 ·exact (hM.ar i hi).unlike hX h4 hx
 ·exact (hM.kr i hi).unlike hX h3 hx
theorem Ih (base bM T B M:Nat) (b s:Int) (vs vf aQ vh:Value) (n live m:Nat) (fr:List Nat) (av:Int→Tr.Sl) (f:Nat→RS) (hs:List Int) (g:Tr.G) (K:Nat) (o:qQ) (w:World) (H:TW w base bM T B M b s vs vf aQ vh n live m fr av f hs g K) (ho:pQ o) (hkd:o.kind.tmod 10=6) (hm:m≤300) (hK:K≤60) (hT:Lit w):
  uF base bM T B M b s K o w:=by
 unfold uF;obtain⟨ia,hia,aI⟩:=aR ho.a.1 H.m0;obtain⟨ib,hib,iY⟩:=aR ho.b.1 H.m0;obtain⟨ic,hic,qz⟩:=aR (m:=m+1) ho.c.1 (by omega);rw[Int.natCast_add] at hic;have hlen:=H.len;have hm0:=H.m0;obtain⟨w1,gh,oh,ch,rfl,mz,Ik,Il,Io,hw1,eP,HB1,H1,qp,jL,HLEN,qy,sU,t0,t1,t2,x0,x1,x2,x3,x4,x5,x6,x7,Ip,Iq,Ir,Iu,Iw,Iy,Iz,IB⟩:=iH H ho hT;have yP:=zh (fun (W:World) (hb:Below w.heap.size w W)=>H.mv.below hb);have eT:=zh (fun (W:World) (hb:Below w.heap.size w W) (j:Nat) (hj:j<m)=>bX bM M m aQ f j W (H.mv.below hb) hj (by omega));clear H ho hT
 go_enter Tryz.func7,Tryz.ntmps7
 go_wp2_with fail;(try rw[hw1]);try go_wp2_with fail
 go_quiet (fail)
 obtain⟨V,hV⟩:=eX (w1.drewN nq)
 have eH:Below w1.heap.size w1 V:=IV hV;have cZ:=zh (HB1.out.trans (eH.mono HB1.out.size));have dw:=zh (eP.out.below eH eP.out.lt);have HV:=zh (H1.out.below eH);have uG:=zh (jL.out.below eH);obtain⟨t0',t1',t2'⟩:=sU.out V cZ.out;have z0:V.cell? ⟨w.heap.size,0,none⟩=some (.int .u8 o.kind):=dw.out.cell 0;have z4:V.cell? ⟨w.heap.size,4,none⟩=some (.string o.s):=dw.out.cell 4;have z5:V.cell? ⟨w.heap.size,5,none⟩=some (.string o.t):=dw.out.cell 5;have z6:V.cell? ⟨w.heap.size,6,none⟩=some (.int .i8 o.n):=dw.out.cell 6;have z7:V.cell? ⟨w.heap.size,7,none⟩=some (.int .i8 o.k):=dw.out.cell 7;clear t0 t1 t2 x0 x1 x2 x3 x4 x5 x6 x7 eH;(try rw[hV]);go_wp2_with fail;refine (eT.out V cZ.out ia aI).mono ?_;rintro e w2 ⟨rfl,hw2⟩;rw[hw2];clear eT hw2;go_wp2_with fail;obtain⟨h,hh⟩:=eX (hof hs (ia:Int))
 obtain⟨V2,hV2⟩:=eX (V.drew)
 have bK:Below V.heap.size V V2:=mW hV2;have rM:=zh (cZ.out.trans (bK.mono cZ.out.size));have HW2:=zh (HV.out.below bK);have gM:=zh (dw.out.below bK dw.out.lt);have HL2:=zh (uG.out.below bK);have iU:=zh (show jr T B M gh oh m ch w.heap.size ia h o V2 from bn HW2.out.tw gM.out HLEN.out (by rw[←hh];exact HV.out.bI aI));have Kr:(0:Int)≤(ia:Int):=by omega
 have Kt:(ia:Int)<(m:Int):=by omega
 have QA:=zh HW2.out.kinds;cases hg:(f ia).gone with
 | true=>
  obtain⟨e1,e2⟩:=HW2.out.kL aI hg;have Um:fH g h=6:=by unfold fH;rw[←hh,e1,e2]
  have HC:=zh (zl base B b s (hof hs 0) h live n g av fr vs vf o.s V2 HW2.out.tv HW2.out.so (by rw[←hh];exact HW2.out.i64 aI) QA.out (by rw[Um];decide));rw[Um] at HC;clear e1 e2 Um;refine wp_region_noPanic ?_;refine wp_region_held_drew (S:=jr T B M gh oh m ch w.heap.size ia h o) (by kernel_rfl) ?_ (fun ah=>?_)
  ·exact (by rw[hV2];exact iU.out)
  rw[hV2] at ah ⊢;refine bE [0,1,2,3,4,5,6,7,8,9,10,11,12] ?_;iterate 13 (refine eY ?_;try simp only[pS])
  refine bF ?_;refine bO 13 fun K hK=>?_;go_simp;refine HC.out.mono ?_;rintro e w3 ⟨rfl,hb3⟩;have gJ:=zh (HW2.out.below hb3).up;have fu:=zh (gM.out.below hb3 gM.out.lt);have jh:=zh (show jr T B M gh oh m ch w.heap.size ia h o w3 from bn gJ.out.tw fu.out HLEN.out (by rw[←hh];exact HV.out.bI aI));clear hb3;refine hK.out _ _ (jh.out) fun ah=>?_;clear hK K;(try simp only[pS]);refine bE [14,15,16,17,18] ?_;iterate 5 (refine eY ?_;try simp only[pS])
  refine bF ?_;refine gQ ?_;go_wp2_with fail;go_ret2;exact⟨_,[],_,_,_,_,_,_,_,_,_,_,_,_,rfl,gJ.out⟩
 | false=>
  have eg:g h=some (Tr.fC (hof hs) (lH (f ia))):=by rw[←hh];exact HW2.out.dJ aI hg
  have IX:kM h:=by rw[←hh];exact HW2.out.i64 aI
  by_cases hk2:(f ia).kind=2
  ·have EG:=zh eg;have ES:=zh hk2;have hal:=(HW2.out.bd ia aI).1;clear hk2 eg;by_cases hat:pG (f ia).at' o.s<(f ia).at'.length
   ·have HAT:=zh hat;clear hat;have HC:=zh (EY base B b s (hof hs 0) h live n g av fr vs vf _ o.s V2 HW2.out.tv HW2.out.so HW2.out.at' QA.out EG.out ES.out (by show (f ia).at'.length≤1000;omega) HAT.out);rw[pR EG.out (U2:=fun n=>{ n with attrs:=jY (f ia).at' o.s }) rfl] at HC;refine wp_region_noPanic ?_;refine wp_region_held_drew (S:=jr T B M gh oh m ch w.heap.size ia h o) (by kernel_rfl) ?_ (fun ah=>?_)
    ·exact (by rw[hV2];exact iU.out)
    rw[hV2] at ah ⊢;refine bE [0,1,2,3,4,5,6,7,8,9,10,11,12] ?_;iterate 13 (refine eY ?_;try simp only[pS])
    refine bF ?_;refine bO 13 fun K hK=>?_;go_simp;refine HC.out.mono ?_;rintro e w3 ⟨v3,Xr,rfl,hr3,hv3,hs3,pK,fK⟩;obtain⟨a1,a2,-,-,-⟩:=HW2.out.after fK;have fu:=zh (gM.out.turns fK.1 (HW2.out.tv.aU gM.out (by decide) (by decide) (by decide)));have jh:=zh (show jr T B M gh oh m ch w.heap.size ia h o w3 from bn a1 fu.out HLEN.out (by rw[←hh];exact HV.out.bI aI));have HT3:=zh (And.intro a1 a2);have uo:=zh (And.intro hv3 (And.intro hs3 (And.intro pK fK)));have HR3:=zh hr3;obtain⟨A3,c3,rfl⟩:=aF (aG hr3);clear a1 a2 hv3 hs3 pK fK hr3;refine hK.out _ _ (jh.out) fun ah=>?_;clear hK K;(try simp only[pS]);refine bE [14,15,16,17,18] ?_;iterate 5 (refine eY ?_;try simp only[pS])
    refine bF ?_;refine gQ ?_;go_wp2_with fail;obtain⟨V3,kT⟩:=eX (w3.drew)
    have bP:Below w3.heap.size w3 V3:=mW kT;have gT:=zh (fu.out.below bP fu.out.lt);have KE:=zh (HT3.out.2.below bP);have Dz:=zh (HT3.out.1.below bP);have Cg:=zh (show bH V2.heap.size V3 _ _ from bW (S:=fun _=>False) HR3.out (.of_below bP) (fun _ _=>id));have HV5:=zh (And.intro (uo.out.1.below bP) (And.intro uo.out.2.1 (And.intro (uo.out.2.2.1.below bP) (uo.out.2.2.2.trans (.of_below bP)))));have oq:=zh (show jr T B M gh oh m ch w.heap.size ia h o V3 from bn Dz.out gT.out HLEN.out (by rw[←hh];exact HV.out.bI aI));have HR:=zh (Ic bM M m aQ f ia o.s V3 KE.out aI (by omega) ES.out (by omega) HAT.out);refine wp_region_noPanic ?_;refine wp_region_held_drew (S:=jr T B M gh oh m ch w.heap.size ia h o) (by kernel_rfl) ?_ (fun ah=>?_)
    ·exact (by rw[kT];exact oq.out)
    rw[kT] at ah ⊢;refine bE [0,1,2,3,4,5,6] ?_;iterate 7 (refine eY ?_;try simp only[pS])
    refine bF ?_;refine bO 7 fun K hK=>?_;go_simp;refine HR.out.mono ?_;rintro e w4 ⟨v4,NG,rfl,hr4,mJ,dK⟩;have gJ:=zh (HW2.out.put (iR:=Tr.eZ av h Xr) (u:=fun n=>{ n with a:=NG,at':=jY (f ia).at' o.s }) (U:=fun n=>{ n with attrs:=jY (f ia).at' o.s }) aI hg (fun _=>⟨rfl,rfl⟩) (fun _=>rfl) (fun _=>⟨rfl,rfl⟩) (fun _=>rfl) (by rw[hh];exact HV5.out.1) (by rw[hh];exact HV5.out.2.1) (by rw[hh];exact HV5.out.2.2.1) HV5.out.2.2.2 mJ dK (by have h1:=HW2.out.bd ia aI;have h2:=Nu (f ia).at' o.s;exact⟨by show (jY (f ia).at' o.s).length≤_;omega,by show (f ia).data.size≤_;omega,h1.2.2⟩) ((HW2.out.ok.2 ia aI).drop o.s NG));have uH:=zh (gT.out.turns dK.1 (KE.out.aU gT.out (by decide) (by decide) (by decide) (by decide)));have Fw:=zh (show jr T B M gh oh m ch w.heap.size ia h o w4 from bn gJ.out.tw uH.out HLEN.out (by rw[←hh];exact HV.out.bI aI));have hrc:[fV ia o.s (lJ (f ia).at' o.s) true].map (rO (hof hs))=[jK h o.s (lJ (f ia).at' o.s) true]:=by rw[←hh];simp[rO,fV,jK,mK]
    have oN:=zh (dF T B M V2.heap.size V3.heap.size _ _ v4 hs [fV ia o.s (lJ (f ia).at' o.s) true] w4 gJ.out.tw (by rw[hrc];exact bW Cg.out dK.1 (fun k hk hm=>by have h1:=(Cg.out.lt k hk).1;have h2:=(HW2.out.mv.lt k hm).2;omega)) hr4 (by simp));obtain⟨A4,c4,rfl⟩:=aF (aG hr4);clear hr4 mJ dK hrc;refine hK.out _ _ (Fw.out) fun ah=>?_;clear hK K;(try simp only[pS]);refine bE [8,9,10,11,12] ?_;iterate 5 (refine eY ?_;try simp only[pS])
    refine bF ?_;refine gQ ?_;go_wp2_with fail;refine oN.out.mono ?_;rintro e w5 ⟨rfl,hb5⟩;have bf:=zh (gJ.out.below hb5);clear hb5;go_wp2_with fail;go_ret2;exact⟨_,[],_,_,_,_,_,_,_,_,_,_,_,_,rfl,bf.out⟩
   ·have HAT:=zh hat;clear hat;have HC:=zh (EX base B b s (hof hs 0) h live n g av fr vs vf _ o.s V2 HW2.out.tv HW2.out.so HW2.out.at' QA.out EG.out ES.out (by show (f ia).at'.length≤1000;omega) HAT.out);refine wp_region_noPanic ?_;refine wp_region_held_drew (S:=jr T B M gh oh m ch w.heap.size ia h o) (by kernel_rfl) ?_ (fun ah=>?_)
    ·exact (by rw[hV2];exact iU.out)
    rw[hV2] at ah ⊢;refine bE [0,1,2,3,4,5,6,7,8,9,10,11,12] ?_;iterate 13 (refine eY ?_;try simp only[pS])
    refine bF ?_;refine bO 13 fun K hK=>?_;go_simp;refine HC.out.mono ?_;rintro e w3 ⟨rfl,hb3⟩;have gJ:=zh (HW2.out.below hb3).up;have fu:=zh (gM.out.below hb3 gM.out.lt);have jh:=zh (show jr T B M gh oh m ch w.heap.size ia h o w3 from bn gJ.out.tw fu.out HLEN.out (by rw[←hh];exact HV.out.bI aI));clear hb3;refine hK.out _ _ (jh.out) fun ah=>?_;clear hK K;(try simp only[pS]);refine bE [14,15,16,17,18] ?_;iterate 5 (refine eY ?_;try simp only[pS])
    refine bF ?_;refine gQ ?_;go_wp2_with fail;obtain⟨V3,kT⟩:=eX (w3.drew)
    have bP:Below w3.heap.size w3 V3:=mW kT;have kK:=zh (gJ.out.below bP);have gT:=zh (fu.out.below bP fu.out.lt);have oq:=zh (show jr T B M gh oh m ch w.heap.size ia h o V3 from bn kK.out.tw gT.out HLEN.out (by rw[←hh];exact HV.out.bI aI));have HR:=zh (Ib bM M m aQ f ia o.s V3 kK.out.mv aI (by omega) ES.out (by omega) HAT.out);have oN:=zh (dF T B M 0 0 _ (.slice none 0 0) (.slice none 0 0) hs [] V3 kK.out.tw (World.ownsRow_nil _ _ _ _) (World.ownsRow_nil _ _ _ _) (by simp));refine wp_region_noPanic ?_;refine wp_region_held_drew (S:=jr T B M gh oh m ch w.heap.size ia h o) (by kernel_rfl) ?_ (fun ah=>?_)
    ·exact (by rw[kT];exact oq.out)
    rw[kT] at ah ⊢;refine bE [0,1,2,3,4,5,6] ?_;iterate 7 (refine eY ?_;try simp only[pS])
    refine bF ?_;refine bO 7 fun K hK=>?_;go_simp;refine HR.out.mono ?_;rintro e w4 ⟨rfl,hw4⟩;rw[hw4];clear hw4;refine hK.out _ _ (oq.out) fun ah=>?_;clear hK K;(try simp only[pS]);refine bE [8,9,10,11,12] ?_;iterate 5 (refine eY ?_;try simp only[pS])
    refine bF ?_;refine gQ ?_;go_wp2_with fail;refine oN.out.mono ?_;rintro e w5 ⟨rfl,hb5⟩;have bf:=zh (kK.out.below hb5);clear hb5;go_wp2_with fail;go_ret2;exact⟨_,[],_,_,_,_,_,_,_,_,_,_,_,_,rfl,bf.out⟩
  ·have I8:fH g h=10:=by unfold fH;rw[eg];exact if_neg hk2
   have HC:=zh (zl base B b s (hof hs 0) h live n g av fr vs vf o.s V2 HW2.out.tv HW2.out.so IX QA.out (by rw[I8];decide));rw[I8] at HC;have ES:=zh hk2;clear eg I8 hk2;refine wp_region_noPanic ?_;refine wp_region_held_drew (S:=jr T B M gh oh m ch w.heap.size ia h o) (by kernel_rfl) ?_ (fun ah=>?_)
   ·exact (by rw[hV2];exact iU.out)
   rw[hV2] at ah ⊢;refine bE [0,1,2,3,4,5,6,7,8,9,10,11,12] ?_;iterate 13 (refine eY ?_;try simp only[pS])
   refine bF ?_;refine bO 13 fun K hK=>?_;go_simp;refine HC.out.mono ?_;rintro e w3 ⟨rfl,hb3⟩;have gJ:=zh (HW2.out.below hb3).up;have fu:=zh (gM.out.below hb3 gM.out.lt);have jh:=zh (show jr T B M gh oh m ch w.heap.size ia h o w3 from bn gJ.out.tw fu.out HLEN.out (by rw[←hh];exact HV.out.bI aI));clear hb3;refine hK.out _ _ (jh.out) fun ah=>?_;clear hK K;(try simp only[pS]);refine bE [14,15,16,17,18] ?_;iterate 5 (refine eY ?_;try simp only[pS])
   refine bF ?_;refine gQ ?_;go_wp2_with fail;obtain⟨V3,kT⟩:=eX (w3.drew)
   have bP:Below w3.heap.size w3 V3:=mW kT;have kK:=zh (gJ.out.below bP);have gT:=zh (fu.out.below bP fu.out.lt);have oq:=zh (show jr T B M gh oh m ch w.heap.size ia h o V3 from bn kK.out.tw gT.out HLEN.out (by rw[←hh];exact HV.out.bI aI));have HR:=zh (Kk bM M m aQ f ia o.s V3 kK.out.mv aI ES.out);have oN:=zh (dF T B M 0 0 _ (.slice none 0 0) (.slice none 0 0) hs [] V3 kK.out.tw (World.ownsRow_nil _ _ _ _) (World.ownsRow_nil _ _ _ _) (by simp));refine wp_region_noPanic ?_;refine wp_region_held_drew (S:=jr T B M gh oh m ch w.heap.size ia h o) (by kernel_rfl) ?_ (fun ah=>?_)
   ·exact (by rw[kT];exact oq.out)
   rw[kT] at ah ⊢;refine bE [0,1,2,3,4,5,6] ?_;iterate 7 (refine eY ?_;try simp only[pS])
   refine bF ?_;refine bO 7 fun K hK=>?_;go_simp;refine HR.out.mono ?_;rintro e w4 ⟨rfl,hw4⟩;rw[hw4];clear hw4;refine hK.out _ _ (oq.out) fun ah=>?_;clear hK K;(try simp only[pS]);refine bE [8,9,10,11,12] ?_;iterate 5 (refine eY ?_;try simp only[pS])
   refine bF ?_;refine gQ ?_;go_wp2_with fail;refine oN.out.mono ?_;rintro e w5 ⟨rfl,hb5⟩;have bf:=zh (kK.out.below hb5);clear hb5;go_wp2_with fail;go_ret2;exact⟨_,[],_,_,_,_,_,_,_,_,_,_,_,_,rfl,bf.out⟩
end
section
open Go.RowKit
variable [mY]
theorem pE {w:World} {T B M gh oh ch m X:Nat} {hs:List Int} {o:qQ} (H:pF w T B M (.slice (some ⟨gh,oh,none⟩) hs.length ch) hs) (hX:Whole w X #[.int .u8 o.kind,.int .u8 o.a,.int .u8 o.b,.int .u8 o.c,.string o.s,.string o.t,.int .i8 o.n,.int .i8 o.k] 39) (hl:hs.length=m):Ia T B M gh oh m ch X o w:=by
 rw[←hl];exact⟨H.var.cell 0,H.var.cell 1,H.var.cell 2,hX.cell 4,hX.cell 5⟩
theorem Ii (W:World) (E:TypeId) (a b c d:ByteArray):TR (W.alloc (.cells #[.string a,.string b,.string c,.string d] E)) 0 E 2 (.slice (some ⟨W.heap.size,0,none⟩) 2 2) 2 (fJ [(a,b),(c,d)]):=
 (TR.jQ (World.ownsRow_lit (base:=W.heap.size) (e:=E) (size:=2) W #[.string a,.string b,.string c,.string d] 2 (Nat.le_refl _) (by unfold maxLen;omega) rfl)).zero
end
section
open Go.RowKit
variable [mY]
theorem Bh (base bM T B M:Nat) (b s:Int) (vs vf aQ vh:Value) (n live m:Nat) (fr:List Nat) (av:Int→Tr.Sl) (f:Nat→RS) (hs:List Int) (g:Tr.G) (K:Nat) (o:qQ) (w:World) (H:TW w base bM T B M b s vs vf aQ vh n live m fr av f hs g K) (ho:pQ o) (kk kd:Int) (hkk:(kk=0∧kd=2)∨(kk=1∧kd=3)∨(kk=2∧kd=4)) (hkd:o.kind.tmod 10=kk) (hn0:¬ 0<o.n) (hm:m≤300) (hK:K≤60) (hT:Lit w):
  uF base bM T B M b s K o w:=by
 unfold uF;rcases hkk with ⟨rfl,SF⟩ | ⟨rfl,SF⟩ | ⟨rfl,SF⟩
 all_goals
  have KT:=zh SF;clear SF;obtain⟨ia,hia,aI⟩:=aR ho.a.1 H.m0;obtain⟨ib,hib,iY⟩:=aR ho.b.1 H.m0;obtain⟨ic,hic,qz⟩:=aR (m:=m+1) ho.c.1 (by omega);rw[Int.natCast_add] at hic;have hlen:=H.len;have hm0:=H.m0;obtain⟨w1,gh,oh,ch,rfl,mz,Ik,Il,Io,hw1,eP,HB1,H1,qp,jL,HLEN,qy,sU,t0,t1,t2,x0,x1,x2,x3,x4,x5,x6,x7,Ip,Iq,Ir,Iu,Iw,Iy,Iz,IB⟩:=iH H ho hT;have yP:=zh (fun (W:World) (hb:Below w.heap.size w W)=>H.mv.below hb);have eT:=zh (fun (W:World) (hb:Below w.heap.size w W) (j:Nat) (hj:j<m)=>bX bM M m aQ f j W (H.mv.below hb) hj (by omega));clear H ho hT
  go_enter Tryz.func7,Tryz.ntmps7
  go_wp2_with fail;(try rw[hw1]);try go_wp2_with fail
  go_quiet (fail)
  obtain⟨V,hV⟩:=eX (w1.drewN nq)
  have eH:Below w1.heap.size w1 V:=IV hV;have cZ:=zh (HB1.out.trans (eH.mono HB1.out.size));have dw:=zh (eP.out.below eH eP.out.lt);have HV:=zh (H1.out.below eH);have uG:=zh (jL.out.below eH);obtain⟨t0',t1',t2'⟩:=sU.out V cZ.out;have z0:V.cell? ⟨w.heap.size,0,none⟩=some (.int .u8 o.kind):=dw.out.cell 0;have z4:V.cell? ⟨w.heap.size,4,none⟩=some (.string o.s):=dw.out.cell 4;have z5:V.cell? ⟨w.heap.size,5,none⟩=some (.string o.t):=dw.out.cell 5;have z6:V.cell? ⟨w.heap.size,6,none⟩=some (.int .i8 o.n):=dw.out.cell 6;have z7:V.cell? ⟨w.heap.size,7,none⟩=some (.int .i8 o.k):=dw.out.cell 7;clear t0 t1 t2 x0 x1 x2 x3 x4 x5 x6 x7 eH;(try rw[hV]);go_wp2_with fail;refine (eT.out V cZ.out ia aI).mono ?_;rintro e w2 ⟨rfl,hw2⟩;rw[hw2];clear eT hw2;have U5:=HV;have Jd:=uG;have HXB:=dw;go_wp2_with fail;obtain⟨V2,hV2⟩:=eX (V.drew)
  have bK:Below V.heap.size V V2:=mW hV2;have HW2:=zh (U5.out.below bK);have gM:=zh (HXB.out.below bK HXB.out.lt);have HL2:=zh (Jd.out.below bK);have iU:=zh (show Ia T B M gh oh m ch w.heap.size o V2 from pE HW2.out.tw gM.out HLEN.out);have OQ:=zh HW2.out.mv;have HC:=zh (Dr (K:=K) HW2.out hm HL2.out kd (by have:=KT.out;omega) o.s o.t qp.out.s qp.out.t [] (by simp) (by intro p hp;cases hp) none 0 (TR.nil _ _ _ _) none 0 (TR.nil _ _ _ _));rw[KT.out] at HC;clear bK;refine wp_region_noPanic ?_;refine wp_region_held_drew (S:=Ia T B M gh oh m ch w.heap.size o) (by kernel_rfl) ?_ (fun ah=>?_)
  ·exact (by rw[hV2];exact iU.out)
  rw[hV2] at ah ⊢;refine bE [0,1,2,3,4,5,6,7,8,9] ?_;iterate 10 (refine eY ?_;try simp only[pS])
  refine bF ?_;refine bO 10 fun K hK=>?_;go_simp;refine HC.out.mono ?_;rintro e w3 ⟨h,E,rfl,hE,ht3,oM,hM⟩;have fu:=zh (gM.out.turns ht3 (HW2.out.tv.aU gM.out (by decide) (by decide) (by decide)));have jh:=zh (show Ia T B M gh oh m ch w.heap.size o w3 from pE oM fu.out HLEN.out);have NU:=zh (OQ.out.turns ht3 (fun x hx hf=>HW2.out.VX x hf hx));have NT:=zh oM;have HM:=zh hM;have HE:=zh hE;clear ht3 oM hM hE HC;refine hK.out _ _ (jh.out) fun ah=>?_;clear hK K;(try simp only[pS]);refine bE [11,12,13,14,15] ?_;iterate 5 (refine eY ?_;try simp only[pS])
  refine bF ?_;refine gQ ?_;obtain⟨V3,kT⟩:=eX (w3.drew)
  have bP:Below w3.heap.size w3 V3:=mW kT;have gT:=zh (fu.out.below bP fu.out.lt);have Dz:=zh (NT.out.below bP);have Qu:=zh (NU.out.below bP);have oq:=zh (show Ia T B M gh oh m ch w.heap.size o V3 from pE Dz.out gT.out HLEN.out);have rE:=zh (HM.out V3 bP);clear bP HM;obtain⟨i0,hi0,hz0,hz1,hz2⟩:=info_parts rZ;rcases HE.out with hE | hE
  ·obtain⟨hE1,hE2⟩:=hE;subst hE1;subst hE2;go_wp2_with fail;refine wp_region_noPanic ?_;refine wp_region_held_drew (S:=Ia T B M gh oh m ch w.heap.size o) (by kernel_rfl) ?_ (fun ah=>?_)
   ·exact (by rw[kT];exact oq.out)
   rw[kT] at ah ⊢;refine bE [0,1,2,3,4,5,6,7,8,9] ?_;iterate 10 (refine eY ?_;try simp only[pS])
   refine bF ?_;refine bO 10 fun K hK=>?_;go_simp;refine rE.out.mono ?_;rintro e w4 ⟨rfl,BX,hcase⟩;rcases hcase with ⟨-,-,h1⟩ | ⟨h1,-⟩
   rotate_left 1
   ·exact absurd h1 (by decide)
   have HF:=zh h1;clear h1;have wQ:=zh (gT.out.turns BX (Qu.out.aU gT.out (by decide) (by decide) (by decide) (by decide)));have Fv:=zh (show Ia T B M gh oh m ch w.heap.size o w4 from pE HF.out.tw wQ.out HLEN.out);clear BX;refine hK.out _ _ (Fv.out) fun ah=>?_;clear hK K;(try simp only[pS]);refine bE [11] ?_
   (refine eY ?_;try simp only[pS])
   refine bF ?_;refine gQ ?_;go_wp2_with fail;go_ret2;exact⟨_,[],_,_,_,_,_,_,_,_,_,_,_,_,rfl,HF.out⟩
  ·obtain⟨hE1,hh0⟩:=hE;subst hE1;have q1:(h == 0)=false:=by simpa using hh0
   have q2:(h != 0)=true:=by simpa using hh0
   go_wp2_with fail;refine wp_region_noPanic ?_;refine wp_region_held_drew (S:=Ia T B M gh oh m ch w.heap.size o) (by kernel_rfl) ?_ (fun ah=>?_)
   ·exact (by rw[kT];exact oq.out)
   rw[kT] at ah ⊢;refine bE [0,1,2,3,4,5,6,7,8,9] ?_;iterate 10 (refine eY ?_;try simp only[pS])
   refine bF ?_;refine bO 10 fun K hK=>?_;go_simp;refine rE.out.mono ?_;rintro e w4 ⟨rfl,BX,hcase⟩;rcases hcase with ⟨h1,-⟩ | ⟨-,-,Kn,hx4⟩
   ·exact absurd h1 (by decide)
   have wQ:=zh (gT.out.turns BX (Qu.out.aU gT.out (by decide) (by decide) (by decide) (by decide)));have Fv:=zh (show Ia T B M gh oh m ch w.heap.size o w4 from pE Kn wQ.out HLEN.out);have IK:=zh Kn;have uH:=zh hx4;clear BX Kn hx4;refine hK.out _ _ (Fv.out) fun ah=>?_;clear hK K;(try simp only[pS]);refine bE [11] ?_
   (refine eY ?_;try simp only[pS])
   refine bF ?_;refine gQ ?_;obtain⟨t0,t1,t2,-⟩:=Fv.out;obtain⟨w5,fT⟩:=eX (w4.alloc (.cells #[.int .i64 h] 3))
   have hb5:Below w4.heap.size w4 w5:=gU fT;have s5:=ji w4 3 (.int .i64 h);rw[fT] at s5;have xq:=(IK.out.below hb5).row;have mH:=zh hb5;have hln:=HLEN.out;rw[hln] at xq;clear hb5
   go_wp2_with (at_builtin;refine dM rfl _ _ 31 rfl 0 3 i0 (.int .i64 0) 1 8 Tryz.underlying31 hi0 hz0 hz1 hz2 rfl (by decide) _ m (ints hs) rfl xq _ 1 (ints [h]) rfl rfl (.inr ⟨_,_,rfl,s5⟩) (gH _) ?c3 ?c4 (Nat.zero_le _) ?_)
   case c3=>unfold maxLen;omega
   case c4=>omega
   intro v6 w6 o6 g6 f6;rw[←iB,←hln] at o6;obtain⟨V5,Qv,Zo,hv6⟩:=pF.pushed IK.out mH.out g6 o6 f6;rw[hln] at o6;obtain⟨A6,c6,rfl⟩:=o6.form;have bf:=zh (uH.out _ _ Qv Zo hv6);have e0:w6.cell? ⟨T,2,none⟩=some (.slice (some ⟨gh,oh,none⟩) hs.length ch):=V5.cell 2;have e1:=V5.free 2;clear g6 o6 f6 V5 Qv Zo hv6 s5 xq hln;go_wp2_with fail;go_ret2;obtain⟨vs',bV,dS,n',aW,fr',iR,f',g',hfin⟩:=bf.out;exact⟨_,[],_,_,_,_,_,_,_,_,_,_,_,_,rfl,hfin⟩
end
section
open Go.RowKit
variable [mY]
theorem Bj (base bM T B M:Nat) (b s:Int) (vs vf aQ vh:Value) (n live m:Nat) (fr:List Nat) (av:Int→Tr.Sl) (f:Nat→RS) (hs:List Int) (g:Tr.G) (K:Nat) (o:qQ) (w:World) (H:TW w base bM T B M b s vs vf aQ vh n live m fr av f hs g K) (ho:pQ o) (kk kd:Int) (hkk:(kk=0∧kd=2)∨(kk=1∧kd=3)∨(kk=2∧kd=4)) (hkd:o.kind.tmod 10=kk) (hn0:0<o.n) (hm:m≤300) (hK:K≤60) (hT:Lit w):
  uF base bM T B M b s K o w:=by
 unfold uF;rcases hkk with ⟨rfl,SF⟩ | ⟨rfl,SF⟩ | ⟨rfl,SF⟩
 all_goals
  have KT:=zh SF;clear SF;obtain⟨ia,hia,aI⟩:=aR ho.a.1 H.m0;obtain⟨ib,hib,iY⟩:=aR ho.b.1 H.m0;obtain⟨ic,hic,qz⟩:=aR (m:=m+1) ho.c.1 (by omega);rw[Int.natCast_add] at hic;have hlen:=H.len;have hm0:=H.m0;obtain⟨w1,gh,oh,ch,rfl,mz,Ik,Il,Io,hw1,eP,HB1,H1,qp,jL,HLEN,qy,sU,t0,t1,t2,x0,x1,x2,x3,x4,x5,x6,x7,Ip,Iq,Ir,Iu,Iw,Iy,Iz,IB⟩:=iH H ho hT;have yP:=zh (fun (W:World) (hb:Below w.heap.size w W)=>H.mv.below hb);have eT:=zh (fun (W:World) (hb:Below w.heap.size w W) (j:Nat) (hj:j<m)=>bX bM M m aQ f j W (H.mv.below hb) hj (by omega));clear H ho hT
  go_enter Tryz.func7,Tryz.ntmps7
  go_wp2_with fail;(try rw[hw1]);try go_wp2_with fail
  go_quiet (fail)
  obtain⟨V,hV⟩:=eX (w1.drewN nq)
  have eH:Below w1.heap.size w1 V:=IV hV;have cZ:=zh (HB1.out.trans (eH.mono HB1.out.size));have dw:=zh (eP.out.below eH eP.out.lt);have HV:=zh (H1.out.below eH);have uG:=zh (jL.out.below eH);obtain⟨t0',t1',t2'⟩:=sU.out V cZ.out;have z0:V.cell? ⟨w.heap.size,0,none⟩=some (.int .u8 o.kind):=dw.out.cell 0;have z4:V.cell? ⟨w.heap.size,4,none⟩=some (.string o.s):=dw.out.cell 4;have z5:V.cell? ⟨w.heap.size,5,none⟩=some (.string o.t):=dw.out.cell 5;have z6:V.cell? ⟨w.heap.size,6,none⟩=some (.int .i8 o.n):=dw.out.cell 6;have z7:V.cell? ⟨w.heap.size,7,none⟩=some (.int .i8 o.k):=dw.out.cell 7;clear t0 t1 t2 x0 x1 x2 x3 x4 x5 x6 x7 eH;(try rw[hV]);go_wp2_with fail;refine (eT.out V cZ.out ia aI).mono ?_;rintro e w2 ⟨rfl,hw2⟩;rw[hw2];clear eT hw2;obtain⟨WA,EW⟩:=eX (V.alloc (.cells #[.string o.t,.string o.s,.string ⟨#[107]⟩,.string o.t] 73))
  have Kv:Below V.heap.size V WA:=gU EW;have HRA:=zh (Ii V 73 o.t o.s ⟨#[107]⟩ o.t);rw[EW] at HRA;obtain⟨WB,hWB⟩:=eX (WA.alloc (.cells #[.string o.t,.string o.s,.string ⟨#[107]⟩,.string o.t] 74))
  have Zp:Below WA.heap.size WA WB:=gU hWB;have HRB:=zh (Ii WA 74 o.t o.s ⟨#[107]⟩ o.t);rw[hWB] at HRB;have Zq:=dw.out.below Kv dw.out.lt;have uI:=Zq.below Zp Zq.lt;have y4:WA.cell? ⟨w.heap.size,4,none⟩=some (.string o.s):=Zq.cell 4;have y5:WA.cell? ⟨w.heap.size,5,none⟩=some (.string o.t):=Zq.cell 5;have U5:=zh ((HV.out.below Kv).below Zp);have Jd:=zh ((uG.out.below Kv).below Zp);have HXB:=zh uI;have abD:=zh (HRA.out.below Zp);clear Kv Zp Zq uI HRA;go_wp2_with fail;(try rw[EW]);(try go_wp2_with fail);(try rw[hWB]);(try go_wp2_with fail);clear EW hWB;obtain⟨V2,hV2⟩:=eX (WB.drew)
  have bK:Below WB.heap.size WB V2:=mW hV2;have HW2:=zh (U5.out.below bK);have gM:=zh (HXB.out.below bK HXB.out.lt);have HL2:=zh (Jd.out.below bK);have iU:=zh (show Ia T B M gh oh m ch w.heap.size o V2 from pE HW2.out.tw gM.out HLEN.out);have OQ:=zh HW2.out.mv;have HC:=zh (Dr (K:=K) HW2.out hm HL2.out kd (by have:=KT.out;omega) o.s o.t qp.out.s qp.out.t [(o.t,o.s),(⟨#[107]⟩,o.t)] (by simp) (by have h1:=qp.out.s;have h2:=qp.out.t;intro p hp;simp only[List.mem_cons,List.not_mem_nil,or_false] at hp;rcases hp with rfl | rfl<;>constructor<;>first | assumption | (show (1:Nat)≤40;decide)) (some ⟨V.heap.size,0,none⟩) 2 (abD.out.below bK) (some ⟨WA.heap.size,0,none⟩) 2 (HRB.out.below bK));rw[KT.out] at HC;clear bK;refine wp_region_noPanic ?_;refine wp_region_held_drew (S:=Ia T B M gh oh m ch w.heap.size o) (by kernel_rfl) ?_ (fun ah=>?_)
  ·exact (by rw[hV2];exact iU.out)
  rw[hV2] at ah ⊢;refine bE [0,1,2,3,4,5,6,7,8,9] ?_;iterate 10 (refine eY ?_;try simp only[pS])
  refine bF ?_;refine bO 10 fun K hK=>?_;go_simp;refine HC.out.mono ?_;rintro e w3 ⟨h,E,rfl,hE,ht3,oM,hM⟩;have fu:=zh (gM.out.turns ht3 (HW2.out.tv.aU gM.out (by decide) (by decide) (by decide)));have jh:=zh (show Ia T B M gh oh m ch w.heap.size o w3 from pE oM fu.out HLEN.out);have NU:=zh (OQ.out.turns ht3 (fun x hx hf=>HW2.out.VX x hf hx));have NT:=zh oM;have HM:=zh hM;have HE:=zh hE;clear ht3 oM hM hE HC;refine hK.out _ _ (jh.out) fun ah=>?_;clear hK K;(try simp only[pS]);refine bE [11,12,13,14,15] ?_;iterate 5 (refine eY ?_;try simp only[pS])
  refine bF ?_;refine gQ ?_;obtain⟨V3,kT⟩:=eX (w3.drew)
  have bP:Below w3.heap.size w3 V3:=mW kT;have gT:=zh (fu.out.below bP fu.out.lt);have Dz:=zh (NT.out.below bP);have Qu:=zh (NU.out.below bP);have oq:=zh (show Ia T B M gh oh m ch w.heap.size o V3 from pE Dz.out gT.out HLEN.out);have rE:=zh (HM.out V3 bP);clear bP HM;obtain⟨i0,hi0,hz0,hz1,hz2⟩:=info_parts rZ;rcases HE.out with hE | hE
  ·obtain⟨hE1,hE2⟩:=hE;subst hE1;subst hE2;go_wp2_with fail;refine wp_region_noPanic ?_;refine wp_region_held_drew (S:=Ia T B M gh oh m ch w.heap.size o) (by kernel_rfl) ?_ (fun ah=>?_)
   ·exact (by rw[kT];exact oq.out)
   rw[kT] at ah ⊢;refine bE [0,1,2,3,4,5,6,7,8,9] ?_;iterate 10 (refine eY ?_;try simp only[pS])
   refine bF ?_;refine bO 10 fun K hK=>?_;go_simp;refine rE.out.mono ?_;rintro e w4 ⟨rfl,BX,hcase⟩;rcases hcase with ⟨-,-,h1⟩ | ⟨h1,-⟩
   rotate_left 1
   ·exact absurd h1 (by decide)
   have HF:=zh h1;clear h1;have wQ:=zh (gT.out.turns BX (Qu.out.aU gT.out (by decide) (by decide) (by decide) (by decide)));have Fv:=zh (show Ia T B M gh oh m ch w.heap.size o w4 from pE HF.out.tw wQ.out HLEN.out);clear BX;refine hK.out _ _ (Fv.out) fun ah=>?_;clear hK K;(try simp only[pS]);refine bE [11] ?_
   (refine eY ?_;try simp only[pS])
   refine bF ?_;refine gQ ?_;go_wp2_with fail;go_ret2;exact⟨_,[],_,_,_,_,_,_,_,_,_,_,_,_,rfl,HF.out⟩
  ·obtain⟨hE1,hh0⟩:=hE;subst hE1;have q1:(h == 0)=false:=by simpa using hh0
   have q2:(h != 0)=true:=by simpa using hh0
   go_wp2_with fail;refine wp_region_noPanic ?_;refine wp_region_held_drew (S:=Ia T B M gh oh m ch w.heap.size o) (by kernel_rfl) ?_ (fun ah=>?_)
   ·exact (by rw[kT];exact oq.out)
   rw[kT] at ah ⊢;refine bE [0,1,2,3,4,5,6,7,8,9] ?_;iterate 10 (refine eY ?_;try simp only[pS])
   refine bF ?_;refine bO 10 fun K hK=>?_;go_simp;refine rE.out.mono ?_;rintro e w4 ⟨rfl,BX,hcase⟩;rcases hcase with ⟨h1,-⟩ | ⟨-,-,Kn,hx4⟩
   ·exact absurd h1 (by decide)
   have wQ:=zh (gT.out.turns BX (Qu.out.aU gT.out (by decide) (by decide) (by decide) (by decide)));have Fv:=zh (show Ia T B M gh oh m ch w.heap.size o w4 from pE Kn wQ.out HLEN.out);have IK:=zh Kn;have uH:=zh hx4;clear BX Kn hx4;refine hK.out _ _ (Fv.out) fun ah=>?_;clear hK K;(try simp only[pS]);refine bE [11] ?_
   (refine eY ?_;try simp only[pS])
   refine bF ?_;refine gQ ?_;obtain⟨t0,t1,t2,-⟩:=Fv.out;obtain⟨w5,fT⟩:=eX (w4.alloc (.cells #[.int .i64 h] 3))
   have hb5:Below w4.heap.size w4 w5:=gU fT;have s5:=ji w4 3 (.int .i64 h);rw[fT] at s5;have xq:=(IK.out.below hb5).row;have mH:=zh hb5;have hln:=HLEN.out;rw[hln] at xq;clear hb5
   go_wp2_with (at_builtin;refine dM rfl _ _ 31 rfl 0 3 i0 (.int .i64 0) 1 8 Tryz.underlying31 hi0 hz0 hz1 hz2 rfl (by decide) _ m (ints hs) rfl xq _ 1 (ints [h]) rfl rfl (.inr ⟨_,_,rfl,s5⟩) (gH _) ?c3 ?c4 (Nat.zero_le _) ?_)
   case c3=>unfold maxLen;omega
   case c4=>omega
   intro v6 w6 o6 g6 f6;rw[←iB,←hln] at o6;obtain⟨V5,Qv,Zo,hv6⟩:=pF.pushed IK.out mH.out g6 o6 f6;rw[hln] at o6;obtain⟨A6,c6,rfl⟩:=o6.form;have bf:=zh (uH.out _ _ Qv Zo hv6);have e0:w6.cell? ⟨T,2,none⟩=some (.slice (some ⟨gh,oh,none⟩) hs.length ch):=V5.cell 2;have e1:=V5.free 2;clear g6 o6 f6 V5 Qv Zo hv6 s5 xq hln;go_wp2_with fail;go_ret2;obtain⟨vs',bV,dS,n',aW,fr',iR,f',g',hfin⟩:=bf.out;exact⟨_,[],_,_,_,_,_,_,_,_,_,_,_,_,rfl,hfin⟩
end
section
open Go.RowKit
variable [mY]
theorem SG (base bM T B M:Nat) (b s:Int) (vs vf aQ vh:Value) (n live m:Nat) (fr:List Nat) (av:Int→Tr.Sl) (f:Nat→RS) (hs:List Int) (g:Tr.G) (K:Nat) (o:qQ) (w:World) (H:TW w base bM T B M b s vs vf aQ vh n live m fr av f hs g K) (ho:pQ o) (hkd:o.kind.tmod 10=9) (hm:m≤300) (hK:K≤60) (hT:Lit w):
  uF base bM T B M b s K o w:=by
 unfold uF;obtain⟨ia,hia,aI⟩:=aR ho.a.1 H.m0;obtain⟨ib,hib,iY⟩:=aR ho.b.1 H.m0;obtain⟨ic,hic,qz⟩:=aR (m:=m+1) ho.c.1 (by omega);rw[Int.natCast_add] at hic;have hlen:=H.len;have hm0:=H.m0;obtain⟨w1,gh,oh,ch,rfl,mz,Ik,Il,Io,hw1,eP,HB1,H1,qp,jL,HLEN,qy,sU,t0,t1,t2,x0,x1,x2,x3,x4,x5,x6,x7,Ip,Iq,Ir,Iu,Iw,Iy,Iz,IB⟩:=iH H ho hT;have yP:=zh (fun (W:World) (hb:Below w.heap.size w W)=>H.mv.below hb);have eT:=zh (fun (W:World) (hb:Below w.heap.size w W) (j:Nat) (hj:j<m)=>bX bM M m aQ f j W (H.mv.below hb) hj (by omega));clear H ho hT
 go_enter Tryz.func7,Tryz.ntmps7
 go_wp2_with fail;(try rw[hw1]);try go_wp2_with fail
 go_quiet (fail)
 obtain⟨V,hV⟩:=eX (w1.drewN nq)
 have eH:Below w1.heap.size w1 V:=IV hV;have cZ:=zh (HB1.out.trans (eH.mono HB1.out.size));have dw:=zh (eP.out.below eH eP.out.lt);have HV:=zh (H1.out.below eH);have uG:=zh (jL.out.below eH);obtain⟨t0',t1',t2'⟩:=sU.out V cZ.out;have z0:V.cell? ⟨w.heap.size,0,none⟩=some (.int .u8 o.kind):=dw.out.cell 0;have z4:V.cell? ⟨w.heap.size,4,none⟩=some (.string o.s):=dw.out.cell 4;have z5:V.cell? ⟨w.heap.size,5,none⟩=some (.string o.t):=dw.out.cell 5;have z6:V.cell? ⟨w.heap.size,6,none⟩=some (.int .i8 o.n):=dw.out.cell 6;have z7:V.cell? ⟨w.heap.size,7,none⟩=some (.int .i8 o.k):=dw.out.cell 7;clear t0 t1 t2 x0 x1 x2 x3 x4 x5 x6 x7 eH;(try rw[hV]);go_wp2_with fail;refine (eT.out V cZ.out ia aI).mono ?_;rintro e w2 ⟨rfl,hw2⟩;rw[hw2];clear eT hw2;go_wp2_with fail;obtain⟨h,hh⟩:=eX (hof hs (ia:Int))
 obtain⟨V2,hV2⟩:=eX (V.drew)
 have bK:Below V.heap.size V V2:=mW hV2;have rM:=zh (cZ.out.trans (bK.mono cZ.out.size));have HW2:=zh (HV.out.below bK);have gM:=zh (dw.out.below bK dw.out.lt);have HL2:=zh (uG.out.below bK);have iU:=zh (show jr T B M gh oh m ch w.heap.size ia h o V2 from bn HW2.out.tw gM.out HLEN.out (by rw[←hh];exact HV.out.bI aI));have Kr:(0:Int)≤(ia:Int):=by omega
 have Kt:(ia:Int)<(m:Int):=by omega
 have SH:=zh (show ∀ k,aC M aQ m f k→¬ ((.slice (some ⟨gh,oh,none⟩) m ch):Value).ownBlock=some k from fun k hk hv=>(HW2.out.yV k (by rw[HLEN.out];exact hv)).2 hk);cases hg:(f ia).gone with
 | true=>
  obtain⟨e1,e2⟩:=HW2.out.kL aI hg;have HC:=zh (Kh base B b s (hof hs 0) h live n (Tr.raw g av) fr vs vf V2 HW2.out.tv HW2.out.so (by rw[←hh];exact HW2.out.i64 aI) (by rw[←hh,e1];exact Tr.bG e2));clear e1 e2;refine wp_region_noPanic ?_;refine wp_region_held_drew (S:=jr T B M gh oh m ch w.heap.size ia h o) (by kernel_rfl) ?_ (fun ah=>?_)
  ·exact (by rw[hV2];exact iU.out)
  rw[hV2] at ah ⊢;refine bE [0,1,2,3,4,5,6,7,8,9,10] ?_;iterate 11 (refine eY ?_;try simp only[pS])
  refine bF ?_;refine bO 11 fun K hK=>?_;go_simp;refine HC.out.mono ?_;rintro e w3 ⟨rfl,hb3⟩;have gJ:=zh (HW2.out.below hb3).up;have jh:=zh (show jr T B M gh oh m ch w.heap.size ia h o w3 from bn gJ.out.tw (gM.out.below hb3 gM.out.lt) HLEN.out (by rw[←hh];exact HV.out.bI aI));clear hb3;refine hK.out _ _ (jh.out) fun ah=>?_;clear hK K;(try simp only[pS]);refine bE [12] ?_
  (refine eY ?_;try simp only[pS])
  refine bF ?_;refine gQ ?_;have Uy:=zh (show pF w3 T B M (.slice (some ⟨gh,oh,none⟩) m ch) hs by have:=gJ.out.tw;rw[HLEN.out] at this;exact this);have Zr:=zh (show ∀ k,aC M aQ m f k→¬ ((.slice (some ⟨gh,oh,none⟩) m ch):Value).ownBlock=some k from SH.out);go_wp2_with fail
  go_loopw [40] (fun u wr=>∃ j:Nat,u=.int .i64 (j:Int)∧j≤m∧Hid (HJ w3 T B M (.slice (some ⟨gh,oh,none⟩) m ch) m f hs j wr)) (fun u _=>m - (intOf u).toNat)
  case atStart=>exact⟨0,rfl,Nat.zero_le _,zh (HJ.start Uy.out HLEN.out)⟩
  case round=>
   obtain⟨j,rfl,hj,rA⟩:=hrel;by_cases hjm:j<m
   ·have y0:(0:Int)≤(j:Int):=by omega
    have y1:(j:Int)<(m:Int):=by omega
    have t1w:wr.cell? ⟨T,1,none⟩=some (.pointer (some ⟨M,0,none⟩)):=rA.out.var.cell 1;have t2w:wr.cell? ⟨T,2,none⟩=some (.slice (some ⟨gh,oh,none⟩) m ch):=rA.out.var.cell 2;have Ue:=zh (bX bM M m aQ f j wr ((gJ.out.mv).turns rA.out.turns Zr.out) hjm (by omega));obtain⟨xj,hxj⟩:∃ x,(hsJ f hs j)[j]?=some x:=⟨(hsJ f hs j)[j]'(by rw[qO,HLEN.out];exact hjm),by simp⟩
    have cj:wr.cell? ⟨gh,oh+j,none⟩=some (.int .i64 xj):=rA.out.row.cellAt j _ (by omega) (dP hxj);have fj:=rA.out.row.frozen (oh+j);clear hxj;go_wp2_with fail;refine Ue.out.mono ?_;rintro e w6 ⟨rfl,jM⟩;rw[jM];clear Ue jM;cases hgj:(f j).gone with
    | true=>
     have HN:=zh (rA.out.set hjm hgj);clear hgj;go_wp2_with fail
     go_roundw
     case rel=>exact⟨j+1,by go_num,by omega,HN⟩
     case measure=>simp[intOf];omega
    | false=>
     have HN:=zh (rA.out.keep hgj);clear hgj;go_wp2_with fail
     go_roundw
     case rel=>exact⟨j+1,by go_num,by omega,HN⟩
     case measure=>simp[intOf];omega
   ·have y1:¬ (j:Int)<(m:Int):=by omega
    have Ij:j=m:=by omega
    have Uf:=zh (show HJ w3 T B M (.slice (some ⟨gh,oh,none⟩) m ch) m f hs m wr by have:=rA.out;rw[Ij] at this;exact this);clear Ij;have bf:=zh (gJ.out.handles (by rw[HLEN.out];have:=Uf.out.done HLEN.out;rw[Bf m (fun i hi hg=>gJ.out.gn i hi hg)] at this;exact this) (by rw[HLEN.out];exact Uf.out.turns));go_wp2_with fail;go_ret2
    first | exact⟨_,[],_,_,_,_,_,_,_,_,_,_,_,_,rfl,bf.out⟩ | exact⟨⟨_,rfl⟩,_,_,_,_,_,_,_,_,_,_,_,_,bf.out⟩ | exact⟨⟨_,rfl⟩,[],_,_,_,_,_,_,_,_,_,_,_,_,bf.out⟩ | exact⟨[],_,_,_,_,_,_,_,_,_,_,_,_,bf.out⟩ | exact⟨[],_,_,_,_,_,_,_,_,_,_,_,_,rfl,bf.out⟩ | exact⟨rfl,_,[],_,_,_,_,_,_,_,_,_,_,_,_,bf.out⟩
 | false=>
  have eg:g h=some (Tr.fC (hof hs) (lH (f ia))):=by rw[←hh];exact HW2.out.dJ aI hg
  have hkk:(f ia).kind≠0:=HW2.out.kinds h _ eg;by_cases hst:ia=0∨∃ p:Nat,(f ia).pa=(p:Int)
  ·have HC:=zh (H9 base B b s (hof hs 0) h live n g av fr vs vf _ V2 HW2.out.tv HW2.out.so eg hkk (by
    rcases hst with e | ⟨p,e⟩
    ·refine .inl ?_;show (f ia).kind=1;rw[e];exact HW2.out.km.1
    ·refine .inr ?_;show hof hs (f ia).pa≠0;rcases HW2.out.im.pa _ _ (aP aI hg) with e1 | e1
     ·exact absurd (show (f ia).pa = -1 from e1) (by omega)
     ·exact HW2.out.im.nz _ e1))
   have HST:=zh hst;clear eg hkk hst;refine wp_region_noPanic ?_;refine wp_region_held_drew (S:=jr T B M gh oh m ch w.heap.size ia h o) (by kernel_rfl) ?_ (fun ah=>?_)
   ·exact (by rw[hV2];exact iU.out)
   rw[hV2] at ah ⊢;refine bE [0,1,2,3,4,5,6,7,8,9,10] ?_;iterate 11 (refine eY ?_;try simp only[pS])
   refine bF ?_;refine bO 11 fun K hK=>?_;go_simp;refine HC.out.mono ?_;rintro e w3 ⟨rfl,hb3⟩;have gJ:=zh (HW2.out.below hb3).up;have jh:=zh (show jr T B M gh oh m ch w.heap.size ia h o w3 from bn gJ.out.tw (gM.out.below hb3 gM.out.lt) HLEN.out (by rw[←hh];exact HV.out.bI aI));clear hb3;refine hK.out _ _ (jh.out) fun ah=>?_;clear hK K;(try simp only[pS]);refine bE [12] ?_
   (refine eY ?_;try simp only[pS])
   refine bF ?_;refine gQ ?_;have HR:=zh (H8 bM M m aQ f ia w3 gJ.out.mv aI HST.out);obtain⟨-,t13,-⟩:=jh.out;go_wp2_with fail;refine HR.out.mono ?_;rintro e w4 ⟨rfl,hw4⟩;rw[hw4];clear hw4;have Uy:=zh (show pF w3 T B M (.slice (some ⟨gh,oh,none⟩) m ch) hs by have:=gJ.out.tw;rw[HLEN.out] at this;exact this);have Zr:=zh (show ∀ k,aC M aQ m f k→¬ ((.slice (some ⟨gh,oh,none⟩) m ch):Value).ownBlock=some k from SH.out);go_wp2_with fail
   go_loopw [40] (fun u wr=>∃ j:Nat,u=.int .i64 (j:Int)∧j≤m∧Hid (HJ w3 T B M (.slice (some ⟨gh,oh,none⟩) m ch) m f hs j wr)) (fun u _=>m - (intOf u).toNat)
   case atStart=>exact⟨0,rfl,Nat.zero_le _,zh (HJ.start Uy.out HLEN.out)⟩
   case round=>
    obtain⟨j,rfl,hj,rA⟩:=hrel;by_cases hjm:j<m
    ·have y0:(0:Int)≤(j:Int):=by omega
     have y1:(j:Int)<(m:Int):=by omega
     have t1w:wr.cell? ⟨T,1,none⟩=some (.pointer (some ⟨M,0,none⟩)):=rA.out.var.cell 1;have t2w:wr.cell? ⟨T,2,none⟩=some (.slice (some ⟨gh,oh,none⟩) m ch):=rA.out.var.cell 2;have Ue:=zh (bX bM M m aQ f j wr ((gJ.out.mv).turns rA.out.turns Zr.out) hjm (by omega));obtain⟨xj,hxj⟩:∃ x,(hsJ f hs j)[j]?=some x:=⟨(hsJ f hs j)[j]'(by rw[qO,HLEN.out];exact hjm),by simp⟩
     have cj:wr.cell? ⟨gh,oh+j,none⟩=some (.int .i64 xj):=rA.out.row.cellAt j _ (by omega) (dP hxj);have fj:=rA.out.row.frozen (oh+j);clear hxj;go_wp2_with fail;refine Ue.out.mono ?_;rintro e w6 ⟨rfl,jM⟩;rw[jM];clear Ue jM;cases hgj:(f j).gone with
     | true=>
      have HN:=zh (rA.out.set hjm hgj);clear hgj;go_wp2_with fail
      go_roundw
      case rel=>exact⟨j+1,by go_num,by omega,HN⟩
      case measure=>simp[intOf];omega
     | false=>
      have HN:=zh (rA.out.keep hgj);clear hgj;go_wp2_with fail
      go_roundw
      case rel=>exact⟨j+1,by go_num,by omega,HN⟩
      case measure=>simp[intOf];omega
    ·have y1:¬ (j:Int)<(m:Int):=by omega
     have Ij:j=m:=by omega
     have Uf:=zh (show HJ w3 T B M (.slice (some ⟨gh,oh,none⟩) m ch) m f hs m wr by have:=rA.out;rw[Ij] at this;exact this);clear Ij;have bf:=zh (gJ.out.handles (by rw[HLEN.out];have:=Uf.out.done HLEN.out;rw[Bf m (fun i hi hg=>gJ.out.gn i hi hg)] at this;exact this) (by rw[HLEN.out];exact Uf.out.turns));have oN:=zh (dF T B M 0 0 _ (.slice none 0 0) (.slice none 0 0) _ [] wr bf.out.tw (World.ownsRow_nil _ _ _ _) (World.ownsRow_nil _ _ _ _) (by simp));go_wp2_with fail;refine oN.out.mono ?_;rintro e w7 ⟨rfl,nL⟩;have HF2:=zh (bf.out.below nL);clear nL;go_wp2_with fail;go_ret2;exact⟨_,[],_,_,_,_,_,_,_,_,_,_,_,_,rfl,HF2.out⟩
  ·have h0:ia≠0:=fun e=>hst (.inl e);have hpa:(f ia).pa = -1:=by
    rcases HW2.out.im.pa _ _ (aP aI hg) with e1 | e1
    ·exact e1
    ·obtain⟨p,e2,_⟩:=jq e1;exact absurd (.inr ⟨p,e2⟩) hst
   have hk1:(f ia).kind≠1:=by rcases HW2.out.km.2 ia aI h0 with e | e | e<;>omega
   have HC:=zh (Qm base B b s (hof hs 0) h live n g av fr vs vf _ V2 HW2.out.tv HW2.out.so HW2.out.wf (by have:=HW2.out.tv.low;have:=HW2.out.tv.var.lt;omega) eg hkk hk1 (by show hof hs (f ia).pa=0;rw[hpa];exact HW2.out.im.zero) (by have:=HW2.out.im.Gq HW2.out.wf aI hg;rw[hh] at this;omega));have H0:=zh (And.intro h0 hpa);clear eg hkk hst h0 hpa hk1;refine wp_region_noPanic ?_;refine wp_region_held_drew (S:=jr T B M gh oh m ch w.heap.size ia h o) (by kernel_rfl) ?_ (fun ah=>?_)
   ·exact (by rw[hV2];exact iU.out)
   rw[hV2] at ah ⊢;refine bE [0,1,2,3,4,5,6,7,8,9,10] ?_;iterate 11 (refine eY ?_;try simp only[pS])
   refine bF ?_;refine bO 11 fun K hK=>?_;go_simp;refine HC.out.mono ?_;rintro e w3 ⟨vs3,vf3,fr3,L3,rfl,hv3,hs3,fK⟩;obtain⟨a1,a2,-,-,-⟩:=HW2.out.after fK;have fu:=zh (gM.out.turns fK.1 (HW2.out.tv.aU gM.out (by decide) (by decide) (by decide)));have jh:=zh (show jr T B M gh oh m ch w.heap.size ia h o w3 from bn a1 fu.out HLEN.out (by rw[←hh];exact HV.out.bI aI));have HT3:=zh (And.intro a1 a2);have uo:=zh (And.intro hv3 (And.intro hs3 fK));clear a1 a2 hv3 hs3 fK;refine hK.out _ _ (jh.out) fun ah=>?_;clear hK K;(try simp only[pS]);refine bE [12] ?_
   (refine eY ?_;try simp only[pS])
   refine bF ?_;refine gQ ?_;have HR:=zh (Qk bM M m aQ f ia w3 HT3.out.2 (HW2.out.im.pull HW2.out.wf) aI hg (by omega) H0.out.1 H0.out.2);obtain⟨-,t13,-⟩:=jh.out;go_wp2_with fail;refine HR.out.mono ?_;rintro e w4 ⟨rfl,mJ,dK⟩;have RQ:=zh mJ;have abE:=zh dK;obtain⟨f',hf'⟩:∃ f',iX f (Tr.ak (mg m f) (ia:Int))=f':=⟨_,rfl⟩
   have HF':=zh hf';rw[hf'] at RQ;have SH:=zh (show ∀ k,aC M aQ m f' k→¬ ((.slice (some ⟨gh,oh,none⟩) m ch):Value).ownBlock=some k from fun k hk hv=>(HW2.out.yV k (by rw[HLEN.out];exact hv)).2 (by rw[←hf',om] at hk;exact hk));have FH:=zh (show pF w4 T B M (.slice (some ⟨gh,oh,none⟩) hs.length ch) hs from⟨HT3.out.1.var.turns dK.1 HW2.out.Ku.2,HT3.out.1.row.turns dK.1 fun k hk=>(HW2.out.yV k hk).2⟩);clear mJ dK hf' ;have Uy:=zh (show pF w4 T B M (.slice (some ⟨gh,oh,none⟩) m ch) hs by have:=FH.out;rw[HLEN.out] at this;exact this);have Zr:=zh (show ∀ k,aC M aQ m f' k→¬ ((.slice (some ⟨gh,oh,none⟩) m ch):Value).ownBlock=some k from SH.out);go_wp2_with fail
   go_loopw [40] (fun u wr=>∃ j:Nat,u=.int .i64 (j:Int)∧j≤m∧Hid (HJ w4 T B M (.slice (some ⟨gh,oh,none⟩) m ch) m f' hs j wr)) (fun u _=>m - (intOf u).toNat)
   case atStart=>exact⟨0,rfl,Nat.zero_le _,zh (HJ.start Uy.out HLEN.out)⟩
   case round=>
    obtain⟨j,rfl,hj,rA⟩:=hrel;by_cases hjm:j<m
    ·have y0:(0:Int)≤(j:Int):=by omega
     have y1:(j:Int)<(m:Int):=by omega
     have t1w:wr.cell? ⟨T,1,none⟩=some (.pointer (some ⟨M,0,none⟩)):=rA.out.var.cell 1;have t2w:wr.cell? ⟨T,2,none⟩=some (.slice (some ⟨gh,oh,none⟩) m ch):=rA.out.var.cell 2;have Ue:=zh (bX bM M m aQ f' j wr ((RQ.out).turns rA.out.turns Zr.out) hjm (by omega));obtain⟨xj,hxj⟩:∃ x,(hsJ f' hs j)[j]?=some x:=⟨(hsJ f' hs j)[j]'(by rw[qO,HLEN.out];exact hjm),by simp⟩
     have cj:wr.cell? ⟨gh,oh+j,none⟩=some (.int .i64 xj):=rA.out.row.cellAt j _ (by omega) (dP hxj);have fj:=rA.out.row.frozen (oh+j);clear hxj;go_wp2_with fail;refine Ue.out.mono ?_;rintro e w6 ⟨rfl,jM⟩;rw[jM];clear Ue jM;cases hgj:(f' j).gone with
     | true=>
      have HN:=zh (rA.out.set hjm hgj);clear hgj;go_wp2_with fail
      go_roundw
      case rel=>exact⟨j+1,by go_num,by omega,HN⟩
      case measure=>simp[intOf];omega
     | false=>
      have HN:=zh (rA.out.keep hgj);clear hgj;go_wp2_with fail
      go_roundw
      case rel=>exact⟨j+1,by go_num,by omega,HN⟩
      case measure=>simp[intOf];omega
    ·have y1:¬ (j:Int)<(m:Int):=by omega
     have Ij:j=m:=by omega
     have Uf:=zh (show HJ w4 T B M (.slice (some ⟨gh,oh,none⟩) m ch) m f' hs m wr by have:=rA.out;rw[Ij] at this;exact this);clear Ij;have bf:=zh (HW2.out.dropped (w5:=wr) aI hg H0.out.1 H0.out.2 (by rw[hh];exact uo.out.1) (by rw[hh];exact uo.out.2.1) uo.out.2.2 (by rw[HF'.out];exact RQ.out) abE.out (by rw[HF'.out,HLEN.out];exact Uf.out.done HLEN.out) (by rw[HLEN.out];exact Uf.out.turns));have oN:=zh (dF T B M 0 0 _ (.slice none 0 0) (.slice none 0 0) _ [] wr bf.out.tw (World.ownsRow_nil _ _ _ _) (World.ownsRow_nil _ _ _ _) (by simp));go_wp2_with fail;refine oN.out.mono ?_;rintro e w7 ⟨rfl,nL⟩;have HF2:=zh (bf.out.below nL);clear nL;go_wp2_with fail;go_ret2;exact⟨_,[],_,_,_,_,_,_,_,_,_,_,_,_,rfl,HF2.out⟩
end
section
open Go.RowKit
variable [mY]
theorem iV {w:World} {T B M gh oh ch m ia ib X:Nat} {hs:List Int} {h p:Int} {o:qQ} (H:pF w T B M (.slice (some ⟨gh,oh,none⟩) hs.length ch) hs) (hX:Whole w X #[.int .u8 o.kind,.int .u8 o.a,.int .u8 o.b,.int .u8 o.c,.string o.s,.string o.t,.int .i8 o.n,.int .i8 o.k] 39) (hl:hs.length=m) (hi:hs[ia]?=some h) (hp:hs[ib]?=some p):Bo T B M gh oh m ch X ia h o ib p w:=by
 have hlt:=(List.getElem?_eq_some_iff.1 hi).1;have hlt2:=(List.getElem?_eq_some_iff.1 hp).1;rw[←hl];exact⟨H.var.cell 0,H.var.cell 1,H.var.cell 2,H.row.cellAt ia _ (by omega) (dP hi),hX.cell 4,hX.cell 5,hX.cell 6,hX.cell 7,H.row.cellAt ib _ (by omega) (dP hp)⟩
theorem Nv (base bM T B M:Nat) (b s:Int) (vs vf aQ vh:Value) (n live m:Nat) (fr:List Nat) (av:Int→Tr.Sl) (f:Nat→RS) (hs:List Int) (g:Tr.G) (K:Nat) (o:qQ) (w:World) (H:TW w base bM T B M b s vs vf aQ vh n live m fr av f hs g K) (ho:pQ o) (hkd:o.kind.tmod 10=3) (hcz:o.c.tmod ((m:Int)+1)=0) (hga:∀ i:Nat,o.a.tmod (m:Int)=(i:Int)→(f i).gone=true) (hm:m≤300) (hK:K≤60) (hT:Lit w):
  uF base bM T B M b s K o w:=by
 unfold uF;obtain⟨ia,hia,aI⟩:=aR ho.a.1 H.m0;obtain⟨ib,hib,iY⟩:=aR ho.b.1 H.m0;have hic:o.c.tmod ((m:Int)+1)=0:=hcz;have DK:=zh (hga ia hia);clear hga;have HG:=DK;have hlen:=H.len;have hm0:=H.m0;obtain⟨w1,gh,oh,ch,rfl,mz,Ik,Il,Io,hw1,eP,HB1,H1,qp,jL,HLEN,qy,sU,t0,t1,t2,x0,x1,x2,x3,x4,x5,x6,x7,Ip,Iq,Ir,Iu,Iw,Iy,Iz,IB⟩:=iH H ho hT;have yP:=zh (fun (W:World) (hb:Below w.heap.size w W)=>H.mv.below hb);have eT:=zh (fun (W:World) (hb:Below w.heap.size w W) (j:Nat) (hj:j<m)=>bX bM M m aQ f j W (H.mv.below hb) hj (by omega));clear H ho hT
 go_enter Tryz.func7,Tryz.ntmps7
 go_wp2_with fail;(try rw[hw1]);try go_wp2_with fail
 go_quiet (fail)
 obtain⟨V,hV⟩:=eX (w1.drewN nq)
 have eH:Below w1.heap.size w1 V:=IV hV;have cZ:=zh (HB1.out.trans (eH.mono HB1.out.size));have dw:=zh (eP.out.below eH eP.out.lt);have HV:=zh (H1.out.below eH);have uG:=zh (jL.out.below eH);obtain⟨t0',t1',t2'⟩:=sU.out V cZ.out;have z0:V.cell? ⟨w.heap.size,0,none⟩=some (.int .u8 o.kind):=dw.out.cell 0;have z4:V.cell? ⟨w.heap.size,4,none⟩=some (.string o.s):=dw.out.cell 4;have z5:V.cell? ⟨w.heap.size,5,none⟩=some (.string o.t):=dw.out.cell 5;have z6:V.cell? ⟨w.heap.size,6,none⟩=some (.int .i8 o.n):=dw.out.cell 6;have z7:V.cell? ⟨w.heap.size,7,none⟩=some (.int .i8 o.k):=dw.out.cell 7;clear t0 t1 t2 x0 x1 x2 x3 x4 x5 x6 x7 eH;(try rw[hV]);go_wp2_with fail;refine (eT.out V cZ.out ia aI).mono ?_;rintro e w2 ⟨rfl,hw2⟩;rw[hw2];clear hw2;rw[DK.out];go_wp2_with fail;obtain⟨h,hh⟩:=eX (hof hs (ia:Int))
 obtain⟨p,hp⟩:=eX (hof hs (ib:Int))
 obtain⟨V2,hV2⟩:=eX (V.drew)
 have bK:Below V.heap.size V V2:=mW hV2;have rM:=zh (cZ.out.trans (bK.mono cZ.out.size));have HW2:=zh (HV.out.below bK);have gM:=zh (dw.out.below bK dw.out.lt);have HL2:=zh (uG.out.below bK);have HG2:=zh (And.intro (HV.out.bI aI) (HV.out.bI iY));rw[hh,hp] at HG2;have iU:=zh (show Bo T B M gh oh m ch w.heap.size ia h o ib p V2 from iV HW2.out.tw gM.out HLEN.out HG2.out.1 HG2.out.2);have Kr:(0:Int)≤(ia:Int):=by omega
 have Kt:(ia:Int)<(m:Int):=by omega
 have Wh:(0:Int)≤(ib:Int):=by omega
 have Wi:(ib:Int)<(m:Int):=by omega
 have HC:=zh (l8 base B b s (hof hs 0) p h (hof hs (-1:Int)) live n (Tr.raw g av) fr vs vf V2 HW2.out.tv HW2.out.so (by rw[←hp];exact HW2.out.i64 iY) (by rw[←hh];exact HW2.out.i64 aI) (by rw[HW2.out.im.zero];constructor<;>omega) (.inr (.inl (by obtain⟨e1,e2⟩:=HW2.out.kL aI HG.out;rw[←hh,e1];exact Tr.bG e2))));go_wp2_with fail;refine wp_region_noPanic ?_;refine wp_region_held_drew (S:=Bo T B M gh oh m ch w.heap.size ia h o ib p) (by kernel_rfl) ?_ (fun ah=>?_)
 ·exact (by rw[hV2];exact iU.out)
 rw[hV2] at ah ⊢;refine bE [0,1,2,3,4,5,6,7,8,9,10,11,12,13,14,15,16,17,18,19] ?_;iterate 20 (refine eY ?_;try simp only[pS])
 refine bF ?_;refine bO 20 fun K hK=>?_;go_simp;refine (fZ T B M _ hs (-1:Int) V2 HW2.out.tw).mono ?_;rintro e w2 ⟨rfl,hw2⟩;rw[hw2];clear hw2;refine hK.out _ _ (iU.out) fun ah=>?_;clear hK K;(try simp only[pS]);refine bO 21 fun K hK=>?_;go_simp;refine HC.out.mono ?_;rintro e w3 ⟨rfl,hb3⟩;have gJ:=zh (HW2.out.below hb3).up;have fu:=zh (gM.out.below hb3 gM.out.lt);have jh:=zh (show Bo T B M gh oh m ch w.heap.size ia h o ib p w3 from iV gJ.out.tw fu.out HLEN.out HG2.out.1 HG2.out.2);clear hb3;refine hK.out _ _ (jh.out) fun ah=>?_;clear hK K;(try simp only[pS]);refine bE [22,23,24,25,26] ?_;iterate 5 (refine eY ?_;try simp only[pS])
 refine bF ?_;refine gQ ?_;go_wp2_with fail;go_ret2;exact⟨_,[],_,_,_,_,_,_,_,_,_,_,_,_,rfl,gJ.out⟩
theorem Nw (base bM T B M:Nat) (b s:Int) (vs vf aQ vh:Value) (n live m:Nat) (fr:List Nat) (av:Int→Tr.Sl) (f:Nat→RS) (hs:List Int) (g:Tr.G) (K:Nat) (o:qQ) (w:World) (H:TW w base bM T B M b s vs vf aQ vh n live m fr av f hs g K) (ho:pQ o) (hkd:o.kind.tmod 10=3) (hcz:o.c.tmod ((m:Int)+1)=0) (hga:∀ i:Nat,o.a.tmod (m:Int)=(i:Int)→(f i).gone=false) (hgb:∀ i:Nat,o.b.tmod (m:Int)=(i:Int)→(f i).gone=true) (hm:m≤300) (hK:K≤60) (hT:Lit w):
  uF base bM T B M b s K o w:=by
 unfold uF;obtain⟨ia,hia,aI⟩:=aR ho.a.1 H.m0;obtain⟨ib,hib,iY⟩:=aR ho.b.1 H.m0;have hic:o.c.tmod ((m:Int)+1)=0:=hcz;have DK:=zh (hga ia hia);clear hga;have LQ:=zh (hgb ib hib);clear hgb;have HG:=LQ;have hlen:=H.len;have hm0:=H.m0;obtain⟨w1,gh,oh,ch,rfl,mz,Ik,Il,Io,hw1,eP,HB1,H1,qp,jL,HLEN,qy,sU,t0,t1,t2,x0,x1,x2,x3,x4,x5,x6,x7,Ip,Iq,Ir,Iu,Iw,Iy,Iz,IB⟩:=iH H ho hT;have yP:=zh (fun (W:World) (hb:Below w.heap.size w W)=>H.mv.below hb);have eT:=zh (fun (W:World) (hb:Below w.heap.size w W) (j:Nat) (hj:j<m)=>bX bM M m aQ f j W (H.mv.below hb) hj (by omega));clear H ho hT
 go_enter Tryz.func7,Tryz.ntmps7
 go_wp2_with fail;(try rw[hw1]);try go_wp2_with fail
 go_quiet (fail)
 obtain⟨V,hV⟩:=eX (w1.drewN nq)
 have eH:Below w1.heap.size w1 V:=IV hV;have cZ:=zh (HB1.out.trans (eH.mono HB1.out.size));have dw:=zh (eP.out.below eH eP.out.lt);have HV:=zh (H1.out.below eH);have uG:=zh (jL.out.below eH);obtain⟨t0',t1',t2'⟩:=sU.out V cZ.out;have z0:V.cell? ⟨w.heap.size,0,none⟩=some (.int .u8 o.kind):=dw.out.cell 0;have z4:V.cell? ⟨w.heap.size,4,none⟩=some (.string o.s):=dw.out.cell 4;have z5:V.cell? ⟨w.heap.size,5,none⟩=some (.string o.t):=dw.out.cell 5;have z6:V.cell? ⟨w.heap.size,6,none⟩=some (.int .i8 o.n):=dw.out.cell 6;have z7:V.cell? ⟨w.heap.size,7,none⟩=some (.int .i8 o.k):=dw.out.cell 7;clear t0 t1 t2 x0 x1 x2 x3 x4 x5 x6 x7 eH;(try rw[hV]);go_wp2_with fail;refine (eT.out V cZ.out ia aI).mono ?_;rintro e w2 ⟨rfl,hw2⟩;rw[hw2];clear hw2;rw[DK.out];go_wp2_with fail;refine (eT.out V cZ.out ib iY).mono ?_;rintro e w2 ⟨rfl,hw2⟩;rw[hw2];clear hw2;rw[LQ.out];go_wp2_with fail;obtain⟨h,hh⟩:=eX (hof hs (ia:Int))
 obtain⟨p,hp⟩:=eX (hof hs (ib:Int))
 obtain⟨V2,hV2⟩:=eX (V.drew)
 have bK:Below V.heap.size V V2:=mW hV2;have rM:=zh (cZ.out.trans (bK.mono cZ.out.size));have HW2:=zh (HV.out.below bK);have gM:=zh (dw.out.below bK dw.out.lt);have HL2:=zh (uG.out.below bK);have HG2:=zh (And.intro (HV.out.bI aI) (HV.out.bI iY));rw[hh,hp] at HG2;have iU:=zh (show Bo T B M gh oh m ch w.heap.size ia h o ib p V2 from iV HW2.out.tw gM.out HLEN.out HG2.out.1 HG2.out.2);have Kr:(0:Int)≤(ia:Int):=by omega
 have Kt:(ia:Int)<(m:Int):=by omega
 have Wh:(0:Int)≤(ib:Int):=by omega
 have Wi:(ib:Int)<(m:Int):=by omega
 have HC:=zh (l8 base B b s (hof hs 0) p h (hof hs (-1:Int)) live n (Tr.raw g av) fr vs vf V2 HW2.out.tv HW2.out.so (by rw[←hp];exact HW2.out.i64 iY) (by rw[←hh];exact HW2.out.i64 aI) (by rw[HW2.out.im.zero];constructor<;>omega) (.inl (by obtain⟨e1,e2⟩:=HW2.out.kL iY HG.out;rw[←hp,e1];exact Tr.bG e2)));go_wp2_with fail;refine wp_region_noPanic ?_;refine wp_region_held_drew (S:=Bo T B M gh oh m ch w.heap.size ia h o ib p) (by kernel_rfl) ?_ (fun ah=>?_)
 ·exact (by rw[hV2];exact iU.out)
 rw[hV2] at ah ⊢;refine bE [0,1,2,3,4,5,6,7,8,9,10,11,12,13,14,15,16,17,18,19] ?_;iterate 20 (refine eY ?_;try simp only[pS])
 refine bF ?_;refine bO 20 fun K hK=>?_;go_simp;refine (fZ T B M _ hs (-1:Int) V2 HW2.out.tw).mono ?_;rintro e w2 ⟨rfl,hw2⟩;rw[hw2];clear hw2;refine hK.out _ _ (iU.out) fun ah=>?_;clear hK K;(try simp only[pS]);refine bO 21 fun K hK=>?_;go_simp;refine HC.out.mono ?_;rintro e w3 ⟨rfl,hb3⟩;have gJ:=zh (HW2.out.below hb3).up;have fu:=zh (gM.out.below hb3 gM.out.lt);have jh:=zh (show Bo T B M gh oh m ch w.heap.size ia h o ib p w3 from iV gJ.out.tw fu.out HLEN.out HG2.out.1 HG2.out.2);clear hb3;refine hK.out _ _ (jh.out) fun ah=>?_;clear hK K;(try simp only[pS]);refine bE [22,23,24,25,26] ?_;iterate 5 (refine eY ?_;try simp only[pS])
 refine bF ?_;refine gQ ?_;go_wp2_with fail;go_ret2;exact⟨_,[],_,_,_,_,_,_,_,_,_,_,_,_,rfl,gJ.out⟩
theorem Ny (base bM T B M:Nat) (b s:Int) (vs vf aQ vh:Value) (n live m:Nat) (fr:List Nat) (av:Int→Tr.Sl) (f:Nat→RS) (hs:List Int) (g:Tr.G) (K:Nat) (o:qQ) (w:World) (H:TW w base bM T B M b s vs vf aQ vh n live m fr av f hs g K) (ho:pQ o) (hkd:o.kind.tmod 10=3) (hcz:o.c.tmod ((m:Int)+1)=0) (hga:∀ i:Nat,o.a.tmod (m:Int)=(i:Int)→(f i).gone=false) (hgb:∀ i:Nat,o.b.tmod (m:Int)=(i:Int)→(f i).gone=false) (hm:m≤300) (hK:K≤60) (hT:Lit w):
  uF base bM T B M b s K o w:=by
 unfold uF;obtain⟨ia,hia,aI⟩:=aR ho.a.1 H.m0;obtain⟨ib,hib,iY⟩:=aR ho.b.1 H.m0;have hic:o.c.tmod ((m:Int)+1)=0:=hcz;have DK:=zh (hga ia hia);clear hga;have LQ:=zh (hgb ib hib);clear hgb;have HG:=DK;have hlen:=H.len;have hm0:=H.m0;obtain⟨w1,gh,oh,ch,rfl,mz,Ik,Il,Io,hw1,eP,HB1,H1,qp,jL,HLEN,qy,sU,t0,t1,t2,x0,x1,x2,x3,x4,x5,x6,x7,Ip,Iq,Ir,Iu,Iw,Iy,Iz,IB⟩:=iH H ho hT;have yP:=zh (fun (W:World) (hb:Below w.heap.size w W)=>H.mv.below hb);have eT:=zh (fun (W:World) (hb:Below w.heap.size w W) (j:Nat) (hj:j<m)=>bX bM M m aQ f j W (H.mv.below hb) hj (by omega));clear H ho hT
 go_enter Tryz.func7,Tryz.ntmps7
 go_wp2_with fail;(try rw[hw1]);try go_wp2_with fail
 go_quiet (fail)
 obtain⟨V,hV⟩:=eX (w1.drewN nq)
 have eH:Below w1.heap.size w1 V:=IV hV;have cZ:=zh (HB1.out.trans (eH.mono HB1.out.size));have dw:=zh (eP.out.below eH eP.out.lt);have HV:=zh (H1.out.below eH);have uG:=zh (jL.out.below eH);obtain⟨t0',t1',t2'⟩:=sU.out V cZ.out;have z0:V.cell? ⟨w.heap.size,0,none⟩=some (.int .u8 o.kind):=dw.out.cell 0;have z4:V.cell? ⟨w.heap.size,4,none⟩=some (.string o.s):=dw.out.cell 4;have z5:V.cell? ⟨w.heap.size,5,none⟩=some (.string o.t):=dw.out.cell 5;have z6:V.cell? ⟨w.heap.size,6,none⟩=some (.int .i8 o.n):=dw.out.cell 6;have z7:V.cell? ⟨w.heap.size,7,none⟩=some (.int .i8 o.k):=dw.out.cell 7;clear t0 t1 t2 x0 x1 x2 x3 x4 x5 x6 x7 eH;(try rw[hV]);go_wp2_with fail;refine (eT.out V cZ.out ia aI).mono ?_;rintro e w2 ⟨rfl,hw2⟩;rw[hw2];clear hw2;rw[DK.out];go_wp2_with fail;refine (eT.out V cZ.out ib iY).mono ?_;rintro e w2 ⟨rfl,hw2⟩;rw[hw2];clear hw2;rw[LQ.out];go_wp2_with fail;obtain⟨h,hh⟩:=eX (hof hs (ia:Int))
 obtain⟨p,hp⟩:=eX (hof hs (ib:Int))
 obtain⟨V2,hV2⟩:=eX (V.drew)
 have bK:Below V.heap.size V V2:=mW hV2;have rM:=zh (cZ.out.trans (bK.mono cZ.out.size));have HW2:=zh (HV.out.below bK);have gM:=zh (dw.out.below bK dw.out.lt);have HL2:=zh (uG.out.below bK);have HG2:=zh (And.intro (HV.out.bI aI) (HV.out.bI iY));rw[hh,hp] at HG2;have iU:=zh (show Bo T B M gh oh m ch w.heap.size ia h o ib p V2 from iV HW2.out.tw gM.out HLEN.out HG2.out.1 HG2.out.2);have Kr:(0:Int)≤(ia:Int):=by omega
 have Kt:(ia:Int)<(m:Int):=by omega
 have Wh:(0:Int)≤(ib:Int):=by omega
 have Wi:(ib:Int)<(m:Int):=by omega
 have HC:=zh (xR HW2.out (by omega) aI DK.out iY LQ.out (c:=(-1:Int)) (.inl rfl));rw[hh,hp] at HC;go_wp2_with fail;refine wp_region_noPanic ?_;refine wp_region_held_drew (S:=Bo T B M gh oh m ch w.heap.size ia h o ib p) (by kernel_rfl) ?_ (fun ah=>?_)
 ·exact (by rw[hV2];exact iU.out)
 rw[hV2] at ah ⊢;refine bE [0,1,2,3,4,5,6,7,8,9,10,11,12,13,14,15,16,17,18,19] ?_;iterate 20 (refine eY ?_;try simp only[pS])
 refine bF ?_;refine bO 20 fun K hK=>?_;go_simp;refine (fZ T B M _ hs (-1:Int) V2 HW2.out.tw).mono ?_;rintro e w2 ⟨rfl,hw2⟩;rw[hw2];clear hw2;refine hK.out _ _ (iU.out) fun ah=>?_;clear hK K;(try simp only[pS]);refine bO 21 fun K hK=>?_;go_simp;refine HC.out.mono ?_;rintro e w3 ⟨v,E,lm,rfl,hE,hlm,⟨A3,n3,c3,rfl⟩,oM,Du,fK,hM⟩;have fu:=zh (gM.out.turns fK.1 (HW2.out.tv.aU gM.out (by decide) (by decide) (by decide)));have jh:=zh (show Bo T B M gh oh m ch w.heap.size ia h o ib p w3 from iV oM fu.out HLEN.out HG2.out.1 HG2.out.2);have HM:=zh (hM w3 (Below.refl _ _));have HE:=zh (And.intro hE hlm);have hwE:IntKind.i64.wrap E=E:=by rcases hE with rfl | rfl | rfl<;>decide
 clear oM Du fK hM hE hlm HC;refine hK.out _ _ (jh.out) fun ah=>?_;clear hK K;(try simp only[pS]);refine bE [22,23,24,25,26] ?_;iterate 5 (refine eY ?_;try simp only[pS])
 refine bF ?_;refine gQ ?_;obtain⟨c0,c1,-⟩:=jh.out;go_wp2_with fail;refine HM.out.mono ?_;rintro e w4 ⟨r,f2,g2,rfl,hr4,hrec,dK,hspec,HT⟩;obtain⟨A4,c4,rfl⟩:=aF (aG hr4);have oN:=zh (dF T B M _ _ _ _ _ hs lm w4 HT.tw hrec hr4 (by have:=HE.out.2;omega));have WY:=zh HT;clear hr4 hrec dK HT HM;go_wp2_with fail;refine oN.out.mono ?_;rintro e w5 ⟨rfl,hb5⟩;have bf:=zh (WY.out.below hb5);clear hb5;go_wp2_with fail;go_ret2;exact⟨_,[],_,_,_,_,_,_,_,_,_,_,_,_,rfl,bf.out⟩
end
section
open Go.RowKit
theorem Gn (M:Nat) (deep:Bool) (w:World):
  Calls Tryz.prog 79 #[.pointer (some ⟨M,0,none⟩),.int .i64 0,.bool deep] w fun e w'=>e=.returned (.int .i64 10)∧w'=w:=by
 go_enter Tryz.func79,Tryz.ntmps79
 go_wp2_with fail
 go_ret
 exact⟨rfl,rfl⟩
theorem Gp (base M m:Nat) (vs:Value) (f:Nat→RS) (i:Nat) (w:World) (H:MV base w M vs m f) (hi:i<m) (hg:(f i).gone=false) (hat:(f i).at'.length≤1000) (hcap:m<100000) (h0:i≠0):
  Calls Tryz.prog 79 #[.pointer (some ⟨M,0,none⟩),.int .i64 (i:Int),.bool false] w fun e w'=>e=.returned (.int .i64 0)∧∃ nb,Tv base M m nb vs f i (-1) w w':=by
 have HC:=zh (Jp base M m vs f i (-1) w H hi hg hat hcap (by omega));have q0:((i:Int) == 0)=false:=by simpa using h0
 clear H hi hg hat hcap h0
 go_enter Tryz.func79,Tryz.ntmps79
 go_wp2_with fail;refine HC.out.mono ?_;rintro e w1 ⟨⟨u,rfl⟩,hA⟩;have HA:=zh hA;clear hA;go_wp2_with fail
 go_ret
 exact⟨rfl,_,HA.out⟩
theorem Gs (base M F m:Nat) (vs:Value) (f:Nat→RS) (i:Nat) (w:World) (H:MV base w M vs m f) (hF:Full (mg m f) F (i:Int)) (hcap:m+(Tr.walk (mg m f) F (i:Int)).length≤100000) (hat:∀ j:Nat,(j:Int)∈Tr.walk (mg m f) F (i:Int)→(f j).at'.length≤1000) (h0:i≠0):
  Calls Tryz.prog 79 #[.pointer (some ⟨M,0,none⟩),.int .i64 (i:Int),.bool true] w fun e w'=>e=.returned (.int .i64 0)∧∃ u,ZX base M m vs f (i:Int) (-1) F w (.returned u) w':=by
 have HC:=zh (Js base M F m vs f (i:Int) (-1) w H hF (.inl rfl) (fun hm=>by have:=(Full.all F _ hF _ hm).1;rw[lX (by omega)] at this;cases this) hcap hat);have q0:((i:Int) == 0)=false:=by simpa using h0
 clear H hF hat hcap h0
 go_enter Tryz.func79,Tryz.ntmps79
 go_wp2_with fail;refine HC.out.mono ?_;rintro e w1 ⟨u,vs1,k1,f1,rfl,h1⟩;have HA:=zh h1;clear h1;go_wp2_with fail
 go_ret
 exact⟨rfl,u,u,vs1,k1,f1,rfl,HA.out⟩
end
end Go.Proofs.YtjpbhkcjmdndjaaGreatDoor
