/- Part of a proof about trees. -/
import Derived.BigQuiet
import Derived.Deep.RegionHeld3
import Derived.Test.YtnbaadpgbcklaaaGreatDoorGNDoa
import Derived.Test.YtnbaadpgbcklaaaGreatDoorGNRcq
set_option linter.unusedVariables false
set_option linter.unusedSimpArgs false
set_option linter.unusedSectionVars false
set_option maxHeartbeats 8000000
set_option maxRecDepth 100000
namespace Go.Proofs.YtnbaadpgbcklaaaGreatDoor
section
open Go.RowKit
variable [oQ]
theorem pF {g:Tr.G} {h:Int} {n:Tr.GN} (e:g h=some n) {U1 U2:Tr.GN→Tr.GN} (hu:U1 n=U2 n):Tr.cB g h U1=Tr.cB g h U2:=by
 funext x;unfold Tr.cB;by_cases hx:x=h
 ·rw[if_pos hx,if_pos hx,e];show some _=some _;rw[hu]
 ·rw[if_neg hx,if_neg hx]
theorem M5 (l:List (ByteArray×ByteArray)) (nm:ByteArray):(jT l nm).length≤l.length:=by
 unfold jT
 first | exact List.length_eraseIdx_le _ _ | (split<;>simp<;>omega) | (simp;omega)
theorem bq {w:World} {T B M gh oh ch m ia X:Nat} {hs:List Int} {h:Int} {o:qM} (H:oU w T B M (.slice (some ⟨gh,oh,none⟩) hs.length ch) hs) (hX:Whole w X #[.int .u8 o.kind,.int .u8 o.a,.int .u8 o.b,.int .u8 o.c,.string o.s,.string o.t,.int .i8 o.n,.int .i8 o.k] 39) (hl:hs.length=m) (hi:hs[ia]?=some h):jl T B M gh oh m ch X ia h o w:=by
 have hlt:=(List.getElem?_eq_some_iff.1 hi).1;rw[←hl];exact⟨H.var.cell 0,H.var.cell 1,H.var.cell 2,H.row.cellAt ia _ (by omega) (dX hi),hX.cell 4,hX.cell 5,hX.cell 6,hX.cell 7⟩
theorem MV.aU {bM M m:Nat} {w:World} {vs:Value} {f:Nat→RS} {k:Nat} {cs:Array Value} {t:TypeId} (hM:MV bM w M vs m f) (hX:Whole w k cs t) (h1:t≠70) (h2:67≠t) (h3:3≠t) (h4:96≠t):¬ aC M vs m f k:=by
 rintro (rfl | hx | ⟨i,hi,hx | hx⟩)
 ·exact hX.unlike hM.var h1 rfl
 ·exact bA hM.row hX h2 hx
 ·exact (hM.ar i hi).unlike hX h4 hx
 ·exact (hM.kr i hi).unlike hX h3 hx
theorem GZ (base bM T B M:Nat) (b s:Int) (vs vf aT vh:Value) (n live m:Nat) (fr:List Nat) (av:Int→Tr.Sl) (f:Nat→RS) (hs:List Int) (g:Tr.G) (K:Nat) (o:qM) (w:World) (H:TW w base bM T B M b s vs vf aT vh n live m fr av f hs g K) (ho:pE o) (hkd:o.kind.tmod 10=6) (hm:m≤300) (hK:K≤60) (hT:Lit w):
  uo base bM T B M b s K o w:=by
 unfold uo;obtain⟨ia,hia,aL⟩:=aS ho.a.1 H.m0;obtain⟨ib,hib,iU⟩:=aS ho.b.1 H.m0;obtain⟨ic,hic,ql⟩:=aS (m:=m+1) ho.c.1 (by omega);rw[Int.natCast_add] at hic;have hlen:=H.len;have hm0:=H.m0;obtain⟨w1,gh,oh,ch,rfl,mz,G9,He,Hf,hw1,fu,HB1,H1,p8,jI,HLEN,qX,qh,t0,t1,t2,x0,x1,x2,x3,x4,x5,x6,x7,Hg,Hl,Ho,Hq,Hr,Ht,Hu,Hw⟩:=iB H ho hT;have yF:=zh (fun (W:World) (hb:Below w.heap.size w W)=>H.mv.below hb);have eO:=zh (fun (W:World) (hb:Below w.heap.size w W) (j:Nat) (hj:j<m)=>dF bM M m aT f j W (H.mv.below hb) hj (by omega));clear H ho hT
 go_enter Tryz.func13,Tryz.ntmps13
 go_wp2_with fail;(try rw[hw1]);try go_wp2_with fail
 go_quiet (fail)
 obtain⟨V,hV⟩:=eX (w1.drewN nq)
 have eH:Below w1.heap.size w1 V:=Hy hV;have bW:=zh (HB1.out.trans (eH.mono HB1.out.size));have cZ:=zh (fu.out.below eH fu.out.lt);have HV:=zh (H1.out.below eH);have uq:=zh (jI.out.below eH);obtain⟨t0',t1',t2'⟩:=qh.out V bW.out;have z0:V.cell? ⟨w.heap.size,0,none⟩=some (.int .u8 o.kind):=cZ.out.cell 0;have z4:V.cell? ⟨w.heap.size,4,none⟩=some (.string o.s):=cZ.out.cell 4;have z5:V.cell? ⟨w.heap.size,5,none⟩=some (.string o.t):=cZ.out.cell 5;have z6:V.cell? ⟨w.heap.size,6,none⟩=some (.int .i8 o.n):=cZ.out.cell 6;have z7:V.cell? ⟨w.heap.size,7,none⟩=some (.int .i8 o.k):=cZ.out.cell 7;clear t0 t1 t2 x0 x1 x2 x3 x4 x5 x6 x7 eH;(try rw[hV]);go_wp2_with fail;refine (eO.out V bW.out ia aL).mono ?_;rintro e w2 ⟨rfl,hw2⟩;rw[hw2];clear eO hw2;go_wp2_with fail;obtain⟨h,hh⟩:=eX (hof hs (ia:Int))
 obtain⟨V2,hV2⟩:=eX (V.drew)
 have bK:Below V.heap.size V V2:=qd hV2;have nV:=zh (bW.out.trans (bK.mono bW.out.size));have HW2:=zh (HV.out.below bK);have gH:=zh (cZ.out.below bK cZ.out.lt);have HL2:=zh (uq.out.below bK);have gI:=zh (show jl T B M gh oh m ch w.heap.size ia h o V2 from bq HW2.out.tw gH.out HLEN.out (by rw[←hh];exact HV.out.bH aL));have JR:(0:Int)≤(ia:Int):=by omega
 have JU:(ia:Int)<(m:Int):=by omega
 have P9:=zh HW2.out.kinds;cases hg:(f ia).gone with
 | true=>
  obtain⟨e1,e2⟩:=HW2.out.lC aL hg;have Td:fC g h=6:=by unfold fC;rw[←hh,e1,e2]
  have HC:=zh (yT base B b s (hof hs 0) h live n g av fr vs vf o.s V2 HW2.out.tv HW2.out.so (by rw[←hh];exact HW2.out.i64 aL) P9.out (by rw[Td];decide));rw[Td] at HC;clear e1 e2 Td;refine wp_region_noPanic ?_;refine wp_region_held_drew (S:=jl T B M gh oh m ch w.heap.size ia h o) (by kernel_rfl) ?_ (fun ah=>?_)
  ·exact (by rw[hV2];exact gI.out)
  rw[hV2] at ah ⊢;refine bE [0,1,2,3,4,5,6,7,8,9,10,11,12] ?_;iterate 13 (refine dQ ?_;try simp only[pS])
  refine bF ?_;refine bI 13 fun K hK=>?_;go_simp;refine HC.out.mono ?_;rintro e w3 ⟨rfl,hb3⟩;have gJ:=zh (HW2.out.below hb3).up;have eU:=zh (gH.out.below hb3 gH.out.lt);have jm:=zh (show jl T B M gh oh m ch w.heap.size ia h o w3 from bq gJ.out.tw eU.out HLEN.out (by rw[←hh];exact HV.out.bH aL));clear hb3;refine hK.out _ _ (jm.out) fun ah=>?_;clear hK K;(try simp only[pS]);refine bE [14,15,16,17,18] ?_;iterate 5 (refine dQ ?_;try simp only[pS])
  refine bF ?_;refine gq ?_;go_wp2_with fail;go_ret2;exact⟨_,[],_,_,_,_,_,_,_,_,_,_,_,_,rfl,gJ.out⟩
 | false=>
  have eg:g h=some (Tr.dV (hof hs) (jD (f ia))):=by rw[←hh];exact HW2.out.cK aL hg
  have Ie:lQ h:=by rw[←hh];exact HW2.out.i64 aL
  by_cases hk2:(f ia).kind=2
  ·have EG:=zh eg;have EC:=zh hk2;have hal:=(HW2.out.bd ia aL).1;clear hk2 eg;by_cases hat:oV (f ia).at' o.s<(f ia).at'.length
   ·have HAT:=zh hat;clear hat;have HC:=zh (EL base B b s (hof hs 0) h live n g av fr vs vf _ o.s V2 HW2.out.tv HW2.out.so HW2.out.at' P9.out EG.out EC.out (by show (f ia).at'.length≤1000;omega) HAT.out);rw[pF EG.out (U2:=fun n=>{ n with attrs:=jT (f ia).at' o.s }) rfl] at HC;refine wp_region_noPanic ?_;refine wp_region_held_drew (S:=jl T B M gh oh m ch w.heap.size ia h o) (by kernel_rfl) ?_ (fun ah=>?_)
    ·exact (by rw[hV2];exact gI.out)
    rw[hV2] at ah ⊢;refine bE [0,1,2,3,4,5,6,7,8,9,10,11,12] ?_;iterate 13 (refine dQ ?_;try simp only[pS])
    refine bF ?_;refine bI 13 fun K hK=>?_;go_simp;refine HC.out.mono ?_;rintro e w3 ⟨v3,V6,rfl,hr3,hv3,hs3,pz,fT⟩;obtain⟨a1,a2,-,-,-⟩:=HW2.out.after fT;have eU:=zh (gH.out.turns fT.1 (HW2.out.tv.aU gH.out (by decide) (by decide) (by decide)));have jm:=zh (show jl T B M gh oh m ch w.heap.size ia h o w3 from bq a1 eU.out HLEN.out (by rw[←hh];exact HV.out.bH aL));have HT3:=zh (And.intro a1 a2);have ug:=zh (And.intro hv3 (And.intro hs3 (And.intro pz fT)));have HR3:=zh hr3;obtain⟨A3,c3,rfl⟩:=aG (aH hr3);clear a1 a2 hv3 hs3 pz fT hr3;refine hK.out _ _ (jm.out) fun ah=>?_;clear hK K;(try simp only[pS]);refine bE [14,15,16,17,18] ?_;iterate 5 (refine dQ ?_;try simp only[pS])
    refine bF ?_;refine gq ?_;go_wp2_with fail;obtain⟨V3,jJ⟩:=eX (w3.drew)
    have bN:Below w3.heap.size w3 V3:=qd jJ;have gL:=zh (eU.out.below bN eU.out.lt);have J3:=zh (HT3.out.2.below bN);have Dm:=zh (HT3.out.1.below bN);have BQ:=zh (show bG V2.heap.size V3 _ _ from bX (S:=fun _=>False) HR3.out (.of_below bN) (fun _ _=>id));have HV5:=zh (And.intro (ug.out.1.below bN) (And.intro ug.out.2.1 (And.intro (ug.out.2.2.1.below bN) (ug.out.2.2.2.trans (.of_below bN)))));have nT:=zh (show jl T B M gh oh m ch w.heap.size ia h o V3 from bq Dm.out gL.out HLEN.out (by rw[←hh];exact HV.out.bH aL));have HR:=zh (GV bM M m aT f ia o.s V3 J3.out aL (by omega) EC.out (by omega) HAT.out);refine wp_region_noPanic ?_;refine wp_region_held_drew (S:=jl T B M gh oh m ch w.heap.size ia h o) (by kernel_rfl) ?_ (fun ah=>?_)
    ·exact (by rw[jJ];exact nT.out)
    rw[jJ] at ah ⊢;refine bE [0,1,2,3,4,5,6] ?_;iterate 7 (refine dQ ?_;try simp only[pS])
    refine bF ?_;refine bI 7 fun K hK=>?_;go_simp;refine HR.out.mono ?_;rintro e w4 ⟨v4,Na,rfl,hr4,nA,dO⟩;have gJ:=zh (HW2.out.put (iL:=Tr.eT av h V6) (u:=fun n=>{ n with a:=Na,at':=jT (f ia).at' o.s }) (U:=fun n=>{ n with attrs:=jT (f ia).at' o.s }) aL hg (fun _=>⟨rfl,rfl⟩) (fun _=>rfl) (fun _=>⟨rfl,rfl⟩) (fun _=>rfl) (by rw[hh];exact HV5.out.1) (by rw[hh];exact HV5.out.2.1) (by rw[hh];exact HV5.out.2.2.1) HV5.out.2.2.2 nA dO (by have h1:=HW2.out.bd ia aL;have h2:=M5 (f ia).at' o.s;exact⟨by show (jT (f ia).at' o.s).length≤_;omega,by show (f ia).data.size≤_;omega,h1.2.2⟩) ((HW2.out.ok.2 ia aL).drop o.s Na));have vX:=zh (gL.out.turns dO.1 (J3.out.aU gL.out (by decide) (by decide) (by decide) (by decide)));have vY:=zh (show jl T B M gh oh m ch w.heap.size ia h o w4 from bq gJ.out.tw vX.out HLEN.out (by rw[←hh];exact HV.out.bH aL));have hrc:[fK ia o.s (lD (f ia).at' o.s) true].map (rG (hof hs))=[jH h o.s (lD (f ia).at' o.s) true]:=by rw[←hh];simp[rG,fK,jH,mq]
    have qg:=zh (dD T B M V2.heap.size V3.heap.size _ _ v4 hs [fK ia o.s (lD (f ia).at' o.s) true] w4 gJ.out.tw (by rw[hrc];exact bX BQ.out dO.1 (fun k hk hm=>by have h1:=(BQ.out.lt k hk).1;have h2:=(HW2.out.mv.lt k hm).2;omega)) hr4 (by simp));obtain⟨A4,c4,rfl⟩:=aG (aH hr4);clear hr4 nA dO hrc;refine hK.out _ _ (vY.out) fun ah=>?_;clear hK K;(try simp only[pS]);refine bE [8,9,10,11,12] ?_;iterate 5 (refine dQ ?_;try simp only[pS])
    refine bF ?_;refine gq ?_;go_wp2_with fail;refine qg.out.mono ?_;rintro e w5 ⟨rfl,hb5⟩;have bf:=zh (gJ.out.below hb5);clear hb5;go_wp2_with fail;go_ret2;exact⟨_,[],_,_,_,_,_,_,_,_,_,_,_,_,rfl,bf.out⟩
   ·have HAT:=zh hat;clear hat;have HC:=zh (EK base B b s (hof hs 0) h live n g av fr vs vf _ o.s V2 HW2.out.tv HW2.out.so HW2.out.at' P9.out EG.out EC.out (by show (f ia).at'.length≤1000;omega) HAT.out);refine wp_region_noPanic ?_;refine wp_region_held_drew (S:=jl T B M gh oh m ch w.heap.size ia h o) (by kernel_rfl) ?_ (fun ah=>?_)
    ·exact (by rw[hV2];exact gI.out)
    rw[hV2] at ah ⊢;refine bE [0,1,2,3,4,5,6,7,8,9,10,11,12] ?_;iterate 13 (refine dQ ?_;try simp only[pS])
    refine bF ?_;refine bI 13 fun K hK=>?_;go_simp;refine HC.out.mono ?_;rintro e w3 ⟨rfl,hb3⟩;have gJ:=zh (HW2.out.below hb3).up;have eU:=zh (gH.out.below hb3 gH.out.lt);have jm:=zh (show jl T B M gh oh m ch w.heap.size ia h o w3 from bq gJ.out.tw eU.out HLEN.out (by rw[←hh];exact HV.out.bH aL));clear hb3;refine hK.out _ _ (jm.out) fun ah=>?_;clear hK K;(try simp only[pS]);refine bE [14,15,16,17,18] ?_;iterate 5 (refine dQ ?_;try simp only[pS])
    refine bF ?_;refine gq ?_;go_wp2_with fail;obtain⟨V3,jJ⟩:=eX (w3.drew)
    have bN:Below w3.heap.size w3 V3:=qd jJ;have oH:=zh (gJ.out.below bN);have gL:=zh (eU.out.below bN eU.out.lt);have nT:=zh (show jl T B M gh oh m ch w.heap.size ia h o V3 from bq oH.out.tw gL.out HLEN.out (by rw[←hh];exact HV.out.bH aL));have HR:=zh (GU bM M m aT f ia o.s V3 oH.out.mv aL (by omega) EC.out (by omega) HAT.out);have qg:=zh (dD T B M 0 0 _ (.slice none 0 0) (.slice none 0 0) hs [] V3 oH.out.tw (World.ownsRow_nil _ _ _ _) (World.ownsRow_nil _ _ _ _) (by simp));refine wp_region_noPanic ?_;refine wp_region_held_drew (S:=jl T B M gh oh m ch w.heap.size ia h o) (by kernel_rfl) ?_ (fun ah=>?_)
    ·exact (by rw[jJ];exact nT.out)
    rw[jJ] at ah ⊢;refine bE [0,1,2,3,4,5,6] ?_;iterate 7 (refine dQ ?_;try simp only[pS])
    refine bF ?_;refine bI 7 fun K hK=>?_;go_simp;refine HR.out.mono ?_;rintro e w4 ⟨rfl,hw4⟩;rw[hw4];clear hw4;refine hK.out _ _ (nT.out) fun ah=>?_;clear hK K;(try simp only[pS]);refine bE [8,9,10,11,12] ?_;iterate 5 (refine dQ ?_;try simp only[pS])
    refine bF ?_;refine gq ?_;go_wp2_with fail;refine qg.out.mono ?_;rintro e w5 ⟨rfl,hb5⟩;have bf:=zh (oH.out.below hb5);clear hb5;go_wp2_with fail;go_ret2;exact⟨_,[],_,_,_,_,_,_,_,_,_,_,_,_,rfl,bf.out⟩
  ·have Io:fC g h=10:=by unfold fC;rw[eg];exact if_neg hk2
   have HC:=zh (yT base B b s (hof hs 0) h live n g av fr vs vf o.s V2 HW2.out.tv HW2.out.so Ie P9.out (by rw[Io];decide));rw[Io] at HC;have EC:=zh hk2;clear eg Io hk2;refine wp_region_noPanic ?_;refine wp_region_held_drew (S:=jl T B M gh oh m ch w.heap.size ia h o) (by kernel_rfl) ?_ (fun ah=>?_)
   ·exact (by rw[hV2];exact gI.out)
   rw[hV2] at ah ⊢;refine bE [0,1,2,3,4,5,6,7,8,9,10,11,12] ?_;iterate 13 (refine dQ ?_;try simp only[pS])
   refine bF ?_;refine bI 13 fun K hK=>?_;go_simp;refine HC.out.mono ?_;rintro e w3 ⟨rfl,hb3⟩;have gJ:=zh (HW2.out.below hb3).up;have eU:=zh (gH.out.below hb3 gH.out.lt);have jm:=zh (show jl T B M gh oh m ch w.heap.size ia h o w3 from bq gJ.out.tw eU.out HLEN.out (by rw[←hh];exact HV.out.bH aL));clear hb3;refine hK.out _ _ (jm.out) fun ah=>?_;clear hK K;(try simp only[pS]);refine bE [14,15,16,17,18] ?_;iterate 5 (refine dQ ?_;try simp only[pS])
   refine bF ?_;refine gq ?_;go_wp2_with fail;obtain⟨V3,jJ⟩:=eX (w3.drew)
   have bN:Below w3.heap.size w3 V3:=qd jJ;have oH:=zh (gJ.out.below bN);have gL:=zh (eU.out.below bN eU.out.lt);have nT:=zh (show jl T B M gh oh m ch w.heap.size ia h o V3 from bq oH.out.tw gL.out HLEN.out (by rw[←hh];exact HV.out.bH aL));have HR:=zh (JK bM M m aT f ia o.s V3 oH.out.mv aL EC.out);have qg:=zh (dD T B M 0 0 _ (.slice none 0 0) (.slice none 0 0) hs [] V3 oH.out.tw (World.ownsRow_nil _ _ _ _) (World.ownsRow_nil _ _ _ _) (by simp));refine wp_region_noPanic ?_;refine wp_region_held_drew (S:=jl T B M gh oh m ch w.heap.size ia h o) (by kernel_rfl) ?_ (fun ah=>?_)
   ·exact (by rw[jJ];exact nT.out)
   rw[jJ] at ah ⊢;refine bE [0,1,2,3,4,5,6] ?_;iterate 7 (refine dQ ?_;try simp only[pS])
   refine bF ?_;refine bI 7 fun K hK=>?_;go_simp;refine HR.out.mono ?_;rintro e w4 ⟨rfl,hw4⟩;rw[hw4];clear hw4;refine hK.out _ _ (nT.out) fun ah=>?_;clear hK K;(try simp only[pS]);refine bE [8,9,10,11,12] ?_;iterate 5 (refine dQ ?_;try simp only[pS])
   refine bF ?_;refine gq ?_;go_wp2_with fail;refine qg.out.mono ?_;rintro e w5 ⟨rfl,hb5⟩;have bf:=zh (oH.out.below hb5);clear hb5;go_wp2_with fail;go_ret2;exact⟨_,[],_,_,_,_,_,_,_,_,_,_,_,_,rfl,bf.out⟩
end
section
open Go.RowKit
variable [oQ]
theorem oP {w:World} {T B M gh oh ch m X:Nat} {hs:List Int} {o:qM} (H:oU w T B M (.slice (some ⟨gh,oh,none⟩) hs.length ch) hs) (hX:Whole w X #[.int .u8 o.kind,.int .u8 o.a,.int .u8 o.b,.int .u8 o.c,.string o.s,.string o.t,.int .i8 o.n,.int .i8 o.k] 39) (hl:hs.length=m):GQ T B M gh oh m ch X o w:=by
 rw[←hl];exact⟨H.var.cell 0,H.var.cell 1,H.var.cell 2,hX.cell 4,hX.cell 5⟩
theorem G5 (W:World) (E:TypeId) (a b c d:ByteArray):TR (W.alloc (.cells #[.string a,.string b,.string c,.string d] E)) 0 E 2 (.slice (some ⟨W.heap.size,0,none⟩) 2 2) 2 (fF [(a,b),(c,d)]):=
 (TR.jN (World.ownsRow_lit (base:=W.heap.size) (e:=E) (size:=2) W #[.string a,.string b,.string c,.string d] 2 (Nat.le_refl _) (by unfold maxLen;omega) rfl)).zero
end
section
open Go.RowKit
variable [oQ]
theorem Ay (base bM T B M:Nat) (b s:Int) (vs vf aT vh:Value) (n live m:Nat) (fr:List Nat) (av:Int→Tr.Sl) (f:Nat→RS) (hs:List Int) (g:Tr.G) (K:Nat) (o:qM) (w:World) (H:TW w base bM T B M b s vs vf aT vh n live m fr av f hs g K) (ho:pE o) (kk kd:Int) (hkk:(kk=0∧kd=2)∨(kk=1∧kd=3)∨(kk=2∧kd=4)) (hkd:o.kind.tmod 10=kk) (hn0:¬ 0<o.n) (hm:m≤300) (hK:K≤60) (hT:Lit w):
  uo base bM T B M b s K o w:=by
 unfold uo;rcases hkk with ⟨rfl,RA⟩ | ⟨rfl,RA⟩ | ⟨rfl,RA⟩
 all_goals
  have IW:=zh RA;clear RA;obtain⟨ia,hia,aL⟩:=aS ho.a.1 H.m0;obtain⟨ib,hib,iU⟩:=aS ho.b.1 H.m0;obtain⟨ic,hic,ql⟩:=aS (m:=m+1) ho.c.1 (by omega);rw[Int.natCast_add] at hic;have hlen:=H.len;have hm0:=H.m0;obtain⟨w1,gh,oh,ch,rfl,mz,G9,He,Hf,hw1,fu,HB1,H1,p8,jI,HLEN,qX,qh,t0,t1,t2,x0,x1,x2,x3,x4,x5,x6,x7,Hg,Hl,Ho,Hq,Hr,Ht,Hu,Hw⟩:=iB H ho hT;have yF:=zh (fun (W:World) (hb:Below w.heap.size w W)=>H.mv.below hb);have eO:=zh (fun (W:World) (hb:Below w.heap.size w W) (j:Nat) (hj:j<m)=>dF bM M m aT f j W (H.mv.below hb) hj (by omega));clear H ho hT
  go_enter Tryz.func13,Tryz.ntmps13
  go_wp2_with fail;(try rw[hw1]);try go_wp2_with fail
  go_quiet (fail)
  obtain⟨V,hV⟩:=eX (w1.drewN nq)
  have eH:Below w1.heap.size w1 V:=Hy hV;have bW:=zh (HB1.out.trans (eH.mono HB1.out.size));have cZ:=zh (fu.out.below eH fu.out.lt);have HV:=zh (H1.out.below eH);have uq:=zh (jI.out.below eH);obtain⟨t0',t1',t2'⟩:=qh.out V bW.out;have z0:V.cell? ⟨w.heap.size,0,none⟩=some (.int .u8 o.kind):=cZ.out.cell 0;have z4:V.cell? ⟨w.heap.size,4,none⟩=some (.string o.s):=cZ.out.cell 4;have z5:V.cell? ⟨w.heap.size,5,none⟩=some (.string o.t):=cZ.out.cell 5;have z6:V.cell? ⟨w.heap.size,6,none⟩=some (.int .i8 o.n):=cZ.out.cell 6;have z7:V.cell? ⟨w.heap.size,7,none⟩=some (.int .i8 o.k):=cZ.out.cell 7;clear t0 t1 t2 x0 x1 x2 x3 x4 x5 x6 x7 eH;(try rw[hV]);go_wp2_with fail;refine (eO.out V bW.out ia aL).mono ?_;rintro e w2 ⟨rfl,hw2⟩;rw[hw2];clear eO hw2;have TY:=HV;have Qo:=uq;have HXB:=cZ;go_wp2_with fail;obtain⟨V2,hV2⟩:=eX (V.drew)
  have bK:Below V.heap.size V V2:=qd hV2;have HW2:=zh (TY.out.below bK);have gH:=zh (HXB.out.below bK HXB.out.lt);have HL2:=zh (Qo.out.below bK);have gI:=zh (show GQ T B M gh oh m ch w.heap.size o V2 from oP HW2.out.tw gH.out HLEN.out);have Og:=zh HW2.out.mv;have HC:=zh (Dc (K:=K) HW2.out hm HL2.out kd (by have:=IW.out;omega) o.s o.t p8.out.s p8.out.t [] (by simp) (by intro p hp;cases hp) none 0 (TR.nil _ _ _ _) none 0 (TR.nil _ _ _ _));rw[IW.out] at HC;clear bK;refine wp_region_noPanic ?_;refine wp_region_held_drew (S:=GQ T B M gh oh m ch w.heap.size o) (by kernel_rfl) ?_ (fun ah=>?_)
  ·exact (by rw[hV2];exact gI.out)
  rw[hV2] at ah ⊢;refine bE [0,1,2,3,4,5,6,7,8,9] ?_;iterate 10 (refine dQ ?_;try simp only[pS])
  refine bF ?_;refine bI 10 fun K hK=>?_;go_simp;refine HC.out.mono ?_;rintro e w3 ⟨h,E,rfl,hE,ht3,oD,hM⟩;have eU:=zh (gH.out.turns ht3 (HW2.out.tv.aU gH.out (by decide) (by decide) (by decide)));have jm:=zh (show GQ T B M gh oh m ch w.heap.size o w3 from oP oD eU.out HLEN.out);have Nq:=zh (Og.out.turns ht3 (fun x hx hf=>HW2.out.UY x hf hx));have Np:=zh oD;have HM:=zh hM;have HE:=zh hE;clear ht3 oD hM hE HC;refine hK.out _ _ (jm.out) fun ah=>?_;clear hK K;(try simp only[pS]);refine bE [11,12,13,14,15] ?_;iterate 5 (refine dQ ?_;try simp only[pS])
  refine bF ?_;refine gq ?_;obtain⟨V3,jJ⟩:=eX (w3.drew)
  have bN:Below w3.heap.size w3 V3:=qd jJ;have gL:=zh (eU.out.below bN eU.out.lt);have Dm:=zh (Np.out.below bN);have PY:=zh (Nq.out.below bN);have nT:=zh (show GQ T B M gh oh m ch w.heap.size o V3 from oP Dm.out gL.out HLEN.out);have rC:=zh (HM.out V3 bN);clear bN HM;obtain⟨i0,hi0,hz0,hz1,hz2⟩:=info_parts rU;rcases HE.out with hE | hE
  ·obtain⟨hE1,hE2⟩:=hE;subst hE1;subst hE2;go_wp2_with fail;refine wp_region_noPanic ?_;refine wp_region_held_drew (S:=GQ T B M gh oh m ch w.heap.size o) (by kernel_rfl) ?_ (fun ah=>?_)
   ·exact (by rw[jJ];exact nT.out)
   rw[jJ] at ah ⊢;refine bE [0,1,2,3,4,5,6,7,8,9] ?_;iterate 10 (refine dQ ?_;try simp only[pS])
   refine bF ?_;refine bI 10 fun K hK=>?_;go_simp;refine rC.out.mono ?_;rintro e w4 ⟨rfl,BM,hcase⟩;rcases hcase with ⟨-,-,h1⟩ | ⟨h1,-⟩
   rotate_left 1
   ·exact absurd h1 (by decide)
   have HF:=zh h1;clear h1;have wI:=zh (gL.out.turns BM (PY.out.aU gL.out (by decide) (by decide) (by decide) (by decide)));have ER:=zh (show GQ T B M gh oh m ch w.heap.size o w4 from oP HF.out.tw wI.out HLEN.out);clear BM;refine hK.out _ _ (ER.out) fun ah=>?_;clear hK K;(try simp only[pS]);refine bE [11] ?_
   (refine dQ ?_;try simp only[pS])
   refine bF ?_;refine gq ?_;go_wp2_with fail;go_ret2;exact⟨_,[],_,_,_,_,_,_,_,_,_,_,_,_,rfl,HF.out⟩
  ·obtain⟨hE1,hh0⟩:=hE;subst hE1;have q1:(h == 0)=false:=by simpa using hh0
   have q2:(h != 0)=true:=by simpa using hh0
   go_wp2_with fail;refine wp_region_noPanic ?_;refine wp_region_held_drew (S:=GQ T B M gh oh m ch w.heap.size o) (by kernel_rfl) ?_ (fun ah=>?_)
   ·exact (by rw[jJ];exact nT.out)
   rw[jJ] at ah ⊢;refine bE [0,1,2,3,4,5,6,7,8,9] ?_;iterate 10 (refine dQ ?_;try simp only[pS])
   refine bF ?_;refine bI 10 fun K hK=>?_;go_simp;refine rC.out.mono ?_;rintro e w4 ⟨rfl,BM,hcase⟩;rcases hcase with ⟨h1,-⟩ | ⟨-,-,JN,hx4⟩
   ·exact absurd h1 (by decide)
   have wI:=zh (gL.out.turns BM (PY.out.aU gL.out (by decide) (by decide) (by decide) (by decide)));have ER:=zh (show GQ T B M gh oh m ch w.heap.size o w4 from oP JN wI.out HLEN.out);have H9:=zh JN;have vX:=zh hx4;clear BM JN hx4;refine hK.out _ _ (ER.out) fun ah=>?_;clear hK K;(try simp only[pS]);refine bE [11] ?_
   (refine dQ ?_;try simp only[pS])
   refine bF ?_;refine gq ?_;obtain⟨t0,t1,t2,-⟩:=ER.out;obtain⟨w5,fU⟩:=eX (w4.alloc (.cells #[.int .i64 h] 3))
   have hb5:Below w4.heap.size w4 w5:=gP fU;have s5:=kE w4 3 (.int .i64 h);rw[fU] at s5;have wS:=(H9.out.below hb5).row;have oK:=zh hb5;have hln:=HLEN.out;rw[hln] at wS;clear hb5
   go_wp2_with (at_builtin;refine dK rfl _ _ 31 rfl 0 3 i0 (.int .i64 0) 1 8 Tryz.underlying31 hi0 hz0 hz1 hz2 rfl (by decide) _ m (ints hs) rfl wS _ 1 (ints [h]) rfl rfl (.inr ⟨_,_,rfl,s5⟩) (gB _) ?c3 ?c4 (Nat.zero_le _) ?_)
   case c3=>unfold maxLen;omega
   case c4=>omega
   intro v6 w6 o6 g6 f6;rw[←gY,←hln] at o6;obtain⟨U5,PZ,Ym,hv6⟩:=oU.pushed H9.out oK.out g6 o6 f6;rw[hln] at o6;obtain⟨A6,c6,rfl⟩:=o6.form;have bf:=zh (vX.out _ _ PZ Ym hv6);have e0:w6.cell? ⟨T,2,none⟩=some (.slice (some ⟨gh,oh,none⟩) hs.length ch):=U5.cell 2;have e1:=U5.free 2;clear g6 o6 f6 U5 PZ Ym hv6 s5 wS hln;go_wp2_with fail;go_ret2;obtain⟨vs',bV,dP,n',aW,fr',iL,f',g',hfin⟩:=bf.out;exact⟨_,[],_,_,_,_,_,_,_,_,_,_,_,_,rfl,hfin⟩
end
section
open Go.RowKit
variable [oQ]
theorem AA (base bM T B M:Nat) (b s:Int) (vs vf aT vh:Value) (n live m:Nat) (fr:List Nat) (av:Int→Tr.Sl) (f:Nat→RS) (hs:List Int) (g:Tr.G) (K:Nat) (o:qM) (w:World) (H:TW w base bM T B M b s vs vf aT vh n live m fr av f hs g K) (ho:pE o) (kk kd:Int) (hkk:(kk=0∧kd=2)∨(kk=1∧kd=3)∨(kk=2∧kd=4)) (hkd:o.kind.tmod 10=kk) (hn0:0<o.n) (hm:m≤300) (hK:K≤60) (hT:Lit w):
  uo base bM T B M b s K o w:=by
 unfold uo;rcases hkk with ⟨rfl,RA⟩ | ⟨rfl,RA⟩ | ⟨rfl,RA⟩
 all_goals
  have IW:=zh RA;clear RA;obtain⟨ia,hia,aL⟩:=aS ho.a.1 H.m0;obtain⟨ib,hib,iU⟩:=aS ho.b.1 H.m0;obtain⟨ic,hic,ql⟩:=aS (m:=m+1) ho.c.1 (by omega);rw[Int.natCast_add] at hic;have hlen:=H.len;have hm0:=H.m0;obtain⟨w1,gh,oh,ch,rfl,mz,G9,He,Hf,hw1,fu,HB1,H1,p8,jI,HLEN,qX,qh,t0,t1,t2,x0,x1,x2,x3,x4,x5,x6,x7,Hg,Hl,Ho,Hq,Hr,Ht,Hu,Hw⟩:=iB H ho hT;have yF:=zh (fun (W:World) (hb:Below w.heap.size w W)=>H.mv.below hb);have eO:=zh (fun (W:World) (hb:Below w.heap.size w W) (j:Nat) (hj:j<m)=>dF bM M m aT f j W (H.mv.below hb) hj (by omega));clear H ho hT
  go_enter Tryz.func13,Tryz.ntmps13
  go_wp2_with fail;(try rw[hw1]);try go_wp2_with fail
  go_quiet (fail)
  obtain⟨V,hV⟩:=eX (w1.drewN nq)
  have eH:Below w1.heap.size w1 V:=Hy hV;have bW:=zh (HB1.out.trans (eH.mono HB1.out.size));have cZ:=zh (fu.out.below eH fu.out.lt);have HV:=zh (H1.out.below eH);have uq:=zh (jI.out.below eH);obtain⟨t0',t1',t2'⟩:=qh.out V bW.out;have z0:V.cell? ⟨w.heap.size,0,none⟩=some (.int .u8 o.kind):=cZ.out.cell 0;have z4:V.cell? ⟨w.heap.size,4,none⟩=some (.string o.s):=cZ.out.cell 4;have z5:V.cell? ⟨w.heap.size,5,none⟩=some (.string o.t):=cZ.out.cell 5;have z6:V.cell? ⟨w.heap.size,6,none⟩=some (.int .i8 o.n):=cZ.out.cell 6;have z7:V.cell? ⟨w.heap.size,7,none⟩=some (.int .i8 o.k):=cZ.out.cell 7;clear t0 t1 t2 x0 x1 x2 x3 x4 x5 x6 x7 eH;(try rw[hV]);go_wp2_with fail;refine (eO.out V bW.out ia aL).mono ?_;rintro e w2 ⟨rfl,hw2⟩;rw[hw2];clear eO hw2;obtain⟨WA,EI⟩:=eX (V.alloc (.cells #[.string o.t,.string o.s,.string ⟨#[107]⟩,.string o.t] 95))
  have xk:Below V.heap.size V WA:=gP EI;have HRA:=zh (G5 V 95 o.t o.s ⟨#[107]⟩ o.t);rw[EI] at HRA;obtain⟨WB,Zc⟩:=eX (WA.alloc (.cells #[.string o.t,.string o.s,.string ⟨#[107]⟩,.string o.t] 96))
  have Yn:Below WA.heap.size WA WB:=gP Zc;have HRB:=zh (G5 WA 96 o.t o.s ⟨#[107]⟩ o.t);rw[Zc] at HRB;have Yo:=cZ.out.below xk cZ.out.lt;have yH:=Yo.below Yn Yo.lt;have y4:WA.cell? ⟨w.heap.size,4,none⟩=some (.string o.s):=Yo.cell 4;have y5:WA.cell? ⟨w.heap.size,5,none⟩=some (.string o.t):=Yo.cell 5;have TY:=zh ((HV.out.below xk).below Yn);have Qo:=zh ((uq.out.below xk).below Yn);have HXB:=zh yH;have abk:=zh (HRA.out.below Yn);clear xk Yn Yo yH HRA;go_wp2_with fail;(try rw[EI]);(try go_wp2_with fail);(try rw[Zc]);(try go_wp2_with fail);clear EI Zc;obtain⟨V2,hV2⟩:=eX (WB.drew)
  have bK:Below WB.heap.size WB V2:=qd hV2;have HW2:=zh (TY.out.below bK);have gH:=zh (HXB.out.below bK HXB.out.lt);have HL2:=zh (Qo.out.below bK);have gI:=zh (show GQ T B M gh oh m ch w.heap.size o V2 from oP HW2.out.tw gH.out HLEN.out);have Og:=zh HW2.out.mv;have HC:=zh (Dc (K:=K) HW2.out hm HL2.out kd (by have:=IW.out;omega) o.s o.t p8.out.s p8.out.t [(o.t,o.s),(⟨#[107]⟩,o.t)] (by simp) (by have h1:=p8.out.s;have h2:=p8.out.t;intro p hp;simp only[List.mem_cons,List.not_mem_nil,or_false] at hp;rcases hp with rfl | rfl<;>constructor<;>first | assumption | (show (1:Nat)≤40;decide)) (some ⟨V.heap.size,0,none⟩) 2 (abk.out.below bK) (some ⟨WA.heap.size,0,none⟩) 2 (HRB.out.below bK));rw[IW.out] at HC;clear bK;refine wp_region_noPanic ?_;refine wp_region_held_drew (S:=GQ T B M gh oh m ch w.heap.size o) (by kernel_rfl) ?_ (fun ah=>?_)
  ·exact (by rw[hV2];exact gI.out)
  rw[hV2] at ah ⊢;refine bE [0,1,2,3,4,5,6,7,8,9] ?_;iterate 10 (refine dQ ?_;try simp only[pS])
  refine bF ?_;refine bI 10 fun K hK=>?_;go_simp;refine HC.out.mono ?_;rintro e w3 ⟨h,E,rfl,hE,ht3,oD,hM⟩;have eU:=zh (gH.out.turns ht3 (HW2.out.tv.aU gH.out (by decide) (by decide) (by decide)));have jm:=zh (show GQ T B M gh oh m ch w.heap.size o w3 from oP oD eU.out HLEN.out);have Nq:=zh (Og.out.turns ht3 (fun x hx hf=>HW2.out.UY x hf hx));have Np:=zh oD;have HM:=zh hM;have HE:=zh hE;clear ht3 oD hM hE HC;refine hK.out _ _ (jm.out) fun ah=>?_;clear hK K;(try simp only[pS]);refine bE [11,12,13,14,15] ?_;iterate 5 (refine dQ ?_;try simp only[pS])
  refine bF ?_;refine gq ?_;obtain⟨V3,jJ⟩:=eX (w3.drew)
  have bN:Below w3.heap.size w3 V3:=qd jJ;have gL:=zh (eU.out.below bN eU.out.lt);have Dm:=zh (Np.out.below bN);have PY:=zh (Nq.out.below bN);have nT:=zh (show GQ T B M gh oh m ch w.heap.size o V3 from oP Dm.out gL.out HLEN.out);have rC:=zh (HM.out V3 bN);clear bN HM;obtain⟨i0,hi0,hz0,hz1,hz2⟩:=info_parts rU;rcases HE.out with hE | hE
  ·obtain⟨hE1,hE2⟩:=hE;subst hE1;subst hE2;go_wp2_with fail;refine wp_region_noPanic ?_;refine wp_region_held_drew (S:=GQ T B M gh oh m ch w.heap.size o) (by kernel_rfl) ?_ (fun ah=>?_)
   ·exact (by rw[jJ];exact nT.out)
   rw[jJ] at ah ⊢;refine bE [0,1,2,3,4,5,6,7,8,9] ?_;iterate 10 (refine dQ ?_;try simp only[pS])
   refine bF ?_;refine bI 10 fun K hK=>?_;go_simp;refine rC.out.mono ?_;rintro e w4 ⟨rfl,BM,hcase⟩;rcases hcase with ⟨-,-,h1⟩ | ⟨h1,-⟩
   rotate_left 1
   ·exact absurd h1 (by decide)
   have HF:=zh h1;clear h1;have wI:=zh (gL.out.turns BM (PY.out.aU gL.out (by decide) (by decide) (by decide) (by decide)));have ER:=zh (show GQ T B M gh oh m ch w.heap.size o w4 from oP HF.out.tw wI.out HLEN.out);clear BM;refine hK.out _ _ (ER.out) fun ah=>?_;clear hK K;(try simp only[pS]);refine bE [11] ?_
   (refine dQ ?_;try simp only[pS])
   refine bF ?_;refine gq ?_;go_wp2_with fail;go_ret2;exact⟨_,[],_,_,_,_,_,_,_,_,_,_,_,_,rfl,HF.out⟩
  ·obtain⟨hE1,hh0⟩:=hE;subst hE1;have q1:(h == 0)=false:=by simpa using hh0
   have q2:(h != 0)=true:=by simpa using hh0
   go_wp2_with fail;refine wp_region_noPanic ?_;refine wp_region_held_drew (S:=GQ T B M gh oh m ch w.heap.size o) (by kernel_rfl) ?_ (fun ah=>?_)
   ·exact (by rw[jJ];exact nT.out)
   rw[jJ] at ah ⊢;refine bE [0,1,2,3,4,5,6,7,8,9] ?_;iterate 10 (refine dQ ?_;try simp only[pS])
   refine bF ?_;refine bI 10 fun K hK=>?_;go_simp;refine rC.out.mono ?_;rintro e w4 ⟨rfl,BM,hcase⟩;rcases hcase with ⟨h1,-⟩ | ⟨-,-,JN,hx4⟩
   ·exact absurd h1 (by decide)
   have wI:=zh (gL.out.turns BM (PY.out.aU gL.out (by decide) (by decide) (by decide) (by decide)));have ER:=zh (show GQ T B M gh oh m ch w.heap.size o w4 from oP JN wI.out HLEN.out);have H9:=zh JN;have vX:=zh hx4;clear BM JN hx4;refine hK.out _ _ (ER.out) fun ah=>?_;clear hK K;(try simp only[pS]);refine bE [11] ?_
   (refine dQ ?_;try simp only[pS])
   refine bF ?_;refine gq ?_;obtain⟨t0,t1,t2,-⟩:=ER.out;obtain⟨w5,fU⟩:=eX (w4.alloc (.cells #[.int .i64 h] 3))
   have hb5:Below w4.heap.size w4 w5:=gP fU;have s5:=kE w4 3 (.int .i64 h);rw[fU] at s5;have wS:=(H9.out.below hb5).row;have oK:=zh hb5;have hln:=HLEN.out;rw[hln] at wS;clear hb5
   go_wp2_with (at_builtin;refine dK rfl _ _ 31 rfl 0 3 i0 (.int .i64 0) 1 8 Tryz.underlying31 hi0 hz0 hz1 hz2 rfl (by decide) _ m (ints hs) rfl wS _ 1 (ints [h]) rfl rfl (.inr ⟨_,_,rfl,s5⟩) (gB _) ?c3 ?c4 (Nat.zero_le _) ?_)
   case c3=>unfold maxLen;omega
   case c4=>omega
   intro v6 w6 o6 g6 f6;rw[←gY,←hln] at o6;obtain⟨U5,PZ,Ym,hv6⟩:=oU.pushed H9.out oK.out g6 o6 f6;rw[hln] at o6;obtain⟨A6,c6,rfl⟩:=o6.form;have bf:=zh (vX.out _ _ PZ Ym hv6);have e0:w6.cell? ⟨T,2,none⟩=some (.slice (some ⟨gh,oh,none⟩) hs.length ch):=U5.cell 2;have e1:=U5.free 2;clear g6 o6 f6 U5 PZ Ym hv6 s5 wS hln;go_wp2_with fail;go_ret2;obtain⟨vs',bV,dP,n',aW,fr',iL,f',g',hfin⟩:=bf.out;exact⟨_,[],_,_,_,_,_,_,_,_,_,_,_,_,rfl,hfin⟩
end
section
open Go.RowKit
variable [oQ]
theorem RB (base bM T B M:Nat) (b s:Int) (vs vf aT vh:Value) (n live m:Nat) (fr:List Nat) (av:Int→Tr.Sl) (f:Nat→RS) (hs:List Int) (g:Tr.G) (K:Nat) (o:qM) (w:World) (H:TW w base bM T B M b s vs vf aT vh n live m fr av f hs g K) (ho:pE o) (hkd:o.kind.tmod 10=9) (hm:m≤300) (hK:K≤60) (hT:Lit w):
  uo base bM T B M b s K o w:=by
 unfold uo;obtain⟨ia,hia,aL⟩:=aS ho.a.1 H.m0;obtain⟨ib,hib,iU⟩:=aS ho.b.1 H.m0;obtain⟨ic,hic,ql⟩:=aS (m:=m+1) ho.c.1 (by omega);rw[Int.natCast_add] at hic;have hlen:=H.len;have hm0:=H.m0;obtain⟨w1,gh,oh,ch,rfl,mz,G9,He,Hf,hw1,fu,HB1,H1,p8,jI,HLEN,qX,qh,t0,t1,t2,x0,x1,x2,x3,x4,x5,x6,x7,Hg,Hl,Ho,Hq,Hr,Ht,Hu,Hw⟩:=iB H ho hT;have yF:=zh (fun (W:World) (hb:Below w.heap.size w W)=>H.mv.below hb);have eO:=zh (fun (W:World) (hb:Below w.heap.size w W) (j:Nat) (hj:j<m)=>dF bM M m aT f j W (H.mv.below hb) hj (by omega));clear H ho hT
 go_enter Tryz.func13,Tryz.ntmps13
 go_wp2_with fail;(try rw[hw1]);try go_wp2_with fail
 go_quiet (fail)
 obtain⟨V,hV⟩:=eX (w1.drewN nq)
 have eH:Below w1.heap.size w1 V:=Hy hV;have bW:=zh (HB1.out.trans (eH.mono HB1.out.size));have cZ:=zh (fu.out.below eH fu.out.lt);have HV:=zh (H1.out.below eH);have uq:=zh (jI.out.below eH);obtain⟨t0',t1',t2'⟩:=qh.out V bW.out;have z0:V.cell? ⟨w.heap.size,0,none⟩=some (.int .u8 o.kind):=cZ.out.cell 0;have z4:V.cell? ⟨w.heap.size,4,none⟩=some (.string o.s):=cZ.out.cell 4;have z5:V.cell? ⟨w.heap.size,5,none⟩=some (.string o.t):=cZ.out.cell 5;have z6:V.cell? ⟨w.heap.size,6,none⟩=some (.int .i8 o.n):=cZ.out.cell 6;have z7:V.cell? ⟨w.heap.size,7,none⟩=some (.int .i8 o.k):=cZ.out.cell 7;clear t0 t1 t2 x0 x1 x2 x3 x4 x5 x6 x7 eH;(try rw[hV]);go_wp2_with fail;refine (eO.out V bW.out ia aL).mono ?_;rintro e w2 ⟨rfl,hw2⟩;rw[hw2];clear eO hw2;go_wp2_with fail;obtain⟨h,hh⟩:=eX (hof hs (ia:Int))
 obtain⟨V2,hV2⟩:=eX (V.drew)
 have bK:Below V.heap.size V V2:=qd hV2;have nV:=zh (bW.out.trans (bK.mono bW.out.size));have HW2:=zh (HV.out.below bK);have gH:=zh (cZ.out.below bK cZ.out.lt);have HL2:=zh (uq.out.below bK);have gI:=zh (show jl T B M gh oh m ch w.heap.size ia h o V2 from bq HW2.out.tw gH.out HLEN.out (by rw[←hh];exact HV.out.bH aL));have JR:(0:Int)≤(ia:Int):=by omega
 have JU:(ia:Int)<(m:Int):=by omega
 have RD:=zh (show ∀ k,aC M aT m f k→¬ ((.slice (some ⟨gh,oh,none⟩) m ch):Value).ownBlock=some k from fun k hk hv=>(HW2.out.yL k (by rw[HLEN.out];exact hv)).2 hk);cases hg:(f ia).gone with
 | true=>
  obtain⟨e1,e2⟩:=HW2.out.lC aL hg;have HC:=zh (JH base B b s (hof hs 0) h live n (Tr.raw g av) fr vs vf V2 HW2.out.tv HW2.out.so (by rw[←hh];exact HW2.out.i64 aL) (by rw[←hh,e1];exact Tr.bB e2));clear e1 e2;refine wp_region_noPanic ?_;refine wp_region_held_drew (S:=jl T B M gh oh m ch w.heap.size ia h o) (by kernel_rfl) ?_ (fun ah=>?_)
  ·exact (by rw[hV2];exact gI.out)
  rw[hV2] at ah ⊢;refine bE [0,1,2,3,4,5,6,7,8,9,10] ?_;iterate 11 (refine dQ ?_;try simp only[pS])
  refine bF ?_;refine bI 11 fun K hK=>?_;go_simp;refine HC.out.mono ?_;rintro e w3 ⟨rfl,hb3⟩;have gJ:=zh (HW2.out.below hb3).up;have jm:=zh (show jl T B M gh oh m ch w.heap.size ia h o w3 from bq gJ.out.tw (gH.out.below hb3 gH.out.lt) HLEN.out (by rw[←hh];exact HV.out.bH aL));clear hb3;refine hK.out _ _ (jm.out) fun ah=>?_;clear hK K;(try simp only[pS]);refine bE [12] ?_
  (refine dQ ?_;try simp only[pS])
  refine bF ?_;refine gq ?_;have Tt:=zh (show oU w3 T B M (.slice (some ⟨gh,oh,none⟩) m ch) hs by have:=gJ.out.tw;rw[HLEN.out] at this;exact this);have Yp:=zh (show ∀ k,aC M aT m f k→¬ ((.slice (some ⟨gh,oh,none⟩) m ch):Value).ownBlock=some k from RD.out);go_wp2_with fail
  go_loopw [40] (fun u wr=>∃ j:Nat,u=.int .i64 (j:Int)∧j≤m∧Hid (HJ w3 T B M (.slice (some ⟨gh,oh,none⟩) m ch) m f hs j wr)) (fun u _=>m - (intOf u).toNat)
  case atStart=>exact⟨0,rfl,Nat.zero_le _,zh (HJ.start Tt.out HLEN.out)⟩
  case round=>
   obtain⟨j,rfl,hj,qY⟩:=hrel;by_cases hjm:j<m
   ·have y0:(0:Int)≤(j:Int):=by omega
    have y1:(j:Int)<(m:Int):=by omega
    have t1w:wr.cell? ⟨T,1,none⟩=some (.pointer (some ⟨M,0,none⟩)):=qY.out.var.cell 1;have t2w:wr.cell? ⟨T,2,none⟩=some (.slice (some ⟨gh,oh,none⟩) m ch):=qY.out.var.cell 2;have SK:=zh (dF bM M m aT f j wr ((gJ.out.mv).turns qY.out.turns Yp.out) hjm (by omega));obtain⟨xj,hxj⟩:∃ x,(hsJ f hs j)[j]?=some x:=⟨(hsJ f hs j)[j]'(by rw[qL,HLEN.out];exact hjm),by simp⟩
    have cj:wr.cell? ⟨gh,oh+j,none⟩=some (.int .i64 xj):=qY.out.row.cellAt j _ (by omega) (dX hxj);have fj:=qY.out.row.frozen (oh+j);clear hxj;go_wp2_with fail;refine SK.out.mono ?_;rintro e w6 ⟨rfl,kZ⟩;rw[kZ];clear SK kZ;cases hgj:(f j).gone with
    | true=>
     have HN:=zh (qY.out.set hjm hgj);clear hgj;go_wp2_with fail
     go_roundw
     case rel=>exact⟨j+1,by go_num,by omega,HN⟩
     case measure=>simp[intOf];omega
    | false=>
     have HN:=zh (qY.out.keep hgj);clear hgj;go_wp2_with fail
     go_roundw
     case rel=>exact⟨j+1,by go_num,by omega,HN⟩
     case measure=>simp[intOf];omega
   ·have y1:¬ (j:Int)<(m:Int):=by omega
    have G6:j=m:=by omega
    have SL:=zh (show HJ w3 T B M (.slice (some ⟨gh,oh,none⟩) m ch) m f hs m wr by have:=qY.out;rw[G6] at this;exact this);clear G6;have bf:=zh (gJ.out.handles (by rw[HLEN.out];have:=SL.out.done HLEN.out;rw[Au m (fun i hi hg=>gJ.out.gn i hi hg)] at this;exact this) (by rw[HLEN.out];exact SL.out.turns));go_wp2_with fail;go_ret2
    first | exact⟨_,[],_,_,_,_,_,_,_,_,_,_,_,_,rfl,bf.out⟩ | exact⟨⟨_,rfl⟩,_,_,_,_,_,_,_,_,_,_,_,_,bf.out⟩ | exact⟨⟨_,rfl⟩,[],_,_,_,_,_,_,_,_,_,_,_,_,bf.out⟩ | exact⟨[],_,_,_,_,_,_,_,_,_,_,_,_,bf.out⟩ | exact⟨[],_,_,_,_,_,_,_,_,_,_,_,_,rfl,bf.out⟩ | exact⟨rfl,_,[],_,_,_,_,_,_,_,_,_,_,_,_,bf.out⟩
 | false=>
  have eg:g h=some (Tr.dV (hof hs) (jD (f ia))):=by rw[←hh];exact HW2.out.cK aL hg
  have hkk:(f ia).kind≠0:=HW2.out.kinds h _ eg;by_cases hst:ia=0∨∃ p:Nat,(f ia).pa=(p:Int)
  ·have HC:=zh (GL base B b s (hof hs 0) h live n g av fr vs vf _ V2 HW2.out.tv HW2.out.so eg hkk (by
    rcases hst with e | ⟨p,e⟩
    ·refine .inl ?_;show (f ia).kind=1;rw[e];exact HW2.out.km.1
    ·refine .inr ?_;show hof hs (f ia).pa≠0;rcases HW2.out.im.pa _ _ (aQ aL hg) with e1 | e1
     ·exact absurd (show (f ia).pa = -1 from e1) (by omega)
     ·exact HW2.out.im.nz _ e1))
   have HST:=zh hst;clear eg hkk hst;refine wp_region_noPanic ?_;refine wp_region_held_drew (S:=jl T B M gh oh m ch w.heap.size ia h o) (by kernel_rfl) ?_ (fun ah=>?_)
   ·exact (by rw[hV2];exact gI.out)
   rw[hV2] at ah ⊢;refine bE [0,1,2,3,4,5,6,7,8,9,10] ?_;iterate 11 (refine dQ ?_;try simp only[pS])
   refine bF ?_;refine bI 11 fun K hK=>?_;go_simp;refine HC.out.mono ?_;rintro e w3 ⟨rfl,hb3⟩;have gJ:=zh (HW2.out.below hb3).up;have jm:=zh (show jl T B M gh oh m ch w.heap.size ia h o w3 from bq gJ.out.tw (gH.out.below hb3 gH.out.lt) HLEN.out (by rw[←hh];exact HV.out.bH aL));clear hb3;refine hK.out _ _ (jm.out) fun ah=>?_;clear hK K;(try simp only[pS]);refine bE [12] ?_
   (refine dQ ?_;try simp only[pS])
   refine bF ?_;refine gq ?_;have HR:=zh (GK bM M m aT f ia w3 gJ.out.mv aL HST.out);obtain⟨-,t13,-⟩:=jm.out;go_wp2_with fail;refine HR.out.mono ?_;rintro e w4 ⟨rfl,hw4⟩;rw[hw4];clear hw4;have Tt:=zh (show oU w3 T B M (.slice (some ⟨gh,oh,none⟩) m ch) hs by have:=gJ.out.tw;rw[HLEN.out] at this;exact this);have Yp:=zh (show ∀ k,aC M aT m f k→¬ ((.slice (some ⟨gh,oh,none⟩) m ch):Value).ownBlock=some k from RD.out);go_wp2_with fail
   go_loopw [40] (fun u wr=>∃ j:Nat,u=.int .i64 (j:Int)∧j≤m∧Hid (HJ w3 T B M (.slice (some ⟨gh,oh,none⟩) m ch) m f hs j wr)) (fun u _=>m - (intOf u).toNat)
   case atStart=>exact⟨0,rfl,Nat.zero_le _,zh (HJ.start Tt.out HLEN.out)⟩
   case round=>
    obtain⟨j,rfl,hj,qY⟩:=hrel;by_cases hjm:j<m
    ·have y0:(0:Int)≤(j:Int):=by omega
     have y1:(j:Int)<(m:Int):=by omega
     have t1w:wr.cell? ⟨T,1,none⟩=some (.pointer (some ⟨M,0,none⟩)):=qY.out.var.cell 1;have t2w:wr.cell? ⟨T,2,none⟩=some (.slice (some ⟨gh,oh,none⟩) m ch):=qY.out.var.cell 2;have SK:=zh (dF bM M m aT f j wr ((gJ.out.mv).turns qY.out.turns Yp.out) hjm (by omega));obtain⟨xj,hxj⟩:∃ x,(hsJ f hs j)[j]?=some x:=⟨(hsJ f hs j)[j]'(by rw[qL,HLEN.out];exact hjm),by simp⟩
     have cj:wr.cell? ⟨gh,oh+j,none⟩=some (.int .i64 xj):=qY.out.row.cellAt j _ (by omega) (dX hxj);have fj:=qY.out.row.frozen (oh+j);clear hxj;go_wp2_with fail;refine SK.out.mono ?_;rintro e w6 ⟨rfl,kZ⟩;rw[kZ];clear SK kZ;cases hgj:(f j).gone with
     | true=>
      have HN:=zh (qY.out.set hjm hgj);clear hgj;go_wp2_with fail
      go_roundw
      case rel=>exact⟨j+1,by go_num,by omega,HN⟩
      case measure=>simp[intOf];omega
     | false=>
      have HN:=zh (qY.out.keep hgj);clear hgj;go_wp2_with fail
      go_roundw
      case rel=>exact⟨j+1,by go_num,by omega,HN⟩
      case measure=>simp[intOf];omega
    ·have y1:¬ (j:Int)<(m:Int):=by omega
     have G6:j=m:=by omega
     have SL:=zh (show HJ w3 T B M (.slice (some ⟨gh,oh,none⟩) m ch) m f hs m wr by have:=qY.out;rw[G6] at this;exact this);clear G6;have bf:=zh (gJ.out.handles (by rw[HLEN.out];have:=SL.out.done HLEN.out;rw[Au m (fun i hi hg=>gJ.out.gn i hi hg)] at this;exact this) (by rw[HLEN.out];exact SL.out.turns));have qg:=zh (dD T B M 0 0 _ (.slice none 0 0) (.slice none 0 0) _ [] wr bf.out.tw (World.ownsRow_nil _ _ _ _) (World.ownsRow_nil _ _ _ _) (by simp));go_wp2_with fail;refine qg.out.mono ?_;rintro e w7 ⟨rfl,ng⟩;have HF2:=zh (bf.out.below ng);clear ng;go_wp2_with fail;go_ret2;exact⟨_,[],_,_,_,_,_,_,_,_,_,_,_,_,rfl,HF2.out⟩
  ·have h0:ia≠0:=fun e=>hst (.inl e);have hpa:(f ia).pa = -1:=by
    rcases HW2.out.im.pa _ _ (aQ aL hg) with e1 | e1
    ·exact e1
    ·obtain⟨p,e2,_⟩:=jE e1;exact absurd (.inr ⟨p,e2⟩) hst
   have hk1:(f ia).kind≠1:=by rcases HW2.out.km.2 ia aL h0 with e | e | e<;>omega
   have HC:=zh (PK base B b s (hof hs 0) h live n g av fr vs vf _ V2 HW2.out.tv HW2.out.so HW2.out.wf (by have:=HW2.out.tv.low;have:=HW2.out.tv.var.lt;omega) eg hkk hk1 (by show hof hs (f ia).pa=0;rw[hpa];exact HW2.out.im.zero) (by have:=HW2.out.im.FW HW2.out.wf aL hg;rw[hh] at this;omega));have H0:=zh (And.intro h0 hpa);clear eg hkk hst h0 hpa hk1;refine wp_region_noPanic ?_;refine wp_region_held_drew (S:=jl T B M gh oh m ch w.heap.size ia h o) (by kernel_rfl) ?_ (fun ah=>?_)
   ·exact (by rw[hV2];exact gI.out)
   rw[hV2] at ah ⊢;refine bE [0,1,2,3,4,5,6,7,8,9,10] ?_;iterate 11 (refine dQ ?_;try simp only[pS])
   refine bF ?_;refine bI 11 fun K hK=>?_;go_simp;refine HC.out.mono ?_;rintro e w3 ⟨vs3,vf3,fr3,L3,rfl,hv3,hs3,fT⟩;obtain⟨a1,a2,-,-,-⟩:=HW2.out.after fT;have eU:=zh (gH.out.turns fT.1 (HW2.out.tv.aU gH.out (by decide) (by decide) (by decide)));have jm:=zh (show jl T B M gh oh m ch w.heap.size ia h o w3 from bq a1 eU.out HLEN.out (by rw[←hh];exact HV.out.bH aL));have HT3:=zh (And.intro a1 a2);have ug:=zh (And.intro hv3 (And.intro hs3 fT));clear a1 a2 hv3 hs3 fT;refine hK.out _ _ (jm.out) fun ah=>?_;clear hK K;(try simp only[pS]);refine bE [12] ?_
   (refine dQ ?_;try simp only[pS])
   refine bF ?_;refine gq ?_;have HR:=zh (PG bM M m aT f ia w3 HT3.out.2 (HW2.out.im.pull HW2.out.wf) aL hg (by omega) H0.out.1 H0.out.2);obtain⟨-,t13,-⟩:=jm.out;go_wp2_with fail;refine HR.out.mono ?_;rintro e w4 ⟨rfl,nA,dO⟩;have UG:=zh nA;have abl:=zh dO;obtain⟨f',hf'⟩:∃ f',iT f (Tr.ay (mg m f) (ia:Int))=f':=⟨_,rfl⟩
   have HF':=zh hf';rw[hf'] at UG;have RD:=zh (show ∀ k,aC M aT m f' k→¬ ((.slice (some ⟨gh,oh,none⟩) m ch):Value).ownBlock=some k from fun k hk hv=>(HW2.out.yL k (by rw[HLEN.out];exact hv)).2 (by rw[←hf',nS] at hk;exact hk));have E5:=zh (show oU w4 T B M (.slice (some ⟨gh,oh,none⟩) hs.length ch) hs from⟨HT3.out.1.var.turns dO.1 HW2.out.JV.2,HT3.out.1.row.turns dO.1 fun k hk=>(HW2.out.yL k hk).2⟩);clear nA dO hf' ;have Tt:=zh (show oU w4 T B M (.slice (some ⟨gh,oh,none⟩) m ch) hs by have:=E5.out;rw[HLEN.out] at this;exact this);have Yp:=zh (show ∀ k,aC M aT m f' k→¬ ((.slice (some ⟨gh,oh,none⟩) m ch):Value).ownBlock=some k from RD.out);go_wp2_with fail
   go_loopw [40] (fun u wr=>∃ j:Nat,u=.int .i64 (j:Int)∧j≤m∧Hid (HJ w4 T B M (.slice (some ⟨gh,oh,none⟩) m ch) m f' hs j wr)) (fun u _=>m - (intOf u).toNat)
   case atStart=>exact⟨0,rfl,Nat.zero_le _,zh (HJ.start Tt.out HLEN.out)⟩
   case round=>
    obtain⟨j,rfl,hj,qY⟩:=hrel;by_cases hjm:j<m
    ·have y0:(0:Int)≤(j:Int):=by omega
     have y1:(j:Int)<(m:Int):=by omega
     have t1w:wr.cell? ⟨T,1,none⟩=some (.pointer (some ⟨M,0,none⟩)):=qY.out.var.cell 1;have t2w:wr.cell? ⟨T,2,none⟩=some (.slice (some ⟨gh,oh,none⟩) m ch):=qY.out.var.cell 2;have SK:=zh (dF bM M m aT f' j wr ((UG.out).turns qY.out.turns Yp.out) hjm (by omega));obtain⟨xj,hxj⟩:∃ x,(hsJ f' hs j)[j]?=some x:=⟨(hsJ f' hs j)[j]'(by rw[qL,HLEN.out];exact hjm),by simp⟩
     have cj:wr.cell? ⟨gh,oh+j,none⟩=some (.int .i64 xj):=qY.out.row.cellAt j _ (by omega) (dX hxj);have fj:=qY.out.row.frozen (oh+j);clear hxj;go_wp2_with fail;refine SK.out.mono ?_;rintro e w6 ⟨rfl,kZ⟩;rw[kZ];clear SK kZ;cases hgj:(f' j).gone with
     | true=>
      have HN:=zh (qY.out.set hjm hgj);clear hgj;go_wp2_with fail
      go_roundw
      case rel=>exact⟨j+1,by go_num,by omega,HN⟩
      case measure=>simp[intOf];omega
     | false=>
      have HN:=zh (qY.out.keep hgj);clear hgj;go_wp2_with fail
      go_roundw
      case rel=>exact⟨j+1,by go_num,by omega,HN⟩
      case measure=>simp[intOf];omega
    ·have y1:¬ (j:Int)<(m:Int):=by omega
     have G6:j=m:=by omega
     have SL:=zh (show HJ w4 T B M (.slice (some ⟨gh,oh,none⟩) m ch) m f' hs m wr by have:=qY.out;rw[G6] at this;exact this);clear G6;have bf:=zh (HW2.out.dropped (w5:=wr) aL hg H0.out.1 H0.out.2 (by rw[hh];exact ug.out.1) (by rw[hh];exact ug.out.2.1) ug.out.2.2 (by rw[HF'.out];exact UG.out) abl.out (by rw[HF'.out,HLEN.out];exact SL.out.done HLEN.out) (by rw[HLEN.out];exact SL.out.turns));have qg:=zh (dD T B M 0 0 _ (.slice none 0 0) (.slice none 0 0) _ [] wr bf.out.tw (World.ownsRow_nil _ _ _ _) (World.ownsRow_nil _ _ _ _) (by simp));go_wp2_with fail;refine qg.out.mono ?_;rintro e w7 ⟨rfl,ng⟩;have HF2:=zh (bf.out.below ng);clear ng;go_wp2_with fail;go_ret2;exact⟨_,[],_,_,_,_,_,_,_,_,_,_,_,_,rfl,HF2.out⟩
end
section
open Go.RowKit
variable [oQ]
theorem iP {w:World} {T B M gh oh ch m ia ib X:Nat} {hs:List Int} {h p:Int} {o:qM} (H:oU w T B M (.slice (some ⟨gh,oh,none⟩) hs.length ch) hs) (hX:Whole w X #[.int .u8 o.kind,.int .u8 o.a,.int .u8 o.b,.int .u8 o.c,.string o.s,.string o.t,.int .i8 o.n,.int .i8 o.k] 39) (hl:hs.length=m) (hi:hs[ia]?=some h) (hp:hs[ib]?=some p):AB T B M gh oh m ch X ia h o ib p w:=by
 have hlt:=(List.getElem?_eq_some_iff.1 hi).1;have hlt2:=(List.getElem?_eq_some_iff.1 hp).1;rw[←hl];exact⟨H.var.cell 0,H.var.cell 1,H.var.cell 2,H.row.cellAt ia _ (by omega) (dX hi),hX.cell 4,hX.cell 5,hX.cell 6,hX.cell 7,H.row.cellAt ib _ (by omega) (dX hp)⟩
theorem M6 (base bM T B M:Nat) (b s:Int) (vs vf aT vh:Value) (n live m:Nat) (fr:List Nat) (av:Int→Tr.Sl) (f:Nat→RS) (hs:List Int) (g:Tr.G) (K:Nat) (o:qM) (w:World) (H:TW w base bM T B M b s vs vf aT vh n live m fr av f hs g K) (ho:pE o) (hkd:o.kind.tmod 10=3) (hcz:o.c.tmod ((m:Int)+1)=0) (hga:∀ i:Nat,o.a.tmod (m:Int)=(i:Int)→(f i).gone=true) (hm:m≤300) (hK:K≤60) (hT:Lit w):
  uo base bM T B M b s K o w:=by
 unfold uo;obtain⟨ia,hia,aL⟩:=aS ho.a.1 H.m0;obtain⟨ib,hib,iU⟩:=aS ho.b.1 H.m0;have hic:o.c.tmod ((m:Int)+1)=0:=hcz;have Dr:=zh (hga ia hia);clear hga;have HG:=Dr;have hlen:=H.len;have hm0:=H.m0;obtain⟨w1,gh,oh,ch,rfl,mz,G9,He,Hf,hw1,fu,HB1,H1,p8,jI,HLEN,qX,qh,t0,t1,t2,x0,x1,x2,x3,x4,x5,x6,x7,Hg,Hl,Ho,Hq,Hr,Ht,Hu,Hw⟩:=iB H ho hT;have yF:=zh (fun (W:World) (hb:Below w.heap.size w W)=>H.mv.below hb);have eO:=zh (fun (W:World) (hb:Below w.heap.size w W) (j:Nat) (hj:j<m)=>dF bM M m aT f j W (H.mv.below hb) hj (by omega));clear H ho hT
 go_enter Tryz.func13,Tryz.ntmps13
 go_wp2_with fail;(try rw[hw1]);try go_wp2_with fail
 go_quiet (fail)
 obtain⟨V,hV⟩:=eX (w1.drewN nq)
 have eH:Below w1.heap.size w1 V:=Hy hV;have bW:=zh (HB1.out.trans (eH.mono HB1.out.size));have cZ:=zh (fu.out.below eH fu.out.lt);have HV:=zh (H1.out.below eH);have uq:=zh (jI.out.below eH);obtain⟨t0',t1',t2'⟩:=qh.out V bW.out;have z0:V.cell? ⟨w.heap.size,0,none⟩=some (.int .u8 o.kind):=cZ.out.cell 0;have z4:V.cell? ⟨w.heap.size,4,none⟩=some (.string o.s):=cZ.out.cell 4;have z5:V.cell? ⟨w.heap.size,5,none⟩=some (.string o.t):=cZ.out.cell 5;have z6:V.cell? ⟨w.heap.size,6,none⟩=some (.int .i8 o.n):=cZ.out.cell 6;have z7:V.cell? ⟨w.heap.size,7,none⟩=some (.int .i8 o.k):=cZ.out.cell 7;clear t0 t1 t2 x0 x1 x2 x3 x4 x5 x6 x7 eH;(try rw[hV]);go_wp2_with fail;refine (eO.out V bW.out ia aL).mono ?_;rintro e w2 ⟨rfl,hw2⟩;rw[hw2];clear hw2;rw[Dr.out];go_wp2_with fail;obtain⟨h,hh⟩:=eX (hof hs (ia:Int))
 obtain⟨p,hp⟩:=eX (hof hs (ib:Int))
 obtain⟨V2,hV2⟩:=eX (V.drew)
 have bK:Below V.heap.size V V2:=qd hV2;have nV:=zh (bW.out.trans (bK.mono bW.out.size));have HW2:=zh (HV.out.below bK);have gH:=zh (cZ.out.below bK cZ.out.lt);have HL2:=zh (uq.out.below bK);have HG2:=zh (And.intro (HV.out.bH aL) (HV.out.bH iU));rw[hh,hp] at HG2;have gI:=zh (show AB T B M gh oh m ch w.heap.size ia h o ib p V2 from iP HW2.out.tw gH.out HLEN.out HG2.out.1 HG2.out.2);have JR:(0:Int)≤(ia:Int):=by omega
 have JU:(ia:Int)<(m:Int):=by omega
 have U8:(0:Int)≤(ib:Int):=by omega
 have U9:(ib:Int)<(m:Int):=by omega
 have HC:=zh (lX base B b s (hof hs 0) p h (hof hs (-1:Int)) live n (Tr.raw g av) fr vs vf V2 HW2.out.tv HW2.out.so (by rw[←hp];exact HW2.out.i64 iU) (by rw[←hh];exact HW2.out.i64 aL) (by rw[HW2.out.im.zero];constructor<;>omega) (.inr (.inl (by obtain⟨e1,e2⟩:=HW2.out.lC aL HG.out;rw[←hh,e1];exact Tr.bB e2))));go_wp2_with fail;refine wp_region_noPanic ?_;refine wp_region_held_drew (S:=AB T B M gh oh m ch w.heap.size ia h o ib p) (by kernel_rfl) ?_ (fun ah=>?_)
 ·exact (by rw[hV2];exact gI.out)
 rw[hV2] at ah ⊢;refine bE [0,1,2,3,4,5,6,7,8,9,10,11,12,13,14,15,16,17,18,19] ?_;iterate 20 (refine dQ ?_;try simp only[pS])
 refine bF ?_;refine bI 20 fun K hK=>?_;go_simp;refine (fM T B M _ hs (-1:Int) V2 HW2.out.tw).mono ?_;rintro e w2 ⟨rfl,hw2⟩;rw[hw2];clear hw2;refine hK.out _ _ (gI.out) fun ah=>?_;clear hK K;(try simp only[pS]);refine bI 21 fun K hK=>?_;go_simp;refine HC.out.mono ?_;rintro e w3 ⟨rfl,hb3⟩;have gJ:=zh (HW2.out.below hb3).up;have eU:=zh (gH.out.below hb3 gH.out.lt);have jm:=zh (show AB T B M gh oh m ch w.heap.size ia h o ib p w3 from iP gJ.out.tw eU.out HLEN.out HG2.out.1 HG2.out.2);clear hb3;refine hK.out _ _ (jm.out) fun ah=>?_;clear hK K;(try simp only[pS]);refine bE [22,23,24,25,26] ?_;iterate 5 (refine dQ ?_;try simp only[pS])
 refine bF ?_;refine gq ?_;go_wp2_with fail;go_ret2;exact⟨_,[],_,_,_,_,_,_,_,_,_,_,_,_,rfl,gJ.out⟩
theorem M7 (base bM T B M:Nat) (b s:Int) (vs vf aT vh:Value) (n live m:Nat) (fr:List Nat) (av:Int→Tr.Sl) (f:Nat→RS) (hs:List Int) (g:Tr.G) (K:Nat) (o:qM) (w:World) (H:TW w base bM T B M b s vs vf aT vh n live m fr av f hs g K) (ho:pE o) (hkd:o.kind.tmod 10=3) (hcz:o.c.tmod ((m:Int)+1)=0) (hga:∀ i:Nat,o.a.tmod (m:Int)=(i:Int)→(f i).gone=false) (hgb:∀ i:Nat,o.b.tmod (m:Int)=(i:Int)→(f i).gone=true) (hm:m≤300) (hK:K≤60) (hT:Lit w):
  uo base bM T B M b s K o w:=by
 unfold uo;obtain⟨ia,hia,aL⟩:=aS ho.a.1 H.m0;obtain⟨ib,hib,iU⟩:=aS ho.b.1 H.m0;have hic:o.c.tmod ((m:Int)+1)=0:=hcz;have Dr:=zh (hga ia hia);clear hga;have K8:=zh (hgb ib hib);clear hgb;have HG:=K8;have hlen:=H.len;have hm0:=H.m0;obtain⟨w1,gh,oh,ch,rfl,mz,G9,He,Hf,hw1,fu,HB1,H1,p8,jI,HLEN,qX,qh,t0,t1,t2,x0,x1,x2,x3,x4,x5,x6,x7,Hg,Hl,Ho,Hq,Hr,Ht,Hu,Hw⟩:=iB H ho hT;have yF:=zh (fun (W:World) (hb:Below w.heap.size w W)=>H.mv.below hb);have eO:=zh (fun (W:World) (hb:Below w.heap.size w W) (j:Nat) (hj:j<m)=>dF bM M m aT f j W (H.mv.below hb) hj (by omega));clear H ho hT
 go_enter Tryz.func13,Tryz.ntmps13
 go_wp2_with fail;(try rw[hw1]);try go_wp2_with fail
 go_quiet (fail)
 obtain⟨V,hV⟩:=eX (w1.drewN nq)
 have eH:Below w1.heap.size w1 V:=Hy hV;have bW:=zh (HB1.out.trans (eH.mono HB1.out.size));have cZ:=zh (fu.out.below eH fu.out.lt);have HV:=zh (H1.out.below eH);have uq:=zh (jI.out.below eH);obtain⟨t0',t1',t2'⟩:=qh.out V bW.out;have z0:V.cell? ⟨w.heap.size,0,none⟩=some (.int .u8 o.kind):=cZ.out.cell 0;have z4:V.cell? ⟨w.heap.size,4,none⟩=some (.string o.s):=cZ.out.cell 4;have z5:V.cell? ⟨w.heap.size,5,none⟩=some (.string o.t):=cZ.out.cell 5;have z6:V.cell? ⟨w.heap.size,6,none⟩=some (.int .i8 o.n):=cZ.out.cell 6;have z7:V.cell? ⟨w.heap.size,7,none⟩=some (.int .i8 o.k):=cZ.out.cell 7;clear t0 t1 t2 x0 x1 x2 x3 x4 x5 x6 x7 eH;(try rw[hV]);go_wp2_with fail;refine (eO.out V bW.out ia aL).mono ?_;rintro e w2 ⟨rfl,hw2⟩;rw[hw2];clear hw2;rw[Dr.out];go_wp2_with fail;refine (eO.out V bW.out ib iU).mono ?_;rintro e w2 ⟨rfl,hw2⟩;rw[hw2];clear hw2;rw[K8.out];go_wp2_with fail;obtain⟨h,hh⟩:=eX (hof hs (ia:Int))
 obtain⟨p,hp⟩:=eX (hof hs (ib:Int))
 obtain⟨V2,hV2⟩:=eX (V.drew)
 have bK:Below V.heap.size V V2:=qd hV2;have nV:=zh (bW.out.trans (bK.mono bW.out.size));have HW2:=zh (HV.out.below bK);have gH:=zh (cZ.out.below bK cZ.out.lt);have HL2:=zh (uq.out.below bK);have HG2:=zh (And.intro (HV.out.bH aL) (HV.out.bH iU));rw[hh,hp] at HG2;have gI:=zh (show AB T B M gh oh m ch w.heap.size ia h o ib p V2 from iP HW2.out.tw gH.out HLEN.out HG2.out.1 HG2.out.2);have JR:(0:Int)≤(ia:Int):=by omega
 have JU:(ia:Int)<(m:Int):=by omega
 have U8:(0:Int)≤(ib:Int):=by omega
 have U9:(ib:Int)<(m:Int):=by omega
 have HC:=zh (lX base B b s (hof hs 0) p h (hof hs (-1:Int)) live n (Tr.raw g av) fr vs vf V2 HW2.out.tv HW2.out.so (by rw[←hp];exact HW2.out.i64 iU) (by rw[←hh];exact HW2.out.i64 aL) (by rw[HW2.out.im.zero];constructor<;>omega) (.inl (by obtain⟨e1,e2⟩:=HW2.out.lC iU HG.out;rw[←hp,e1];exact Tr.bB e2)));go_wp2_with fail;refine wp_region_noPanic ?_;refine wp_region_held_drew (S:=AB T B M gh oh m ch w.heap.size ia h o ib p) (by kernel_rfl) ?_ (fun ah=>?_)
 ·exact (by rw[hV2];exact gI.out)
 rw[hV2] at ah ⊢;refine bE [0,1,2,3,4,5,6,7,8,9,10,11,12,13,14,15,16,17,18,19] ?_;iterate 20 (refine dQ ?_;try simp only[pS])
 refine bF ?_;refine bI 20 fun K hK=>?_;go_simp;refine (fM T B M _ hs (-1:Int) V2 HW2.out.tw).mono ?_;rintro e w2 ⟨rfl,hw2⟩;rw[hw2];clear hw2;refine hK.out _ _ (gI.out) fun ah=>?_;clear hK K;(try simp only[pS]);refine bI 21 fun K hK=>?_;go_simp;refine HC.out.mono ?_;rintro e w3 ⟨rfl,hb3⟩;have gJ:=zh (HW2.out.below hb3).up;have eU:=zh (gH.out.below hb3 gH.out.lt);have jm:=zh (show AB T B M gh oh m ch w.heap.size ia h o ib p w3 from iP gJ.out.tw eU.out HLEN.out HG2.out.1 HG2.out.2);clear hb3;refine hK.out _ _ (jm.out) fun ah=>?_;clear hK K;(try simp only[pS]);refine bE [22,23,24,25,26] ?_;iterate 5 (refine dQ ?_;try simp only[pS])
 refine bF ?_;refine gq ?_;go_wp2_with fail;go_ret2;exact⟨_,[],_,_,_,_,_,_,_,_,_,_,_,_,rfl,gJ.out⟩
theorem M8 (base bM T B M:Nat) (b s:Int) (vs vf aT vh:Value) (n live m:Nat) (fr:List Nat) (av:Int→Tr.Sl) (f:Nat→RS) (hs:List Int) (g:Tr.G) (K:Nat) (o:qM) (w:World) (H:TW w base bM T B M b s vs vf aT vh n live m fr av f hs g K) (ho:pE o) (hkd:o.kind.tmod 10=3) (hcz:o.c.tmod ((m:Int)+1)=0) (hga:∀ i:Nat,o.a.tmod (m:Int)=(i:Int)→(f i).gone=false) (hgb:∀ i:Nat,o.b.tmod (m:Int)=(i:Int)→(f i).gone=false) (hm:m≤300) (hK:K≤60) (hT:Lit w):
  uo base bM T B M b s K o w:=by
 unfold uo;obtain⟨ia,hia,aL⟩:=aS ho.a.1 H.m0;obtain⟨ib,hib,iU⟩:=aS ho.b.1 H.m0;have hic:o.c.tmod ((m:Int)+1)=0:=hcz;have Dr:=zh (hga ia hia);clear hga;have K8:=zh (hgb ib hib);clear hgb;have HG:=Dr;have hlen:=H.len;have hm0:=H.m0;obtain⟨w1,gh,oh,ch,rfl,mz,G9,He,Hf,hw1,fu,HB1,H1,p8,jI,HLEN,qX,qh,t0,t1,t2,x0,x1,x2,x3,x4,x5,x6,x7,Hg,Hl,Ho,Hq,Hr,Ht,Hu,Hw⟩:=iB H ho hT;have yF:=zh (fun (W:World) (hb:Below w.heap.size w W)=>H.mv.below hb);have eO:=zh (fun (W:World) (hb:Below w.heap.size w W) (j:Nat) (hj:j<m)=>dF bM M m aT f j W (H.mv.below hb) hj (by omega));clear H ho hT
 go_enter Tryz.func13,Tryz.ntmps13
 go_wp2_with fail;(try rw[hw1]);try go_wp2_with fail
 go_quiet (fail)
 obtain⟨V,hV⟩:=eX (w1.drewN nq)
 have eH:Below w1.heap.size w1 V:=Hy hV;have bW:=zh (HB1.out.trans (eH.mono HB1.out.size));have cZ:=zh (fu.out.below eH fu.out.lt);have HV:=zh (H1.out.below eH);have uq:=zh (jI.out.below eH);obtain⟨t0',t1',t2'⟩:=qh.out V bW.out;have z0:V.cell? ⟨w.heap.size,0,none⟩=some (.int .u8 o.kind):=cZ.out.cell 0;have z4:V.cell? ⟨w.heap.size,4,none⟩=some (.string o.s):=cZ.out.cell 4;have z5:V.cell? ⟨w.heap.size,5,none⟩=some (.string o.t):=cZ.out.cell 5;have z6:V.cell? ⟨w.heap.size,6,none⟩=some (.int .i8 o.n):=cZ.out.cell 6;have z7:V.cell? ⟨w.heap.size,7,none⟩=some (.int .i8 o.k):=cZ.out.cell 7;clear t0 t1 t2 x0 x1 x2 x3 x4 x5 x6 x7 eH;(try rw[hV]);go_wp2_with fail;refine (eO.out V bW.out ia aL).mono ?_;rintro e w2 ⟨rfl,hw2⟩;rw[hw2];clear hw2;rw[Dr.out];go_wp2_with fail;refine (eO.out V bW.out ib iU).mono ?_;rintro e w2 ⟨rfl,hw2⟩;rw[hw2];clear hw2;rw[K8.out];go_wp2_with fail;obtain⟨h,hh⟩:=eX (hof hs (ia:Int))
 obtain⟨p,hp⟩:=eX (hof hs (ib:Int))
 obtain⟨V2,hV2⟩:=eX (V.drew)
 have bK:Below V.heap.size V V2:=qd hV2;have nV:=zh (bW.out.trans (bK.mono bW.out.size));have HW2:=zh (HV.out.below bK);have gH:=zh (cZ.out.below bK cZ.out.lt);have HL2:=zh (uq.out.below bK);have HG2:=zh (And.intro (HV.out.bH aL) (HV.out.bH iU));rw[hh,hp] at HG2;have gI:=zh (show AB T B M gh oh m ch w.heap.size ia h o ib p V2 from iP HW2.out.tw gH.out HLEN.out HG2.out.1 HG2.out.2);have JR:(0:Int)≤(ia:Int):=by omega
 have JU:(ia:Int)<(m:Int):=by omega
 have U8:(0:Int)≤(ib:Int):=by omega
 have U9:(ib:Int)<(m:Int):=by omega
 have HC:=zh (xC HW2.out (by omega) aL Dr.out iU K8.out (c:=(-1:Int)) (.inl rfl));rw[hh,hp] at HC;go_wp2_with fail;refine wp_region_noPanic ?_;refine wp_region_held_drew (S:=AB T B M gh oh m ch w.heap.size ia h o ib p) (by kernel_rfl) ?_ (fun ah=>?_)
 ·exact (by rw[hV2];exact gI.out)
 rw[hV2] at ah ⊢;refine bE [0,1,2,3,4,5,6,7,8,9,10,11,12,13,14,15,16,17,18,19] ?_;iterate 20 (refine dQ ?_;try simp only[pS])
 refine bF ?_;refine bI 20 fun K hK=>?_;go_simp;refine (fM T B M _ hs (-1:Int) V2 HW2.out.tw).mono ?_;rintro e w2 ⟨rfl,hw2⟩;rw[hw2];clear hw2;refine hK.out _ _ (gI.out) fun ah=>?_;clear hK K;(try simp only[pS]);refine bI 21 fun K hK=>?_;go_simp;refine HC.out.mono ?_;rintro e w3 ⟨v,E,lm,rfl,hE,hlm,⟨A3,n3,c3,rfl⟩,oD,Dh,fT,hM⟩;have eU:=zh (gH.out.turns fT.1 (HW2.out.tv.aU gH.out (by decide) (by decide) (by decide)));have jm:=zh (show AB T B M gh oh m ch w.heap.size ia h o ib p w3 from iP oD eU.out HLEN.out HG2.out.1 HG2.out.2);have HM:=zh (hM w3 (Below.refl _ _));have HE:=zh (And.intro hE hlm);have hwE:IntKind.i64.wrap E=E:=by rcases hE with rfl | rfl | rfl<;>decide
 clear oD Dh fT hM hE hlm HC;refine hK.out _ _ (jm.out) fun ah=>?_;clear hK K;(try simp only[pS]);refine bE [22,23,24,25,26] ?_;iterate 5 (refine dQ ?_;try simp only[pS])
 refine bF ?_;refine gq ?_;obtain⟨c0,c1,-⟩:=jm.out;go_wp2_with fail;refine HM.out.mono ?_;rintro e w4 ⟨r,f2,g2,rfl,hr4,hrec,dO,hspec,HT⟩;obtain⟨A4,c4,rfl⟩:=aG (aH hr4);have qg:=zh (dD T B M _ _ _ _ _ hs lm w4 HT.tw hrec hr4 (by have:=HE.out.2;omega));have VD:=zh HT;clear hr4 hrec dO HT HM;go_wp2_with fail;refine qg.out.mono ?_;rintro e w5 ⟨rfl,hb5⟩;have bf:=zh (VD.out.below hb5);clear hb5;go_wp2_with fail;go_ret2;exact⟨_,[],_,_,_,_,_,_,_,_,_,_,_,_,rfl,bf.out⟩
end
section
open Go.RowKit
theorem FU (M:Nat) (deep:Bool) (w:World):
  Calls Tryz.prog 121 #[.pointer (some ⟨M,0,none⟩),.int .i64 0,.bool deep] w fun e w'=>e=.returned (.int .i64 10)∧w'=w:=by
 go_enter Tryz.func121,Tryz.ntmps121
 go_wp2_with fail
 go_ret
 exact⟨rfl,rfl⟩
theorem FV (base M m:Nat) (vs:Value) (f:Nat→RS) (i:Nat) (w:World) (H:MV base w M vs m f) (hi:i<m) (hg:(f i).gone=false) (hat:(f i).at'.length≤1000) (hcap:m<100000) (h0:i≠0):
  Calls Tryz.prog 121 #[.pointer (some ⟨M,0,none⟩),.int .i64 (i:Int),.bool false] w fun e w'=>e=.returned (.int .i64 0)∧∃ nb,R7 base M m nb vs f i (-1) w w':=by
 have HC:=zh (IL base M m vs f i (-1) w H hi hg hat hcap (by omega));have q0:((i:Int) == 0)=false:=by simpa using h0
 clear H hi hg hat hcap h0
 go_enter Tryz.func121,Tryz.ntmps121
 go_wp2_with fail;refine HC.out.mono ?_;rintro e w1 ⟨⟨u,rfl⟩,hA⟩;have HA:=zh hA;clear hA;go_wp2_with fail
 go_ret
 exact⟨rfl,_,HA.out⟩
theorem FX (base M F m:Nat) (vs:Value) (f:Nat→RS) (i:Nat) (w:World) (H:MV base w M vs m f) (hF:Full (mg m f) F (i:Int)) (hcap:m+(Tr.walk (mg m f) F (i:Int)).length≤100000) (hat:∀ j:Nat,(j:Int)∈Tr.walk (mg m f) F (i:Int)→(f j).at'.length≤1000) (h0:i≠0):
  Calls Tryz.prog 121 #[.pointer (some ⟨M,0,none⟩),.int .i64 (i:Int),.bool true] w fun e w'=>e=.returned (.int .i64 0)∧∃ u,YP base M m vs f (i:Int) (-1) F w (.returned u) w':=by
 have HC:=zh (IV base M F m vs f (i:Int) (-1) w H hF (.inl rfl) (fun hm=>by have:=(Full.all F _ hF _ hm).1;rw[lN (by omega)] at this;cases this) hcap hat);have q0:((i:Int) == 0)=false:=by simpa using h0
 clear H hF hat hcap h0
 go_enter Tryz.func121,Tryz.ntmps121
 go_wp2_with fail;refine HC.out.mono ?_;rintro e w1 ⟨u,vs1,k1,f1,rfl,h1⟩;have HA:=zh h1;clear h1;go_wp2_with fail
 go_ret
 exact⟨rfl,u,u,vs1,k1,f1,rfl,HA.out⟩
end
end Go.Proofs.YtnbaadpgbcklaaaGreatDoor
