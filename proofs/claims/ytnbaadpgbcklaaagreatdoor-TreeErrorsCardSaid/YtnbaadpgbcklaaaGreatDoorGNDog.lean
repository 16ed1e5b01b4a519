/- Part of a proof about trees: NDog. -/
import Derived.BigQuiet
import Derived.Deep.RegionHeld3
import Derived.Test.YtnbaadpgbcklaaaGreatDoorGNDob
set_option linter.unusedVariables false
set_option linter.unusedSimpArgs false
set_option linter.unusedSectionVars false
set_option maxHeartbeats 8000000
set_option maxRecDepth 100000
namespace Go.Proofs.YtnbaadpgbcklaaaGreatDoor
section
open Go.RowKit
variable [nX]
theorem Pg (base bM T B M:Nat) (b s:Int) (vs vf aT vh:Value) (n live m:Nat) (fr:List Nat) (av:Int→Tr.Sl) (f:Nat→RS) (hs:List Int) (g:Tr.G) (K:Nat) (o:qg) (w:World) (H:TW w base bM T B M b s vs vf aT vh n live m fr av f hs g K) (ho:nY o) (hkd:o.kind.tmod 10=9) (hm:m≤300) (hK:K≤60) (hT:Lit w):
  Calls Tryz.prog 13 #[.pointer (some ⟨T,0,none⟩),.agg #[.int .u8 o.kind,.int .u8 o.a,.int .u8 o.b,.int .u8 o.c,.string o.s,.string o.t,.int .i8 o.n,.int .i8 o.k]] w fun e w'=>∃ (lv:Value) (lp:List Tr.Rec) (vs' bN bF gK:Value) (n' aG m':Nat) (fr':List Nat) (dV:Int→Tr.Sl) (f':Nat→RS) (hs':List Int) (g':Tr.G),e=.returned (.tuple #[lv,.bool true])∧TW w' base bM T B M b s vs' bN bF gK n' aG m' fr' dV f' hs' g' (K+1):=by
 obtain⟨ia,hia,aK⟩:=aI ho.a.1 H.m0;obtain⟨ib,hib,gY⟩:=aI ho.b.1 H.m0;obtain⟨ic,hic,nH⟩:=aI (m:=m+1) ho.c.1 (by omega);rw[Int.natCast_add] at hic;obtain⟨Ah,ch,rfl⟩:=H.tw.row.form;have hlen:=H.len;have hm0:=H.m0;have mz:((m:Int) == 0)=false:=by simp;omega
 have Ej:((m:Int)+1 == 0)=false:=by simp;omega
 have El:¬ (m:Int)=0:=by omega
 have Em:¬ (m:Int)+1=0:=by omega
 obtain⟨w1,hw1⟩:∃ w1,w.alloc (.cells #[.int .u8 o.kind,.int .u8 o.a,.int .u8 o.b,.int .u8 o.c,.string o.s,.string o.t,.int .i8 o.n,.int .i8 o.k] 39)=w1:=⟨_,rfl⟩
 have hb1:Below w.heap.size w w1:=eP hw1;have aU:Hid (Whole w1 w.heap.size #[.int .u8 o.kind,.int .u8 o.a,.int .u8 o.b,.int .u8 o.c,.string o.s,.string o.t,.int .i8 o.n,.int .i8 o.k] 39):=zh (by rw[←hw1];exact Whole.new w _ _);have HB1:=zh hb1;have H1:=zh (H.below hb1);have lJ:=zh ho;have iJ:=zh (hT.below hb1);have HLEN:=zh hlen;obtain⟨gh,oh,rfl,-,-,hcs,-⟩:=H.tw.row.cells (by omega);have qp:=zh (fun (W:World) (hb:Below w.heap.size w W) (j:Nat) (hj:j<m)=>(show W.cell? ⟨gh,oh+j,none⟩=some (.int .i64 (hof hs (j:Int))) from (H.tw.row.below hb).cellAt j _ (by omega) (aY (H.aW hj))));have jh:=zh (fun (W:World) (hb:Below w.heap.size w W)=>(show CQ T B M gh oh m ch W from by have h:=H.tw.below hb;rw[hlen] at h;exact⟨h.var.cell 0,h.var.cell 1,h.var.cell 2⟩));have vY:=zh (fun (W:World) (hb:Below w.heap.size w W)=>H.mv.below hb);obtain⟨t0,t1,t2⟩:=jh.out w1 hb1;have x0:w1.cell? ⟨w.heap.size,0,none⟩=some (.int .u8 o.kind):=aU.out.cell 0;have x1:w1.cell? ⟨w.heap.size,1,none⟩=some (.int .u8 o.a):=aU.out.cell 1;have x2:w1.cell? ⟨w.heap.size,2,none⟩=some (.int .u8 o.b):=aU.out.cell 2;have x3:w1.cell? ⟨w.heap.size,3,none⟩=some (.int .u8 o.c):=aU.out.cell 3;have x4:w1.cell? ⟨w.heap.size,4,none⟩=some (.string o.s):=aU.out.cell 4;have x5:w1.cell? ⟨w.heap.size,5,none⟩=some (.string o.t):=aU.out.cell 5;have x6:w1.cell? ⟨w.heap.size,6,none⟩=some (.int .i8 o.n):=aU.out.cell 6;have x7:w1.cell? ⟨w.heap.size,7,none⟩=some (.int .i8 o.k):=aU.out.cell 7;obtain⟨En,Eo⟩:=ho.a;obtain⟨Ep,Er⟩:=ho.b;obtain⟨Es,Et⟩:=ho.c;obtain⟨Eu,Ev⟩:=ho.kind;have dx:=zh (fun (W:World) (hb:Below w.heap.size w W) (j:Nat) (hj:j<m)=>bW bM M m aT f j W (H.mv.below hb) hj (by omega));clear H ho hb1 hT hcs
 go_enter Tryz.func13,Tryz.ntmps13
 go_wp2_with fail;(try rw[hw1]);try go_wp2_with fail
 go_quiet (fail)
 obtain⟨V,hV⟩:∃ V,w1.drewN nq=V:=⟨_,rfl⟩
 have dH:Below w1.heap.size w1 V:=CS hV;have bZ:=zh (HB1.out.trans (dH.mono HB1.out.size));have bV:=zh (aU.out.below dH aU.out.lt);have HV:=zh (H1.out.below dH);have qw:=zh (iJ.out.below dH);obtain⟨t0',t1',t2'⟩:=jh.out V bZ.out;have z0:V.cell? ⟨w.heap.size,0,none⟩=some (.int .u8 o.kind):=bV.out.cell 0;have z4:V.cell? ⟨w.heap.size,4,none⟩=some (.string o.s):=bV.out.cell 4;have z5:V.cell? ⟨w.heap.size,5,none⟩=some (.string o.t):=bV.out.cell 5;have z6:V.cell? ⟨w.heap.size,6,none⟩=some (.int .i8 o.n):=bV.out.cell 6;have z7:V.cell? ⟨w.heap.size,7,none⟩=some (.int .i8 o.k):=bV.out.cell 7;clear t0 t1 t2 x0 x1 x2 x3 x4 x5 x6 x7 dH;(try rw[hV]);go_wp2_with fail;refine (dx.out V bZ.out ia aK).mono ?_;rintro e w2 ⟨rfl,hw2⟩;rw[hw2];clear dx hw2;go_wp2_with fail;obtain⟨h,hh⟩:∃ h,hof hs (ia:Int)=h:=⟨_,rfl⟩
 obtain⟨V2,hV2⟩:∃ x,V.drew=x:=⟨_,rfl⟩
 have bA:Below V.heap.size V V2:=mJ hV2;have rJ:=zh (bZ.out.trans (bA.mono bZ.out.size));have HW2:=zh (HV.out.below bA);have fE:=zh (bV.out.below bA bV.out.lt);have HL2:=zh (qw.out.below bA);have gW:=zh (show jg T B M gh oh m ch w.heap.size ia h o V2 from bG HW2.out.tw fE.out HLEN.out (by rw[←hh];exact HV.out.aW aK));have Ji:(0:Int)≤(ia:Int):=by omega
 have Jj:(ia:Int)<(m:Int):=by omega
 have Ph:=zh (show ∀ k,aB M aT m f k→¬ ((.slice (some ⟨gh,oh,none⟩) m ch):Value).ownBlock=some k from fun k hk hv=>(HW2.out.yA k (by rw[HLEN.out];exact hv)).2 hk);cases hg:(f ia).gone with
 | true=>
  obtain⟨e1,e2⟩:=HW2.out.kT aK hg;have HC:=zh (yO base B b s (hof hs 0) h live n (Tr.raw g av) fr vs vf V2 HW2.out.tv HW2.out.so (by rw[←hh];exact HW2.out.i64 aK) (by rw[←hh,e1];exact Tr.aV e2));clear e1 e2;refine wp_region_noPanic ?_;refine wp_region_held_drew (S:=jg T B M gh oh m ch w.heap.size ia h o) (by kernel_rfl) ?_ (fun hHeld=>?_)
  ·exact (by rw[hV2];exact gW.out)
  rw[hV2] at hHeld ⊢;refine bD [0,1,2,3,4,5,6,7,8,9,10] ?_;iterate 11 (refine dw ?_;try simp only[pS])
  refine bE ?_;refine bL 11 fun K hK=>?_;go_simp;refine HC.out.mono ?_;rintro e w3 ⟨rfl,hb3⟩;have gL:=zh (HW2.out.below hb3).up;have iG:=zh (show jg T B M gh oh m ch w.heap.size ia h o w3 from bG gL.out.tw (fE.out.below hb3 fE.out.lt) HLEN.out (by rw[←hh];exact HV.out.aW aK));clear hb3;refine hK.out _ _ (iG.out) fun hHeld=>?_;clear hK K;(try simp only[pS]);refine bD [12] ?_
  (refine dw ?_;try simp only[pS])
  refine bE ?_;refine fB ?_;have RN:=zh (show nV w3 T B M (.slice (some ⟨gh,oh,none⟩) m ch) hs by have:=gL.out.tw;rw[HLEN.out] at this;exact this);have Va:=zh (show ∀ k,aB M aT m f k→¬ ((.slice (some ⟨gh,oh,none⟩) m ch):Value).ownBlock=some k from Ph.out);go_wp2_with fail
  go_loopw [40] (fun u wr=>∃ j:Nat,u=.int .i64 (j:Int)∧j≤m∧Hid (HJ w3 T B M (.slice (some ⟨gh,oh,none⟩) m ch) m f hs j wr)) (fun u _=>m - (intOf u).toNat)
  case atStart=>exact⟨0,rfl,Nat.zero_le _,zh (HJ.start RN.out HLEN.out)⟩
  case round=>
   obtain⟨j,rfl,hj,rA⟩:=hrel;by_cases hjm:j<m
   ·have y0:(0:Int)≤(j:Int):=by omega
    have y1:(j:Int)<(m:Int):=by omega
    have t1w:wr.cell? ⟨T,1,none⟩=some (.pointer (some ⟨M,0,none⟩)):=rA.out.var.cell 1;have t2w:wr.cell? ⟨T,2,none⟩=some (.slice (some ⟨gh,oh,none⟩) m ch):=rA.out.var.cell 2;have QK:=zh (bW bM M m aT f j wr ((gL.out.mv).turns rA.out.turns Va.out) hjm (by omega));obtain⟨xj,hxj⟩:∃ x,(hsJ f hs j)[j]?=some x:=⟨(hsJ f hs j)[j]'(by rw[qx,HLEN.out];exact hjm),by simp⟩
    have cj:wr.cell? ⟨gh,oh+j,none⟩=some (.int .i64 xj):=rA.out.row.cellAt j _ (by omega) (aY hxj);have fj:=rA.out.row.frozen (oh+j);clear hxj;go_wp2_with fail;refine QK.out.mono ?_;rintro e w6 ⟨rfl,kQ⟩;rw[kQ];clear QK kQ;cases hgj:(f j).gone with
    | true=>
     have HN:=zh (rA.out.set hjm hgj);clear hgj;go_wp2_with fail
     go_roundw
     case rel=>exact⟨j+1,by go_num,by omega,HN⟩
     case measure=>simp[intOf];omega
    | false=>
     have HN:=zh (rA.out.keep hgj);clear hgj;go_wp2_with fail
     go_roundw
     case rel=>exact⟨j+1,by go_num,by omega,HN⟩
     case measure=>simp[intOf];omega
   ·have y1:¬ (j:Int)<(m:Int):=by omega
    have AB:j=m:=by omega
    have QL:=zh (show HJ w3 T B M (.slice (some ⟨gh,oh,none⟩) m ch) m f hs m wr by have:=rA.out;rw[AB] at this;exact this);clear AB;have bf:=zh (gL.out.handles (by rw[HLEN.out];have:=QL.out.done HLEN.out;rw[yP m (fun i hi hg=>gL.out.gn i hi hg)] at this;exact this) (by rw[HLEN.out];exact QL.out.turns));go_wp2_with fail;go_ret2
    first | exact⟨_,[],_,_,_,_,_,_,_,_,_,_,_,_,rfl,bf.out⟩ | exact⟨⟨_,rfl⟩,_,_,_,_,_,_,_,_,_,_,_,_,bf.out⟩ | exact⟨⟨_,rfl⟩,[],_,_,_,_,_,_,_,_,_,_,_,_,bf.out⟩ | exact⟨[],_,_,_,_,_,_,_,_,_,_,_,_,bf.out⟩ | exact⟨[],_,_,_,_,_,_,_,_,_,_,_,_,rfl,bf.out⟩ | exact⟨rfl,_,[],_,_,_,_,_,_,_,_,_,_,_,_,bf.out⟩
 | false=>
  have eg:g h=some (Tr.fA (hof hs) (jX (f ia))):=by rw[←hh];exact HW2.out.eY aK hg
  have hkk:(f ia).kind≠0:=HW2.out.kinds h _ eg;by_cases hst:ia=0∨∃ p:Nat,(f ia).pa=(p:Int)
  ·have HC:=zh (EK base B b s (hof hs 0) h live n g av fr vs vf _ V2 HW2.out.tv HW2.out.so eg hkk (by
    rcases hst with e | ⟨p,e⟩
    ·refine .inl ?_;show (f ia).kind=1;rw[e];exact HW2.out.km.1
    ·refine .inr ?_;show hof hs (f ia).pa≠0;rcases HW2.out.im.pa _ _ (aQ aK hg) with e1 | e1
     ·exact absurd (show (f ia).pa = -1 from e1) (by omega)
     ·exact HW2.out.im.nz _ e1))
   have HST:=zh hst;clear eg hkk hst;refine wp_region_noPanic ?_;refine wp_region_held_drew (S:=jg T B M gh oh m ch w.heap.size ia h o) (by kernel_rfl) ?_ (fun hHeld=>?_)
   ·exact (by rw[hV2];exact gW.out)
   rw[hV2] at hHeld ⊢;refine bD [0,1,2,3,4,5,6,7,8,9,10] ?_;iterate 11 (refine dw ?_;try simp only[pS])
   refine bE ?_;refine bL 11 fun K hK=>?_;go_simp;refine HC.out.mono ?_;rintro e w3 ⟨rfl,hb3⟩;have gL:=zh (HW2.out.below hb3).up;have iG:=zh (show jg T B M gh oh m ch w.heap.size ia h o w3 from bG gL.out.tw (fE.out.below hb3 fE.out.lt) HLEN.out (by rw[←hh];exact HV.out.aW aK));clear hb3;refine hK.out _ _ (iG.out) fun hHeld=>?_;clear hK K;(try simp only[pS]);refine bD [12] ?_
   (refine dw ?_;try simp only[pS])
   refine bE ?_;refine fB ?_;have HR:=zh (EL bM M m aT f ia w3 gL.out.mv aK HST.out);obtain⟨-,t13,-⟩:=iG.out;go_wp2_with fail;refine HR.out.mono ?_;rintro e w4 ⟨rfl,hw4⟩;rw[hw4];clear hw4;have RN:=zh (show nV w3 T B M (.slice (some ⟨gh,oh,none⟩) m ch) hs by have:=gL.out.tw;rw[HLEN.out] at this;exact this);have Va:=zh (show ∀ k,aB M aT m f k→¬ ((.slice (some ⟨gh,oh,none⟩) m ch):Value).ownBlock=some k from Ph.out);go_wp2_with fail
   go_loopw [40] (fun u wr=>∃ j:Nat,u=.int .i64 (j:Int)∧j≤m∧Hid (HJ w3 T B M (.slice (some ⟨gh,oh,none⟩) m ch) m f hs j wr)) (fun u _=>m - (intOf u).toNat)
   case atStart=>exact⟨0,rfl,Nat.zero_le _,zh (HJ.start RN.out HLEN.out)⟩
   case round=>
    obtain⟨j,rfl,hj,rA⟩:=hrel;by_cases hjm:j<m
    ·have y0:(0:Int)≤(j:Int):=by omega
     have y1:(j:Int)<(m:Int):=by omega
     have t1w:wr.cell? ⟨T,1,none⟩=some (.pointer (some ⟨M,0,none⟩)):=rA.out.var.cell 1;have t2w:wr.cell? ⟨T,2,none⟩=some (.slice (some ⟨gh,oh,none⟩) m ch):=rA.out.var.cell 2;have QK:=zh (bW bM M m aT f j wr ((gL.out.mv).turns rA.out.turns Va.out) hjm (by omega));obtain⟨xj,hxj⟩:∃ x,(hsJ f hs j)[j]?=some x:=⟨(hsJ f hs j)[j]'(by rw[qx,HLEN.out];exact hjm),by simp⟩
     have cj:wr.cell? ⟨gh,oh+j,none⟩=some (.int .i64 xj):=rA.out.row.cellAt j _ (by omega) (aY hxj);have fj:=rA.out.row.frozen (oh+j);clear hxj;go_wp2_with fail;refine QK.out.mono ?_;rintro e w6 ⟨rfl,kQ⟩;rw[kQ];clear QK kQ;cases hgj:(f j).gone with
     | true=>
      have HN:=zh (rA.out.set hjm hgj);clear hgj;go_wp2_with fail
      go_roundw
      case rel=>exact⟨j+1,by go_num,by omega,HN⟩
      case measure=>simp[intOf];omega
     | false=>
      have HN:=zh (rA.out.keep hgj);clear hgj;go_wp2_with fail
      go_roundw
      case rel=>exact⟨j+1,by go_num,by omega,HN⟩
      case measure=>simp[intOf];omega
    ·have y1:¬ (j:Int)<(m:Int):=by omega
     have AB:j=m:=by omega
     have QL:=zh (show HJ w3 T B M (.slice (some ⟨gh,oh,none⟩) m ch) m f hs m wr by have:=rA.out;rw[AB] at this;exact this);clear AB;have bf:=zh (gL.out.handles (by rw[HLEN.out];have:=QL.out.done HLEN.out;rw[yP m (fun i hi hg=>gL.out.gn i hi hg)] at this;exact this) (by rw[HLEN.out];exact QL.out.turns));have qm:=zh (dF T B M 0 0 _ (.slice none 0 0) (.slice none 0 0) _ [] wr bf.out.tw (World.ownsRow_nil _ _ _ _) (World.ownsRow_nil _ _ _ _) (by simp));go_wp2_with fail;refine qm.out.mono ?_;rintro e w7 ⟨rfl,lK⟩;have Yj:=zh (bf.out.below lK);clear lK;go_wp2_with fail;go_ret2;exact⟨_,[],_,_,_,_,_,_,_,_,_,_,_,_,rfl,Yj.out⟩
  ·have h0:ia≠0:=fun e=>hst (.inl e);have hpa:(f ia).pa = -1:=by
    rcases HW2.out.im.pa _ _ (aQ aK hg) with e1 | e1
    ·exact e1
    ·obtain⟨p,e2,_⟩:=jA e1;exact absurd (.inr ⟨p,e2⟩) hst
   have hk1:(f ia).kind≠1:=by rcases HW2.out.km.2 ia aK h0 with e | e | e<;>omega
   have HC:=zh (Mx base B b s (hof hs 0) h live n g av fr vs vf _ V2 HW2.out.tv HW2.out.so HW2.out.wf (by have:=HW2.out.tv.low;have:=HW2.out.tv.var.lt;omega) eg hkk hk1 (by show hof hs (f ia).pa=0;rw[hpa];exact HW2.out.im.zero) (by have:=HW2.out.im.EM HW2.out.wf aK hg;rw[hh] at this;omega));have H0:=zh (And.intro h0 hpa);clear eg hkk hst h0 hpa hk1;refine wp_region_noPanic ?_;refine wp_region_held_drew (S:=jg T B M gh oh m ch w.heap.size ia h o) (by kernel_rfl) ?_ (fun hHeld=>?_)
   ·exact (by rw[hV2];exact gW.out)
   rw[hV2] at hHeld ⊢;refine bD [0,1,2,3,4,5,6,7,8,9,10] ?_;iterate 11 (refine dw ?_;try simp only[pS])
   refine bE ?_;refine bL 11 fun K hK=>?_;go_simp;refine HC.out.mono ?_;rintro e w3 ⟨vs3,vf3,fr3,L3,rfl,hv3,hs3,gy⟩;obtain⟨a1,a2,-,-,-⟩:=HW2.out.after gy;have dW:=zh (fE.out.turns gy.1 (HW2.out.tv.aJ fE.out (by decide) (by decide) (by decide)));have iG:=zh (show jg T B M gh oh m ch w.heap.size ia h o w3 from bG a1 dW.out HLEN.out (by rw[←hh];exact HV.out.aW aK));have HT3:=zh (And.intro a1 a2);have uj:=zh (And.intro hv3 (And.intro hs3 gy));clear a1 a2 hv3 hs3 gy;refine hK.out _ _ (iG.out) fun hHeld=>?_;clear hK K;(try simp only[pS]);refine bD [12] ?_
   (refine dw ?_;try simp only[pS])
   refine bE ?_;refine fB ?_;have HR:=zh (MB bM M m aT f ia w3 HT3.out.2 (HW2.out.im.pull HW2.out.wf) aK hg (by omega) H0.out.1 H0.out.2);obtain⟨-,t13,-⟩:=iG.out;go_wp2_with fail;refine HR.out.mono ?_;rintro e w4 ⟨rfl,nZ,dM⟩;have RO:=zh nZ;have Yk:=zh dM;obtain⟨f',hf'⟩:∃ f',iQ f (Tr.au (mg m f) (ia:Int))=f':=⟨_,rfl⟩
   have HF':=zh hf';rw[hf'] at RO;have Ph:=zh (show ∀ k,aB M aT m f' k→¬ ((.slice (some ⟨gh,oh,none⟩) m ch):Value).ownBlock=some k from fun k hk hv=>(HW2.out.yA k (by rw[HLEN.out];exact hv)).2 (by rw[←hf',nI] at hk;exact hk));have EN:=zh (show nV w4 T B M (.slice (some ⟨gh,oh,none⟩) hs.length ch) hs from⟨HT3.out.1.var.turns dM.1 HW2.out.Jk.2,HT3.out.1.row.turns dM.1 fun k hk=>(HW2.out.yA k hk).2⟩);clear nZ dM hf' ;have RN:=zh (show nV w4 T B M (.slice (some ⟨gh,oh,none⟩) m ch) hs by have:=EN.out;rw[HLEN.out] at this;exact this);have Va:=zh (show ∀ k,aB M aT m f' k→¬ ((.slice (some ⟨gh,oh,none⟩) m ch):Value).ownBlock=some k from Ph.out);go_wp2_with fail
   go_loopw [40] (fun u wr=>∃ j:Nat,u=.int .i64 (j:Int)∧j≤m∧Hid (HJ w4 T B M (.slice (some ⟨gh,oh,none⟩) m ch) m f' hs j wr)) (fun u _=>m - (intOf u).toNat)
   case atStart=>exact⟨0,rfl,Nat.zero_le _,zh (HJ.start RN.out HLEN.out)⟩
   case round=>
    obtain⟨j,rfl,hj,rA⟩:=hrel;by_cases hjm:j<m
    ·have y0:(0:Int)≤(j:Int):=by omega
     have y1:(j:Int)<(m:Int):=by omega
     have t1w:wr.cell? ⟨T,1,none⟩=some (.pointer (some ⟨M,0,none⟩)):=rA.out.var.cell 1;have t2w:wr.cell? ⟨T,2,none⟩=some (.slice (some ⟨gh,oh,none⟩) m ch):=rA.out.var.cell 2;have QK:=zh (bW bM M m aT f' j wr ((RO.out).turns rA.out.turns Va.out) hjm (by omega));obtain⟨xj,hxj⟩:∃ x,(hsJ f' hs j)[j]?=some x:=⟨(hsJ f' hs j)[j]'(by rw[qx,HLEN.out];exact hjm),by simp⟩
     have cj:wr.cell? ⟨gh,oh+j,none⟩=some (.int .i64 xj):=rA.out.row.cellAt j _ (by omega) (aY hxj);have fj:=rA.out.row.frozen (oh+j);clear hxj;go_wp2_with fail;refine QK.out.mono ?_;rintro e w6 ⟨rfl,kQ⟩;rw[kQ];clear QK kQ;cases hgj:(f' j).gone with
     | true=>
      have HN:=zh (rA.out.set hjm hgj);clear hgj;go_wp2_with fail
      go_roundw
      case rel=>exact⟨j+1,by go_num,by omega,HN⟩
      case measure=>simp[intOf];omega
     | false=>
      have HN:=zh (rA.out.keep hgj);clear hgj;go_wp2_with fail
      go_roundw
      case rel=>exact⟨j+1,by go_num,by omega,HN⟩
      case measure=>simp[intOf];omega
    ·have y1:¬ (j:Int)<(m:Int):=by omega
     have AB:j=m:=by omega
     have QL:=zh (show HJ w4 T B M (.slice (some ⟨gh,oh,none⟩) m ch) m f' hs m wr by have:=rA.out;rw[AB] at this;exact this);clear AB;have bf:=zh (HW2.out.dropped (w5:=wr) aK hg H0.out.1 H0.out.2 (by rw[hh];exact uj.out.1) (by rw[hh];exact uj.out.2.1) uj.out.2.2 (by rw[HF'.out];exact RO.out) Yk.out (by rw[HF'.out,HLEN.out];exact QL.out.done HLEN.out) (by rw[HLEN.out];exact QL.out.turns));have qm:=zh (dF T B M 0 0 _ (.slice none 0 0) (.slice none 0 0) _ [] wr bf.out.tw (World.ownsRow_nil _ _ _ _) (World.ownsRow_nil _ _ _ _) (by simp));go_wp2_with fail;refine qm.out.mono ?_;rintro e w7 ⟨rfl,lK⟩;have Yj:=zh (bf.out.below lK);clear lK;go_wp2_with fail;go_ret2;exact⟨_,[],_,_,_,_,_,_,_,_,_,_,_,_,rfl,Yj.out⟩
end
end Go.Proofs.YtnbaadpgbcklaaaGreatDoor
