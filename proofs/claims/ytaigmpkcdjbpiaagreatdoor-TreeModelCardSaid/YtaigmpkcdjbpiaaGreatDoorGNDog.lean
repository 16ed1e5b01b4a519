/- Part of a proof about trees: NDog. -/
import Derived.BigQuiet
import Derived.Deep.RegionHeld3
import Derived.Test.YtaigmpkcdjbpiaaGreatDoorGNDob
set_option linter.unusedVariables false
set_option linter.unusedSimpArgs false
set_option linter.unusedSectionVars false
set_option maxHeartbeats 8000000
set_option maxRecDepth 100000
namespace Go.Proofs.YtaigmpkcdjbpiaaGreatDoor
section
open Go.RowKit
variable [Kep]
theorem do_drop (base bM T B M:Nat) (b s:Int) (vs vf vsM vh:Value) (n live m:Nat) (fr:List Nat) (av:Int→Tr.Sl) (f:Nat→RS) (hs:List Int) (g:Tr.G) (K:Nat) (o:Op8) (w:World) (H:TW w base bM T B M b s vs vf vsM vh n live m fr av f hs g K) (ho:OpOK o) (hkd:o.kind.tmod 10=9) (hm:m≤300) (hK:K≤60) (hT:Lit w):
  Calls Tryz.prog 13 #[.pointer (some ⟨T,0,none⟩),.agg #[.int .u8 o.kind,.int .u8 o.a,.int .u8 o.b,.int .u8 o.c,.string o.s,.string o.t,.int .i8 o.n,.int .i8 o.k]] w fun e w'=>∃ (lv:Value) (lp:List Tr.Rec) (vs' vf' vsM' vh':Value) (n' live' m':Nat) (fr':List Nat) (av':Int→Tr.Sl) (f':Nat→RS) (hs':List Int) (g':Tr.G),e=.returned (.tuple #[lv,.bool true])∧TW w' base bM T B M b s vs' vf' vsM' vh' n' live' m' fr' av' f' hs' g' (K+1):=by
 obtain⟨ia,hia,hial⟩:=tmod_nat ho.a.1 H.m0;obtain⟨ib,hib,hibl⟩:=tmod_nat ho.b.1 H.m0;obtain⟨ic,hic,hicl⟩:=tmod_nat (m:=m+1) ho.c.1 (by omega);rw[Int.natCast_add] at hic;obtain⟨Ah,ch,rfl⟩:=H.tw.row.form;have hlen:=H.len;have hm0:=H.m0;have mz:((m:Int) == 0)=false:=by simp;omega
 have mz1:((m:Int)+1 == 0)=false:=by simp;omega
 have mz2:¬ (m:Int)=0:=by omega
 have mz3:¬ (m:Int)+1=0:=by omega
 obtain⟨w1,hw1⟩:∃ w1,w.alloc (.cells #[.int .u8 o.kind,.int .u8 o.a,.int .u8 o.b,.int .u8 o.c,.string o.s,.string o.t,.int .i8 o.n,.int .i8 o.k] 39)=w1:=⟨_,rfl⟩
 have hb1:Below w.heap.size w w1:=bzA hw1;have HX1:Hid (Whole w1 w.heap.size #[.int .u8 o.kind,.int .u8 o.a,.int .u8 o.b,.int .u8 o.c,.string o.s,.string o.t,.int .i8 o.n,.int .i8 o.k] 39):=zh (by rw[←hw1];exact Whole.new w _ _);have HB1:=zh hb1;have H1:=zh (H.below hb1);have HOK:=zh ho;have HLIT:=zh (hT.below hb1);have HLEN:=zh hlen;obtain⟨gh,oh,rfl,-,-,hcs,-⟩:=H.tw.row.cells (by omega);have HCH:=zh (fun (W:World) (hb:Below w.heap.size w W) (j:Nat) (hj:j<m)=>(show W.cell? ⟨gh,oh+j,none⟩=some (.int .i64 (hof hs (j:Int))) from (H.tw.row.below hb).cellAt j _ (by omega) (ints_get (H.at_hs hj))));have HTC:=zh (fun (W:World) (hb:Below w.heap.size w W)=>(show zL3 T B M gh oh m ch W from by have h:=H.tw.below hb;rw[hlen] at h;exact⟨h.var.cell 0,h.var.cell 1,h.var.cell 2⟩));have HMV:=zh (fun (W:World) (hb:Below w.heap.size w W)=>H.mv.below hb);obtain⟨t0,t1,t2⟩:=HTC.out w1 hb1;have x0:w1.cell? ⟨w.heap.size,0,none⟩=some (.int .u8 o.kind):=HX1.out.cell 0;have x1:w1.cell? ⟨w.heap.size,1,none⟩=some (.int .u8 o.a):=HX1.out.cell 1;have x2:w1.cell? ⟨w.heap.size,2,none⟩=some (.int .u8 o.b):=HX1.out.cell 2;have x3:w1.cell? ⟨w.heap.size,3,none⟩=some (.int .u8 o.c):=HX1.out.cell 3;have x4:w1.cell? ⟨w.heap.size,4,none⟩=some (.string o.s):=HX1.out.cell 4;have x5:w1.cell? ⟨w.heap.size,5,none⟩=some (.string o.t):=HX1.out.cell 5;have x6:w1.cell? ⟨w.heap.size,6,none⟩=some (.int .i8 o.n):=HX1.out.cell 6;have x7:w1.cell? ⟨w.heap.size,7,none⟩=some (.int .i8 o.k):=HX1.out.cell 7;obtain⟨ka0,ka1⟩:=ho.a;obtain⟨kb0,kb1⟩:=ho.b;obtain⟨kc0,kc1⟩:=ho.c;obtain⟨kk0,kk1⟩:=ho.kind;have HHAS:=zh (fun (W:World) (hb:Below w.heap.size w W) (j:Nat) (hj:j<m)=>rhas_any bM M m vsM f j W (H.mv.below hb) hj (by omega));clear H ho hb1 hT hcs
 go_enter Tryz.func13,Tryz.ntmps13
 go_wp2_with fail;(try rw[hw1]);try go_wp2_with fail
 go_quiet (fail)
 obtain⟨V,hV⟩:∃ V,w1.drewN nq=V:=⟨_,rfl⟩
 have hbV:Below w1.heap.size w1 V:=bzN hV;have HBV:=zh (HB1.out.trans (hbV.mono HB1.out.size));have HXV:=zh (HX1.out.below hbV HX1.out.lt);have HV:=zh (H1.out.below hbV);have HLV:=zh (HLIT.out.below hbV);obtain⟨t0',t1',t2'⟩:=HTC.out V HBV.out;have z0:V.cell? ⟨w.heap.size,0,none⟩=some (.int .u8 o.kind):=HXV.out.cell 0;have z4:V.cell? ⟨w.heap.size,4,none⟩=some (.string o.s):=HXV.out.cell 4;have z5:V.cell? ⟨w.heap.size,5,none⟩=some (.string o.t):=HXV.out.cell 5;have z6:V.cell? ⟨w.heap.size,6,none⟩=some (.int .i8 o.n):=HXV.out.cell 6;have z7:V.cell? ⟨w.heap.size,7,none⟩=some (.int .i8 o.k):=HXV.out.cell 7;clear t0 t1 t2 x0 x1 x2 x3 x4 x5 x6 x7 hbV;(try rw[hV]);go_wp2_with fail;refine (HHAS.out V HBV.out ia hial).mono ?_;rintro e w2 ⟨rfl,hw2⟩;rw[hw2];clear HHAS hw2;go_wp2_with fail;obtain⟨h,hh⟩:∃ h,hof hs (ia:Int)=h:=⟨_,rfl⟩
 obtain⟨V2,hV2⟩:∃ x,V.drew=x:=⟨_,rfl⟩
 have hbV2:Below V.heap.size V V2:=bzD hV2;have HBV2:=zh (HBV.out.trans (hbV2.mono HBV.out.size));have HW2:=zh (HV.out.below hbV2);have HX2:=zh (HXV.out.below hbV2 HXV.out.lt);have HL2:=zh (HLV.out.below hbV2);have HSS:=zh (show zL8 T B M gh oh m ch w.heap.size ia h o V2 from tws_all HW2.out.tw HX2.out HLEN.out (by rw[←hh];exact HV.out.at_hs hial));have ja0:(0:Int)≤(ia:Int):=by omega
 have ja1:(ia:Int)<(m:Int):=by omega
 have HAPM:=zh (show ∀ k,MFoot M vsM m f k→¬ ((.slice (some ⟨gh,oh,none⟩) m ch):Value).ownBlock=some k from fun k hk hv=>(HW2.out.apH k (by rw[HLEN.out];exact hv)).2 hk);cases hg:(f ia).gone with
 | true=>
  obtain⟨e1,e2⟩:=HW2.out.gone_h hial hg;have HC:=zh (pdrop_none base B b s (hof hs 0) h live n (Tr.raw g av) fr vs vf V2 HW2.out.tv HW2.out.so (by rw[←hh];exact HW2.out.i64 hial) (by rw[←hh,e1];exact Tr.raw_none e2));clear e1 e2;refine wp_region_noPanic ?_;refine wp_region_held_drew (S:=zL8 T B M gh oh m ch w.heap.size ia h o) (by kernel_rfl) ?_ (fun hHeld=>?_)
  ·exact (by rw[hV2];exact HSS.out)
  rw[hV2] at hHeld ⊢;refine agE [0,1,2,3,4,5,6,7,8,9,10] ?_;iterate 11 (refine tkM ?_;try simp only[pS])
  refine agN ?_;refine rd1 11 fun K hK=>?_;go_simp;refine HC.out.mono ?_;rintro e w3 ⟨rfl,hb3⟩;have HW4:=zh (HW2.out.below hb3).up;have HS3:=zh (show zL8 T B M gh oh m ch w.heap.size ia h o w3 from tws_all HW4.out.tw (HX2.out.below hb3 HX2.out.lt) HLEN.out (by rw[←hh];exact HV.out.at_hs hial));clear hb3;refine hK.out _ _ (HS3.out) fun hHeld=>?_;clear hK K;(try simp only[pS]);refine agE [12] ?_
  (refine tkM ?_;try simp only[pS])
  refine agN ?_;refine dnH ?_;have HTW:=zh (show TwV w3 T B M (.slice (some ⟨gh,oh,none⟩) m ch) hs by have:=HW4.out.tw;rw[HLEN.out] at this;exact this);have HAP:=zh (show ∀ k,MFoot M vsM m f k→¬ ((.slice (some ⟨gh,oh,none⟩) m ch):Value).ownBlock=some k from HAPM.out);go_wp2_with fail
  go_loopw [40] (fun u wr=>∃ j:Nat,u=.int .i64 (j:Int)∧j≤m∧Hid (HJ w3 T B M (.slice (some ⟨gh,oh,none⟩) m ch) m f hs j wr)) (fun u _=>m - (intOf u).toNat)
  case atStart=>exact⟨0,rfl,Nat.zero_le _,zh (HJ.start HTW.out HLEN.out)⟩
  case round=>
   obtain⟨j,rfl,hj,HJ1⟩:=hrel;by_cases hjm:j<m
   ·have y0:(0:Int)≤(j:Int):=by omega
    have y1:(j:Int)<(m:Int):=by omega
    have t1w:wr.cell? ⟨T,1,none⟩=some (.pointer (some ⟨M,0,none⟩)):=HJ1.out.var.cell 1;have t2w:wr.cell? ⟨T,2,none⟩=some (.slice (some ⟨gh,oh,none⟩) m ch):=HJ1.out.var.cell 2;have HHS:=zh (rhas_any bM M m vsM f j wr ((HW4.out.mv).turns HJ1.out.turns HAP.out) hjm (by omega));obtain⟨xj,hxj⟩:∃ x,(hsJ f hs j)[j]?=some x:=⟨(hsJ f hs j)[j]'(by rw[hsJ_len,HLEN.out];exact hjm),by simp⟩
    have cj:wr.cell? ⟨gh,oh+j,none⟩=some (.int .i64 xj):=HJ1.out.row.cellAt j _ (by omega) (ints_get hxj);have fj:=HJ1.out.row.frozen (oh+j);clear hxj;go_wp2_with fail;refine HHS.out.mono ?_;rintro e w6 ⟨rfl,hw6⟩;rw[hw6];clear HHS hw6;cases hgj:(f j).gone with
    | true=>
     have HN:=zh (HJ1.out.set hjm hgj);clear hgj;go_wp2_with fail
     go_roundw
     case rel=>exact⟨j+1,by go_num,by omega,HN⟩
     case measure=>simp[intOf];omega
    | false=>
     have HN:=zh (HJ1.out.keep hgj);clear hgj;go_wp2_with fail
     go_roundw
     case rel=>exact⟨j+1,by go_num,by omega,HN⟩
     case measure=>simp[intOf];omega
   ·have y1:¬ (j:Int)<(m:Int):=by omega
    have hjm':j=m:=by omega
    have HJD:=zh (show HJ w3 T B M (.slice (some ⟨gh,oh,none⟩) m ch) m f hs m wr by have:=HJ1.out;rw[hjm'] at this;exact this);clear hjm';have HFIN:=zh (HW4.out.handles (by rw[HLEN.out];have:=HJD.out.done HLEN.out;rw[hsJ_same m (fun i hi hg=>HW4.out.gn i hi hg)] at this;exact this) (by rw[HLEN.out];exact HJD.out.turns));go_wp2_with fail;go_ret2
    first | exact⟨_,[],_,_,_,_,_,_,_,_,_,_,_,_,rfl,HFIN.out⟩ | exact⟨⟨_,rfl⟩,_,_,_,_,_,_,_,_,_,_,_,_,HFIN.out⟩ | exact⟨⟨_,rfl⟩,[],_,_,_,_,_,_,_,_,_,_,_,_,HFIN.out⟩ | exact⟨[],_,_,_,_,_,_,_,_,_,_,_,_,HFIN.out⟩ | exact⟨[],_,_,_,_,_,_,_,_,_,_,_,_,rfl,HFIN.out⟩ | exact⟨rfl,_,[],_,_,_,_,_,_,_,_,_,_,_,_,HFIN.out⟩
 | false=>
  have eg:g h=some (Tr.mapG (hof hs) (rsG (f ia))):=by rw[←hh];exact HW2.out.live_h hial hg
  have hkk:(f ia).kind≠0:=HW2.out.kinds h _ eg;by_cases hst:ia=0∨∃ p:Nat,(f ia).pa=(p:Int)
  ·have HC:=zh (pdrop_state base B b s (hof hs 0) h live n g av fr vs vf _ V2 HW2.out.tv HW2.out.so eg hkk (by
    rcases hst with e | ⟨p,e⟩
    ·refine .inl ?_;show (f ia).kind=1;rw[e];exact HW2.out.km.1
    ·refine .inr ?_;show hof hs (f ia).pa≠0;rcases HW2.out.im.pa _ _ (mg_at hial hg) with e1 | e1
     ·exact absurd (show (f ia).pa = -1 from e1) (by omega)
     ·exact HW2.out.im.nz _ e1))
   have HST:=zh hst;clear eg hkk hst;refine wp_region_noPanic ?_;refine wp_region_held_drew (S:=zL8 T B M gh oh m ch w.heap.size ia h o) (by kernel_rfl) ?_ (fun hHeld=>?_)
   ·exact (by rw[hV2];exact HSS.out)
   rw[hV2] at hHeld ⊢;refine agE [0,1,2,3,4,5,6,7,8,9,10] ?_;iterate 11 (refine tkM ?_;try simp only[pS])
   refine agN ?_;refine rd1 11 fun K hK=>?_;go_simp;refine HC.out.mono ?_;rintro e w3 ⟨rfl,hb3⟩;have HW4:=zh (HW2.out.below hb3).up;have HS3:=zh (show zL8 T B M gh oh m ch w.heap.size ia h o w3 from tws_all HW4.out.tw (HX2.out.below hb3 HX2.out.lt) HLEN.out (by rw[←hh];exact HV.out.at_hs hial));clear hb3;refine hK.out _ _ (HS3.out) fun hHeld=>?_;clear hK K;(try simp only[pS]);refine agE [12] ?_
   (refine tkM ?_;try simp only[pS])
   refine agN ?_;refine dnH ?_;have HR:=zh (rdrop_state bM M m vsM f ia w3 HW4.out.mv hial HST.out);obtain⟨-,t13,-⟩:=HS3.out;go_wp2_with fail;refine HR.out.mono ?_;rintro e w4 ⟨rfl,hw4⟩;rw[hw4];clear hw4;have HTW:=zh (show TwV w3 T B M (.slice (some ⟨gh,oh,none⟩) m ch) hs by have:=HW4.out.tw;rw[HLEN.out] at this;exact this);have HAP:=zh (show ∀ k,MFoot M vsM m f k→¬ ((.slice (some ⟨gh,oh,none⟩) m ch):Value).ownBlock=some k from HAPM.out);go_wp2_with fail
   go_loopw [40] (fun u wr=>∃ j:Nat,u=.int .i64 (j:Int)∧j≤m∧Hid (HJ w3 T B M (.slice (some ⟨gh,oh,none⟩) m ch) m f hs j wr)) (fun u _=>m - (intOf u).toNat)
   case atStart=>exact⟨0,rfl,Nat.zero_le _,zh (HJ.start HTW.out HLEN.out)⟩
   case round=>
    obtain⟨j,rfl,hj,HJ1⟩:=hrel;by_cases hjm:j<m
    ·have y0:(0:Int)≤(j:Int):=by omega
     have y1:(j:Int)<(m:Int):=by omega
     have t1w:wr.cell? ⟨T,1,none⟩=some (.pointer (some ⟨M,0,none⟩)):=HJ1.out.var.cell 1;have t2w:wr.cell? ⟨T,2,none⟩=some (.slice (some ⟨gh,oh,none⟩) m ch):=HJ1.out.var.cell 2;have HHS:=zh (rhas_any bM M m vsM f j wr ((HW4.out.mv).turns HJ1.out.turns HAP.out) hjm (by omega));obtain⟨xj,hxj⟩:∃ x,(hsJ f hs j)[j]?=some x:=⟨(hsJ f hs j)[j]'(by rw[hsJ_len,HLEN.out];exact hjm),by simp⟩
     have cj:wr.cell? ⟨gh,oh+j,none⟩=some (.int .i64 xj):=HJ1.out.row.cellAt j _ (by omega) (ints_get hxj);have fj:=HJ1.out.row.frozen (oh+j);clear hxj;go_wp2_with fail;refine HHS.out.mono ?_;rintro e w6 ⟨rfl,hw6⟩;rw[hw6];clear HHS hw6;cases hgj:(f j).gone with
     | true=>
      have HN:=zh (HJ1.out.set hjm hgj);clear hgj;go_wp2_with fail
      go_roundw
      case rel=>exact⟨j+1,by go_num,by omega,HN⟩
      case measure=>simp[intOf];omega
     | false=>
      have HN:=zh (HJ1.out.keep hgj);clear hgj;go_wp2_with fail
      go_roundw
      case rel=>exact⟨j+1,by go_num,by omega,HN⟩
      case measure=>simp[intOf];omega
    ·have y1:¬ (j:Int)<(m:Int):=by omega
     have hjm':j=m:=by omega
     have HJD:=zh (show HJ w3 T B M (.slice (some ⟨gh,oh,none⟩) m ch) m f hs m wr by have:=HJ1.out;rw[hjm'] at this;exact this);clear hjm';have HFIN:=zh (HW4.out.handles (by rw[HLEN.out];have:=HJD.out.done HLEN.out;rw[hsJ_same m (fun i hi hg=>HW4.out.gn i hi hg)] at this;exact this) (by rw[HLEN.out];exact HJD.out.turns));have HMT:=zh (match_any T B M 0 0 _ (.slice none 0 0) (.slice none 0 0) _ [] wr HFIN.out.tw (World.ownsRow_nil _ _ _ _) (World.ownsRow_nil _ _ _ _) (by simp));go_wp2_with fail;refine HMT.out.mono ?_;rintro e w7 ⟨rfl,hb7⟩;have HF2:=zh (HFIN.out.below hb7);clear hb7;go_wp2_with fail;go_ret2;exact⟨_,[],_,_,_,_,_,_,_,_,_,_,_,_,rfl,HF2.out⟩
  ·have h0:ia≠0:=fun e=>hst (.inl e);have hpa:(f ia).pa = -1:=by
    rcases HW2.out.im.pa _ _ (mg_at hial hg) with e1 | e1
    ·exact e1
    ·obtain⟨p,e2,_⟩:=mg_is e1;exact absurd (.inr ⟨p,e2⟩) hst
   have hk1:(f ia).kind≠1:=by rcases HW2.out.km.2 ia hial h0 with e | e | e<;>omega
   have HC:=zh (pdrop_ok base B b s (hof hs 0) h live n g av fr vs vf _ V2 HW2.out.tv HW2.out.so HW2.out.wf (by have:=HW2.out.tv.low;have:=HW2.out.tv.var.lt;omega) eg hkk hk1 (by show hof hs (f ia).pa=0;rw[hpa];exact HW2.out.im.zero) (by have:=HW2.out.im.walk_few HW2.out.wf hial hg;rw[hh] at this;omega));have H0:=zh (And.intro h0 hpa);clear eg hkk hst h0 hpa hk1;refine wp_region_noPanic ?_;refine wp_region_held_drew (S:=zL8 T B M gh oh m ch w.heap.size ia h o) (by kernel_rfl) ?_ (fun hHeld=>?_)
   ·exact (by rw[hV2];exact HSS.out)
   rw[hV2] at hHeld ⊢;refine agE [0,1,2,3,4,5,6,7,8,9,10] ?_;iterate 11 (refine tkM ?_;try simp only[pS])
   refine agN ?_;refine rd1 11 fun K hK=>?_;go_simp;refine HC.out.mono ?_;rintro e w3 ⟨vs3,vf3,fr3,L3,rfl,hv3,hs3,st3⟩;obtain⟨a1,a2,-,-,-⟩:=HW2.out.after st3;have HX3:=zh (HX2.out.turns st3.1 (HW2.out.tv.not_foot HX2.out (by decide) (by decide) (by decide)));have HS3:=zh (show zL8 T B M gh oh m ch w.heap.size ia h o w3 from tws_all a1 HX3.out HLEN.out (by rw[←hh];exact HV.out.at_hs hial));have HT3:=zh (And.intro a1 a2);have HV3:=zh (And.intro hv3 (And.intro hs3 st3));clear a1 a2 hv3 hs3 st3;refine hK.out _ _ (HS3.out) fun hHeld=>?_;clear hK K;(try simp only[pS]);refine agE [12] ?_
   (refine tkM ?_;try simp only[pS])
   refine agN ?_;refine dnH ?_;have HR:=zh (rdrop_ok bM M m vsM f ia w3 HT3.out.2 (HW2.out.im.pull HW2.out.wf) hial hg (by omega) H0.out.1 H0.out.2);obtain⟨-,t13,-⟩:=HS3.out;go_wp2_with fail;refine HR.out.mono ?_;rintro e w4 ⟨rfl,hm4,st4⟩;have HM4:=zh hm4;have HST4:=zh st4;obtain⟨f',hf'⟩:∃ f',goneM f (Tr.walkG (mg m f) (ia:Int))=f':=⟨_,rfl⟩
   have HF':=zh hf';rw[hf'] at HM4;have HAPM:=zh (show ∀ k,MFoot M vsM m f' k→¬ ((.slice (some ⟨gh,oh,none⟩) m ch):Value).ownBlock=some k from fun k hk hv=>(HW2.out.apH k (by rw[HLEN.out];exact hv)).2 (by rw[←hf',goneM_foot] at hk;exact hk));have HT4:=zh (show TwV w4 T B M (.slice (some ⟨gh,oh,none⟩) hs.length ch) hs from⟨HT3.out.1.var.turns st4.1 HW2.out.apT.2,HT3.out.1.row.turns st4.1 fun k hk=>(HW2.out.apH k hk).2⟩);clear hm4 st4 hf' ;have HTW:=zh (show TwV w4 T B M (.slice (some ⟨gh,oh,none⟩) m ch) hs by have:=HT4.out;rw[HLEN.out] at this;exact this);have HAP:=zh (show ∀ k,MFoot M vsM m f' k→¬ ((.slice (some ⟨gh,oh,none⟩) m ch):Value).ownBlock=some k from HAPM.out);go_wp2_with fail
   go_loopw [40] (fun u wr=>∃ j:Nat,u=.int .i64 (j:Int)∧j≤m∧Hid (HJ w4 T B M (.slice (some ⟨gh,oh,none⟩) m ch) m f' hs j wr)) (fun u _=>m - (intOf u).toNat)
   case atStart=>exact⟨0,rfl,Nat.zero_le _,zh (HJ.start HTW.out HLEN.out)⟩
   case round=>
    obtain⟨j,rfl,hj,HJ1⟩:=hrel;by_cases hjm:j<m
    ·have y0:(0:Int)≤(j:Int):=by omega
     have y1:(j:Int)<(m:Int):=by omega
     have t1w:wr.cell? ⟨T,1,none⟩=some (.pointer (some ⟨M,0,none⟩)):=HJ1.out.var.cell 1;have t2w:wr.cell? ⟨T,2,none⟩=some (.slice (some ⟨gh,oh,none⟩) m ch):=HJ1.out.var.cell 2;have HHS:=zh (rhas_any bM M m vsM f' j wr ((HM4.out).turns HJ1.out.turns HAP.out) hjm (by omega));obtain⟨xj,hxj⟩:∃ x,(hsJ f' hs j)[j]?=some x:=⟨(hsJ f' hs j)[j]'(by rw[hsJ_len,HLEN.out];exact hjm),by simp⟩
     have cj:wr.cell? ⟨gh,oh+j,none⟩=some (.int .i64 xj):=HJ1.out.row.cellAt j _ (by omega) (ints_get hxj);have fj:=HJ1.out.row.frozen (oh+j);clear hxj;go_wp2_with fail;refine HHS.out.mono ?_;rintro e w6 ⟨rfl,hw6⟩;rw[hw6];clear HHS hw6;cases hgj:(f' j).gone with
     | true=>
      have HN:=zh (HJ1.out.set hjm hgj);clear hgj;go_wp2_with fail
      go_roundw
      case rel=>exact⟨j+1,by go_num,by omega,HN⟩
      case measure=>simp[intOf];omega
     | false=>
      have HN:=zh (HJ1.out.keep hgj);clear hgj;go_wp2_with fail
      go_roundw
      case rel=>exact⟨j+1,by go_num,by omega,HN⟩
      case measure=>simp[intOf];omega
    ·have y1:¬ (j:Int)<(m:Int):=by omega
     have hjm':j=m:=by omega
     have HJD:=zh (show HJ w4 T B M (.slice (some ⟨gh,oh,none⟩) m ch) m f' hs m wr by have:=HJ1.out;rw[hjm'] at this;exact this);clear hjm';have HFIN:=zh (HW2.out.dropped (w5:=wr) hial hg H0.out.1 H0.out.2 (by rw[hh];exact HV3.out.1) (by rw[hh];exact HV3.out.2.1) HV3.out.2.2 (by rw[HF'.out];exact HM4.out) HST4.out (by rw[HF'.out,HLEN.out];exact HJD.out.done HLEN.out) (by rw[HLEN.out];exact HJD.out.turns));have HMT:=zh (match_any T B M 0 0 _ (.slice none 0 0) (.slice none 0 0) _ [] wr HFIN.out.tw (World.ownsRow_nil _ _ _ _) (World.ownsRow_nil _ _ _ _) (by simp));go_wp2_with fail;refine HMT.out.mono ?_;rintro e w7 ⟨rfl,hb7⟩;have HF2:=zh (HFIN.out.below hb7);clear hb7;go_wp2_with fail;go_ret2;exact⟨_,[],_,_,_,_,_,_,_,_,_,_,_,_,rfl,HF2.out⟩
end
end Go.Proofs.YtaigmpkcdjbpiaaGreatDoor
