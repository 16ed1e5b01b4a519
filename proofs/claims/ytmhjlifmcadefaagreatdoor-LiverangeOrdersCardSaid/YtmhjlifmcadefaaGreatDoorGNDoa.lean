/- Part of a proof about trees. -/
import Derived.BigQuiet
import Derived.Deep.RegionHeld3
import Derived.Test.YtmhjlifmcadefaaGreatDoorGNMat
import Derived.Test.YtmhjlifmcadefaaGreatDoorS05
set_option linter.unusedVariables false
set_option linter.unusedSimpArgs false
set_option linter.unusedSectionVars false
set_option maxHeartbeats 8000000
set_option maxRecDepth 100000
namespace Go.Proofs.YtmhjlifmcadefaaGreatDoor
section
open Go.RowKit
variable [mQ]
structure pE (o:qp):Prop where
 kind:0≤o.kind∧o.kind<256
 a:0≤o.a∧o.a<256
 b:0≤o.b∧o.b<256
 c:0≤o.c∧o.c<256
 s:o.s.size≤40
 t:o.t.size≤40
 n : -128≤o.n∧o.n<128
 k : -128≤o.k∧o.k<128
theorem aR {x:Int} {m:Nat} (hx:0≤x) (hm:0<m):∃ i:Nat,x.tmod (m:Int)=(i:Int)∧i<m:=by
 obtain⟨k,rfl⟩:=Int.eq_ofNat_of_zero_le hx;refine⟨k % m,?_,Nat.mod_lt _ hm⟩;rw[Int.tmod_eq_emod_of_nonneg (by omega)];rfl
theorem zR {w:World} {T B M gh oh ch m ia:Nat} {hs:List Int} {h:Int} (H:oW w T B M (.slice (some ⟨gh,oh,none⟩) hs.length ch) hs) (hl:hs.length=m) (hi:hs[ia]?=some h):w.cell? ⟨T,0,none⟩=some (.pointer (some ⟨B,0,none⟩))∧w.cell? ⟨T,2,none⟩=some (.slice (some ⟨gh,oh,none⟩) m ch)∧w.cell? ⟨gh,oh+ia,none⟩=some (.int .i64 h)∧w.cell? ⟨T,1,none⟩=some (.pointer (some ⟨M,0,none⟩)):=by
 have hlt:=(List.getElem?_eq_some_iff.1 hi).1;rw[←hl];exact⟨H.var.cell 0,H.var.cell 2,H.row.cellAt ia _ (by omega) (eu hi),H.var.cell 1⟩
abbrev uL (base bM T B M:Nat) (b s:Int) (K:Nat) (o:qp) (w:World):Prop:=
  Calls Tryz.prog 16 #[.pointer (some ⟨T,0,none⟩),.agg #[.int .u8 o.kind,.int .u8 o.a,.int .u8 o.b,.int .u8 o.c,.string o.s,.string o.t,.int .i8 o.n,.int .i8 o.k]] w fun e w'=>∃ (lv:Value) (lp:List Tr.Rec) (vs' dw dP lV:Value) (n' aY m':Nat) (fr':List Nat) (iK:Int→Tr.Sl) (f':Nat→RS) (hs':List Int) (g':Tr.G),e=.returned (.tuple #[lv,.bool true])∧TW w' base bM T B M b s vs' dw dP lV n' aY m' fr' iK f' hs' g' (K+1)
theorem iB {base bM T B M:Nat} {b s:Int} {vs vf aP vh:Value} {n live m:Nat} {fr:List Nat} {av:Int→Tr.Sl} {f:Nat→RS} {hs:List Int} {g:Tr.G} {K:Nat} {o:qp} {w:World} (H:TW w base bM T B M b s vs vf aP vh n live m fr av f hs g K) (ho:pE o) (hT:Lit w):
  ∃ (w1:World) (gh oh ch:Nat),vh=.slice (some ⟨gh,oh,none⟩) hs.length ch∧((m:Int) == 0)=false∧((m:Int)+1 == 0)=false∧¬ (m:Int)=0∧¬ (m:Int)+1=0∧w.alloc (.cells #[.int .u8 o.kind,.int .u8 o.a,.int .u8 o.b,.int .u8 o.c,.string o.s,.string o.t,.int .i8 o.n,.int .i8 o.k] 62)=w1∧Hid (Whole w1 w.heap.size #[.int .u8 o.kind,.int .u8 o.a,.int .u8 o.b,.int .u8 o.c,.string o.s,.string o.t,.int .i8 o.n,.int .i8 o.k] 62)∧Hid (Below w.heap.size w w1)∧Hid (TW w1 base bM T B M b s vs vf aP (.slice (some ⟨gh,oh,none⟩) hs.length ch) n live m fr av f hs g K)∧Hid (pE o)∧Hid (Lit w1)∧Hid (hs.length=m)∧Hid (∀ W:World,Below w.heap.size w W→∀ j:Nat,j<m→W.cell? ⟨gh,oh+j,none⟩=some (.int .i64 (hof hs (j:Int))))∧Hid (∀ W:World,Below w.heap.size w W→zL3 T B M gh oh m ch W)∧w1.cell? ⟨T,0,none⟩=some (.pointer (some ⟨B,0,none⟩))∧w1.cell? ⟨T,1,none⟩=some (.pointer (some ⟨M,0,none⟩))∧w1.cell? ⟨T,2,none⟩=some (.slice (some ⟨gh,oh,none⟩) m ch)∧w1.cell? ⟨w.heap.size,0,none⟩=some (.int .u8 o.kind)∧w1.cell? ⟨w.heap.size,1,none⟩=some (.int .u8 o.a)∧w1.cell? ⟨w.heap.size,2,none⟩=some (.int .u8 o.b)∧w1.cell? ⟨w.heap.size,3,none⟩=some (.int .u8 o.c)∧w1.cell? ⟨w.heap.size,4,none⟩=some (.string o.s)∧w1.cell? ⟨w.heap.size,5,none⟩=some (.string o.t)∧w1.cell? ⟨w.heap.size,6,none⟩=some (.int .i8 o.n)∧w1.cell? ⟨w.heap.size,7,none⟩=some (.int .i8 o.k)∧0≤o.a∧o.a<256∧0≤o.b∧o.b<256∧0≤o.c∧o.c<256∧0≤o.kind∧o.kind<256:=by
 obtain⟨Ah,ch,rfl⟩:=H.tw.row.form;have hlen:=H.len;have hm0:=H.m0;have mz:((m:Int) == 0)=false:=by simp;omega
 have IU:((m:Int)+1 == 0)=false:=by simp;omega
 have IV:¬ (m:Int)=0:=by omega
 have IW:¬ (m:Int)+1=0:=by omega
 obtain⟨w1,hw1⟩:=eX (w.alloc (.cells #[.int .u8 o.kind,.int .u8 o.a,.int .u8 o.b,.int .u8 o.c,.string o.s,.string o.t,.int .i8 o.n,.int .i8 o.k] 62))
 have hb1:Below w.heap.size w w1:=fI hw1;have fQ:Hid (Whole w1 w.heap.size #[.int .u8 o.kind,.int .u8 o.a,.int .u8 o.b,.int .u8 o.c,.string o.s,.string o.t,.int .i8 o.n,.int .i8 o.k] 62):=zh (by rw[←hw1];exact Whole.new w _ _);have HB1:=zh hb1;have H1:=zh (H.below hb1);have ql:=zh ho;have jM:=zh (hT.below hb1);have HLEN:=zh hlen;obtain⟨gh,oh,rfl,-,-,hcs,-⟩:=H.tw.row.cells (by omega);have sG:=zh (fun (W:World) (hb:Below w.heap.size w W) (j:Nat) (hj:j<m)=>(show W.cell? ⟨gh,oh+j,none⟩=some (.int .i64 (hof hs (j:Int))) from (H.tw.row.below hb).cellAt j _ (by omega) (eu (H.bJ hj))));have sH:=zh (fun (W:World) (hb:Below w.heap.size w W)=>(show zL3 T B M gh oh m ch W from by have h:=H.tw.below hb;rw[hlen] at h;exact⟨h.var.cell 0,h.var.cell 1,h.var.cell 2⟩));obtain⟨t0,t1,t2⟩:=sH.out w1 hb1;have x0:w1.cell? ⟨w.heap.size,0,none⟩=some (.int .u8 o.kind):=fQ.out.cell 0;have x1:w1.cell? ⟨w.heap.size,1,none⟩=some (.int .u8 o.a):=fQ.out.cell 1;have x2:w1.cell? ⟨w.heap.size,2,none⟩=some (.int .u8 o.b):=fQ.out.cell 2;have x3:w1.cell? ⟨w.heap.size,3,none⟩=some (.int .u8 o.c):=fQ.out.cell 3;have x4:w1.cell? ⟨w.heap.size,4,none⟩=some (.string o.s):=fQ.out.cell 4;have x5:w1.cell? ⟨w.heap.size,5,none⟩=some (.string o.t):=fQ.out.cell 5;have x6:w1.cell? ⟨w.heap.size,6,none⟩=some (.int .i8 o.n):=fQ.out.cell 6;have x7:w1.cell? ⟨w.heap.size,7,none⟩=some (.int .i8 o.k):=fQ.out.cell 7;obtain⟨IX,IY⟩:=ho.a;obtain⟨IZ,I4⟩:=ho.b;obtain⟨I5,I6⟩:=ho.c;obtain⟨I7,I8⟩:=ho.kind;exact⟨w1,gh,oh,ch,rfl,mz,IU,IV,IW,hw1,fQ,HB1,H1,ql,jM,HLEN,sG,sH,t0,t1,t2,x0,x1,x2,x3,x4,x5,x6,x7,IX,IY,IZ,I4,I5,I6,I7,I8⟩
theorem ME (base bM T B M:Nat) (b s:Int) (vs vf aP vh:Value) (n live m:Nat) (fr:List Nat) (av:Int→Tr.Sl) (f:Nat→RS) (hs:List Int) (g:Tr.G) (K:Nat) (o:qp) (w:World) (H:TW w base bM T B M b s vs vf aP vh n live m fr av f hs g K) (ho:pE o) (hkd:o.kind.tmod 10=4) (hm:m≤300) (hK:K≤60) (hT:Lit w):
  uL base bM T B M b s K o w:=by
 unfold uL;obtain⟨ia,hia,aI⟩:=aR ho.a.1 H.m0;obtain⟨ib,hib,iT⟩:=aR ho.b.1 H.m0;obtain⟨ic,hic,qw⟩:=aR (m:=m+1) ho.c.1 (by omega);rw[Int.natCast_add] at hic;have hlen:=H.len;have hm0:=H.m0;obtain⟨w1,gh,oh,ch,rfl,mz,IU,IV,IW,hw1,fQ,HB1,H1,ql,jM,HLEN,sG,sH,t0,t1,t2,x0,x1,x2,x3,x4,x5,x6,x7,IX,IY,IZ,I4,I5,I6,I7,I8⟩:=iB H ho hT;have ze:=zh (fun (W:World) (hb:Below w.heap.size w W)=>H.mv.below hb);have dZ:=zh (fun (W:World) (hb:Below w.heap.size w W) (j:Nat) (hj:j<m)=>bX bM M m aP f j W (H.mv.below hb) hj (by omega));clear H ho hT
 go_enter Tryz.func16,Tryz.ntmps16
 go_wp2_with fail;(try rw[hw1]);try go_wp2_with fail
 go_quiet (fail)
 obtain⟨V,hV⟩:=eX (w1.drewN nq)
 have dS:Below w1.heap.size w1 V:=Jg hV;have bK:=zh (HB1.out.trans (dS.mono HB1.out.size));have dH:=zh (fQ.out.below dS fQ.out.lt);have HV:=zh (H1.out.below dS);have vv:=zh (jM.out.below dS);obtain⟨t0',t1',t2'⟩:=sH.out V bK.out;have z0:V.cell? ⟨w.heap.size,0,none⟩=some (.int .u8 o.kind):=dH.out.cell 0;have z4:V.cell? ⟨w.heap.size,4,none⟩=some (.string o.s):=dH.out.cell 4;have z5:V.cell? ⟨w.heap.size,5,none⟩=some (.string o.t):=dH.out.cell 5;have z6:V.cell? ⟨w.heap.size,6,none⟩=some (.int .i8 o.n):=dH.out.cell 6;have z7:V.cell? ⟨w.heap.size,7,none⟩=some (.int .i8 o.k):=dH.out.cell 7;clear t0 t1 t2 x0 x1 x2 x3 x4 x5 x6 x7 dS;(try rw[hV]);go_wp2_with fail;refine (dZ.out V bK.out ia aI).mono ?_;rintro e w2 ⟨rfl,hw2⟩;rw[hw2];clear dZ hw2;go_wp2_with fail;obtain⟨h,hh⟩:=eX (hof hs (ia:Int))
 obtain⟨V2,hV2⟩:=eX (V.drew)
 have bN:Below V.heap.size V V2:=lW hV2;have ru:=zh (bK.out.trans (bN.mono bK.out.size));have HW2:=zh (HV.out.below bN);have gV:=zh (fun (W:World) (hb:Below w.heap.size w W)=>(show W.cell? ⟨T,0,none⟩=some (.pointer (some ⟨B,0,none⟩))∧W.cell? ⟨T,2,none⟩=some (.slice (some ⟨gh,oh,none⟩) m ch)∧W.cell? ⟨gh,oh+ia,none⟩=some (.int .i64 h) from⟨(sH.out W hb).1,(sH.out W hb).2.2,by have:=sG.out W hb ia aI;rw[hh] at this;exact this⟩));have K4:(0:Int)≤(ia:Int):=by omega
 have K5:(ia:Int)<(m:Int):=by omega
 cases hg:(f ia).gone with
 | true=>
  obtain⟨e1,e2⟩:=HW2.out.mD aI hg;have HC:=zh (Es base B b s (hof hs 0) h live n (Tr.raw g av) fr vs vf V2 HW2.out.tv HW2.out.so (by rw[←hh];exact HW2.out.i64 aI) (by rw[←hh,e1];exact Tr.bF e2));clear e1 e2;refine wp_region_noPanic ?_;refine wp_region_held_drew (S:=(fun W=>W.cell? ⟨T,0,none⟩=some (.pointer (some ⟨B,0,none⟩))∧W.cell? ⟨T,2,none⟩=some (.slice (some ⟨gh,oh,none⟩) m ch)∧W.cell? ⟨gh,oh+ia,none⟩=some (.int .i64 h))) (by kernel_rfl) ?_ (fun ah=>?_)
  ·exact (by rw[hV2];exact gV.out V2 ru.out)
  rw[hV2] at ah ⊢;refine bn [0,1,2,3,4,5,6,7,8,9,10] ?_;iterate 11 (refine cZ ?_;try simp only[pS])
  refine bq ?_;refine bG 11 fun K hK=>?_;go_simp;refine HC.out.mono ?_;rintro e w3 ⟨rfl,hb3⟩;have HB3:=zh (ru.out.trans (hb3.mono ru.out.size));have HT3:=zh (HW2.out.below hb3);clear hb3;refine hK.out _ _ (gV.out w3 HB3.out) fun ah=>?_;clear hK K;(try simp only[pS]);refine bn [12,13,14,15,16] ?_;iterate 5 (refine cZ ?_;try simp only[pS])
  refine bq ?_;refine eY ?_;go_wp2_with fail;go_ret2;exact⟨_,[],_,_,_,_,_,_,_,_,_,_,_,_,rfl,HT3.out.up⟩
 | false=>
  by_cases h0:ia=0
  ·have eg:g h=some (Tr.eD (hof hs) (jZ (f ia))):=by rw[←hh];exact HW2.out.dx aI hg
   have hk1:(f ia).kind=1:=by rw[h0];exact HW2.out.km.1
   have HC:=zh (FP base B b s (hof hs 0) h live n g av fr vs vf _ V2 HW2.out.tv HW2.out.so eg hk1);have HZ:=zh (show (ia:Int)=0 by omega);clear eg hk1 h0;refine wp_region_noPanic ?_;refine wp_region_held_drew (S:=(fun W=>W.cell? ⟨T,0,none⟩=some (.pointer (some ⟨B,0,none⟩))∧W.cell? ⟨T,2,none⟩=some (.slice (some ⟨gh,oh,none⟩) m ch)∧W.cell? ⟨gh,oh+ia,none⟩=some (.int .i64 h))) (by kernel_rfl) ?_ (fun ah=>?_)
   ·exact (by rw[hV2];exact gV.out V2 ru.out)
   rw[hV2] at ah ⊢;refine bn [0,1,2,3,4,5,6,7,8,9,10] ?_;iterate 11 (refine cZ ?_;try simp only[pS])
   refine bq ?_;refine bG 11 fun K hK=>?_;go_simp;refine HC.out.mono ?_;rintro e w3 ⟨rfl,hb3⟩;have gJ:=zh (HW2.out.below hb3).up;have HT3:=zh (show w3.cell? ⟨T,0,none⟩=some (.pointer (some ⟨B,0,none⟩))∧w3.cell? ⟨T,2,none⟩=some (.slice (some ⟨gh,oh,none⟩) m ch)∧w3.cell? ⟨gh,oh+ia,none⟩=some (.int .i64 h)∧w3.cell? ⟨T,1,none⟩=some (.pointer (some ⟨M,0,none⟩)) from zR gJ.out.tw HLEN.out (by rw[←hh];exact HV.out.bJ aI));clear hb3;refine hK.out _ _ (⟨HT3.out.1,HT3.out.2.1,HT3.out.2.2.1⟩) fun ah=>?_;clear hK K;(try simp only[pS]);refine bn [12,13,14,15,16] ?_;iterate 5 (refine cZ ?_;try simp only[pS])
   refine bq ?_;refine eY ?_;obtain⟨p0,p1,p2,p3⟩:=HT3.out;have HR:=zh (Et bM M m aP f w3);have qm:=zh (dB T B M 0 0 _ (.slice none 0 0) (.slice none 0 0) hs [] w3 gJ.out.tw (World.ownsRow_nil _ _ _ _) (World.ownsRow_nil _ _ _ _) (by simp));go_wp2_with fail;rw[HZ.out];refine HR.out.mono ?_;rintro e w4 ⟨rfl,rfl⟩;go_wp2_with fail;refine qm.out.mono ?_;rintro e w5 ⟨rfl,hb5⟩;have bC:=zh (gJ.out.below hb5);clear hb5;go_wp2_with fail;go_ret2;exact⟨_,[],_,_,_,_,_,_,_,_,_,_,_,_,rfl,bC.out⟩
  ·rcases H1.out.im.pa _ _ (aM aI hg) with hpa | hpl
   ·have eg:g h=some (Tr.eD (hof hs) (jZ (f ia))):=by rw[←hh];exact HW2.out.dx aI hg
    have hk:(f ia).kind≠0∧(f ia).kind≠1:=by rcases HW2.out.km.2 ia aI h0 with e | e | e<;>omega
    have HC:=zh (zS base B b s (hof hs 0) h live n g av fr vs vf _ V2 HW2.out.tv HW2.out.so HW2.out.wf eg hk.1 hk.2);clear hk;have Ox:Tr.dI g h=0:=by rw[Tr.aO eg];show hof hs (f ia).pa=0;rw[show (f ia).pa = -1 from hpa];exact HW2.out.im.zero
    have er:Tr.fU g h=[]:=by unfold Tr.fU;rw[if_pos Ox]
    have ec:Tr.dG g h=g:=by unfold Tr.dG;rw[if_pos Ox]
    rw[er,ec] at HC;clear eg Ox er ec;refine wp_region_noPanic ?_;refine wp_region_held_drew (S:=(fun W=>W.cell? ⟨T,0,none⟩=some (.pointer (some ⟨B,0,none⟩))∧W.cell? ⟨T,2,none⟩=some (.slice (some ⟨gh,oh,none⟩) m ch)∧W.cell? ⟨gh,oh+ia,none⟩=some (.int .i64 h))) (by kernel_rfl) ?_ (fun ah=>?_)
    ·exact (by rw[hV2];exact gV.out V2 ru.out)
    rw[hV2] at ah ⊢;refine bn [0,1,2,3,4,5,6,7,8,9,10] ?_;iterate 11 (refine cZ ?_;try simp only[pS])
    refine bq ?_;refine bG 11 fun K hK=>?_;go_simp;refine HC.out.mono ?_;rintro e w3 ⟨v3,rfl,hr3,hv3,fF⟩;have gJ:=zh (HW2.out.step hv3 HW2.out.so fF (HW2.out.at'.step HW2.out.tv fF) HW2.out.wf (HW2.out.after fF).2.1 (.of_below (Below.refl _ _)) HW2.out.im HW2.out.km HW2.out.g0 HW2.out.gn HW2.out.nm HW2.out.d0 HW2.out.up.bd HW2.out.ok);have HT3:=zh (show w3.cell? ⟨T,0,none⟩=some (.pointer (some ⟨B,0,none⟩))∧w3.cell? ⟨T,2,none⟩=some (.slice (some ⟨gh,oh,none⟩) m ch)∧w3.cell? ⟨gh,oh+ia,none⟩=some (.int .i64 h)∧w3.cell? ⟨T,1,none⟩=some (.pointer (some ⟨M,0,none⟩)) from zR gJ.out.tw HLEN.out (by rw[←hh];exact HV.out.bJ aI));have HR3:=zh hr3;obtain⟨A3,c3,rfl⟩:=aF (aG hr3);clear hr3 hv3 fF;refine hK.out _ _ (⟨HT3.out.1,HT3.out.2.1,HT3.out.2.2.1⟩) fun ah=>?_;clear hK K;(try simp only[pS]);refine bn [12,13,14,15,16] ?_;iterate 5 (refine cZ ?_;try simp only[pS])
    refine bq ?_;refine eY ?_;obtain⟨p0,p1,p2,p3⟩:=HT3.out;have HR:=zh (Eu bM M m aP f ia w3 gJ.out.mv aI hpa h0 (by omega));have qm:=zh (dB T B M _ 0 _ _ (.slice none 0 0) hs [] w3 gJ.out.tw HR3.out (World.ownsRow_nil _ _ _ _) (by simp));go_wp2_with fail;refine HR.out.mono ?_;rintro e w4 ⟨rfl,rfl⟩;go_wp2_with fail;refine qm.out.mono ?_;rintro e w5 ⟨rfl,hb5⟩;have bC:=zh (gJ.out.below hb5);clear hb5;go_wp2_with fail;go_ret2;exact⟨_,[],_,_,_,_,_,_,_,_,_,_,_,_,rfl,bC.out⟩
   ·obtain⟨p,hpa,hpm,hpg,-⟩:=jv hpl;have hpa:(f ia).pa=(p:Int):=hpa;have hpi:p≠ia:=fun e=>(H1.out.im.pull H1.out.wf).iG (aM aI hg) (by show (f ia).pa=_;rw[hpa,e]);clear hpl;have eg:g h=some (Tr.eD (hof hs) (jZ (f ia))):=by rw[←hh];exact HW2.out.dx aI hg
    have hk:(f ia).kind≠0∧(f ia).kind≠1:=by rcases HW2.out.km.2 ia aI h0 with e | e | e<;>omega
    have HC:=zh (zS base B b s (hof hs 0) h live n g av fr vs vf _ V2 HW2.out.tv HW2.out.so HW2.out.wf eg hk.1 hk.2);clear hk;have hpz:hof hs (p:Int)≠0:=HW2.out.im.nz _ (by rw[aM hpm hpg];rfl);have Ox:Tr.dI g h=hof hs (p:Int):=by rw[Tr.aO eg];show hof hs (f ia).pa=_;rw[hpa]
    have er:Tr.fU g h=[kK m f 2 ia p].map (rz (hof hs)):=by
     unfold Tr.fU;rw[if_neg (by rw[Ox];exact hpz),←hh,HW2.out.im.place HW2.out.wf 2 aI hg hpa];rfl
    rw[er] at HC;clear eg Ox er;refine wp_region_noPanic ?_;refine wp_region_held_drew (S:=(fun W=>W.cell? ⟨T,0,none⟩=some (.pointer (some ⟨B,0,none⟩))∧W.cell? ⟨T,2,none⟩=some (.slice (some ⟨gh,oh,none⟩) m ch)∧W.cell? ⟨gh,oh+ia,none⟩=some (.int .i64 h))) (by kernel_rfl) ?_ (fun ah=>?_)
    ·exact (by rw[hV2];exact gV.out V2 ru.out)
    rw[hV2] at ah ⊢;refine bn [0,1,2,3,4,5,6,7,8,9,10] ?_;iterate 11 (refine cZ ?_;try simp only[pS])
    refine bq ?_;refine bG 11 fun K hK=>?_;go_simp;refine HC.out.mono ?_;rintro e w3 ⟨v3,rfl,hr3,hv3,fF⟩;obtain⟨a1,a2,-,-,-⟩:=HW2.out.after fF;have HT3:=zh (show w3.cell? ⟨T,0,none⟩=some (.pointer (some ⟨B,0,none⟩))∧w3.cell? ⟨T,2,none⟩=some (.slice (some ⟨gh,oh,none⟩) m ch)∧w3.cell? ⟨gh,oh+ia,none⟩=some (.int .i64 h)∧w3.cell? ⟨T,1,none⟩=some (.pointer (some ⟨M,0,none⟩)) from zR a1 HLEN.out (by rw[←hh];exact HV.out.bJ aI));have HR3:=zh hr3;have uy:=zh (And.intro hv3 (And.intro fF a2));obtain⟨A3,c3,rfl⟩:=aF (aG hr3);clear hr3 hv3 fF a1 a2;refine hK.out _ _ (⟨HT3.out.1,HT3.out.2.1,HT3.out.2.2.1⟩) fun ah=>?_;clear hK K;(try simp only[pS]);refine bn [12,13,14,15,16] ?_;iterate 5 (refine cZ ?_;try simp only[pS])
    refine bq ?_;refine eY ?_;obtain⟨p0,p1,p2,p3⟩:=HT3.out;have HR:=zh (FQ bM M m aP f ia p w3 uy.out.2.2 (HW2.out.im.pull HW2.out.wf) aI hg hpa h0 (by omega) hpm);go_wp2_with fail;refine HR.out.mono ?_;rintro e w4 ⟨v4,rfl,hr4,Oy,oI,dJ⟩;have gJ:=zh (HW2.out.cut (sl:=Oy) aI hg hpa hpm hpg hpi (by rw[hh];exact uy.out.1) uy.out.2.1 oI dJ);have qm:=zh (dB T B M V2.heap.size w3.heap.size _ _ v4 hs [kK m f 2 ia p] w4 gJ.out.tw (bY HR3.out dJ.1 (fun k hk hm=>by have h1:=(HR3.out.lt k hk).1;have h2:=(HW2.out.mv.lt k hm).2;omega)) hr4 (by simp));obtain⟨A4,c4,rfl⟩:=aF (aG hr4);clear hr4 oI dJ;go_wp2_with fail;refine qm.out.mono ?_;rintro e w5 ⟨rfl,hb5⟩;have bC:=zh (gJ.out.below hb5);clear hb5;go_wp2_with fail;go_ret2;exact⟨_,[],_,_,_,_,_,_,_,_,_,_,_,_,rfl,bC.out⟩
end
end Go.Proofs.YtmhjlifmcadefaaGreatDoor
