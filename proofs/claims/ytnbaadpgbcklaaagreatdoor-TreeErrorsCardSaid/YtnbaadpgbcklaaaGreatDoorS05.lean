/- Part of a proof about trees: NDoa, NRda, NTwi, NTwj, NTwk, NTwl, NTwp, NCop. -/
import Derived.BigQuiet
import Derived.Deep.RegionHeld3
import Derived.Test.YtnbaadpgbcklaaaGreatDoorGNDat
import Derived.Test.YtnbaadpgbcklaaaGreatDoorGNDup
import Derived.Test.YtnbaadpgbcklaaaGreatDoorGNMat
import Derived.Test.YtnbaadpgbcklaaaGreatDoorGNPmk
import Derived.Test.YtnbaadpgbcklaaaGreatDoorGNRia
import Derived.Test.YtnbaadpgbcklaaaGreatDoorGNRma
set_option linter.unusedVariables false
set_option linter.unusedSimpArgs false
set_option linter.unusedSectionVars false
set_option maxHeartbeats 8000000
set_option maxRecDepth 100000
namespace Go.Proofs.YtnbaadpgbcklaaaGreatDoor
section
open Go.RowKit
variable [nX]
structure nY (o:qg):Prop where
 kind:0≤o.kind∧o.kind<256
 a:0≤o.a∧o.a<256
 b:0≤o.b∧o.b<256
 c:0≤o.c∧o.c<256
 s:o.s.size≤40
 t:o.t.size≤40
 n : -128≤o.n∧o.n<128
 k : -128≤o.k∧o.k<128
theorem aI {x:Int} {m:Nat} (hx:0≤x) (hm:0<m):∃ i:Nat,x.tmod (m:Int)=(i:Int)∧i<m:=by
 obtain⟨k,rfl⟩:=Int.eq_ofNat_of_zero_le hx;refine⟨k % m,?_,Nat.mod_lt _ hm⟩;rw[Int.tmod_eq_emod_of_nonneg (by omega)];rfl
theorem Ai {w:World} {T B M gh oh ch m ia:Nat} {hs:List Int} {h:Int} (H:nV w T B M (.slice (some ⟨gh,oh,none⟩) hs.length ch) hs) (hl:hs.length=m) (hi:hs[ia]?=some h):w.cell? ⟨T,0,none⟩=some (.pointer (some ⟨B,0,none⟩))∧w.cell? ⟨T,2,none⟩=some (.slice (some ⟨gh,oh,none⟩) m ch)∧w.cell? ⟨gh,oh+ia,none⟩=some (.int .i64 h)∧w.cell? ⟨T,1,none⟩=some (.pointer (some ⟨M,0,none⟩)):=by
 have hlt:=(List.getElem?_eq_some_iff.1 hi).1;rw[←hl];exact⟨H.var.cell 0,H.var.cell 2,H.row.cellAt ia _ (by omega) (aY hi),H.var.cell 1⟩
theorem L6 (base bM T B M:Nat) (b s:Int) (vs vf aT vh:Value) (n live m:Nat) (fr:List Nat) (av:Int→Tr.Sl) (f:Nat→RS) (hs:List Int) (g:Tr.G) (K:Nat) (o:qg) (w:World) (H:TW w base bM T B M b s vs vf aT vh n live m fr av f hs g K) (ho:nY o) (hkd:o.kind.tmod 10=4) (hm:m≤300) (hK:K≤60) (hT:Lit w):
  Calls Tryz.prog 13 #[.pointer (some ⟨T,0,none⟩),.agg #[.int .u8 o.kind,.int .u8 o.a,.int .u8 o.b,.int .u8 o.c,.string o.s,.string o.t,.int .i8 o.n,.int .i8 o.k]] w fun e w'=>∃ (lv:Value) (lp:List Tr.Rec) (vs' bN bF gK:Value) (n' aG m':Nat) (fr':List Nat) (dV:Int→Tr.Sl) (f':Nat→RS) (hs':List Int) (g':Tr.G),e=.returned (.tuple #[lv,.bool true])∧TW w' base bM T B M b s vs' bN bF gK n' aG m' fr' dV f' hs' g' (K+1):=by
 obtain⟨ia,hia,aK⟩:=aI ho.a.1 H.m0;obtain⟨ib,hib,gY⟩:=aI ho.b.1 H.m0;obtain⟨ic,hic,nH⟩:=aI (m:=m+1) ho.c.1 (by omega);rw[Int.natCast_add] at hic;obtain⟨Ah,ch,rfl⟩:=H.tw.row.form;have hlen:=H.len;have hm0:=H.m0;have mz:((m:Int) == 0)=false:=by simp;omega
 have Ej:((m:Int)+1 == 0)=false:=by simp;omega
 have El:¬ (m:Int)=0:=by omega
 have Em:¬ (m:Int)+1=0:=by omega
 obtain⟨w1,hw1⟩:∃ w1,w.alloc (.cells #[.int .u8 o.kind,.int .u8 o.a,.int .u8 o.b,.int .u8 o.c,.string o.s,.string o.t,.int .i8 o.n,.int .i8 o.k] 39)=w1:=⟨_,rfl⟩
 have hb1:Below w.heap.size w w1:=eP hw1;have aU:Hid (Whole w1 w.heap.size #[.int .u8 o.kind,.int .u8 o.a,.int .u8 o.b,.int .u8 o.c,.string o.s,.string o.t,.int .i8 o.n,.int .i8 o.k] 39):=zh (by rw[←hw1];exact Whole.new w _ _);have HB1:=zh hb1;have H1:=zh (H.below hb1);have lJ:=zh ho;have iJ:=zh (hT.below hb1);have HLEN:=zh hlen;obtain⟨gh,oh,rfl,-,-,hcs,-⟩:=H.tw.row.cells (by omega);have qp:=zh (fun (W:World) (hb:Below w.heap.size w W) (j:Nat) (hj:j<m)=>(show W.cell? ⟨gh,oh+j,none⟩=some (.int .i64 (hof hs (j:Int))) from (H.tw.row.below hb).cellAt j _ (by omega) (aY (H.aW hj))));have jh:=zh (fun (W:World) (hb:Below w.heap.size w W)=>(show CQ T B M gh oh m ch W from by have h:=H.tw.below hb;rw[hlen] at h;exact⟨h.var.cell 0,h.var.cell 1,h.var.cell 2⟩));have vY:=zh (fun (W:World) (hb:Below w.heap.size w W)=>H.mv.below hb);obtain⟨t0,t1,t2⟩:=jh.out w1 hb1;have x0:w1.cell? ⟨w.heap.size,0,none⟩=some (.int .u8 o.kind):=aU.out.cell 0;have x1:w1.cell? ⟨w.heap.size,1,none⟩=some (.int .u8 o.a):=aU.out.cell 1;have x2:w1.cell? ⟨w.heap.size,2,none⟩=some (.int .u8 o.b):=aU.out.cell 2;have x3:w1.cell? ⟨w.heap.size,3,none⟩=some (.int .u8 o.c):=aU.out.cell 3;have x4:w1.cell? ⟨w.heap.size,4,none⟩=some (.string o.s):=aU.out.cell 4;have x5:w1.cell? ⟨w.heap.size,5,none⟩=some (.string o.t):=aU.out.cell 5;have x6:w1.cell? ⟨w.heap.size,6,none⟩=some (.int .i8 o.n):=aU.out.cell 6;have x7:w1.cell? ⟨w.heap.size,7,none⟩=some (.int .i8 o.k):=aU.out.cell 7;obtain⟨En,Eo⟩:=ho.a;obtain⟨Ep,Er⟩:=ho.b;obtain⟨Es,Et⟩:=ho.c;obtain⟨Eu,Ev⟩:=ho.kind;have dx:=zh (fun (W:World) (hb:Below w.heap.size w W) (j:Nat) (hj:j<m)=>bW bM M m aT f j W (H.mv.below hb) hj (by omega));clear H ho hb1 hT hcs
 go_enter Tryz.func13,Tryz.ntmps13
 go_wp2_with fail;(try rw[hw1]);try go_wp2_with fail
 go_quiet (fail)
 obtain⟨V,hV⟩:∃ V,w1.drewN nq=V:=⟨_,rfl⟩
 have dH:Below w1.heap.size w1 V:=CS hV;have bZ:=zh (HB1.out.trans (dH.mono HB1.out.size));have bV:=zh (aU.out.below dH aU.out.lt);have HV:=zh (H1.out.below dH);have qw:=zh (iJ.out.below dH);obtain⟨t0',t1',t2'⟩:=jh.out V bZ.out;have z0:V.cell? ⟨w.heap.size,0,none⟩=some (.int .u8 o.kind):=bV.out.cell 0;have z4:V.cell? ⟨w.heap.size,4,none⟩=some (.string o.s):=bV.out.cell 4;have z5:V.cell? ⟨w.heap.size,5,none⟩=some (.string o.t):=bV.out.cell 5;have z6:V.cell? ⟨w.heap.size,6,none⟩=some (.int .i8 o.n):=bV.out.cell 6;have z7:V.cell? ⟨w.heap.size,7,none⟩=some (.int .i8 o.k):=bV.out.cell 7;clear t0 t1 t2 x0 x1 x2 x3 x4 x5 x6 x7 dH;(try rw[hV]);go_wp2_with fail;refine (dx.out V bZ.out ia aK).mono ?_;rintro e w2 ⟨rfl,hw2⟩;rw[hw2];clear dx hw2;go_wp2_with fail;obtain⟨h,hh⟩:∃ h,hof hs (ia:Int)=h:=⟨_,rfl⟩
 obtain⟨V2,hV2⟩:∃ x,V.drew=x:=⟨_,rfl⟩
 have bA:Below V.heap.size V V2:=mJ hV2;have rJ:=zh (bZ.out.trans (bA.mono bZ.out.size));have HW2:=zh (HV.out.below bA);have gW:=zh (fun (W:World) (hb:Below w.heap.size w W)=>(show W.cell? ⟨T,0,none⟩=some (.pointer (some ⟨B,0,none⟩))∧W.cell? ⟨T,2,none⟩=some (.slice (some ⟨gh,oh,none⟩) m ch)∧W.cell? ⟨gh,oh+ia,none⟩=some (.int .i64 h) from⟨(jh.out W hb).1,(jh.out W hb).2.2,by have:=qp.out W hb ia aK;rw[hh] at this;exact this⟩));have Ji:(0:Int)≤(ia:Int):=by omega
 have Jj:(ia:Int)<(m:Int):=by omega
 cases hg:(f ia).gone with
 | true=>
  obtain⟨e1,e2⟩:=HW2.out.kT aK hg;have HC:=zh (uX base B b s (hof hs 0) h live n (Tr.raw g av) fr vs vf V2 HW2.out.tv HW2.out.so (by rw[←hh];exact HW2.out.i64 aK) (by rw[←hh,e1];exact Tr.aV e2));clear e1 e2;refine wp_region_noPanic ?_;refine wp_region_held_drew (S:=(fun W=>W.cell? ⟨T,0,none⟩=some (.pointer (some ⟨B,0,none⟩))∧W.cell? ⟨T,2,none⟩=some (.slice (some ⟨gh,oh,none⟩) m ch)∧W.cell? ⟨gh,oh+ia,none⟩=some (.int .i64 h))) (by kernel_rfl) ?_ (fun hHeld=>?_)
  ·exact (by rw[hV2];exact gW.out V2 rJ.out)
  rw[hV2] at hHeld ⊢;refine bD [0,1,2,3,4,5,6,7,8,9,10] ?_;iterate 11 (refine dw ?_;try simp only[pS])
  refine bE ?_;refine bL 11 fun K hK=>?_;go_simp;refine HC.out.mono ?_;rintro e w3 ⟨rfl,hb3⟩;have HB3:=zh (rJ.out.trans (hb3.mono rJ.out.size));have HT3:=zh (HW2.out.below hb3);clear hb3;refine hK.out _ _ (gW.out w3 HB3.out) fun hHeld=>?_;clear hK K;(try simp only[pS]);refine bD [12,13,14,15,16] ?_;iterate 5 (refine dw ?_;try simp only[pS])
  refine bE ?_;refine fB ?_;go_wp2_with fail;go_ret2;exact⟨_,[],_,_,_,_,_,_,_,_,_,_,_,_,rfl,HT3.out.up⟩
 | false=>
  by_cases h0:ia=0
  ·have eg:g h=some (Tr.fA (hof hs) (jX (f ia))):=by rw[←hh];exact HW2.out.eY aK hg
   have hk1:(f ia).kind=1:=by rw[h0];exact HW2.out.km.1
   have HC:=zh (Gt base B b s (hof hs 0) h live n g av fr vs vf _ V2 HW2.out.tv HW2.out.so eg hk1);have HZ:=zh (show (ia:Int)=0 by omega);clear eg hk1 h0;refine wp_region_noPanic ?_;refine wp_region_held_drew (S:=(fun W=>W.cell? ⟨T,0,none⟩=some (.pointer (some ⟨B,0,none⟩))∧W.cell? ⟨T,2,none⟩=some (.slice (some ⟨gh,oh,none⟩) m ch)∧W.cell? ⟨gh,oh+ia,none⟩=some (.int .i64 h))) (by kernel_rfl) ?_ (fun hHeld=>?_)
   ·exact (by rw[hV2];exact gW.out V2 rJ.out)
   rw[hV2] at hHeld ⊢;refine bD [0,1,2,3,4,5,6,7,8,9,10] ?_;iterate 11 (refine dw ?_;try simp only[pS])
   refine bE ?_;refine bL 11 fun K hK=>?_;go_simp;refine HC.out.mono ?_;rintro e w3 ⟨rfl,hb3⟩;have gL:=zh (HW2.out.below hb3).up;have HT3:=zh (show w3.cell? ⟨T,0,none⟩=some (.pointer (some ⟨B,0,none⟩))∧w3.cell? ⟨T,2,none⟩=some (.slice (some ⟨gh,oh,none⟩) m ch)∧w3.cell? ⟨gh,oh+ia,none⟩=some (.int .i64 h)∧w3.cell? ⟨T,1,none⟩=some (.pointer (some ⟨M,0,none⟩)) from Ai gL.out.tw HLEN.out (by rw[←hh];exact HV.out.aW aK));clear hb3;refine hK.out _ _ (⟨HT3.out.1,HT3.out.2.1,HT3.out.2.2.1⟩) fun hHeld=>?_;clear hK K;(try simp only[pS]);refine bD [12,13,14,15,16] ?_;iterate 5 (refine dw ?_;try simp only[pS])
   refine bE ?_;refine fB ?_;obtain⟨p0,p1,p2,p3⟩:=HT3.out;have HR:=zh (D9 bM M m aT f w3);have qm:=zh (dF T B M 0 0 _ (.slice none 0 0) (.slice none 0 0) hs [] w3 gL.out.tw (World.ownsRow_nil _ _ _ _) (World.ownsRow_nil _ _ _ _) (by simp));go_wp2_with fail;rw[HZ.out];refine HR.out.mono ?_;rintro e w4 ⟨rfl,rfl⟩;go_wp2_with fail;refine qm.out.mono ?_;rintro e w5 ⟨rfl,hb5⟩;have bf:=zh (gL.out.below hb5);clear hb5;go_wp2_with fail;go_ret2;exact⟨_,[],_,_,_,_,_,_,_,_,_,_,_,_,rfl,bf.out⟩
  ·rcases H1.out.im.pa _ _ (aQ aK hg) with hpa | hpl
   ·have eg:g h=some (Tr.fA (hof hs) (jX (f ia))):=by rw[←hh];exact HW2.out.eY aK hg
    have hk:(f ia).kind≠0∧(f ia).kind≠1:=by rcases HW2.out.km.2 ia aK h0 with e | e | e<;>omega
    have HC:=zh (Ad base B b s (hof hs 0) h live n g av fr vs vf _ V2 HW2.out.tv HW2.out.so HW2.out.wf eg hk.1 hk.2);clear hk;have Mi:Tr.dI g h=0:=by rw[Tr.aP eg];show hof hs (f ia).pa=0;rw[show (f ia).pa = -1 from hpa];exact HW2.out.im.zero
    have er:Tr.fZ g h=[]:=by unfold Tr.fZ;rw[if_pos Mi]
    have ec:Tr.dN g h=g:=by unfold Tr.dN;rw[if_pos Mi]
    rw[er,ec] at HC;clear eg Mi er ec;refine wp_region_noPanic ?_;refine wp_region_held_drew (S:=(fun W=>W.cell? ⟨T,0,none⟩=some (.pointer (some ⟨B,0,none⟩))∧W.cell? ⟨T,2,none⟩=some (.slice (some ⟨gh,oh,none⟩) m ch)∧W.cell? ⟨gh,oh+ia,none⟩=some (.int .i64 h))) (by kernel_rfl) ?_ (fun hHeld=>?_)
    ·exact (by rw[hV2];exact gW.out V2 rJ.out)
    rw[hV2] at hHeld ⊢;refine bD [0,1,2,3,4,5,6,7,8,9,10] ?_;iterate 11 (refine dw ?_;try simp only[pS])
    refine bE ?_;refine bL 11 fun K hK=>?_;go_simp;refine HC.out.mono ?_;rintro e w3 ⟨v3,rfl,hr3,hv3,gy⟩;have gL:=zh (HW2.out.step hv3 HW2.out.so gy (HW2.out.at'.step HW2.out.tv gy) HW2.out.wf (HW2.out.after gy).2.1 (.of_below (Below.refl _ _)) HW2.out.im HW2.out.km HW2.out.g0 HW2.out.gn HW2.out.nm HW2.out.d0 HW2.out.up.bd);have HT3:=zh (show w3.cell? ⟨T,0,none⟩=some (.pointer (some ⟨B,0,none⟩))∧w3.cell? ⟨T,2,none⟩=some (.slice (some ⟨gh,oh,none⟩) m ch)∧w3.cell? ⟨gh,oh+ia,none⟩=some (.int .i64 h)∧w3.cell? ⟨T,1,none⟩=some (.pointer (some ⟨M,0,none⟩)) from Ai gL.out.tw HLEN.out (by rw[←hh];exact HV.out.aW aK));have HR3:=zh hr3;obtain⟨A3,c3,rfl⟩:=aF (aH hr3);clear hr3 hv3 gy;refine hK.out _ _ (⟨HT3.out.1,HT3.out.2.1,HT3.out.2.2.1⟩) fun hHeld=>?_;clear hK K;(try simp only[pS]);refine bD [12,13,14,15,16] ?_;iterate 5 (refine dw ?_;try simp only[pS])
    refine bE ?_;refine fB ?_;obtain⟨p0,p1,p2,p3⟩:=HT3.out;have HR:=zh (Ea bM M m aT f ia w3 gL.out.mv aK hpa h0 (by omega));have qm:=zh (dF T B M _ 0 _ _ (.slice none 0 0) hs [] w3 gL.out.tw HR3.out (World.ownsRow_nil _ _ _ _) (by simp));go_wp2_with fail;refine HR.out.mono ?_;rintro e w4 ⟨rfl,rfl⟩;go_wp2_with fail;refine qm.out.mono ?_;rintro e w5 ⟨rfl,hb5⟩;have bf:=zh (gL.out.below hb5);clear hb5;go_wp2_with fail;go_ret2;exact⟨_,[],_,_,_,_,_,_,_,_,_,_,_,_,rfl,bf.out⟩
   ·obtain⟨p,hpa,hpm,hpg,-⟩:=jA hpl;have hpa:(f ia).pa=(p:Int):=hpa;have hpi:p≠ia:=fun e=>(H1.out.im.pull H1.out.wf).iD (aQ aK hg) (by show (f ia).pa=_;rw[hpa,e]);clear hpl;have eg:g h=some (Tr.fA (hof hs) (jX (f ia))):=by rw[←hh];exact HW2.out.eY aK hg
    have hk:(f ia).kind≠0∧(f ia).kind≠1:=by rcases HW2.out.km.2 ia aK h0 with e | e | e<;>omega
    have HC:=zh (Ad base B b s (hof hs 0) h live n g av fr vs vf _ V2 HW2.out.tv HW2.out.so HW2.out.wf eg hk.1 hk.2);clear hk;have hpz:hof hs (p:Int)≠0:=HW2.out.im.nz _ (by rw[aQ hpm hpg];rfl);have Mi:Tr.dI g h=hof hs (p:Int):=by rw[Tr.aP eg];show hof hs (f ia).pa=_;rw[hpa]
    have er:Tr.fZ g h=[kE m f 2 ia p].map (rM (hof hs)):=by
     unfold Tr.fZ;rw[if_neg (by rw[Mi];exact hpz),←hh,HW2.out.im.place HW2.out.wf 2 aK hg hpa];rfl
    rw[er] at HC;clear eg Mi er;refine wp_region_noPanic ?_;refine wp_region_held_drew (S:=(fun W=>W.cell? ⟨T,0,none⟩=some (.pointer (some ⟨B,0,none⟩))∧W.cell? ⟨T,2,none⟩=some (.slice (some ⟨gh,oh,none⟩) m ch)∧W.cell? ⟨gh,oh+ia,none⟩=some (.int .i64 h))) (by kernel_rfl) ?_ (fun hHeld=>?_)
    ·exact (by rw[hV2];exact gW.out V2 rJ.out)
    rw[hV2] at hHeld ⊢;refine bD [0,1,2,3,4,5,6,7,8,9,10] ?_;iterate 11 (refine dw ?_;try simp only[pS])
    refine bE ?_;refine bL 11 fun K hK=>?_;go_simp;refine HC.out.mono ?_;rintro e w3 ⟨v3,rfl,hr3,hv3,gy⟩;obtain⟨a1,a2,-,-,-⟩:=HW2.out.after gy;have HT3:=zh (show w3.cell? ⟨T,0,none⟩=some (.pointer (some ⟨B,0,none⟩))∧w3.cell? ⟨T,2,none⟩=some (.slice (some ⟨gh,oh,none⟩) m ch)∧w3.cell? ⟨gh,oh+ia,none⟩=some (.int .i64 h)∧w3.cell? ⟨T,1,none⟩=some (.pointer (some ⟨M,0,none⟩)) from Ai a1 HLEN.out (by rw[←hh];exact HV.out.aW aK));have HR3:=zh hr3;have uj:=zh (And.intro hv3 (And.intro gy a2));obtain⟨A3,c3,rfl⟩:=aF (aH hr3);clear hr3 hv3 gy a1 a2;refine hK.out _ _ (⟨HT3.out.1,HT3.out.2.1,HT3.out.2.2.1⟩) fun hHeld=>?_;clear hK K;(try simp only[pS]);refine bD [12,13,14,15,16] ?_;iterate 5 (refine dw ?_;try simp only[pS])
    refine bE ?_;refine fB ?_;obtain⟨p0,p1,p2,p3⟩:=HT3.out;have HR:=zh (Gu bM M m aT f ia p w3 uj.out.2.2 (HW2.out.im.pull HW2.out.wf) aK hg hpa h0 (by omega) hpm);go_wp2_with fail;refine HR.out.mono ?_;rintro e w4 ⟨v4,rfl,hr4,Pf,nZ,dM⟩;have gL:=zh (HW2.out.cut (sl:=Pf) aK hg hpa hpm hpg hpi (by rw[hh];exact uj.out.1) uj.out.2.1 nZ dM);have qm:=zh (dF T B M V2.heap.size w3.heap.size _ _ v4 hs [kE m f 2 ia p] w4 gL.out.tw (cB HR3.out dM.1 (fun k hk hm=>by have h1:=(HR3.out.lt k hk).1;have h2:=(HW2.out.mv.lt k hm).2;omega)) hr4 (by simp));obtain⟨A4,c4,rfl⟩:=aF (aH hr4);clear hr4 nZ dM;go_wp2_with fail;refine qm.out.mono ?_;rintro e w5 ⟨rfl,hb5⟩;have bf:=zh (gL.out.below hb5);clear hb5;go_wp2_with fail;go_ret2;exact⟨_,[],_,_,_,_,_,_,_,_,_,_,_,_,rfl,bf.out⟩
end
section
open Go.RowKit
theorem GY (base M m:Nat) (vs:Value) (f:Nat→RS) (i:Nat) (nm:ByteArray) (w:World) (h:MV base w M vs m f) (hi:i<m) (hk:(f i).kind≠2):
  Calls Tryz.prog 53 #[.pointer (some ⟨M,0,none⟩),.int .i64 (i:Int),.string nm] w fun e w'=>e=.returned (nG 10)∧w'=w:=by
 obtain⟨A,c,rfl⟩:=h.form;obtain⟨g,rfl,-⟩:=h.read hi;obtain⟨k0,c0,_⟩:=h.rd hi;have q1:(0:Int)≤(i:Int):=by omega
 have q2:(i:Int)<(m:Int):=by omega
 have q3:=bne_true hk;clear h hk
 go_enter Tryz.func53,Tryz.ntmps53
 go_wp2_with fail;go_ret2;exact⟨rfl,rfl⟩
theorem ED (base M m:Nat) (vs:Value) (f:Nat→RS) (i:Nat) (nm:ByteArray) (w:World) (h:MV base w M vs m f) (hi:i<m) (hm:m≤100000) (hk:(f i).kind=2) (hl:(f i).at'.length≤1000) (hcase:¬ oZ (f i).at' nm<(f i).at'.length):
  Calls Tryz.prog 53 #[.pointer (some ⟨M,0,none⟩),.int .i64 (i:Int),.string nm] w fun e w'=>e=.returned (nG 0)∧w'=w:=by
 have hF:=tL base M m vs f i nm w h hi hm hl;have hai:yg (f i).at' nm = -1:=by unfold yg;rw[if_neg hcase]
 rw[hai] at hF;obtain⟨A,c,rfl⟩:=h.form;obtain⟨g,rfl,-⟩:=h.read hi;obtain⟨k0,c0,_⟩:=h.rd hi;rw[hk] at c0;have q1:(0:Int)≤(i:Int):=by omega
 have q2:(i:Int)<(m:Int):=by omega
 have HF:=zh hF;clear h hk hF hcase hai
 go_enter Tryz.func53,Tryz.ntmps53
 go_wp2_with fail;refine HF.out.mono ?_;rintro e w1 ⟨rfl,hw1⟩;obtain rfl:=hw1.symm;go_wp2_with fail;go_ret2;exact⟨rfl,rfl⟩
theorem EC (base M m:Nat) (vs:Value) (f:Nat→RS) (i:Nat) (nm:ByteArray) (w:World) (h:MV base w M vs m f) (hi:i<m) (hm:m≤100000) (hk:(f i).kind=2) (hl:(f i).at'.length≤1000) (hcase:oZ (f i).at' nm<(f i).at'.length):
  Calls Tryz.prog 53 #[.pointer (some ⟨M,0,none⟩),.int .i64 (i:Int),.string nm] w fun e w'=>∃ r sl,e=.returned (.tuple #[r,.int .i64 0])∧jI w.heap.size w' r [fV i nm (kU (f i).at' nm) true]∧
   MV base w' M vs m (bg f i fun n=>{ n with a:=sl,at':=lT (f i).at' nm })∧ay w w' (aB M vs m f) (aB M vs m (bg f i fun n=>{ n with a:=sl,at':=lT (f i).at' nm })):=by
 obtain⟨i0,hi0,hz0,hz1,hz2⟩:=info_parts ny;have hF:=tL base M m vs f i nm w h hi hm hl;obtain⟨l1,p,l2,hL,hd1⟩:∃ l1 p l2,(f i).at'=l1++p::l2∧l1.length=oZ (f i).at' nm:=by
  refine⟨(f i).at'.take (oZ (f i).at' nm),(f i).at'[oZ (f i).at' nm],(f i).at'.drop (oZ (f i).at' nm+1),?_,by rw[List.length_take];omega⟩;rw[←List.drop_eq_getElem_cons hcase,List.take_append_drop]
 obtain⟨d,hd⟩:∃ d,l1.length=d:=⟨_,rfl⟩
 obtain⟨b,hb⟩:∃ b,l2.length=b:=⟨_,rfl⟩
 have hai:yg (f i).at' nm=(d:Int):=by unfold yg;rw[if_pos hcase,←hd1,hd]
 have hget:(f i).at'[d]?=some p:=by rw[hL,←hd];simp
 have hdrop:lT (f i).at' nm=l1++l2:=by unfold lT;rw[←hd1,hL,List.eraseIdx_append_of_length_le (Nat.le_refl _),Nat.sub_self];rfl
 have hold:kU (f i).at' nm=p.2:=by unfold kU;rw[←hd1,hd,hget]
 have hlen:(f i).at'.length=d+1+b:=by rw[hL,List.length_append,List.length_cons];omega
 rw[hai] at hF;obtain⟨A,c,rfl⟩:=h.form;obtain⟨g,rfl,-⟩:=h.read hi;obtain⟨k0,c0,_,c2,_⟩:=h.rd hi;rw[hk] at c0;obtain⟨ga,oa,hA,a1,a2⟩:=h.attr hi hget;obtain⟨cp,hcp⟩:∃ cp,(f i).a.c=cp:=⟨_,rfl⟩
 have hv:(f i).a.v=.slice (some ⟨ga,oa,none⟩) (d+1+b) cp:=by unfold Tr.Sl.v;rw[h.an hi,hlen,hA,hcp]
 rw[hlen,hA,hcp] at c2;have q1:(0:Int)≤(i:Int):=by omega
 have q2:(i:Int)<(m:Int):=by omega
 have hr0:=h.ar i hi;rw[hv,hlen,hL] at hr0;have hcap:=hr0.le;have Pq:=zh (fun (W:World) (hb':Below w.heap.size w W)=>(hr0.below hb').Mq hd hb);have HF:=zh hF;have HM:=zh (fun (W:World) (hb:Below w.heap.size w W)=>h.below hb);have hgl:g<w.heap.size:=(h.row.lt g rfl).2;have XU:base≤w.heap.size:=by have:=h.low;have:=h.var.lt;omega
 have HDR:=zh (And.intro hdrop (And.intro hold (And.intro hd (And.intro hb hv))));rw[hlen] at hl;obtain⟨w3,hw3⟩:∃ w3,w.alloc (.cells #[.int .i64 0,.int .i64 0,.int .i64 0,.int .i64 0,.int .i64 0,.int .i64 0,.string ⟨#[]⟩,.string ⟨#[]⟩,.bool false,.int .i64 0,.int .i64 0] 147)=w3:=⟨_,rfl⟩
 have hb3:Below w.heap.size w w3:=eP hw3;have bq:Whole w3 w.heap.size #[.int .i64 0,.int .i64 0,.int .i64 0,.int .i64 0,.int .i64 0,.int .i64 0,.string ⟨#[]⟩,.string ⟨#[]⟩,.bool false,.int .i64 0,.int .i64 0] 147:=by rw[←hw3];exact Whole.new w _ _
 have y0:w3.cell? ⟨w.heap.size,0,none⟩=some (.int .i64 0):=bq.cell 0;have Cy:=bq.free 0;have y1:w3.cell? ⟨w.heap.size,1,none⟩=some (.int .i64 0):=bq.cell 1;have Cz:=bq.free 1;have y2:w3.cell? ⟨w.heap.size,2,none⟩=some (.int .i64 0):=bq.cell 2;have CB:=bq.free 2;have y3:w3.cell? ⟨w.heap.size,3,none⟩=some (.int .i64 0):=bq.cell 3;have CF:=bq.free 3;have y4:w3.cell? ⟨w.heap.size,4,none⟩=some (.int .i64 0):=bq.cell 4;have CG:=bq.free 4;have y5:w3.cell? ⟨w.heap.size,5,none⟩=some (.int .i64 0):=bq.cell 5;have CJ:=bq.free 5;have y6:w3.cell? ⟨w.heap.size,6,none⟩=some (.string ⟨#[]⟩):=bq.cell 6;have CK:=bq.free 6;have y7:w3.cell? ⟨w.heap.size,7,none⟩=some (.string ⟨#[]⟩):=bq.cell 7;have CO:=bq.free 7;have y8:w3.cell? ⟨w.heap.size,8,none⟩=some (.bool false):=bq.cell 8;have CP:=bq.free 8;have y9:w3.cell? ⟨w.heap.size,9,none⟩=some (.int .i64 0):=bq.cell 9;have EA:=bq.free 9;have wJ:w3.cell? ⟨w.heap.size,10,none⟩=some (.int .i64 0):=bq.cell 10;have rH:=bq.free 10;obtain⟨w4,hw4,bI,g4⟩:=jZ bq (.int .i64 3) (.int .i64 (i:Int)) (.int .i64 (-1)) (.int .i64 (-1)) (.int .i64 (-1)) (.int .i64 0) (.string nm) (.string p.2) (.bool true) (.int .i64 0) (.int .i64 0);have bY:Below w.heap.size w w4:=hb3.grown g4 hb3.size (fun j hj=>by simp at hj;omega);have uD:Below w.heap.size w w4.drew:=bY.trans ((bB _ w4).mono bY.size);have hs4:w.heap.size<w4.heap.size:=bI.lt;obtain⟨w5,eH⟩:∃ w5,w4.drew.alloc (.cells #[] 96)=w5:=⟨_,rfl⟩
 have fG:Below w4.heap.size w4 w5:=by rw[←eH];exact (bB _ w4).alloc (Nat.le_refl _) _
 have eu:=bY.trans (fG.mono bY.size);have dP:=bI.below fG bI.lt;have JF:=zh ((HM.out _ uD).rd hi).1;have H9:=zh ((HM.out _ eu).rd hi).1;have Nc:=fG.size;have e5:TR w5 w4.heap.size 96 2 (.slice (some ⟨w4.heap.size,0,none⟩) 0 0) 0 []:=by rw[←eH];exact lu w4.drew 96 2
 have s1:=(Pq.out w5 eu).1.source;have hya:=(Pq.out w5 eu).1.1;have hyb:=(Pq.out w5 eu).2.1;have eT:=zh dP;have Ia:=zh fG;have yw:=zh bY;have p0:(0:Int)≤(d:Int):=by omega
 have p1:(d:Int)<(d:Int)+1+(b:Int):=by omega
 have p1b:(d:Int)<((d+1+b:Nat):Int):=by omega
 have hdc:(d:Int)≤(cp:Int):=by omega
 have hi2:(d:Int)+1≤((d+1+b:Nat):Int):=by omega
 have hi3:(0:Int)≤(d:Int)+1:=by omega
 have UO:(d:Int)+1≤(d:Int)+1+(b:Int):=by omega
 have ht1':((d:Int)+1).toNat=d+1:=by omega
 have hs2:IntKind.i64.wrap ((d:Int)+1)=(d:Int)+1:=by rw[IntKind.wrap_i64];omega
 have p4:¬ (d:Int)<0:=by omega
 clear h hk hF hcase hai bq bI dP g4 hb3 bY uD fG eu hL hd1 hget hdrop hold hlen hv hcp hA hd hb hr0
 go_enter Tryz.func53,Tryz.ntmps53
 go_wp2_with fail;refine HF.out.mono ?_;rintro e w1 ⟨rfl,hw1⟩;obtain rfl:=hw1.symm;go_wp2_with fail;(try rw[hw4]);go_wp2_with fail;refine wp_region_noPanic ?_;refine wp_region_held_drew (S:=(fun W=>W.cell? ⟨M,0,none⟩=some (.slice (some ⟨g,0,none⟩) m c))) (by kernel_rfl) ?_ (fun hHeld=>?_)
 ·exact JF.out
 refine bD [0,1,2,3,4,6,7,8,10,11,12,13] ?_;iterate 12 (refine iZ ?_;try simp only[pS])
 refine bE ?_;refine bL 5 fun K hK=>?_;go_simp;(try rw[eH]);refine hK.out _ _ (H9.out) fun hHeld=>?_;clear hK K;(try simp only[pS]);refine bL 9 fun K hK=>?_;refine aM rfl _ _ 65 rfl w4.heap.size 96 i0 (.agg #[.string ⟨#[]⟩,.string ⟨#[]⟩]) 2 32 Tryz.underlying65 hi0 hz0 hz1 hz2 rfl (by decide) _ 0 [] rfl e5 _ d (fM l1) rfl hya s1 (gN _) ?c4 ?c5 Nc ?_
 case c4=>unfold maxLen;omega
 case c5=>omega
 intro v7 w7 o7 um f7;have g7:w5.grownBy w7 (Value.slice (some ⟨w4.heap.size,0,none⟩) 0 0).ownBlock:=um;clear um;(try simp only[Nat.zero_add,List.nil_append] at o7);obtain⟨A7,c7,rfl⟩:=o7.form;have zl:Below w4.heap.size w4 w7:=Ia.out.grown g7 Ia.out.size (fun j hj=>by simp[Value.ownBlock] at hj;omega);have lK:=yw.out.trans (zl.mono yw.out.size);have qV:=HM.out w7 lK;have s2:=(Pq.out w7 lK).2.source;have SB:=zl.size;have aO:=eT.out.grown g7 (fun e=>by simp[Value.ownBlock] at e;omega);refine hK.out _ _ ((qV.rd hi).1) fun hHeld=>?_;clear hK K;(try simp only[pS]);refine bL 14 fun K hK=>?_;refine aM rfl _ _ 65 rfl w4.heap.size 96 i0 (.agg #[.string ⟨#[]⟩,.string ⟨#[]⟩]) 2 32 Tryz.underlying65 hi0 hz0 hz1 hz2 rfl (by decide) _ d (fM l1) rfl o7 _ b (fM l2) rfl hyb s2 (gN _) ?c4 ?c5 SB ?_
 case c4=>unfold maxLen;omega
 case c5=>omega
 intro v8 w8 o8 g8 f8;rw[←jM] at o8;have hb48:Below w4.heap.size w4 w8:=zl.grown g8 zl.size (fun j hj=>(o7.lt j hj).1);have jo:=yw.out.trans (hb48.mono yw.out.size);have PE:=HM.out w8 jo;obtain⟨A8,c8,rfl⟩:=o8.form;have VP:(l1++l2).length=d+b:=by rw[List.length_append,HDR.out.2.2.1,HDR.out.2.2.2.1]
 obtain⟨_,fz,hcells,tV,xH⟩:=(HM.out w4 yw.out).nk (sl:=⟨A8,d+b,c8⟩) (l':=l1++l2) hi (Below.refl _ w4) (ak hb48 _) (by rw[VP];exact o8.lower (by have:=yw.out.size;omega)) (.inr fun k hk=>(o8.lt k hk).1);have hpc:=hcells i 2 hi (by omega);rw[show (pR (f i))[2]?=some ((f i).a.v) from rfl,HDR.out.2.2.2.2] at hpc;have zw:=aO.grown g8 (fun e=>by have:=(o7.lt _ e.symm).1;omega);obtain⟨w9,wu⟩:∃ w9,w8.setCell ⟨g,i*7+2,none⟩ (.slice A8 (d+b) c8)=w9:=⟨_,rfl⟩
 rw[show (Tr.Sl.v ⟨A8,d+b,c8⟩)=.slice A8 (d+b) c8 from rfl,wu] at tV xH;have gg:w8.grownBy w9 (some g):=by rw[←wu];exact aL (ak (Below.refl w8.heap.size w8) _) _ _
 have fH:=zw.grown gg (fun e=>by injection e with e;omega);have ZI:=(tV.rd hi).1;have hS8:=(PE.rd hi).1;rw[←HDR.out.1] at tV xH;have Uu:w.heap.size≤w9.heap.size:=by have:=gg.size;have:=jo.size;omega
 have qd:=(Below.refl _ w9).alloc (Nat.le_refl _) (.cells #[.int .i64 3,.int .i64 (i:Int),.int .i64 (-1),.int .i64 (-1),.int .i64 (-1),.int .i64 0,.string nm,.string p.2,.bool true,.int .i64 0,.int .i64 0] 147);have bf:=zh (And.intro (nQ w9 (fV i nm p.2 true) w.heap.size Uu) (And.intro (tV.below qd) (((ay.of_below yw.out).trans xH).trans (.of_below qd))));have zc0:w9.cell? ⟨w.heap.size,0,none⟩=some (.int .i64 3):=fH.cell 0;have aa5:=fH.free 0;have zc1:w9.cell? ⟨w.heap.size,1,none⟩=some (.int .i64 (i:Int)):=fH.cell 1;have aa6:=fH.free 1;have zc2:w9.cell? ⟨w.heap.size,2,none⟩=some (.int .i64 (-1)):=fH.cell 2;have aa7:=fH.free 2;have zc3:w9.cell? ⟨w.heap.size,3,none⟩=some (.int .i64 (-1)):=fH.cell 3;have aa8:=fH.free 3;have zc4:w9.cell? ⟨w.heap.size,4,none⟩=some (.int .i64 (-1)):=fH.cell 4;have aa9:=fH.free 4;have zc5:w9.cell? ⟨w.heap.size,5,none⟩=some (.int .i64 0):=fH.cell 5;have abb:=fH.free 5;have zc6:w9.cell? ⟨w.heap.size,6,none⟩=some (.string nm):=fH.cell 6;have abd:=fH.free 6;have zc7:w9.cell? ⟨w.heap.size,7,none⟩=some (.string p.2):=fH.cell 7;have abe:=fH.free 7;have zc8:w9.cell? ⟨w.heap.size,8,none⟩=some (.bool true):=fH.cell 8;have abf:=fH.free 8;have zc9:w9.cell? ⟨w.heap.size,9,none⟩=some (.int .i64 0):=fH.cell 9;have abg:=fH.free 9;have abh:w9.cell? ⟨w.heap.size,10,none⟩=some (.int .i64 0):=fH.cell 10;have aaI:=fH.free 10;clear tV xH qd fH zw aO hcells gg hb48 zl lK jo qV PE o7 o8 g8 f7 f8 g7 s2 VP Uu;refine hK.out _ _ (hS8) fun hHeld=>?_;clear hK K;(try simp only[pS]);refine bD [15,16] ?_;iterate 2 (refine iZ ?_;try simp only[pS])
 refine bE ?_;refine bL 17 fun K hK=>?_;go_simp;(try rw[wu]);refine hK.out _ _ (ZI) fun hHeld=>?_;clear hK K;(try simp only[pS]);refine fB ?_;go_wp2_with fail;all_goals go_ret2
 all_goals
  obtain⟨z1,z2,z3⟩:=bf.out
  first
   | (refine⟨_,⟨A8,d+b,c8⟩,rfl,?_,z2,z3⟩;rw[HDR.out.2.1];exact z1)
   | (refine⟨_,rfl,?_,⟨A8,d+b,c8⟩,z2,z3⟩;rw[HDR.out.2.1];exact z1)
end
section
open Go.RowKit
variable [nX]
theorem Tr.OH {g:Tr.G} {h x:Int} {q:Tr.GN} (e:Tr.dN g h x=some q):∃ y,g x=some y∧y.attrs=q.attrs:=by
 unfold Tr.dN at e
 split at e
 ·exact⟨q,e,rfl⟩
 ·unfold Tr.jB at e
  split at e
  ·rename_i hx;subst hx;cases e2:g x with
   | none=>rw[e2] at e;cases e
   | some y=>rw[e2] at e;obtain rfl:=Option.some.inj e;exact⟨y,rfl,rfl⟩
  ·split at e
   ·cases e2:g x with
    | none=>rw[e2] at e;cases e
    | some y=>rw[e2] at e;obtain rfl:=Option.some.inj e;exact⟨y,rfl,rfl⟩
   ·exact⟨q,e,rfl⟩
theorem Tr.OI {g:Tr.G} {p h c x:Int} {q:Tr.GN} (e:Tr.bP g p h c x=some q):∃ y,g x=some y∧y.attrs=q.attrs:=by
 unfold Tr.bP at e
 split at e
 ·rename_i hx;subst hx;cases e2:g x with
  | none=>rw[e2] at e;cases e
  | some y=>rw[e2] at e;obtain rfl:=Option.some.inj e;exact⟨y,rfl,rfl⟩
 ·split at e
  ·rename_i hx;subst hx;cases e2:g x with
   | none=>rw[e2] at e;cases e
   | some y=>rw[e2] at e;obtain rfl:=Option.some.inj e;exact⟨y,rfl,rfl⟩
  ·exact⟨q,e,rfl⟩
theorem OJ {a:Tr.G} {p i c x:Int} (hx:x≠i):(Tr.kR a p i c x).map (·.pa)=(a x).map (·.pa):=by
 unfold Tr.kR;rw[if_neg hx]
 split
 ·rename_i e;subst e;cases a x<;>rfl
 ·rfl
theorem OL {a:Tr.G} {i x:Int} (hx:x≠i):(dA a i x).map (·.pa)=(a x).map (·.pa):=by
 unfold dA
 split
 ·rfl
 ·unfold Tr.tZ;rw[if_neg hx]
  split
  ·cases a x<;>rfl
  ·rfl
theorem Ef {m:Nat} {f2:Nat→RS} {l:List Int} {p i:Nat} {c:Int} (hk:(f2 p).kids=Tr.iL l c (i:Int)) (hx:(i:Int)∉l) (hl:(-1:Int)∉l) (hc:c = -1∨c∈l):jr l p i c=kE m f2 1 i p:=by
 unfold kE;rw[hk];rcases hc with rfl | hc
 ·have q1:=sK l [];have q2:=Ae l [];rw[List.append_nil] at q1 q2;rw[Tr.uW hl,zm l p i rfl,Tr.fq hx,vV,sK,q1,q2]
 ·have hc1:c ≠ -1:=fun e=>hl (e▸hc);obtain⟨l1,l2,rfl,hn⟩:∃ l1 l2,l=l1++c::l2∧c∉l1:=List.eq_append_cons_of_mem hc;have hx1:(i:Int)∉l1:=fun h=>hx (by simp[h]);rw[Tr.uI hn,BU _ p i hc1 rfl,Tr.fq hn,Tr.fq hx1,vV,sK,sK,Ae]
variable {w w3 w4:World} {base bM T B M:Nat} {b s:Int} {vs vf aT vh:Value} {n live m:Nat} {fr:List Nat} {av:Int→Tr.Sl} {f f2:Nat→RS} {hs:List Int} {g:Tr.G} {K:Nat}
theorem TW.yK (H:TW w base bM T B M b s vs vf aT vh n live m fr av f hs g K) {i:Nat} (hi:i<m) (hg:(f i).gone=false):Tr.Im (hof hs) (dA (mg m f) (i:Int)) (Tr.dN g (hof hs (i:Int))):=by
 have ei:=aQ hi hg;have eg:=H.eY hi hg;have hpa:Tr.dI g (hof hs (i:Int))=hof hs (f i).pa:=Tr.aP eg;have hpm:Tr.dI (mg m f) (i:Int)=(f i).pa:=Tr.aP ei;by_cases h1:(f i).pa = -1
 ·have e1:dA (mg m f) (i:Int)=mg m f:=by unfold dA;rw[if_pos (hpm.trans h1)]
  have e2:Tr.dN g (hof hs (i:Int))=g:=by unfold Tr.dN;rw[if_pos (by rw[hpa,h1];exact H.im.zero)]
  rw[e1,e2];exact H.im
 ·have hl:(mg m f (f i).pa).isSome:=(H.im.pa _ _ ei).resolve_left h1;have e1:dA (mg m f) (i:Int)=Tr.tZ (mg m f) (i:Int):=by unfold dA;rw[if_neg (by rw[hpm];exact h1)]
  have e2:Tr.dN g (hof hs (i:Int))=Tr.jB g (hof hs (i:Int)):=by unfold Tr.dN;rw[if_neg (by rw[hpa];exact H.im.nz _ hl)]
  rw[e1,e2];exact H.im.cut H.wf ei h1
theorem TW.linked (H:TW w base bM T B M b s vs vf aT vh n live m fr av f hs g K) {i p:Nat} {c':Int} {f2:Nat→RS} {q1:Tr.GN} (hi:i<m) (hg:(f i).gone=false) (hpm:p<m) (hpg:(f p).gone=false) (hpi:p≠i) (i0:i≠0)
  (hu:hof hs (i:Int)∉Tr.dz g (hof hs (p:Int))) (hlim:(Tr.dz g (hof hs (p:Int))).length+Tr.gB g (hof hs (i:Int))≤128)
  (hcl:Tr.Lv (dA (mg m f) (i:Int)) c') (E5:Tr.dN g (hof hs (i:Int)) (hof hs (p:Int))=some q1) (hc1:hof hs c'=0∨hof hs c'∈q1.kids)
  (tv':TV base w3 B b s vs n (Tr.raw (Tr.bP (Tr.dN g (hof hs (i:Int))) (hof hs (p:Int)) (hof hs (i:Int)) (hof hs c')) av) vf fr live (hof hs 0)) (st:ay w w3 (aD B vs vf) (aD B vs vf))
  (mv':MV bM w4 M aT m f2) (stM:ay w3 w4 (aB M aT m f) (aB M aT m f2)) (hm2:mg m f2=Tr.kR (dA (mg m f) (i:Int)) p i c') (hk2:∀ j,qQ (f2 j) (f j)):
  TW w4 base bM T B M b s vs vf aT vh n live m fr av f2 hs (Tr.bP (Tr.dN g (hof hs (i:Int))) (hof hs (p:Int)) (hof hs (i:Int)) (hof hs c')) (K+1):=by
 have eg:=H.eY hi hg;have O7:=H.yK hi hg;have hw1:=H.wf.dN eg;have hS1:=uF H.so H.wf eg;have EZ:=Tr.wN eg;have xG:hof hs (i:Int)≠hof hs (p:Int):=fun e=>by
  have:=H.im.inj (i:Int) (p:Int) (by rw[aQ hi hg];rfl) (by rw[aQ hpm hpg];rfl) e;omega
 have hi1:(dA (mg m f) (i:Int) (i:Int)).isSome:=by
  unfold dA Tr.tZ
  split
  ·rw[aQ hi hg];rfl
  ·dsimp only;rw[if_pos rfl,aQ hi hg];rfl
 have hp1:(dA (mg m f) (i:Int) (p:Int)).isSome:=by
  unfold dA Tr.tZ
  split
  ·rw[aQ hpm hpg];rfl
  ·dsimp only;rw[if_neg (by omega)]
   split
   ·rw[aQ hpm hpg];rfl
   ·rw[aQ hpm hpg];rfl
 obtain⟨ni,ei1⟩:=Option.isSome_iff_exists.1 hi1;obtain⟨np,O8⟩:=Option.isSome_iff_exists.1 hp1;have im':Tr.Im (hof hs) (mg m f2) (Tr.bP (Tr.dN g (hof hs (i:Int))) (hof hs (p:Int)) (hof hs (i:Int)) (hof hs c')):=by
  rw[hm2];exact O7.link hw1 ei1 O8 (by omega) hcl
 have hS2:=qA hS1 hw1 EZ rfl E5 xG hc1;have hw2:=hw1.link (c:=hof hs c') EZ rfl E5 (by rw[H.wf.Dc eg hu];exact hu) (by rw[H.wf.Dc eg hu,H.wf.Jz eg];exact hlim);refine H.step tv' hS2 st ?_ hw2 mv' stM im' ?_ ?_ ?_ H.nm ?_ ?_
 ·refine AT.same (H.at'.step H.tv st) fun x q e=>?_;obtain⟨y,e1,e2⟩:=Tr.OI e;obtain⟨z,e3,e4⟩:=Tr.OH e1;exact⟨z,e3,e4.trans e2⟩
 ·exact⟨by rw[(hk2 0).2.1];exact H.km.1,fun j hj h0=>by rw[(hk2 j).2.1];exact H.km.2 j hj h0⟩
 ·rw[(hk2 0).1];exact H.g0
 ·intro j hj hgj;rw[(hk2 j).1] at hgj;exact H.gn j hj hgj
 ·have h0:0<m:=H.m0;have g0:(f2 0).gone=false:=by rw[(hk2 0).1];exact H.g0
  have e2:mg m f2 ((0:Nat):Int)=some (jX (f2 0)):=aQ h0 g0;have e3:mg m f ((0:Nat):Int)=some (jX (f 0)):=aQ h0 H.g0;have hne:((0:Nat):Int)≠(i:Int):=by omega
  have e4:=(OJ (a:=dA (mg m f) (i:Int)) (p:=(p:Int)) (c:=c') hne).trans (OL (a:=mg m f) hne);rw[←hm2,e2,e3] at e4;have e5:(f2 0).pa=(f 0).pa:=Option.some.inj e4;rw[e5];exact H.d0
 ·intro j hj;rw[(hk2 j).2.2.1,(hk2 j).2.2.2];have:=H.bd j hj;exact⟨by omega,by omega,this.2.2⟩
theorem TW.placed (H:TW w base bM T B M b s vs vf aT vh n live m fr av f2 hs g K) {i p:Nat} {l:List Int} {c:Int} (hi:i<m) (hg:(f2 i).gone=false) (hp:(f2 i).pa=(p:Int)) (hk:(f2 p).kids=Tr.iL l c (i:Int)) (hx:(i:Int)∉l) (hl:(-1:Int)∉l) (hc:c = -1∨c∈l):
  Tr.jH g 1 (hof hs (i:Int))=rM (hof hs) (jr l p i c):=by
 rw[Ef (m:=m) hk hx hl hc];exact H.im.place H.wf 1 hi hg hp
end
section
open Go.RowKit
variable [nX]
def vX (m:Nat) (f:Nat→RS) (h:Nat):List Tr.Rec:=if (f h).pa = -1 then [] else [kE m f 2 h (f h).pa.toNat]
theorem Aj {m:Nat} {f:Nat→RS} {h:Nat} (e:(f h).pa = -1):vX m f h=[]:=if_pos e
theorem Gx {m:Nat} {f:Nat→RS} {h q:Nat} (e:(f h).pa=(q:Int)):vX m f h=[kE m f 2 h q]:=by
 unfold vX;rw[if_neg (by omega),e,Int.toNat_natCast]
theorem Eh {m:Nat} {f:Nat→RS} {h:Nat} (hw:Tr.WF (-1) (mg m f)) (hhm:h<m) (uP:(f h).gone=false):(f h).pa = -1∨∃ q:Nat,(f h).pa=(q:Int)∧q<m∧(f q).gone=false∧q≠h:=by
 rcases hw.pa (aQ hhm uP) with e | ⟨n,e,_⟩
 ·exact .inl e
 ·obtain⟨q',e1,e2,e3,_⟩:=lQ e;have e5:(f h).pa=(q':Int):=e1;exact .inr ⟨q',e5,e2,e3,fun e4=>hw.iD (aQ hhm uP) (by show (f h).pa=_;rw[e5,e4])⟩
theorem Jc (base M m:Nat) (vs:Value) (f:Nat→RS) (p h:Nat) (c:Int) (w:World) (H:MV base w M vs m f) (hw:Tr.WF (-1) (mg m f)) (hpm:p<m) (hpg:(f p).gone=false) (hhm:h<m) (uP:(f h).gone=false) (Ib:(f 0).gone=false) (hm:m≤100000)
  (hch:jK m f p h=true) (hc:c = -1∨∃ j:Nat,c=(j:Int)∧j<m∧(f j).pa=(p:Int)) (hlim:(Tr.dz (mg m f) (p:Int)).length+Tr.gB (mg m f) (h:Int)≤128) (xG:p≠h) (hw1:Tr.WF (-1) (dA (mg m f) (h:Int))) (hcin:gM (mg m f) h c = -1∨gM (mg m f) h c∈Tr.aj (dA (mg m f) (h:Int)) (p:Int)):
  Calls Tryz.prog 50 #[.pointer (some ⟨M,0,none⟩),.int .i64 (p:Int),.int .i64 (h:Int),.int .i64 c] w fun e w'=>∃ r,e=.returned (.tuple #[r,.int .i64 0])∧jI w.heap.size w' r (vX m f h++[jr (Tr.aj (dA (mg m f) (h:Int)) (p:Int)) p h (gM (mg m f) h c)])∧
   ∃ f2,MV base w' M vs m f2∧ay w w' (aB M vs m f) (aB M vs m f2)∧mg m f2=Tr.kR (dA (mg m f) (h:Int)) p h (gM (mg m f) h c)∧∀ j,qQ (f2 j) (f j):=by
 refine FD base M m vs f p h c w H hw hpm hpg hhm uP Ib hm hch hc hlim xG hw1 hcin _ ?_;rcases Eh hw hhm uP with e | ⟨q,e,-⟩
 ·exact .inl ⟨e,Aj e⟩
 ·exact .inr ⟨q,e,Gx e⟩
variable {w:World} {base bM T B M:Nat} {b s:Int} {vs vf aT vh:Value} {n live m:Nat} {fr:List Nat} {av:Int→Tr.Sl} {f:Nat→RS} {hs:List Int} {g:Tr.G} {K:Nat}
theorem TW.fZ (H:TW w base bM T B M b s vs vf aT vh n live m fr av f hs g K) {i:Nat} (hi:i<m) (hg:(f i).gone=false):Tr.fZ g (hof hs (i:Int))=(vX m f i).map (rM (hof hs)):=by
 have eg:=H.eY hi hg;have hpa:Tr.dI g (hof hs (i:Int))=hof hs (f i).pa:=Tr.aP eg;unfold Tr.fZ;rcases Eh (H.im.pull H.wf) hi hg with e | ⟨q,e,hq1,hq2,-⟩
 ·rw[Aj e,if_pos (by rw[hpa,e];exact H.im.zero)];rfl
 ·rw[Gx e,if_neg (by rw[hpa,e];exact H.im.nz _ (by rw[aQ hq1 hq2];rfl))];rw[H.im.place H.wf 2 hi hg e];rfl
theorem TW.oL (H:TW w base bM T B M b s vs vf aT vh n live m fr av f hs g K) {i:Nat} (hi:i<m) (hg:(f i).gone=false) {c:Int} (hc:c = -1∨(mg m f c).isSome) (hp:c=(i:Int)→(f i).pa ≠ -1):hof hs (gM (mg m f) i c)=Tr.oL g (hof hs (i:Int)) (hof hs c):=by
 have ei:=aQ hi hg;have eg:=H.eY hi hg;have li:(mg m f (i:Int)).isSome:=by rw[ei];rfl
 unfold gM Tr.oL;by_cases e:c=(i:Int)
 ·rw[if_pos e,if_pos (by rw[e])];rcases Eh (H.im.pull H.wf) hi hg with e1 | ⟨q,e1,hq1,hq2,-⟩
  ·exact absurd e1 (hp e)
  ·obtain⟨-,-,l1,l2,hL,n1,n2,n3⟩:=H.im.split H.wf hi hg e1;have hpm:Tr.dI (mg m f) (i:Int)=(q:Int):=(Tr.aP ei).trans e1;have hpg:Tr.dI g (hof hs (i:Int))=hof hs (q:Int):=by rw[Tr.aP eg];show hof hs (f i).pa=_;rw[e1]
   have hk1:Tr.aj (mg m f) (q:Int)=l1++(i:Int)::l2:=(Tr.aR (aQ hq1 hq2)).trans hL;have hk2:Tr.aj g (hof hs (q:Int))=(l1++(i:Int)::l2).map (hof hs):=by rw[H.im.kid (aQ hq1 hq2)];show (f q).kids.map _=_;rw[hL]
   rw[hpm,hpg,hk1,hk2,Tr.fq n1,vV,List.map_append,List.map_cons,Tr.gV n2,Ov H.im.zero]
 ·rw[if_neg e,if_neg];intro e2;rcases hc with rfl | hc
  ·exact H.im.nz _ li (by rw[←e2];exact H.im.zero)
  ·exact e (H.im.inj _ _ hc li e2)
end
section
open Go.RowKit
variable [nX]
theorem TU (l:List Int) (i:Int):wR l i = -1∨wR l i∈l:=by
 unfold wR
 split
 ·exact .inl rfl
 ·cases e:l[i.toNat]? with
  | none=>exact .inl rfl
  | some y=>exact .inr (List.mem_of_getElem? e)
theorem tQ (a:Tr.G) (i x:Int):(dA a i x).isSome=(a x).isSome:=by
 unfold dA
 split
 ·rfl
 ·unfold Tr.tZ
  split
  ·rename_i e;subst e;cases a x<;>rfl
  ·split
   ·cases a x<;>rfl
   ·rfl
variable {w:World} {base bM T B M:Nat} {b s:Int} {vs vf aT vh:Value} {n live m:Nat} {fr:List Nat} {av:Int→Tr.Sl} {f:Nat→RS} {hs:List Int} {g:Tr.G} {K:Nat}
theorem TW.Xl (H:TW w base bM T B M b s vs vf aT vh n live m fr av f hs g K) {i:Nat} (hi:i<m) (hg:(f i).gone=false) {c:Int} (hc:c = -1∨(mg m f c).isSome):Tr.Lv (dA (mg m f) (i:Int)) (gM (mg m f) i c):=by
 unfold Tr.Lv;rw[tQ];unfold gM
 split
 ·rcases TU (Tr.aj (mg m f) (Tr.dI (mg m f) (i:Int))) (((Tr.aj (mg m f) (Tr.dI (mg m f) (i:Int))).idxOf (i:Int):Nat)+1) with e | e
  ·exact .inl e
  ·refine .inr ?_;cases e2:mg m f (Tr.dI (mg m f) (i:Int)) with
   | none=>rw[show Tr.aj (mg m f) (Tr.dI (mg m f) (i:Int))=[] by unfold Tr.aj;rw[e2]] at e;exact absurd e (by unfold wR;split<;>simp)
   | some q=>exact H.im.kids _ q e2 _ (by rw[←Tr.aR e2];exact e)
 ·exact hc
theorem TW.Rx (H:TW w base bM T B M b s vs vf aT vh n live m fr av f hs g K) {i p:Nat} (hi:i<m) (hg:(f i).gone=false) (hpm:p<m) (hpg:(f p).gone=false) (hu:hof hs (i:Int)∉Tr.dz g (hof hs (p:Int))) {c:Int}
  (hc:c = -1∨∃ j:Nat,c=(j:Int)∧j<m∧(f j).gone=false∧(f j).pa=(p:Int)):
  Tr.Lv (dA (mg m f) (i:Int)) (gM (mg m f) i c)∧hof hs (gM (mg m f) i c)=Tr.oL g (hof hs (i:Int)) (hof hs c)∧
   (gM (mg m f) i c = -1∨gM (mg m f) i c∈Tr.aj (dA (mg m f) (i:Int)) (p:Int))∧
   ∃ q1,Tr.dN g (hof hs (i:Int)) (hof hs (p:Int))=some q1∧(hof hs (gM (mg m f) i c)=0∨hof hs (gM (mg m f) i c)∈q1.kids):=by
 have eg:=H.eY hi hg;have ep:=H.eY hpm hpg;have O7:=H.yK hi hg;have hcl:c = -1∨(mg m f c).isSome:=by
  rcases hc with e | ⟨j,rfl,h1,h2,-⟩
  ·exact .inl e
  ·exact .inr (by rw[aQ h1 h2];rfl)
 have hL:=H.Xl hi hg hcl;have hE:=H.oL hi hg hcl (fun e=>by
  rcases hc with e1 | ⟨j,e1,h1,h2,h3⟩
  ·omega
  ·obtain rfl:j=i:=by omega
   omega)
 obtain⟨q1,e1,e2⟩:=Tr.E8 (c:=hof hs c) H.wf eg ep hu (by
  rcases hc with rfl | ⟨j,rfl,h1,h2,h3⟩
  ·exact .inl H.im.zero
  ·have ej:=H.eY h1 h2;refine .inr ⟨?_,by rw[ej];rfl⟩
   rw[Tr.aP ej];show hof hs (f j).pa=_;rw[h3])
 rw[←hE] at e2;refine⟨hL,hE,?_,q1,e1,e2⟩;have hpl:(dA (mg m f) (i:Int) (p:Int)).isSome:=by rw[tQ,aQ hpm hpg];rfl
 obtain⟨np,O8⟩:=Option.isSome_iff_exists.1 hpl;have e3:=O7.node _ _ O8;rw[e1] at e3;obtain rfl:=Option.some.inj e3;rcases hL with h1 | h1
 ·exact .inl h1
 ·rcases e2 with e2 | e2
  ·exact absurd e2 (O7.nz _ h1)
  ·exact .inr (by rw[Tr.aR O8];exact (O7.mem (O7.kids _ _ O8) h1).1 e2)
theorem Jd {a:Tr.G} {i:Int} {n:Tr.GN} (e:dA a i i=some n):n.pa = -1:=by
 unfold dA at e
 split at e
 ·rename_i h1;rw[←Tr.aP e];exact h1
 ·unfold Tr.tZ at e;rw[if_pos rfl] at e;cases e2:a i with
  | none=>rw[e2] at e;cases e
  | some y=>rw[e2] at e;obtain rfl:=Option.some.inj e;rfl
theorem TW.inserted {w3 w4:World} {f2:Nat→RS} (H:TW w base bM T B M b s vs vf aT vh n live m fr av f hs g K) {i p:Nat} (hi:i<m) (hg:(f i).gone=false) (hpm:p<m) (hpg:(f p).gone=false) (hpi:p≠i) (i0:i≠0)
  (hu:hof hs (i:Int)∉Tr.dz g (hof hs (p:Int))) (hlim:(Tr.dz g (hof hs (p:Int))).length+Tr.gB g (hof hs (i:Int))≤128) {c:Int}
  (hc:c = -1∨∃ j:Nat,c=(j:Int)∧j<m∧(f j).gone=false∧(f j).pa=(p:Int))
  (tv':TV base w3 B b s vs n (Tr.raw (Tr.bP (Tr.dN g (hof hs (i:Int))) (hof hs (p:Int)) (hof hs (i:Int)) (Tr.oL g (hof hs (i:Int)) (hof hs c))) av) vf fr live (hof hs 0)) (st:ay w w3 (aD B vs vf) (aD B vs vf))
  (mv':MV bM w4 M aT m f2) (stM:ay w3 w4 (aB M aT m f) (aB M aT m f2)) (hm2:mg m f2=Tr.kR (dA (mg m f) (i:Int)) p i (gM (mg m f) i c)) (hk2:∀ j,qQ (f2 j) (f j)):
  TW w4 base bM T B M b s vs vf aT vh n live m fr av f2 hs (Tr.bP (Tr.dN g (hof hs (i:Int))) (hof hs (p:Int)) (hof hs (i:Int)) (Tr.oL g (hof hs (i:Int)) (hof hs c))) (K+1)∧
   (vX m f i++[jr (Tr.aj (dA (mg m f) (i:Int)) (p:Int)) p i (gM (mg m f) i c)]).map (rM (hof hs))=
    Tr.fZ g (hof hs (i:Int))++[Tr.jH (Tr.bP (Tr.dN g (hof hs (i:Int))) (hof hs (p:Int)) (hof hs (i:Int)) (Tr.oL g (hof hs (i:Int)) (hof hs c))) 1 (hof hs (i:Int))]:=by
 obtain⟨hL,hE,hin,q1,e1,e2⟩:=H.Rx hi hg hpm hpg hu hc;rw[←hE] at tv' ⊢;have HT:=H.linked hi hg hpm hpg hpi i0 hu hlim hL e1 e2 tv' st mv' stM hm2 hk2;refine⟨HT,?_⟩;have O7:=H.yK hi hg;have hw1:=O7.pull (H.wf.dN (H.eY hi hg));have hi1:(dA (mg m f) (i:Int) (i:Int)).isSome:=by rw[tQ,aQ hi hg];rfl
 have hp1:(dA (mg m f) (i:Int) (p:Int)).isSome:=by rw[tQ,aQ hpm hpg];rfl
 obtain⟨ni,ei1⟩:=Option.isSome_iff_exists.1 hi1;obtain⟨np,O8⟩:=Option.isSome_iff_exists.1 hp1;have g2i:(f2 i).gone=false:=by rw[(hk2 i).1];exact hg
 have g2p:(f2 p).gone=false:=by rw[(hk2 p).1];exact hpg
 have a1:mg m f2 (i:Int)=some (jX (f2 i)):=aQ hi g2i;have a2:mg m f2 (p:Int)=some (jX (f2 p)):=aQ hpm g2p;rw[hm2] at a1 a2;unfold Tr.kR at a1 a2;rw[if_pos rfl,ei1] at a1;have Tv:(p:Int)≠(i:Int):=fun e=>hpi (by clear hc;omega);rw[if_neg Tv,if_pos rfl,O8] at a2;have b1:(f2 i).pa=(p:Int):=congrArg Tr.GN.pa (Option.some.inj a1).symm;have b2:(f2 p).kids=Tr.iL np.kids (gM (mg m f) i c) (i:Int):=congrArg Tr.GN.kids (Option.some.inj a2).symm;have hk:=Tr.aR O8;rw[hk] at hin ⊢;have hx:(i:Int)∉np.kids:=fun hm=>by
  obtain⟨y,e3,e4⟩:=hw1.down _ _ _ O8 hm;have e5:=Jd e3;rw[e4] at e5;exact absurd e5 (by clear hc;omega)
 have hl:(-1:Int)∉np.kids:=fun hm=>by
  have:=O7.kids _ _ O8 _ hm;rw[O7.neg] at this;cases this
 rw[List.map_append,←H.fZ hi hg,HT.placed hi g2i b1 b2 hx hl hin];rfl
end
section
open Go.RowKit
variable [nX]
def OM (m:Nat) (f:Nat→RS) (ib ia:Nat) (c:Int):Prop:=jK m f ib ia=true∧(c = -1∨∃ j:Nat,c=(j:Int)∧j<m∧(f j).gone=false∧(f j).pa=(ib:Int))∧(Tr.dz (mg m f) (ib:Int)).length+Tr.gB (mg m f) (ia:Int)≤128
def Qz (m:Nat) (f:Nat→RS) (ib ia:Nat) (c:Int) (f':Nat→RS) (lm:List Tr.Rec):Prop:=
 (OM m f ib ia c∧mg m f'=Tr.kR (dA (mg m f) (ia:Int)) ib ia (gM (mg m f) ia c)∧lm=vX m f ia++[jr (Tr.aj (dA (mg m f) (ia:Int)) (ib:Int)) ib ia (gM (mg m f) ia c)])∨(¬ OM m f ib ia c∧f'=f∧lm=[])
def aaE (base bM T B M:Nat) (b s:Int) (vs vf aT vh:Value) (n live m:Nat) (fr:List Nat) (av:Int→Tr.Sl) (f:Nat→RS) (hs:List Int) (K:Nat) (ib ia:Nat) (c:Int) (w0:Nat) (E:Int) (v:Value) (lm:List Tr.Rec) (V3:World) (e:Ending) (w4:World):Prop:=
 ∃ (r:Value) (f2:Nat→RS) (g2:Tr.G),e=.returned (.tuple #[r,.int .i64 E])∧jI V3.heap.size w4 r lm∧bO w0 w4 v (lm.map (rM (hof hs)))∧ay V3 w4 (aB M aT m f) (aB M aT m f2)∧
  Qz m f ib ia c f2 lm∧TW w4 base bM T B M b s vs vf aT vh n live m fr av f2 hs g2 (K+1)
def Xm (base bM T B M:Nat) (b s:Int) (vs vf aT vh:Value) (n live m:Nat) (fr:List Nat) (av:Int→Tr.Sl) (f:Nat→RS) (hs:List Int) (K:Nat) (ib ia:Nat) (c:Int) (w:World) (e:Ending) (w3:World):Prop:=
 ∃ (v:Value) (E:Int) (lm:List Tr.Rec),e=.returned (.tuple #[v,.int .i64 E])∧(E=0∨E=5∨E=10)∧lm.length≤2∧(∃ A n c,v=.slice A n c)∧nV w3 T B M vh hs∧MV bM w3 M aT m f∧ay w w3 (aD B vs vf) (aD B vs vf)∧
  ∀ V3,Below w3.heap.size w3 V3→Calls Tryz.prog 50 #[.pointer (some ⟨M,0,none⟩),.int .i64 (ib:Int),.int .i64 (ia:Int),.int .i64 c] V3 (aaE base bM T B M b s vs vf aT vh n live m fr av f hs K ib ia c w.heap.size E v lm V3)
variable {w:World} {base bM T B M:Nat} {b s:Int} {vs vf aT vh:Value} {n live m:Nat} {fr:List Nat} {av:Int→Tr.Sl} {f:Nat→RS} {hs:List Int} {g:Tr.G} {K:Nat}
theorem TW.Xn (H:TW w base bM T B M b s vs vf aT vh n live m fr av f hs g K) {ib ia:Nat} {c E:Int} {w3:World} (hb3:Below w.heap.size w w3) (hno:¬ OM m f ib ia c) (hE:E=0∨E=5∨E=10)
  (hR:∀ V3,MV bM V3 M aT m f→Calls Tryz.prog 50 #[.pointer (some ⟨M,0,none⟩),.int .i64 (ib:Int),.int .i64 (ia:Int),.int .i64 c] V3 fun e w'=>e=.returned (nG E)∧w'=V3):
  Xm base bM T B M b s vs vf aT vh n live m fr av f hs K ib ia c w (.returned (nG E)) w3:=by
 have H3:=H.below hb3;refine⟨_,E,[],rfl,hE,by simp,⟨_,_,_,rfl⟩,H3.tw,H3.mv,.of_below hb3,fun V3 hb=>?_⟩;have H5:=H3.below hb;refine (hR V3 H5.mv).mono ?_;rintro e w4 ⟨rfl,e4⟩;rw[e4];exact⟨_,f,g,rfl,World.ownsRow_nil _ _ _ _,World.ownsRow_nil _ _ _ _,.of_below (Below.refl _ _),.inr ⟨hno,rfl,rfl⟩,H5.up⟩
theorem xC (H:TW w base bM T B M b s vs vf aT vh n live m fr av f hs g K) (hm:m≤100000) {ia ib:Nat} (hia:ia<m) (hga:(f ia).gone=false) (hib:ib<m) (hgb:(f ib).gone=false) {c:Int} (hc:c = -1∨∃ j:Nat,c=(j:Int)∧j<m∧(f j).gone=false):
  Calls Tryz.prog 19 #[.pointer (some ⟨B,0,none⟩),.int .i64 (hof hs (ib:Int)),.int .i64 (hof hs (ia:Int)),.int .i64 (hof hs c)] w (Xm base bM T B M b s vs vf aT vh n live m fr av f hs K ib ia c w):=by
 have ea:=H.eY hia hga;have eb:=H.eY hib hgb;have la:(mg m f (ia:Int)).isSome:=by rw[aQ hia hga];rfl
 have lb:(mg m f (ib:Int)).isSome:=by rw[aQ hib hgb];rfl
 have hcs:hof hs c≠0→(g (hof hs c)).isSome:=by
  rcases hc with rfl | ⟨j,rfl,h1,h2⟩
  ·exact fun h=>absurd H.im.zero h
  ·intro _;rw[H.eY h1 h2];rfl
 have hpa:∀ j:Nat,j<m→(f j).gone=false→(Tr.dI g (hof hs (j:Int))=hof hs (ib:Int)↔(f j).pa=(ib:Int)):=fun j hj hgj=>by
  have e1:Tr.dI g (hof hs (j:Int))=hof hs (f j).pa:=Tr.aP (H.eY hj hgj);rw[e1];refine⟨fun e=>H.im.Tt (H.im.pa _ _ (aQ hj hgj)) (.inr lb) e,fun e=>by rw[e]⟩
 have IN:rQ base B b s (hof hs 0) (hof hs (ib:Int)) (hof hs (ia:Int)) (hof hs c) live n g av fr vs vf _ _ w:=⟨H.tv,H.so,H.wf,eb,ea,hcs⟩
 have Xo:=H.im.accepts H.wf H.km H.m0 H.g0 hib hgb hia hga;have Nw:(Tr.dz g (hof hs (ib:Int))).length=(Tr.dz (mg m f) (ib:Int)).length:=by rw[H.im.up H.wf (.inr lb),List.length_map]
 have TY:Tr.gB g (hof hs (ia:Int))=Tr.gB (mg m f) (ia:Int):=H.im.hgt H.wf _ la;have pJ:=H.im.pull H.wf;by_cases hT:jK m f ib ia=false∨∃ j:Nat,c=(j:Int)∧j<m∧(f j).pa≠(ib:Int)
 ·refine (Gi base B b s (hof hs 0) _ _ _ live n g av fr vs vf _ _ w IN ?_).mono ?_
  ·rcases hT with h1 | ⟨j,rfl,hj,h2⟩
   ·rw[Xo,Bool.and_eq_false_iff] at h1;rcases h1 with h1 | h1
    ·exact .inl h1
    ·refine .inr (.inl ?_);simpa using h1
   ·have hgj:(f j).gone=false:=by
     rcases hc with h3 | ⟨j',h3,h4,h5⟩
     ·omega
     ·obtain rfl:j'=j:=by omega
      exact h5
    exact .inr (.inr ⟨H.im.nz _ (by rw[aQ hj hgj];rfl),fun e=>h2 ((hpa j hj hgj).1 e)⟩)
  ·rintro e w3 ⟨rfl,hb3⟩;refine H.Xn hb3 (fun hok=>?_) (.inr (.inr rfl)) fun V3 hv=>Ee bM M m aT f ib ia c V3 hv pJ hib hgb hia H.g0 hm hT;rcases hT with h1 | ⟨j,h1,h2,h3⟩
   ·rw[hok.1] at h1;cases h1
   ·rcases hok.2.1 with h4 | ⟨j',h4,h5,h6,h7⟩
    ·omega
    ·obtain rfl:j'=j:=by omega
     exact h3 h7
 ·have hch:jK m f ib ia=true:=by
   cases h:jK m f ib ia with
   | true=>rfl
   | false=>exact absurd (.inl h) hT
  have hcp:c = -1∨∃ j:Nat,c=(j:Int)∧j<m∧(f j).gone=false∧(f j).pa=(ib:Int):=by
   rcases hc with h1 | ⟨j,h1,h2,h3⟩
   ·exact .inl h1
   ·refine .inr ⟨j,h1,h2,h3,?_⟩;by_cases e:(f j).pa=(ib:Int)
    ·exact e
    ·exact absurd (.inr ⟨j,h1,h2,e⟩) hT
  have QA:c = -1∨∃ j:Nat,c=(j:Int)∧j<m∧(f j).pa=(ib:Int):=by
   rcases hcp with h1 | ⟨j,h1,h2,-,h4⟩
   ·exact .inl h1
   ·exact .inr ⟨j,h1,h2,h4⟩
  have Je:Tr.gQ g (hof hs (ib:Int)) (hof hs (ia:Int))=true∧hof hs (ia:Int)∉Tr.dz g (hof hs (ib:Int)):=by
   have h1:=hch;rw[Xo,Bool.and_eq_true] at h1;exact⟨h1.1,by simpa using h1.2⟩
  have hpc:hof hs c≠0→Tr.dI g (hof hs c)=hof hs (ib:Int):=by
   rcases hcp with rfl | ⟨j,rfl,h2,h3,h4⟩
   ·exact fun h=>absurd H.im.zero h
   ·exact fun _=>(hpa j h2 h3).2 h4
  by_cases hl:128<(Tr.dz (mg m f) (ib:Int)).length+Tr.gB (mg m f) (ia:Int)
  ·refine (D5 base B b s (hof hs 0) _ _ _ live n g av fr vs vf _ _ w IN Je.1 Je.2 hpc (by rw[Nw,TY];exact hl)).mono ?_;rintro e w3 ⟨rfl,hb3⟩;exact H.Xn hb3 (fun hok=>by have:=hok.2.2;omega) (.inr (.inl rfl)) fun V3 hv=>Bj bM M m aT f ib ia c V3 hv pJ hib hgb hia hga H.g0 hm hch QA hl
  ·have hl':(Tr.dz (mg m f) (ib:Int)).length+Tr.gB (mg m f) (ia:Int)≤128:=by clear hc hcp QA hT;omega
   have i0:ia≠0:=fun e=>by
    subst e;unfold jK at hch;rw[if_pos (.inl rfl)] at hch;cases hch
   have hpi:ib≠ia:=fun e=>by
    have:=Je.2;rw[H.wf.bQ eb,e] at this;exact this (by simp)
   obtain⟨-,-,hcin,-⟩:=H.Rx hia hga hib hgb Je.2 hcp;have hw1:=(H.yK hia hga).pull (H.wf.dN ea);refine (BK base B b s (hof hs 0) _ _ _ live n g av fr vs vf _ _ w IN Je.1 Je.2 hpc (by rw[Nw,TY];exact hl')).mono ?_;rintro e w3 ⟨v,rfl,hr3,xS,gy⟩;obtain⟨a1,a2,-,-,-⟩:=H.after gy;obtain⟨A3,c3,hv3⟩:=aF (aH hr3);refine⟨v,0,vX m f ia++[jr (Tr.aj (dA (mg m f) (ia:Int)) (ib:Int)) ib ia (gM (mg m f) ia c)],rfl,.inl rfl,?_,⟨_,_,_,hv3⟩,a1,a2,gy,fun V3 hb=>?_⟩
   ·unfold vX;split<;>simp
   ·refine (Jc bM M m aT f ib ia c V3 (a2.below hb) pJ hib hgb hia hga H.g0 hm hch QA hl' hpi hw1 hcin).mono ?_;rintro e w4 ⟨r,rfl,hr4,f2,mv4,dM,hm2,hk2⟩;obtain⟨HT,hrec⟩:=H.inserted hia hga hib hgb hpi i0 Je.2 (by rw[Nw,TY];exact hl') hcp (xS.below hb) (gy.trans (.of_below hb)) mv4 dM hm2 hk2;rw[←hrec] at hr3;have oO:bO w.heap.size V3 v _:=cB (S:=fun _=>False) hr3 (.of_below hb) (fun _ _=>id);exact⟨r,f2,_,rfl,hr4,cB oO dM.1 (fun k hk hm=>by have h1:=(oO.lt k hk).1;have h2:=(H.mv.lt k hm).2;clear hc hcp QA hT;omega),dM,.inl ⟨⟨hch,hcp,hl'⟩,hm2,rfl⟩,HT⟩
end
section
open Go.RowKit
variable [nX]
theorem MV.nf {bM M m:Nat} {w:World} {vs:Value} {f:Nat→RS} {k:Nat} {cs:Array Value} {t:TypeId} (hM:MV bM w M vs m f) (hX:Whole w k cs t) (h1:t≠70) (h2:67≠t) (h3:3≠t) (h4:96≠t):¬ aB M vs m f k:=by
 rintro (rfl | hx | ⟨i,hi,hx | hx⟩)
 ·exact hX.unlike hM.var h1 rfl
 ·exact bH hM.row hX h2 hx
 ·exact (hM.ar i hi).unlike hX h4 hx
 ·exact (hM.kr i hi).unlike hX h3 hx
theorem nV.pushed {w w1 w5:World} {T B M:Nat} {vh v5:Value} {hs:List Int} {h:Int} (H:nV w T B M vh hs) (h1:Below w.heap.size w w1) (g:w1.grownBy w5 vh.ownBlock) (o:TR w5 0 3 1 v5 (hs.length+1) (ints (hs++[h]))) (f:mI w1 vh v5):
  Whole w5 T #[.pointer (some ⟨B,0,none⟩),.pointer (some ⟨M,0,none⟩),vh] 33∧nV (w5.setCell ⟨T,2,none⟩ v5) T B M v5 (hs++[h])∧Turns (fun k=>k=T∨vh.ownBlock=some k) w (w5.setCell ⟨T,2,none⟩ v5)∧∀ k,v5.ownBlock=some k→vh.ownBlock=some k∨w.heap.size≤k:=by
 have k1:=(H.below h1).var;have k2:=(H.below h1).row;have hW:Whole w5 T #[.pointer (some ⟨B,0,none⟩),.pointer (some ⟨M,0,none⟩),vh] 33:=k1.grown g (fun e=>k2.unlike k1 (by decide) e.symm);have gp:w5.grownBy (w5.setCell ⟨T,2,none⟩ v5) (some T):=aL (ak (Below.refl w5.heap.size w5) _) 2 v5;refine⟨hW,⟨hW.put 2 v5,?_⟩,?_,?_⟩
 ·have:=o.kept gp (.inr (o.unlike hW (by decide)));rw[List.length_append];exact this
 ·have a1:Turns (fun k=>k=T∨vh.ownBlock=some k) w w1:=.of_below h1;have a2:Turns (fun k=>k=T∨vh.ownBlock=some k) w1 w5:=.aZ g (fun k hk=>.inr hk);have a3:Turns (fun k=>k=T∨vh.ownBlock=some k) w5 (w5.setCell ⟨T,2,none⟩ v5):=.aZ gp (fun k hk=>.inl (by simpa using hk.symm));exact (a1.trans a2 (fun _ _ x=>x) (fun _ _ x=>x)).trans a3 (fun _ _ x=>x) (fun _ _ x=>x)
 ·intro k hk;rcases f with f | f
  ·exact .inl (f▸hk)
  ·exact .inr (Nat.le_trans h1.size (f k hk))
def aaF (base bM T B M:Nat) (b s:Int) (vs vf aT vh:Value) (n live m:Nat) (fr:List Nat) (av:Int→Tr.Sl) (f:Nat→RS) (hs:List Int) (g:Tr.G) (K:Nat) (h E:Int) (V3:World) (e:Ending) (w4:World):Prop:=
 e=.returned (.int .i64 E)∧Turns (aB M aT m f) V3 w4∧((E=1∧h=0∧TW w4 base bM T B M b s vs vf aT vh n live m fr av f hs g (K+1))∨
  (E=0∧h≠0∧nV w4 T B M vh hs∧∀ (w5:World) (gK:Value),nV w5 T B M gK (hs++[h])→Turns (fun k=>k=T∨vh.ownBlock=some k) w4 w5→(∀ k,gK.ownBlock=some k→vh.ownBlock=some k∨w4.heap.size≤k)→
   ∃ (vs' bN bF:Value) (n' aG:Nat) (fr':List Nat) (dV:Int→Tr.Sl) (f':Nat→RS) (g':Tr.G),TW w5 base bM T B M b s vs' bN bF gK n' aG (m+1) fr' dV f' (hs++[h]) g' (K+1)))
def Xp (base bM T B M:Nat) (b s:Int) (vs vf aT vh:Value) (n live m:Nat) (fr:List Nat) (av:Int→Tr.Sl) (f:Nat→RS) (hs:List Int) (g:Tr.G) (K:Nat) (kd:Int) (nm dt:ByteArray) (vP:Value) (w:World) (e:Ending) (w3:World):Prop:=
 ∃ (h E:Int),e=.returned (.tuple #[.int .i64 h,.int .i64 E])∧((E=1∧h=0)∨(E=0∧h≠0))∧Turns (aD B vs vf) w w3∧nV w3 T B M vh hs∧
  ∀ V3,Below w3.heap.size w3 V3→Calls Tryz.prog 48 #[.pointer (some ⟨M,0,none⟩),.int .i64 kd,.string nm,.string dt,vP] V3 (aaF base bM T B M b s vs vf aT vh n live m fr av f hs g K h E V3)
variable {w:World} {base bM T B M:Nat} {b s:Int} {vs vf aT vh:Value} {n live m:Nat} {fr:List Nat} {av:Int→Tr.Sl} {f:Nat→RS} {hs:List Int} {g:Tr.G} {K:Nat}
theorem TW.Jf (H:TW w base bM T B M b s vs vf aT vh n live m fr av f hs g K) {kd:Int} {nm dt:ByteArray} {vP:Value} {w3:World} {h:Int} {vs' bN:Value} {n':Nat} {fr':List Nat} {sl:Tr.Sl} {x:RS}
  (hml:m<700) (hx:x.gone=false∧x.pa = -1∧x.kids=[]∧(x.kind=2∨x.kind=3∨x.kind=4)) (hxb:x.at'.length≤K+1+2∧x.data.size≤120*(K+1)∧bJ.rep x.data.data.toList=x.data.data.toList) (hn':n'≤n+1) (hg0:g h=none) (hh0:h≠0)
  (xS:TV base w3 B b s vs' n' (Tr.raw (Tr.dJ g h { jX x with pa:=0 }) (Tr.fC av h sl)) bN fr' (live+1) (hof hs 0)) (Dv:Sound b s n' (Tr.raw (Tr.dJ g h { jX x with pa:=0 }) (Tr.fC av h sl)) fr' (live+1)) (FL:Tr.WF 0 (Tr.dJ g h { jX x with pa:=0 })) (JN:AR w3 0 sl.v x.at') (gy:ay w w3 (aD B vs vf) (aD B vs' bN))
  (hR:∀ V3,MV bM V3 M aT m f→bM≤V3.heap.size→Below w3.heap.size w3 V3→Calls Tryz.prog 48 #[.pointer (some ⟨M,0,none⟩),.int .i64 kd,.string nm,.string dt,vP] V3 fun e w'=>∃ (vs':Value) (sl':Tr.Sl),e=.returned (.int .i64 0)∧MV bM w' M vs' (m+1) (iw m f { x with a:=sl' })∧ay V3 w' (aB M aT m f) (aB M vs' (m+1) (iw m f { x with a:=sl' }))):
  Xp base bM T B M b s vs vf aT vh n live m fr av f hs g K kd nm dt vP w (.returned (.tuple #[.int .i64 h,.int .i64 0])) w3:=by
 obtain⟨a1,a2,-,-,-⟩:=H.after gy;refine⟨h,0,rfl,.inr ⟨rfl,hh0⟩,gy.1,a1,fun V3 hb=>?_⟩;have hmv:=a2.below hb;refine (hR V3 hmv (by have:=hmv.low;have:=hmv.var.lt;omega) hb).mono ?_;rintro e w4 ⟨bF,sl',rfl,mv4,dM⟩;refine⟨rfl,dM.1,.inr ⟨rfl,hh0,?_,fun w5 gK h5 t5 hv5=>⟨vs',bN,bF,n',live+1,fr',_,_,_,H.made (x:={ x with a:=sl' }) hml hx hxb hg0 hh0 hn' (xS.below hb) Dv FL (JN.below hb) (gy.trans (.of_below hb)) mv4 dM h5 t5 hv5⟩⟩⟩;have H3:=a1.below hb;have hvl:∀ k,vh.ownBlock=some k→¬ aB M aT m f k:=fun k hk=>(H.yA k hk).2;exact⟨H3.var.turns dM.1 H.Jk.2,H3.row.turns dM.1 hvl⟩
theorem nD (H:TW w base bM T B M b s vs vf aT vh n live m fr av f hs g K) (hm:m≤300) (hT:Lit w) (kd:Int) (hkd:kd=2∨kd=3∨kd=4) (nm dt:ByteArray) (hnm:nm.size≤40) (hdt:dt.size≤40) (l:List (ByteArray×ByteArray)) (hl:l.length≤2) (hvs:∀ p∈l,p.1.size≤40∧p.2.size≤40)
  (A0:Option Addr) (c0:Nat) (hA:AR w 0 (.slice A0 l.length c0) l) (aA:Option Addr) (cA:Nat) (hP:TR w 0 96 2 (.slice aA l.length cA) l.length (fM l)):
  Calls Tryz.prog 46 #[.pointer (some ⟨B,0,none⟩),.int .i64 kd,.string nm,.string dt,.slice A0 l.length c0] w (Xp base bM T B M b s vs vf aT vh n live m fr av f hs g K kd nm dt (.slice aA l.length cA) w):=by
 have hbase:base≤w.heap.size:=by have:=H.tv.low;have:=H.tv.var.lt;omega
 have hn:=H.nm;have hlv:live<20000:=by have:=H.so.count;omega
 have hn1:n<100000:=by omega
 have hPF:∀ k,Value.ownBlock (.slice aA l.length cA)=some k→¬ aD B vs vf k:=by
  rintro k hk (rfl | hx | hx)
  ·exact hP.unlike H.tv.var (by decide) hk
  ·exact dL hP H.tv.row (by decide) k hx hk
  ·exact dL hP H.tv.free (by decide) k hx hk
 have U8:(aX dt).size≤120*(K+1)∧bJ.rep (aX dt).data.toList=(aX dt).data.toList:=by
  have h1:=bJ.mP dt.data.toList;have h2:(aX dt).size=(bJ.rep dt.data.toList).length:=jP _;have h3:dt.data.toList.length=dt.size:=rfl;refine⟨by omega,?_⟩;unfold aX;rw[Bu];exact bJ.JJ _
 have Xq:∀ p∈l,p.1.size≤20000∧p.2.size≤6000:=fun p hp=>⟨by have:=(hvs p hp).1;omega,by have:=(hvs p hp).2;omega⟩
 have Xr:∀ p∈l,p.1.size≤10000∧p.2.size≤6000:=fun p hp=>⟨by have:=(hvs p hp).1;omega,by have:=(hvs p hp).2;omega⟩
 rcases hkd with rfl | rfl | rfl
 ·cases hok:Nm.attrs l && Nm.elem nm with
  | false=>
   refine (KM base B b s (hof hs 0) live n g av fr vs vf nm dt _ l w H.tv H.so H.wf hbase hn1 hlv hA (by omega) Xq (by omega) hok hT).mono ?_;rintro e w3 ⟨rfl,hb3⟩;have H3:=H.below hb3;refine⟨0,1,rfl,.inl ⟨rfl,rfl⟩,.of_below hb3,H3.tw,fun V3 hb=>?_⟩;have H5:=H3.below hb;have hP5:=(hP.below hb3).below hb;cases he:Nm.elem nm with
   | false=>
    refine (Jb M _ nm dt V3 (by omega) he).mono ?_;rintro e w4 ⟨rfl,hb4⟩;exact⟨rfl,.of_below hb4,.inl ⟨rfl,rfl,(H5.below hb4).up⟩⟩
   | true=>
    refine (xP bM M m aT aA cA l f nm dt V3 H5.mv hP5 he (by have:=H5.mv.low;have:=H5.mv.var.lt;omega) (by omega) (by omega) (by omega) Xr).mono ?_;rintro e w4 (⟨-,rfl,hb4⟩ | ⟨h1,-⟩)
    ·exact⟨rfl,.of_below hb4,.inl ⟨rfl,rfl,(H5.below hb4).up⟩⟩
    ·rw[h1,he] at hok;cases hok
  | true=>
   refine (Hu base B b s (hof hs 0) live n g av fr vs vf nm dt _ l w H.tv H.so H.wf hbase hn1 hlv hA (by omega) Xq (by omega) hok hT).mono ?_;rintro e w3 ⟨h,vs',bN,n',fr',sl,rfl,hn',hg0,hh0,xS,Dv,FL,JN,gy⟩;have ha:Nm.attrs l=true∧Nm.elem nm=true:=by rw[Bool.and_eq_true] at hok;exact hok
   refine H.Jf (x:=⟨2,nm,⟨none,0,0⟩,l.map gD,⟨#[]⟩,-1,⟨none,0,0⟩,[],false⟩) (by omega) ⟨rfl,rfl,rfl,.inl rfl⟩ ⟨by rw[List.length_map];omega,by show 0≤_;omega,bJ.oD⟩ hn' hg0 hh0 xS Dv FL JN gy fun V3 hv hb hbl=>?_;have hP5:=(hP.turns gy.1 hPF).below hbl;refine (xP bM M m aT aA cA l f nm dt V3 hv hP5 ha.2 hb (by omega) (by omega) (by omega) Xr).mono ?_;rintro e w4 (⟨h1,-⟩ | ⟨-,MJ,Pf,rfl,mv4,dM⟩)
   ·rw[ha.1] at h1;cases h1
   ·exact⟨MJ,Pf,rfl,mv4,dM⟩
 ·refine (Hw base B b s (hof hs 0) live n g av fr vs vf nm dt _ _ _ w H.tv H.so H.wf hbase hn1 hlv (by omega) hT).mono ?_;rintro e w3 ⟨h,vs',bN,n',fr',sl,rfl,hn',hg0,hh0,xS,Dv,FL,JN,gy⟩;refine H.Jf (x:=⟨3,⟨#[]⟩,⟨none,0,0⟩,[],aX dt,-1,⟨none,0,0⟩,[],false⟩) (by omega) ⟨rfl,rfl,rfl,.inr (.inl rfl)⟩ ⟨by show 0≤_;omega,U8.1,U8.2⟩ hn' hg0 hh0 xS Dv FL JN gy fun V3 hv hb _=>?_;refine (Ag bM M m aT _ f 3 nm dt V3 hv (by decide) hb (by omega) (by omega)).mono ?_;rintro e w4 ⟨MJ,rfl,mv4,dM⟩;exact⟨MJ,⟨none,0,0⟩,rfl,mv4,dM⟩
 ·refine (AV base B b s (hof hs 0) live n g av fr vs vf nm dt _ _ _ w H.tv H.so H.wf hbase hn1 hlv (by omega) hT).mono ?_;rintro e w3 ⟨h,vs',bN,n',fr',sl,rfl,hn',hg0,hh0,xS,Dv,FL,JN,gy⟩;refine H.Jf (x:=⟨4,⟨#[]⟩,⟨none,0,0⟩,[],aX dt,-1,⟨none,0,0⟩,[],false⟩) (by omega) ⟨rfl,rfl,rfl,.inr (.inr rfl)⟩ ⟨by show 0≤_;omega,U8.1,U8.2⟩ hn' hg0 hh0 xS Dv FL JN gy fun V3 hv hb _=>?_;refine (Ag bM M m aT _ f 4 nm dt V3 hv (by decide) hb (by omega) (by omega)).mono ?_;rintro e w4 ⟨MJ,rfl,mv4,dM⟩;exact⟨MJ,⟨none,0,0⟩,rfl,mv4,dM⟩
end
section
open Go.RowKit
theorem wC (base B:Nat) (b s root h k:Int) (deep:Bool) (live n:Nat) (R:Int→Option Tr.Nd) (fr:List Nat) (vs vf:Value) (d:Tr.Nd) (w:World) (hm:TV base w B b s vs n R vf fr live root) (hS:Sound b s n R fr live) (hh:lU h) (hd:(R h).getD Tr.wD=d) (hk:d.kind=0∧k=6∨d.kind=1∧k=10):
  Calls Tryz.prog 34 #[.pointer (some ⟨B,0,none⟩),.int .i64 h,.bool deep] w fun e w'=>e=.returned (.tuple #[.int .i64 0,.int .i64 k])∧Below w.heap.size w w':=by
 have HA:=jO base B b s root h live n R fr vs vf w hm hS hh;rw[hd] at HA;clear hm hS hd
 go_enter Tryz.func34,Tryz.ntmps34
 go_wp2_with fail;refine HA.mono ?_;rintro e w1 ⟨gb,o,rfl,hnp,hb1⟩;obtain⟨t0,_⟩:=hnp.cells;clear HA hnp;rcases hk with ⟨hk,rfl⟩ | ⟨hk,rfl⟩
 ·rw[hk] at t0;clear hk;go_wp2_with fail;go_ret2;exact⟨rfl,hb1⟩
 ·rw[hk] at t0;clear hk;go_wp2_with fail;go_ret2;exact⟨rfl,hb1⟩
theorem Ip (base B:Nat) (b s root h:Int) (live n:Nat) (g:Tr.G) (av:Int→Tr.Sl) (fr:List Nat) (vs vf:Value) (nd:Tr.GN) (w:World) (hm:TV base w B b s vs n (Tr.raw g av) vf fr live root) (hS:Sound b s n (Tr.raw g av) fr live) (ha:AT w g av) (hw:Tr.WF 0 g) (eg:g h=some nd) (h0:nd.kind≠0) (h1:nd.kind≠1) (hl:nd.attrs.length≤1000) (hn:n<100000) (hlim:live+1≤20000):
  Calls Tryz.prog 34 #[.pointer (some ⟨B,0,none⟩),.int .i64 h,.bool false] w fun e w'=>∃ d X tb,e=.returned (.tuple #[.int .i64 d,.int .i64 0])∧MF base B X tb b s root n g av vs vf nd w d w':=by
 have hh:=(bR hS (h:=h) (by rw[aS,eg];rfl)).1;have HA:=jO base B b s root h live n _ fr vs vf w hm hS hh;rw[Tr.ah eg] at HA;have q0:(nd.kind == 0)=false:=by simpa using h0
 have q1:(nd.kind == 1)=false:=by simpa using h1
 have HM:=zh (fun (W:World) (hb:Below w.heap.size w W)=>hm.below hb);have HD:=zh (fun (W:World) (hb:Below w.heap.size w W)=>Ky base B b s root h live n g av fr vs vf nd W (hm.below hb) hS (ha.below hb) hw eg hl hn);have HNL:=zh (fun (W:World) (hb:Below w.heap.size w W)=>pO base B b s root live n (Tr.raw g av) fr vs vf W (hm.below hb));have q2:¬ (20000:Int)<(live:Int)+1:=by omega
 have hlv:live≤20000:=by omega
 clear hm hS h0 h1 hw ha hl hn hlim
 go_enter Tryz.func34,Tryz.ntmps34
 go_wp2_with fail;refine HA.mono ?_;rintro e w1 ⟨gb,o,rfl,hnp,hb1⟩;obtain⟨t0,_⟩:=hnp.cells;have t0':w1.cell? ⟨gb,o,none⟩=some (.int .i64 nd.kind):=t0;have HB1:=zh hb1;clear HA hnp t0 hb1;go_wp2_with fail;refine (HNL.out w1 HB1.out).mono ?_;rintro e w2 ⟨rfl,rfl⟩;go_wp2_with fail;refine (HD.out _ HB1.out).mono ?_;rintro e w3 ⟨d,X,tb,rfl,hD⟩;have ET:=zh hD;clear hD;go_wp2_with fail;go_ret2;obtain⟨vs1,QS,n1,EW,Mf,sl1,z1,z2,z3,z4,z5,z6,z7,z8,z9,y1,y2⟩:=ET.out;exact⟨d,X,tb,rfl,vs1,QS,n1,EW,Mf,sl1,z1,z2,z3,z4,z5,z6,(ay.of_below HB1.out).trans z7,z8,z9,y1,Nat.le_trans HB1.out.size y2⟩
theorem Iq (base B:Nat) (b s root h:Int) (f live n:Nat) (g:Tr.G) (av:Int→Tr.Sl) (fr:List Nat) (vs vf:Value) (nd:Tr.GN) (w:World) (hm:TV base w B b s vs n (Tr.raw g av) vf fr live root) (hS:Sound b s n (Tr.raw g av) fr live) (ha:AT w g av) (hw:Tr.WF 0 g) (eg:g h=some nd) (h0:nd.kind≠0) (h1:nd.kind≠1)
  (hat:∀ y∈Tr.au g h,∀ m,g y=some m→m.attrs.length≤1000) (hf:f+(Tr.dz g h).length=129) (hcap:n+(Tr.au g h).length*(Tr.au g h).length≤99999) (hlim:live+(Tr.au g h).length≤20000):
  Calls Tryz.prog 34 #[.pointer (some ⟨B,0,none⟩),.int .i64 h,.bool true] w fun e w'=>∃ d,e=.returned (.tuple #[.int .i64 d,.int .i64 0])∧RX base B b s root n g vs vf h f w (.returned (.int .i64 d)) w':=by
 have hh:=(bR hS (h:=h) (by rw[aS,eg];rfl)).1;have HA:=jO base B b s root h live n _ fr vs vf w hm hS hh;rw[Tr.ah eg] at HA;have q0:(nd.kind == 0)=false:=by simpa using h0
 have q1:(nd.kind == 1)=false:=by simpa using h1
 have HM:=zh (fun (W:World) (hb:Below w.heap.size w W)=>hm.below hb);have HD:=zh (fun (W:World) (hb:Below w.heap.size w W)=>KC base B b s root f live n g av fr vs vf h W (hm.below hb) hS (ha.below hb) hw (by rw[eg];rfl) hat hf hcap);have HNL:=zh (fun (W:World) (hb:Below w.heap.size w W)=>pO base B b s root live n (Tr.raw g av) fr vs vf W (hm.below hb));have WY:=zh (fun (W:World) (hb:Below w.heap.size w W)=>LA base B b s root h live n g av fr vs vf W (hm.below hb) hS hw hh (by omega));obtain⟨Z,hZ⟩:∃ Z,(Tr.au g h).length=Z:=⟨_,rfl⟩
 rw[hZ] at WY hlim;have q2:¬ (20000:Int)<(live:Int)+(Z:Int):=by omega
 have hlv:live≤20000∧Z≤20000:=by omega
 clear hm hS h0 h1 hw ha hlim hcap hf hat hZ
 go_enter Tryz.func34,Tryz.ntmps34
 go_wp2_with fail;refine HA.mono ?_;rintro e w1 ⟨gb,o,rfl,hnp,hb1⟩;obtain⟨t0,_⟩:=hnp.cells;have t0':w1.cell? ⟨gb,o,none⟩=some (.int .i64 nd.kind):=t0;have HB1:=zh hb1;clear HA hnp t0 hb1;go_wp2_with fail;refine (WY.out w1 HB1.out).mono ?_;rintro e w2 ⟨rfl,hb2⟩;have HB2:=zh (HB1.out.trans (hb2.mono HB1.out.size));clear hb2;obtain⟨hl1,hl2⟩:=hlv;go_wp2_with fail;refine (HNL.out w2 HB2.out).mono ?_;rintro e w3 ⟨rfl,rfl⟩;go_wp2_with fail;refine (HD.out _ HB2.out).mono ?_;rintro e w4 ⟨d,ds,vs1,QS,n1,EW,Mf,av1,g1,rfl,z1,z2,z3,z4,z5,z6,z7⟩;have ET:=zh (And.intro z1 (And.intro z2 (And.intro z3 (And.intro z4 (And.intro z5 (And.intro ((ay.of_below HB2.out).trans z6) z7))))));clear z1 z2 z3 z4 z5 z6 z7;go_wp2_with fail;go_ret2;obtain⟨z1,z2,z3,z4,z5,z6,z7⟩:=ET.out;exact⟨d,rfl,d,ds,vs1,QS,n1,EW,Mf,av1,g1,rfl,z1,z2,z3,z4,z5,z6,z7⟩
end
end Go.Proofs.YtnbaadpgbcklaaaGreatDoor
