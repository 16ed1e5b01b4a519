/- Part of a proof about trees: NDoc. -/
import Derived.BigQuiet
import Derived.Deep.RegionHeld3
import Derived.Test.YtnbaadpgbcklaaaGreatDoorGNDob
set_option linter.unusedVariables false
set_option linter.unusedSimpArgs false
set_option linter.unusedSectionVars false
set_option maxHeartbeats 8000000
set_option maxRecDepth 100000
namespace Go.Proofs.YtnbaadpgbcklaaaGreatDoor
section
open Go.RowKit
variable [nX]
theorem EF (l:List (ByteArray×ByteArray)) (nm v:ByteArray):(gZ l nm v).length≤l.length+1:=by
 unfold gZ
 split<;>simp
theorem GZ (base bM T B M:Nat) (b s:Int) (vs vf aT vh:Value) (n live m:Nat) (fr:List Nat) (av:Int→Tr.Sl) (f:Nat→RS) (hs:List Int) (g:Tr.G) (K:Nat) (o:qg) (w:World) (H:TW w base bM T B M b s vs vf aT vh n live m fr av f hs g K) (ho:nY o) (hkd:o.kind.tmod 10=5) (hm:m≤300) (hK:K≤60) (hT:Lit w):
  Calls Tryz.prog 13 #[.pointer (some ⟨T,0,none⟩),.agg #[.int .u8 o.kind,.int .u8 o.a,.int .u8 o.b,.int .u8 o.c,.string o.s,.string o.t,.int .i8 o.n,.int .i8 o.k]] w fun e w'=>∃ (lv:Value) (lp:List Tr.Rec) (vs' bN bF gK:Value) (n' aG m':Nat) (fr':List Nat) (dV:Int→Tr.Sl) (f':Nat→RS) (hs':List Int) (g':Tr.G),e=.returned (.tuple #[lv,.bool true])∧TW w' base bM T B M b s vs' bN bF gK n' aG m' fr' dV f' hs' g' (K+1):=by
 obtain⟨ia,hia,aK⟩:=aI ho.a.1 H.m0;obtain⟨ib,hib,gY⟩:=aI ho.b.1 H.m0;obtain⟨ic,hic,nH⟩:=aI (m:=m+1) ho.c.1 (by omega);rw[Int.natCast_add] at hic;obtain⟨Ah,ch,rfl⟩:=H.tw.row.form;have hlen:=H.len;have hm0:=H.m0;have mz:((m:Int) == 0)=false:=by simp;omega
 have Ej:((m:Int)+1 == 0)=false:=by simp;omega
 have El:¬ (m:Int)=0:=by omega
 have Em:¬ (m:Int)+1=0:=by omega
 obtain⟨w1,hw1⟩:∃ w1,w.alloc (.cells #[.int .u8 o.kind,.int .u8 o.a,.int .u8 o.b,.int .u8 o.c,.string o.s,.string o.t,.int .i8 o.n,.int .i8 o.k] 39)=w1:=⟨_,rfl⟩
 have hb1:Below w.heap.size w w1:=eP hw1;have aU:Hid (Whole w1 w.heap.size #[.int .u8 o.kind,.int .u8 o.a,.int .u8 o.b,.int .u8 o.c,.string o.s,.string o.t,.int .i8 o.n,.int .i8 o.k] 39):=zh (by rw[←hw1];exact Whole.new w _ _);have HB1:=zh hb1;have H1:=zh (H.below hb1);have lJ:=zh ho;have iJ:=zh (hT.below hb1);have HLEN:=zh hlen;obtain⟨gh,oh,rfl,-,-,hcs,-⟩:=H.tw.row.cells (by omega);have qp:=zh (fun (W:World) (hb:Below w.heap.size w W) (j:Nat) (hj:j<m)=>(show W.cell? ⟨gh,oh+j,none⟩=some (.int .i64 (hof hs (j:Int))) from (H.tw.row.below hb).cellAt j _ (by omega) (aY (H.aW hj))));have jh:=zh (fun (W:World) (hb:Below w.heap.size w W)=>(show CQ T B M gh oh m ch W from by have h:=H.tw.below hb;rw[hlen] at h;exact⟨h.var.cell 0,h.var.cell 1,h.var.cell 2⟩));have vY:=zh (fun (W:World) (hb:Below w.heap.size w W)=>H.mv.below hb);obtain⟨t0,t1,t2⟩:=jh.out w1 hb1;have x0:w1.cell? ⟨w.heap.size,0,none⟩=some (.int .u8 o.kind):=aU.out.cell 0;have x1:w1.cell? ⟨w.heap.size,1,none⟩=some (.int .u8 o.a):=aU.out.cell 1;have x2:w1.cell? ⟨w.heap.size,2,none⟩=some (.int .u8 o.b):=aU.out.cell 2;have x3:w1.cell? ⟨w.heap.size,3,none⟩=some (.int .u8 o.c):=aU.out.cell 3;have x4:w1.cell? ⟨w.heap.size,4,none⟩=some (.string o.s):=aU.out.cell 4;have x5:w1.cell? ⟨w.heap.size,5,none⟩=some (.string o.t):=aU.out.cell 5;have x6:w1.cell? ⟨w.heap.size,6,none⟩=some (.int .i8 o.n):=aU.out.cell 6;have x7:w1.cell? ⟨w.heap.size,7,none⟩=some (.int .i8 o.k):=aU.out.cell 7;obtain⟨En,Eo⟩:=ho.a;obtain⟨Ep,Er⟩:=ho.b;obtain⟨Es,Et⟩:=ho.c;obtain⟨Eu,Ev⟩:=ho.kind;have dx:=zh (fun (W:World) (hb:Below w.heap.size w W) (j:Nat) (hj:j<m)=>bW bM M m aT f j W (H.mv.below hb) hj (by omega));clear H ho hb1 hT hcs
 go_enter Tryz.func13,Tryz.ntmps13
 go_wp2_with fail;(try rw[hw1]);try go_wp2_with fail
 go_quiet (fail)
 obtain⟨V,hV⟩:∃ V,w1.drewN nq=V:=⟨_,rfl⟩
 have dH:Below w1.heap.size w1 V:=CS hV;have bZ:=zh (HB1.out.trans (dH.mono HB1.out.size));have bV:=zh (aU.out.below dH aU.out.lt);have HV:=zh (H1.out.below dH);have qw:=zh (iJ.out.below dH);obtain⟨t0',t1',t2'⟩:=jh.out V bZ.out;have z0:V.cell? ⟨w.heap.size,0,none⟩=some (.int .u8 o.kind):=bV.out.cell 0;have z4:V.cell? ⟨w.heap.size,4,none⟩=some (.string o.s):=bV.out.cell 4;have z5:V.cell? ⟨w.heap.size,5,none⟩=some (.string o.t):=bV.out.cell 5;have z6:V.cell? ⟨w.heap.size,6,none⟩=some (.int .i8 o.n):=bV.out.cell 6;have z7:V.cell? ⟨w.heap.size,7,none⟩=some (.int .i8 o.k):=bV.out.cell 7;clear t0 t1 t2 x0 x1 x2 x3 x4 x5 x6 x7 dH;(try rw[hV]);go_wp2_with fail;refine (dx.out V bZ.out ia aK).mono ?_;rintro e w2 ⟨rfl,hw2⟩;rw[hw2];clear dx hw2;go_wp2_with fail;obtain⟨h,hh⟩:∃ h,hof hs (ia:Int)=h:=⟨_,rfl⟩
 obtain⟨V2,hV2⟩:∃ x,V.drew=x:=⟨_,rfl⟩
 have bA:Below V.heap.size V V2:=mJ hV2;have rJ:=zh (bZ.out.trans (bA.mono bZ.out.size));have HW2:=zh (HV.out.below bA);have fE:=zh (bV.out.below bA bV.out.lt);have HL2:=zh (qw.out.below bA);have gW:=zh (show jg T B M gh oh m ch w.heap.size ia h o V2 from bG HW2.out.tw fE.out HLEN.out (by rw[←hh];exact HV.out.aW aK));have Ji:(0:Int)≤(ia:Int):=by omega
 have Jj:(ia:Int)<(m:Int):=by omega
 have OX:=zh HW2.out.kinds;obtain⟨zs,zt⟩:=And.intro lJ.out.s lJ.out.t;cases hg:(f ia).gone with
 | true=>
  obtain⟨e1,e2⟩:=HW2.out.kT aK hg;have RI:eX g h=6:=by unfold eX;rw[←hh,e1,e2]
  have HC:=zh (uE base B b s (hof hs 0) h live n g av fr vs vf o.s o.t V2 HW2.out.tv HW2.out.so (by rw[←hh];exact HW2.out.i64 aK) OX.out (by rw[RI];decide));rw[RI] at HC;clear e1 e2 RI;refine wp_region_noPanic ?_;refine wp_region_held_drew (S:=jg T B M gh oh m ch w.heap.size ia h o) (by kernel_rfl) ?_ (fun hHeld=>?_)
  ·exact (by rw[hV2];exact gW.out)
  rw[hV2] at hHeld ⊢;refine bD [0,1,2,3,4,5,6,7,8,9,10,11,12,13,14] ?_;iterate 15 (refine dw ?_;try simp only[pS])
  refine bE ?_;refine bL 15 fun K hK=>?_;go_simp;refine HC.out.mono ?_;rintro e w3 ⟨rfl,hb3⟩;have gL:=zh (HW2.out.below hb3).up;have dW:=zh (fE.out.below hb3 fE.out.lt);have iG:=zh (show jg T B M gh oh m ch w.heap.size ia h o w3 from bG gL.out.tw dW.out HLEN.out (by rw[←hh];exact HV.out.aW aK));clear hb3;refine hK.out _ _ (iG.out) fun hHeld=>?_;clear hK K;(try simp only[pS]);refine bD [16,17,18,19,20] ?_;iterate 5 (refine dw ?_;try simp only[pS])
  refine bE ?_;refine fB ?_;go_wp2_with fail;go_ret2;exact⟨_,[],_,_,_,_,_,_,_,_,_,_,_,_,rfl,gL.out⟩
 | false=>
  have eg:g h=some (Tr.fA (hof hs) (jX (f ia))):=by rw[←hh];exact HW2.out.eY aK hg
  have GV:lU h:=by rw[←hh];exact HW2.out.i64 aK
  by_cases hk2:(f ia).kind=2
  ·have he0:eX g h=0:=by unfold eX;rw[eg];exact if_pos hk2
   have EG:=zh eg;have GD:=zh hk2;have HE0:=zh he0;have hal:=(HW2.out.bd ia aK).1;clear hk2 eg he0;cases hnm:Nm.attr o.s with
   | false=>
    have RJ:=zh hnm;clear hnm;have HC:=zh (G5 base B b s (hof hs 0) h live n g av fr vs vf o.s o.t V2 HW2.out.tv HW2.out.so GV OX.out HE0.out (by omega) HL2.out RJ.out);refine wp_region_noPanic ?_;refine wp_region_held_drew (S:=jg T B M gh oh m ch w.heap.size ia h o) (by kernel_rfl) ?_ (fun hHeld=>?_)
    ·exact (by rw[hV2];exact gW.out)
    rw[hV2] at hHeld ⊢;refine bD [0,1,2,3,4,5,6,7,8,9,10,11,12,13,14] ?_;iterate 15 (refine dw ?_;try simp only[pS])
    refine bE ?_;refine bL 15 fun K hK=>?_;go_simp;refine HC.out.mono ?_;rintro e w3 ⟨rfl,hb3⟩;have gL:=zh (HW2.out.below hb3).up;have dW:=zh (fE.out.below hb3 fE.out.lt);have iG:=zh (show jg T B M gh oh m ch w.heap.size ia h o w3 from bG gL.out.tw dW.out HLEN.out (by rw[←hh];exact HV.out.aW aK));clear hb3;refine hK.out _ _ (iG.out) fun hHeld=>?_;clear hK K;(try simp only[pS]);refine bD [16,17,18,19,20] ?_;iterate 5 (refine dw ?_;try simp only[pS])
    refine bE ?_;refine fB ?_;go_wp2_with fail;obtain⟨V3,gP⟩:∃ x,w3.drew=x:=⟨_,rfl⟩
    have bC:Below w3.heap.size w3 V3:=mJ gP;have oJ:=zh (gL.out.below bC);have eT:=zh (dW.out.below bC dW.out.lt);have kM:=zh (show jg T B M gh oh m ch w.heap.size ia h o V3 from bG oJ.out.tw eT.out HLEN.out (by rw[←hh];exact HV.out.aW aK));have HR:=zh (G6 bM M m aT f ia o.s o.t V3 oJ.out.mv aK GD.out (by omega) RJ.out)
    skip
    refine wp_region_noPanic ?_;refine wp_region_held_drew (S:=jg T B M gh oh m ch w.heap.size ia h o) (by kernel_rfl) ?_ (fun hHeld=>?_)
    ·exact (by rw[gP];exact kM.out)
    rw[gP] at hHeld ⊢;refine bD [0,1,2,3,4,5,6,7,8] ?_;iterate 9 (refine dw ?_;try simp only[pS])
    refine bE ?_;refine bL 9 fun K hK=>?_;go_simp;refine HR.out.mono ?_;rintro e w4 ⟨rfl,hb4⟩;have RL:=zh (oJ.out.below hb4);have nW:=zh (eT.out.below hb4 eT.out.lt);have qX:=zh (show jg T B M gh oh m ch w.heap.size ia h o w4 from bG RL.out.tw nW.out HLEN.out (by rw[←hh];exact HV.out.aW aK));have qm:=zh (dF T B M 0 0 _ (.slice none 0 0) (.slice none 0 0) hs [] w4 RL.out.tw (World.ownsRow_nil _ _ _ _) (World.ownsRow_nil _ _ _ _) (by simp));clear hb4;refine hK.out _ _ (qX.out) fun hHeld=>?_;clear hK K;(try simp only[pS]);refine bD [10,11,12,13,14] ?_;iterate 5 (refine dw ?_;try simp only[pS])
    refine bE ?_;refine fB ?_;go_wp2_with fail;refine qm.out.mono ?_;rintro e w5 ⟨rfl,hb5⟩;have bf:=zh (RL.out.below hb5);clear hb5;go_wp2_with fail;go_ret2;exact⟨_,[],_,_,_,_,_,_,_,_,_,_,_,_,rfl,bf.out⟩
   | true=>
   have RJ:=zh hnm;clear hnm;by_cases hat:oZ (f ia).at' o.s<(f ia).at'.length
   ·have HAT:=zh hat;clear hat;have HC:=zh (G7 base B b s (hof hs 0) h live n g av fr vs vf _ o.s o.t V2 HW2.out.tv HW2.out.so HW2.out.at' OX.out EG.out GD.out (by show (f ia).at'.length≤63;omega) (by omega) (by omega) HL2.out RJ.out HAT.out);rw[pE EG.out (U2:=fun n=>{ n with attrs:=gZ (f ia).at' o.s (aX o.t) }) rfl] at HC;refine wp_region_noPanic ?_;refine wp_region_held_drew (S:=jg T B M gh oh m ch w.heap.size ia h o) (by kernel_rfl) ?_ (fun hHeld=>?_)
    ·exact (by rw[hV2];exact gW.out)
    rw[hV2] at hHeld ⊢;refine bD [0,1,2,3,4,5,6,7,8,9,10,11,12,13,14] ?_;iterate 15 (refine dw ?_;try simp only[pS])
    refine bE ?_;refine bL 15 fun K hK=>?_;go_simp;refine HC.out.mono ?_;rintro e w3 ⟨v3,U7,rfl,hr3,hv3,hs3,pz,gy⟩;obtain⟨a1,a2,-,-,-⟩:=HW2.out.after gy;have dW:=zh (fE.out.turns gy.1 (HW2.out.tv.aJ fE.out (by decide) (by decide) (by decide)));have iG:=zh (show jg T B M gh oh m ch w.heap.size ia h o w3 from bG a1 dW.out HLEN.out (by rw[←hh];exact HV.out.aW aK));have HT3:=zh (And.intro a1 a2);have uj:=zh (And.intro hv3 (And.intro hs3 (And.intro pz gy)));have HR3:=zh hr3;obtain⟨A3,c3,rfl⟩:=aF (aH hr3);clear a1 a2 hv3 hs3 pz gy hr3;refine hK.out _ _ (iG.out) fun hHeld=>?_;clear hK K;(try simp only[pS]);refine bD [16,17,18,19,20] ?_;iterate 5 (refine dw ?_;try simp only[pS])
    refine bE ?_;refine fB ?_;go_wp2_with fail;obtain⟨V3,gP⟩:∃ x,w3.drew=x:=⟨_,rfl⟩
    have bC:Below w3.heap.size w3 V3:=mJ gP;have eT:=zh (dW.out.below bC dW.out.lt);have Jr:=zh (HT3.out.2.below bC);have wK:=zh (HT3.out.1.below bC);have Br:=zh (show bO V2.heap.size V3 _ _ from cB (S:=fun _=>False) HR3.out (.of_below bC) (fun _ _=>id));have HV5:=zh (And.intro (uj.out.1.below bC) (And.intro uj.out.2.1 (And.intro (uj.out.2.2.1.below bC) (uj.out.2.2.2.trans (.of_below bC)))));have kM:=zh (show jg T B M gh oh m ch w.heap.size ia h o V3 from bG wK.out eT.out HLEN.out (by rw[←hh];exact HV.out.aW aK));have HR:=zh (G8 bM M m aT f ia o.s o.t V3 Jr.out aK (by omega) GD.out (by omega) (by omega) (by omega) RJ.out HAT.out);refine wp_region_noPanic ?_;refine wp_region_held_drew (S:=jg T B M gh oh m ch w.heap.size ia h o) (by kernel_rfl) ?_ (fun hHeld=>?_)
    ·exact (by rw[gP];exact kM.out)
    rw[gP] at hHeld ⊢;refine bD [0,1,2,3,4,5,6,7,8] ?_;iterate 9 (refine dw ?_;try simp only[pS])
    refine bE ?_;refine bL 9 fun K hK=>?_;go_simp;refine HR.out.mono ?_;rintro e w4 ⟨v4,Pf,rfl,hr4,nZ,dM⟩;have gL:=zh (HW2.out.put (dV:=Tr.fC av h U7) (u:=fun n=>{ n with a:=Pf,at':=gZ (f ia).at' o.s (aX o.t) }) (U:=fun n=>{ n with attrs:=gZ (f ia).at' o.s (aX o.t) }) aK hg (fun _=>⟨rfl,rfl⟩) (fun _=>rfl) (fun _=>⟨rfl,rfl⟩) (fun _=>rfl) (by rw[hh];exact HV5.out.1) (by rw[hh];exact HV5.out.2.1) (by rw[hh];exact HV5.out.2.2.1) HV5.out.2.2.2 nZ dM (by have h1:=HW2.out.bd ia aK;have h2:=EF (f ia).at' o.s (aX o.t);exact⟨by show (gZ (f ia).at' o.s (aX o.t)).length≤_;omega,by show (f ia).data.size≤_;omega,h1.2.2⟩));have rz:=zh (eT.out.turns dM.1 (Jr.out.aJ eT.out (by decide) (by decide) (by decide) (by decide)));have vZ:=zh (show jg T B M gh oh m ch w.heap.size ia h o w4 from bG gL.out.tw rz.out HLEN.out (by rw[←hh];exact HV.out.aW aK));have hrc:[fV ia o.s (kU (f ia).at' o.s) (uT (f ia).at' o.s)].map (rM (hof hs))=[jE h o.s (kU (f ia).at' o.s) (uT (f ia).at' o.s)]:=by rw[←hh];simp[rM,fV,jE,l8]
    have qm:=zh (dF T B M V2.heap.size V3.heap.size _ _ v4 hs [fV ia o.s (kU (f ia).at' o.s) (uT (f ia).at' o.s)] w4 gL.out.tw (by rw[hrc];exact cB Br.out dM.1 (fun k hk hm=>by have h1:=(Br.out.lt k hk).1;have h2:=(HW2.out.mv.lt k hm).2;omega)) hr4 (by simp));obtain⟨A4,c4,rfl⟩:=aF (aH hr4);clear hr4 nZ dM hrc;refine hK.out _ _ (vZ.out) fun hHeld=>?_;clear hK K;(try simp only[pS]);refine bD [10,11,12,13,14] ?_;iterate 5 (refine dw ?_;try simp only[pS])
    refine bE ?_;refine fB ?_;go_wp2_with fail;refine qm.out.mono ?_;rintro e w5 ⟨rfl,hb5⟩;have bf:=zh (gL.out.below hb5);clear hb5;go_wp2_with fail;go_ret2;exact⟨_,[],_,_,_,_,_,_,_,_,_,_,_,_,rfl,bf.out⟩
   ·have HAT:=zh hat;clear hat;have HC:=zh (G9 base B b s (hof hs 0) h live n g av fr vs vf _ o.s o.t V2 HW2.out.tv HW2.out.so HW2.out.at' OX.out EG.out GD.out (by show (f ia).at'.length≤63;omega) (by omega) (by omega) HL2.out RJ.out HAT.out);rw[pE EG.out (U2:=fun n=>{ n with attrs:=gZ (f ia).at' o.s (aX o.t) }) rfl] at HC;refine wp_region_noPanic ?_;refine wp_region_held_drew (S:=jg T B M gh oh m ch w.heap.size ia h o) (by kernel_rfl) ?_ (fun hHeld=>?_)
    ·exact (by rw[hV2];exact gW.out)
    rw[hV2] at hHeld ⊢;refine bD [0,1,2,3,4,5,6,7,8,9,10,11,12,13,14] ?_;iterate 15 (refine dw ?_;try simp only[pS])
    refine bE ?_;refine bL 15 fun K hK=>?_;go_simp;refine HC.out.mono ?_;rintro e w3 ⟨v3,U7,rfl,hr3,hv3,hs3,pz,gy⟩;obtain⟨a1,a2,-,-,-⟩:=HW2.out.after gy;have dW:=zh (fE.out.turns gy.1 (HW2.out.tv.aJ fE.out (by decide) (by decide) (by decide)));have iG:=zh (show jg T B M gh oh m ch w.heap.size ia h o w3 from bG a1 dW.out HLEN.out (by rw[←hh];exact HV.out.aW aK));have HT3:=zh (And.intro a1 a2);have uj:=zh (And.intro hv3 (And.intro hs3 (And.intro pz gy)));have HR3:=zh hr3;obtain⟨A3,c3,rfl⟩:=aF (aH hr3);clear a1 a2 hv3 hs3 pz gy hr3;refine hK.out _ _ (iG.out) fun hHeld=>?_;clear hK K;(try simp only[pS]);refine bD [16,17,18,19,20] ?_;iterate 5 (refine dw ?_;try simp only[pS])
    refine bE ?_;refine fB ?_;go_wp2_with fail;obtain⟨V3,gP⟩:∃ x,w3.drew=x:=⟨_,rfl⟩
    have bC:Below w3.heap.size w3 V3:=mJ gP;have eT:=zh (dW.out.below bC dW.out.lt);have Jr:=zh (HT3.out.2.below bC);have wK:=zh (HT3.out.1.below bC);have Br:=zh (show bO V2.heap.size V3 _ _ from cB (S:=fun _=>False) HR3.out (.of_below bC) (fun _ _=>id));have HV5:=zh (And.intro (uj.out.1.below bC) (And.intro uj.out.2.1 (And.intro (uj.out.2.2.1.below bC) (uj.out.2.2.2.trans (.of_below bC)))));have kM:=zh (show jg T B M gh oh m ch w.heap.size ia h o V3 from bG wK.out eT.out HLEN.out (by rw[←hh];exact HV.out.aW aK));have HR:=zh (He bM M m aT f ia o.s o.t V3 Jr.out aK (by omega) GD.out (by omega) (by omega) (by omega) RJ.out HAT.out);refine wp_region_noPanic ?_;refine wp_region_held_drew (S:=jg T B M gh oh m ch w.heap.size ia h o) (by kernel_rfl) ?_ (fun hHeld=>?_)
    ·exact (by rw[gP];exact kM.out)
    rw[gP] at hHeld ⊢;refine bD [0,1,2,3,4,5,6,7,8] ?_;iterate 9 (refine dw ?_;try simp only[pS])
    refine bE ?_;refine bL 9 fun K hK=>?_;go_simp;refine HR.out.mono ?_;rintro e w4 ⟨v4,Pf,rfl,hr4,nZ,dM⟩;have gL:=zh (HW2.out.put (dV:=Tr.fC av h U7) (u:=fun n=>{ n with a:=Pf,at':=gZ (f ia).at' o.s (aX o.t) }) (U:=fun n=>{ n with attrs:=gZ (f ia).at' o.s (aX o.t) }) aK hg (fun _=>⟨rfl,rfl⟩) (fun _=>rfl) (fun _=>⟨rfl,rfl⟩) (fun _=>rfl) (by rw[hh];exact HV5.out.1) (by rw[hh];exact HV5.out.2.1) (by rw[hh];exact HV5.out.2.2.1) HV5.out.2.2.2 nZ dM (by have h1:=HW2.out.bd ia aK;have h2:=EF (f ia).at' o.s (aX o.t);exact⟨by show (gZ (f ia).at' o.s (aX o.t)).length≤_;omega,by show (f ia).data.size≤_;omega,h1.2.2⟩));have rz:=zh (eT.out.turns dM.1 (Jr.out.aJ eT.out (by decide) (by decide) (by decide) (by decide)));have vZ:=zh (show jg T B M gh oh m ch w.heap.size ia h o w4 from bG gL.out.tw rz.out HLEN.out (by rw[←hh];exact HV.out.aW aK));have hrc:[fV ia o.s (kU (f ia).at' o.s) (uT (f ia).at' o.s)].map (rM (hof hs))=[jE h o.s (kU (f ia).at' o.s) (uT (f ia).at' o.s)]:=by rw[←hh];simp[rM,fV,jE,l8]
    have qm:=zh (dF T B M V2.heap.size V3.heap.size _ _ v4 hs [fV ia o.s (kU (f ia).at' o.s) (uT (f ia).at' o.s)] w4 gL.out.tw (by rw[hrc];exact cB Br.out dM.1 (fun k hk hm=>by have h1:=(Br.out.lt k hk).1;have h2:=(HW2.out.mv.lt k hm).2;omega)) hr4 (by simp));obtain⟨A4,c4,rfl⟩:=aF (aH hr4);clear hr4 nZ dM hrc;refine hK.out _ _ (vZ.out) fun hHeld=>?_;clear hK K;(try simp only[pS]);refine bD [10,11,12,13,14] ?_;iterate 5 (refine dw ?_;try simp only[pS])
    refine bE ?_;refine fB ?_;go_wp2_with fail;refine qm.out.mono ?_;rintro e w5 ⟨rfl,hb5⟩;have bf:=zh (gL.out.below hb5);clear hb5;go_wp2_with fail;go_ret2;exact⟨_,[],_,_,_,_,_,_,_,_,_,_,_,_,rfl,bf.out⟩
  ·have GX:eX g h=10:=by unfold eX;rw[eg];exact if_neg hk2
   have HC:=zh (uE base B b s (hof hs 0) h live n g av fr vs vf o.s o.t V2 HW2.out.tv HW2.out.so GV OX.out (by rw[GX];decide));rw[GX] at HC;have GD:=zh hk2;clear eg GX hk2;refine wp_region_noPanic ?_;refine wp_region_held_drew (S:=jg T B M gh oh m ch w.heap.size ia h o) (by kernel_rfl) ?_ (fun hHeld=>?_)
   ·exact (by rw[hV2];exact gW.out)
   rw[hV2] at hHeld ⊢;refine bD [0,1,2,3,4,5,6,7,8,9,10,11,12,13,14] ?_;iterate 15 (refine dw ?_;try simp only[pS])
   refine bE ?_;refine bL 15 fun K hK=>?_;go_simp;refine HC.out.mono ?_;rintro e w3 ⟨rfl,hb3⟩;have gL:=zh (HW2.out.below hb3).up;have dW:=zh (fE.out.below hb3 fE.out.lt);have iG:=zh (show jg T B M gh oh m ch w.heap.size ia h o w3 from bG gL.out.tw dW.out HLEN.out (by rw[←hh];exact HV.out.aW aK));clear hb3;refine hK.out _ _ (iG.out) fun hHeld=>?_;clear hK K;(try simp only[pS]);refine bD [16,17,18,19,20] ?_;iterate 5 (refine dw ?_;try simp only[pS])
   refine bE ?_;refine fB ?_;go_wp2_with fail;obtain⟨V3,gP⟩:∃ x,w3.drew=x:=⟨_,rfl⟩
   have bC:Below w3.heap.size w3 V3:=mJ gP;have oJ:=zh (gL.out.below bC);have eT:=zh (dW.out.below bC dW.out.lt);have kM:=zh (show jg T B M gh oh m ch w.heap.size ia h o V3 from bG oJ.out.tw eT.out HLEN.out (by rw[←hh];exact HV.out.aW aK));have HR:=zh (Hf bM M m aT f ia o.s o.t V3 oJ.out.mv aK GD.out);have qm:=zh (dF T B M 0 0 _ (.slice none 0 0) (.slice none 0 0) hs [] V3 oJ.out.tw (World.ownsRow_nil _ _ _ _) (World.ownsRow_nil _ _ _ _) (by simp));refine wp_region_noPanic ?_;refine wp_region_held_drew (S:=jg T B M gh oh m ch w.heap.size ia h o) (by kernel_rfl) ?_ (fun hHeld=>?_)
   ·exact (by rw[gP];exact kM.out)
   rw[gP] at hHeld ⊢;refine bD [0,1,2,3,4,5,6,7,8] ?_;iterate 9 (refine dw ?_;try simp only[pS])
   refine bE ?_;refine bL 9 fun K hK=>?_;go_simp;refine HR.out.mono ?_;rintro e w4 ⟨rfl,hw4⟩;rw[hw4];clear hw4;refine hK.out _ _ (kM.out) fun hHeld=>?_;clear hK K;(try simp only[pS]);refine bD [10,11,12,13,14] ?_;iterate 5 (refine dw ?_;try simp only[pS])
   refine bE ?_;refine fB ?_;go_wp2_with fail;refine qm.out.mono ?_;rintro e w5 ⟨rfl,hb5⟩;have bf:=zh (oJ.out.below hb5);clear hb5;go_wp2_with fail;go_ret2;exact⟨_,[],_,_,_,_,_,_,_,_,_,_,_,_,rfl,bf.out⟩
end
end Go.Proofs.YtnbaadpgbcklaaaGreatDoor
