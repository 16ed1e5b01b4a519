/- Part of a proof about trees: NRcc, NDoLem, NDo0n, NDo0p, NDo1n, NDo1p, NDo2n, NDo2p. -/
import Derived.BigQuiet
import Derived.Deep.RegionHeld3
import Derived.Test.YtnbaadpgbcklaaaGreatDoorGNDob
import Derived.Test.YtnbaadpgbcklaaaGreatDoorGNRcq
set_option linter.unusedVariables false
set_option linter.unusedSimpArgs false
set_option linter.unusedSectionVars false
set_option maxHeartbeats 8000000
set_option maxRecDepth 100000
namespace Go.Proofs.YtnbaadpgbcklaaaGreatDoor
section
open Go.RowKit
theorem FM (M:Nat) (deep:Bool) (w:World):
  Calls Tryz.prog 121 #[.pointer (some ⟨M,0,none⟩),.int .i64 0,.bool deep] w fun e w'=>e=.returned (.int .i64 10)∧w'=w:=by
 go_enter Tryz.func121,Tryz.ntmps121
 go_wp2_with fail
 go_ret
 exact⟨rfl,rfl⟩
theorem FN (base M m:Nat) (vs:Value) (f:Nat→RS) (i:Nat) (w:World) (H:MV base w M vs m f) (hi:i<m) (hg:(f i).gone=false) (hat:(f i).at'.length≤1000) (hcap:m<100000) (h0:i≠0):
  Calls Tryz.prog 121 #[.pointer (some ⟨M,0,none⟩),.int .i64 (i:Int),.bool false] w fun e w'=>e=.returned (.int .i64 0)∧∃ nb,Q0 base M m nb vs f i (-1) w w':=by
 have HC:=zh (Hy base M m vs f i (-1) w H hi hg hat hcap (by omega));have q0:((i:Int) == 0)=false:=by simpa using h0
 clear H hi hg hat hcap h0
 go_enter Tryz.func121,Tryz.ntmps121
 go_wp2_with fail;refine HC.out.mono ?_;rintro e w1 ⟨⟨u,rfl⟩,hA⟩;have HA:=zh hA;clear hA;go_wp2_with fail
 go_ret
 exact⟨rfl,_,HA.out⟩
theorem FP (base M F m:Nat) (vs:Value) (f:Nat→RS) (i:Nat) (w:World) (H:MV base w M vs m f) (hF:Full (mg m f) F (i:Int)) (hcap:m+(Tr.walk (mg m f) F (i:Int)).length≤100000) (hat:∀ j:Nat,(j:Int)∈Tr.walk (mg m f) F (i:Int)→(f j).at'.length≤1000) (h0:i≠0):
  Calls Tryz.prog 121 #[.pointer (some ⟨M,0,none⟩),.int .i64 (i:Int),.bool true] w fun e w'=>e=.returned (.int .i64 0)∧∃ u,XR base M m vs f (i:Int) (-1) F w (.returned u) w':=by
 have HC:=zh (H7 base M F m vs f (i:Int) (-1) w H hF (.inl rfl) (fun hm=>by have:=(Full.all F _ hF _ hm).1;rw[lI (by omega)] at this;cases this) hcap hat);have q0:((i:Int) == 0)=false:=by simpa using h0
 clear H hF hat hcap h0
 go_enter Tryz.func121,Tryz.ntmps121
 go_wp2_with fail;refine HC.out.mono ?_;rintro e w1 ⟨u,vs1,k1,f1,rfl,h1⟩;have HA:=zh h1;clear h1;go_wp2_with fail
 go_ret
 exact⟨rfl,u,u,vs1,k1,f1,rfl,HA.out⟩
end
section
open Go.RowKit
variable [nX]
theorem dO {w:World} {T B M gh oh ch m X:Nat} {hs:List Int} {o:qg} (H:nV w T B M (.slice (some ⟨gh,oh,none⟩) hs.length ch) hs) (hX:Whole w X #[.int .u8 o.kind,.int .u8 o.a,.int .u8 o.b,.int .u8 o.c,.string o.s,.string o.t,.int .i8 o.n,.int .i8 o.k] 39) (hl:hs.length=m):mZ T B M gh oh m ch X o w:=by
 rw[←hl];exact⟨H.var.cell 0,H.var.cell 1,H.var.cell 2,hX.cell 4,hX.cell 5⟩
theorem p9 (W:World) (E:TypeId) (a b c d:ByteArray):TR (W.alloc (.cells #[.string a,.string b,.string c,.string d] E)) 0 E 2 (.slice (some ⟨W.heap.size,0,none⟩) 2 2) 2 (fM [(a,b),(c,d)]):=
 (TR.jJ (World.ownsRow_lit (base:=W.heap.size) (e:=E) (size:=2) W #[.string a,.string b,.string c,.string d] 2 (Nat.le_refl _) (by unfold maxLen;omega) rfl)).zero
end
section
open Go.RowKit
variable [nX]
theorem L8 (base bM T B M:Nat) (b s:Int) (vs vf aT vh:Value) (n live m:Nat) (fr:List Nat) (av:Int→Tr.Sl) (f:Nat→RS) (hs:List Int) (g:Tr.G) (K:Nat) (o:qg) (w:World) (H:TW w base bM T B M b s vs vf aT vh n live m fr av f hs g K) (ho:nY o) (hkd:o.kind.tmod 10=0) (hn0:¬ 0<o.n) (hm:m≤300) (hK:K≤60) (hT:Lit w):
  Calls Tryz.prog 13 #[.pointer (some ⟨T,0,none⟩),.agg #[.int .u8 o.kind,.int .u8 o.a,.int .u8 o.b,.int .u8 o.c,.string o.s,.string o.t,.int .i8 o.n,.int .i8 o.k]] w fun e w'=>∃ (lv:Value) (lp:List Tr.Rec) (vs' bN bF gK:Value) (n' aG m':Nat) (fr':List Nat) (dV:Int→Tr.Sl) (f':Nat→RS) (hs':List Int) (g':Tr.G),e=.returned (.tuple #[lv,.bool true])∧TW w' base bM T B M b s vs' bN bF gK n' aG m' fr' dV f' hs' g' (K+1):=by
 obtain⟨ia,hia,aK⟩:=aI ho.a.1 H.m0;obtain⟨ib,hib,gY⟩:=aI ho.b.1 H.m0;obtain⟨ic,hic,nH⟩:=aI (m:=m+1) ho.c.1 (by omega);rw[Int.natCast_add] at hic;obtain⟨Ah,ch,rfl⟩:=H.tw.row.form;have hlen:=H.len;have hm0:=H.m0;have mz:((m:Int) == 0)=false:=by simp;omega
 have Ej:((m:Int)+1 == 0)=false:=by simp;omega
 have El:¬ (m:Int)=0:=by omega
 have Em:¬ (m:Int)+1=0:=by omega
 obtain⟨w1,hw1⟩:∃ w1,w.alloc (.cells #[.int .u8 o.kind,.int .u8 o.a,.int .u8 o.b,.int .u8 o.c,.string o.s,.string o.t,.int .i8 o.n,.int .i8 o.k] 39)=w1:=⟨_,rfl⟩
 have hb1:Below w.heap.size w w1:=eP hw1;have aU:Hid (Whole w1 w.heap.size #[.int .u8 o.kind,.int .u8 o.a,.int .u8 o.b,.int .u8 o.c,.string o.s,.string o.t,.int .i8 o.n,.int .i8 o.k] 39):=zh (by rw[←hw1];exact Whole.new w _ _);have HB1:=zh hb1;have H1:=zh (H.below hb1);have lJ:=zh ho;have iJ:=zh (hT.below hb1);have HLEN:=zh hlen;obtain⟨gh,oh,rfl,-,-,hcs,-⟩:=H.tw.row.cells (by omega);have qp:=zh (fun (W:World) (hb:Below w.heap.size w W) (j:Nat) (hj:j<m)=>(show W.cell? ⟨gh,oh+j,none⟩=some (.int .i64 (hof hs (j:Int))) from (H.tw.row.below hb).cellAt j _ (by omega) (aY (H.aW hj))));have jh:=zh (fun (W:World) (hb:Below w.heap.size w W)=>(show CQ T B M gh oh m ch W from by have h:=H.tw.below hb;rw[hlen] at h;exact⟨h.var.cell 0,h.var.cell 1,h.var.cell 2⟩));have vY:=zh (fun (W:World) (hb:Below w.heap.size w W)=>H.mv.below hb);obtain⟨t0,t1,t2⟩:=jh.out w1 hb1;have x0:w1.cell? ⟨w.heap.size,0,none⟩=some (.int .u8 o.kind):=aU.out.cell 0;have x1:w1.cell? ⟨w.heap.size,1,none⟩=some (.int .u8 o.a):=aU.out.cell 1;have x2:w1.cell? ⟨w.heap.size,2,none⟩=some (.int .u8 o.b):=aU.out.cell 2;have x3:w1.cell? ⟨w.heap.size,3,none⟩=some (.int .u8 o.c):=aU.out.cell 3;have x4:w1.cell? ⟨w.heap.size,4,none⟩=some (.string o.s):=aU.out.cell 4;have x5:w1.cell? ⟨w.heap.size,5,none⟩=some (.string o.t):=aU.out.cell 5;have x6:w1.cell? ⟨w.heap.size,6,none⟩=some (.int .i8 o.n):=aU.out.cell 6;have x7:w1.cell? ⟨w.heap.size,7,none⟩=some (.int .i8 o.k):=aU.out.cell 7;obtain⟨En,Eo⟩:=ho.a;obtain⟨Ep,Er⟩:=ho.b;obtain⟨Es,Et⟩:=ho.c;obtain⟨Eu,Ev⟩:=ho.kind;have dx:=zh (fun (W:World) (hb:Below w.heap.size w W) (j:Nat) (hj:j<m)=>bW bM M m aT f j W (H.mv.below hb) hj (by omega));clear H ho hb1 hT hcs
 go_enter Tryz.func13,Tryz.ntmps13
 go_wp2_with fail;(try rw[hw1]);try go_wp2_with fail
 go_quiet (fail)
 obtain⟨V,hV⟩:∃ V,w1.drewN nq=V:=⟨_,rfl⟩
 have dH:Below w1.heap.size w1 V:=CS hV;have bZ:=zh (HB1.out.trans (dH.mono HB1.out.size));have bV:=zh (aU.out.below dH aU.out.lt);have HV:=zh (H1.out.below dH);have qw:=zh (iJ.out.below dH);obtain⟨t0',t1',t2'⟩:=jh.out V bZ.out;have z0:V.cell? ⟨w.heap.size,0,none⟩=some (.int .u8 o.kind):=bV.out.cell 0;have z4:V.cell? ⟨w.heap.size,4,none⟩=some (.string o.s):=bV.out.cell 4;have z5:V.cell? ⟨w.heap.size,5,none⟩=some (.string o.t):=bV.out.cell 5;have z6:V.cell? ⟨w.heap.size,6,none⟩=some (.int .i8 o.n):=bV.out.cell 6;have z7:V.cell? ⟨w.heap.size,7,none⟩=some (.int .i8 o.k):=bV.out.cell 7;clear t0 t1 t2 x0 x1 x2 x3 x4 x5 x6 x7 dH;(try rw[hV]);go_wp2_with fail;refine (dx.out V bZ.out ia aK).mono ?_;rintro e w2 ⟨rfl,hw2⟩;rw[hw2];clear dx hw2;have Ih:=HV;have ES:=qw;have HXB:=bV;go_wp2_with fail;obtain⟨V2,hV2⟩:∃ x,V.drew=x:=⟨_,rfl⟩
 have bA:Below V.heap.size V V2:=mJ hV2;have HW2:=zh (Ih.out.below bA);have fE:=zh (HXB.out.below bA HXB.out.lt);have HL2:=zh (ES.out.below bA);have gW:=zh (show mZ T B M gh oh m ch w.heap.size o V2 from dO HW2.out.tw fE.out HLEN.out);have wS:=zh HW2.out.mv;have HC:=zh (nD (K:=K) HW2.out hm HL2.out 2 (by decide) o.s o.t lJ.out.s lJ.out.t [] (by simp) (by intro p hp;cases hp) none 0 (TR.nil _ _ _ _) none 0 (TR.nil _ _ _ _));clear bA;refine wp_region_noPanic ?_;refine wp_region_held_drew (S:=mZ T B M gh oh m ch w.heap.size o) (by kernel_rfl) ?_ (fun hHeld=>?_)
 ·exact (by rw[hV2];exact gW.out)
 rw[hV2] at hHeld ⊢;refine bD [0,1,2,3,4,5,6,7,8,9] ?_;iterate 10 (refine dw ?_;try simp only[pS])
 refine bE ?_;refine bL 10 fun K hK=>?_;go_simp;refine HC.out.mono ?_;rintro e w3 ⟨h,E,rfl,hE,ht3,iH,hM⟩;have dW:=zh (fE.out.turns ht3 (HW2.out.tv.aJ fE.out (by decide) (by decide) (by decide)));have iG:=zh (show mZ T B M gh oh m ch w.heap.size o w3 from dO iH dW.out HLEN.out);have wF:=zh (wS.out.turns ht3 (fun x hx hf=>HW2.out.OB x hf hx));have wE:=zh iH;have HM:=zh hM;have HE:=zh hE;clear ht3 iH hM hE HC;refine hK.out _ _ (iG.out) fun hHeld=>?_;clear hK K;(try simp only[pS]);refine bD [11,12,13,14,15] ?_;iterate 5 (refine dw ?_;try simp only[pS])
 refine bE ?_;refine fB ?_;obtain⟨V3,gP⟩:∃ x,w3.drew=x:=⟨_,rfl⟩
 have bC:Below w3.heap.size w3 V3:=mJ gP;have eT:=zh (dW.out.below bC dW.out.lt);have wK:=zh (wE.out.below bC);have sM:=zh (wF.out.below bC);have kM:=zh (show mZ T B M gh oh m ch w.heap.size o V3 from dO wK.out eT.out HLEN.out);have jY:=zh (HM.out V3 bC);clear bC HM;obtain⟨i0,hi0,hz0,hz1,hz2⟩:=info_parts kD;rcases HE.out with hE | hE
 ·obtain⟨hE1,hE2⟩:=hE;subst hE1;subst hE2;go_wp2_with fail;refine wp_region_noPanic ?_;refine wp_region_held_drew (S:=mZ T B M gh oh m ch w.heap.size o) (by kernel_rfl) ?_ (fun hHeld=>?_)
  ·exact (by rw[gP];exact kM.out)
  rw[gP] at hHeld ⊢;refine bD [0,1,2,3,4,5,6,7,8,9] ?_;iterate 10 (refine dw ?_;try simp only[pS])
  refine bE ?_;refine bL 10 fun K hK=>?_;go_simp;refine jY.out.mono ?_;rintro e w4 ⟨rfl,og,hcase⟩;rcases hcase with ⟨-,-,h1⟩ | ⟨h1,-⟩
  rotate_left 1
  ·exact absurd h1 (by decide)
  have HF:=zh h1;clear h1;have nW:=zh (eT.out.turns og (sM.out.aJ eT.out (by decide) (by decide) (by decide) (by decide)));have qX:=zh (show mZ T B M gh oh m ch w.heap.size o w4 from dO HF.out.tw nW.out HLEN.out);clear og;refine hK.out _ _ (qX.out) fun hHeld=>?_;clear hK K;(try simp only[pS]);refine bD [11] ?_
  (refine dw ?_;try simp only[pS])
  refine bE ?_;refine fB ?_;go_wp2_with fail;go_ret2;exact⟨_,[],_,_,_,_,_,_,_,_,_,_,_,_,rfl,HF.out⟩
 ·obtain⟨hE1,hh0⟩:=hE;subst hE1;have q1:(h == 0)=false:=by simpa using hh0
  have q2:(h != 0)=true:=by simpa using hh0
  go_wp2_with fail;refine wp_region_noPanic ?_;refine wp_region_held_drew (S:=mZ T B M gh oh m ch w.heap.size o) (by kernel_rfl) ?_ (fun hHeld=>?_)
  ·exact (by rw[gP];exact kM.out)
  rw[gP] at hHeld ⊢;refine bD [0,1,2,3,4,5,6,7,8,9] ?_;iterate 10 (refine dw ?_;try simp only[pS])
  refine bE ?_;refine bL 10 fun K hK=>?_;go_simp;refine jY.out.mono ?_;rintro e w4 ⟨rfl,og,hcase⟩;rcases hcase with ⟨h1,-⟩ | ⟨-,-,nU,hx4⟩
  ·exact absurd h1 (by decide)
  have nW:=zh (eT.out.turns og (sM.out.aJ eT.out (by decide) (by decide) (by decide) (by decide)));have qX:=zh (show mZ T B M gh oh m ch w.heap.size o w4 from dO nU nW.out HLEN.out);have ql:=zh nU;have rz:=zh hx4;clear og nU hx4;refine hK.out _ _ (qX.out) fun hHeld=>?_;clear hK K;(try simp only[pS]);refine bD [11] ?_
  (refine dw ?_;try simp only[pS])
  refine bE ?_;refine fB ?_;obtain⟨t0,t1,t2,-⟩:=qX.out;obtain⟨w5,eH⟩:∃ x,w4.alloc (.cells #[.int .i64 h] 3)=x:=⟨_,rfl⟩
  have hb5:Below w4.heap.size w4 w5:=eP eH;have s5:=fI w4 3 (.int .i64 h);rw[eH] at s5;have oO:=(ql.out.below hb5).row;have mq:=zh hb5;have hln:=HLEN.out;rw[hln] at oO;clear hb5
  go_wp2_with (at_builtin;refine bK rfl _ _ 31 rfl 0 3 i0 (.int .i64 0) 1 8 Tryz.underlying31 hi0 hz0 hz1 hz2 rfl (by decide) _ m (ints hs) rfl oO _ 1 (ints [h]) rfl rfl (.inr ⟨_,_,rfl,s5⟩) (dY _) ?c3 ?c4 (Nat.zero_le _) ?_)
  case c3=>unfold maxLen;omega
  case c4=>omega
  intro v6 w6 o6 g6 f6;rw[←dX,←hln] at o6;obtain⟨Al,sN,Gy,hv6⟩:=nV.pushed ql.out mq.out g6 o6 f6;rw[hln] at o6;obtain⟨A6,c6,rfl⟩:=o6.form;have bf:=zh (rz.out _ _ sN Gy hv6);have e0:w6.cell? ⟨T,2,none⟩=some (.slice (some ⟨gh,oh,none⟩) hs.length ch):=Al.cell 2;have e1:=Al.free 2;clear g6 o6 f6 Al sN Gy hv6 s5 oO hln;go_wp2_with fail;go_ret2;obtain⟨vs',bN,bF,n',aG,fr',dV,f',g',hfin⟩:=bf.out;exact⟨_,[],_,_,_,_,_,_,_,_,_,_,_,_,rfl,hfin⟩
end
section
open Go.RowKit
variable [nX]
theorem L9 (base bM T B M:Nat) (b s:Int) (vs vf aT vh:Value) (n live m:Nat) (fr:List Nat) (av:Int→Tr.Sl) (f:Nat→RS) (hs:List Int) (g:Tr.G) (K:Nat) (o:qg) (w:World) (H:TW w base bM T B M b s vs vf aT vh n live m fr av f hs g K) (ho:nY o) (hkd:o.kind.tmod 10=0) (hn0:0<o.n) (hm:m≤300) (hK:K≤60) (hT:Lit w):
  Calls Tryz.prog 13 #[.pointer (some ⟨T,0,none⟩),.agg #[.int .u8 o.kind,.int .u8 o.a,.int .u8 o.b,.int .u8 o.c,.string o.s,.string o.t,.int .i8 o.n,.int .i8 o.k]] w fun e w'=>∃ (lv:Value) (lp:List Tr.Rec) (vs' bN bF gK:Value) (n' aG m':Nat) (fr':List Nat) (dV:Int→Tr.Sl) (f':Nat→RS) (hs':List Int) (g':Tr.G),e=.returned (.tuple #[lv,.bool true])∧TW w' base bM T B M b s vs' bN bF gK n' aG m' fr' dV f' hs' g' (K+1):=by
 obtain⟨ia,hia,aK⟩:=aI ho.a.1 H.m0;obtain⟨ib,hib,gY⟩:=aI ho.b.1 H.m0;obtain⟨ic,hic,nH⟩:=aI (m:=m+1) ho.c.1 (by omega);rw[Int.natCast_add] at hic;obtain⟨Ah,ch,rfl⟩:=H.tw.row.form;have hlen:=H.len;have hm0:=H.m0;have mz:((m:Int) == 0)=false:=by simp;omega
 have Ej:((m:Int)+1 == 0)=false:=by simp;omega
 have El:¬ (m:Int)=0:=by omega
 have Em:¬ (m:Int)+1=0:=by omega
 obtain⟨w1,hw1⟩:∃ w1,w.alloc (.cells #[.int .u8 o.kind,.int .u8 o.a,.int .u8 o.b,.int .u8 o.c,.string o.s,.string o.t,.int .i8 o.n,.int .i8 o.k] 39)=w1:=⟨_,rfl⟩
 have hb1:Below w.heap.size w w1:=eP hw1;have aU:Hid (Whole w1 w.heap.size #[.int .u8 o.kind,.int .u8 o.a,.int .u8 o.b,.int .u8 o.c,.string o.s,.string o.t,.int .i8 o.n,.int .i8 o.k] 39):=zh (by rw[←hw1];exact Whole.new w _ _);have HB1:=zh hb1;have H1:=zh (H.below hb1);have lJ:=zh ho;have iJ:=zh (hT.below hb1);have HLEN:=zh hlen;obtain⟨gh,oh,rfl,-,-,hcs,-⟩:=H.tw.row.cells (by omega);have qp:=zh (fun (W:World) (hb:Below w.heap.size w W) (j:Nat) (hj:j<m)=>(show W.cell? ⟨gh,oh+j,none⟩=some (.int .i64 (hof hs (j:Int))) from (H.tw.row.below hb).cellAt j _ (by omega) (aY (H.aW hj))));have jh:=zh (fun (W:World) (hb:Below w.heap.size w W)=>(show CQ T B M gh oh m ch W from by have h:=H.tw.below hb;rw[hlen] at h;exact⟨h.var.cell 0,h.var.cell 1,h.var.cell 2⟩));have vY:=zh (fun (W:World) (hb:Below w.heap.size w W)=>H.mv.below hb);obtain⟨t0,t1,t2⟩:=jh.out w1 hb1;have x0:w1.cell? ⟨w.heap.size,0,none⟩=some (.int .u8 o.kind):=aU.out.cell 0;have x1:w1.cell? ⟨w.heap.size,1,none⟩=some (.int .u8 o.a):=aU.out.cell 1;have x2:w1.cell? ⟨w.heap.size,2,none⟩=some (.int .u8 o.b):=aU.out.cell 2;have x3:w1.cell? ⟨w.heap.size,3,none⟩=some (.int .u8 o.c):=aU.out.cell 3;have x4:w1.cell? ⟨w.heap.size,4,none⟩=some (.string o.s):=aU.out.cell 4;have x5:w1.cell? ⟨w.heap.size,5,none⟩=some (.string o.t):=aU.out.cell 5;have x6:w1.cell? ⟨w.heap.size,6,none⟩=some (.int .i8 o.n):=aU.out.cell 6;have x7:w1.cell? ⟨w.heap.size,7,none⟩=some (.int .i8 o.k):=aU.out.cell 7;obtain⟨En,Eo⟩:=ho.a;obtain⟨Ep,Er⟩:=ho.b;obtain⟨Es,Et⟩:=ho.c;obtain⟨Eu,Ev⟩:=ho.kind;have dx:=zh (fun (W:World) (hb:Below w.heap.size w W) (j:Nat) (hj:j<m)=>bW bM M m aT f j W (H.mv.below hb) hj (by omega));clear H ho hb1 hT hcs
 go_enter Tryz.func13,Tryz.ntmps13
 go_wp2_with fail;(try rw[hw1]);try go_wp2_with fail
 go_quiet (fail)
 obtain⟨V,hV⟩:∃ V,w1.drewN nq=V:=⟨_,rfl⟩
 have dH:Below w1.heap.size w1 V:=CS hV;have bZ:=zh (HB1.out.trans (dH.mono HB1.out.size));have bV:=zh (aU.out.below dH aU.out.lt);have HV:=zh (H1.out.below dH);have qw:=zh (iJ.out.below dH);obtain⟨t0',t1',t2'⟩:=jh.out V bZ.out;have z0:V.cell? ⟨w.heap.size,0,none⟩=some (.int .u8 o.kind):=bV.out.cell 0;have z4:V.cell? ⟨w.heap.size,4,none⟩=some (.string o.s):=bV.out.cell 4;have z5:V.cell? ⟨w.heap.size,5,none⟩=some (.string o.t):=bV.out.cell 5;have z6:V.cell? ⟨w.heap.size,6,none⟩=some (.int .i8 o.n):=bV.out.cell 6;have z7:V.cell? ⟨w.heap.size,7,none⟩=some (.int .i8 o.k):=bV.out.cell 7;clear t0 t1 t2 x0 x1 x2 x3 x4 x5 x6 x7 dH;(try rw[hV]);go_wp2_with fail;refine (dx.out V bZ.out ia aK).mono ?_;rintro e w2 ⟨rfl,hw2⟩;rw[hw2];clear dx hw2;obtain⟨WA,wG⟩:∃ x,V.alloc (.cells #[.string o.t,.string o.s,.string ⟨#[107]⟩,.string o.t] 95)=x:=⟨_,rfl⟩
 have Ei:Below V.heap.size V WA:=eP wG;have OO:=zh (p9 V 95 o.t o.s ⟨#[107]⟩ o.t);rw[wG] at OO;obtain⟨WB,J8⟩:∃ x,WA.alloc (.cells #[.string o.t,.string o.s,.string ⟨#[107]⟩,.string o.t] 96)=x:=⟨_,rfl⟩
 have Gz:Below WA.heap.size WA WB:=eP J8;have Ry:=zh (p9 WA 96 o.t o.s ⟨#[107]⟩ o.t);rw[J8] at Ry;have GA:=bV.out.below Ei bV.out.lt;have uQ:=GA.below Gz GA.lt;have y4:WA.cell? ⟨w.heap.size,4,none⟩=some (.string o.s):=GA.cell 4;have y5:WA.cell? ⟨w.heap.size,5,none⟩=some (.string o.t):=GA.cell 5;have Ih:=zh ((HV.out.below Ei).below Gz);have ES:=zh ((qw.out.below Ei).below Gz);have HXB:=zh uQ;have OP:=zh (OO.out.below Gz);clear Ei Gz GA uQ OO;go_wp2_with fail;(try rw[wG]);(try go_wp2_with fail);(try rw[J8]);(try go_wp2_with fail);clear wG J8;obtain⟨V2,hV2⟩:∃ x,WB.drew=x:=⟨_,rfl⟩
 have bA:Below WB.heap.size WB V2:=mJ hV2;have HW2:=zh (Ih.out.below bA);have fE:=zh (HXB.out.below bA HXB.out.lt);have HL2:=zh (ES.out.below bA);have gW:=zh (show mZ T B M gh oh m ch w.heap.size o V2 from dO HW2.out.tw fE.out HLEN.out);have wS:=zh HW2.out.mv;have HC:=zh (nD (K:=K) HW2.out hm HL2.out 2 (by decide) o.s o.t lJ.out.s lJ.out.t [(o.t,o.s),(⟨#[107]⟩,o.t)] (by simp) (by have h1:=lJ.out.s;have h2:=lJ.out.t;intro p hp;simp only[List.mem_cons,List.not_mem_nil,or_false] at hp;rcases hp with rfl | rfl<;>constructor<;>first | assumption | (show (1:Nat)≤40;decide)) (some ⟨V.heap.size,0,none⟩) 2 (OP.out.below bA) (some ⟨WA.heap.size,0,none⟩) 2 (Ry.out.below bA));clear bA;refine wp_region_noPanic ?_;refine wp_region_held_drew (S:=mZ T B M gh oh m ch w.heap.size o) (by kernel_rfl) ?_ (fun hHeld=>?_)
 ·exact (by rw[hV2];exact gW.out)
 rw[hV2] at hHeld ⊢;refine bD [0,1,2,3,4,5,6,7,8,9] ?_;iterate 10 (refine dw ?_;try simp only[pS])
 refine bE ?_;refine bL 10 fun K hK=>?_;go_simp;refine HC.out.mono ?_;rintro e w3 ⟨h,E,rfl,hE,ht3,iH,hM⟩;have dW:=zh (fE.out.turns ht3 (HW2.out.tv.aJ fE.out (by decide) (by decide) (by decide)));have iG:=zh (show mZ T B M gh oh m ch w.heap.size o w3 from dO iH dW.out HLEN.out);have wF:=zh (wS.out.turns ht3 (fun x hx hf=>HW2.out.OB x hf hx));have wE:=zh iH;have HM:=zh hM;have HE:=zh hE;clear ht3 iH hM hE HC;refine hK.out _ _ (iG.out) fun hHeld=>?_;clear hK K;(try simp only[pS]);refine bD [11,12,13,14,15] ?_;iterate 5 (refine dw ?_;try simp only[pS])
 refine bE ?_;refine fB ?_;obtain⟨V3,gP⟩:∃ x,w3.drew=x:=⟨_,rfl⟩
 have bC:Below w3.heap.size w3 V3:=mJ gP;have eT:=zh (dW.out.below bC dW.out.lt);have wK:=zh (wE.out.below bC);have sM:=zh (wF.out.below bC);have kM:=zh (show mZ T B M gh oh m ch w.heap.size o V3 from dO wK.out eT.out HLEN.out);have jY:=zh (HM.out V3 bC);clear bC HM;obtain⟨i0,hi0,hz0,hz1,hz2⟩:=info_parts kD;rcases HE.out with hE | hE
 ·obtain⟨hE1,hE2⟩:=hE;subst hE1;subst hE2;go_wp2_with fail;refine wp_region_noPanic ?_;refine wp_region_held_drew (S:=mZ T B M gh oh m ch w.heap.size o) (by kernel_rfl) ?_ (fun hHeld=>?_)
  ·exact (by rw[gP];exact kM.out)
  rw[gP] at hHeld ⊢;refine bD [0,1,2,3,4,5,6,7,8,9] ?_;iterate 10 (refine dw ?_;try simp only[pS])
  refine bE ?_;refine bL 10 fun K hK=>?_;go_simp;refine jY.out.mono ?_;rintro e w4 ⟨rfl,og,hcase⟩;rcases hcase with ⟨-,-,h1⟩ | ⟨h1,-⟩
  rotate_left 1
  ·exact absurd h1 (by decide)
  have HF:=zh h1;clear h1;have nW:=zh (eT.out.turns og (sM.out.aJ eT.out (by decide) (by decide) (by decide) (by decide)));have qX:=zh (show mZ T B M gh oh m ch w.heap.size o w4 from dO HF.out.tw nW.out HLEN.out);clear og;refine hK.out _ _ (qX.out) fun hHeld=>?_;clear hK K;(try simp only[pS]);refine bD [11] ?_
  (refine dw ?_;try simp only[pS])
  refine bE ?_;refine fB ?_;go_wp2_with fail;go_ret2;exact⟨_,[],_,_,_,_,_,_,_,_,_,_,_,_,rfl,HF.out⟩
 ·obtain⟨hE1,hh0⟩:=hE;subst hE1;have q1:(h == 0)=false:=by simpa using hh0
  have q2:(h != 0)=true:=by simpa using hh0
  go_wp2_with fail;refine wp_region_noPanic ?_;refine wp_region_held_drew (S:=mZ T B M gh oh m ch w.heap.size o) (by kernel_rfl) ?_ (fun hHeld=>?_)
  ·exact (by rw[gP];exact kM.out)
  rw[gP] at hHeld ⊢;refine bD [0,1,2,3,4,5,6,7,8,9] ?_;iterate 10 (refine dw ?_;try simp only[pS])
  refine bE ?_;refine bL 10 fun K hK=>?_;go_simp;refine jY.out.mono ?_;rintro e w4 ⟨rfl,og,hcase⟩;rcases hcase with ⟨h1,-⟩ | ⟨-,-,nU,hx4⟩
  ·exact absurd h1 (by decide)
  have nW:=zh (eT.out.turns og (sM.out.aJ eT.out (by decide) (by decide) (by decide) (by decide)));have qX:=zh (show mZ T B M gh oh m ch w.heap.size o w4 from dO nU nW.out HLEN.out);have ql:=zh nU;have rz:=zh hx4;clear og nU hx4;refine hK.out _ _ (qX.out) fun hHeld=>?_;clear hK K;(try simp only[pS]);refine bD [11] ?_
  (refine dw ?_;try simp only[pS])
  refine bE ?_;refine fB ?_;obtain⟨t0,t1,t2,-⟩:=qX.out;obtain⟨w5,eH⟩:∃ x,w4.alloc (.cells #[.int .i64 h] 3)=x:=⟨_,rfl⟩
  have hb5:Below w4.heap.size w4 w5:=eP eH;have s5:=fI w4 3 (.int .i64 h);rw[eH] at s5;have oO:=(ql.out.below hb5).row;have mq:=zh hb5;have hln:=HLEN.out;rw[hln] at oO;clear hb5
  go_wp2_with (at_builtin;refine bK rfl _ _ 31 rfl 0 3 i0 (.int .i64 0) 1 8 Tryz.underlying31 hi0 hz0 hz1 hz2 rfl (by decide) _ m (ints hs) rfl oO _ 1 (ints [h]) rfl rfl (.inr ⟨_,_,rfl,s5⟩) (dY _) ?c3 ?c4 (Nat.zero_le _) ?_)
  case c3=>unfold maxLen;omega
  case c4=>omega
  intro v6 w6 o6 g6 f6;rw[←dX,←hln] at o6;obtain⟨Al,sN,Gy,hv6⟩:=nV.pushed ql.out mq.out g6 o6 f6;rw[hln] at o6;obtain⟨A6,c6,rfl⟩:=o6.form;have bf:=zh (rz.out _ _ sN Gy hv6);have e0:w6.cell? ⟨T,2,none⟩=some (.slice (some ⟨gh,oh,none⟩) hs.length ch):=Al.cell 2;have e1:=Al.free 2;clear g6 o6 f6 Al sN Gy hv6 s5 oO hln;go_wp2_with fail;go_ret2;obtain⟨vs',bN,bF,n',aG,fr',dV,f',g',hfin⟩:=bf.out;exact⟨_,[],_,_,_,_,_,_,_,_,_,_,_,_,rfl,hfin⟩
end
section
open Go.RowKit
variable [nX]
theorem Ma (base bM T B M:Nat) (b s:Int) (vs vf aT vh:Value) (n live m:Nat) (fr:List Nat) (av:Int→Tr.Sl) (f:Nat→RS) (hs:List Int) (g:Tr.G) (K:Nat) (o:qg) (w:World) (H:TW w base bM T B M b s vs vf aT vh n live m fr av f hs g K) (ho:nY o) (hkd:o.kind.tmod 10=1) (hn0:¬ 0<o.n) (hm:m≤300) (hK:K≤60) (hT:Lit w):
  Calls Tryz.prog 13 #[.pointer (some ⟨T,0,none⟩),.agg #[.int .u8 o.kind,.int .u8 o.a,.int .u8 o.b,.int .u8 o.c,.string o.s,.string o.t,.int .i8 o.n,.int .i8 o.k]] w fun e w'=>∃ (lv:Value) (lp:List Tr.Rec) (vs' bN bF gK:Value) (n' aG m':Nat) (fr':List Nat) (dV:Int→Tr.Sl) (f':Nat→RS) (hs':List Int) (g':Tr.G),e=.returned (.tuple #[lv,.bool true])∧TW w' base bM T B M b s vs' bN bF gK n' aG m' fr' dV f' hs' g' (K+1):=by
 obtain⟨ia,hia,aK⟩:=aI ho.a.1 H.m0;obtain⟨ib,hib,gY⟩:=aI ho.b.1 H.m0;obtain⟨ic,hic,nH⟩:=aI (m:=m+1) ho.c.1 (by omega);rw[Int.natCast_add] at hic;obtain⟨Ah,ch,rfl⟩:=H.tw.row.form;have hlen:=H.len;have hm0:=H.m0;have mz:((m:Int) == 0)=false:=by simp;omega
 have Ej:((m:Int)+1 == 0)=false:=by simp;omega
 have El:¬ (m:Int)=0:=by omega
 have Em:¬ (m:Int)+1=0:=by omega
 obtain⟨w1,hw1⟩:∃ w1,w.alloc (.cells #[.int .u8 o.kind,.int .u8 o.a,.int .u8 o.b,.int .u8 o.c,.string o.s,.string o.t,.int .i8 o.n,.int .i8 o.k] 39)=w1:=⟨_,rfl⟩
 have hb1:Below w.heap.size w w1:=eP hw1;have aU:Hid (Whole w1 w.heap.size #[.int .u8 o.kind,.int .u8 o.a,.int .u8 o.b,.int .u8 o.c,.string o.s,.string o.t,.int .i8 o.n,.int .i8 o.k] 39):=zh (by rw[←hw1];exact Whole.new w _ _);have HB1:=zh hb1;have H1:=zh (H.below hb1);have lJ:=zh ho;have iJ:=zh (hT.below hb1);have HLEN:=zh hlen;obtain⟨gh,oh,rfl,-,-,hcs,-⟩:=H.tw.row.cells (by omega);have qp:=zh (fun (W:World) (hb:Below w.heap.size w W) (j:Nat) (hj:j<m)=>(show W.cell? ⟨gh,oh+j,none⟩=some (.int .i64 (hof hs (j:Int))) from (H.tw.row.below hb).cellAt j _ (by omega) (aY (H.aW hj))));have jh:=zh (fun (W:World) (hb:Below w.heap.size w W)=>(show CQ T B M gh oh m ch W from by have h:=H.tw.below hb;rw[hlen] at h;exact⟨h.var.cell 0,h.var.cell 1,h.var.cell 2⟩));have vY:=zh (fun (W:World) (hb:Below w.heap.size w W)=>H.mv.below hb);obtain⟨t0,t1,t2⟩:=jh.out w1 hb1;have x0:w1.cell? ⟨w.heap.size,0,none⟩=some (.int .u8 o.kind):=aU.out.cell 0;have x1:w1.cell? ⟨w.heap.size,1,none⟩=some (.int .u8 o.a):=aU.out.cell 1;have x2:w1.cell? ⟨w.heap.size,2,none⟩=some (.int .u8 o.b):=aU.out.cell 2;have x3:w1.cell? ⟨w.heap.size,3,none⟩=some (.int .u8 o.c):=aU.out.cell 3;have x4:w1.cell? ⟨w.heap.size,4,none⟩=some (.string o.s):=aU.out.cell 4;have x5:w1.cell? ⟨w.heap.size,5,none⟩=some (.string o.t):=aU.out.cell 5;have x6:w1.cell? ⟨w.heap.size,6,none⟩=some (.int .i8 o.n):=aU.out.cell 6;have x7:w1.cell? ⟨w.heap.size,7,none⟩=some (.int .i8 o.k):=aU.out.cell 7;obtain⟨En,Eo⟩:=ho.a;obtain⟨Ep,Er⟩:=ho.b;obtain⟨Es,Et⟩:=ho.c;obtain⟨Eu,Ev⟩:=ho.kind;have dx:=zh (fun (W:World) (hb:Below w.heap.size w W) (j:Nat) (hj:j<m)=>bW bM M m aT f j W (H.mv.below hb) hj (by omega));clear H ho hb1 hT hcs
 go_enter Tryz.func13,Tryz.ntmps13
 go_wp2_with fail;(try rw[hw1]);try go_wp2_with fail
 go_quiet (fail)
 obtain⟨V,hV⟩:∃ V,w1.drewN nq=V:=⟨_,rfl⟩
 have dH:Below w1.heap.size w1 V:=CS hV;have bZ:=zh (HB1.out.trans (dH.mono HB1.out.size));have bV:=zh (aU.out.below dH aU.out.lt);have HV:=zh (H1.out.below dH);have qw:=zh (iJ.out.below dH);obtain⟨t0',t1',t2'⟩:=jh.out V bZ.out;have z0:V.cell? ⟨w.heap.size,0,none⟩=some (.int .u8 o.kind):=bV.out.cell 0;have z4:V.cell? ⟨w.heap.size,4,none⟩=some (.string o.s):=bV.out.cell 4;have z5:V.cell? ⟨w.heap.size,5,none⟩=some (.string o.t):=bV.out.cell 5;have z6:V.cell? ⟨w.heap.size,6,none⟩=some (.int .i8 o.n):=bV.out.cell 6;have z7:V.cell? ⟨w.heap.size,7,none⟩=some (.int .i8 o.k):=bV.out.cell 7;clear t0 t1 t2 x0 x1 x2 x3 x4 x5 x6 x7 dH;(try rw[hV]);go_wp2_with fail;refine (dx.out V bZ.out ia aK).mono ?_;rintro e w2 ⟨rfl,hw2⟩;rw[hw2];clear dx hw2;have Ih:=HV;have ES:=qw;have HXB:=bV;go_wp2_with fail;obtain⟨V2,hV2⟩:∃ x,V.drew=x:=⟨_,rfl⟩
 have bA:Below V.heap.size V V2:=mJ hV2;have HW2:=zh (Ih.out.below bA);have fE:=zh (HXB.out.below bA HXB.out.lt);have HL2:=zh (ES.out.below bA);have gW:=zh (show mZ T B M gh oh m ch w.heap.size o V2 from dO HW2.out.tw fE.out HLEN.out);have wS:=zh HW2.out.mv;have HC:=zh (nD (K:=K) HW2.out hm HL2.out 3 (by decide) o.s o.t lJ.out.s lJ.out.t [] (by simp) (by intro p hp;cases hp) none 0 (TR.nil _ _ _ _) none 0 (TR.nil _ _ _ _));clear bA;refine wp_region_noPanic ?_;refine wp_region_held_drew (S:=mZ T B M gh oh m ch w.heap.size o) (by kernel_rfl) ?_ (fun hHeld=>?_)
 ·exact (by rw[hV2];exact gW.out)
 rw[hV2] at hHeld ⊢;refine bD [0,1,2,3,4,5,6,7,8,9] ?_;iterate 10 (refine dw ?_;try simp only[pS])
 refine bE ?_;refine bL 10 fun K hK=>?_;go_simp;refine HC.out.mono ?_;rintro e w3 ⟨h,E,rfl,hE,ht3,iH,hM⟩;have dW:=zh (fE.out.turns ht3 (HW2.out.tv.aJ fE.out (by decide) (by decide) (by decide)));have iG:=zh (show mZ T B M gh oh m ch w.heap.size o w3 from dO iH dW.out HLEN.out);have wF:=zh (wS.out.turns ht3 (fun x hx hf=>HW2.out.OB x hf hx));have wE:=zh iH;have HM:=zh hM;have HE:=zh hE;clear ht3 iH hM hE HC;refine hK.out _ _ (iG.out) fun hHeld=>?_;clear hK K;(try simp only[pS]);refine bD [11,12,13,14,15] ?_;iterate 5 (refine dw ?_;try simp only[pS])
 refine bE ?_;refine fB ?_;obtain⟨V3,gP⟩:∃ x,w3.drew=x:=⟨_,rfl⟩
 have bC:Below w3.heap.size w3 V3:=mJ gP;have eT:=zh (dW.out.below bC dW.out.lt);have wK:=zh (wE.out.below bC);have sM:=zh (wF.out.below bC);have kM:=zh (show mZ T B M gh oh m ch w.heap.size o V3 from dO wK.out eT.out HLEN.out);have jY:=zh (HM.out V3 bC);clear bC HM;obtain⟨i0,hi0,hz0,hz1,hz2⟩:=info_parts kD;rcases HE.out with hE | hE
 ·obtain⟨hE1,hE2⟩:=hE;subst hE1;subst hE2;go_wp2_with fail;refine wp_region_noPanic ?_;refine wp_region_held_drew (S:=mZ T B M gh oh m ch w.heap.size o) (by kernel_rfl) ?_ (fun hHeld=>?_)
  ·exact (by rw[gP];exact kM.out)
  rw[gP] at hHeld ⊢;refine bD [0,1,2,3,4,5,6,7,8,9] ?_;iterate 10 (refine dw ?_;try simp only[pS])
  refine bE ?_;refine bL 10 fun K hK=>?_;go_simp;refine jY.out.mono ?_;rintro e w4 ⟨rfl,og,hcase⟩;rcases hcase with ⟨-,-,h1⟩ | ⟨h1,-⟩
  rotate_left 1
  ·exact absurd h1 (by decide)
  have HF:=zh h1;clear h1;have nW:=zh (eT.out.turns og (sM.out.aJ eT.out (by decide) (by decide) (by decide) (by decide)));have qX:=zh (show mZ T B M gh oh m ch w.heap.size o w4 from dO HF.out.tw nW.out HLEN.out);clear og;refine hK.out _ _ (qX.out) fun hHeld=>?_;clear hK K;(try simp only[pS]);refine bD [11] ?_
  (refine dw ?_;try simp only[pS])
  refine bE ?_;refine fB ?_;go_wp2_with fail;go_ret2;exact⟨_,[],_,_,_,_,_,_,_,_,_,_,_,_,rfl,HF.out⟩
 ·obtain⟨hE1,hh0⟩:=hE;subst hE1;have q1:(h == 0)=false:=by simpa using hh0
  have q2:(h != 0)=true:=by simpa using hh0
  go_wp2_with fail;refine wp_region_noPanic ?_;refine wp_region_held_drew (S:=mZ T B M gh oh m ch w.heap.size o) (by kernel_rfl) ?_ (fun hHeld=>?_)
  ·exact (by rw[gP];exact kM.out)
  rw[gP] at hHeld ⊢;refine bD [0,1,2,3,4,5,6,7,8,9] ?_;iterate 10 (refine dw ?_;try simp only[pS])
  refine bE ?_;refine bL 10 fun K hK=>?_;go_simp;refine jY.out.mono ?_;rintro e w4 ⟨rfl,og,hcase⟩;rcases hcase with ⟨h1,-⟩ | ⟨-,-,nU,hx4⟩
  ·exact absurd h1 (by decide)
  have nW:=zh (eT.out.turns og (sM.out.aJ eT.out (by decide) (by decide) (by decide) (by decide)));have qX:=zh (show mZ T B M gh oh m ch w.heap.size o w4 from dO nU nW.out HLEN.out);have ql:=zh nU;have rz:=zh hx4;clear og nU hx4;refine hK.out _ _ (qX.out) fun hHeld=>?_;clear hK K;(try simp only[pS]);refine bD [11] ?_
  (refine dw ?_;try simp only[pS])
  refine bE ?_;refine fB ?_;obtain⟨t0,t1,t2,-⟩:=qX.out;obtain⟨w5,eH⟩:∃ x,w4.alloc (.cells #[.int .i64 h] 3)=x:=⟨_,rfl⟩
  have hb5:Below w4.heap.size w4 w5:=eP eH;have s5:=fI w4 3 (.int .i64 h);rw[eH] at s5;have oO:=(ql.out.below hb5).row;have mq:=zh hb5;have hln:=HLEN.out;rw[hln] at oO;clear hb5
  go_wp2_with (at_builtin;refine bK rfl _ _ 31 rfl 0 3 i0 (.int .i64 0) 1 8 Tryz.underlying31 hi0 hz0 hz1 hz2 rfl (by decide) _ m (ints hs) rfl oO _ 1 (ints [h]) rfl rfl (.inr ⟨_,_,rfl,s5⟩) (dY _) ?c3 ?c4 (Nat.zero_le _) ?_)
  case c3=>unfold maxLen;omega
  case c4=>omega
  intro v6 w6 o6 g6 f6;rw[←dX,←hln] at o6;obtain⟨Al,sN,Gy,hv6⟩:=nV.pushed ql.out mq.out g6 o6 f6;rw[hln] at o6;obtain⟨A6,c6,rfl⟩:=o6.form;have bf:=zh (rz.out _ _ sN Gy hv6);have e0:w6.cell? ⟨T,2,none⟩=some (.slice (some ⟨gh,oh,none⟩) hs.length ch):=Al.cell 2;have e1:=Al.free 2;clear g6 o6 f6 Al sN Gy hv6 s5 oO hln;go_wp2_with fail;go_ret2;obtain⟨vs',bN,bF,n',aG,fr',dV,f',g',hfin⟩:=bf.out;exact⟨_,[],_,_,_,_,_,_,_,_,_,_,_,_,rfl,hfin⟩
end
section
open Go.RowKit
variable [nX]
theorem Mc (base bM T B M:Nat) (b s:Int) (vs vf aT vh:Value) (n live m:Nat) (fr:List Nat) (av:Int→Tr.Sl) (f:Nat→RS) (hs:List Int) (g:Tr.G) (K:Nat) (o:qg) (w:World) (H:TW w base bM T B M b s vs vf aT vh n live m fr av f hs g K) (ho:nY o) (hkd:o.kind.tmod 10=1) (hn0:0<o.n) (hm:m≤300) (hK:K≤60) (hT:Lit w):
  Calls Tryz.prog 13 #[.pointer (some ⟨T,0,none⟩),.agg #[.int .u8 o.kind,.int .u8 o.a,.int .u8 o.b,.int .u8 o.c,.string o.s,.string o.t,.int .i8 o.n,.int .i8 o.k]] w fun e w'=>∃ (lv:Value) (lp:List Tr.Rec) (vs' bN bF gK:Value) (n' aG m':Nat) (fr':List Nat) (dV:Int→Tr.Sl) (f':Nat→RS) (hs':List Int) (g':Tr.G),e=.returned (.tuple #[lv,.bool true])∧TW w' base bM T B M b s vs' bN bF gK n' aG m' fr' dV f' hs' g' (K+1):=by
 obtain⟨ia,hia,aK⟩:=aI ho.a.1 H.m0;obtain⟨ib,hib,gY⟩:=aI ho.b.1 H.m0;obtain⟨ic,hic,nH⟩:=aI (m:=m+1) ho.c.1 (by omega);rw[Int.natCast_add] at hic;obtain⟨Ah,ch,rfl⟩:=H.tw.row.form;have hlen:=H.len;have hm0:=H.m0;have mz:((m:Int) == 0)=false:=by simp;omega
 have Ej:((m:Int)+1 == 0)=false:=by simp;omega
 have El:¬ (m:Int)=0:=by omega
 have Em:¬ (m:Int)+1=0:=by omega
 obtain⟨w1,hw1⟩:∃ w1,w.alloc (.cells #[.int .u8 o.kind,.int .u8 o.a,.int .u8 o.b,.int .u8 o.c,.string o.s,.string o.t,.int .i8 o.n,.int .i8 o.k] 39)=w1:=⟨_,rfl⟩
 have hb1:Below w.heap.size w w1:=eP hw1;have aU:Hid (Whole w1 w.heap.size #[.int .u8 o.kind,.int .u8 o.a,.int .u8 o.b,.int .u8 o.c,.string o.s,.string o.t,.int .i8 o.n,.int .i8 o.k] 39):=zh (by rw[←hw1];exact Whole.new w _ _);have HB1:=zh hb1;have H1:=zh (H.below hb1);have lJ:=zh ho;have iJ:=zh (hT.below hb1);have HLEN:=zh hlen;obtain⟨gh,oh,rfl,-,-,hcs,-⟩:=H.tw.row.cells (by omega);have qp:=zh (fun (W:World) (hb:Below w.heap.size w W) (j:Nat) (hj:j<m)=>(show W.cell? ⟨gh,oh+j,none⟩=some (.int .i64 (hof hs (j:Int))) from (H.tw.row.below hb).cellAt j _ (by omega) (aY (H.aW hj))));have jh:=zh (fun (W:World) (hb:Below w.heap.size w W)=>(show CQ T B M gh oh m ch W from by have h:=H.tw.below hb;rw[hlen] at h;exact⟨h.var.cell 0,h.var.cell 1,h.var.cell 2⟩));have vY:=zh (fun (W:World) (hb:Below w.heap.size w W)=>H.mv.below hb);obtain⟨t0,t1,t2⟩:=jh.out w1 hb1;have x0:w1.cell? ⟨w.heap.size,0,none⟩=some (.int .u8 o.kind):=aU.out.cell 0;have x1:w1.cell? ⟨w.heap.size,1,none⟩=some (.int .u8 o.a):=aU.out.cell 1;have x2:w1.cell? ⟨w.heap.size,2,none⟩=some (.int .u8 o.b):=aU.out.cell 2;have x3:w1.cell? ⟨w.heap.size,3,none⟩=some (.int .u8 o.c):=aU.out.cell 3;have x4:w1.cell? ⟨w.heap.size,4,none⟩=some (.string o.s):=aU.out.cell 4;have x5:w1.cell? ⟨w.heap.size,5,none⟩=some (.string o.t):=aU.out.cell 5;have x6:w1.cell? ⟨w.heap.size,6,none⟩=some (.int .i8 o.n):=aU.out.cell 6;have x7:w1.cell? ⟨w.heap.size,7,none⟩=some (.int .i8 o.k):=aU.out.cell 7;obtain⟨En,Eo⟩:=ho.a;obtain⟨Ep,Er⟩:=ho.b;obtain⟨Es,Et⟩:=ho.c;obtain⟨Eu,Ev⟩:=ho.kind;have dx:=zh (fun (W:World) (hb:Below w.heap.size w W) (j:Nat) (hj:j<m)=>bW bM M m aT f j W (H.mv.below hb) hj (by omega));clear H ho hb1 hT hcs
 go_enter Tryz.func13,Tryz.ntmps13
 go_wp2_with fail;(try rw[hw1]);try go_wp2_with fail
 go_quiet (fail)
 obtain⟨V,hV⟩:∃ V,w1.drewN nq=V:=⟨_,rfl⟩
 have dH:Below w1.heap.size w1 V:=CS hV;have bZ:=zh (HB1.out.trans (dH.mono HB1.out.size));have bV:=zh (aU.out.below dH aU.out.lt);have HV:=zh (H1.out.below dH);have qw:=zh (iJ.out.below dH);obtain⟨t0',t1',t2'⟩:=jh.out V bZ.out;have z0:V.cell? ⟨w.heap.size,0,none⟩=some (.int .u8 o.kind):=bV.out.cell 0;have z4:V.cell? ⟨w.heap.size,4,none⟩=some (.string o.s):=bV.out.cell 4;have z5:V.cell? ⟨w.heap.size,5,none⟩=some (.string o.t):=bV.out.cell 5;have z6:V.cell? ⟨w.heap.size,6,none⟩=some (.int .i8 o.n):=bV.out.cell 6;have z7:V.cell? ⟨w.heap.size,7,none⟩=some (.int .i8 o.k):=bV.out.cell 7;clear t0 t1 t2 x0 x1 x2 x3 x4 x5 x6 x7 dH;(try rw[hV]);go_wp2_with fail;refine (dx.out V bZ.out ia aK).mono ?_;rintro e w2 ⟨rfl,hw2⟩;rw[hw2];clear dx hw2;obtain⟨WA,wG⟩:∃ x,V.alloc (.cells #[.string o.t,.string o.s,.string ⟨#[107]⟩,.string o.t] 95)=x:=⟨_,rfl⟩
 have Ei:Below V.heap.size V WA:=eP wG;have OO:=zh (p9 V 95 o.t o.s ⟨#[107]⟩ o.t);rw[wG] at OO;obtain⟨WB,J8⟩:∃ x,WA.alloc (.cells #[.string o.t,.string o.s,.string ⟨#[107]⟩,.string o.t] 96)=x:=⟨_,rfl⟩
 have Gz:Below WA.heap.size WA WB:=eP J8;have Ry:=zh (p9 WA 96 o.t o.s ⟨#[107]⟩ o.t);rw[J8] at Ry;have GA:=bV.out.below Ei bV.out.lt;have uQ:=GA.below Gz GA.lt;have y4:WA.cell? ⟨w.heap.size,4,none⟩=some (.string o.s):=GA.cell 4;have y5:WA.cell? ⟨w.heap.size,5,none⟩=some (.string o.t):=GA.cell 5;have Ih:=zh ((HV.out.below Ei).below Gz);have ES:=zh ((qw.out.below Ei).below Gz);have HXB:=zh uQ;have OP:=zh (OO.out.below Gz);clear Ei Gz GA uQ OO;go_wp2_with fail;(try rw[wG]);(try go_wp2_with fail);(try rw[J8]);(try go_wp2_with fail);clear wG J8;obtain⟨V2,hV2⟩:∃ x,WB.drew=x:=⟨_,rfl⟩
 have bA:Below WB.heap.size WB V2:=mJ hV2;have HW2:=zh (Ih.out.below bA);have fE:=zh (HXB.out.below bA HXB.out.lt);have HL2:=zh (ES.out.below bA);have gW:=zh (show mZ T B M gh oh m ch w.heap.size o V2 from dO HW2.out.tw fE.out HLEN.out);have wS:=zh HW2.out.mv;have HC:=zh (nD (K:=K) HW2.out hm HL2.out 3 (by decide) o.s o.t lJ.out.s lJ.out.t [(o.t,o.s),(⟨#[107]⟩,o.t)] (by simp) (by have h1:=lJ.out.s;have h2:=lJ.out.t;intro p hp;simp only[List.mem_cons,List.not_mem_nil,or_false] at hp;rcases hp with rfl | rfl<;>constructor<;>first | assumption | (show (1:Nat)≤40;decide)) (some ⟨V.heap.size,0,none⟩) 2 (OP.out.below bA) (some ⟨WA.heap.size,0,none⟩) 2 (Ry.out.below bA));clear bA;refine wp_region_noPanic ?_;refine wp_region_held_drew (S:=mZ T B M gh oh m ch w.heap.size o) (by kernel_rfl) ?_ (fun hHeld=>?_)
 ·exact (by rw[hV2];exact gW.out)
 rw[hV2] at hHeld ⊢;refine bD [0,1,2,3,4,5,6,7,8,9] ?_;iterate 10 (refine dw ?_;try simp only[pS])
 refine bE ?_;refine bL 10 fun K hK=>?_;go_simp;refine HC.out.mono ?_;rintro e w3 ⟨h,E,rfl,hE,ht3,iH,hM⟩;have dW:=zh (fE.out.turns ht3 (HW2.out.tv.aJ fE.out (by decide) (by decide) (by decide)));have iG:=zh (show mZ T B M gh oh m ch w.heap.size o w3 from dO iH dW.out HLEN.out);have wF:=zh (wS.out.turns ht3 (fun x hx hf=>HW2.out.OB x hf hx));have wE:=zh iH;have HM:=zh hM;have HE:=zh hE;clear ht3 iH hM hE HC;refine hK.out _ _ (iG.out) fun hHeld=>?_;clear hK K;(try simp only[pS]);refine bD [11,12,13,14,15] ?_;iterate 5 (refine dw ?_;try simp only[pS])
 refine bE ?_;refine fB ?_;obtain⟨V3,gP⟩:∃ x,w3.drew=x:=⟨_,rfl⟩
 have bC:Below w3.heap.size w3 V3:=mJ gP;have eT:=zh (dW.out.below bC dW.out.lt);have wK:=zh (wE.out.below bC);have sM:=zh (wF.out.below bC);have kM:=zh (show mZ T B M gh oh m ch w.heap.size o V3 from dO wK.out eT.out HLEN.out);have jY:=zh (HM.out V3 bC);clear bC HM;obtain⟨i0,hi0,hz0,hz1,hz2⟩:=info_parts kD;rcases HE.out with hE | hE
 ·obtain⟨hE1,hE2⟩:=hE;subst hE1;subst hE2;go_wp2_with fail;refine wp_region_noPanic ?_;refine wp_region_held_drew (S:=mZ T B M gh oh m ch w.heap.size o) (by kernel_rfl) ?_ (fun hHeld=>?_)
  ·exact (by rw[gP];exact kM.out)
  rw[gP] at hHeld ⊢;refine bD [0,1,2,3,4,5,6,7,8,9] ?_;iterate 10 (refine dw ?_;try simp only[pS])
  refine bE ?_;refine bL 10 fun K hK=>?_;go_simp;refine jY.out.mono ?_;rintro e w4 ⟨rfl,og,hcase⟩;rcases hcase with ⟨-,-,h1⟩ | ⟨h1,-⟩
  rotate_left 1
  ·exact absurd h1 (by decide)
  have HF:=zh h1;clear h1;have nW:=zh (eT.out.turns og (sM.out.aJ eT.out (by decide) (by decide) (by decide) (by decide)));have qX:=zh (show mZ T B M gh oh m ch w.heap.size o w4 from dO HF.out.tw nW.out HLEN.out);clear og;refine hK.out _ _ (qX.out) fun hHeld=>?_;clear hK K;(try simp only[pS]);refine bD [11] ?_
  (refine dw ?_;try simp only[pS])
  refine bE ?_;refine fB ?_;go_wp2_with fail;go_ret2;exact⟨_,[],_,_,_,_,_,_,_,_,_,_,_,_,rfl,HF.out⟩
 ·obtain⟨hE1,hh0⟩:=hE;subst hE1;have q1:(h == 0)=false:=by simpa using hh0
  have q2:(h != 0)=true:=by simpa using hh0
  go_wp2_with fail;refine wp_region_noPanic ?_;refine wp_region_held_drew (S:=mZ T B M gh oh m ch w.heap.size o) (by kernel_rfl) ?_ (fun hHeld=>?_)
  ·exact (by rw[gP];exact kM.out)
  rw[gP] at hHeld ⊢;refine bD [0,1,2,3,4,5,6,7,8,9] ?_;iterate 10 (refine dw ?_;try simp only[pS])
  refine bE ?_;refine bL 10 fun K hK=>?_;go_simp;refine jY.out.mono ?_;rintro e w4 ⟨rfl,og,hcase⟩;rcases hcase with ⟨h1,-⟩ | ⟨-,-,nU,hx4⟩
  ·exact absurd h1 (by decide)
  have nW:=zh (eT.out.turns og (sM.out.aJ eT.out (by decide) (by decide) (by decide) (by decide)));have qX:=zh (show mZ T B M gh oh m ch w.heap.size o w4 from dO nU nW.out HLEN.out);have ql:=zh nU;have rz:=zh hx4;clear og nU hx4;refine hK.out _ _ (qX.out) fun hHeld=>?_;clear hK K;(try simp only[pS]);refine bD [11] ?_
  (refine dw ?_;try simp only[pS])
  refine bE ?_;refine fB ?_;obtain⟨t0,t1,t2,-⟩:=qX.out;obtain⟨w5,eH⟩:∃ x,w4.alloc (.cells #[.int .i64 h] 3)=x:=⟨_,rfl⟩
  have hb5:Below w4.heap.size w4 w5:=eP eH;have s5:=fI w4 3 (.int .i64 h);rw[eH] at s5;have oO:=(ql.out.below hb5).row;have mq:=zh hb5;have hln:=HLEN.out;rw[hln] at oO;clear hb5
  go_wp2_with (at_builtin;refine bK rfl _ _ 31 rfl 0 3 i0 (.int .i64 0) 1 8 Tryz.underlying31 hi0 hz0 hz1 hz2 rfl (by decide) _ m (ints hs) rfl oO _ 1 (ints [h]) rfl rfl (.inr ⟨_,_,rfl,s5⟩) (dY _) ?c3 ?c4 (Nat.zero_le _) ?_)
  case c3=>unfold maxLen;omega
  case c4=>omega
  intro v6 w6 o6 g6 f6;rw[←dX,←hln] at o6;obtain⟨Al,sN,Gy,hv6⟩:=nV.pushed ql.out mq.out g6 o6 f6;rw[hln] at o6;obtain⟨A6,c6,rfl⟩:=o6.form;have bf:=zh (rz.out _ _ sN Gy hv6);have e0:w6.cell? ⟨T,2,none⟩=some (.slice (some ⟨gh,oh,none⟩) hs.length ch):=Al.cell 2;have e1:=Al.free 2;clear g6 o6 f6 Al sN Gy hv6 s5 oO hln;go_wp2_with fail;go_ret2;obtain⟨vs',bN,bF,n',aG,fr',dV,f',g',hfin⟩:=bf.out;exact⟨_,[],_,_,_,_,_,_,_,_,_,_,_,_,rfl,hfin⟩
end
section
open Go.RowKit
variable [nX]
theorem Md (base bM T B M:Nat) (b s:Int) (vs vf aT vh:Value) (n live m:Nat) (fr:List Nat) (av:Int→Tr.Sl) (f:Nat→RS) (hs:List Int) (g:Tr.G) (K:Nat) (o:qg) (w:World) (H:TW w base bM T B M b s vs vf aT vh n live m fr av f hs g K) (ho:nY o) (hkd:o.kind.tmod 10=2) (hn0:¬ 0<o.n) (hm:m≤300) (hK:K≤60) (hT:Lit w):
  Calls Tryz.prog 13 #[.pointer (some ⟨T,0,none⟩),.agg #[.int .u8 o.kind,.int .u8 o.a,.int .u8 o.b,.int .u8 o.c,.string o.s,.string o.t,.int .i8 o.n,.int .i8 o.k]] w fun e w'=>∃ (lv:Value) (lp:List Tr.Rec) (vs' bN bF gK:Value) (n' aG m':Nat) (fr':List Nat) (dV:Int→Tr.Sl) (f':Nat→RS) (hs':List Int) (g':Tr.G),e=.returned (.tuple #[lv,.bool true])∧TW w' base bM T B M b s vs' bN bF gK n' aG m' fr' dV f' hs' g' (K+1):=by
 obtain⟨ia,hia,aK⟩:=aI ho.a.1 H.m0;obtain⟨ib,hib,gY⟩:=aI ho.b.1 H.m0;obtain⟨ic,hic,nH⟩:=aI (m:=m+1) ho.c.1 (by omega);rw[Int.natCast_add] at hic;obtain⟨Ah,ch,rfl⟩:=H.tw.row.form;have hlen:=H.len;have hm0:=H.m0;have mz:((m:Int) == 0)=false:=by simp;omega
 have Ej:((m:Int)+1 == 0)=false:=by simp;omega
 have El:¬ (m:Int)=0:=by omega
 have Em:¬ (m:Int)+1=0:=by omega
 obtain⟨w1,hw1⟩:∃ w1,w.alloc (.cells #[.int .u8 o.kind,.int .u8 o.a,.int .u8 o.b,.int .u8 o.c,.string o.s,.string o.t,.int .i8 o.n,.int .i8 o.k] 39)=w1:=⟨_,rfl⟩
 have hb1:Below w.heap.size w w1:=eP hw1;have aU:Hid (Whole w1 w.heap.size #[.int .u8 o.kind,.int .u8 o.a,.int .u8 o.b,.int .u8 o.c,.string o.s,.string o.t,.int .i8 o.n,.int .i8 o.k] 39):=zh (by rw[←hw1];exact Whole.new w _ _);have HB1:=zh hb1;have H1:=zh (H.below hb1);have lJ:=zh ho;have iJ:=zh (hT.below hb1);have HLEN:=zh hlen;obtain⟨gh,oh,rfl,-,-,hcs,-⟩:=H.tw.row.cells (by omega);have qp:=zh (fun (W:World) (hb:Below w.heap.size w W) (j:Nat) (hj:j<m)=>(show W.cell? ⟨gh,oh+j,none⟩=some (.int .i64 (hof hs (j:Int))) from (H.tw.row.below hb).cellAt j _ (by omega) (aY (H.aW hj))));have jh:=zh (fun (W:World) (hb:Below w.heap.size w W)=>(show CQ T B M gh oh m ch W from by have h:=H.tw.below hb;rw[hlen] at h;exact⟨h.var.cell 0,h.var.cell 1,h.var.cell 2⟩));have vY:=zh (fun (W:World) (hb:Below w.heap.size w W)=>H.mv.below hb);obtain⟨t0,t1,t2⟩:=jh.out w1 hb1;have x0:w1.cell? ⟨w.heap.size,0,none⟩=some (.int .u8 o.kind):=aU.out.cell 0;have x1:w1.cell? ⟨w.heap.size,1,none⟩=some (.int .u8 o.a):=aU.out.cell 1;have x2:w1.cell? ⟨w.heap.size,2,none⟩=some (.int .u8 o.b):=aU.out.cell 2;have x3:w1.cell? ⟨w.heap.size,3,none⟩=some (.int .u8 o.c):=aU.out.cell 3;have x4:w1.cell? ⟨w.heap.size,4,none⟩=some (.string o.s):=aU.out.cell 4;have x5:w1.cell? ⟨w.heap.size,5,none⟩=some (.string o.t):=aU.out.cell 5;have x6:w1.cell? ⟨w.heap.size,6,none⟩=some (.int .i8 o.n):=aU.out.cell 6;have x7:w1.cell? ⟨w.heap.size,7,none⟩=some (.int .i8 o.k):=aU.out.cell 7;obtain⟨En,Eo⟩:=ho.a;obtain⟨Ep,Er⟩:=ho.b;obtain⟨Es,Et⟩:=ho.c;obtain⟨Eu,Ev⟩:=ho.kind;have dx:=zh (fun (W:World) (hb:Below w.heap.size w W) (j:Nat) (hj:j<m)=>bW bM M m aT f j W (H.mv.below hb) hj (by omega));clear H ho hb1 hT hcs
 go_enter Tryz.func13,Tryz.ntmps13
 go_wp2_with fail;(try rw[hw1]);try go_wp2_with fail
 go_quiet (fail)
 obtain⟨V,hV⟩:∃ V,w1.drewN nq=V:=⟨_,rfl⟩
 have dH:Below w1.heap.size w1 V:=CS hV;have bZ:=zh (HB1.out.trans (dH.mono HB1.out.size));have bV:=zh (aU.out.below dH aU.out.lt);have HV:=zh (H1.out.below dH);have qw:=zh (iJ.out.below dH);obtain⟨t0',t1',t2'⟩:=jh.out V bZ.out;have z0:V.cell? ⟨w.heap.size,0,none⟩=some (.int .u8 o.kind):=bV.out.cell 0;have z4:V.cell? ⟨w.heap.size,4,none⟩=some (.string o.s):=bV.out.cell 4;have z5:V.cell? ⟨w.heap.size,5,none⟩=some (.string o.t):=bV.out.cell 5;have z6:V.cell? ⟨w.heap.size,6,none⟩=some (.int .i8 o.n):=bV.out.cell 6;have z7:V.cell? ⟨w.heap.size,7,none⟩=some (.int .i8 o.k):=bV.out.cell 7;clear t0 t1 t2 x0 x1 x2 x3 x4 x5 x6 x7 dH;(try rw[hV]);go_wp2_with fail;refine (dx.out V bZ.out ia aK).mono ?_;rintro e w2 ⟨rfl,hw2⟩;rw[hw2];clear dx hw2;have Ih:=HV;have ES:=qw;have HXB:=bV;go_wp2_with fail;obtain⟨V2,hV2⟩:∃ x,V.drew=x:=⟨_,rfl⟩
 have bA:Below V.heap.size V V2:=mJ hV2;have HW2:=zh (Ih.out.below bA);have fE:=zh (HXB.out.below bA HXB.out.lt);have HL2:=zh (ES.out.below bA);have gW:=zh (show mZ T B M gh oh m ch w.heap.size o V2 from dO HW2.out.tw fE.out HLEN.out);have wS:=zh HW2.out.mv;have HC:=zh (nD (K:=K) HW2.out hm HL2.out 4 (by decide) o.s o.t lJ.out.s lJ.out.t [] (by simp) (by intro p hp;cases hp) none 0 (TR.nil _ _ _ _) none 0 (TR.nil _ _ _ _));clear bA;refine wp_region_noPanic ?_;refine wp_region_held_drew (S:=mZ T B M gh oh m ch w.heap.size o) (by kernel_rfl) ?_ (fun hHeld=>?_)
 ·exact (by rw[hV2];exact gW.out)
 rw[hV2] at hHeld ⊢;refine bD [0,1,2,3,4,5,6,7,8,9] ?_;iterate 10 (refine dw ?_;try simp only[pS])
 refine bE ?_;refine bL 10 fun K hK=>?_;go_simp;refine HC.out.mono ?_;rintro e w3 ⟨h,E,rfl,hE,ht3,iH,hM⟩;have dW:=zh (fE.out.turns ht3 (HW2.out.tv.aJ fE.out (by decide) (by decide) (by decide)));have iG:=zh (show mZ T B M gh oh m ch w.heap.size o w3 from dO iH dW.out HLEN.out);have wF:=zh (wS.out.turns ht3 (fun x hx hf=>HW2.out.OB x hf hx));have wE:=zh iH;have HM:=zh hM;have HE:=zh hE;clear ht3 iH hM hE HC;refine hK.out _ _ (iG.out) fun hHeld=>?_;clear hK K;(try simp only[pS]);refine bD [11,12,13,14,15] ?_;iterate 5 (refine dw ?_;try simp only[pS])
 refine bE ?_;refine fB ?_;obtain⟨V3,gP⟩:∃ x,w3.drew=x:=⟨_,rfl⟩
 have bC:Below w3.heap.size w3 V3:=mJ gP;have eT:=zh (dW.out.below bC dW.out.lt);have wK:=zh (wE.out.below bC);have sM:=zh (wF.out.below bC);have kM:=zh (show mZ T B M gh oh m ch w.heap.size o V3 from dO wK.out eT.out HLEN.out);have jY:=zh (HM.out V3 bC);clear bC HM;obtain⟨i0,hi0,hz0,hz1,hz2⟩:=info_parts kD;rcases HE.out with hE | hE
 ·obtain⟨hE1,hE2⟩:=hE;subst hE1;subst hE2;go_wp2_with fail;refine wp_region_noPanic ?_;refine wp_region_held_drew (S:=mZ T B M gh oh m ch w.heap.size o) (by kernel_rfl) ?_ (fun hHeld=>?_)
  ·exact (by rw[gP];exact kM.out)
  rw[gP] at hHeld ⊢;refine bD [0,1,2,3,4,5,6,7,8,9] ?_;iterate 10 (refine dw ?_;try simp only[pS])
  refine bE ?_;refine bL 10 fun K hK=>?_;go_simp;refine jY.out.mono ?_;rintro e w4 ⟨rfl,og,hcase⟩;rcases hcase with ⟨-,-,h1⟩ | ⟨h1,-⟩
  rotate_left 1
  ·exact absurd h1 (by decide)
  have HF:=zh h1;clear h1;have nW:=zh (eT.out.turns og (sM.out.aJ eT.out (by decide) (by decide) (by decide) (by decide)));have qX:=zh (show mZ T B M gh oh m ch w.heap.size o w4 from dO HF.out.tw nW.out HLEN.out);clear og;refine hK.out _ _ (qX.out) fun hHeld=>?_;clear hK K;(try simp only[pS]);refine bD [11] ?_
  (refine dw ?_;try simp only[pS])
  refine bE ?_;refine fB ?_;go_wp2_with fail;go_ret2;exact⟨_,[],_,_,_,_,_,_,_,_,_,_,_,_,rfl,HF.out⟩
 ·obtain⟨hE1,hh0⟩:=hE;subst hE1;have q1:(h == 0)=false:=by simpa using hh0
  have q2:(h != 0)=true:=by simpa using hh0
  go_wp2_with fail;refine wp_region_noPanic ?_;refine wp_region_held_drew (S:=mZ T B M gh oh m ch w.heap.size o) (by kernel_rfl) ?_ (fun hHeld=>?_)
  ·exact (by rw[gP];exact kM.out)
  rw[gP] at hHeld ⊢;refine bD [0,1,2,3,4,5,6,7,8,9] ?_;iterate 10 (refine dw ?_;try simp only[pS])
  refine bE ?_;refine bL 10 fun K hK=>?_;go_simp;refine jY.out.mono ?_;rintro e w4 ⟨rfl,og,hcase⟩;rcases hcase with ⟨h1,-⟩ | ⟨-,-,nU,hx4⟩
  ·exact absurd h1 (by decide)
  have nW:=zh (eT.out.turns og (sM.out.aJ eT.out (by decide) (by decide) (by decide) (by decide)));have qX:=zh (show mZ T B M gh oh m ch w.heap.size o w4 from dO nU nW.out HLEN.out);have ql:=zh nU;have rz:=zh hx4;clear og nU hx4;refine hK.out _ _ (qX.out) fun hHeld=>?_;clear hK K;(try simp only[pS]);refine bD [11] ?_
  (refine dw ?_;try simp only[pS])
  refine bE ?_;refine fB ?_;obtain⟨t0,t1,t2,-⟩:=qX.out;obtain⟨w5,eH⟩:∃ x,w4.alloc (.cells #[.int .i64 h] 3)=x:=⟨_,rfl⟩
  have hb5:Below w4.heap.size w4 w5:=eP eH;have s5:=fI w4 3 (.int .i64 h);rw[eH] at s5;have oO:=(ql.out.below hb5).row;have mq:=zh hb5;have hln:=HLEN.out;rw[hln] at oO;clear hb5
  go_wp2_with (at_builtin;refine bK rfl _ _ 31 rfl 0 3 i0 (.int .i64 0) 1 8 Tryz.underlying31 hi0 hz0 hz1 hz2 rfl (by decide) _ m (ints hs) rfl oO _ 1 (ints [h]) rfl rfl (.inr ⟨_,_,rfl,s5⟩) (dY _) ?c3 ?c4 (Nat.zero_le _) ?_)
  case c3=>unfold maxLen;omega
  case c4=>omega
  intro v6 w6 o6 g6 f6;rw[←dX,←hln] at o6;obtain⟨Al,sN,Gy,hv6⟩:=nV.pushed ql.out mq.out g6 o6 f6;rw[hln] at o6;obtain⟨A6,c6,rfl⟩:=o6.form;have bf:=zh (rz.out _ _ sN Gy hv6);have e0:w6.cell? ⟨T,2,none⟩=some (.slice (some ⟨gh,oh,none⟩) hs.length ch):=Al.cell 2;have e1:=Al.free 2;clear g6 o6 f6 Al sN Gy hv6 s5 oO hln;go_wp2_with fail;go_ret2;obtain⟨vs',bN,bF,n',aG,fr',dV,f',g',hfin⟩:=bf.out;exact⟨_,[],_,_,_,_,_,_,_,_,_,_,_,_,rfl,hfin⟩
end
section
open Go.RowKit
variable [nX]
theorem Me (base bM T B M:Nat) (b s:Int) (vs vf aT vh:Value) (n live m:Nat) (fr:List Nat) (av:Int→Tr.Sl) (f:Nat→RS) (hs:List Int) (g:Tr.G) (K:Nat) (o:qg) (w:World) (H:TW w base bM T B M b s vs vf aT vh n live m fr av f hs g K) (ho:nY o) (hkd:o.kind.tmod 10=2) (hn0:0<o.n) (hm:m≤300) (hK:K≤60) (hT:Lit w):
  Calls Tryz.prog 13 #[.pointer (some ⟨T,0,none⟩),.agg #[.int .u8 o.kind,.int .u8 o.a,.int .u8 o.b,.int .u8 o.c,.string o.s,.string o.t,.int .i8 o.n,.int .i8 o.k]] w fun e w'=>∃ (lv:Value) (lp:List Tr.Rec) (vs' bN bF gK:Value) (n' aG m':Nat) (fr':List Nat) (dV:Int→Tr.Sl) (f':Nat→RS) (hs':List Int) (g':Tr.G),e=.returned (.tuple #[lv,.bool true])∧TW w' base bM T B M b s vs' bN bF gK n' aG m' fr' dV f' hs' g' (K+1):=by
 obtain⟨ia,hia,aK⟩:=aI ho.a.1 H.m0;obtain⟨ib,hib,gY⟩:=aI ho.b.1 H.m0;obtain⟨ic,hic,nH⟩:=aI (m:=m+1) ho.c.1 (by omega);rw[Int.natCast_add] at hic;obtain⟨Ah,ch,rfl⟩:=H.tw.row.form;have hlen:=H.len;have hm0:=H.m0;have mz:((m:Int) == 0)=false:=by simp;omega
 have Ej:((m:Int)+1 == 0)=false:=by simp;omega
 have El:¬ (m:Int)=0:=by omega
 have Em:¬ (m:Int)+1=0:=by omega
 obtain⟨w1,hw1⟩:∃ w1,w.alloc (.cells #[.int .u8 o.kind,.int .u8 o.a,.int .u8 o.b,.int .u8 o.c,.string o.s,.string o.t,.int .i8 o.n,.int .i8 o.k] 39)=w1:=⟨_,rfl⟩
 have hb1:Below w.heap.size w w1:=eP hw1;have aU:Hid (Whole w1 w.heap.size #[.int .u8 o.kind,.int .u8 o.a,.int .u8 o.b,.int .u8 o.c,.string o.s,.string o.t,.int .i8 o.n,.int .i8 o.k] 39):=zh (by rw[←hw1];exact Whole.new w _ _);have HB1:=zh hb1;have H1:=zh (H.below hb1);have lJ:=zh ho;have iJ:=zh (hT.below hb1);have HLEN:=zh hlen;obtain⟨gh,oh,rfl,-,-,hcs,-⟩:=H.tw.row.cells (by omega);have qp:=zh (fun (W:World) (hb:Below w.heap.size w W) (j:Nat) (hj:j<m)=>(show W.cell? ⟨gh,oh+j,none⟩=some (.int .i64 (hof hs (j:Int))) from (H.tw.row.below hb).cellAt j _ (by omega) (aY (H.aW hj))));have jh:=zh (fun (W:World) (hb:Below w.heap.size w W)=>(show CQ T B M gh oh m ch W from by have h:=H.tw.below hb;rw[hlen] at h;exact⟨h.var.cell 0,h.var.cell 1,h.var.cell 2⟩));have vY:=zh (fun (W:World) (hb:Below w.heap.size w W)=>H.mv.below hb);obtain⟨t0,t1,t2⟩:=jh.out w1 hb1;have x0:w1.cell? ⟨w.heap.size,0,none⟩=some (.int .u8 o.kind):=aU.out.cell 0;have x1:w1.cell? ⟨w.heap.size,1,none⟩=some (.int .u8 o.a):=aU.out.cell 1;have x2:w1.cell? ⟨w.heap.size,2,none⟩=some (.int .u8 o.b):=aU.out.cell 2;have x3:w1.cell? ⟨w.heap.size,3,none⟩=some (.int .u8 o.c):=aU.out.cell 3;have x4:w1.cell? ⟨w.heap.size,4,none⟩=some (.string o.s):=aU.out.cell 4;have x5:w1.cell? ⟨w.heap.size,5,none⟩=some (.string o.t):=aU.out.cell 5;have x6:w1.cell? ⟨w.heap.size,6,none⟩=some (.int .i8 o.n):=aU.out.cell 6;have x7:w1.cell? ⟨w.heap.size,7,none⟩=some (.int .i8 o.k):=aU.out.cell 7;obtain⟨En,Eo⟩:=ho.a;obtain⟨Ep,Er⟩:=ho.b;obtain⟨Es,Et⟩:=ho.c;obtain⟨Eu,Ev⟩:=ho.kind;have dx:=zh (fun (W:World) (hb:Below w.heap.size w W) (j:Nat) (hj:j<m)=>bW bM M m aT f j W (H.mv.below hb) hj (by omega));clear H ho hb1 hT hcs
 go_enter Tryz.func13,Tryz.ntmps13
 go_wp2_with fail;(try rw[hw1]);try go_wp2_with fail
 go_quiet (fail)
 obtain⟨V,hV⟩:∃ V,w1.drewN nq=V:=⟨_,rfl⟩
 have dH:Below w1.heap.size w1 V:=CS hV;have bZ:=zh (HB1.out.trans (dH.mono HB1.out.size));have bV:=zh (aU.out.below dH aU.out.lt);have HV:=zh (H1.out.below dH);have qw:=zh (iJ.out.below dH);obtain⟨t0',t1',t2'⟩:=jh.out V bZ.out;have z0:V.cell? ⟨w.heap.size,0,none⟩=some (.int .u8 o.kind):=bV.out.cell 0;have z4:V.cell? ⟨w.heap.size,4,none⟩=some (.string o.s):=bV.out.cell 4;have z5:V.cell? ⟨w.heap.size,5,none⟩=some (.string o.t):=bV.out.cell 5;have z6:V.cell? ⟨w.heap.size,6,none⟩=some (.int .i8 o.n):=bV.out.cell 6;have z7:V.cell? ⟨w.heap.size,7,none⟩=some (.int .i8 o.k):=bV.out.cell 7;clear t0 t1 t2 x0 x1 x2 x3 x4 x5 x6 x7 dH;(try rw[hV]);go_wp2_with fail;refine (dx.out V bZ.out ia aK).mono ?_;rintro e w2 ⟨rfl,hw2⟩;rw[hw2];clear dx hw2;obtain⟨WA,wG⟩:∃ x,V.alloc (.cells #[.string o.t,.string o.s,.string ⟨#[107]⟩,.string o.t] 95)=x:=⟨_,rfl⟩
 have Ei:Below V.heap.size V WA:=eP wG;have OO:=zh (p9 V 95 o.t o.s ⟨#[107]⟩ o.t);rw[wG] at OO;obtain⟨WB,J8⟩:∃ x,WA.alloc (.cells #[.string o.t,.string o.s,.string ⟨#[107]⟩,.string o.t] 96)=x:=⟨_,rfl⟩
 have Gz:Below WA.heap.size WA WB:=eP J8;have Ry:=zh (p9 WA 96 o.t o.s ⟨#[107]⟩ o.t);rw[J8] at Ry;have GA:=bV.out.below Ei bV.out.lt;have uQ:=GA.below Gz GA.lt;have y4:WA.cell? ⟨w.heap.size,4,none⟩=some (.string o.s):=GA.cell 4;have y5:WA.cell? ⟨w.heap.size,5,none⟩=some (.string o.t):=GA.cell 5;have Ih:=zh ((HV.out.below Ei).below Gz);have ES:=zh ((qw.out.below Ei).below Gz);have HXB:=zh uQ;have OP:=zh (OO.out.below Gz);clear Ei Gz GA uQ OO;go_wp2_with fail;(try rw[wG]);(try go_wp2_with fail);(try rw[J8]);(try go_wp2_with fail);clear wG J8;obtain⟨V2,hV2⟩:∃ x,WB.drew=x:=⟨_,rfl⟩
 have bA:Below WB.heap.size WB V2:=mJ hV2;have HW2:=zh (Ih.out.below bA);have fE:=zh (HXB.out.below bA HXB.out.lt);have HL2:=zh (ES.out.below bA);have gW:=zh (show mZ T B M gh oh m ch w.heap.size o V2 from dO HW2.out.tw fE.out HLEN.out);have wS:=zh HW2.out.mv;have HC:=zh (nD (K:=K) HW2.out hm HL2.out 4 (by decide) o.s o.t lJ.out.s lJ.out.t [(o.t,o.s),(⟨#[107]⟩,o.t)] (by simp) (by have h1:=lJ.out.s;have h2:=lJ.out.t;intro p hp;simp only[List.mem_cons,List.not_mem_nil,or_false] at hp;rcases hp with rfl | rfl<;>constructor<;>first | assumption | (show (1:Nat)≤40;decide)) (some ⟨V.heap.size,0,none⟩) 2 (OP.out.below bA) (some ⟨WA.heap.size,0,none⟩) 2 (Ry.out.below bA));clear bA;refine wp_region_noPanic ?_;refine wp_region_held_drew (S:=mZ T B M gh oh m ch w.heap.size o) (by kernel_rfl) ?_ (fun hHeld=>?_)
 ·exact (by rw[hV2];exact gW.out)
 rw[hV2] at hHeld ⊢;refine bD [0,1,2,3,4,5,6,7,8,9] ?_;iterate 10 (refine dw ?_;try simp only[pS])
 refine bE ?_;refine bL 10 fun K hK=>?_;go_simp;refine HC.out.mono ?_;rintro e w3 ⟨h,E,rfl,hE,ht3,iH,hM⟩;have dW:=zh (fE.out.turns ht3 (HW2.out.tv.aJ fE.out (by decide) (by decide) (by decide)));have iG:=zh (show mZ T B M gh oh m ch w.heap.size o w3 from dO iH dW.out HLEN.out);have wF:=zh (wS.out.turns ht3 (fun x hx hf=>HW2.out.OB x hf hx));have wE:=zh iH;have HM:=zh hM;have HE:=zh hE;clear ht3 iH hM hE HC;refine hK.out _ _ (iG.out) fun hHeld=>?_;clear hK K;(try simp only[pS]);refine bD [11,12,13,14,15] ?_;iterate 5 (refine dw ?_;try simp only[pS])
 refine bE ?_;refine fB ?_;obtain⟨V3,gP⟩:∃ x,w3.drew=x:=⟨_,rfl⟩
 have bC:Below w3.heap.size w3 V3:=mJ gP;have eT:=zh (dW.out.below bC dW.out.lt);have wK:=zh (wE.out.below bC);have sM:=zh (wF.out.below bC);have kM:=zh (show mZ T B M gh oh m ch w.heap.size o V3 from dO wK.out eT.out HLEN.out);have jY:=zh (HM.out V3 bC);clear bC HM;obtain⟨i0,hi0,hz0,hz1,hz2⟩:=info_parts kD;rcases HE.out with hE | hE
 ·obtain⟨hE1,hE2⟩:=hE;subst hE1;subst hE2;go_wp2_with fail;refine wp_region_noPanic ?_;refine wp_region_held_drew (S:=mZ T B M gh oh m ch w.heap.size o) (by kernel_rfl) ?_ (fun hHeld=>?_)
  ·exact (by rw[gP];exact kM.out)
  rw[gP] at hHeld ⊢;refine bD [0,1,2,3,4,5,6,7,8,9] ?_;iterate 10 (refine dw ?_;try simp only[pS])
  refine bE ?_;refine bL 10 fun K hK=>?_;go_simp;refine jY.out.mono ?_;rintro e w4 ⟨rfl,og,hcase⟩;rcases hcase with ⟨-,-,h1⟩ | ⟨h1,-⟩
  rotate_left 1
  ·exact absurd h1 (by decide)
  have HF:=zh h1;clear h1;have nW:=zh (eT.out.turns og (sM.out.aJ eT.out (by decide) (by decide) (by decide) (by decide)));have qX:=zh (show mZ T B M gh oh m ch w.heap.size o w4 from dO HF.out.tw nW.out HLEN.out);clear og;refine hK.out _ _ (qX.out) fun hHeld=>?_;clear hK K;(try simp only[pS]);refine bD [11] ?_
  (refine dw ?_;try simp only[pS])
  refine bE ?_;refine fB ?_;go_wp2_with fail;go_ret2;exact⟨_,[],_,_,_,_,_,_,_,_,_,_,_,_,rfl,HF.out⟩
 ·obtain⟨hE1,hh0⟩:=hE;subst hE1;have q1:(h == 0)=false:=by simpa using hh0
  have q2:(h != 0)=true:=by simpa using hh0
  go_wp2_with fail;refine wp_region_noPanic ?_;refine wp_region_held_drew (S:=mZ T B M gh oh m ch w.heap.size o) (by kernel_rfl) ?_ (fun hHeld=>?_)
  ·exact (by rw[gP];exact kM.out)
  rw[gP] at hHeld ⊢;refine bD [0,1,2,3,4,5,6,7,8,9] ?_;iterate 10 (refine dw ?_;try simp only[pS])
  refine bE ?_;refine bL 10 fun K hK=>?_;go_simp;refine jY.out.mono ?_;rintro e w4 ⟨rfl,og,hcase⟩;rcases hcase with ⟨h1,-⟩ | ⟨-,-,nU,hx4⟩
  ·exact absurd h1 (by decide)
  have nW:=zh (eT.out.turns og (sM.out.aJ eT.out (by decide) (by decide) (by decide) (by decide)));have qX:=zh (show mZ T B M gh oh m ch w.heap.size o w4 from dO nU nW.out HLEN.out);have ql:=zh nU;have rz:=zh hx4;clear og nU hx4;refine hK.out _ _ (qX.out) fun hHeld=>?_;clear hK K;(try simp only[pS]);refine bD [11] ?_
  (refine dw ?_;try simp only[pS])
  refine bE ?_;refine fB ?_;obtain⟨t0,t1,t2,-⟩:=qX.out;obtain⟨w5,eH⟩:∃ x,w4.alloc (.cells #[.int .i64 h] 3)=x:=⟨_,rfl⟩
  have hb5:Below w4.heap.size w4 w5:=eP eH;have s5:=fI w4 3 (.int .i64 h);rw[eH] at s5;have oO:=(ql.out.below hb5).row;have mq:=zh hb5;have hln:=HLEN.out;rw[hln] at oO;clear hb5
  go_wp2_with (at_builtin;refine bK rfl _ _ 31 rfl 0 3 i0 (.int .i64 0) 1 8 Tryz.underlying31 hi0 hz0 hz1 hz2 rfl (by decide) _ m (ints hs) rfl oO _ 1 (ints [h]) rfl rfl (.inr ⟨_,_,rfl,s5⟩) (dY _) ?c3 ?c4 (Nat.zero_le _) ?_)
  case c3=>unfold maxLen;omega
  case c4=>omega
  intro v6 w6 o6 g6 f6;rw[←dX,←hln] at o6;obtain⟨Al,sN,Gy,hv6⟩:=nV.pushed ql.out mq.out g6 o6 f6;rw[hln] at o6;obtain⟨A6,c6,rfl⟩:=o6.form;have bf:=zh (rz.out _ _ sN Gy hv6);have e0:w6.cell? ⟨T,2,none⟩=some (.slice (some ⟨gh,oh,none⟩) hs.length ch):=Al.cell 2;have e1:=Al.free 2;clear g6 o6 f6 Al sN Gy hv6 s5 oO hln;go_wp2_with fail;go_ret2;obtain⟨vs',bN,bF,n',aG,fr',dV,f',g',hfin⟩:=bf.out;exact⟨_,[],_,_,_,_,_,_,_,_,_,_,_,_,rfl,hfin⟩
end
end Go.Proofs.YtnbaadpgbcklaaaGreatDoor
