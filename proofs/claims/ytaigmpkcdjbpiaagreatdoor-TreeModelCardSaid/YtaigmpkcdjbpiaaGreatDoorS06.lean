/- Part of a proof about trees: NRcc, NDoLem, NDo0n, NDo0p, NDo1n, NDo1p, NDo2n, NDo2p. -/
import Derived.BigQuiet
import Derived.Deep.RegionHeld3
import Derived.Test.YtaigmpkcdjbpiaaGreatDoorGNDob
import Derived.Test.YtaigmpkcdjbpiaaGreatDoorGNRcq
set_option linter.unusedVariables false
set_option linter.unusedSimpArgs false
set_option linter.unusedSectionVars false
set_option maxHeartbeats 8000000
set_option maxRecDepth 100000
namespace Go.Proofs.YtaigmpkcdjbpiaaGreatDoor
section
open Go.RowKit
theorem rcopyT_root (M:Nat) (deep:Bool) (w:World):
  Calls Tryz.prog 103 #[.pointer (some ⟨M,0,none⟩),.int .i64 0,.bool deep] w fun e w'=>e=.returned (.int .i64 10)∧w'=w:=by
 go_enter Tryz.func103,Tryz.ntmps103
 go_wp2_with fail
 go_ret
 exact⟨rfl,rfl⟩
theorem rcopyT_flat (base M m:Nat) (vs:Value) (f:Nat→RS) (i:Nat) (w:World) (H:MV base w M vs m f) (hi:i<m) (hg:(f i).gone=false) (hat:(f i).at'.length≤1000) (hcap:m<100000) (h0:i≠0):
  Calls Tryz.prog 103 #[.pointer (some ⟨M,0,none⟩),.int .i64 (i:Int),.bool false] w fun e w'=>e=.returned (.int .i64 0)∧∃ nb,RcA base M m nb vs f i (-1) w w':=by
 have HC:=zh (rcopy_flat base M m vs f i (-1) w H hi hg hat hcap (by omega));have q0:((i:Int) == 0)=false:=by simpa using h0
 clear H hi hg hat hcap h0
 go_enter Tryz.func103,Tryz.ntmps103
 go_wp2_with fail;refine HC.out.mono ?_;rintro e w1 ⟨⟨u,rfl⟩,hA⟩;have HA:=zh hA;clear hA;go_wp2_with fail
 go_ret
 exact⟨rfl,_,HA.out⟩
theorem rcopyT_deep (base M F m:Nat) (vs:Value) (f:Nat→RS) (i:Nat) (w:World) (H:MV base w M vs m f) (hF:Full (mg m f) F (i:Int)) (hcap:m+(Tr.walk (mg m f) F (i:Int)).length≤100000) (hat:∀ j:Nat,(j:Int)∈Tr.walk (mg m f) F (i:Int)→(f j).at'.length≤1000) (h0:i≠0):
  Calls Tryz.prog 103 #[.pointer (some ⟨M,0,none⟩),.int .i64 (i:Int),.bool true] w fun e w'=>e=.returned (.int .i64 0)∧∃ u,RcD base M m vs f (i:Int) (-1) F w (.returned u) w':=by
 have HC:=zh (rcopy_deep base M F m vs f (i:Int) (-1) w H hF (.inl rfl) (fun hm=>by have:=(Full.all F _ hF _ hm).1;rw[mg_neg (by omega)] at this;cases this) hcap hat);have q0:((i:Int) == 0)=false:=by simpa using h0
 clear H hF hat hcap h0
 go_enter Tryz.func103,Tryz.ntmps103
 go_wp2_with fail;refine HC.out.mono ?_;rintro e w1 ⟨u,vs1,k1,f1,rfl,h1⟩;have HA:=zh h1;clear h1;go_wp2_with fail
 go_ret
 exact⟨rfl,u,u,vs1,k1,f1,rfl,HA.out⟩
end
section
open Go.RowKit
variable [Kep]
theorem tws_mk {w:World} {T B M gh oh ch m X:Nat} {hs:List Int} {o:Op8} (H:TwV w T B M (.slice (some ⟨gh,oh,none⟩) hs.length ch) hs) (hX:Whole w X #[.int .u8 o.kind,.int .u8 o.a,.int .u8 o.b,.int .u8 o.c,.string o.s,.string o.t,.int .i8 o.n,.int .i8 o.k] 39) (hl:hs.length=m):zL5 T B M gh oh m ch X o w:=by
 rw[←hl];exact⟨H.var.cell 0,H.var.cell 1,H.var.cell 2,hX.cell 4,hX.cell 5⟩
theorem attr_row (W:World) (E:TypeId) (a b c d:ByteArray):TR (W.alloc (.cells #[.string a,.string b,.string c,.string d] E)) 0 E 2 (.slice (some ⟨W.heap.size,0,none⟩) 2 2) 2 (atC [(a,b),(c,d)]):=
 (TR.of_own (World.ownsRow_lit (base:=W.heap.size) (e:=E) (size:=2) W #[.string a,.string b,.string c,.string d] 2 (Nat.le_refl _) (by unfold maxLen;omega) rfl)).zero
end
section
open Go.RowKit
variable [Kep]
theorem do_make0n (base bM T B M:Nat) (b s:Int) (vs vf vsM vh:Value) (n live m:Nat) (fr:List Nat) (av:Int→Tr.Sl) (f:Nat→RS) (hs:List Int) (g:Tr.G) (K:Nat) (o:Op8) (w:World) (H:TW w base bM T B M b s vs vf vsM vh n live m fr av f hs g K) (ho:OpOK o) (hkd:o.kind.tmod 10=0) (hn0:¬ 0<o.n) (hm:m≤300) (hK:K≤60) (hT:Lit w):
  Calls Tryz.prog 13 #[.pointer (some ⟨T,0,none⟩),.agg #[.int .u8 o.kind,.int .u8 o.a,.int .u8 o.b,.int .u8 o.c,.string o.s,.string o.t,.int .i8 o.n,.int .i8 o.k]] w fun e w'=>∃ (lv:Value) (lp:List Tr.Rec) (vs' vf' vsM' vh':Value) (n' live' m':Nat) (fr':List Nat) (av':Int→Tr.Sl) (f':Nat→RS) (hs':List Int) (g':Tr.G),e=.returned (.tuple #[lv,.bool true])∧TW w' base bM T B M b s vs' vf' vsM' vh' n' live' m' fr' av' f' hs' g' (K+1):=by
 obtain⟨ia,hia,hial⟩:=tmod_nat ho.a.1 H.m0;obtain⟨ib,hib,hibl⟩:=tmod_nat ho.b.1 H.m0;obtain⟨ic,hic,hicl⟩:=tmod_nat (m:=m+1) ho.c.1 (by omega);rw[Int.natCast_add] at hic;obtain⟨Ah,ch,rfl⟩:=H.tw.row.form;have hlen:=H.len;have hm0:=H.m0;have mz:((m:Int) == 0)=false:=by simp;omega
 have mz1:((m:Int)+1 == 0)=false:=by simp;omega
 have mz2:¬ (m:Int)=0:=by omega
 have mz3:¬ (m:Int)+1=0:=by omega
 obtain⟨w1,hw1⟩:∃ w1,w.alloc (.cells #[.int .u8 o.kind,.int .u8 o.a,.int .u8 o.b,.int .u8 o.c,.string o.s,.string o.t,.int .i8 o.n,.int .i8 o.k] 39)=w1:=⟨_,rfl⟩
 have hb1:Below w.heap.size w w1:=bzA hw1;have HX1:Hid (Whole w1 w.heap.size #[.int .u8 o.kind,.int .u8 o.a,.int .u8 o.b,.int .u8 o.c,.string o.s,.string o.t,.int .i8 o.n,.int .i8 o.k] 39):=zh (by rw[←hw1];exact Whole.new w _ _);have HB1:=zh hb1;have H1:=zh (H.below hb1);have HOK:=zh ho;have HLIT:=zh (hT.below hb1);have HLEN:=zh hlen;obtain⟨gh,oh,rfl,-,-,hcs,-⟩:=H.tw.row.cells (by omega);have HCH:=zh (fun (W:World) (hb:Below w.heap.size w W) (j:Nat) (hj:j<m)=>(show W.cell? ⟨gh,oh+j,none⟩=some (.int .i64 (hof hs (j:Int))) from (H.tw.row.below hb).cellAt j _ (by omega) (ints_get (H.at_hs hj))));have HTC:=zh (fun (W:World) (hb:Below w.heap.size w W)=>(show zL3 T B M gh oh m ch W from by have h:=H.tw.below hb;rw[hlen] at h;exact⟨h.var.cell 0,h.var.cell 1,h.var.cell 2⟩));have HMV:=zh (fun (W:World) (hb:Below w.heap.size w W)=>H.mv.below hb);obtain⟨t0,t1,t2⟩:=HTC.out w1 hb1;have x0:w1.cell? ⟨w.heap.size,0,none⟩=some (.int .u8 o.kind):=HX1.out.cell 0;have x1:w1.cell? ⟨w.heap.size,1,none⟩=some (.int .u8 o.a):=HX1.out.cell 1;have x2:w1.cell? ⟨w.heap.size,2,none⟩=some (.int .u8 o.b):=HX1.out.cell 2;have x3:w1.cell? ⟨w.heap.size,3,none⟩=some (.int .u8 o.c):=HX1.out.cell 3;have x4:w1.cell? ⟨w.heap.size,4,none⟩=some (.string o.s):=HX1.out.cell 4;have x5:w1.cell? ⟨w.heap.size,5,none⟩=some (.string o.t):=HX1.out.cell 5;have x6:w1.cell? ⟨w.heap.size,6,none⟩=some (.int .i8 o.n):=HX1.out.cell 6;have x7:w1.cell? ⟨w.heap.size,7,none⟩=some (.int .i8 o.k):=HX1.out.cell 7;obtain⟨ka0,ka1⟩:=ho.a;obtain⟨kb0,kb1⟩:=ho.b;obtain⟨kc0,kc1⟩:=ho.c;obtain⟨kk0,kk1⟩:=ho.kind;have HHAS:=zh (fun (W:World) (hb:Below w.heap.size w W) (j:Nat) (hj:j<m)=>rhas_any bM M m vsM f j W (H.mv.below hb) hj (by omega));clear H ho hb1 hT hcs
 go_enter Tryz.func13,Tryz.ntmps13
 go_wp2_with fail;(try rw[hw1]);try go_wp2_with fail
 go_quiet (fail)
 obtain⟨V,hV⟩:∃ V,w1.drewN nq=V:=⟨_,rfl⟩
 have hbV:Below w1.heap.size w1 V:=bzN hV;have HBV:=zh (HB1.out.trans (hbV.mono HB1.out.size));have HXV:=zh (HX1.out.below hbV HX1.out.lt);have HV:=zh (H1.out.below hbV);have HLV:=zh (HLIT.out.below hbV);obtain⟨t0',t1',t2'⟩:=HTC.out V HBV.out;have z0:V.cell? ⟨w.heap.size,0,none⟩=some (.int .u8 o.kind):=HXV.out.cell 0;have z4:V.cell? ⟨w.heap.size,4,none⟩=some (.string o.s):=HXV.out.cell 4;have z5:V.cell? ⟨w.heap.size,5,none⟩=some (.string o.t):=HXV.out.cell 5;have z6:V.cell? ⟨w.heap.size,6,none⟩=some (.int .i8 o.n):=HXV.out.cell 6;have z7:V.cell? ⟨w.heap.size,7,none⟩=some (.int .i8 o.k):=HXV.out.cell 7;clear t0 t1 t2 x0 x1 x2 x3 x4 x5 x6 x7 hbV;(try rw[hV]);go_wp2_with fail;refine (HHAS.out V HBV.out ia hial).mono ?_;rintro e w2 ⟨rfl,hw2⟩;rw[hw2];clear HHAS hw2;have HVB:=HV;have HLB:=HLV;have HXB:=HXV;go_wp2_with fail;obtain⟨V2,hV2⟩:∃ x,V.drew=x:=⟨_,rfl⟩
 have hbV2:Below V.heap.size V V2:=bzD hV2;have HW2:=zh (HVB.out.below hbV2);have HX2:=zh (HXB.out.below hbV2 HXB.out.lt);have HL2:=zh (HLB.out.below hbV2);have HSS:=zh (show zL5 T B M gh oh m ch w.heap.size o V2 from tws_mk HW2.out.tw HX2.out HLEN.out);have HMV2:=zh HW2.out.mv;have HC:=zh (make_both (K:=K) HW2.out hm HL2.out 2 (by decide) o.s o.t HOK.out.s HOK.out.t [] (by simp) (by intro p hp;cases hp) none 0 (TR.nil _ _ _ _) none 0 (TR.nil _ _ _ _));clear hbV2;refine wp_region_noPanic ?_;refine wp_region_held_drew (S:=zL5 T B M gh oh m ch w.heap.size o) (by kernel_rfl) ?_ (fun hHeld=>?_)
 ·exact (by rw[hV2];exact HSS.out)
 rw[hV2] at hHeld ⊢;refine agE [0,1,2,3,4,5,6,7,8,9] ?_;iterate 10 (refine tkM ?_;try simp only[pS])
 refine agN ?_;refine rd1 10 fun K hK=>?_;go_simp;refine HC.out.mono ?_;rintro e w3 ⟨h,E,rfl,hE,ht3,htw3,hM⟩;have HX3:=zh (HX2.out.turns ht3 (HW2.out.tv.not_foot HX2.out (by decide) (by decide) (by decide)));have HS3:=zh (show zL5 T B M gh oh m ch w.heap.size o w3 from tws_mk htw3 HX3.out HLEN.out);have HMV4:=zh (HMV2.out.turns ht3 (fun x hx hf=>HW2.out.apF x hf hx));have HTW3:=zh htw3;have HM:=zh hM;have HE:=zh hE;clear ht3 htw3 hM hE HC;refine hK.out _ _ (HS3.out) fun hHeld=>?_;clear hK K;(try simp only[pS]);refine agE [11,12,13,14,15] ?_;iterate 5 (refine tkM ?_;try simp only[pS])
 refine agN ?_;refine dnH ?_;obtain⟨V3,hV3⟩:∃ x,w3.drew=x:=⟨_,rfl⟩
 have hbV3:Below w3.heap.size w3 V3:=bzD hV3;have HX5:=zh (HX3.out.below hbV3 HX3.out.lt);have HT5:=zh (HTW3.out.below hbV3);have HMV5:=zh (HMV4.out.below hbV3);have HS5:=zh (show zL5 T B M gh oh m ch w.heap.size o V3 from tws_mk HT5.out HX5.out HLEN.out);have HMV3:=zh (HM.out V3 hbV3);clear hbV3 HM;obtain⟨i0,hi0,hz0,hz1,hz2⟩:=info_parts intInfoR;rcases HE.out with hE | hE
 ·obtain⟨hE1,hE2⟩:=hE;subst hE1;subst hE2;go_wp2_with fail;refine wp_region_noPanic ?_;refine wp_region_held_drew (S:=zL5 T B M gh oh m ch w.heap.size o) (by kernel_rfl) ?_ (fun hHeld=>?_)
  ·exact (by rw[hV3];exact HS5.out)
  rw[hV3] at hHeld ⊢;refine agE [0,1,2,3,4,5,6,7,8,9] ?_;iterate 10 (refine tkM ?_;try simp only[pS])
  refine agN ?_;refine rd1 10 fun K hK=>?_;go_simp;refine HMV3.out.mono ?_;rintro e w4 ⟨rfl,ht4,hcase⟩;rcases hcase with ⟨-,-,h1⟩ | ⟨h1,-⟩
  rotate_left 1
  ·exact absurd h1 (by decide)
  have HF:=zh h1;clear h1;have HX6:=zh (HX5.out.turns ht4 (HMV5.out.not_foot HX5.out (by decide) (by decide) (by decide) (by decide)));have HS6:=zh (show zL5 T B M gh oh m ch w.heap.size o w4 from tws_mk HF.out.tw HX6.out HLEN.out);clear ht4;refine hK.out _ _ (HS6.out) fun hHeld=>?_;clear hK K;(try simp only[pS]);refine agE [11] ?_
  (refine tkM ?_;try simp only[pS])
  refine agN ?_;refine dnH ?_;go_wp2_with fail;go_ret2;exact⟨_,[],_,_,_,_,_,_,_,_,_,_,_,_,rfl,HF.out⟩
 ·obtain⟨hE1,hh0⟩:=hE;subst hE1;have q1:(h == 0)=false:=by simpa using hh0
  have q2:(h != 0)=true:=by simpa using hh0
  go_wp2_with fail;refine wp_region_noPanic ?_;refine wp_region_held_drew (S:=zL5 T B M gh oh m ch w.heap.size o) (by kernel_rfl) ?_ (fun hHeld=>?_)
  ·exact (by rw[hV3];exact HS5.out)
  rw[hV3] at hHeld ⊢;refine agE [0,1,2,3,4,5,6,7,8,9] ?_;iterate 10 (refine tkM ?_;try simp only[pS])
  refine agN ?_;refine rd1 10 fun K hK=>?_;go_simp;refine HMV3.out.mono ?_;rintro e w4 ⟨rfl,ht4,hcase⟩;rcases hcase with ⟨h1,-⟩ | ⟨-,-,htw4,hx4⟩
  ·exact absurd h1 (by decide)
  have HX6:=zh (HX5.out.turns ht4 (HMV5.out.not_foot HX5.out (by decide) (by decide) (by decide) (by decide)));have HS6:=zh (show zL5 T B M gh oh m ch w.heap.size o w4 from tws_mk htw4 HX6.out HLEN.out);have HTW4:=zh htw4;have HX4:=zh hx4;clear ht4 htw4 hx4;refine hK.out _ _ (HS6.out) fun hHeld=>?_;clear hK K;(try simp only[pS]);refine agE [11] ?_
  (refine tkM ?_;try simp only[pS])
  refine agN ?_;refine dnH ?_;obtain⟨t0,t1,t2,-⟩:=HS6.out;obtain⟨w5,hw5⟩:∃ x,w4.alloc (.cells #[.int .i64 h] 3)=x:=⟨_,rfl⟩
  have hb5:Below w4.heap.size w4 w5:=bzA hw5;have s5:=one_cell_new w4 3 (.int .i64 h);rw[hw5] at s5;have hr5:=(HTW4.out.below hb5).row;have HB5:=zh hb5;have hln:=HLEN.out;rw[hln] at hr5;clear hb5
  go_wp2_with (at_builtin;refine wpList_append_tail rfl _ _ 31 rfl 0 3 i0 (.int .i64 0) 1 8 Tryz.underlying31 hi0 hz0 hz1 hz2 rfl (by decide) _ m (ints hs) rfl hr5 _ 1 (ints [h]) rfl rfl (.inr ⟨_,_,rfl,s5⟩) (ints_one _) ?c3 ?c4 (Nat.zero_le _) ?_)
  case c3=>unfold maxLen;omega
  case c4=>omega
  intro v6 w6 o6 g6 f6;rw[←ints_append,←hln] at o6;obtain⟨hW6,htw6,ht6,hv6⟩:=TwV.pushed HTW4.out HB5.out g6 o6 f6;rw[hln] at o6;obtain⟨A6,c6,rfl⟩:=o6.form;have HFIN:=zh (HX4.out _ _ htw6 ht6 hv6);have e0:w6.cell? ⟨T,2,none⟩=some (.slice (some ⟨gh,oh,none⟩) hs.length ch):=hW6.cell 2;have e1:=hW6.free 2;clear g6 o6 f6 hW6 htw6 ht6 hv6 s5 hr5 hln;go_wp2_with fail;go_ret2;obtain⟨vs',vf',vsM',n',live',fr',av',f',g',hfin⟩:=HFIN.out;exact⟨_,[],_,_,_,_,_,_,_,_,_,_,_,_,rfl,hfin⟩
end
section
open Go.RowKit
variable [Kep]
theorem do_make0p (base bM T B M:Nat) (b s:Int) (vs vf vsM vh:Value) (n live m:Nat) (fr:List Nat) (av:Int→Tr.Sl) (f:Nat→RS) (hs:List Int) (g:Tr.G) (K:Nat) (o:Op8) (w:World) (H:TW w base bM T B M b s vs vf vsM vh n live m fr av f hs g K) (ho:OpOK o) (hkd:o.kind.tmod 10=0) (hn0:0<o.n) (hm:m≤300) (hK:K≤60) (hT:Lit w):
  Calls Tryz.prog 13 #[.pointer (some ⟨T,0,none⟩),.agg #[.int .u8 o.kind,.int .u8 o.a,.int .u8 o.b,.int .u8 o.c,.string o.s,.string o.t,.int .i8 o.n,.int .i8 o.k]] w fun e w'=>∃ (lv:Value) (lp:List Tr.Rec) (vs' vf' vsM' vh':Value) (n' live' m':Nat) (fr':List Nat) (av':Int→Tr.Sl) (f':Nat→RS) (hs':List Int) (g':Tr.G),e=.returned (.tuple #[lv,.bool true])∧TW w' base bM T B M b s vs' vf' vsM' vh' n' live' m' fr' av' f' hs' g' (K+1):=by
 obtain⟨ia,hia,hial⟩:=tmod_nat ho.a.1 H.m0;obtain⟨ib,hib,hibl⟩:=tmod_nat ho.b.1 H.m0;obtain⟨ic,hic,hicl⟩:=tmod_nat (m:=m+1) ho.c.1 (by omega);rw[Int.natCast_add] at hic;obtain⟨Ah,ch,rfl⟩:=H.tw.row.form;have hlen:=H.len;have hm0:=H.m0;have mz:((m:Int) == 0)=false:=by simp;omega
 have mz1:((m:Int)+1 == 0)=false:=by simp;omega
 have mz2:¬ (m:Int)=0:=by omega
 have mz3:¬ (m:Int)+1=0:=by omega
 obtain⟨w1,hw1⟩:∃ w1,w.alloc (.cells #[.int .u8 o.kind,.int .u8 o.a,.int .u8 o.b,.int .u8 o.c,.string o.s,.string o.t,.int .i8 o.n,.int .i8 o.k] 39)=w1:=⟨_,rfl⟩
 have hb1:Below w.heap.size w w1:=bzA hw1;have HX1:Hid (Whole w1 w.heap.size #[.int .u8 o.kind,.int .u8 o.a,.int .u8 o.b,.int .u8 o.c,.string o.s,.string o.t,.int .i8 o.n,.int .i8 o.k] 39):=zh (by rw[←hw1];exact Whole.new w _ _);have HB1:=zh hb1;have H1:=zh (H.below hb1);have HOK:=zh ho;have HLIT:=zh (hT.below hb1);have HLEN:=zh hlen;obtain⟨gh,oh,rfl,-,-,hcs,-⟩:=H.tw.row.cells (by omega);have HCH:=zh (fun (W:World) (hb:Below w.heap.size w W) (j:Nat) (hj:j<m)=>(show W.cell? ⟨gh,oh+j,none⟩=some (.int .i64 (hof hs (j:Int))) from (H.tw.row.below hb).cellAt j _ (by omega) (ints_get (H.at_hs hj))));have HTC:=zh (fun (W:World) (hb:Below w.heap.size w W)=>(show zL3 T B M gh oh m ch W from by have h:=H.tw.below hb;rw[hlen] at h;exact⟨h.var.cell 0,h.var.cell 1,h.var.cell 2⟩));have HMV:=zh (fun (W:World) (hb:Below w.heap.size w W)=>H.mv.below hb);obtain⟨t0,t1,t2⟩:=HTC.out w1 hb1;have x0:w1.cell? ⟨w.heap.size,0,none⟩=some (.int .u8 o.kind):=HX1.out.cell 0;have x1:w1.cell? ⟨w.heap.size,1,none⟩=some (.int .u8 o.a):=HX1.out.cell 1;have x2:w1.cell? ⟨w.heap.size,2,none⟩=some (.int .u8 o.b):=HX1.out.cell 2;have x3:w1.cell? ⟨w.heap.size,3,none⟩=some (.int .u8 o.c):=HX1.out.cell 3;have x4:w1.cell? ⟨w.heap.size,4,none⟩=some (.string o.s):=HX1.out.cell 4;have x5:w1.cell? ⟨w.heap.size,5,none⟩=some (.string o.t):=HX1.out.cell 5;have x6:w1.cell? ⟨w.heap.size,6,none⟩=some (.int .i8 o.n):=HX1.out.cell 6;have x7:w1.cell? ⟨w.heap.size,7,none⟩=some (.int .i8 o.k):=HX1.out.cell 7;obtain⟨ka0,ka1⟩:=ho.a;obtain⟨kb0,kb1⟩:=ho.b;obtain⟨kc0,kc1⟩:=ho.c;obtain⟨kk0,kk1⟩:=ho.kind;have HHAS:=zh (fun (W:World) (hb:Below w.heap.size w W) (j:Nat) (hj:j<m)=>rhas_any bM M m vsM f j W (H.mv.below hb) hj (by omega));clear H ho hb1 hT hcs
 go_enter Tryz.func13,Tryz.ntmps13
 go_wp2_with fail;(try rw[hw1]);try go_wp2_with fail
 go_quiet (fail)
 obtain⟨V,hV⟩:∃ V,w1.drewN nq=V:=⟨_,rfl⟩
 have hbV:Below w1.heap.size w1 V:=bzN hV;have HBV:=zh (HB1.out.trans (hbV.mono HB1.out.size));have HXV:=zh (HX1.out.below hbV HX1.out.lt);have HV:=zh (H1.out.below hbV);have HLV:=zh (HLIT.out.below hbV);obtain⟨t0',t1',t2'⟩:=HTC.out V HBV.out;have z0:V.cell? ⟨w.heap.size,0,none⟩=some (.int .u8 o.kind):=HXV.out.cell 0;have z4:V.cell? ⟨w.heap.size,4,none⟩=some (.string o.s):=HXV.out.cell 4;have z5:V.cell? ⟨w.heap.size,5,none⟩=some (.string o.t):=HXV.out.cell 5;have z6:V.cell? ⟨w.heap.size,6,none⟩=some (.int .i8 o.n):=HXV.out.cell 6;have z7:V.cell? ⟨w.heap.size,7,none⟩=some (.int .i8 o.k):=HXV.out.cell 7;clear t0 t1 t2 x0 x1 x2 x3 x4 x5 x6 x7 hbV;(try rw[hV]);go_wp2_with fail;refine (HHAS.out V HBV.out ia hial).mono ?_;rintro e w2 ⟨rfl,hw2⟩;rw[hw2];clear HHAS hw2;obtain⟨WA,hWA⟩:∃ x,V.alloc (.cells #[.string o.t,.string o.s,.string ⟨#[107]⟩,.string o.t] 91)=x:=⟨_,rfl⟩
 have hbA:Below V.heap.size V WA:=bzA hWA;have HRA:=zh (attr_row V 91 o.t o.s ⟨#[107]⟩ o.t);rw[hWA] at HRA;obtain⟨WB,hWB⟩:∃ x,WA.alloc (.cells #[.string o.t,.string o.s,.string ⟨#[107]⟩,.string o.t] 92)=x:=⟨_,rfl⟩
 have hbB:Below WA.heap.size WA WB:=bzA hWB;have HRB:=zh (attr_row WA 92 o.t o.s ⟨#[107]⟩ o.t);rw[hWB] at HRB;have hXA:=HXV.out.below hbA HXV.out.lt;have hXB:=hXA.below hbB hXA.lt;have y4:WA.cell? ⟨w.heap.size,4,none⟩=some (.string o.s):=hXA.cell 4;have y5:WA.cell? ⟨w.heap.size,5,none⟩=some (.string o.t):=hXA.cell 5;have HVB:=zh ((HV.out.below hbA).below hbB);have HLB:=zh ((HLV.out.below hbA).below hbB);have HXB:=zh hXB;have HRA':=zh (HRA.out.below hbB);clear hbA hbB hXA hXB HRA;go_wp2_with fail;(try rw[hWA]);(try go_wp2_with fail);(try rw[hWB]);(try go_wp2_with fail);clear hWA hWB;obtain⟨V2,hV2⟩:∃ x,WB.drew=x:=⟨_,rfl⟩
 have hbV2:Below WB.heap.size WB V2:=bzD hV2;have HW2:=zh (HVB.out.below hbV2);have HX2:=zh (HXB.out.below hbV2 HXB.out.lt);have HL2:=zh (HLB.out.below hbV2);have HSS:=zh (show zL5 T B M gh oh m ch w.heap.size o V2 from tws_mk HW2.out.tw HX2.out HLEN.out);have HMV2:=zh HW2.out.mv;have HC:=zh (make_both (K:=K) HW2.out hm HL2.out 2 (by decide) o.s o.t HOK.out.s HOK.out.t [(o.t,o.s),(⟨#[107]⟩,o.t)] (by simp) (by have h1:=HOK.out.s;have h2:=HOK.out.t;intro p hp;simp only[List.mem_cons,List.not_mem_nil,or_false] at hp;rcases hp with rfl | rfl<;>constructor<;>first | assumption | (show (1:Nat)≤40;decide)) (some ⟨V.heap.size,0,none⟩) 2 (HRA'.out.below hbV2) (some ⟨WA.heap.size,0,none⟩) 2 (HRB.out.below hbV2));clear hbV2;refine wp_region_noPanic ?_;refine wp_region_held_drew (S:=zL5 T B M gh oh m ch w.heap.size o) (by kernel_rfl) ?_ (fun hHeld=>?_)
 ·exact (by rw[hV2];exact HSS.out)
 rw[hV2] at hHeld ⊢;refine agE [0,1,2,3,4,5,6,7,8,9] ?_;iterate 10 (refine tkM ?_;try simp only[pS])
 refine agN ?_;refine rd1 10 fun K hK=>?_;go_simp;refine HC.out.mono ?_;rintro e w3 ⟨h,E,rfl,hE,ht3,htw3,hM⟩;have HX3:=zh (HX2.out.turns ht3 (HW2.out.tv.not_foot HX2.out (by decide) (by decide) (by decide)));have HS3:=zh (show zL5 T B M gh oh m ch w.heap.size o w3 from tws_mk htw3 HX3.out HLEN.out);have HMV4:=zh (HMV2.out.turns ht3 (fun x hx hf=>HW2.out.apF x hf hx));have HTW3:=zh htw3;have HM:=zh hM;have HE:=zh hE;clear ht3 htw3 hM hE HC;refine hK.out _ _ (HS3.out) fun hHeld=>?_;clear hK K;(try simp only[pS]);refine agE [11,12,13,14,15] ?_;iterate 5 (refine tkM ?_;try simp only[pS])
 refine agN ?_;refine dnH ?_;obtain⟨V3,hV3⟩:∃ x,w3.drew=x:=⟨_,rfl⟩
 have hbV3:Below w3.heap.size w3 V3:=bzD hV3;have HX5:=zh (HX3.out.below hbV3 HX3.out.lt);have HT5:=zh (HTW3.out.below hbV3);have HMV5:=zh (HMV4.out.below hbV3);have HS5:=zh (show zL5 T B M gh oh m ch w.heap.size o V3 from tws_mk HT5.out HX5.out HLEN.out);have HMV3:=zh (HM.out V3 hbV3);clear hbV3 HM;obtain⟨i0,hi0,hz0,hz1,hz2⟩:=info_parts intInfoR;rcases HE.out with hE | hE
 ·obtain⟨hE1,hE2⟩:=hE;subst hE1;subst hE2;go_wp2_with fail;refine wp_region_noPanic ?_;refine wp_region_held_drew (S:=zL5 T B M gh oh m ch w.heap.size o) (by kernel_rfl) ?_ (fun hHeld=>?_)
  ·exact (by rw[hV3];exact HS5.out)
  rw[hV3] at hHeld ⊢;refine agE [0,1,2,3,4,5,6,7,8,9] ?_;iterate 10 (refine tkM ?_;try simp only[pS])
  refine agN ?_;refine rd1 10 fun K hK=>?_;go_simp;refine HMV3.out.mono ?_;rintro e w4 ⟨rfl,ht4,hcase⟩;rcases hcase with ⟨-,-,h1⟩ | ⟨h1,-⟩
  rotate_left 1
  ·exact absurd h1 (by decide)
  have HF:=zh h1;clear h1;have HX6:=zh (HX5.out.turns ht4 (HMV5.out.not_foot HX5.out (by decide) (by decide) (by decide) (by decide)));have HS6:=zh (show zL5 T B M gh oh m ch w.heap.size o w4 from tws_mk HF.out.tw HX6.out HLEN.out);clear ht4;refine hK.out _ _ (HS6.out) fun hHeld=>?_;clear hK K;(try simp only[pS]);refine agE [11] ?_
  (refine tkM ?_;try simp only[pS])
  refine agN ?_;refine dnH ?_;go_wp2_with fail;go_ret2;exact⟨_,[],_,_,_,_,_,_,_,_,_,_,_,_,rfl,HF.out⟩
 ·obtain⟨hE1,hh0⟩:=hE;subst hE1;have q1:(h == 0)=false:=by simpa using hh0
  have q2:(h != 0)=true:=by simpa using hh0
  go_wp2_with fail;refine wp_region_noPanic ?_;refine wp_region_held_drew (S:=zL5 T B M gh oh m ch w.heap.size o) (by kernel_rfl) ?_ (fun hHeld=>?_)
  ·exact (by rw[hV3];exact HS5.out)
  rw[hV3] at hHeld ⊢;refine agE [0,1,2,3,4,5,6,7,8,9] ?_;iterate 10 (refine tkM ?_;try simp only[pS])
  refine agN ?_;refine rd1 10 fun K hK=>?_;go_simp;refine HMV3.out.mono ?_;rintro e w4 ⟨rfl,ht4,hcase⟩;rcases hcase with ⟨h1,-⟩ | ⟨-,-,htw4,hx4⟩
  ·exact absurd h1 (by decide)
  have HX6:=zh (HX5.out.turns ht4 (HMV5.out.not_foot HX5.out (by decide) (by decide) (by decide) (by decide)));have HS6:=zh (show zL5 T B M gh oh m ch w.heap.size o w4 from tws_mk htw4 HX6.out HLEN.out);have HTW4:=zh htw4;have HX4:=zh hx4;clear ht4 htw4 hx4;refine hK.out _ _ (HS6.out) fun hHeld=>?_;clear hK K;(try simp only[pS]);refine agE [11] ?_
  (refine tkM ?_;try simp only[pS])
  refine agN ?_;refine dnH ?_;obtain⟨t0,t1,t2,-⟩:=HS6.out;obtain⟨w5,hw5⟩:∃ x,w4.alloc (.cells #[.int .i64 h] 3)=x:=⟨_,rfl⟩
  have hb5:Below w4.heap.size w4 w5:=bzA hw5;have s5:=one_cell_new w4 3 (.int .i64 h);rw[hw5] at s5;have hr5:=(HTW4.out.below hb5).row;have HB5:=zh hb5;have hln:=HLEN.out;rw[hln] at hr5;clear hb5
  go_wp2_with (at_builtin;refine wpList_append_tail rfl _ _ 31 rfl 0 3 i0 (.int .i64 0) 1 8 Tryz.underlying31 hi0 hz0 hz1 hz2 rfl (by decide) _ m (ints hs) rfl hr5 _ 1 (ints [h]) rfl rfl (.inr ⟨_,_,rfl,s5⟩) (ints_one _) ?c3 ?c4 (Nat.zero_le _) ?_)
  case c3=>unfold maxLen;omega
  case c4=>omega
  intro v6 w6 o6 g6 f6;rw[←ints_append,←hln] at o6;obtain⟨hW6,htw6,ht6,hv6⟩:=TwV.pushed HTW4.out HB5.out g6 o6 f6;rw[hln] at o6;obtain⟨A6,c6,rfl⟩:=o6.form;have HFIN:=zh (HX4.out _ _ htw6 ht6 hv6);have e0:w6.cell? ⟨T,2,none⟩=some (.slice (some ⟨gh,oh,none⟩) hs.length ch):=hW6.cell 2;have e1:=hW6.free 2;clear g6 o6 f6 hW6 htw6 ht6 hv6 s5 hr5 hln;go_wp2_with fail;go_ret2;obtain⟨vs',vf',vsM',n',live',fr',av',f',g',hfin⟩:=HFIN.out;exact⟨_,[],_,_,_,_,_,_,_,_,_,_,_,_,rfl,hfin⟩
end
section
open Go.RowKit
variable [Kep]
theorem do_make1n (base bM T B M:Nat) (b s:Int) (vs vf vsM vh:Value) (n live m:Nat) (fr:List Nat) (av:Int→Tr.Sl) (f:Nat→RS) (hs:List Int) (g:Tr.G) (K:Nat) (o:Op8) (w:World) (H:TW w base bM T B M b s vs vf vsM vh n live m fr av f hs g K) (ho:OpOK o) (hkd:o.kind.tmod 10=1) (hn0:¬ 0<o.n) (hm:m≤300) (hK:K≤60) (hT:Lit w):
  Calls Tryz.prog 13 #[.pointer (some ⟨T,0,none⟩),.agg #[.int .u8 o.kind,.int .u8 o.a,.int .u8 o.b,.int .u8 o.c,.string o.s,.string o.t,.int .i8 o.n,.int .i8 o.k]] w fun e w'=>∃ (lv:Value) (lp:List Tr.Rec) (vs' vf' vsM' vh':Value) (n' live' m':Nat) (fr':List Nat) (av':Int→Tr.Sl) (f':Nat→RS) (hs':List Int) (g':Tr.G),e=.returned (.tuple #[lv,.bool true])∧TW w' base bM T B M b s vs' vf' vsM' vh' n' live' m' fr' av' f' hs' g' (K+1):=by
 obtain⟨ia,hia,hial⟩:=tmod_nat ho.a.1 H.m0;obtain⟨ib,hib,hibl⟩:=tmod_nat ho.b.1 H.m0;obtain⟨ic,hic,hicl⟩:=tmod_nat (m:=m+1) ho.c.1 (by omega);rw[Int.natCast_add] at hic;obtain⟨Ah,ch,rfl⟩:=H.tw.row.form;have hlen:=H.len;have hm0:=H.m0;have mz:((m:Int) == 0)=false:=by simp;omega
 have mz1:((m:Int)+1 == 0)=false:=by simp;omega
 have mz2:¬ (m:Int)=0:=by omega
 have mz3:¬ (m:Int)+1=0:=by omega
 obtain⟨w1,hw1⟩:∃ w1,w.alloc (.cells #[.int .u8 o.kind,.int .u8 o.a,.int .u8 o.b,.int .u8 o.c,.string o.s,.string o.t,.int .i8 o.n,.int .i8 o.k] 39)=w1:=⟨_,rfl⟩
 have hb1:Below w.heap.size w w1:=bzA hw1;have HX1:Hid (Whole w1 w.heap.size #[.int .u8 o.kind,.int .u8 o.a,.int .u8 o.b,.int .u8 o.c,.string o.s,.string o.t,.int .i8 o.n,.int .i8 o.k] 39):=zh (by rw[←hw1];exact Whole.new w _ _);have HB1:=zh hb1;have H1:=zh (H.below hb1);have HOK:=zh ho;have HLIT:=zh (hT.below hb1);have HLEN:=zh hlen;obtain⟨gh,oh,rfl,-,-,hcs,-⟩:=H.tw.row.cells (by omega);have HCH:=zh (fun (W:World) (hb:Below w.heap.size w W) (j:Nat) (hj:j<m)=>(show W.cell? ⟨gh,oh+j,none⟩=some (.int .i64 (hof hs (j:Int))) from (H.tw.row.below hb).cellAt j _ (by omega) (ints_get (H.at_hs hj))));have HTC:=zh (fun (W:World) (hb:Below w.heap.size w W)=>(show zL3 T B M gh oh m ch W from by have h:=H.tw.below hb;rw[hlen] at h;exact⟨h.var.cell 0,h.var.cell 1,h.var.cell 2⟩));have HMV:=zh (fun (W:World) (hb:Below w.heap.size w W)=>H.mv.below hb);obtain⟨t0,t1,t2⟩:=HTC.out w1 hb1;have x0:w1.cell? ⟨w.heap.size,0,none⟩=some (.int .u8 o.kind):=HX1.out.cell 0;have x1:w1.cell? ⟨w.heap.size,1,none⟩=some (.int .u8 o.a):=HX1.out.cell 1;have x2:w1.cell? ⟨w.heap.size,2,none⟩=some (.int .u8 o.b):=HX1.out.cell 2;have x3:w1.cell? ⟨w.heap.size,3,none⟩=some (.int .u8 o.c):=HX1.out.cell 3;have x4:w1.cell? ⟨w.heap.size,4,none⟩=some (.string o.s):=HX1.out.cell 4;have x5:w1.cell? ⟨w.heap.size,5,none⟩=some (.string o.t):=HX1.out.cell 5;have x6:w1.cell? ⟨w.heap.size,6,none⟩=some (.int .i8 o.n):=HX1.out.cell 6;have x7:w1.cell? ⟨w.heap.size,7,none⟩=some (.int .i8 o.k):=HX1.out.cell 7;obtain⟨ka0,ka1⟩:=ho.a;obtain⟨kb0,kb1⟩:=ho.b;obtain⟨kc0,kc1⟩:=ho.c;obtain⟨kk0,kk1⟩:=ho.kind;have HHAS:=zh (fun (W:World) (hb:Below w.heap.size w W) (j:Nat) (hj:j<m)=>rhas_any bM M m vsM f j W (H.mv.below hb) hj (by omega));clear H ho hb1 hT hcs
 go_enter Tryz.func13,Tryz.ntmps13
 go_wp2_with fail;(try rw[hw1]);try go_wp2_with fail
 go_quiet (fail)
 obtain⟨V,hV⟩:∃ V,w1.drewN nq=V:=⟨_,rfl⟩
 have hbV:Below w1.heap.size w1 V:=bzN hV;have HBV:=zh (HB1.out.trans (hbV.mono HB1.out.size));have HXV:=zh (HX1.out.below hbV HX1.out.lt);have HV:=zh (H1.out.below hbV);have HLV:=zh (HLIT.out.below hbV);obtain⟨t0',t1',t2'⟩:=HTC.out V HBV.out;have z0:V.cell? ⟨w.heap.size,0,none⟩=some (.int .u8 o.kind):=HXV.out.cell 0;have z4:V.cell? ⟨w.heap.size,4,none⟩=some (.string o.s):=HXV.out.cell 4;have z5:V.cell? ⟨w.heap.size,5,none⟩=some (.string o.t):=HXV.out.cell 5;have z6:V.cell? ⟨w.heap.size,6,none⟩=some (.int .i8 o.n):=HXV.out.cell 6;have z7:V.cell? ⟨w.heap.size,7,none⟩=some (.int .i8 o.k):=HXV.out.cell 7;clear t0 t1 t2 x0 x1 x2 x3 x4 x5 x6 x7 hbV;(try rw[hV]);go_wp2_with fail;refine (HHAS.out V HBV.out ia hial).mono ?_;rintro e w2 ⟨rfl,hw2⟩;rw[hw2];clear HHAS hw2;have HVB:=HV;have HLB:=HLV;have HXB:=HXV;go_wp2_with fail;obtain⟨V2,hV2⟩:∃ x,V.drew=x:=⟨_,rfl⟩
 have hbV2:Below V.heap.size V V2:=bzD hV2;have HW2:=zh (HVB.out.below hbV2);have HX2:=zh (HXB.out.below hbV2 HXB.out.lt);have HL2:=zh (HLB.out.below hbV2);have HSS:=zh (show zL5 T B M gh oh m ch w.heap.size o V2 from tws_mk HW2.out.tw HX2.out HLEN.out);have HMV2:=zh HW2.out.mv;have HC:=zh (make_both (K:=K) HW2.out hm HL2.out 3 (by decide) o.s o.t HOK.out.s HOK.out.t [] (by simp) (by intro p hp;cases hp) none 0 (TR.nil _ _ _ _) none 0 (TR.nil _ _ _ _));clear hbV2;refine wp_region_noPanic ?_;refine wp_region_held_drew (S:=zL5 T B M gh oh m ch w.heap.size o) (by kernel_rfl) ?_ (fun hHeld=>?_)
 ·exact (by rw[hV2];exact HSS.out)
 rw[hV2] at hHeld ⊢;refine agE [0,1,2,3,4,5,6,7,8,9] ?_;iterate 10 (refine tkM ?_;try simp only[pS])
 refine agN ?_;refine rd1 10 fun K hK=>?_;go_simp;refine HC.out.mono ?_;rintro e w3 ⟨h,E,rfl,hE,ht3,htw3,hM⟩;have HX3:=zh (HX2.out.turns ht3 (HW2.out.tv.not_foot HX2.out (by decide) (by decide) (by decide)));have HS3:=zh (show zL5 T B M gh oh m ch w.heap.size o w3 from tws_mk htw3 HX3.out HLEN.out);have HMV4:=zh (HMV2.out.turns ht3 (fun x hx hf=>HW2.out.apF x hf hx));have HTW3:=zh htw3;have HM:=zh hM;have HE:=zh hE;clear ht3 htw3 hM hE HC;refine hK.out _ _ (HS3.out) fun hHeld=>?_;clear hK K;(try simp only[pS]);refine agE [11,12,13,14,15] ?_;iterate 5 (refine tkM ?_;try simp only[pS])
 refine agN ?_;refine dnH ?_;obtain⟨V3,hV3⟩:∃ x,w3.drew=x:=⟨_,rfl⟩
 have hbV3:Below w3.heap.size w3 V3:=bzD hV3;have HX5:=zh (HX3.out.below hbV3 HX3.out.lt);have HT5:=zh (HTW3.out.below hbV3);have HMV5:=zh (HMV4.out.below hbV3);have HS5:=zh (show zL5 T B M gh oh m ch w.heap.size o V3 from tws_mk HT5.out HX5.out HLEN.out);have HMV3:=zh (HM.out V3 hbV3);clear hbV3 HM;obtain⟨i0,hi0,hz0,hz1,hz2⟩:=info_parts intInfoR;rcases HE.out with hE | hE
 ·obtain⟨hE1,hE2⟩:=hE;subst hE1;subst hE2;go_wp2_with fail;refine wp_region_noPanic ?_;refine wp_region_held_drew (S:=zL5 T B M gh oh m ch w.heap.size o) (by kernel_rfl) ?_ (fun hHeld=>?_)
  ·exact (by rw[hV3];exact HS5.out)
  rw[hV3] at hHeld ⊢;refine agE [0,1,2,3,4,5,6,7,8,9] ?_;iterate 10 (refine tkM ?_;try simp only[pS])
  refine agN ?_;refine rd1 10 fun K hK=>?_;go_simp;refine HMV3.out.mono ?_;rintro e w4 ⟨rfl,ht4,hcase⟩;rcases hcase with ⟨-,-,h1⟩ | ⟨h1,-⟩
  rotate_left 1
  ·exact absurd h1 (by decide)
  have HF:=zh h1;clear h1;have HX6:=zh (HX5.out.turns ht4 (HMV5.out.not_foot HX5.out (by decide) (by decide) (by decide) (by decide)));have HS6:=zh (show zL5 T B M gh oh m ch w.heap.size o w4 from tws_mk HF.out.tw HX6.out HLEN.out);clear ht4;refine hK.out _ _ (HS6.out) fun hHeld=>?_;clear hK K;(try simp only[pS]);refine agE [11] ?_
  (refine tkM ?_;try simp only[pS])
  refine agN ?_;refine dnH ?_;go_wp2_with fail;go_ret2;exact⟨_,[],_,_,_,_,_,_,_,_,_,_,_,_,rfl,HF.out⟩
 ·obtain⟨hE1,hh0⟩:=hE;subst hE1;have q1:(h == 0)=false:=by simpa using hh0
  have q2:(h != 0)=true:=by simpa using hh0
  go_wp2_with fail;refine wp_region_noPanic ?_;refine wp_region_held_drew (S:=zL5 T B M gh oh m ch w.heap.size o) (by kernel_rfl) ?_ (fun hHeld=>?_)
  ·exact (by rw[hV3];exact HS5.out)
  rw[hV3] at hHeld ⊢;refine agE [0,1,2,3,4,5,6,7,8,9] ?_;iterate 10 (refine tkM ?_;try simp only[pS])
  refine agN ?_;refine rd1 10 fun K hK=>?_;go_simp;refine HMV3.out.mono ?_;rintro e w4 ⟨rfl,ht4,hcase⟩;rcases hcase with ⟨h1,-⟩ | ⟨-,-,htw4,hx4⟩
  ·exact absurd h1 (by decide)
  have HX6:=zh (HX5.out.turns ht4 (HMV5.out.not_foot HX5.out (by decide) (by decide) (by decide) (by decide)));have HS6:=zh (show zL5 T B M gh oh m ch w.heap.size o w4 from tws_mk htw4 HX6.out HLEN.out);have HTW4:=zh htw4;have HX4:=zh hx4;clear ht4 htw4 hx4;refine hK.out _ _ (HS6.out) fun hHeld=>?_;clear hK K;(try simp only[pS]);refine agE [11] ?_
  (refine tkM ?_;try simp only[pS])
  refine agN ?_;refine dnH ?_;obtain⟨t0,t1,t2,-⟩:=HS6.out;obtain⟨w5,hw5⟩:∃ x,w4.alloc (.cells #[.int .i64 h] 3)=x:=⟨_,rfl⟩
  have hb5:Below w4.heap.size w4 w5:=bzA hw5;have s5:=one_cell_new w4 3 (.int .i64 h);rw[hw5] at s5;have hr5:=(HTW4.out.below hb5).row;have HB5:=zh hb5;have hln:=HLEN.out;rw[hln] at hr5;clear hb5
  go_wp2_with (at_builtin;refine wpList_append_tail rfl _ _ 31 rfl 0 3 i0 (.int .i64 0) 1 8 Tryz.underlying31 hi0 hz0 hz1 hz2 rfl (by decide) _ m (ints hs) rfl hr5 _ 1 (ints [h]) rfl rfl (.inr ⟨_,_,rfl,s5⟩) (ints_one _) ?c3 ?c4 (Nat.zero_le _) ?_)
  case c3=>unfold maxLen;omega
  case c4=>omega
  intro v6 w6 o6 g6 f6;rw[←ints_append,←hln] at o6;obtain⟨hW6,htw6,ht6,hv6⟩:=TwV.pushed HTW4.out HB5.out g6 o6 f6;rw[hln] at o6;obtain⟨A6,c6,rfl⟩:=o6.form;have HFIN:=zh (HX4.out _ _ htw6 ht6 hv6);have e0:w6.cell? ⟨T,2,none⟩=some (.slice (some ⟨gh,oh,none⟩) hs.length ch):=hW6.cell 2;have e1:=hW6.free 2;clear g6 o6 f6 hW6 htw6 ht6 hv6 s5 hr5 hln;go_wp2_with fail;go_ret2;obtain⟨vs',vf',vsM',n',live',fr',av',f',g',hfin⟩:=HFIN.out;exact⟨_,[],_,_,_,_,_,_,_,_,_,_,_,_,rfl,hfin⟩
end
section
open Go.RowKit
variable [Kep]
theorem do_make1p (base bM T B M:Nat) (b s:Int) (vs vf vsM vh:Value) (n live m:Nat) (fr:List Nat) (av:Int→Tr.Sl) (f:Nat→RS) (hs:List Int) (g:Tr.G) (K:Nat) (o:Op8) (w:World) (H:TW w base bM T B M b s vs vf vsM vh n live m fr av f hs g K) (ho:OpOK o) (hkd:o.kind.tmod 10=1) (hn0:0<o.n) (hm:m≤300) (hK:K≤60) (hT:Lit w):
  Calls Tryz.prog 13 #[.pointer (some ⟨T,0,none⟩),.agg #[.int .u8 o.kind,.int .u8 o.a,.int .u8 o.b,.int .u8 o.c,.string o.s,.string o.t,.int .i8 o.n,.int .i8 o.k]] w fun e w'=>∃ (lv:Value) (lp:List Tr.Rec) (vs' vf' vsM' vh':Value) (n' live' m':Nat) (fr':List Nat) (av':Int→Tr.Sl) (f':Nat→RS) (hs':List Int) (g':Tr.G),e=.returned (.tuple #[lv,.bool true])∧TW w' base bM T B M b s vs' vf' vsM' vh' n' live' m' fr' av' f' hs' g' (K+1):=by
 obtain⟨ia,hia,hial⟩:=tmod_nat ho.a.1 H.m0;obtain⟨ib,hib,hibl⟩:=tmod_nat ho.b.1 H.m0;obtain⟨ic,hic,hicl⟩:=tmod_nat (m:=m+1) ho.c.1 (by omega);rw[Int.natCast_add] at hic;obtain⟨Ah,ch,rfl⟩:=H.tw.row.form;have hlen:=H.len;have hm0:=H.m0;have mz:((m:Int) == 0)=false:=by simp;omega
 have mz1:((m:Int)+1 == 0)=false:=by simp;omega
 have mz2:¬ (m:Int)=0:=by omega
 have mz3:¬ (m:Int)+1=0:=by omega
 obtain⟨w1,hw1⟩:∃ w1,w.alloc (.cells #[.int .u8 o.kind,.int .u8 o.a,.int .u8 o.b,.int .u8 o.c,.string o.s,.string o.t,.int .i8 o.n,.int .i8 o.k] 39)=w1:=⟨_,rfl⟩
 have hb1:Below w.heap.size w w1:=bzA hw1;have HX1:Hid (Whole w1 w.heap.size #[.int .u8 o.kind,.int .u8 o.a,.int .u8 o.b,.int .u8 o.c,.string o.s,.string o.t,.int .i8 o.n,.int .i8 o.k] 39):=zh (by rw[←hw1];exact Whole.new w _ _);have HB1:=zh hb1;have H1:=zh (H.below hb1);have HOK:=zh ho;have HLIT:=zh (hT.below hb1);have HLEN:=zh hlen;obtain⟨gh,oh,rfl,-,-,hcs,-⟩:=H.tw.row.cells (by omega);have HCH:=zh (fun (W:World) (hb:Below w.heap.size w W) (j:Nat) (hj:j<m)=>(show W.cell? ⟨gh,oh+j,none⟩=some (.int .i64 (hof hs (j:Int))) from (H.tw.row.below hb).cellAt j _ (by omega) (ints_get (H.at_hs hj))));have HTC:=zh (fun (W:World) (hb:Below w.heap.size w W)=>(show zL3 T B M gh oh m ch W from by have h:=H.tw.below hb;rw[hlen] at h;exact⟨h.var.cell 0,h.var.cell 1,h.var.cell 2⟩));have HMV:=zh (fun (W:World) (hb:Below w.heap.size w W)=>H.mv.below hb);obtain⟨t0,t1,t2⟩:=HTC.out w1 hb1;have x0:w1.cell? ⟨w.heap.size,0,none⟩=some (.int .u8 o.kind):=HX1.out.cell 0;have x1:w1.cell? ⟨w.heap.size,1,none⟩=some (.int .u8 o.a):=HX1.out.cell 1;have x2:w1.cell? ⟨w.heap.size,2,none⟩=some (.int .u8 o.b):=HX1.out.cell 2;have x3:w1.cell? ⟨w.heap.size,3,none⟩=some (.int .u8 o.c):=HX1.out.cell 3;have x4:w1.cell? ⟨w.heap.size,4,none⟩=some (.string o.s):=HX1.out.cell 4;have x5:w1.cell? ⟨w.heap.size,5,none⟩=some (.string o.t):=HX1.out.cell 5;have x6:w1.cell? ⟨w.heap.size,6,none⟩=some (.int .i8 o.n):=HX1.out.cell 6;have x7:w1.cell? ⟨w.heap.size,7,none⟩=some (.int .i8 o.k):=HX1.out.cell 7;obtain⟨ka0,ka1⟩:=ho.a;obtain⟨kb0,kb1⟩:=ho.b;obtain⟨kc0,kc1⟩:=ho.c;obtain⟨kk0,kk1⟩:=ho.kind;have HHAS:=zh (fun (W:World) (hb:Below w.heap.size w W) (j:Nat) (hj:j<m)=>rhas_any bM M m vsM f j W (H.mv.below hb) hj (by omega));clear H ho hb1 hT hcs
 go_enter Tryz.func13,Tryz.ntmps13
 go_wp2_with fail;(try rw[hw1]);try go_wp2_with fail
 go_quiet (fail)
 obtain⟨V,hV⟩:∃ V,w1.drewN nq=V:=⟨_,rfl⟩
 have hbV:Below w1.heap.size w1 V:=bzN hV;have HBV:=zh (HB1.out.trans (hbV.mono HB1.out.size));have HXV:=zh (HX1.out.below hbV HX1.out.lt);have HV:=zh (H1.out.below hbV);have HLV:=zh (HLIT.out.below hbV);obtain⟨t0',t1',t2'⟩:=HTC.out V HBV.out;have z0:V.cell? ⟨w.heap.size,0,none⟩=some (.int .u8 o.kind):=HXV.out.cell 0;have z4:V.cell? ⟨w.heap.size,4,none⟩=some (.string o.s):=HXV.out.cell 4;have z5:V.cell? ⟨w.heap.size,5,none⟩=some (.string o.t):=HXV.out.cell 5;have z6:V.cell? ⟨w.heap.size,6,none⟩=some (.int .i8 o.n):=HXV.out.cell 6;have z7:V.cell? ⟨w.heap.size,7,none⟩=some (.int .i8 o.k):=HXV.out.cell 7;clear t0 t1 t2 x0 x1 x2 x3 x4 x5 x6 x7 hbV;(try rw[hV]);go_wp2_with fail;refine (HHAS.out V HBV.out ia hial).mono ?_;rintro e w2 ⟨rfl,hw2⟩;rw[hw2];clear HHAS hw2;obtain⟨WA,hWA⟩:∃ x,V.alloc (.cells #[.string o.t,.string o.s,.string ⟨#[107]⟩,.string o.t] 91)=x:=⟨_,rfl⟩
 have hbA:Below V.heap.size V WA:=bzA hWA;have HRA:=zh (attr_row V 91 o.t o.s ⟨#[107]⟩ o.t);rw[hWA] at HRA;obtain⟨WB,hWB⟩:∃ x,WA.alloc (.cells #[.string o.t,.string o.s,.string ⟨#[107]⟩,.string o.t] 92)=x:=⟨_,rfl⟩
 have hbB:Below WA.heap.size WA WB:=bzA hWB;have HRB:=zh (attr_row WA 92 o.t o.s ⟨#[107]⟩ o.t);rw[hWB] at HRB;have hXA:=HXV.out.below hbA HXV.out.lt;have hXB:=hXA.below hbB hXA.lt;have y4:WA.cell? ⟨w.heap.size,4,none⟩=some (.string o.s):=hXA.cell 4;have y5:WA.cell? ⟨w.heap.size,5,none⟩=some (.string o.t):=hXA.cell 5;have HVB:=zh ((HV.out.below hbA).below hbB);have HLB:=zh ((HLV.out.below hbA).below hbB);have HXB:=zh hXB;have HRA':=zh (HRA.out.below hbB);clear hbA hbB hXA hXB HRA;go_wp2_with fail;(try rw[hWA]);(try go_wp2_with fail);(try rw[hWB]);(try go_wp2_with fail);clear hWA hWB;obtain⟨V2,hV2⟩:∃ x,WB.drew=x:=⟨_,rfl⟩
 have hbV2:Below WB.heap.size WB V2:=bzD hV2;have HW2:=zh (HVB.out.below hbV2);have HX2:=zh (HXB.out.below hbV2 HXB.out.lt);have HL2:=zh (HLB.out.below hbV2);have HSS:=zh (show zL5 T B M gh oh m ch w.heap.size o V2 from tws_mk HW2.out.tw HX2.out HLEN.out);have HMV2:=zh HW2.out.mv;have HC:=zh (make_both (K:=K) HW2.out hm HL2.out 3 (by decide) o.s o.t HOK.out.s HOK.out.t [(o.t,o.s),(⟨#[107]⟩,o.t)] (by simp) (by have h1:=HOK.out.s;have h2:=HOK.out.t;intro p hp;simp only[List.mem_cons,List.not_mem_nil,or_false] at hp;rcases hp with rfl | rfl<;>constructor<;>first | assumption | (show (1:Nat)≤40;decide)) (some ⟨V.heap.size,0,none⟩) 2 (HRA'.out.below hbV2) (some ⟨WA.heap.size,0,none⟩) 2 (HRB.out.below hbV2));clear hbV2;refine wp_region_noPanic ?_;refine wp_region_held_drew (S:=zL5 T B M gh oh m ch w.heap.size o) (by kernel_rfl) ?_ (fun hHeld=>?_)
 ·exact (by rw[hV2];exact HSS.out)
 rw[hV2] at hHeld ⊢;refine agE [0,1,2,3,4,5,6,7,8,9] ?_;iterate 10 (refine tkM ?_;try simp only[pS])
 refine agN ?_;refine rd1 10 fun K hK=>?_;go_simp;refine HC.out.mono ?_;rintro e w3 ⟨h,E,rfl,hE,ht3,htw3,hM⟩;have HX3:=zh (HX2.out.turns ht3 (HW2.out.tv.not_foot HX2.out (by decide) (by decide) (by decide)));have HS3:=zh (show zL5 T B M gh oh m ch w.heap.size o w3 from tws_mk htw3 HX3.out HLEN.out);have HMV4:=zh (HMV2.out.turns ht3 (fun x hx hf=>HW2.out.apF x hf hx));have HTW3:=zh htw3;have HM:=zh hM;have HE:=zh hE;clear ht3 htw3 hM hE HC;refine hK.out _ _ (HS3.out) fun hHeld=>?_;clear hK K;(try simp only[pS]);refine agE [11,12,13,14,15] ?_;iterate 5 (refine tkM ?_;try simp only[pS])
 refine agN ?_;refine dnH ?_;obtain⟨V3,hV3⟩:∃ x,w3.drew=x:=⟨_,rfl⟩
 have hbV3:Below w3.heap.size w3 V3:=bzD hV3;have HX5:=zh (HX3.out.below hbV3 HX3.out.lt);have HT5:=zh (HTW3.out.below hbV3);have HMV5:=zh (HMV4.out.below hbV3);have HS5:=zh (show zL5 T B M gh oh m ch w.heap.size o V3 from tws_mk HT5.out HX5.out HLEN.out);have HMV3:=zh (HM.out V3 hbV3);clear hbV3 HM;obtain⟨i0,hi0,hz0,hz1,hz2⟩:=info_parts intInfoR;rcases HE.out with hE | hE
 ·obtain⟨hE1,hE2⟩:=hE;subst hE1;subst hE2;go_wp2_with fail;refine wp_region_noPanic ?_;refine wp_region_held_drew (S:=zL5 T B M gh oh m ch w.heap.size o) (by kernel_rfl) ?_ (fun hHeld=>?_)
  ·exact (by rw[hV3];exact HS5.out)
  rw[hV3] at hHeld ⊢;refine agE [0,1,2,3,4,5,6,7,8,9] ?_;iterate 10 (refine tkM ?_;try simp only[pS])
  refine agN ?_;refine rd1 10 fun K hK=>?_;go_simp;refine HMV3.out.mono ?_;rintro e w4 ⟨rfl,ht4,hcase⟩;rcases hcase with ⟨-,-,h1⟩ | ⟨h1,-⟩
  rotate_left 1
  ·exact absurd h1 (by decide)
  have HF:=zh h1;clear h1;have HX6:=zh (HX5.out.turns ht4 (HMV5.out.not_foot HX5.out (by decide) (by decide) (by decide) (by decide)));have HS6:=zh (show zL5 T B M gh oh m ch w.heap.size o w4 from tws_mk HF.out.tw HX6.out HLEN.out);clear ht4;refine hK.out _ _ (HS6.out) fun hHeld=>?_;clear hK K;(try simp only[pS]);refine agE [11] ?_
  (refine tkM ?_;try simp only[pS])
  refine agN ?_;refine dnH ?_;go_wp2_with fail;go_ret2;exact⟨_,[],_,_,_,_,_,_,_,_,_,_,_,_,rfl,HF.out⟩
 ·obtain⟨hE1,hh0⟩:=hE;subst hE1;have q1:(h == 0)=false:=by simpa using hh0
  have q2:(h != 0)=true:=by simpa using hh0
  go_wp2_with fail;refine wp_region_noPanic ?_;refine wp_region_held_drew (S:=zL5 T B M gh oh m ch w.heap.size o) (by kernel_rfl) ?_ (fun hHeld=>?_)
  ·exact (by rw[hV3];exact HS5.out)
  rw[hV3] at hHeld ⊢;refine agE [0,1,2,3,4,5,6,7,8,9] ?_;iterate 10 (refine tkM ?_;try simp only[pS])
  refine agN ?_;refine rd1 10 fun K hK=>?_;go_simp;refine HMV3.out.mono ?_;rintro e w4 ⟨rfl,ht4,hcase⟩;rcases hcase with ⟨h1,-⟩ | ⟨-,-,htw4,hx4⟩
  ·exact absurd h1 (by decide)
  have HX6:=zh (HX5.out.turns ht4 (HMV5.out.not_foot HX5.out (by decide) (by decide) (by decide) (by decide)));have HS6:=zh (show zL5 T B M gh oh m ch w.heap.size o w4 from tws_mk htw4 HX6.out HLEN.out);have HTW4:=zh htw4;have HX4:=zh hx4;clear ht4 htw4 hx4;refine hK.out _ _ (HS6.out) fun hHeld=>?_;clear hK K;(try simp only[pS]);refine agE [11] ?_
  (refine tkM ?_;try simp only[pS])
  refine agN ?_;refine dnH ?_;obtain⟨t0,t1,t2,-⟩:=HS6.out;obtain⟨w5,hw5⟩:∃ x,w4.alloc (.cells #[.int .i64 h] 3)=x:=⟨_,rfl⟩
  have hb5:Below w4.heap.size w4 w5:=bzA hw5;have s5:=one_cell_new w4 3 (.int .i64 h);rw[hw5] at s5;have hr5:=(HTW4.out.below hb5).row;have HB5:=zh hb5;have hln:=HLEN.out;rw[hln] at hr5;clear hb5
  go_wp2_with (at_builtin;refine wpList_append_tail rfl _ _ 31 rfl 0 3 i0 (.int .i64 0) 1 8 Tryz.underlying31 hi0 hz0 hz1 hz2 rfl (by decide) _ m (ints hs) rfl hr5 _ 1 (ints [h]) rfl rfl (.inr ⟨_,_,rfl,s5⟩) (ints_one _) ?c3 ?c4 (Nat.zero_le _) ?_)
  case c3=>unfold maxLen;omega
  case c4=>omega
  intro v6 w6 o6 g6 f6;rw[←ints_append,←hln] at o6;obtain⟨hW6,htw6,ht6,hv6⟩:=TwV.pushed HTW4.out HB5.out g6 o6 f6;rw[hln] at o6;obtain⟨A6,c6,rfl⟩:=o6.form;have HFIN:=zh (HX4.out _ _ htw6 ht6 hv6);have e0:w6.cell? ⟨T,2,none⟩=some (.slice (some ⟨gh,oh,none⟩) hs.length ch):=hW6.cell 2;have e1:=hW6.free 2;clear g6 o6 f6 hW6 htw6 ht6 hv6 s5 hr5 hln;go_wp2_with fail;go_ret2;obtain⟨vs',vf',vsM',n',live',fr',av',f',g',hfin⟩:=HFIN.out;exact⟨_,[],_,_,_,_,_,_,_,_,_,_,_,_,rfl,hfin⟩
end
section
open Go.RowKit
variable [Kep]
theorem do_make2n (base bM T B M:Nat) (b s:Int) (vs vf vsM vh:Value) (n live m:Nat) (fr:List Nat) (av:Int→Tr.Sl) (f:Nat→RS) (hs:List Int) (g:Tr.G) (K:Nat) (o:Op8) (w:World) (H:TW w base bM T B M b s vs vf vsM vh n live m fr av f hs g K) (ho:OpOK o) (hkd:o.kind.tmod 10=2) (hn0:¬ 0<o.n) (hm:m≤300) (hK:K≤60) (hT:Lit w):
  Calls Tryz.prog 13 #[.pointer (some ⟨T,0,none⟩),.agg #[.int .u8 o.kind,.int .u8 o.a,.int .u8 o.b,.int .u8 o.c,.string o.s,.string o.t,.int .i8 o.n,.int .i8 o.k]] w fun e w'=>∃ (lv:Value) (lp:List Tr.Rec) (vs' vf' vsM' vh':Value) (n' live' m':Nat) (fr':List Nat) (av':Int→Tr.Sl) (f':Nat→RS) (hs':List Int) (g':Tr.G),e=.returned (.tuple #[lv,.bool true])∧TW w' base bM T B M b s vs' vf' vsM' vh' n' live' m' fr' av' f' hs' g' (K+1):=by
 obtain⟨ia,hia,hial⟩:=tmod_nat ho.a.1 H.m0;obtain⟨ib,hib,hibl⟩:=tmod_nat ho.b.1 H.m0;obtain⟨ic,hic,hicl⟩:=tmod_nat (m:=m+1) ho.c.1 (by omega);rw[Int.natCast_add] at hic;obtain⟨Ah,ch,rfl⟩:=H.tw.row.form;have hlen:=H.len;have hm0:=H.m0;have mz:((m:Int) == 0)=false:=by simp;omega
 have mz1:((m:Int)+1 == 0)=false:=by simp;omega
 have mz2:¬ (m:Int)=0:=by omega
 have mz3:¬ (m:Int)+1=0:=by omega
 obtain⟨w1,hw1⟩:∃ w1,w.alloc (.cells #[.int .u8 o.kind,.int .u8 o.a,.int .u8 o.b,.int .u8 o.c,.string o.s,.string o.t,.int .i8 o.n,.int .i8 o.k] 39)=w1:=⟨_,rfl⟩
 have hb1:Below w.heap.size w w1:=bzA hw1;have HX1:Hid (Whole w1 w.heap.size #[.int .u8 o.kind,.int .u8 o.a,.int .u8 o.b,.int .u8 o.c,.string o.s,.string o.t,.int .i8 o.n,.int .i8 o.k] 39):=zh (by rw[←hw1];exact Whole.new w _ _);have HB1:=zh hb1;have H1:=zh (H.below hb1);have HOK:=zh ho;have HLIT:=zh (hT.below hb1);have HLEN:=zh hlen;obtain⟨gh,oh,rfl,-,-,hcs,-⟩:=H.tw.row.cells (by omega);have HCH:=zh (fun (W:World) (hb:Below w.heap.size w W) (j:Nat) (hj:j<m)=>(show W.cell? ⟨gh,oh+j,none⟩=some (.int .i64 (hof hs (j:Int))) from (H.tw.row.below hb).cellAt j _ (by omega) (ints_get (H.at_hs hj))));have HTC:=zh (fun (W:World) (hb:Below w.heap.size w W)=>(show zL3 T B M gh oh m ch W from by have h:=H.tw.below hb;rw[hlen] at h;exact⟨h.var.cell 0,h.var.cell 1,h.var.cell 2⟩));have HMV:=zh (fun (W:World) (hb:Below w.heap.size w W)=>H.mv.below hb);obtain⟨t0,t1,t2⟩:=HTC.out w1 hb1;have x0:w1.cell? ⟨w.heap.size,0,none⟩=some (.int .u8 o.kind):=HX1.out.cell 0;have x1:w1.cell? ⟨w.heap.size,1,none⟩=some (.int .u8 o.a):=HX1.out.cell 1;have x2:w1.cell? ⟨w.heap.size,2,none⟩=some (.int .u8 o.b):=HX1.out.cell 2;have x3:w1.cell? ⟨w.heap.size,3,none⟩=some (.int .u8 o.c):=HX1.out.cell 3;have x4:w1.cell? ⟨w.heap.size,4,none⟩=some (.string o.s):=HX1.out.cell 4;have x5:w1.cell? ⟨w.heap.size,5,none⟩=some (.string o.t):=HX1.out.cell 5;have x6:w1.cell? ⟨w.heap.size,6,none⟩=some (.int .i8 o.n):=HX1.out.cell 6;have x7:w1.cell? ⟨w.heap.size,7,none⟩=some (.int .i8 o.k):=HX1.out.cell 7;obtain⟨ka0,ka1⟩:=ho.a;obtain⟨kb0,kb1⟩:=ho.b;obtain⟨kc0,kc1⟩:=ho.c;obtain⟨kk0,kk1⟩:=ho.kind;have HHAS:=zh (fun (W:World) (hb:Below w.heap.size w W) (j:Nat) (hj:j<m)=>rhas_any bM M m vsM f j W (H.mv.below hb) hj (by omega));clear H ho hb1 hT hcs
 go_enter Tryz.func13,Tryz.ntmps13
 go_wp2_with fail;(try rw[hw1]);try go_wp2_with fail
 go_quiet (fail)
 obtain⟨V,hV⟩:∃ V,w1.drewN nq=V:=⟨_,rfl⟩
 have hbV:Below w1.heap.size w1 V:=bzN hV;have HBV:=zh (HB1.out.trans (hbV.mono HB1.out.size));have HXV:=zh (HX1.out.below hbV HX1.out.lt);have HV:=zh (H1.out.below hbV);have HLV:=zh (HLIT.out.below hbV);obtain⟨t0',t1',t2'⟩:=HTC.out V HBV.out;have z0:V.cell? ⟨w.heap.size,0,none⟩=some (.int .u8 o.kind):=HXV.out.cell 0;have z4:V.cell? ⟨w.heap.size,4,none⟩=some (.string o.s):=HXV.out.cell 4;have z5:V.cell? ⟨w.heap.size,5,none⟩=some (.string o.t):=HXV.out.cell 5;have z6:V.cell? ⟨w.heap.size,6,none⟩=some (.int .i8 o.n):=HXV.out.cell 6;have z7:V.cell? ⟨w.heap.size,7,none⟩=some (.int .i8 o.k):=HXV.out.cell 7;clear t0 t1 t2 x0 x1 x2 x3 x4 x5 x6 x7 hbV;(try rw[hV]);go_wp2_with fail;refine (HHAS.out V HBV.out ia hial).mono ?_;rintro e w2 ⟨rfl,hw2⟩;rw[hw2];clear HHAS hw2;have HVB:=HV;have HLB:=HLV;have HXB:=HXV;go_wp2_with fail;obtain⟨V2,hV2⟩:∃ x,V.drew=x:=⟨_,rfl⟩
 have hbV2:Below V.heap.size V V2:=bzD hV2;have HW2:=zh (HVB.out.below hbV2);have HX2:=zh (HXB.out.below hbV2 HXB.out.lt);have HL2:=zh (HLB.out.below hbV2);have HSS:=zh (show zL5 T B M gh oh m ch w.heap.size o V2 from tws_mk HW2.out.tw HX2.out HLEN.out);have HMV2:=zh HW2.out.mv;have HC:=zh (make_both (K:=K) HW2.out hm HL2.out 4 (by decide) o.s o.t HOK.out.s HOK.out.t [] (by simp) (by intro p hp;cases hp) none 0 (TR.nil _ _ _ _) none 0 (TR.nil _ _ _ _));clear hbV2;refine wp_region_noPanic ?_;refine wp_region_held_drew (S:=zL5 T B M gh oh m ch w.heap.size o) (by kernel_rfl) ?_ (fun hHeld=>?_)
 ·exact (by rw[hV2];exact HSS.out)
 rw[hV2] at hHeld ⊢;refine agE [0,1,2,3,4,5,6,7,8,9] ?_;iterate 10 (refine tkM ?_;try simp only[pS])
 refine agN ?_;refine rd1 10 fun K hK=>?_;go_simp;refine HC.out.mono ?_;rintro e w3 ⟨h,E,rfl,hE,ht3,htw3,hM⟩;have HX3:=zh (HX2.out.turns ht3 (HW2.out.tv.not_foot HX2.out (by decide) (by decide) (by decide)));have HS3:=zh (show zL5 T B M gh oh m ch w.heap.size o w3 from tws_mk htw3 HX3.out HLEN.out);have HMV4:=zh (HMV2.out.turns ht3 (fun x hx hf=>HW2.out.apF x hf hx));have HTW3:=zh htw3;have HM:=zh hM;have HE:=zh hE;clear ht3 htw3 hM hE HC;refine hK.out _ _ (HS3.out) fun hHeld=>?_;clear hK K;(try simp only[pS]);refine agE [11,12,13,14,15] ?_;iterate 5 (refine tkM ?_;try simp only[pS])
 refine agN ?_;refine dnH ?_;obtain⟨V3,hV3⟩:∃ x,w3.drew=x:=⟨_,rfl⟩
 have hbV3:Below w3.heap.size w3 V3:=bzD hV3;have HX5:=zh (HX3.out.below hbV3 HX3.out.lt);have HT5:=zh (HTW3.out.below hbV3);have HMV5:=zh (HMV4.out.below hbV3);have HS5:=zh (show zL5 T B M gh oh m ch w.heap.size o V3 from tws_mk HT5.out HX5.out HLEN.out);have HMV3:=zh (HM.out V3 hbV3);clear hbV3 HM;obtain⟨i0,hi0,hz0,hz1,hz2⟩:=info_parts intInfoR;rcases HE.out with hE | hE
 ·obtain⟨hE1,hE2⟩:=hE;subst hE1;subst hE2;go_wp2_with fail;refine wp_region_noPanic ?_;refine wp_region_held_drew (S:=zL5 T B M gh oh m ch w.heap.size o) (by kernel_rfl) ?_ (fun hHeld=>?_)
  ·exact (by rw[hV3];exact HS5.out)
  rw[hV3] at hHeld ⊢;refine agE [0,1,2,3,4,5,6,7,8,9] ?_;iterate 10 (refine tkM ?_;try simp only[pS])
  refine agN ?_;refine rd1 10 fun K hK=>?_;go_simp;refine HMV3.out.mono ?_;rintro e w4 ⟨rfl,ht4,hcase⟩;rcases hcase with ⟨-,-,h1⟩ | ⟨h1,-⟩
  rotate_left 1
  ·exact absurd h1 (by decide)
  have HF:=zh h1;clear h1;have HX6:=zh (HX5.out.turns ht4 (HMV5.out.not_foot HX5.out (by decide) (by decide) (by decide) (by decide)));have HS6:=zh (show zL5 T B M gh oh m ch w.heap.size o w4 from tws_mk HF.out.tw HX6.out HLEN.out);clear ht4;refine hK.out _ _ (HS6.out) fun hHeld=>?_;clear hK K;(try simp only[pS]);refine agE [11] ?_
  (refine tkM ?_;try simp only[pS])
  refine agN ?_;refine dnH ?_;go_wp2_with fail;go_ret2;exact⟨_,[],_,_,_,_,_,_,_,_,_,_,_,_,rfl,HF.out⟩
 ·obtain⟨hE1,hh0⟩:=hE;subst hE1;have q1:(h == 0)=false:=by simpa using hh0
  have q2:(h != 0)=true:=by simpa using hh0
  go_wp2_with fail;refine wp_region_noPanic ?_;refine wp_region_held_drew (S:=zL5 T B M gh oh m ch w.heap.size o) (by kernel_rfl) ?_ (fun hHeld=>?_)
  ·exact (by rw[hV3];exact HS5.out)
  rw[hV3] at hHeld ⊢;refine agE [0,1,2,3,4,5,6,7,8,9] ?_;iterate 10 (refine tkM ?_;try simp only[pS])
  refine agN ?_;refine rd1 10 fun K hK=>?_;go_simp;refine HMV3.out.mono ?_;rintro e w4 ⟨rfl,ht4,hcase⟩;rcases hcase with ⟨h1,-⟩ | ⟨-,-,htw4,hx4⟩
  ·exact absurd h1 (by decide)
  have HX6:=zh (HX5.out.turns ht4 (HMV5.out.not_foot HX5.out (by decide) (by decide) (by decide) (by decide)));have HS6:=zh (show zL5 T B M gh oh m ch w.heap.size o w4 from tws_mk htw4 HX6.out HLEN.out);have HTW4:=zh htw4;have HX4:=zh hx4;clear ht4 htw4 hx4;refine hK.out _ _ (HS6.out) fun hHeld=>?_;clear hK K;(try simp only[pS]);refine agE [11] ?_
  (refine tkM ?_;try simp only[pS])
  refine agN ?_;refine dnH ?_;obtain⟨t0,t1,t2,-⟩:=HS6.out;obtain⟨w5,hw5⟩:∃ x,w4.alloc (.cells #[.int .i64 h] 3)=x:=⟨_,rfl⟩
  have hb5:Below w4.heap.size w4 w5:=bzA hw5;have s5:=one_cell_new w4 3 (.int .i64 h);rw[hw5] at s5;have hr5:=(HTW4.out.below hb5).row;have HB5:=zh hb5;have hln:=HLEN.out;rw[hln] at hr5;clear hb5
  go_wp2_with (at_builtin;refine wpList_append_tail rfl _ _ 31 rfl 0 3 i0 (.int .i64 0) 1 8 Tryz.underlying31 hi0 hz0 hz1 hz2 rfl (by decide) _ m (ints hs) rfl hr5 _ 1 (ints [h]) rfl rfl (.inr ⟨_,_,rfl,s5⟩) (ints_one _) ?c3 ?c4 (Nat.zero_le _) ?_)
  case c3=>unfold maxLen;omega
  case c4=>omega
  intro v6 w6 o6 g6 f6;rw[←ints_append,←hln] at o6;obtain⟨hW6,htw6,ht6,hv6⟩:=TwV.pushed HTW4.out HB5.out g6 o6 f6;rw[hln] at o6;obtain⟨A6,c6,rfl⟩:=o6.form;have HFIN:=zh (HX4.out _ _ htw6 ht6 hv6);have e0:w6.cell? ⟨T,2,none⟩=some (.slice (some ⟨gh,oh,none⟩) hs.length ch):=hW6.cell 2;have e1:=hW6.free 2;clear g6 o6 f6 hW6 htw6 ht6 hv6 s5 hr5 hln;go_wp2_with fail;go_ret2;obtain⟨vs',vf',vsM',n',live',fr',av',f',g',hfin⟩:=HFIN.out;exact⟨_,[],_,_,_,_,_,_,_,_,_,_,_,_,rfl,hfin⟩
end
section
open Go.RowKit
variable [Kep]
theorem do_make2p (base bM T B M:Nat) (b s:Int) (vs vf vsM vh:Value) (n live m:Nat) (fr:List Nat) (av:Int→Tr.Sl) (f:Nat→RS) (hs:List Int) (g:Tr.G) (K:Nat) (o:Op8) (w:World) (H:TW w base bM T B M b s vs vf vsM vh n live m fr av f hs g K) (ho:OpOK o) (hkd:o.kind.tmod 10=2) (hn0:0<o.n) (hm:m≤300) (hK:K≤60) (hT:Lit w):
  Calls Tryz.prog 13 #[.pointer (some ⟨T,0,none⟩),.agg #[.int .u8 o.kind,.int .u8 o.a,.int .u8 o.b,.int .u8 o.c,.string o.s,.string o.t,.int .i8 o.n,.int .i8 o.k]] w fun e w'=>∃ (lv:Value) (lp:List Tr.Rec) (vs' vf' vsM' vh':Value) (n' live' m':Nat) (fr':List Nat) (av':Int→Tr.Sl) (f':Nat→RS) (hs':List Int) (g':Tr.G),e=.returned (.tuple #[lv,.bool true])∧TW w' base bM T B M b s vs' vf' vsM' vh' n' live' m' fr' av' f' hs' g' (K+1):=by
 obtain⟨ia,hia,hial⟩:=tmod_nat ho.a.1 H.m0;obtain⟨ib,hib,hibl⟩:=tmod_nat ho.b.1 H.m0;obtain⟨ic,hic,hicl⟩:=tmod_nat (m:=m+1) ho.c.1 (by omega);rw[Int.natCast_add] at hic;obtain⟨Ah,ch,rfl⟩:=H.tw.row.form;have hlen:=H.len;have hm0:=H.m0;have mz:((m:Int) == 0)=false:=by simp;omega
 have mz1:((m:Int)+1 == 0)=false:=by simp;omega
 have mz2:¬ (m:Int)=0:=by omega
 have mz3:¬ (m:Int)+1=0:=by omega
 obtain⟨w1,hw1⟩:∃ w1,w.alloc (.cells #[.int .u8 o.kind,.int .u8 o.a,.int .u8 o.b,.int .u8 o.c,.string o.s,.string o.t,.int .i8 o.n,.int .i8 o.k] 39)=w1:=⟨_,rfl⟩
 have hb1:Below w.heap.size w w1:=bzA hw1;have HX1:Hid (Whole w1 w.heap.size #[.int .u8 o.kind,.int .u8 o.a,.int .u8 o.b,.int .u8 o.c,.string o.s,.string o.t,.int .i8 o.n,.int .i8 o.k] 39):=zh (by rw[←hw1];exact Whole.new w _ _);have HB1:=zh hb1;have H1:=zh (H.below hb1);have HOK:=zh ho;have HLIT:=zh (hT.below hb1);have HLEN:=zh hlen;obtain⟨gh,oh,rfl,-,-,hcs,-⟩:=H.tw.row.cells (by omega);have HCH:=zh (fun (W:World) (hb:Below w.heap.size w W) (j:Nat) (hj:j<m)=>(show W.cell? ⟨gh,oh+j,none⟩=some (.int .i64 (hof hs (j:Int))) from (H.tw.row.below hb).cellAt j _ (by omega) (ints_get (H.at_hs hj))));have HTC:=zh (fun (W:World) (hb:Below w.heap.size w W)=>(show zL3 T B M gh oh m ch W from by have h:=H.tw.below hb;rw[hlen] at h;exact⟨h.var.cell 0,h.var.cell 1,h.var.cell 2⟩));have HMV:=zh (fun (W:World) (hb:Below w.heap.size w W)=>H.mv.below hb);obtain⟨t0,t1,t2⟩:=HTC.out w1 hb1;have x0:w1.cell? ⟨w.heap.size,0,none⟩=some (.int .u8 o.kind):=HX1.out.cell 0;have x1:w1.cell? ⟨w.heap.size,1,none⟩=some (.int .u8 o.a):=HX1.out.cell 1;have x2:w1.cell? ⟨w.heap.size,2,none⟩=some (.int .u8 o.b):=HX1.out.cell 2;have x3:w1.cell? ⟨w.heap.size,3,none⟩=some (.int .u8 o.c):=HX1.out.cell 3;have x4:w1.cell? ⟨w.heap.size,4,none⟩=some (.string o.s):=HX1.out.cell 4;have x5:w1.cell? ⟨w.heap.size,5,none⟩=some (.string o.t):=HX1.out.cell 5;have x6:w1.cell? ⟨w.heap.size,6,none⟩=some (.int .i8 o.n):=HX1.out.cell 6;have x7:w1.cell? ⟨w.heap.size,7,none⟩=some (.int .i8 o.k):=HX1.out.cell 7;obtain⟨ka0,ka1⟩:=ho.a;obtain⟨kb0,kb1⟩:=ho.b;obtain⟨kc0,kc1⟩:=ho.c;obtain⟨kk0,kk1⟩:=ho.kind;have HHAS:=zh (fun (W:World) (hb:Below w.heap.size w W) (j:Nat) (hj:j<m)=>rhas_any bM M m vsM f j W (H.mv.below hb) hj (by omega));clear H ho hb1 hT hcs
 go_enter Tryz.func13,Tryz.ntmps13
 go_wp2_with fail;(try rw[hw1]);try go_wp2_with fail
 go_quiet (fail)
 obtain⟨V,hV⟩:∃ V,w1.drewN nq=V:=⟨_,rfl⟩
 have hbV:Below w1.heap.size w1 V:=bzN hV;have HBV:=zh (HB1.out.trans (hbV.mono HB1.out.size));have HXV:=zh (HX1.out.below hbV HX1.out.lt);have HV:=zh (H1.out.below hbV);have HLV:=zh (HLIT.out.below hbV);obtain⟨t0',t1',t2'⟩:=HTC.out V HBV.out;have z0:V.cell? ⟨w.heap.size,0,none⟩=some (.int .u8 o.kind):=HXV.out.cell 0;have z4:V.cell? ⟨w.heap.size,4,none⟩=some (.string o.s):=HXV.out.cell 4;have z5:V.cell? ⟨w.heap.size,5,none⟩=some (.string o.t):=HXV.out.cell 5;have z6:V.cell? ⟨w.heap.size,6,none⟩=some (.int .i8 o.n):=HXV.out.cell 6;have z7:V.cell? ⟨w.heap.size,7,none⟩=some (.int .i8 o.k):=HXV.out.cell 7;clear t0 t1 t2 x0 x1 x2 x3 x4 x5 x6 x7 hbV;(try rw[hV]);go_wp2_with fail;refine (HHAS.out V HBV.out ia hial).mono ?_;rintro e w2 ⟨rfl,hw2⟩;rw[hw2];clear HHAS hw2;obtain⟨WA,hWA⟩:∃ x,V.alloc (.cells #[.string o.t,.string o.s,.string ⟨#[107]⟩,.string o.t] 91)=x:=⟨_,rfl⟩
 have hbA:Below V.heap.size V WA:=bzA hWA;have HRA:=zh (attr_row V 91 o.t o.s ⟨#[107]⟩ o.t);rw[hWA] at HRA;obtain⟨WB,hWB⟩:∃ x,WA.alloc (.cells #[.string o.t,.string o.s,.string ⟨#[107]⟩,.string o.t] 92)=x:=⟨_,rfl⟩
 have hbB:Below WA.heap.size WA WB:=bzA hWB;have HRB:=zh (attr_row WA 92 o.t o.s ⟨#[107]⟩ o.t);rw[hWB] at HRB;have hXA:=HXV.out.below hbA HXV.out.lt;have hXB:=hXA.below hbB hXA.lt;have y4:WA.cell? ⟨w.heap.size,4,none⟩=some (.string o.s):=hXA.cell 4;have y5:WA.cell? ⟨w.heap.size,5,none⟩=some (.string o.t):=hXA.cell 5;have HVB:=zh ((HV.out.below hbA).below hbB);have HLB:=zh ((HLV.out.below hbA).below hbB);have HXB:=zh hXB;have HRA':=zh (HRA.out.below hbB);clear hbA hbB hXA hXB HRA;go_wp2_with fail;(try rw[hWA]);(try go_wp2_with fail);(try rw[hWB]);(try go_wp2_with fail);clear hWA hWB;obtain⟨V2,hV2⟩:∃ x,WB.drew=x:=⟨_,rfl⟩
 have hbV2:Below WB.heap.size WB V2:=bzD hV2;have HW2:=zh (HVB.out.below hbV2);have HX2:=zh (HXB.out.below hbV2 HXB.out.lt);have HL2:=zh (HLB.out.below hbV2);have HSS:=zh (show zL5 T B M gh oh m ch w.heap.size o V2 from tws_mk HW2.out.tw HX2.out HLEN.out);have HMV2:=zh HW2.out.mv;have HC:=zh (make_both (K:=K) HW2.out hm HL2.out 4 (by decide) o.s o.t HOK.out.s HOK.out.t [(o.t,o.s),(⟨#[107]⟩,o.t)] (by simp) (by have h1:=HOK.out.s;have h2:=HOK.out.t;intro p hp;simp only[List.mem_cons,List.not_mem_nil,or_false] at hp;rcases hp with rfl | rfl<;>constructor<;>first | assumption | (show (1:Nat)≤40;decide)) (some ⟨V.heap.size,0,none⟩) 2 (HRA'.out.below hbV2) (some ⟨WA.heap.size,0,none⟩) 2 (HRB.out.below hbV2));clear hbV2;refine wp_region_noPanic ?_;refine wp_region_held_drew (S:=zL5 T B M gh oh m ch w.heap.size o) (by kernel_rfl) ?_ (fun hHeld=>?_)
 ·exact (by rw[hV2];exact HSS.out)
 rw[hV2] at hHeld ⊢;refine agE [0,1,2,3,4,5,6,7,8,9] ?_;iterate 10 (refine tkM ?_;try simp only[pS])
 refine agN ?_;refine rd1 10 fun K hK=>?_;go_simp;refine HC.out.mono ?_;rintro e w3 ⟨h,E,rfl,hE,ht3,htw3,hM⟩;have HX3:=zh (HX2.out.turns ht3 (HW2.out.tv.not_foot HX2.out (by decide) (by decide) (by decide)));have HS3:=zh (show zL5 T B M gh oh m ch w.heap.size o w3 from tws_mk htw3 HX3.out HLEN.out);have HMV4:=zh (HMV2.out.turns ht3 (fun x hx hf=>HW2.out.apF x hf hx));have HTW3:=zh htw3;have HM:=zh hM;have HE:=zh hE;clear ht3 htw3 hM hE HC;refine hK.out _ _ (HS3.out) fun hHeld=>?_;clear hK K;(try simp only[pS]);refine agE [11,12,13,14,15] ?_;iterate 5 (refine tkM ?_;try simp only[pS])
 refine agN ?_;refine dnH ?_;obtain⟨V3,hV3⟩:∃ x,w3.drew=x:=⟨_,rfl⟩
 have hbV3:Below w3.heap.size w3 V3:=bzD hV3;have HX5:=zh (HX3.out.below hbV3 HX3.out.lt);have HT5:=zh (HTW3.out.below hbV3);have HMV5:=zh (HMV4.out.below hbV3);have HS5:=zh (show zL5 T B M gh oh m ch w.heap.size o V3 from tws_mk HT5.out HX5.out HLEN.out);have HMV3:=zh (HM.out V3 hbV3);clear hbV3 HM;obtain⟨i0,hi0,hz0,hz1,hz2⟩:=info_parts intInfoR;rcases HE.out with hE | hE
 ·obtain⟨hE1,hE2⟩:=hE;subst hE1;subst hE2;go_wp2_with fail;refine wp_region_noPanic ?_;refine wp_region_held_drew (S:=zL5 T B M gh oh m ch w.heap.size o) (by kernel_rfl) ?_ (fun hHeld=>?_)
  ·exact (by rw[hV3];exact HS5.out)
  rw[hV3] at hHeld ⊢;refine agE [0,1,2,3,4,5,6,7,8,9] ?_;iterate 10 (refine tkM ?_;try simp only[pS])
  refine agN ?_;refine rd1 10 fun K hK=>?_;go_simp;refine HMV3.out.mono ?_;rintro e w4 ⟨rfl,ht4,hcase⟩;rcases hcase with ⟨-,-,h1⟩ | ⟨h1,-⟩
  rotate_left 1
  ·exact absurd h1 (by decide)
  have HF:=zh h1;clear h1;have HX6:=zh (HX5.out.turns ht4 (HMV5.out.not_foot HX5.out (by decide) (by decide) (by decide) (by decide)));have HS6:=zh (show zL5 T B M gh oh m ch w.heap.size o w4 from tws_mk HF.out.tw HX6.out HLEN.out);clear ht4;refine hK.out _ _ (HS6.out) fun hHeld=>?_;clear hK K;(try simp only[pS]);refine agE [11] ?_
  (refine tkM ?_;try simp only[pS])
  refine agN ?_;refine dnH ?_;go_wp2_with fail;go_ret2;exact⟨_,[],_,_,_,_,_,_,_,_,_,_,_,_,rfl,HF.out⟩
 ·obtain⟨hE1,hh0⟩:=hE;subst hE1;have q1:(h == 0)=false:=by simpa using hh0
  have q2:(h != 0)=true:=by simpa using hh0
  go_wp2_with fail;refine wp_region_noPanic ?_;refine wp_region_held_drew (S:=zL5 T B M gh oh m ch w.heap.size o) (by kernel_rfl) ?_ (fun hHeld=>?_)
  ·exact (by rw[hV3];exact HS5.out)
  rw[hV3] at hHeld ⊢;refine agE [0,1,2,3,4,5,6,7,8,9] ?_;iterate 10 (refine tkM ?_;try simp only[pS])
  refine agN ?_;refine rd1 10 fun K hK=>?_;go_simp;refine HMV3.out.mono ?_;rintro e w4 ⟨rfl,ht4,hcase⟩;rcases hcase with ⟨h1,-⟩ | ⟨-,-,htw4,hx4⟩
  ·exact absurd h1 (by decide)
  have HX6:=zh (HX5.out.turns ht4 (HMV5.out.not_foot HX5.out (by decide) (by decide) (by decide) (by decide)));have HS6:=zh (show zL5 T B M gh oh m ch w.heap.size o w4 from tws_mk htw4 HX6.out HLEN.out);have HTW4:=zh htw4;have HX4:=zh hx4;clear ht4 htw4 hx4;refine hK.out _ _ (HS6.out) fun hHeld=>?_;clear hK K;(try simp only[pS]);refine agE [11] ?_
  (refine tkM ?_;try simp only[pS])
  refine agN ?_;refine dnH ?_;obtain⟨t0,t1,t2,-⟩:=HS6.out;obtain⟨w5,hw5⟩:∃ x,w4.alloc (.cells #[.int .i64 h] 3)=x:=⟨_,rfl⟩
  have hb5:Below w4.heap.size w4 w5:=bzA hw5;have s5:=one_cell_new w4 3 (.int .i64 h);rw[hw5] at s5;have hr5:=(HTW4.out.below hb5).row;have HB5:=zh hb5;have hln:=HLEN.out;rw[hln] at hr5;clear hb5
  go_wp2_with (at_builtin;refine wpList_append_tail rfl _ _ 31 rfl 0 3 i0 (.int .i64 0) 1 8 Tryz.underlying31 hi0 hz0 hz1 hz2 rfl (by decide) _ m (ints hs) rfl hr5 _ 1 (ints [h]) rfl rfl (.inr ⟨_,_,rfl,s5⟩) (ints_one _) ?c3 ?c4 (Nat.zero_le _) ?_)
  case c3=>unfold maxLen;omega
  case c4=>omega
  intro v6 w6 o6 g6 f6;rw[←ints_append,←hln] at o6;obtain⟨hW6,htw6,ht6,hv6⟩:=TwV.pushed HTW4.out HB5.out g6 o6 f6;rw[hln] at o6;obtain⟨A6,c6,rfl⟩:=o6.form;have HFIN:=zh (HX4.out _ _ htw6 ht6 hv6);have e0:w6.cell? ⟨T,2,none⟩=some (.slice (some ⟨gh,oh,none⟩) hs.length ch):=hW6.cell 2;have e1:=hW6.free 2;clear g6 o6 f6 hW6 htw6 ht6 hv6 s5 hr5 hln;go_wp2_with fail;go_ret2;obtain⟨vs',vf',vsM',n',live',fr',av',f',g',hfin⟩:=HFIN.out;exact⟨_,[],_,_,_,_,_,_,_,_,_,_,_,_,rfl,hfin⟩
end
end Go.Proofs.YtaigmpkcdjbpiaaGreatDoor
