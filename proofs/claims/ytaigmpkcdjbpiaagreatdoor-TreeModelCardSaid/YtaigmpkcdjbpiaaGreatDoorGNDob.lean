/- Part of a proof about trees: NDob. -/
import Derived.BigQuiet
import Derived.Deep.RegionHeld3
import Derived.Test.YtaigmpkcdjbpiaaGreatDoorS05
set_option linter.unusedVariables false
set_option linter.unusedSimpArgs false
set_option linter.unusedSectionVars false
set_option maxHeartbeats 8000000
set_option maxRecDepth 100000
namespace Go.Proofs.YtaigmpkcdjbpiaaGreatDoor
section
open Go.RowKit
variable [Kep]
theorem put_const {g:Tr.G} {h:Int} {n:Tr.GN} (e:g h=some n) {U1 U2:Tr.GN→Tr.GN} (hu:U1 n=U2 n):Tr.putG g h U1=Tr.putG g h U2:=by
 funext x;unfold Tr.putG;by_cases hx:x=h
 ·rw[if_pos hx,if_pos hx,e];show some _=some _;rw[hu]
 ·rw[if_neg hx,if_neg hx]
theorem dropA_len (l:List (ByteArray×ByteArray)) (nm:ByteArray):(dropA l nm).length≤l.length:=by
 unfold dropA
 first | exact List.length_eraseIdx_le _ _ | (split<;>simp<;>omega) | (simp;omega)
theorem tws_all {w:World} {T B M gh oh ch m ia X:Nat} {hs:List Int} {h:Int} {o:Op8} (H:TwV w T B M (.slice (some ⟨gh,oh,none⟩) hs.length ch) hs) (hX:Whole w X #[.int .u8 o.kind,.int .u8 o.a,.int .u8 o.b,.int .u8 o.c,.string o.s,.string o.t,.int .i8 o.n,.int .i8 o.k] 39) (hl:hs.length=m) (hi:hs[ia]?=some h):zL8 T B M gh oh m ch X ia h o w:=by
 have hlt:=(List.getElem?_eq_some_iff.1 hi).1;rw[←hl];exact⟨H.var.cell 0,H.var.cell 1,H.var.cell 2,H.row.cellAt ia _ (by omega) (ints_get hi),hX.cell 4,hX.cell 5,hX.cell 6,hX.cell 7⟩
theorem MV.not_foot {bM M m:Nat} {w:World} {vs:Value} {f:Nat→RS} {k:Nat} {cs:Array Value} {t:TypeId} (hM:MV bM w M vs m f) (hX:Whole w k cs t) (h1:t≠70) (h2:67≠t) (h3:3≠t) (h4:92≠t):¬ MFoot M vs m f k:=by
 rintro (rfl | hx | ⟨i,hi,hx | hx⟩)
 ·exact hX.unlike hM.var h1 rfl
 ·exact own_unlike hM.row hX h2 hx
 ·exact (hM.ar i hi).unlike hX h4 hx
 ·exact (hM.kr i hi).unlike hX h3 hx
theorem do_dropattr (base bM T B M:Nat) (b s:Int) (vs vf vsM vh:Value) (n live m:Nat) (fr:List Nat) (av:Int→Tr.Sl) (f:Nat→RS) (hs:List Int) (g:Tr.G) (K:Nat) (o:Op8) (w:World) (H:TW w base bM T B M b s vs vf vsM vh n live m fr av f hs g K) (ho:OpOK o) (hkd:o.kind.tmod 10=6) (hm:m≤300) (hK:K≤60) (hT:Lit w):
  Calls Tryz.prog 13 #[.pointer (some ⟨T,0,none⟩),.agg #[.int .u8 o.kind,.int .u8 o.a,.int .u8 o.b,.int .u8 o.c,.string o.s,.string o.t,.int .i8 o.n,.int .i8 o.k]] w fun e w'=>∃ (lv:Value) (lp:List Tr.Rec) (vs' vf' vsM' vh':Value) (n' live' m':Nat) (fr':List Nat) (av':Int→Tr.Sl) (f':Nat→RS) (hs':List Int) (g':Tr.G),e=.returned (.tuple #[lv,.bool true])∧TW w' base bM T B M b s vs' vf' vsM' vh' n' live' m' fr' av' f' hs' g' (K+1):=by
 obtain⟨ia,hia,hial⟩:=tmod_nat ho.a.1 H.m0;obtain⟨ib,hib,hibl⟩:=tmod_nat ho.b.1 H.m0;obtain⟨ic,hic,hicl⟩:=tmod_nat (m:=m+1) ho.c.1 (by omega);rw[Int.natCast_add] at hic;obtain⟨Ah,ch,rfl⟩:=H.tw.row.form;have hlen:=H.len;have hm0:=H.m0;have mz:((m:Int) == 0)=false:=by simp;omega
 have mz1:((m:Int)+1 == 0)=false:=by simp;omega
 have mz2:¬ (m:Int)=0:=by omega
 have mz3:¬ (m:Int)+1=0:=by omega
 obtain⟨w1,hw1⟩:∃ w1,w.alloc (.cells #[.int .u8 o.kind,.int .u8 o.a,.int .u8 o.b,.int .u8 o.c,.string o.s,.string o.t,.int .i8 o.n,.int .i8 o.k] 39)=w1:=⟨_,rfl⟩
 have hb1:Below w.heap.size w w1:=bzA hw1;have HX1:Hid (Whole w1 w.heap.size #[.int .u8 o.kind,.int .u8 o.a,.int .u8 o.b,.int .u8 o.c,.string o.s,.string o.t,.int .i8 o.n,.int .i8 o.k] 39):=zh (by rw[←hw1];exact Whole.new w _ _);have HB1:=zh hb1;have H1:=zh (H.below hb1);have HOK:=zh ho;have HLIT:=zh (hT.below hb1);have HLEN:=zh hlen;obtain⟨gh,oh,rfl,-,-,hcs,-⟩:=H.tw.row.cells (by omega);have HCH:=zh (fun (W:World) (hb:Below w.heap.size w W) (j:Nat) (hj:j<m)=>(show W.cell? ⟨gh,oh+j,none⟩=some (.int .i64 (hof hs (j:Int))) from (H.tw.row.below hb).cellAt j _ (by omega) (ints_get (H.at_hs hj))));have HTC:=zh (fun (W:World) (hb:Below w.heap.size w W)=>(show zL3 T B M gh oh m ch W from by have h:=H.tw.below hb;rw[hlen] at h;exact⟨h.var.cell 0,h.var.cell 1,h.var.cell 2⟩));have HMV:=zh (fun (W:World) (hb:Below w.heap.size w W)=>H.mv.below hb);obtain⟨t0,t1,t2⟩:=HTC.out w1 hb1;have x0:w1.cell? ⟨w.heap.size,0,none⟩=some (.int .u8 o.kind):=HX1.out.cell 0;have x1:w1.cell? ⟨w.heap.size,1,none⟩=some (.int .u8 o.a):=HX1.out.cell 1;have x2:w1.cell? ⟨w.heap.size,2,none⟩=some (.int .u8 o.b):=HX1.out.cell 2;have x3:w1.cell? ⟨w.heap.size,3,none⟩=some (.int .u8 o.c):=HX1.out.cell 3;have x4:w1.cell? ⟨w.heap.size,4,none⟩=some (.string o.s):=HX1.out.cell 4;have x5:w1.cell? ⟨w.heap.size,5,none⟩=some (.string o.t):=HX1.out.cell 5;have x6:w1.cell? ⟨w.heap.size,6,none⟩=some (.int .i8 o.n):=HX1.out.cell 6;have x7:w1.cell? ⟨w.heap.size,7,none⟩=some (.int .i8 o.k):=HX1.out.cell 7;obtain⟨ka0,ka1⟩:=ho.a;obtain⟨kb0,kb1⟩:=ho.b;obtain⟨kc0,kc1⟩:=ho.c;obtain⟨kk0,kk1⟩:=ho.kind;have HHAS:=zh (fun (W:World) (hb:Below w.heap.size w W) (j:Nat) (hj:j<m)=>rhas_any bM M m vsM f j W (H.mv.below hb) hj (by omega));clear H ho hb1 hT hcs
 go_enter Tryz.func13,Tryz.ntmps13
 go_wp2_with fail;(try rw[hw1]);try go_wp2_with fail
 go_quiet (fail)
 obtain⟨V,hV⟩:∃ V,w1.drewN nq=V:=⟨_,rfl⟩
 have hbV:Below w1.heap.size w1 V:=bzN hV;have HBV:=zh (HB1.out.trans (hbV.mono HB1.out.size));have HXV:=zh (HX1.out.below hbV HX1.out.lt);have HV:=zh (H1.out.below hbV);have HLV:=zh (HLIT.out.below hbV);obtain⟨t0',t1',t2'⟩:=HTC.out V HBV.out;have z0:V.cell? ⟨w.heap.size,0,none⟩=some (.int .u8 o.kind):=HXV.out.cell 0;have z4:V.cell? ⟨w.heap.size,4,none⟩=some (.string o.s):=HXV.out.cell 4;have z5:V.cell? ⟨w.heap.size,5,none⟩=some (.string o.t):=HXV.out.cell 5;have z6:V.cell? ⟨w.heap.size,6,none⟩=some (.int .i8 o.n):=HXV.out.cell 6;have z7:V.cell? ⟨w.heap.size,7,none⟩=some (.int .i8 o.k):=HXV.out.cell 7;clear t0 t1 t2 x0 x1 x2 x3 x4 x5 x6 x7 hbV;(try rw[hV]);go_wp2_with fail;refine (HHAS.out V HBV.out ia hial).mono ?_;rintro e w2 ⟨rfl,hw2⟩;rw[hw2];clear HHAS hw2;go_wp2_with fail;obtain⟨h,hh⟩:∃ h,hof hs (ia:Int)=h:=⟨_,rfl⟩
 obtain⟨V2,hV2⟩:∃ x,V.drew=x:=⟨_,rfl⟩
 have hbV2:Below V.heap.size V V2:=bzD hV2;have HBV2:=zh (HBV.out.trans (hbV2.mono HBV.out.size));have HW2:=zh (HV.out.below hbV2);have HX2:=zh (HXV.out.below hbV2 HXV.out.lt);have HL2:=zh (HLV.out.below hbV2);have HSS:=zh (show zL8 T B M gh oh m ch w.heap.size ia h o V2 from tws_all HW2.out.tw HX2.out HLEN.out (by rw[←hh];exact HV.out.at_hs hial));have ja0:(0:Int)≤(ia:Int):=by omega
 have ja1:(ia:Int)<(m:Int):=by omega
 have HKZ:=zh HW2.out.kinds;cases hg:(f ia).gone with
 | true=>
  obtain⟨e1,e2⟩:=HW2.out.gone_h hial hg;have he6:elemE g h=6:=by unfold elemE;rw[←hh,e1,e2]
  have HC:=zh (pdattr_not base B b s (hof hs 0) h live n g av fr vs vf o.s V2 HW2.out.tv HW2.out.so (by rw[←hh];exact HW2.out.i64 hial) HKZ.out (by rw[he6];decide));rw[he6] at HC;clear e1 e2 he6;refine wp_region_noPanic ?_;refine wp_region_held_drew (S:=zL8 T B M gh oh m ch w.heap.size ia h o) (by kernel_rfl) ?_ (fun hHeld=>?_)
  ·exact (by rw[hV2];exact HSS.out)
  rw[hV2] at hHeld ⊢;refine agE [0,1,2,3,4,5,6,7,8,9,10,11,12] ?_;iterate 13 (refine tkM ?_;try simp only[pS])
  refine agN ?_;refine rd1 13 fun K hK=>?_;go_simp;refine HC.out.mono ?_;rintro e w3 ⟨rfl,hb3⟩;have HW4:=zh (HW2.out.below hb3).up;have HX3:=zh (HX2.out.below hb3 HX2.out.lt);have HS3:=zh (show zL8 T B M gh oh m ch w.heap.size ia h o w3 from tws_all HW4.out.tw HX3.out HLEN.out (by rw[←hh];exact HV.out.at_hs hial));clear hb3;refine hK.out _ _ (HS3.out) fun hHeld=>?_;clear hK K;(try simp only[pS]);refine agE [14,15,16,17,18] ?_;iterate 5 (refine tkM ?_;try simp only[pS])
  refine agN ?_;refine dnH ?_;go_wp2_with fail;go_ret2;exact⟨_,[],_,_,_,_,_,_,_,_,_,_,_,_,rfl,HW4.out⟩
 | false=>
  have eg:g h=some (Tr.mapG (hof hs) (rsG (f ia))):=by rw[←hh];exact HW2.out.live_h hial hg
  have hh64:I64 h:=by rw[←hh];exact HW2.out.i64 hial
  by_cases hk2:(f ia).kind=2
  ·have EG:=zh eg;have HK2:=zh hk2;have hal:=(HW2.out.bd ia hial).1;clear hk2 eg;by_cases hat:atN (f ia).at' o.s<(f ia).at'.length
   ·have HAT:=zh hat;clear hat;have HC:=zh (pdattr_some base B b s (hof hs 0) h live n g av fr vs vf _ o.s V2 HW2.out.tv HW2.out.so HW2.out.at' HKZ.out EG.out HK2.out (by show (f ia).at'.length≤1000;omega) HAT.out);rw[put_const EG.out (U2:=fun n=>{ n with attrs:=dropA (f ia).at' o.s }) rfl] at HC;refine wp_region_noPanic ?_;refine wp_region_held_drew (S:=zL8 T B M gh oh m ch w.heap.size ia h o) (by kernel_rfl) ?_ (fun hHeld=>?_)
    ·exact (by rw[hV2];exact HSS.out)
    rw[hV2] at hHeld ⊢;refine agE [0,1,2,3,4,5,6,7,8,9,10,11,12] ?_;iterate 13 (refine tkM ?_;try simp only[pS])
    refine agN ?_;refine rd1 13 fun K hK=>?_;go_simp;refine HC.out.mono ?_;rintro e w3 ⟨v3,sl3,rfl,hr3,hv3,hs3,hat3,st3⟩;obtain⟨a1,a2,-,-,-⟩:=HW2.out.after st3;have HX3:=zh (HX2.out.turns st3.1 (HW2.out.tv.not_foot HX2.out (by decide) (by decide) (by decide)));have HS3:=zh (show zL8 T B M gh oh m ch w.heap.size ia h o w3 from tws_all a1 HX3.out HLEN.out (by rw[←hh];exact HV.out.at_hs hial));have HT3:=zh (And.intro a1 a2);have HV3:=zh (And.intro hv3 (And.intro hs3 (And.intro hat3 st3)));have HR3:=zh hr3;obtain⟨A3,c3,rfl⟩:=own_slice (own_zero hr3);clear a1 a2 hv3 hs3 hat3 st3 hr3;refine hK.out _ _ (HS3.out) fun hHeld=>?_;clear hK K;(try simp only[pS]);refine agE [14,15,16,17,18] ?_;iterate 5 (refine tkM ?_;try simp only[pS])
    refine agN ?_;refine dnH ?_;go_wp2_with fail;obtain⟨V3,hV3⟩:∃ x,w3.drew=x:=⟨_,rfl⟩
    have hbV3:Below w3.heap.size w3 V3:=bzD hV3;have HX5:=zh (HX3.out.below hbV3 HX3.out.lt);have HM5:=zh (HT3.out.2.below hbV3);have HT5:=zh (HT3.out.1.below hbV3);have HR5:=zh (show RecRow V2.heap.size V3 _ _ from own_turns (S:=fun _=>False) HR3.out (.of_below hbV3) (fun _ _=>id));have HV5:=zh (And.intro (HV3.out.1.below hbV3) (And.intro HV3.out.2.1 (And.intro (HV3.out.2.2.1.below hbV3) (HV3.out.2.2.2.trans (.of_below hbV3)))));have HS5:=zh (show zL8 T B M gh oh m ch w.heap.size ia h o V3 from tws_all HT5.out HX5.out HLEN.out (by rw[←hh];exact HV.out.at_hs hial));have HR:=zh (rdattr_some bM M m vsM f ia o.s V3 HM5.out hial (by omega) HK2.out (by omega) HAT.out);refine wp_region_noPanic ?_;refine wp_region_held_drew (S:=zL8 T B M gh oh m ch w.heap.size ia h o) (by kernel_rfl) ?_ (fun hHeld=>?_)
    ·exact (by rw[hV3];exact HS5.out)
    rw[hV3] at hHeld ⊢;refine agE [0,1,2,3,4,5,6] ?_;iterate 7 (refine tkM ?_;try simp only[pS])
    refine agN ?_;refine rd1 7 fun K hK=>?_;go_simp;refine HR.out.mono ?_;rintro e w4 ⟨v4,sl4,rfl,hr4,hm4,st4⟩;have HW4:=zh (HW2.out.put (av':=Tr.addA av h sl3) (u:=fun n=>{ n with a:=sl4,at':=dropA (f ia).at' o.s }) (U:=fun n=>{ n with attrs:=dropA (f ia).at' o.s }) hial hg (fun _=>⟨rfl,rfl⟩) (fun _=>rfl) (fun _=>⟨rfl,rfl⟩) (fun _=>rfl) (by rw[hh];exact HV5.out.1) (by rw[hh];exact HV5.out.2.1) (by rw[hh];exact HV5.out.2.2.1) HV5.out.2.2.2 hm4 st4 (by have h1:=HW2.out.bd ia hial;have h2:=dropA_len (f ia).at' o.s;exact⟨by show (dropA (f ia).at' o.s).length≤_;omega,by show (f ia).data.size≤_;omega,h1.2.2⟩));have HX4:=zh (HX5.out.turns st4.1 (HM5.out.not_foot HX5.out (by decide) (by decide) (by decide) (by decide)));have HS4:=zh (show zL8 T B M gh oh m ch w.heap.size ia h o w4 from tws_all HW4.out.tw HX4.out HLEN.out (by rw[←hh];exact HV.out.at_hs hial));have hrc:[attrRecM ia o.s (oldA (f ia).at' o.s) true].map (mapR (hof hs))=[attrRec h o.s (oldA (f ia).at' o.s) true]:=by rw[←hh];simp[mapR,attrRecM,attrRec,hof_m1]
    have HMT:=zh (match_any T B M V2.heap.size V3.heap.size _ _ v4 hs [attrRecM ia o.s (oldA (f ia).at' o.s) true] w4 HW4.out.tw (by rw[hrc];exact own_turns HR5.out st4.1 (fun k hk hm=>by have h1:=(HR5.out.lt k hk).1;have h2:=(HW2.out.mv.lt k hm).2;omega)) hr4 (by simp));obtain⟨A4,c4,rfl⟩:=own_slice (own_zero hr4);clear hr4 hm4 st4 hrc;refine hK.out _ _ (HS4.out) fun hHeld=>?_;clear hK K;(try simp only[pS]);refine agE [8,9,10,11,12] ?_;iterate 5 (refine tkM ?_;try simp only[pS])
    refine agN ?_;refine dnH ?_;go_wp2_with fail;refine HMT.out.mono ?_;rintro e w5 ⟨rfl,hb5⟩;have HFIN:=zh (HW4.out.below hb5);clear hb5;go_wp2_with fail;go_ret2;exact⟨_,[],_,_,_,_,_,_,_,_,_,_,_,_,rfl,HFIN.out⟩
   ·have HAT:=zh hat;clear hat;have HC:=zh (pdattr_none base B b s (hof hs 0) h live n g av fr vs vf _ o.s V2 HW2.out.tv HW2.out.so HW2.out.at' HKZ.out EG.out HK2.out (by show (f ia).at'.length≤1000;omega) HAT.out);refine wp_region_noPanic ?_;refine wp_region_held_drew (S:=zL8 T B M gh oh m ch w.heap.size ia h o) (by kernel_rfl) ?_ (fun hHeld=>?_)
    ·exact (by rw[hV2];exact HSS.out)
    rw[hV2] at hHeld ⊢;refine agE [0,1,2,3,4,5,6,7,8,9,10,11,12] ?_;iterate 13 (refine tkM ?_;try simp only[pS])
    refine agN ?_;refine rd1 13 fun K hK=>?_;go_simp;refine HC.out.mono ?_;rintro e w3 ⟨rfl,hb3⟩;have HW4:=zh (HW2.out.below hb3).up;have HX3:=zh (HX2.out.below hb3 HX2.out.lt);have HS3:=zh (show zL8 T B M gh oh m ch w.heap.size ia h o w3 from tws_all HW4.out.tw HX3.out HLEN.out (by rw[←hh];exact HV.out.at_hs hial));clear hb3;refine hK.out _ _ (HS3.out) fun hHeld=>?_;clear hK K;(try simp only[pS]);refine agE [14,15,16,17,18] ?_;iterate 5 (refine tkM ?_;try simp only[pS])
    refine agN ?_;refine dnH ?_;go_wp2_with fail;obtain⟨V3,hV3⟩:∃ x,w3.drew=x:=⟨_,rfl⟩
    have hbV3:Below w3.heap.size w3 V3:=bzD hV3;have HW5:=zh (HW4.out.below hbV3);have HX5:=zh (HX3.out.below hbV3 HX3.out.lt);have HS5:=zh (show zL8 T B M gh oh m ch w.heap.size ia h o V3 from tws_all HW5.out.tw HX5.out HLEN.out (by rw[←hh];exact HV.out.at_hs hial));have HR:=zh (rdattr_none bM M m vsM f ia o.s V3 HW5.out.mv hial (by omega) HK2.out (by omega) HAT.out);have HMT:=zh (match_any T B M 0 0 _ (.slice none 0 0) (.slice none 0 0) hs [] V3 HW5.out.tw (World.ownsRow_nil _ _ _ _) (World.ownsRow_nil _ _ _ _) (by simp));refine wp_region_noPanic ?_;refine wp_region_held_drew (S:=zL8 T B M gh oh m ch w.heap.size ia h o) (by kernel_rfl) ?_ (fun hHeld=>?_)
    ·exact (by rw[hV3];exact HS5.out)
    rw[hV3] at hHeld ⊢;refine agE [0,1,2,3,4,5,6] ?_;iterate 7 (refine tkM ?_;try simp only[pS])
    refine agN ?_;refine rd1 7 fun K hK=>?_;go_simp;refine HR.out.mono ?_;rintro e w4 ⟨rfl,hw4⟩;rw[hw4];clear hw4;refine hK.out _ _ (HS5.out) fun hHeld=>?_;clear hK K;(try simp only[pS]);refine agE [8,9,10,11,12] ?_;iterate 5 (refine tkM ?_;try simp only[pS])
    refine agN ?_;refine dnH ?_;go_wp2_with fail;refine HMT.out.mono ?_;rintro e w5 ⟨rfl,hb5⟩;have HFIN:=zh (HW5.out.below hb5);clear hb5;go_wp2_with fail;go_ret2;exact⟨_,[],_,_,_,_,_,_,_,_,_,_,_,_,rfl,HFIN.out⟩
  ·have he10:elemE g h=10:=by unfold elemE;rw[eg];exact if_neg hk2
   have HC:=zh (pdattr_not base B b s (hof hs 0) h live n g av fr vs vf o.s V2 HW2.out.tv HW2.out.so hh64 HKZ.out (by rw[he10];decide));rw[he10] at HC;have HK2:=zh hk2;clear eg he10 hk2;refine wp_region_noPanic ?_;refine wp_region_held_drew (S:=zL8 T B M gh oh m ch w.heap.size ia h o) (by kernel_rfl) ?_ (fun hHeld=>?_)
   ·exact (by rw[hV2];exact HSS.out)
   rw[hV2] at hHeld ⊢;refine agE [0,1,2,3,4,5,6,7,8,9,10,11,12] ?_;iterate 13 (refine tkM ?_;try simp only[pS])
   refine agN ?_;refine rd1 13 fun K hK=>?_;go_simp;refine HC.out.mono ?_;rintro e w3 ⟨rfl,hb3⟩;have HW4:=zh (HW2.out.below hb3).up;have HX3:=zh (HX2.out.below hb3 HX2.out.lt);have HS3:=zh (show zL8 T B M gh oh m ch w.heap.size ia h o w3 from tws_all HW4.out.tw HX3.out HLEN.out (by rw[←hh];exact HV.out.at_hs hial));clear hb3;refine hK.out _ _ (HS3.out) fun hHeld=>?_;clear hK K;(try simp only[pS]);refine agE [14,15,16,17,18] ?_;iterate 5 (refine tkM ?_;try simp only[pS])
   refine agN ?_;refine dnH ?_;go_wp2_with fail;obtain⟨V3,hV3⟩:∃ x,w3.drew=x:=⟨_,rfl⟩
   have hbV3:Below w3.heap.size w3 V3:=bzD hV3;have HW5:=zh (HW4.out.below hbV3);have HX5:=zh (HX3.out.below hbV3 HX3.out.lt);have HS5:=zh (show zL8 T B M gh oh m ch w.heap.size ia h o V3 from tws_all HW5.out.tw HX5.out HLEN.out (by rw[←hh];exact HV.out.at_hs hial));have HR:=zh (rdattr_not bM M m vsM f ia o.s V3 HW5.out.mv hial HK2.out);have HMT:=zh (match_any T B M 0 0 _ (.slice none 0 0) (.slice none 0 0) hs [] V3 HW5.out.tw (World.ownsRow_nil _ _ _ _) (World.ownsRow_nil _ _ _ _) (by simp));refine wp_region_noPanic ?_;refine wp_region_held_drew (S:=zL8 T B M gh oh m ch w.heap.size ia h o) (by kernel_rfl) ?_ (fun hHeld=>?_)
   ·exact (by rw[hV3];exact HS5.out)
   rw[hV3] at hHeld ⊢;refine agE [0,1,2,3,4,5,6] ?_;iterate 7 (refine tkM ?_;try simp only[pS])
   refine agN ?_;refine rd1 7 fun K hK=>?_;go_simp;refine HR.out.mono ?_;rintro e w4 ⟨rfl,hw4⟩;rw[hw4];clear hw4;refine hK.out _ _ (HS5.out) fun hHeld=>?_;clear hK K;(try simp only[pS]);refine agE [8,9,10,11,12] ?_;iterate 5 (refine tkM ?_;try simp only[pS])
   refine agN ?_;refine dnH ?_;go_wp2_with fail;refine HMT.out.mono ?_;rintro e w5 ⟨rfl,hb5⟩;have HFIN:=zh (HW5.out.below hb5);clear hb5;go_wp2_with fail;go_ret2;exact⟨_,[],_,_,_,_,_,_,_,_,_,_,_,_,rfl,HFIN.out⟩
end
end Go.Proofs.YtaigmpkcdjbpiaaGreatDoor
