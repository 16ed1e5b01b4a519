/- Part of a proof about trees: NDoa, NRda, NTwi, NTwj, NTwk, NTwl, NTwp, NCop. -/
import Derived.BigQuiet
import Derived.Deep.RegionHeld3
import Derived.Test.YtaigmpkcdjbpiaaGreatDoorGNDat
import Derived.Test.YtaigmpkcdjbpiaaGreatDoorGNDup
import Derived.Test.YtaigmpkcdjbpiaaGreatDoorGNMat
import Derived.Test.YtaigmpkcdjbpiaaGreatDoorGNPmk
import Derived.Test.YtaigmpkcdjbpiaaGreatDoorGNRia
import Derived.Test.YtaigmpkcdjbpiaaGreatDoorGNRma
set_option linter.unusedVariables false
set_option linter.unusedSimpArgs false
set_option linter.unusedSectionVars false
set_option maxHeartbeats 8000000
set_option maxRecDepth 100000
namespace Go.Proofs.YtaigmpkcdjbpiaaGreatDoor
section
open Go.RowKit
variable [Kep]
structure OpOK (o:Op8):Prop where
 kind:0≤o.kind∧o.kind<256
 a:0≤o.a∧o.a<256
 b:0≤o.b∧o.b<256
 c:0≤o.c∧o.c<256
 s:o.s.size≤40
 t:o.t.size≤40
 n : -128≤o.n∧o.n<128
 k : -128≤o.k∧o.k<128
theorem tmod_nat {x:Int} {m:Nat} (hx:0≤x) (hm:0<m):∃ i:Nat,x.tmod (m:Int)=(i:Int)∧i<m:=by
 obtain⟨k,rfl⟩:=Int.eq_ofNat_of_zero_le hx;refine⟨k % m,?_,Nat.mod_lt _ hm⟩;rw[Int.tmod_eq_emod_of_nonneg (by omega)];rfl
theorem tw_cells {w:World} {T B M gh oh ch m ia:Nat} {hs:List Int} {h:Int} (H:TwV w T B M (.slice (some ⟨gh,oh,none⟩) hs.length ch) hs) (hl:hs.length=m) (hi:hs[ia]?=some h):w.cell? ⟨T,0,none⟩=some (.pointer (some ⟨B,0,none⟩))∧w.cell? ⟨T,2,none⟩=some (.slice (some ⟨gh,oh,none⟩) m ch)∧w.cell? ⟨gh,oh+ia,none⟩=some (.int .i64 h)∧w.cell? ⟨T,1,none⟩=some (.pointer (some ⟨M,0,none⟩)):=by
 have hlt:=(List.getElem?_eq_some_iff.1 hi).1;rw[←hl];exact⟨H.var.cell 0,H.var.cell 2,H.row.cellAt ia _ (by omega) (ints_get hi),H.var.cell 1⟩
theorem do_remove (base bM T B M:Nat) (b s:Int) (vs vf vsM vh:Value) (n live m:Nat) (fr:List Nat) (av:Int→Tr.Sl) (f:Nat→RS) (hs:List Int) (g:Tr.G) (K:Nat) (o:Op8) (w:World) (H:TW w base bM T B M b s vs vf vsM vh n live m fr av f hs g K) (ho:OpOK o) (hkd:o.kind.tmod 10=4) (hm:m≤300) (hK:K≤60) (hT:Lit w):
  Calls Tryz.prog 13 #[.pointer (some ⟨T,0,none⟩),.agg #[.int .u8 o.kind,.int .u8 o.a,.int .u8 o.b,.int .u8 o.c,.string o.s,.string o.t,.int .i8 o.n,.int .i8 o.k]] w fun e w'=>∃ (lv:Value) (lp:List Tr.Rec) (vs' vf' vsM' vh':Value) (n' live' m':Nat) (fr':List Nat) (av':Int→Tr.Sl) (f':Nat→RS) (hs':List Int) (g':Tr.G),e=.returned (.tuple #[lv,.bool true])∧TW w' base bM T B M b s vs' vf' vsM' vh' n' live' m' fr' av' f' hs' g' (K+1):=by
 obtain⟨ia,hia,hial⟩:=tmod_nat ho.a.1 H.m0;obtain⟨ib,hib,hibl⟩:=tmod_nat ho.b.1 H.m0;obtain⟨ic,hic,hicl⟩:=tmod_nat (m:=m+1) ho.c.1 (by omega);rw[Int.natCast_add] at hic;obtain⟨Ah,ch,rfl⟩:=H.tw.row.form;have hlen:=H.len;have hm0:=H.m0;have mz:((m:Int) == 0)=false:=by simp;omega
 have mz1:((m:Int)+1 == 0)=false:=by simp;omega
 have mz2:¬ (m:Int)=0:=by omega
 have mz3:¬ (m:Int)+1=0:=by omega
 obtain⟨w1,hw1⟩:∃ w1,w.alloc (.cells #[.int .u8 o.kind,.int .u8 o.a,.int .u8 o.b,.int .u8 o.c,.string o.s,.string o.t,.int .i8 o.n,.int .i8 o.k] 39)=w1:=⟨_,rfl⟩
 have hb1:Below w.heap.size w w1:=bzA hw1;have HX1:Hid (Whole w1 w.heap.size #[.int .u8 o.kind,.int .u8 o.a,.int .u8 o.b,.int .u8 o.c,.string o.s,.string o.t,.int .i8 o.n,.int .i8 o.k] 39):=zh (by rw[←hw1];exact Whole.new w _ _);have HB1:=zh hb1;have H1:=zh (H.below hb1);have HOK:=zh ho;have HLIT:=zh (hT.below hb1);have HLEN:=zh hlen;obtain⟨gh,oh,rfl,-,-,hcs,-⟩:=H.tw.row.cells (by omega);have HCH:=zh (fun (W:World) (hb:Below w.heap.size w W) (j:Nat) (hj:j<m)=>(show W.cell? ⟨gh,oh+j,none⟩=some (.int .i64 (hof hs (j:Int))) from (H.tw.row.below hb).cellAt j _ (by omega) (ints_get (H.at_hs hj))));have HTC:=zh (fun (W:World) (hb:Below w.heap.size w W)=>(show zL3 T B M gh oh m ch W from by have h:=H.tw.below hb;rw[hlen] at h;exact⟨h.var.cell 0,h.var.cell 1,h.var.cell 2⟩));have HMV:=zh (fun (W:World) (hb:Below w.heap.size w W)=>H.mv.below hb);obtain⟨t0,t1,t2⟩:=HTC.out w1 hb1;have x0:w1.cell? ⟨w.heap.size,0,none⟩=some (.int .u8 o.kind):=HX1.out.cell 0;have x1:w1.cell? ⟨w.heap.size,1,none⟩=some (.int .u8 o.a):=HX1.out.cell 1;have x2:w1.cell? ⟨w.heap.size,2,none⟩=some (.int .u8 o.b):=HX1.out.cell 2;have x3:w1.cell? ⟨w.heap.size,3,none⟩=some (.int .u8 o.c):=HX1.out.cell 3;have x4:w1.cell? ⟨w.heap.size,4,none⟩=some (.string o.s):=HX1.out.cell 4;have x5:w1.cell? ⟨w.heap.size,5,none⟩=some (.string o.t):=HX1.out.cell 5;have x6:w1.cell? ⟨w.heap.size,6,none⟩=some (.int .i8 o.n):=HX1.out.cell 6;have x7:w1.cell? ⟨w.heap.size,7,none⟩=some (.int .i8 o.k):=HX1.out.cell 7;obtain⟨ka0,ka1⟩:=ho.a;obtain⟨kb0,kb1⟩:=ho.b;obtain⟨kc0,kc1⟩:=ho.c;obtain⟨kk0,kk1⟩:=ho.kind;have HHAS:=zh (fun (W:World) (hb:Below w.heap.size w W) (j:Nat) (hj:j<m)=>rhas_any bM M m vsM f j W (H.mv.below hb) hj (by omega));clear H ho hb1 hT hcs
 go_enter Tryz.func13,Tryz.ntmps13
 go_wp2_with fail;(try rw[hw1]);try go_wp2_with fail
 go_quiet (fail)
 obtain⟨V,hV⟩:∃ V,w1.drewN nq=V:=⟨_,rfl⟩
 have hbV:Below w1.heap.size w1 V:=bzN hV;have HBV:=zh (HB1.out.trans (hbV.mono HB1.out.size));have HXV:=zh (HX1.out.below hbV HX1.out.lt);have HV:=zh (H1.out.below hbV);have HLV:=zh (HLIT.out.below hbV);obtain⟨t0',t1',t2'⟩:=HTC.out V HBV.out;have z0:V.cell? ⟨w.heap.size,0,none⟩=some (.int .u8 o.kind):=HXV.out.cell 0;have z4:V.cell? ⟨w.heap.size,4,none⟩=some (.string o.s):=HXV.out.cell 4;have z5:V.cell? ⟨w.heap.size,5,none⟩=some (.string o.t):=HXV.out.cell 5;have z6:V.cell? ⟨w.heap.size,6,none⟩=some (.int .i8 o.n):=HXV.out.cell 6;have z7:V.cell? ⟨w.heap.size,7,none⟩=some (.int .i8 o.k):=HXV.out.cell 7;clear t0 t1 t2 x0 x1 x2 x3 x4 x5 x6 x7 hbV;(try rw[hV]);go_wp2_with fail;refine (HHAS.out V HBV.out ia hial).mono ?_;rintro e w2 ⟨rfl,hw2⟩;rw[hw2];clear HHAS hw2;go_wp2_with fail;obtain⟨h,hh⟩:∃ h,hof hs (ia:Int)=h:=⟨_,rfl⟩
 obtain⟨V2,hV2⟩:∃ x,V.drew=x:=⟨_,rfl⟩
 have hbV2:Below V.heap.size V V2:=bzD hV2;have HBV2:=zh (HBV.out.trans (hbV2.mono HBV.out.size));have HW2:=zh (HV.out.below hbV2);have HSS:=zh (fun (W:World) (hb:Below w.heap.size w W)=>(show W.cell? ⟨T,0,none⟩=some (.pointer (some ⟨B,0,none⟩))∧W.cell? ⟨T,2,none⟩=some (.slice (some ⟨gh,oh,none⟩) m ch)∧W.cell? ⟨gh,oh+ia,none⟩=some (.int .i64 h) from⟨(HTC.out W hb).1,(HTC.out W hb).2.2,by have:=HCH.out W hb ia hial;rw[hh] at this;exact this⟩));have ja0:(0:Int)≤(ia:Int):=by omega
 have ja1:(ia:Int)<(m:Int):=by omega
 cases hg:(f ia).gone with
 | true=>
  obtain⟨e1,e2⟩:=HW2.out.gone_h hial hg;have HC:=zh (premove_none base B b s (hof hs 0) h live n (Tr.raw g av) fr vs vf V2 HW2.out.tv HW2.out.so (by rw[←hh];exact HW2.out.i64 hial) (by rw[←hh,e1];exact Tr.raw_none e2));clear e1 e2;refine wp_region_noPanic ?_;refine wp_region_held_drew (S:=(fun W=>W.cell? ⟨T,0,none⟩=some (.pointer (some ⟨B,0,none⟩))∧W.cell? ⟨T,2,none⟩=some (.slice (some ⟨gh,oh,none⟩) m ch)∧W.cell? ⟨gh,oh+ia,none⟩=some (.int .i64 h))) (by kernel_rfl) ?_ (fun hHeld=>?_)
  ·exact (by rw[hV2];exact HSS.out V2 HBV2.out)
  rw[hV2] at hHeld ⊢;refine agE [0,1,2,3,4,5,6,7,8,9,10] ?_;iterate 11 (refine tkM ?_;try simp only[pS])
  refine agN ?_;refine rd1 11 fun K hK=>?_;go_simp;refine HC.out.mono ?_;rintro e w3 ⟨rfl,hb3⟩;have HB3:=zh (HBV2.out.trans (hb3.mono HBV2.out.size));have HT3:=zh (HW2.out.below hb3);clear hb3;refine hK.out _ _ (HSS.out w3 HB3.out) fun hHeld=>?_;clear hK K;(try simp only[pS]);refine agE [12,13,14,15,16] ?_;iterate 5 (refine tkM ?_;try simp only[pS])
  refine agN ?_;refine dnH ?_;go_wp2_with fail;go_ret2;exact⟨_,[],_,_,_,_,_,_,_,_,_,_,_,_,rfl,HT3.out.up⟩
 | false=>
  by_cases h0:ia=0
  ·have eg:g h=some (Tr.mapG (hof hs) (rsG (f ia))):=by rw[←hh];exact HW2.out.live_h hial hg
   have hk1:(f ia).kind=1:=by rw[h0];exact HW2.out.km.1
   have HC:=zh (premove_doc base B b s (hof hs 0) h live n g av fr vs vf _ V2 HW2.out.tv HW2.out.so eg hk1);have HZ:=zh (show (ia:Int)=0 by omega);clear eg hk1 h0;refine wp_region_noPanic ?_;refine wp_region_held_drew (S:=(fun W=>W.cell? ⟨T,0,none⟩=some (.pointer (some ⟨B,0,none⟩))∧W.cell? ⟨T,2,none⟩=some (.slice (some ⟨gh,oh,none⟩) m ch)∧W.cell? ⟨gh,oh+ia,none⟩=some (.int .i64 h))) (by kernel_rfl) ?_ (fun hHeld=>?_)
   ·exact (by rw[hV2];exact HSS.out V2 HBV2.out)
   rw[hV2] at hHeld ⊢;refine agE [0,1,2,3,4,5,6,7,8,9,10] ?_;iterate 11 (refine tkM ?_;try simp only[pS])
   refine agN ?_;refine rd1 11 fun K hK=>?_;go_simp;refine HC.out.mono ?_;rintro e w3 ⟨rfl,hb3⟩;have HW4:=zh (HW2.out.below hb3).up;have HT3:=zh (show w3.cell? ⟨T,0,none⟩=some (.pointer (some ⟨B,0,none⟩))∧w3.cell? ⟨T,2,none⟩=some (.slice (some ⟨gh,oh,none⟩) m ch)∧w3.cell? ⟨gh,oh+ia,none⟩=some (.int .i64 h)∧w3.cell? ⟨T,1,none⟩=some (.pointer (some ⟨M,0,none⟩)) from tw_cells HW4.out.tw HLEN.out (by rw[←hh];exact HV.out.at_hs hial));clear hb3;refine hK.out _ _ (⟨HT3.out.1,HT3.out.2.1,HT3.out.2.2.1⟩) fun hHeld=>?_;clear hK K;(try simp only[pS]);refine agE [12,13,14,15,16] ?_;iterate 5 (refine tkM ?_;try simp only[pS])
   refine agN ?_;refine dnH ?_;obtain⟨p0,p1,p2,p3⟩:=HT3.out;have HR:=zh (rremove_root bM M m vsM f w3);have HMT:=zh (match_any T B M 0 0 _ (.slice none 0 0) (.slice none 0 0) hs [] w3 HW4.out.tw (World.ownsRow_nil _ _ _ _) (World.ownsRow_nil _ _ _ _) (by simp));go_wp2_with fail;rw[HZ.out];refine HR.out.mono ?_;rintro e w4 ⟨rfl,rfl⟩;go_wp2_with fail;refine HMT.out.mono ?_;rintro e w5 ⟨rfl,hb5⟩;have HFIN:=zh (HW4.out.below hb5);clear hb5;go_wp2_with fail;go_ret2;exact⟨_,[],_,_,_,_,_,_,_,_,_,_,_,_,rfl,HFIN.out⟩
  ·rcases H1.out.im.pa _ _ (mg_at hial hg) with hpa | hpl
   ·have eg:g h=some (Tr.mapG (hof hs) (rsG (f ia))):=by rw[←hh];exact HW2.out.live_h hial hg
    have hk:(f ia).kind≠0∧(f ia).kind≠1:=by rcases HW2.out.km.2 ia hial h0 with e | e | e<;>omega
    have HC:=zh (premove_ok base B b s (hof hs 0) h live n g av fr vs vf _ V2 HW2.out.tv HW2.out.so HW2.out.wf eg hk.1 hk.2);clear hk;have epa:Tr.paOf g h=0:=by rw[Tr.paOf_some eg];show hof hs (f ia).pa=0;rw[show (f ia).pa = -1 from hpa];exact HW2.out.im.zero
    have er:Tr.recs1 g h=[]:=by unfold Tr.recs1;rw[if_pos epa]
    have ec:Tr.cut1 g h=g:=by unfold Tr.cut1;rw[if_pos epa]
    rw[er,ec] at HC;clear eg epa er ec;refine wp_region_noPanic ?_;refine wp_region_held_drew (S:=(fun W=>W.cell? ⟨T,0,none⟩=some (.pointer (some ⟨B,0,none⟩))∧W.cell? ⟨T,2,none⟩=some (.slice (some ⟨gh,oh,none⟩) m ch)∧W.cell? ⟨gh,oh+ia,none⟩=some (.int .i64 h))) (by kernel_rfl) ?_ (fun hHeld=>?_)
    ·exact (by rw[hV2];exact HSS.out V2 HBV2.out)
    rw[hV2] at hHeld ⊢;refine agE [0,1,2,3,4,5,6,7,8,9,10] ?_;iterate 11 (refine tkM ?_;try simp only[pS])
    refine agN ?_;refine rd1 11 fun K hK=>?_;go_simp;refine HC.out.mono ?_;rintro e w3 ⟨v3,rfl,hr3,hv3,st3⟩;have HW4:=zh (HW2.out.step hv3 HW2.out.so st3 (HW2.out.at'.step HW2.out.tv st3) HW2.out.wf (HW2.out.after st3).2.1 (.of_below (Below.refl _ _)) HW2.out.im HW2.out.km HW2.out.g0 HW2.out.gn HW2.out.nm HW2.out.d0 HW2.out.up.bd);have HT3:=zh (show w3.cell? ⟨T,0,none⟩=some (.pointer (some ⟨B,0,none⟩))∧w3.cell? ⟨T,2,none⟩=some (.slice (some ⟨gh,oh,none⟩) m ch)∧w3.cell? ⟨gh,oh+ia,none⟩=some (.int .i64 h)∧w3.cell? ⟨T,1,none⟩=some (.pointer (some ⟨M,0,none⟩)) from tw_cells HW4.out.tw HLEN.out (by rw[←hh];exact HV.out.at_hs hial));have HR3:=zh hr3;obtain⟨A3,c3,rfl⟩:=own_slice (own_zero hr3);clear hr3 hv3 st3;refine hK.out _ _ (⟨HT3.out.1,HT3.out.2.1,HT3.out.2.2.1⟩) fun hHeld=>?_;clear hK K;(try simp only[pS]);refine agE [12,13,14,15,16] ?_;iterate 5 (refine tkM ?_;try simp only[pS])
    refine agN ?_;refine dnH ?_;obtain⟨p0,p1,p2,p3⟩:=HT3.out;have HR:=zh (rremove_free bM M m vsM f ia w3 HW4.out.mv hial hpa h0 (by omega));have HMT:=zh (match_any T B M _ 0 _ _ (.slice none 0 0) hs [] w3 HW4.out.tw HR3.out (World.ownsRow_nil _ _ _ _) (by simp));go_wp2_with fail;refine HR.out.mono ?_;rintro e w4 ⟨rfl,rfl⟩;go_wp2_with fail;refine HMT.out.mono ?_;rintro e w5 ⟨rfl,hb5⟩;have HFIN:=zh (HW4.out.below hb5);clear hb5;go_wp2_with fail;go_ret2;exact⟨_,[],_,_,_,_,_,_,_,_,_,_,_,_,rfl,HFIN.out⟩
   ·obtain⟨p,hpa,hpm,hpg,-⟩:=mg_is hpl;have hpa:(f ia).pa=(p:Int):=hpa;have hpi:p≠ia:=fun e=>(H1.out.im.pull H1.out.wf).not_self (mg_at hial hg) (by show (f ia).pa=_;rw[hpa,e]);clear hpl;have eg:g h=some (Tr.mapG (hof hs) (rsG (f ia))):=by rw[←hh];exact HW2.out.live_h hial hg
    have hk:(f ia).kind≠0∧(f ia).kind≠1:=by rcases HW2.out.km.2 ia hial h0 with e | e | e<;>omega
    have HC:=zh (premove_ok base B b s (hof hs 0) h live n g av fr vs vf _ V2 HW2.out.tv HW2.out.so HW2.out.wf eg hk.1 hk.2);clear hk;have hpz:hof hs (p:Int)≠0:=HW2.out.im.nz _ (by rw[mg_at hpm hpg];rfl);have epa:Tr.paOf g h=hof hs (p:Int):=by rw[Tr.paOf_some eg];show hof hs (f ia).pa=_;rw[hpa]
    have er:Tr.recs1 g h=[placeM m f 2 ia p].map (mapR (hof hs)):=by
     unfold Tr.recs1;rw[if_neg (by rw[epa];exact hpz),←hh,HW2.out.im.place HW2.out.wf 2 hial hg hpa];rfl
    rw[er] at HC;clear eg epa er;refine wp_region_noPanic ?_;refine wp_region_held_drew (S:=(fun W=>W.cell? ⟨T,0,none⟩=some (.pointer (some ⟨B,0,none⟩))∧W.cell? ⟨T,2,none⟩=some (.slice (some ⟨gh,oh,none⟩) m ch)∧W.cell? ⟨gh,oh+ia,none⟩=some (.int .i64 h))) (by kernel_rfl) ?_ (fun hHeld=>?_)
    ·exact (by rw[hV2];exact HSS.out V2 HBV2.out)
    rw[hV2] at hHeld ⊢;refine agE [0,1,2,3,4,5,6,7,8,9,10] ?_;iterate 11 (refine tkM ?_;try simp only[pS])
    refine agN ?_;refine rd1 11 fun K hK=>?_;go_simp;refine HC.out.mono ?_;rintro e w3 ⟨v3,rfl,hr3,hv3,st3⟩;obtain⟨a1,a2,-,-,-⟩:=HW2.out.after st3;have HT3:=zh (show w3.cell? ⟨T,0,none⟩=some (.pointer (some ⟨B,0,none⟩))∧w3.cell? ⟨T,2,none⟩=some (.slice (some ⟨gh,oh,none⟩) m ch)∧w3.cell? ⟨gh,oh+ia,none⟩=some (.int .i64 h)∧w3.cell? ⟨T,1,none⟩=some (.pointer (some ⟨M,0,none⟩)) from tw_cells a1 HLEN.out (by rw[←hh];exact HV.out.at_hs hial));have HR3:=zh hr3;have HV3:=zh (And.intro hv3 (And.intro st3 a2));obtain⟨A3,c3,rfl⟩:=own_slice (own_zero hr3);clear hr3 hv3 st3 a1 a2;refine hK.out _ _ (⟨HT3.out.1,HT3.out.2.1,HT3.out.2.2.1⟩) fun hHeld=>?_;clear hK K;(try simp only[pS]);refine agE [12,13,14,15,16] ?_;iterate 5 (refine tkM ?_;try simp only[pS])
    refine agN ?_;refine dnH ?_;obtain⟨p0,p1,p2,p3⟩:=HT3.out;have HR:=zh (rremove_cut bM M m vsM f ia p w3 HV3.out.2.2 (HW2.out.im.pull HW2.out.wf) hial hg hpa h0 (by omega) hpm);go_wp2_with fail;refine HR.out.mono ?_;rintro e w4 ⟨v4,rfl,hr4,sl4,hm4,st4⟩;have HW4:=zh (HW2.out.cut (sl:=sl4) hial hg hpa hpm hpg hpi (by rw[hh];exact HV3.out.1) HV3.out.2.1 hm4 st4);have HMT:=zh (match_any T B M V2.heap.size w3.heap.size _ _ v4 hs [placeM m f 2 ia p] w4 HW4.out.tw (own_turns HR3.out st4.1 (fun k hk hm=>by have h1:=(HR3.out.lt k hk).1;have h2:=(HW2.out.mv.lt k hm).2;omega)) hr4 (by simp));obtain⟨A4,c4,rfl⟩:=own_slice (own_zero hr4);clear hr4 hm4 st4;go_wp2_with fail;refine HMT.out.mono ?_;rintro e w5 ⟨rfl,hb5⟩;have HFIN:=zh (HW4.out.below hb5);clear hb5;go_wp2_with fail;go_ret2;exact⟨_,[],_,_,_,_,_,_,_,_,_,_,_,_,rfl,HFIN.out⟩
end
section
open Go.RowKit
theorem rdattr_not (base M m:Nat) (vs:Value) (f:Nat→RS) (i:Nat) (nm:ByteArray) (w:World) (h:MV base w M vs m f) (hi:i<m) (hk:(f i).kind≠2):
  Calls Tryz.prog 46 #[.pointer (some ⟨M,0,none⟩),.int .i64 (i:Int),.string nm] w fun e w'=>e=.returned (errV 10)∧w'=w:=by
 obtain⟨A,c,rfl⟩:=h.form;obtain⟨g,rfl,-⟩:=h.read hi;obtain⟨k0,c0,_⟩:=h.rd hi;have q1:(0:Int)≤(i:Int):=by omega
 have q2:(i:Int)<(m:Int):=by omega
 have q3:=bne_true hk;clear h hk
 go_enter Tryz.func46,Tryz.ntmps46
 go_wp2_with fail;go_ret2;exact⟨rfl,rfl⟩
theorem rdattr_none (base M m:Nat) (vs:Value) (f:Nat→RS) (i:Nat) (nm:ByteArray) (w:World) (h:MV base w M vs m f) (hi:i<m) (hm:m≤100000) (hk:(f i).kind=2) (hl:(f i).at'.length≤1000) (hcase:¬ atN (f i).at' nm<(f i).at'.length):
  Calls Tryz.prog 46 #[.pointer (some ⟨M,0,none⟩),.int .i64 (i:Int),.string nm] w fun e w'=>e=.returned (errV 0)∧w'=w:=by
 have hF:=rfind_any base M m vs f i nm w h hi hm hl;have hai:atI (f i).at' nm = -1:=by unfold atI;rw[if_neg hcase]
 rw[hai] at hF;obtain⟨A,c,rfl⟩:=h.form;obtain⟨g,rfl,-⟩:=h.read hi;obtain⟨k0,c0,_⟩:=h.rd hi;rw[hk] at c0;have q1:(0:Int)≤(i:Int):=by omega
 have q2:(i:Int)<(m:Int):=by omega
 have HF:=zh hF;clear h hk hF hcase hai
 go_enter Tryz.func46,Tryz.ntmps46
 go_wp2_with fail;refine HF.out.mono ?_;rintro e w1 ⟨rfl,hw1⟩;obtain rfl:=hw1.symm;go_wp2_with fail;go_ret2;exact⟨rfl,rfl⟩
theorem rdattr_some (base M m:Nat) (vs:Value) (f:Nat→RS) (i:Nat) (nm:ByteArray) (w:World) (h:MV base w M vs m f) (hi:i<m) (hm:m≤100000) (hk:(f i).kind=2) (hl:(f i).at'.length≤1000) (hcase:atN (f i).at' nm<(f i).at'.length):
  Calls Tryz.prog 46 #[.pointer (some ⟨M,0,none⟩),.int .i64 (i:Int),.string nm] w fun e w'=>∃ r sl,e=.returned (.tuple #[r,.int .i64 0])∧RRow w.heap.size w' r [attrRecM i nm (oldA (f i).at' nm) true]∧
   MV base w' M vs m (updM f i fun n=>{ n with a:=sl,at':=dropA (f i).at' nm })∧AStep w w' (MFoot M vs m f) (MFoot M vs m (updM f i fun n=>{ n with a:=sl,at':=dropA (f i).at' nm })):=by
 obtain⟨i0,hi0,hz0,hz1,hz2⟩:=info_parts rattrInfo;have hF:=rfind_any base M m vs f i nm w h hi hm hl;obtain⟨l1,p,l2,hL,hd1⟩:∃ l1 p l2,(f i).at'=l1++p::l2∧l1.length=atN (f i).at' nm:=by
  refine⟨(f i).at'.take (atN (f i).at' nm),(f i).at'[atN (f i).at' nm],(f i).at'.drop (atN (f i).at' nm+1),?_,by rw[List.length_take];omega⟩;rw[←List.drop_eq_getElem_cons hcase,List.take_append_drop]
 obtain⟨d,hd⟩:∃ d,l1.length=d:=⟨_,rfl⟩
 obtain⟨b,hb⟩:∃ b,l2.length=b:=⟨_,rfl⟩
 have hai:atI (f i).at' nm=(d:Int):=by unfold atI;rw[if_pos hcase,←hd1,hd]
 have hget:(f i).at'[d]?=some p:=by rw[hL,←hd];simp
 have hdrop:dropA (f i).at' nm=l1++l2:=by unfold dropA;rw[←hd1,hL,List.eraseIdx_append_of_length_le (Nat.le_refl _),Nat.sub_self];rfl
 have hold:oldA (f i).at' nm=p.2:=by unfold oldA;rw[←hd1,hd,hget]
 have hlen:(f i).at'.length=d+1+b:=by rw[hL,List.length_append,List.length_cons];omega
 rw[hai] at hF;obtain⟨A,c,rfl⟩:=h.form;obtain⟨g,rfl,-⟩:=h.read hi;obtain⟨k0,c0,_,c2,_⟩:=h.rd hi;rw[hk] at c0;obtain⟨ga,oa,hA,a1,a2⟩:=h.attr hi hget;obtain⟨cp,hcp⟩:∃ cp,(f i).a.c=cp:=⟨_,rfl⟩
 have hv:(f i).a.v=.slice (some ⟨ga,oa,none⟩) (d+1+b) cp:=by unfold Tr.Sl.v;rw[h.an hi,hlen,hA,hcp]
 rw[hlen,hA,hcp] at c2;have q1:(0:Int)≤(i:Int):=by omega
 have q2:(i:Int)<(m:Int):=by omega
 have hr0:=h.ar i hi;rw[hv,hlen,hL] at hr0;have hcap:=hr0.le;have HKR:=zh (fun (W:World) (hb':Below w.heap.size w W)=>(hr0.below hb').parts2 hd hb);have HF:=zh hF;have HM:=zh (fun (W:World) (hb:Below w.heap.size w W)=>h.below hb);have hgl:g<w.heap.size:=(h.row.lt g rfl).2;have hMb:base≤w.heap.size:=by have:=h.low;have:=h.var.lt;omega
 have HDR:=zh (And.intro hdrop (And.intro hold (And.intro hd (And.intro hb hv))));rw[hlen] at hl;obtain⟨w3,hw3⟩:∃ w3,w.alloc (.cells #[.int .i64 0,.int .i64 0,.int .i64 0,.int .i64 0,.int .i64 0,.int .i64 0,.string ⟨#[]⟩,.string ⟨#[]⟩,.bool false,.int .i64 0,.int .i64 0] 137)=w3:=⟨_,rfl⟩
 have hb3:Below w.heap.size w w3:=bzA hw3;have hX3:Whole w3 w.heap.size #[.int .i64 0,.int .i64 0,.int .i64 0,.int .i64 0,.int .i64 0,.int .i64 0,.string ⟨#[]⟩,.string ⟨#[]⟩,.bool false,.int .i64 0,.int .i64 0] 137:=by rw[←hw3];exact Whole.new w _ _
 have y0:w3.cell? ⟨w.heap.size,0,none⟩=some (.int .i64 0):=hX3.cell 0;have yf0:=hX3.free 0;have y1:w3.cell? ⟨w.heap.size,1,none⟩=some (.int .i64 0):=hX3.cell 1;have yf1:=hX3.free 1;have y2:w3.cell? ⟨w.heap.size,2,none⟩=some (.int .i64 0):=hX3.cell 2;have yf2:=hX3.free 2;have y3:w3.cell? ⟨w.heap.size,3,none⟩=some (.int .i64 0):=hX3.cell 3;have yf3:=hX3.free 3;have y4:w3.cell? ⟨w.heap.size,4,none⟩=some (.int .i64 0):=hX3.cell 4;have yf4:=hX3.free 4;have y5:w3.cell? ⟨w.heap.size,5,none⟩=some (.int .i64 0):=hX3.cell 5;have yf5:=hX3.free 5;have y6:w3.cell? ⟨w.heap.size,6,none⟩=some (.string ⟨#[]⟩):=hX3.cell 6;have yf6:=hX3.free 6;have y7:w3.cell? ⟨w.heap.size,7,none⟩=some (.string ⟨#[]⟩):=hX3.cell 7;have yf7:=hX3.free 7;have y8:w3.cell? ⟨w.heap.size,8,none⟩=some (.bool false):=hX3.cell 8;have yf8:=hX3.free 8;have y9:w3.cell? ⟨w.heap.size,9,none⟩=some (.int .i64 0):=hX3.cell 9;have yf9:=hX3.free 9;have y10:w3.cell? ⟨w.heap.size,10,none⟩=some (.int .i64 0):=hX3.cell 10;have yf10:=hX3.free 10;obtain⟨w4,hw4,hX4,g4⟩:=box11 hX3 (.int .i64 3) (.int .i64 (i:Int)) (.int .i64 (-1)) (.int .i64 (-1)) (.int .i64 (-1)) (.int .i64 0) (.string nm) (.string p.2) (.bool true) (.int .i64 0) (.int .i64 0);have hb04:Below w.heap.size w w4:=hb3.grown g4 hb3.size (fun j hj=>by simp at hj;omega);have hb4d:Below w.heap.size w w4.drew:=hb04.trans ((below_drew1 _ w4).mono hb04.size);have hs4:w.heap.size<w4.heap.size:=hX4.lt;obtain⟨w5,hw5⟩:∃ w5,w4.drew.alloc (.cells #[] 92)=w5:=⟨_,rfl⟩
 have hb45:Below w4.heap.size w4 w5:=by rw[←hw5];exact (below_drew1 _ w4).alloc (Nat.le_refl _) _
 have hb05:=hb04.trans (hb45.mono hb04.size);have hX5:=hX4.below hb45 hX4.lt;have HS0:=zh ((HM.out _ hb4d).rd hi).1;have HS1:=zh ((HM.out _ hb05).rd hi).1;have hbs5:=hb45.size;have e5:TR w5 w4.heap.size 92 2 (.slice (some ⟨w4.heap.size,0,none⟩) 0 0) 0 []:=by rw[←hw5];exact empty_rowI w4.drew 92 2
 have s1:=(HKR.out w5 hb05).1.source;have hya:=(HKR.out w5 hb05).1.1;have hyb:=(HKR.out w5 hb05).2.1;have HX5:=zh hX5;have HB45:=zh hb45;have HB04:=zh hb04;have p0:(0:Int)≤(d:Int):=by omega
 have p1:(d:Int)<(d:Int)+1+(b:Int):=by omega
 have p1b:(d:Int)<((d+1+b:Nat):Int):=by omega
 have hdc:(d:Int)≤(cp:Int):=by omega
 have hi2:(d:Int)+1≤((d+1+b:Nat):Int):=by omega
 have hi3:(0:Int)≤(d:Int)+1:=by omega
 have hi2b:(d:Int)+1≤(d:Int)+1+(b:Int):=by omega
 have ht1':((d:Int)+1).toNat=d+1:=by omega
 have hs2:IntKind.i64.wrap ((d:Int)+1)=(d:Int)+1:=by rw[IntKind.wrap_i64];omega
 have p4:¬ (d:Int)<0:=by omega
 clear h hk hF hcase hai hX3 hX4 hX5 g4 hb3 hb04 hb4d hb45 hb05 hL hd1 hget hdrop hold hlen hv hcp hA hd hb hr0
 go_enter Tryz.func46,Tryz.ntmps46
 go_wp2_with fail;refine HF.out.mono ?_;rintro e w1 ⟨rfl,hw1⟩;obtain rfl:=hw1.symm;go_wp2_with fail;(try rw[hw4]);go_wp2_with fail;refine wp_region_noPanic ?_;refine wp_region_held_drew (S:=(fun W=>W.cell? ⟨M,0,none⟩=some (.slice (some ⟨g,0,none⟩) m c))) (by kernel_rfl) ?_ (fun hHeld=>?_)
 ·exact HS0.out
 refine agE [0,1,2,3,4,6,7,8,10,11,12,13] ?_;iterate 12 (refine tkA ?_;try simp only[pS])
 refine agN ?_;refine rd1 5 fun K hK=>?_;go_simp;(try rw[hw5]);refine hK.out _ _ (HS1.out) fun hHeld=>?_;clear hK K;(try simp only[pS]);refine rd1 9 fun K hK=>?_;refine step_append_tail rfl _ _ 65 rfl w4.heap.size 92 i0 (.agg #[.string ⟨#[]⟩,.string ⟨#[]⟩]) 2 32 Tryz.underlying65 hi0 hz0 hz1 hz2 rfl (by decide) _ 0 [] rfl e5 _ d (atC l1) rfl hya s1 (atC_one _) ?c4 ?c5 hbs5 ?_
 case c4=>unfold maxLen;omega
 case c5=>omega
 intro v7 w7 o7 g7x f7;have g7:w5.grownBy w7 (Value.slice (some ⟨w4.heap.size,0,none⟩) 0 0).ownBlock:=g7x;clear g7x;(try simp only[Nat.zero_add,List.nil_append] at o7);obtain⟨A7,c7,rfl⟩:=o7.form;have hb47:Below w4.heap.size w4 w7:=HB45.out.grown g7 HB45.out.size (fun j hj=>by simp[Value.ownBlock] at hj;omega);have hb7:=HB04.out.trans (hb47.mono HB04.out.size);have hm7:=HM.out w7 hb7;have s2:=(HKR.out w7 hb7).2.source;have hbs7:=hb47.size;have hX7:=HX5.out.grown g7 (fun e=>by simp[Value.ownBlock] at e;omega);refine hK.out _ _ ((hm7.rd hi).1) fun hHeld=>?_;clear hK K;(try simp only[pS]);refine rd1 14 fun K hK=>?_;refine step_append_tail rfl _ _ 65 rfl w4.heap.size 92 i0 (.agg #[.string ⟨#[]⟩,.string ⟨#[]⟩]) 2 32 Tryz.underlying65 hi0 hz0 hz1 hz2 rfl (by decide) _ d (atC l1) rfl o7 _ b (atC l2) rfl hyb s2 (atC_one _) ?c4 ?c5 hbs7 ?_
 case c4=>unfold maxLen;omega
 case c5=>omega
 intro v8 w8 o8 g8 f8;rw[←atC_append] at o8;have hb48:Below w4.heap.size w4 w8:=hb47.grown g8 hb47.size (fun j hj=>(o7.lt j hj).1);have hb8:=HB04.out.trans (hb48.mono HB04.out.size);have hm8:=HM.out w8 hb8;obtain⟨A8,c8,rfl⟩:=o8.form;have hl8:(l1++l2).length=d+b:=by rw[List.length_append,HDR.out.2.2.1,HDR.out.2.2.2.1]
 obtain⟨_,fz,hcells,hm9,st9⟩:=(HM.out w4 HB04.out).put_attrs (sl:=⟨A8,d+b,c8⟩) (l':=l1++l2) hi (Below.refl _ w4) (gb_of_below hb48 _) (by rw[hl8];exact o8.lower (by have:=HB04.out.size;omega)) (.inr fun k hk=>(o8.lt k hk).1);have hpc:=hcells i 2 hi (by omega);rw[show (rsC (f i))[2]?=some ((f i).a.v) from rfl,HDR.out.2.2.2.2] at hpc;have hX8:=hX7.grown g8 (fun e=>by have:=(o7.lt _ e.symm).1;omega);obtain⟨w9,hw9⟩:∃ w9,w8.setCell ⟨g,i*7+2,none⟩ (.slice A8 (d+b) c8)=w9:=⟨_,rfl⟩
 rw[show (Tr.Sl.v ⟨A8,d+b,c8⟩)=.slice A8 (d+b) c8 from rfl,hw9] at hm9 st9;have gg:w8.grownBy w9 (some g):=by rw[←hw9];exact gb_put (gb_of_below (Below.refl w8.heap.size w8) _) _ _
 have hX9:=hX8.grown gg (fun e=>by injection e with e;omega);have hS9:=(hm9.rd hi).1;have hS8:=(hm8.rd hi).1;rw[←HDR.out.1] at hm9 st9;have hs9:w.heap.size≤w9.heap.size:=by have:=gg.size;have:=hb8.size;omega
 have hBA:=(Below.refl _ w9).alloc (Nat.le_refl _) (.cells #[.int .i64 3,.int .i64 (i:Int),.int .i64 (-1),.int .i64 (-1),.int .i64 (-1),.int .i64 0,.string nm,.string p.2,.bool true,.int .i64 0,.int .i64 0] 137);have HFIN:=zh (And.intro (rrow_one w9 (attrRecM i nm p.2 true) w.heap.size hs9) (And.intro (hm9.below hBA) (((AStep.of_below HB04.out).trans st9).trans (.of_below hBA))));have zc0:w9.cell? ⟨w.heap.size,0,none⟩=some (.int .i64 3):=hX9.cell 0;have zcf0:=hX9.free 0;have zc1:w9.cell? ⟨w.heap.size,1,none⟩=some (.int .i64 (i:Int)):=hX9.cell 1;have zcf1:=hX9.free 1;have zc2:w9.cell? ⟨w.heap.size,2,none⟩=some (.int .i64 (-1)):=hX9.cell 2;have zcf2:=hX9.free 2;have zc3:w9.cell? ⟨w.heap.size,3,none⟩=some (.int .i64 (-1)):=hX9.cell 3;have zcf3:=hX9.free 3;have zc4:w9.cell? ⟨w.heap.size,4,none⟩=some (.int .i64 (-1)):=hX9.cell 4;have zcf4:=hX9.free 4;have zc5:w9.cell? ⟨w.heap.size,5,none⟩=some (.int .i64 0):=hX9.cell 5;have zcf5:=hX9.free 5;have zc6:w9.cell? ⟨w.heap.size,6,none⟩=some (.string nm):=hX9.cell 6;have zcf6:=hX9.free 6;have zc7:w9.cell? ⟨w.heap.size,7,none⟩=some (.string p.2):=hX9.cell 7;have zcf7:=hX9.free 7;have zc8:w9.cell? ⟨w.heap.size,8,none⟩=some (.bool true):=hX9.cell 8;have zcf8:=hX9.free 8;have zc9:w9.cell? ⟨w.heap.size,9,none⟩=some (.int .i64 0):=hX9.cell 9;have zcf9:=hX9.free 9;have zc10:w9.cell? ⟨w.heap.size,10,none⟩=some (.int .i64 0):=hX9.cell 10;have zcf10:=hX9.free 10;clear hm9 st9 hBA hX9 hX8 hX7 hcells gg hb48 hb47 hb7 hb8 hm7 hm8 o7 o8 g8 f7 f8 g7 s2 hl8 hs9;refine hK.out _ _ (hS8) fun hHeld=>?_;clear hK K;(try simp only[pS]);refine agE [15,16] ?_;iterate 2 (refine tkA ?_;try simp only[pS])
 refine agN ?_;refine rd1 17 fun K hK=>?_;go_simp;(try rw[hw9]);refine hK.out _ _ (hS9) fun hHeld=>?_;clear hK K;(try simp only[pS]);refine dnH ?_;go_wp2_with fail;all_goals go_ret2
 all_goals
  obtain⟨z1,z2,z3⟩:=HFIN.out
  first
   | (refine⟨_,⟨A8,d+b,c8⟩,rfl,?_,z2,z3⟩;rw[HDR.out.2.1];exact z1)
   | (refine⟨_,rfl,?_,⟨A8,d+b,c8⟩,z2,z3⟩;rw[HDR.out.2.1];exact z1)
end
section
open Go.RowKit
variable [Kep]
theorem Tr.cut1G_at {g:Tr.G} {h x:Int} {q:Tr.GN} (e:Tr.cut1 g h x=some q):∃ y,g x=some y∧y.attrs=q.attrs:=by
 unfold Tr.cut1 at e
 split at e
 ·exact⟨q,e,rfl⟩
 ·unfold Tr.cutG at e
  split at e
  ·rename_i hx;subst hx;cases e2:g x with
   | none=>rw[e2] at e;cases e
   | some y=>rw[e2] at e;obtain rfl:=Option.some.inj e;exact⟨y,rfl,rfl⟩
  ·split at e
   ·cases e2:g x with
    | none=>rw[e2] at e;cases e
    | some y=>rw[e2] at e;obtain rfl:=Option.some.inj e;exact⟨y,rfl,rfl⟩
   ·exact⟨q,e,rfl⟩
theorem Tr.linkG_at {g:Tr.G} {p h c x:Int} {q:Tr.GN} (e:Tr.linkG g p h c x=some q):∃ y,g x=some y∧y.attrs=q.attrs:=by
 unfold Tr.linkG at e
 split at e
 ·rename_i hx;subst hx;cases e2:g x with
  | none=>rw[e2] at e;cases e
  | some y=>rw[e2] at e;obtain rfl:=Option.some.inj e;exact⟨y,rfl,rfl⟩
 ·split at e
  ·rename_i hx;subst hx;cases e2:g x with
   | none=>rw[e2] at e;cases e
   | some y=>rw[e2] at e;obtain rfl:=Option.some.inj e;exact⟨y,rfl,rfl⟩
  ·exact⟨q,e,rfl⟩
theorem linkA_pa {a:Tr.G} {p i c x:Int} (hx:x≠i):(Tr.linkA a p i c x).map (·.pa)=(a x).map (·.pa):=by
 unfold Tr.linkA;rw[if_neg hx]
 split
 ·rename_i e;subst e;cases a x<;>rfl
 ·rfl
theorem cut1A_pa {a:Tr.G} {i x:Int} (hx:x≠i):(cut1A a i x).map (·.pa)=(a x).map (·.pa):=by
 unfold cut1A
 split
 ·rfl
 ·unfold Tr.cutA;rw[if_neg hx]
  split
  ·cases a x<;>rfl
  ·rfl
theorem insRec_place {m:Nat} {f2:Nat→RS} {l:List Int} {p i:Nat} {c:Int} (hk:(f2 p).kids=Tr.insB l c (i:Int)) (hx:(i:Int)∉l) (hl:(-1:Int)∉l) (hc:c = -1∨c∈l):insRec l p i c=placeM m f2 1 i p:=by
 unfold placeM;rw[hk];rcases hc with rfl | hc
 ·have q1:=atM_last l [];have q2:=atM_head l [];rw[List.append_nil] at q1 q2;rw[Tr.insB_end hl,insRec_end l p i rfl,Tr.idxOf_split hx,atM_next,atM_last,q1,q2]
 ·have hc1:c ≠ -1:=fun e=>hl (e▸hc);obtain⟨l1,l2,rfl,hn⟩:∃ l1 l2,l=l1++c::l2∧c∉l1:=List.eq_append_cons_of_mem hc;have hx1:(i:Int)∉l1:=fun h=>hx (by simp[h]);rw[Tr.insB_split hn,insRec_at _ p i hc1 rfl,Tr.idxOf_split hn,Tr.idxOf_split hx1,atM_next,atM_last,atM_last,atM_head]
variable {w w3 w4:World} {base bM T B M:Nat} {b s:Int} {vs vf vsM vh:Value} {n live m:Nat} {fr:List Nat} {av:Int→Tr.Sl} {f f2:Nat→RS} {hs:List Int} {g:Tr.G} {K:Nat}
theorem TW.im_cut1 (H:TW w base bM T B M b s vs vf vsM vh n live m fr av f hs g K) {i:Nat} (hi:i<m) (hg:(f i).gone=false):Tr.Im (hof hs) (cut1A (mg m f) (i:Int)) (Tr.cut1 g (hof hs (i:Int))):=by
 have ei:=mg_at hi hg;have eg:=H.live_h hi hg;have hpa:Tr.paOf g (hof hs (i:Int))=hof hs (f i).pa:=Tr.paOf_some eg;have hpm:Tr.paOf (mg m f) (i:Int)=(f i).pa:=Tr.paOf_some ei;by_cases h1:(f i).pa = -1
 ·have e1:cut1A (mg m f) (i:Int)=mg m f:=by unfold cut1A;rw[if_pos (hpm.trans h1)]
  have e2:Tr.cut1 g (hof hs (i:Int))=g:=by unfold Tr.cut1;rw[if_pos (by rw[hpa,h1];exact H.im.zero)]
  rw[e1,e2];exact H.im
 ·have hl:(mg m f (f i).pa).isSome:=(H.im.pa _ _ ei).resolve_left h1;have e1:cut1A (mg m f) (i:Int)=Tr.cutA (mg m f) (i:Int):=by unfold cut1A;rw[if_neg (by rw[hpm];exact h1)]
  have e2:Tr.cut1 g (hof hs (i:Int))=Tr.cutG g (hof hs (i:Int)):=by unfold Tr.cut1;rw[if_neg (by rw[hpa];exact H.im.nz _ hl)]
  rw[e1,e2];exact H.im.cut H.wf ei h1
theorem TW.linked (H:TW w base bM T B M b s vs vf vsM vh n live m fr av f hs g K) {i p:Nat} {c':Int} {f2:Nat→RS} {q1:Tr.GN} (hi:i<m) (hg:(f i).gone=false) (hpm:p<m) (hpg:(f p).gone=false) (hpi:p≠i) (i0:i≠0)
  (hu:hof hs (i:Int)∉Tr.upG g (hof hs (p:Int))) (hlim:(Tr.upG g (hof hs (p:Int))).length+Tr.hgtG g (hof hs (i:Int))≤128)
  (hcl:Tr.Lv (cut1A (mg m f) (i:Int)) c') (e1p:Tr.cut1 g (hof hs (i:Int)) (hof hs (p:Int))=some q1) (hc1:hof hs c'=0∨hof hs c'∈q1.kids)
  (tv':TV base w3 B b s vs n (Tr.raw (Tr.linkG (Tr.cut1 g (hof hs (i:Int))) (hof hs (p:Int)) (hof hs (i:Int)) (hof hs c')) av) vf fr live (hof hs 0)) (st:AStep w w3 (Foot B vs vf) (Foot B vs vf))
  (mv':MV bM w4 M vsM m f2) (stM:AStep w3 w4 (MFoot M vsM m f) (MFoot M vsM m f2)) (hm2:mg m f2=Tr.linkA (cut1A (mg m f) (i:Int)) p i c') (hk2:∀ j,Keep4 (f2 j) (f j)):
  TW w4 base bM T B M b s vs vf vsM vh n live m fr av f2 hs (Tr.linkG (Tr.cut1 g (hof hs (i:Int))) (hof hs (p:Int)) (hof hs (i:Int)) (hof hs c')) (K+1):=by
 have eg:=H.live_h hi hg;have im1:=H.im_cut1 hi hg;have hw1:=H.wf.cut1 eg;have hS1:=sound_cut1 H.so H.wf eg;have e1h:=Tr.cut1_self eg;have hph:hof hs (i:Int)≠hof hs (p:Int):=fun e=>by
  have:=H.im.inj (i:Int) (p:Int) (by rw[mg_at hi hg];rfl) (by rw[mg_at hpm hpg];rfl) e;omega
 have hi1:(cut1A (mg m f) (i:Int) (i:Int)).isSome:=by
  unfold cut1A Tr.cutA
  split
  ·rw[mg_at hi hg];rfl
  ·dsimp only;rw[if_pos rfl,mg_at hi hg];rfl
 have hp1:(cut1A (mg m f) (i:Int) (p:Int)).isSome:=by
  unfold cut1A Tr.cutA
  split
  ·rw[mg_at hpm hpg];rfl
  ·dsimp only;rw[if_neg (by omega)]
   split
   ·rw[mg_at hpm hpg];rfl
   ·rw[mg_at hpm hpg];rfl
 obtain⟨ni,ei1⟩:=Option.isSome_iff_exists.1 hi1;obtain⟨np,ep1⟩:=Option.isSome_iff_exists.1 hp1;have im':Tr.Im (hof hs) (mg m f2) (Tr.linkG (Tr.cut1 g (hof hs (i:Int))) (hof hs (p:Int)) (hof hs (i:Int)) (hof hs c')):=by
  rw[hm2];exact im1.link hw1 ei1 ep1 (by omega) hcl
 have hS2:=sound_link hS1 hw1 e1h rfl e1p hph hc1;have hw2:=hw1.link (c:=hof hs c') e1h rfl e1p (by rw[H.wf.up_cut eg hu];exact hu) (by rw[H.wf.up_cut eg hu,H.wf.hgt_cut eg];exact hlim);refine H.step tv' hS2 st ?_ hw2 mv' stM im' ?_ ?_ ?_ H.nm ?_ ?_
 ·refine AT.same (H.at'.step H.tv st) fun x q e=>?_;obtain⟨y,e1,e2⟩:=Tr.linkG_at e;obtain⟨z,e3,e4⟩:=Tr.cut1G_at e1;exact⟨z,e3,e4.trans e2⟩
 ·exact⟨by rw[(hk2 0).2.1];exact H.km.1,fun j hj h0=>by rw[(hk2 j).2.1];exact H.km.2 j hj h0⟩
 ·rw[(hk2 0).1];exact H.g0
 ·intro j hj hgj;rw[(hk2 j).1] at hgj;exact H.gn j hj hgj
 ·have h0:0<m:=H.m0;have g0:(f2 0).gone=false:=by rw[(hk2 0).1];exact H.g0
  have e2:mg m f2 ((0:Nat):Int)=some (rsG (f2 0)):=mg_at h0 g0;have e3:mg m f ((0:Nat):Int)=some (rsG (f 0)):=mg_at h0 H.g0;have hne:((0:Nat):Int)≠(i:Int):=by omega
  have e4:=(linkA_pa (a:=cut1A (mg m f) (i:Int)) (p:=(p:Int)) (c:=c') hne).trans (cut1A_pa (a:=mg m f) hne);rw[←hm2,e2,e3] at e4;have e5:(f2 0).pa=(f 0).pa:=Option.some.inj e4;rw[e5];exact H.d0
 ·intro j hj;rw[(hk2 j).2.2.1,(hk2 j).2.2.2];have:=H.bd j hj;exact⟨by omega,by omega,this.2.2⟩
theorem TW.placed (H:TW w base bM T B M b s vs vf vsM vh n live m fr av f2 hs g K) {i p:Nat} {l:List Int} {c:Int} (hi:i<m) (hg:(f2 i).gone=false) (hp:(f2 i).pa=(p:Int)) (hk:(f2 p).kids=Tr.insB l c (i:Int)) (hx:(i:Int)∉l) (hl:(-1:Int)∉l) (hc:c = -1∨c∈l):
  Tr.placeG g 1 (hof hs (i:Int))=mapR (hof hs) (insRec l p i c):=by
 rw[insRec_place (m:=m) hk hx hl hc];exact H.im.place H.wf 1 hi hg hp
end
section
open Go.RowKit
variable [Kep]
def recsA (m:Nat) (f:Nat→RS) (h:Nat):List Tr.Rec:=if (f h).pa = -1 then [] else [placeM m f 2 h (f h).pa.toNat]
theorem recsA_free {m:Nat} {f:Nat→RS} {h:Nat} (e:(f h).pa = -1):recsA m f h=[]:=if_pos e
theorem recsA_at {m:Nat} {f:Nat→RS} {h q:Nat} (e:(f h).pa=(q:Int)):recsA m f h=[placeM m f 2 h q]:=by
 unfold recsA;rw[if_neg (by omega),e,Int.toNat_natCast]
theorem pa_form {m:Nat} {f:Nat→RS} {h:Nat} (hw:Tr.WF (-1) (mg m f)) (hhm:h<m) (hhg:(f h).gone=false):(f h).pa = -1∨∃ q:Nat,(f h).pa=(q:Int)∧q<m∧(f q).gone=false∧q≠h:=by
 rcases hw.pa (mg_at hhm hhg) with e | ⟨n,e,_⟩
 ·exact .inl e
 ·obtain⟨q',e1,e2,e3,_⟩:=mg_some e;have e5:(f h).pa=(q':Int):=e1;exact .inr ⟨q',e5,e2,e3,fun e4=>hw.not_self (mg_at hhm hhg) (by show (f h).pa=_;rw[e5,e4])⟩
theorem rinsert_ok (base M m:Nat) (vs:Value) (f:Nat→RS) (p h:Nat) (c:Int) (w:World) (H:MV base w M vs m f) (hw:Tr.WF (-1) (mg m f)) (hpm:p<m) (hpg:(f p).gone=false) (hhm:h<m) (hhg:(f h).gone=false) (h0g:(f 0).gone=false) (hm:m≤100000)
  (hch:childM m f p h=true) (hc:c = -1∨∃ j:Nat,c=(j:Int)∧j<m∧(f j).pa=(p:Int)) (hlim:(Tr.upG (mg m f) (p:Int)).length+Tr.hgtG (mg m f) (h:Int)≤128) (hph:p≠h) (hw1:Tr.WF (-1) (cut1A (mg m f) (h:Int))) (hcin:insCA (mg m f) h c = -1∨insCA (mg m f) h c∈Tr.kidsOf (cut1A (mg m f) (h:Int)) (p:Int)):
  Calls Tryz.prog 43 #[.pointer (some ⟨M,0,none⟩),.int .i64 (p:Int),.int .i64 (h:Int),.int .i64 c] w fun e w'=>∃ r,e=.returned (.tuple #[r,.int .i64 0])∧RRow w.heap.size w' r (recsA m f h++[insRec (Tr.kidsOf (cut1A (mg m f) (h:Int)) (p:Int)) p h (insCA (mg m f) h c)])∧
   ∃ f2,MV base w' M vs m f2∧AStep w w' (MFoot M vs m f) (MFoot M vs m f2)∧mg m f2=Tr.linkA (cut1A (mg m f) (h:Int)) p h (insCA (mg m f) h c)∧∀ j,Keep4 (f2 j) (f j):=by
 refine rinsert_all base M m vs f p h c w H hw hpm hpg hhm hhg h0g hm hch hc hlim hph hw1 hcin _ ?_;rcases pa_form hw hhm hhg with e | ⟨q,e,-⟩
 ·exact .inl ⟨e,recsA_free e⟩
 ·exact .inr ⟨q,e,recsA_at e⟩
variable {w:World} {base bM T B M:Nat} {b s:Int} {vs vf vsM vh:Value} {n live m:Nat} {fr:List Nat} {av:Int→Tr.Sl} {f:Nat→RS} {hs:List Int} {g:Tr.G} {K:Nat}
theorem TW.recs1 (H:TW w base bM T B M b s vs vf vsM vh n live m fr av f hs g K) {i:Nat} (hi:i<m) (hg:(f i).gone=false):Tr.recs1 g (hof hs (i:Int))=(recsA m f i).map (mapR (hof hs)):=by
 have eg:=H.live_h hi hg;have hpa:Tr.paOf g (hof hs (i:Int))=hof hs (f i).pa:=Tr.paOf_some eg;unfold Tr.recs1;rcases pa_form (H.im.pull H.wf) hi hg with e | ⟨q,e,hq1,hq2,-⟩
 ·rw[recsA_free e,if_pos (by rw[hpa,e];exact H.im.zero)];rfl
 ·rw[recsA_at e,if_neg (by rw[hpa,e];exact H.im.nz _ (by rw[mg_at hq1 hq2];rfl))];rw[H.im.place H.wf 2 hi hg e];rfl
theorem TW.insC (H:TW w base bM T B M b s vs vf vsM vh n live m fr av f hs g K) {i:Nat} (hi:i<m) (hg:(f i).gone=false) {c:Int} (hc:c = -1∨(mg m f c).isSome) (hp:c=(i:Int)→(f i).pa ≠ -1):hof hs (insCA (mg m f) i c)=Tr.insC g (hof hs (i:Int)) (hof hs c):=by
 have ei:=mg_at hi hg;have eg:=H.live_h hi hg;have li:(mg m f (i:Int)).isSome:=by rw[ei];rfl
 unfold insCA Tr.insC;by_cases e:c=(i:Int)
 ·rw[if_pos e,if_pos (by rw[e])];rcases pa_form (H.im.pull H.wf) hi hg with e1 | ⟨q,e1,hq1,hq2,-⟩
  ·exact absurd e1 (hp e)
  ·obtain⟨-,-,l1,l2,hL,n1,n2,n3⟩:=H.im.split H.wf hi hg e1;have hpm:Tr.paOf (mg m f) (i:Int)=(q:Int):=(Tr.paOf_some ei).trans e1;have hpg:Tr.paOf g (hof hs (i:Int))=hof hs (q:Int):=by rw[Tr.paOf_some eg];show hof hs (f i).pa=_;rw[e1]
   have hk1:Tr.kidsOf (mg m f) (q:Int)=l1++(i:Int)::l2:=(Tr.kidsOf_some (mg_at hq1 hq2)).trans hL;have hk2:Tr.kidsOf g (hof hs (q:Int))=(l1++(i:Int)::l2).map (hof hs):=by rw[H.im.kid (mg_at hq1 hq2)];show (f q).kids.map _=_;rw[hL]
   rw[hpm,hpg,hk1,hk2,Tr.idxOf_split n1,atM_next,List.map_append,List.map_cons,Tr.nxt_split n2,fs_map H.im.zero]
 ·rw[if_neg e,if_neg];intro e2;rcases hc with rfl | hc
  ·exact H.im.nz _ li (by rw[←e2];exact H.im.zero)
  ·exact e (H.im.inj _ _ hc li e2)
end
section
open Go.RowKit
variable [Kep]
theorem atM_or (l:List Int) (i:Int):atM l i = -1∨atM l i∈l:=by
 unfold atM
 split
 ·exact .inl rfl
 ·cases e:l[i.toNat]? with
  | none=>exact .inl rfl
  | some y=>exact .inr (List.mem_of_getElem? e)
theorem cut1A_dom (a:Tr.G) (i x:Int):(cut1A a i x).isSome=(a x).isSome:=by
 unfold cut1A
 split
 ·rfl
 ·unfold Tr.cutA
  split
  ·rename_i e;subst e;cases a x<;>rfl
  ·split
   ·cases a x<;>rfl
   ·rfl
variable {w:World} {base bM T B M:Nat} {b s:Int} {vs vf vsM vh:Value} {n live m:Nat} {fr:List Nat} {av:Int→Tr.Sl} {f:Nat→RS} {hs:List Int} {g:Tr.G} {K:Nat}
theorem TW.insLv (H:TW w base bM T B M b s vs vf vsM vh n live m fr av f hs g K) {i:Nat} (hi:i<m) (hg:(f i).gone=false) {c:Int} (hc:c = -1∨(mg m f c).isSome):Tr.Lv (cut1A (mg m f) (i:Int)) (insCA (mg m f) i c):=by
 unfold Tr.Lv;rw[cut1A_dom];unfold insCA
 split
 ·rcases atM_or (Tr.kidsOf (mg m f) (Tr.paOf (mg m f) (i:Int))) (((Tr.kidsOf (mg m f) (Tr.paOf (mg m f) (i:Int))).idxOf (i:Int):Nat)+1) with e | e
  ·exact .inl e
  ·refine .inr ?_;cases e2:mg m f (Tr.paOf (mg m f) (i:Int)) with
   | none=>rw[show Tr.kidsOf (mg m f) (Tr.paOf (mg m f) (i:Int))=[] by unfold Tr.kidsOf;rw[e2]] at e;exact absurd e (by unfold atM;split<;>simp)
   | some q=>exact H.im.kids _ q e2 _ (by rw[←Tr.kidsOf_some e2];exact e)
 ·exact hc
theorem TW.insIn (H:TW w base bM T B M b s vs vf vsM vh n live m fr av f hs g K) {i p:Nat} (hi:i<m) (hg:(f i).gone=false) (hpm:p<m) (hpg:(f p).gone=false) (hu:hof hs (i:Int)∉Tr.upG g (hof hs (p:Int))) {c:Int}
  (hc:c = -1∨∃ j:Nat,c=(j:Int)∧j<m∧(f j).gone=false∧(f j).pa=(p:Int)):
  Tr.Lv (cut1A (mg m f) (i:Int)) (insCA (mg m f) i c)∧hof hs (insCA (mg m f) i c)=Tr.insC g (hof hs (i:Int)) (hof hs c)∧
   (insCA (mg m f) i c = -1∨insCA (mg m f) i c∈Tr.kidsOf (cut1A (mg m f) (i:Int)) (p:Int))∧
   ∃ q1,Tr.cut1 g (hof hs (i:Int)) (hof hs (p:Int))=some q1∧(hof hs (insCA (mg m f) i c)=0∨hof hs (insCA (mg m f) i c)∈q1.kids):=by
 have eg:=H.live_h hi hg;have ep:=H.live_h hpm hpg;have im1:=H.im_cut1 hi hg;have hcl:c = -1∨(mg m f c).isSome:=by
  rcases hc with e | ⟨j,rfl,h1,h2,-⟩
  ·exact .inl e
  ·exact .inr (by rw[mg_at h1 h2];rfl)
 have hL:=H.insLv hi hg hcl;have hE:=H.insC hi hg hcl (fun e=>by
  rcases hc with e1 | ⟨j,e1,h1,h2,h3⟩
  ·omega
  ·obtain rfl:j=i:=by omega
   omega)
 obtain⟨q1,e1,e2⟩:=Tr.insC_mem (c:=hof hs c) H.wf eg ep hu (by
  rcases hc with rfl | ⟨j,rfl,h1,h2,h3⟩
  ·exact .inl H.im.zero
  ·have ej:=H.live_h h1 h2;refine .inr ⟨?_,by rw[ej];rfl⟩
   rw[Tr.paOf_some ej];show hof hs (f j).pa=_;rw[h3])
 rw[←hE] at e2;refine⟨hL,hE,?_,q1,e1,e2⟩;have hpl:(cut1A (mg m f) (i:Int) (p:Int)).isSome:=by rw[cut1A_dom,mg_at hpm hpg];rfl
 obtain⟨np,ep1⟩:=Option.isSome_iff_exists.1 hpl;have e3:=im1.node _ _ ep1;rw[e1] at e3;obtain rfl:=Option.some.inj e3;rcases hL with h1 | h1
 ·exact .inl h1
 ·rcases e2 with e2 | e2
  ·exact absurd e2 (im1.nz _ h1)
  ·exact .inr (by rw[Tr.kidsOf_some ep1];exact (im1.mem (im1.kids _ _ ep1) h1).1 e2)
theorem cut1A_self {a:Tr.G} {i:Int} {n:Tr.GN} (e:cut1A a i i=some n):n.pa = -1:=by
 unfold cut1A at e
 split at e
 ·rename_i h1;rw[←Tr.paOf_some e];exact h1
 ·unfold Tr.cutA at e;rw[if_pos rfl] at e;cases e2:a i with
  | none=>rw[e2] at e;cases e
  | some y=>rw[e2] at e;obtain rfl:=Option.some.inj e;rfl
theorem TW.inserted {w3 w4:World} {f2:Nat→RS} (H:TW w base bM T B M b s vs vf vsM vh n live m fr av f hs g K) {i p:Nat} (hi:i<m) (hg:(f i).gone=false) (hpm:p<m) (hpg:(f p).gone=false) (hpi:p≠i) (i0:i≠0)
  (hu:hof hs (i:Int)∉Tr.upG g (hof hs (p:Int))) (hlim:(Tr.upG g (hof hs (p:Int))).length+Tr.hgtG g (hof hs (i:Int))≤128) {c:Int}
  (hc:c = -1∨∃ j:Nat,c=(j:Int)∧j<m∧(f j).gone=false∧(f j).pa=(p:Int))
  (tv':TV base w3 B b s vs n (Tr.raw (Tr.linkG (Tr.cut1 g (hof hs (i:Int))) (hof hs (p:Int)) (hof hs (i:Int)) (Tr.insC g (hof hs (i:Int)) (hof hs c))) av) vf fr live (hof hs 0)) (st:AStep w w3 (Foot B vs vf) (Foot B vs vf))
  (mv':MV bM w4 M vsM m f2) (stM:AStep w3 w4 (MFoot M vsM m f) (MFoot M vsM m f2)) (hm2:mg m f2=Tr.linkA (cut1A (mg m f) (i:Int)) p i (insCA (mg m f) i c)) (hk2:∀ j,Keep4 (f2 j) (f j)):
  TW w4 base bM T B M b s vs vf vsM vh n live m fr av f2 hs (Tr.linkG (Tr.cut1 g (hof hs (i:Int))) (hof hs (p:Int)) (hof hs (i:Int)) (Tr.insC g (hof hs (i:Int)) (hof hs c))) (K+1)∧
   (recsA m f i++[insRec (Tr.kidsOf (cut1A (mg m f) (i:Int)) (p:Int)) p i (insCA (mg m f) i c)]).map (mapR (hof hs))=
    Tr.recs1 g (hof hs (i:Int))++[Tr.placeG (Tr.linkG (Tr.cut1 g (hof hs (i:Int))) (hof hs (p:Int)) (hof hs (i:Int)) (Tr.insC g (hof hs (i:Int)) (hof hs c))) 1 (hof hs (i:Int))]:=by
 obtain⟨hL,hE,hin,q1,e1,e2⟩:=H.insIn hi hg hpm hpg hu hc;rw[←hE] at tv' ⊢;have HT:=H.linked hi hg hpm hpg hpi i0 hu hlim hL e1 e2 tv' st mv' stM hm2 hk2;refine⟨HT,?_⟩;have im1:=H.im_cut1 hi hg;have hw1:=im1.pull (H.wf.cut1 (H.live_h hi hg));have hi1:(cut1A (mg m f) (i:Int) (i:Int)).isSome:=by rw[cut1A_dom,mg_at hi hg];rfl
 have hp1:(cut1A (mg m f) (i:Int) (p:Int)).isSome:=by rw[cut1A_dom,mg_at hpm hpg];rfl
 obtain⟨ni,ei1⟩:=Option.isSome_iff_exists.1 hi1;obtain⟨np,ep1⟩:=Option.isSome_iff_exists.1 hp1;have g2i:(f2 i).gone=false:=by rw[(hk2 i).1];exact hg
 have g2p:(f2 p).gone=false:=by rw[(hk2 p).1];exact hpg
 have a1:mg m f2 (i:Int)=some (rsG (f2 i)):=mg_at hi g2i;have a2:mg m f2 (p:Int)=some (rsG (f2 p)):=mg_at hpm g2p;rw[hm2] at a1 a2;unfold Tr.linkA at a1 a2;rw[if_pos rfl,ei1] at a1;have hpi':(p:Int)≠(i:Int):=fun e=>hpi (by clear hc;omega);rw[if_neg hpi',if_pos rfl,ep1] at a2;have b1:(f2 i).pa=(p:Int):=congrArg Tr.GN.pa (Option.some.inj a1).symm;have b2:(f2 p).kids=Tr.insB np.kids (insCA (mg m f) i c) (i:Int):=congrArg Tr.GN.kids (Option.some.inj a2).symm;have hk:=Tr.kidsOf_some ep1;rw[hk] at hin ⊢;have hx:(i:Int)∉np.kids:=fun hm=>by
  obtain⟨y,e3,e4⟩:=hw1.down _ _ _ ep1 hm;have e5:=cut1A_self e3;rw[e4] at e5;exact absurd e5 (by clear hc;omega)
 have hl:(-1:Int)∉np.kids:=fun hm=>by
  have:=im1.kids _ _ ep1 _ hm;rw[im1.neg] at this;cases this
 rw[List.map_append,←H.recs1 hi hg,HT.placed hi g2i b1 b2 hx hl hin];rfl
end
section
open Go.RowKit
variable [Kep]
def insOk (m:Nat) (f:Nat→RS) (ib ia:Nat) (c:Int):Prop:=childM m f ib ia=true∧(c = -1∨∃ j:Nat,c=(j:Int)∧j<m∧(f j).gone=false∧(f j).pa=(ib:Int))∧(Tr.upG (mg m f) (ib:Int)).length+Tr.hgtG (mg m f) (ia:Int)≤128
def SpecIns (m:Nat) (f:Nat→RS) (ib ia:Nat) (c:Int) (f':Nat→RS) (lm:List Tr.Rec):Prop:=
 (insOk m f ib ia c∧mg m f'=Tr.linkA (cut1A (mg m f) (ia:Int)) ib ia (insCA (mg m f) ia c)∧lm=recsA m f ia++[insRec (Tr.kidsOf (cut1A (mg m f) (ia:Int)) (ib:Int)) ib ia (insCA (mg m f) ia c)])∨(¬ insOk m f ib ia c∧f'=f∧lm=[])
def InsM (base bM T B M:Nat) (b s:Int) (vs vf vsM vh:Value) (n live m:Nat) (fr:List Nat) (av:Int→Tr.Sl) (f:Nat→RS) (hs:List Int) (K:Nat) (ib ia:Nat) (c:Int) (w0:Nat) (E:Int) (v:Value) (lm:List Tr.Rec) (V3:World) (e:Ending) (w4:World):Prop:=
 ∃ (r:Value) (f2:Nat→RS) (g2:Tr.G),e=.returned (.tuple #[r,.int .i64 E])∧RRow V3.heap.size w4 r lm∧RecRow w0 w4 v (lm.map (mapR (hof hs)))∧AStep V3 w4 (MFoot M vsM m f) (MFoot M vsM m f2)∧
  SpecIns m f ib ia c f2 lm∧TW w4 base bM T B M b s vs vf vsM vh n live m fr av f2 hs g2 (K+1)
def InsP (base bM T B M:Nat) (b s:Int) (vs vf vsM vh:Value) (n live m:Nat) (fr:List Nat) (av:Int→Tr.Sl) (f:Nat→RS) (hs:List Int) (K:Nat) (ib ia:Nat) (c:Int) (w:World) (e:Ending) (w3:World):Prop:=
 ∃ (v:Value) (E:Int) (lm:List Tr.Rec),e=.returned (.tuple #[v,.int .i64 E])∧(E=0∨E=5∨E=10)∧lm.length≤2∧(∃ A n c,v=.slice A n c)∧TwV w3 T B M vh hs∧MV bM w3 M vsM m f∧AStep w w3 (Foot B vs vf) (Foot B vs vf)∧
  ∀ V3,Below w3.heap.size w3 V3→Calls Tryz.prog 43 #[.pointer (some ⟨M,0,none⟩),.int .i64 (ib:Int),.int .i64 (ia:Int),.int .i64 c] V3 (InsM base bM T B M b s vs vf vsM vh n live m fr av f hs K ib ia c w.heap.size E v lm V3)
variable {w:World} {base bM T B M:Nat} {b s:Int} {vs vf vsM vh:Value} {n live m:Nat} {fr:List Nat} {av:Int→Tr.Sl} {f:Nat→RS} {hs:List Int} {g:Tr.G} {K:Nat}
theorem TW.insE (H:TW w base bM T B M b s vs vf vsM vh n live m fr av f hs g K) {ib ia:Nat} {c E:Int} {w3:World} (hb3:Below w.heap.size w w3) (hno:¬ insOk m f ib ia c) (hE:E=0∨E=5∨E=10)
  (hR:∀ V3,MV bM V3 M vsM m f→Calls Tryz.prog 43 #[.pointer (some ⟨M,0,none⟩),.int .i64 (ib:Int),.int .i64 (ia:Int),.int .i64 c] V3 fun e w'=>e=.returned (errV E)∧w'=V3):
  InsP base bM T B M b s vs vf vsM vh n live m fr av f hs K ib ia c w (.returned (errV E)) w3:=by
 have H3:=H.below hb3;refine⟨_,E,[],rfl,hE,by simp,⟨_,_,_,rfl⟩,H3.tw,H3.mv,.of_below hb3,fun V3 hb=>?_⟩;have H5:=H3.below hb;refine (hR V3 H5.mv).mono ?_;rintro e w4 ⟨rfl,e4⟩;rw[e4];exact⟨_,f,g,rfl,World.ownsRow_nil _ _ _ _,World.ownsRow_nil _ _ _ _,.of_below (Below.refl _ _),.inr ⟨hno,rfl,rfl⟩,H5.up⟩
theorem insert_both (H:TW w base bM T B M b s vs vf vsM vh n live m fr av f hs g K) (hm:m≤100000) {ia ib:Nat} (hia:ia<m) (hga:(f ia).gone=false) (hib:ib<m) (hgb:(f ib).gone=false) {c:Int} (hc:c = -1∨∃ j:Nat,c=(j:Int)∧j<m∧(f j).gone=false):
  Calls Tryz.prog 20 #[.pointer (some ⟨B,0,none⟩),.int .i64 (hof hs (ib:Int)),.int .i64 (hof hs (ia:Int)),.int .i64 (hof hs c)] w (InsP base bM T B M b s vs vf vsM vh n live m fr av f hs K ib ia c w):=by
 have ea:=H.live_h hia hga;have eb:=H.live_h hib hgb;have la:(mg m f (ia:Int)).isSome:=by rw[mg_at hia hga];rfl
 have lb:(mg m f (ib:Int)).isSome:=by rw[mg_at hib hgb];rfl
 have hcs:hof hs c≠0→(g (hof hs c)).isSome:=by
  rcases hc with rfl | ⟨j,rfl,h1,h2⟩
  ·exact fun h=>absurd H.im.zero h
  ·intro _;rw[H.live_h h1 h2];rfl
 have hpa:∀ j:Nat,j<m→(f j).gone=false→(Tr.paOf g (hof hs (j:Int))=hof hs (ib:Int)↔(f j).pa=(ib:Int)):=fun j hj hgj=>by
  have e1:Tr.paOf g (hof hs (j:Int))=hof hs (f j).pa:=Tr.paOf_some (H.live_h hj hgj);rw[e1];refine⟨fun e=>H.im.injL (H.im.pa _ _ (mg_at hj hgj)) (.inr lb) e,fun e=>by rw[e]⟩
 have IN:InsIn base B b s (hof hs 0) (hof hs (ib:Int)) (hof hs (ia:Int)) (hof hs c) live n g av fr vs vf _ _ w:=⟨H.tv,H.so,H.wf,eb,ea,hcs⟩
 have hAcc:=H.im.accepts H.wf H.km H.m0 H.g0 hib hgb hia hga;have hupl:(Tr.upG g (hof hs (ib:Int))).length=(Tr.upG (mg m f) (ib:Int)).length:=by rw[H.im.up H.wf (.inr lb),List.length_map]
 have hhgt:Tr.hgtG g (hof hs (ia:Int))=Tr.hgtG (mg m f) (ia:Int):=H.im.hgt H.wf _ la;have hpull:=H.im.pull H.wf;by_cases hT:childM m f ib ia=false∨∃ j:Nat,c=(j:Int)∧j<m∧(f j).pa≠(ib:Int)
 ·refine (insert_tree base B b s (hof hs 0) _ _ _ live n g av fr vs vf _ _ w IN ?_).mono ?_
  ·rcases hT with h1 | ⟨j,rfl,hj,h2⟩
   ·rw[hAcc,Bool.and_eq_false_iff] at h1;rcases h1 with h1 | h1
    ·exact .inl h1
    ·refine .inr (.inl ?_);simpa using h1
   ·have hgj:(f j).gone=false:=by
     rcases hc with h3 | ⟨j',h3,h4,h5⟩
     ·omega
     ·obtain rfl:j'=j:=by omega
      exact h5
    exact .inr (.inr ⟨H.im.nz _ (by rw[mg_at hj hgj];rfl),fun e=>h2 ((hpa j hj hgj).1 e)⟩)
  ·rintro e w3 ⟨rfl,hb3⟩;refine H.insE hb3 (fun hok=>?_) (.inr (.inr rfl)) fun V3 hv=>rinsert_tree bM M m vsM f ib ia c V3 hv hpull hib hgb hia H.g0 hm hT;rcases hT with h1 | ⟨j,h1,h2,h3⟩
   ·rw[hok.1] at h1;cases h1
   ·rcases hok.2.1 with h4 | ⟨j',h4,h5,h6,h7⟩
    ·omega
    ·obtain rfl:j'=j:=by omega
     exact h3 h7
 ·have hch:childM m f ib ia=true:=by
   cases h:childM m f ib ia with
   | true=>rfl
   | false=>exact absurd (.inl h) hT
  have hcp:c = -1∨∃ j:Nat,c=(j:Int)∧j<m∧(f j).gone=false∧(f j).pa=(ib:Int):=by
   rcases hc with h1 | ⟨j,h1,h2,h3⟩
   ·exact .inl h1
   ·refine .inr ⟨j,h1,h2,h3,?_⟩;by_cases e:(f j).pa=(ib:Int)
    ·exact e
    ·exact absurd (.inr ⟨j,h1,h2,e⟩) hT
  have hcp':c = -1∨∃ j:Nat,c=(j:Int)∧j<m∧(f j).pa=(ib:Int):=by
   rcases hcp with h1 | ⟨j,h1,h2,-,h4⟩
   ·exact .inl h1
   ·exact .inr ⟨j,h1,h2,h4⟩
  have hacu:Tr.acceptsG g (hof hs (ib:Int)) (hof hs (ia:Int))=true∧hof hs (ia:Int)∉Tr.upG g (hof hs (ib:Int)):=by
   have h1:=hch;rw[hAcc,Bool.and_eq_true] at h1;exact⟨h1.1,by simpa using h1.2⟩
  have hpc:hof hs c≠0→Tr.paOf g (hof hs c)=hof hs (ib:Int):=by
   rcases hcp with rfl | ⟨j,rfl,h2,h3,h4⟩
   ·exact fun h=>absurd H.im.zero h
   ·exact fun _=>(hpa j h2 h3).2 h4
  by_cases hl:128<(Tr.upG (mg m f) (ib:Int)).length+Tr.hgtG (mg m f) (ia:Int)
  ·refine (insert_limit base B b s (hof hs 0) _ _ _ live n g av fr vs vf _ _ w IN hacu.1 hacu.2 hpc (by rw[hupl,hhgt];exact hl)).mono ?_;rintro e w3 ⟨rfl,hb3⟩;exact H.insE hb3 (fun hok=>by have:=hok.2.2;omega) (.inr (.inl rfl)) fun V3 hv=>rinsert_limit bM M m vsM f ib ia c V3 hv hpull hib hgb hia hga H.g0 hm hch hcp' hl
  ·have hl':(Tr.upG (mg m f) (ib:Int)).length+Tr.hgtG (mg m f) (ia:Int)≤128:=by clear hc hcp hcp' hT;omega
   have i0:ia≠0:=fun e=>by
    subst e;unfold childM at hch;rw[if_pos (.inl rfl)] at hch;cases hch
   have hpi:ib≠ia:=fun e=>by
    have:=hacu.2;rw[H.wf.upG_some eb,e] at this;exact this (by simp)
   obtain⟨-,-,hcin,-⟩:=H.insIn hia hga hib hgb hacu.2 hcp;have hw1:=(H.im_cut1 hia hga).pull (H.wf.cut1 ea);refine (insert_ok base B b s (hof hs 0) _ _ _ live n g av fr vs vf _ _ w IN hacu.1 hacu.2 hpc (by rw[hupl,hhgt];exact hl')).mono ?_;rintro e w3 ⟨v,rfl,hr3,tv3,st3⟩;obtain⟨a1,a2,-,-,-⟩:=H.after st3;obtain⟨A3,c3,hv3⟩:=own_slice (own_zero hr3);refine⟨v,0,recsA m f ia++[insRec (Tr.kidsOf (cut1A (mg m f) (ia:Int)) (ib:Int)) ib ia (insCA (mg m f) ia c)],rfl,.inl rfl,?_,⟨_,_,_,hv3⟩,a1,a2,st3,fun V3 hb=>?_⟩
   ·unfold recsA;split<;>simp
   ·refine (rinsert_ok bM M m vsM f ib ia c V3 (a2.below hb) hpull hib hgb hia hga H.g0 hm hch hcp' hl' hpi hw1 hcin).mono ?_;rintro e w4 ⟨r,rfl,hr4,f2,mv4,st4,hm2,hk2⟩;obtain⟨HT,hrec⟩:=H.inserted hia hga hib hgb hpi i0 hacu.2 (by rw[hupl,hhgt];exact hl') hcp (tv3.below hb) (st3.trans (.of_below hb)) mv4 st4 hm2 hk2;rw[←hrec] at hr3;have hr5:RecRow w.heap.size V3 v _:=own_turns (S:=fun _=>False) hr3 (.of_below hb) (fun _ _=>id);exact⟨r,f2,_,rfl,hr4,own_turns hr5 st4.1 (fun k hk hm=>by have h1:=(hr5.lt k hk).1;have h2:=(H.mv.lt k hm).2;clear hc hcp hcp' hT;omega),st4,.inl ⟨⟨hch,hcp,hl'⟩,hm2,rfl⟩,HT⟩
end
section
open Go.RowKit
variable [Kep]
theorem MV.nf {bM M m:Nat} {w:World} {vs:Value} {f:Nat→RS} {k:Nat} {cs:Array Value} {t:TypeId} (hM:MV bM w M vs m f) (hX:Whole w k cs t) (h1:t≠70) (h2:67≠t) (h3:3≠t) (h4:92≠t):¬ MFoot M vs m f k:=by
 rintro (rfl | hx | ⟨i,hi,hx | hx⟩)
 ·exact hX.unlike hM.var h1 rfl
 ·exact own_unlike hM.row hX h2 hx
 ·exact (hM.ar i hi).unlike hX h4 hx
 ·exact (hM.kr i hi).unlike hX h3 hx
theorem TwV.pushed {w w1 w5:World} {T B M:Nat} {vh v5:Value} {hs:List Int} {h:Int} (H:TwV w T B M vh hs) (h1:Below w.heap.size w w1) (g:w1.grownBy w5 vh.ownBlock) (o:TR w5 0 3 1 v5 (hs.length+1) (ints (hs++[h]))) (f:Fresh w1 vh v5):
  Whole w5 T #[.pointer (some ⟨B,0,none⟩),.pointer (some ⟨M,0,none⟩),vh] 33∧TwV (w5.setCell ⟨T,2,none⟩ v5) T B M v5 (hs++[h])∧Turns (fun k=>k=T∨vh.ownBlock=some k) w (w5.setCell ⟨T,2,none⟩ v5)∧∀ k,v5.ownBlock=some k→vh.ownBlock=some k∨w.heap.size≤k:=by
 have k1:=(H.below h1).var;have k2:=(H.below h1).row;have hW:Whole w5 T #[.pointer (some ⟨B,0,none⟩),.pointer (some ⟨M,0,none⟩),vh] 33:=k1.grown g (fun e=>k2.unlike k1 (by decide) e.symm);have gp:w5.grownBy (w5.setCell ⟨T,2,none⟩ v5) (some T):=gb_put (gb_of_below (Below.refl w5.heap.size w5) _) 2 v5;refine⟨hW,⟨hW.put 2 v5,?_⟩,?_,?_⟩
 ·have:=o.kept gp (.inr (o.unlike hW (by decide)));rw[List.length_append];exact this
 ·have a1:Turns (fun k=>k=T∨vh.ownBlock=some k) w w1:=.of_below h1;have a2:Turns (fun k=>k=T∨vh.ownBlock=some k) w1 w5:=.of_grown g (fun k hk=>.inr hk);have a3:Turns (fun k=>k=T∨vh.ownBlock=some k) w5 (w5.setCell ⟨T,2,none⟩ v5):=.of_grown gp (fun k hk=>.inl (by simpa using hk.symm));exact (a1.trans a2 (fun _ _ x=>x) (fun _ _ x=>x)).trans a3 (fun _ _ x=>x) (fun _ _ x=>x)
 ·intro k hk;rcases f with f | f
  ·exact .inl (f▸hk)
  ·exact .inr (Nat.le_trans h1.size (f k hk))
def MakM (base bM T B M:Nat) (b s:Int) (vs vf vsM vh:Value) (n live m:Nat) (fr:List Nat) (av:Int→Tr.Sl) (f:Nat→RS) (hs:List Int) (g:Tr.G) (K:Nat) (h E:Int) (V3:World) (e:Ending) (w4:World):Prop:=
 e=.returned (.int .i64 E)∧Turns (MFoot M vsM m f) V3 w4∧((E=1∧h=0∧TW w4 base bM T B M b s vs vf vsM vh n live m fr av f hs g (K+1))∨
  (E=0∧h≠0∧TwV w4 T B M vh hs∧∀ (w5:World) (vh':Value),TwV w5 T B M vh' (hs++[h])→Turns (fun k=>k=T∨vh.ownBlock=some k) w4 w5→(∀ k,vh'.ownBlock=some k→vh.ownBlock=some k∨w4.heap.size≤k)→
   ∃ (vs' vf' vsM':Value) (n' live':Nat) (fr':List Nat) (av':Int→Tr.Sl) (f':Nat→RS) (g':Tr.G),TW w5 base bM T B M b s vs' vf' vsM' vh' n' live' (m+1) fr' av' f' (hs++[h]) g' (K+1)))
def MakP (base bM T B M:Nat) (b s:Int) (vs vf vsM vh:Value) (n live m:Nat) (fr:List Nat) (av:Int→Tr.Sl) (f:Nat→RS) (hs:List Int) (g:Tr.G) (K:Nat) (kd:Int) (nm dt:ByteArray) (vP:Value) (w:World) (e:Ending) (w3:World):Prop:=
 ∃ (h E:Int),e=.returned (.tuple #[.int .i64 h,.int .i64 E])∧((E=1∧h=0)∨(E=0∧h≠0))∧Turns (Foot B vs vf) w w3∧TwV w3 T B M vh hs∧
  ∀ V3,Below w3.heap.size w3 V3→Calls Tryz.prog 41 #[.pointer (some ⟨M,0,none⟩),.int .i64 kd,.string nm,.string dt,vP] V3 (MakM base bM T B M b s vs vf vsM vh n live m fr av f hs g K h E V3)
variable {w:World} {base bM T B M:Nat} {b s:Int} {vs vf vsM vh:Value} {n live m:Nat} {fr:List Nat} {av:Int→Tr.Sl} {f:Nat→RS} {hs:List Int} {g:Tr.G} {K:Nat}
theorem TW.makeOk (H:TW w base bM T B M b s vs vf vsM vh n live m fr av f hs g K) {kd:Int} {nm dt:ByteArray} {vP:Value} {w3:World} {h:Int} {vs' vf':Value} {n':Nat} {fr':List Nat} {sl:Tr.Sl} {x:RS}
  (hml:m<700) (hx:x.gone=false∧x.pa = -1∧x.kids=[]∧(x.kind=2∨x.kind=3∨x.kind=4)) (hxb:x.at'.length≤K+1+2∧x.data.size≤120*(K+1)∧Txt.rep x.data.data.toList=x.data.data.toList) (hn':n'≤n+1) (hg0:g h=none) (hh0:h≠0)
  (tv3:TV base w3 B b s vs' n' (Tr.raw (Tr.addG g h { rsG x with pa:=0 }) (Tr.addA av h sl)) vf' fr' (live+1) (hof hs 0)) (so3:Sound b s n' (Tr.raw (Tr.addG g h { rsG x with pa:=0 }) (Tr.addA av h sl)) fr' (live+1)) (wf3:Tr.WF 0 (Tr.addG g h { rsG x with pa:=0 })) (ar3:AR w3 0 sl.v x.at') (st3:AStep w w3 (Foot B vs vf) (Foot B vs' vf'))
  (hR:∀ V3,MV bM V3 M vsM m f→bM≤V3.heap.size→Below w3.heap.size w3 V3→Calls Tryz.prog 41 #[.pointer (some ⟨M,0,none⟩),.int .i64 kd,.string nm,.string dt,vP] V3 fun e w'=>∃ (vs':Value) (sl':Tr.Sl),e=.returned (.int .i64 0)∧MV bM w' M vs' (m+1) (pushM m f { x with a:=sl' })∧AStep V3 w' (MFoot M vsM m f) (MFoot M vs' (m+1) (pushM m f { x with a:=sl' }))):
  MakP base bM T B M b s vs vf vsM vh n live m fr av f hs g K kd nm dt vP w (.returned (.tuple #[.int .i64 h,.int .i64 0])) w3:=by
 obtain⟨a1,a2,-,-,-⟩:=H.after st3;refine⟨h,0,rfl,.inr ⟨rfl,hh0⟩,st3.1,a1,fun V3 hb=>?_⟩;have hmv:=a2.below hb;refine (hR V3 hmv (by have:=hmv.low;have:=hmv.var.lt;omega) hb).mono ?_;rintro e w4 ⟨vsM',sl',rfl,mv4,st4⟩;refine⟨rfl,st4.1,.inr ⟨rfl,hh0,?_,fun w5 vh' h5 t5 hv5=>⟨vs',vf',vsM',n',live+1,fr',_,_,_,H.made (x:={ x with a:=sl' }) hml hx hxb hg0 hh0 hn' (tv3.below hb) so3 wf3 (ar3.below hb) (st3.trans (.of_below hb)) mv4 st4 h5 t5 hv5⟩⟩⟩;have H3:=a1.below hb;have hvl:∀ k,vh.ownBlock=some k→¬ MFoot M vsM m f k:=fun k hk=>(H.apH k hk).2;exact⟨H3.var.turns st4.1 H.apT.2,H3.row.turns st4.1 hvl⟩
theorem make_both (H:TW w base bM T B M b s vs vf vsM vh n live m fr av f hs g K) (hm:m≤300) (hT:Lit w) (kd:Int) (hkd:kd=2∨kd=3∨kd=4) (nm dt:ByteArray) (hnm:nm.size≤40) (hdt:dt.size≤40) (l:List (ByteArray×ByteArray)) (hl:l.length≤2) (hvs:∀ p∈l,p.1.size≤40∧p.2.size≤40)
  (A0:Option Addr) (c0:Nat) (hA:AR w 0 (.slice A0 l.length c0) l) (aA:Option Addr) (cA:Nat) (hP:TR w 0 92 2 (.slice aA l.length cA) l.length (atC l)):
  Calls Tryz.prog 39 #[.pointer (some ⟨B,0,none⟩),.int .i64 kd,.string nm,.string dt,.slice A0 l.length c0] w (MakP base bM T B M b s vs vf vsM vh n live m fr av f hs g K kd nm dt (.slice aA l.length cA) w):=by
 have hbase:base≤w.heap.size:=by have:=H.tv.low;have:=H.tv.var.lt;omega
 have hn:=H.nm;have hlv:live<20000:=by have:=H.so.count;omega
 have hn1:n<100000:=by omega
 have hPF:∀ k,Value.ownBlock (.slice aA l.length cA)=some k→¬ Foot B vs vf k:=by
  rintro k hk (rfl | hx | hx)
  ·exact hP.unlike H.tv.var (by decide) hk
  ·exact own_tr_ne hP H.tv.row (by decide) k hx hk
  ·exact own_tr_ne hP H.tv.free (by decide) k hx hk
 have hrp:(repB dt).size≤120*(K+1)∧Txt.rep (repB dt).data.toList=(repB dt).data.toList:=by
  have h1:=Txt.rep_len dt.data.toList;have h2:(repB dt).size=(Txt.rep dt.data.toList).length:=tstr_size _;have h3:dt.data.toList.length=dt.size:=rfl;refine⟨by omega,?_⟩;unfold repB;rw[tstr_data];exact Txt.rep_rep _
 have hvs1:∀ p∈l,p.1.size≤20000∧p.2.size≤6000:=fun p hp=>⟨by have:=(hvs p hp).1;omega,by have:=(hvs p hp).2;omega⟩
 have hvs2:∀ p∈l,p.1.size≤10000∧p.2.size≤6000:=fun p hp=>⟨by have:=(hvs p hp).1;omega,by have:=(hvs p hp).2;omega⟩
 rcases hkd with rfl | rfl | rfl
 ·cases hok:Nm.attrs l && Nm.elem nm with
  | false=>
   refine (pmake_bad base B b s (hof hs 0) live n g av fr vs vf nm dt _ l w H.tv H.so H.wf hbase hn1 hlv hA (by omega) hvs1 (by omega) hok hT).mono ?_;rintro e w3 ⟨rfl,hb3⟩;have H3:=H.below hb3;refine⟨0,1,rfl,.inl ⟨rfl,rfl⟩,.of_below hb3,H3.tw,fun V3 hb=>?_⟩;have H5:=H3.below hb;have hP5:=(hP.below hb3).below hb;cases he:Nm.elem nm with
   | false=>
    refine (rmake_name M _ nm dt V3 (by omega) he).mono ?_;rintro e w4 ⟨rfl,hb4⟩;exact⟨rfl,.of_below hb4,.inl ⟨rfl,rfl,(H5.below hb4).up⟩⟩
   | true=>
    refine (rmake_attrs bM M m vsM aA cA l f nm dt V3 H5.mv hP5 he (by have:=H5.mv.low;have:=H5.mv.var.lt;omega) (by omega) (by omega) (by omega) hvs2).mono ?_;rintro e w4 (⟨-,rfl,hb4⟩ | ⟨h1,-⟩)
    ·exact⟨rfl,.of_below hb4,.inl ⟨rfl,rfl,(H5.below hb4).up⟩⟩
    ·rw[h1,he] at hok;cases hok
  | true=>
   refine (pmake_elem base B b s (hof hs 0) live n g av fr vs vf nm dt _ l w H.tv H.so H.wf hbase hn1 hlv hA (by omega) hvs1 (by omega) hok hT).mono ?_;rintro e w3 ⟨h,vs',vf',n',fr',sl,rfl,hn',hg0,hh0,tv3,so3,wf3,ar3,st3⟩;have ha:Nm.attrs l=true∧Nm.elem nm=true:=by rw[Bool.and_eq_true] at hok;exact hok
   refine H.makeOk (x:=⟨2,nm,⟨none,0,0⟩,l.map repP,⟨#[]⟩,-1,⟨none,0,0⟩,[],false⟩) (by omega) ⟨rfl,rfl,rfl,.inl rfl⟩ ⟨by rw[List.length_map];omega,by show 0≤_;omega,Txt.rep_nil⟩ hn' hg0 hh0 tv3 so3 wf3 ar3 st3 fun V3 hv hb hbl=>?_;have hP5:=(hP.turns st3.1 hPF).below hbl;refine (rmake_attrs bM M m vsM aA cA l f nm dt V3 hv hP5 ha.2 hb (by omega) (by omega) (by omega) hvs2).mono ?_;rintro e w4 (⟨h1,-⟩ | ⟨-,vs4,sl4,rfl,mv4,st4⟩)
   ·rw[ha.1] at h1;cases h1
   ·exact⟨vs4,sl4,rfl,mv4,st4⟩
 ·refine (pmake_text base B b s (hof hs 0) live n g av fr vs vf nm dt _ _ _ w H.tv H.so H.wf hbase hn1 hlv (by omega) hT).mono ?_;rintro e w3 ⟨h,vs',vf',n',fr',sl,rfl,hn',hg0,hh0,tv3,so3,wf3,ar3,st3⟩;refine H.makeOk (x:=⟨3,⟨#[]⟩,⟨none,0,0⟩,[],repB dt,-1,⟨none,0,0⟩,[],false⟩) (by omega) ⟨rfl,rfl,rfl,.inr (.inl rfl)⟩ ⟨by show 0≤_;omega,hrp.1,hrp.2⟩ hn' hg0 hh0 tv3 so3 wf3 ar3 st3 fun V3 hv hb _=>?_;refine (rmake_text bM M m vsM _ f 3 nm dt V3 hv (by decide) hb (by omega) (by omega)).mono ?_;rintro e w4 ⟨vs4,rfl,mv4,st4⟩;exact⟨vs4,⟨none,0,0⟩,rfl,mv4,st4⟩
 ·refine (pmake_comment base B b s (hof hs 0) live n g av fr vs vf nm dt _ _ _ w H.tv H.so H.wf hbase hn1 hlv (by omega) hT).mono ?_;rintro e w3 ⟨h,vs',vf',n',fr',sl,rfl,hn',hg0,hh0,tv3,so3,wf3,ar3,st3⟩;refine H.makeOk (x:=⟨4,⟨#[]⟩,⟨none,0,0⟩,[],repB dt,-1,⟨none,0,0⟩,[],false⟩) (by omega) ⟨rfl,rfl,rfl,.inr (.inr rfl)⟩ ⟨by show 0≤_;omega,hrp.1,hrp.2⟩ hn' hg0 hh0 tv3 so3 wf3 ar3 st3 fun V3 hv hb _=>?_;refine (rmake_text bM M m vsM _ f 4 nm dt V3 hv (by decide) hb (by omega) (by omega)).mono ?_;rintro e w4 ⟨vs4,rfl,mv4,st4⟩;exact⟨vs4,⟨none,0,0⟩,rfl,mv4,st4⟩
end
section
open Go.RowKit
theorem pcopy_bad (base B:Nat) (b s root h k:Int) (deep:Bool) (live n:Nat) (R:Int→Option Tr.Nd) (fr:List Nat) (vs vf:Value) (d:Tr.Nd) (w:World) (hm:TV base w B b s vs n R vf fr live root) (hS:Sound b s n R fr live) (hh:I64 h) (hd:(R h).getD Tr.zNd=d) (hk:d.kind=0∧k=6∨d.kind=1∧k=10):
  Calls Tryz.prog 35 #[.pointer (some ⟨B,0,none⟩),.int .i64 h,.bool deep] w fun e w'=>e=.returned (.tuple #[.int .i64 0,.int .i64 k])∧Below w.heap.size w w':=by
 have HA:=at_any base B b s root h live n R fr vs vf w hm hS hh;rw[hd] at HA;clear hm hS hd
 go_enter Tryz.func35,Tryz.ntmps35
 go_wp2_with fail;refine HA.mono ?_;rintro e w1 ⟨gb,o,rfl,hnp,hb1⟩;obtain⟨t0,_⟩:=hnp.cells;clear HA hnp;rcases hk with ⟨hk,rfl⟩ | ⟨hk,rfl⟩
 ·rw[hk] at t0;clear hk;go_wp2_with fail;go_ret2;exact⟨rfl,hb1⟩
 ·rw[hk] at t0;clear hk;go_wp2_with fail;go_ret2;exact⟨rfl,hb1⟩
theorem pcopy_flat (base B:Nat) (b s root h:Int) (live n:Nat) (g:Tr.G) (av:Int→Tr.Sl) (fr:List Nat) (vs vf:Value) (nd:Tr.GN) (w:World) (hm:TV base w B b s vs n (Tr.raw g av) vf fr live root) (hS:Sound b s n (Tr.raw g av) fr live) (ha:AT w g av) (hw:Tr.WF 0 g) (eg:g h=some nd) (h0:nd.kind≠0) (h1:nd.kind≠1) (hl:nd.attrs.length≤1000) (hn:n<100000) (hlim:live+1≤20000):
  Calls Tryz.prog 35 #[.pointer (some ⟨B,0,none⟩),.int .i64 h,.bool false] w fun e w'=>∃ d X tb,e=.returned (.tuple #[.int .i64 d,.int .i64 0])∧DupA base B X tb b s root n g av vs vf nd w d w':=by
 have hh:=(tmem_i64 hS (h:=h) (by rw[raw_isSome,eg];rfl)).1;have HA:=at_any base B b s root h live n _ fr vs vf w hm hS hh;rw[Tr.raw_some eg] at HA;have q0:(nd.kind == 0)=false:=by simpa using h0
 have q1:(nd.kind == 1)=false:=by simpa using h1
 have HM:=zh (fun (W:World) (hb:Below w.heap.size w W)=>hm.below hb);have HD:=zh (fun (W:World) (hb:Below w.heap.size w W)=>pdup_flat base B b s root h live n g av fr vs vf nd W (hm.below hb) hS (ha.below hb) hw eg hl hn);have HNL:=zh (fun (W:World) (hb:Below w.heap.size w W)=>nlen_any base B b s root live n (Tr.raw g av) fr vs vf W (hm.below hb));have q2:¬ (20000:Int)<(live:Int)+1:=by omega
 have hlv:live≤20000:=by omega
 clear hm hS h0 h1 hw ha hl hn hlim
 go_enter Tryz.func35,Tryz.ntmps35
 go_wp2_with fail;refine HA.mono ?_;rintro e w1 ⟨gb,o,rfl,hnp,hb1⟩;obtain⟨t0,_⟩:=hnp.cells;have t0':w1.cell? ⟨gb,o,none⟩=some (.int .i64 nd.kind):=t0;have HB1:=zh hb1;clear HA hnp t0 hb1;go_wp2_with fail;refine (HNL.out w1 HB1.out).mono ?_;rintro e w2 ⟨rfl,rfl⟩;go_wp2_with fail;refine (HD.out _ HB1.out).mono ?_;rintro e w3 ⟨d,X,tb,rfl,hD⟩;have HDD:=zh hD;clear hD;go_wp2_with fail;go_ret2;obtain⟨vs1,vf1,n1,live1,fr1,sl1,z1,z2,z3,z4,z5,z6,z7,z8,z9,y1,y2⟩:=HDD.out;exact⟨d,X,tb,rfl,vs1,vf1,n1,live1,fr1,sl1,z1,z2,z3,z4,z5,z6,(AStep.of_below HB1.out).trans z7,z8,z9,y1,Nat.le_trans HB1.out.size y2⟩
theorem pcopy_deep (base B:Nat) (b s root h:Int) (f live n:Nat) (g:Tr.G) (av:Int→Tr.Sl) (fr:List Nat) (vs vf:Value) (nd:Tr.GN) (w:World) (hm:TV base w B b s vs n (Tr.raw g av) vf fr live root) (hS:Sound b s n (Tr.raw g av) fr live) (ha:AT w g av) (hw:Tr.WF 0 g) (eg:g h=some nd) (h0:nd.kind≠0) (h1:nd.kind≠1)
  (hat:∀ y∈Tr.walkG g h,∀ m,g y=some m→m.attrs.length≤1000) (hf:f+(Tr.upG g h).length=129) (hcap:n+(Tr.walkG g h).length*(Tr.walkG g h).length≤99999) (hlim:live+(Tr.walkG g h).length≤20000):
  Calls Tryz.prog 35 #[.pointer (some ⟨B,0,none⟩),.int .i64 h,.bool true] w fun e w'=>∃ d,e=.returned (.tuple #[.int .i64 d,.int .i64 0])∧DupD base B b s root n g vs vf h f w (.returned (.int .i64 d)) w':=by
 have hh:=(tmem_i64 hS (h:=h) (by rw[raw_isSome,eg];rfl)).1;have HA:=at_any base B b s root h live n _ fr vs vf w hm hS hh;rw[Tr.raw_some eg] at HA;have q0:(nd.kind == 0)=false:=by simpa using h0
 have q1:(nd.kind == 1)=false:=by simpa using h1
 have HM:=zh (fun (W:World) (hb:Below w.heap.size w W)=>hm.below hb);have HD:=zh (fun (W:World) (hb:Below w.heap.size w W)=>pdup_deep base B b s root f live n g av fr vs vf h W (hm.below hb) hS (ha.below hb) hw (by rw[eg];rfl) hat hf hcap);have HNL:=zh (fun (W:World) (hb:Below w.heap.size w W)=>nlen_any base B b s root live n (Tr.raw g av) fr vs vf W (hm.below hb));have HSZ:=zh (fun (W:World) (hb:Below w.heap.size w W)=>psize_any base B b s root h live n g av fr vs vf W (hm.below hb) hS hw hh (by omega));obtain⟨Z,hZ⟩:∃ Z,(Tr.walkG g h).length=Z:=⟨_,rfl⟩
 rw[hZ] at HSZ hlim;have q2:¬ (20000:Int)<(live:Int)+(Z:Int):=by omega
 have hlv:live≤20000∧Z≤20000:=by omega
 clear hm hS h0 h1 hw ha hlim hcap hf hat hZ
 go_enter Tryz.func35,Tryz.ntmps35
 go_wp2_with fail;refine HA.mono ?_;rintro e w1 ⟨gb,o,rfl,hnp,hb1⟩;obtain⟨t0,_⟩:=hnp.cells;have t0':w1.cell? ⟨gb,o,none⟩=some (.int .i64 nd.kind):=t0;have HB1:=zh hb1;clear HA hnp t0 hb1;go_wp2_with fail;refine (HSZ.out w1 HB1.out).mono ?_;rintro e w2 ⟨rfl,hb2⟩;have HB2:=zh (HB1.out.trans (hb2.mono HB1.out.size));clear hb2;obtain⟨hl1,hl2⟩:=hlv;go_wp2_with fail;refine (HNL.out w2 HB2.out).mono ?_;rintro e w3 ⟨rfl,rfl⟩;go_wp2_with fail;refine (HD.out _ HB2.out).mono ?_;rintro e w4 ⟨d,ds,vs1,vf1,n1,live1,fr1,av1,g1,rfl,z1,z2,z3,z4,z5,z6,z7⟩;have HDD:=zh (And.intro z1 (And.intro z2 (And.intro z3 (And.intro z4 (And.intro z5 (And.intro ((AStep.of_below HB2.out).trans z6) z7))))));clear z1 z2 z3 z4 z5 z6 z7;go_wp2_with fail;go_ret2;obtain⟨z1,z2,z3,z4,z5,z6,z7⟩:=HDD.out;exact⟨d,rfl,d,ds,vs1,vf1,n1,live1,fr1,av1,g1,rfl,z1,z2,z3,z4,z5,z6,z7⟩
end
end Go.Proofs.YtaigmpkcdjbpiaaGreatDoor
