/- Trees. -/
import Derived.BigQuiet
import Derived.Deep.RegionHeld3
import Derived.Test.YtaigmpkcdjbpiaaGreatDoorGNDoc
import Derived.Test.YtaigmpkcdjbpiaaGreatDoorGNRrp
set_option linter.unusedVariables false
set_option linter.unusedSimpArgs false
set_option linter.unusedSectionVars false
set_option maxHeartbeats 8000000
set_option maxRecDepth 100000
namespace Go.Proofs.YtaigmpkcdjbpiaaGreatDoor
section
open Go.RowKit
variable [Kep]
theorem data_map {hs:List Int} {i:Nat} {ix:Int} {old:ByteArray} {c sz:Int}:[dataRecM i ix old c sz].map (mapR (hof hs))=[dataRec (hof hs (i:Int)) ix old c sz]:=by simp[mapR,dataRecM,dataRec,hof_m1]
theorem repD_list (d:ByteArray) (i c:Nat) (s:ByteArray):(repD d i c s).data.toList=((chk d).take i++chk s++(chk d).drop (i+c)).flatten:=by
 unfold repD;rw[tstr_data,List.flatten_append,List.flatten_append];rfl
theorem repD_rep (d:ByteArray) (i c:Nat) (s:ByteArray):Txt.rep (repD d i c s).data.toList=(repD d i c s).data.toList:=by
 have hg:∀ x∈(chk d).take i++chk s++(chk d).drop (i+c),Txt.Good x:=fun x hx=>by
  rcases List.mem_append.1 hx with h | h
  ·rcases List.mem_append.1 h with h | h
   ·exact Txt.chunks_all_good _ x (List.mem_of_mem_take h)
   ·exact Txt.chunks_all_good _ x h
  ·exact Txt.chunks_all_good _ x (List.mem_of_mem_drop h)
 rw[repD_list];have:=Txt.chunks_flat hg [];rw[List.append_nil,Txt.chunks_nil,List.append_nil] at this;unfold Txt.rep;rw[this]
theorem repD_size {d:ByteArray} {i c:Nat} {s:ByteArray} (hd:Txt.rep d.data.toList=d.data.toList):(repD d i c s).size≤d.size+(repB s).size:=by
 have h1:(repD d i c s).size=(repD d i c s).data.toList.length:=rfl;have h2:(repB s).size=(chk s).flatten.length:=rfl;have h3:d.size=(chk d).flatten.length:=by have:=chk_rep hd;rw[←this];rfl
 have h4:(chk d).flatten.length=((chk d).take i).flatten.length+((chk d).drop i).flatten.length:=by rw[←List.length_append,←List.flatten_append,List.take_append_drop]
 have h5:((chk d).drop i).flatten.length=(((chk d).drop i).take c).flatten.length+(((chk d).drop i).drop c).flatten.length:=by rw[←List.length_append,←List.flatten_append,List.take_append_drop]
 rw[List.drop_drop] at h5;rw[h1,repD_list,List.flatten_append,List.flatten_append,List.length_append,List.length_append,h2,h3];omega
theorem do_replace (base bM T B M:Nat) (b s:Int) (vs vf vsM vh:Value) (n live m:Nat) (fr:List Nat) (av:Int→Tr.Sl) (f:Nat→RS) (hs:List Int) (g:Tr.G) (K:Nat) (o:Op8) (w:World) (H:TW w base bM T B M b s vs vf vsM vh n live m fr av f hs g K) (ho:OpOK o) (hkd:o.kind.tmod 10=7) (hm:m≤300) (hK:K≤60) (hT:Lit w):
  Calls Tryz.prog 13 #[.pointer (some ⟨T,0,none⟩),.agg #[.int .u8 o.kind,.int .u8 o.a,.int .u8 o.b,.int .u8 o.c,.string o.s,.string o.t,.int .i8 o.n,.int .i8 o.k]] w fun e w'=>∃ (lv:Value) (lp:List Tr.Rec) (vs' vf' vsM' vh':Value) (n' live' m':Nat) (fr':List Nat) (av':Int→Tr.Sl) (f':Nat→RS) (hs':List Int) (g':Tr.G),e=.returned (.tuple #[lv,.bool true])∧TW w' base bM T B M b s vs' vf' vsM' vh' n' live' m' fr' av' f' hs' g' (K+1):=by
 obtain⟨ia,hia,hial⟩:=tmod_nat ho.a.1 H.m0;obtain⟨ib,hib,hibl⟩:=tmod_nat ho.b.1 H.m0;obtain⟨ic,hic,hicl⟩:=tmod_nat (m:=m+1) ho.c.1 (by omega);rw[Int.natCast_add] at hic;obtain⟨Ah,ch,rfl⟩:=H.tw.row.form;have hlen:=H.len;have hm0:=H.m0;have mz:((m:Int) == 0)=false:=by simp;omega
 have mz1:((m:Int)+1 == 0)=false:=by simp;omega
 have mz2:¬ (m:Int)=0:=by omega
 have mz3:¬ (m:Int)+1=0:=by omega
 obtain⟨w1,hw1⟩:∃ w1,w.alloc (.cells #[.int .u8 o.kind,.int .u8 o.a,.int .u8 o.b,.int .u8 o.c,.string o.s,.string o.t,.int .i8 o.n,.int .i8 o.k] 39)=w1:=⟨_,rfl⟩
 have hb1:Below w.heap.size w w1:=bzA hw1;have HX1:Hid (Whole w1 w.heap.size #[.int .u8 o.kind,.int .u8 o.a,.int .u8 o.b,.int .u8 o.c,.string o.s,.string o.t,.int .i8 o.n,.int .i8 o.k] 39):=zh (by rw[←hw1];exact Whole.new w _ _);have HB1:=zh hb1;have H1:=zh (H.below hb1);have HOK:=zh ho;have HLIT:=zh (hT.below hb1);have HLEN:=zh hlen;obtain⟨gh,oh,rfl,-,-,hcs,-⟩:=H.tw.row.cells (by omega);have HCH:=zh (fun (W:World) (hb:Below w.heap.size w W) (j:Nat) (hj:j<m)=>(show W.cell? ⟨gh,oh+j,none⟩=some (.int .i64 (hof hs (j:Int))) from (H.tw.row.below hb).cellAt j _ (by omega) (ints_get (H.at_hs hj))));have HTC:=zh (fun (W:World) (hb:Below w.heap.size w W)=>(show zL3 T B M gh oh m ch W from by have h:=H.tw.below hb;rw[hlen] at h;exact⟨h.var.cell 0,h.var.cell 1,h.var.cell 2⟩));have HMV:=zh (fun (W:World) (hb:Below w.heap.size w W)=>H.mv.below hb);obtain⟨t0,t1,t2⟩:=HTC.out w1 hb1;have x0:w1.cell? ⟨w.heap.size,0,none⟩=some (.int .u8 o.kind):=HX1.out.cell 0;have x1:w1.cell? ⟨w.heap.size,1,none⟩=some (.int .u8 o.a):=HX1.out.cell 1;have x2:w1.cell? ⟨w.heap.size,2,none⟩=some (.int .u8 o.b):=HX1.out.cell 2;have x3:w1.cell? ⟨w.heap.size,3,none⟩=some (.int .u8 o.c):=HX1.out.cell 3;have x4:w1.cell? ⟨w.heap.size,4,none⟩=some (.string o.s):=HX1.out.cell 4;have x5:w1.cell? ⟨w.heap.size,5,none⟩=some (.string o.t):=HX1.out.cell 5;have x6:w1.cell? ⟨w.heap.size,6,none⟩=some (.int .i8 o.n):=HX1.out.cell 6;have x7:w1.cell? ⟨w.heap.size,7,none⟩=some (.int .i8 o.k):=HX1.out.cell 7;obtain⟨ka0,ka1⟩:=ho.a;obtain⟨kb0,kb1⟩:=ho.b;obtain⟨kc0,kc1⟩:=ho.c;obtain⟨kk0,kk1⟩:=ho.kind;have HHAS:=zh (fun (W:World) (hb:Below w.heap.size w W) (j:Nat) (hj:j<m)=>rhas_any bM M m vsM f j W (H.mv.below hb) hj (by omega));clear H ho hb1 hT hcs
 go_enter Tryz.func13,Tryz.ntmps13
 go_wp2_with fail;(try rw[hw1]);try go_wp2_with fail
 go_quiet (fail)
 obtain⟨V,hV⟩:∃ V,w1.drewN nq=V:=⟨_,rfl⟩
 have hbV:Below w1.heap.size w1 V:=bzN hV;have HBV:=zh (HB1.out.trans (hbV.mono HB1.out.size));have HXV:=zh (HX1.out.below hbV HX1.out.lt);have HV:=zh (H1.out.below hbV);have HLV:=zh (HLIT.out.below hbV);obtain⟨t0',t1',t2'⟩:=HTC.out V HBV.out;have z0:V.cell? ⟨w.heap.size,0,none⟩=some (.int .u8 o.kind):=HXV.out.cell 0;have z4:V.cell? ⟨w.heap.size,4,none⟩=some (.string o.s):=HXV.out.cell 4;have z5:V.cell? ⟨w.heap.size,5,none⟩=some (.string o.t):=HXV.out.cell 5;have z6:V.cell? ⟨w.heap.size,6,none⟩=some (.int .i8 o.n):=HXV.out.cell 6;have z7:V.cell? ⟨w.heap.size,7,none⟩=some (.int .i8 o.k):=HXV.out.cell 7;clear t0 t1 t2 x0 x1 x2 x3 x4 x5 x6 x7 hbV;(try rw[hV]);go_wp2_with fail;refine (HHAS.out V HBV.out ia hial).mono ?_;rintro e w2 ⟨rfl,hw2⟩;rw[hw2];clear HHAS hw2;go_wp2_with fail;obtain⟨h,hh⟩:∃ h,hof hs (ia:Int)=h:=⟨_,rfl⟩
 obtain⟨V2,hV2⟩:∃ x,V.drew=x:=⟨_,rfl⟩
 have hbV2:Below V.heap.size V V2:=bzD hV2;have HBV2:=zh (HBV.out.trans (hbV2.mono HBV.out.size));have HW2:=zh (HV.out.below hbV2);have HX2:=zh (HXV.out.below hbV2 HXV.out.lt);have HL2:=zh (HLV.out.below hbV2);have HSS:=zh (show zL8 T B M gh oh m ch w.heap.size ia h o V2 from tws_all HW2.out.tw HX2.out HLEN.out (by rw[←hh];exact HV.out.at_hs hial));have ja0:(0:Int)≤(ia:Int):=by omega
 have ja1:(ia:Int)<(m:Int):=by omega
 obtain⟨zt,zn,zk⟩:=And.intro HOK.out.t (And.intro HOK.out.n HOK.out.k);obtain⟨zn0,zn1⟩:=zn;obtain⟨zk0,zk1⟩:=zk;have wrn:IntKind.i64.wrap o.n=o.n:=by rw[IntKind.wrap_i64];omega
 have wrk:IntKind.i64.wrap o.k=o.k:=by rw[IntKind.wrap_i64];omega
 cases hg:(f ia).gone with
 | true=>
  obtain⟨e1,e2⟩:=HW2.out.gone_h hial hg;have HC:=zh (preplace_bad base B b s (hof hs 0) h o.n o.k 6 live n (Tr.raw g av) fr vs vf Tr.zNd o.t V2 HW2.out.tv HW2.out.so (by rw[←hh];exact HW2.out.i64 hial) (by rw[←hh,e1,Tr.raw_none e2];rfl) (by decide) rfl (by decide));clear e1 e2;refine wp_region_noPanic ?_;refine wp_region_held_drew (S:=zL8 T B M gh oh m ch w.heap.size ia h o) (by kernel_rfl) ?_ (fun hHeld=>?_)
  ·exact (by rw[hV2];exact HSS.out)
  rw[hV2] at hHeld ⊢;refine agE [0,1,2,3,4,5,6,7,8,9,10,11,12,13,14,15,16,17,18] ?_;iterate 19 (refine tkM ?_;try simp only[pS])
  refine agN ?_;refine rd1 19 fun K hK=>?_;go_simp;refine HC.out.mono ?_;rintro e w3 ⟨rfl,hb3⟩;have HW4:=zh (HW2.out.below hb3).up;have HX3:=zh (HX2.out.below hb3 HX2.out.lt);have HS3:=zh (show zL8 T B M gh oh m ch w.heap.size ia h o w3 from tws_all HW4.out.tw HX3.out HLEN.out (by rw[←hh];exact HV.out.at_hs hial));clear hb3;refine hK.out _ _ (HS3.out) fun hHeld=>?_;clear hK K;(try simp only[pS]);refine agE [20,21,22,23,24] ?_;iterate 5 (refine tkM ?_;try simp only[pS])
  refine agN ?_;refine dnH ?_;go_wp2_with fail;go_ret2;exact⟨_,[],_,_,_,_,_,_,_,_,_,_,_,_,rfl,HW4.out⟩
 | false=>
  have eg:g h=some (Tr.mapG (hof hs) (rsG (f ia))):=by rw[←hh];exact HW2.out.live_h hial hg
  have hh64:I64 h:=by rw[←hh];exact HW2.out.i64 hial
  have hrd:(Tr.raw g av h).getD Tr.zNd=Tr.raw1 g av h (Tr.mapG (hof hs) (rsG (f ia))):=by rw[Tr.raw_some eg];rfl
  have HBD:=zh (HW2.out.bd ia hial);have hb2:=HBD.out.2.1;have hb3':=HBD.out.1;have hrp:(repB o.t).size≤120:=by
   have h1:=Txt.rep_len o.t.data.toList;have h2:(repB o.t).size=(Txt.rep o.t.data.toList).length:=tstr_size _;have h3:o.t.data.toList.length=o.t.size:=rfl;omega
  have hkk:(f ia).kind≠0:=HW2.out.kinds h _ eg;by_cases hk3:(f ia).kind<3
  ·have hkr:1≤(f ia).kind:=by
    by_cases h0:ia=0
    ·rw[h0,HW2.out.km.1];decide
    ·rcases HW2.out.km.2 ia hial h0 with e | e | e<;>omega
   have HC:=zh (preplace_bad base B b s (hof hs 0) h o.n o.k 10 live n (Tr.raw g av) fr vs vf _ o.t V2 HW2.out.tv HW2.out.so hh64 hrd (by show (f ia).data.size≤10000;omega) (by show dataE (f ia).kind _ _ _=10;unfold dataE;rw[if_neg hkk,if_pos (by omega)]) (by decide));have HK:=zh hk3;clear eg hk3 hkr hrd hkk;refine wp_region_noPanic ?_;refine wp_region_held_drew (S:=zL8 T B M gh oh m ch w.heap.size ia h o) (by kernel_rfl) ?_ (fun hHeld=>?_)
   ·exact (by rw[hV2];exact HSS.out)
   rw[hV2] at hHeld ⊢;refine agE [0,1,2,3,4,5,6,7,8,9,10,11,12,13,14,15,16,17,18] ?_;iterate 19 (refine tkM ?_;try simp only[pS])
   refine agN ?_;refine rd1 19 fun K hK=>?_;go_simp;refine HC.out.mono ?_;rintro e w3 ⟨rfl,hb3⟩;have HW4:=zh (HW2.out.below hb3).up;have HX3:=zh (HX2.out.below hb3 HX2.out.lt);have HS3:=zh (show zL8 T B M gh oh m ch w.heap.size ia h o w3 from tws_all HW4.out.tw HX3.out HLEN.out (by rw[←hh];exact HV.out.at_hs hial));clear hb3;refine hK.out _ _ (HS3.out) fun hHeld=>?_;clear hK K;(try simp only[pS]);refine agE [20,21,22,23,24] ?_;iterate 5 (refine tkM ?_;try simp only[pS])
   refine agN ?_;refine dnH ?_;go_wp2_with fail;obtain⟨V3,hV3⟩:∃ x,w3.drew=x:=⟨_,rfl⟩
   have hbV3:Below w3.heap.size w3 V3:=bzD hV3;have HW5:=zh (HW4.out.below hbV3);have HX5:=zh (HX3.out.below hbV3 HX3.out.lt);have HS5:=zh (show zL8 T B M gh oh m ch w.heap.size ia h o V3 from tws_all HW5.out.tw HX5.out HLEN.out (by rw[←hh];exact HV.out.at_hs hial));have HR:=zh (rreplace_not bM M m vsM f ia o.n o.k o.t V3 HW5.out.mv hial HK.out);have HMT:=zh (match_any T B M 0 0 _ (.slice none 0 0) (.slice none 0 0) hs [] V3 HW5.out.tw (World.ownsRow_nil _ _ _ _) (World.ownsRow_nil _ _ _ _) (by simp));refine wp_region_noPanic ?_;refine wp_region_held_drew (S:=zL8 T B M gh oh m ch w.heap.size ia h o) (by kernel_rfl) ?_ (fun hHeld=>?_)
   ·exact (by rw[hV3];exact HS5.out)
   rw[hV3] at hHeld ⊢;refine agE [0,1,2,3,4,5,6,7,8,9,10,11,12] ?_;iterate 13 (refine tkM ?_;try simp only[pS])
   refine agN ?_;refine rd1 13 fun K hK=>?_;go_simp;refine HR.out.mono ?_;rintro e w4 ⟨rfl,hw4⟩;rw[hw4];clear hw4;refine hK.out _ _ (HS5.out) fun hHeld=>?_;clear hK K;(try simp only[pS]);refine agE [14,15,16,17,18] ?_;iterate 5 (refine tkM ?_;try simp only[pS])
   refine agN ?_;refine dnH ?_;go_wp2_with fail;refine HMT.out.mono ?_;rintro e w5 ⟨rfl,hb5⟩;have HFIN:=zh (HW5.out.below hb5);clear hb5;go_wp2_with fail;go_ret2;exact⟨_,[],_,_,_,_,_,_,_,_,_,_,_,_,rfl,HFIN.out⟩
  ·have hk34:(f ia).kind=3∨(f ia).kind=4:=by
    by_cases h0:ia=0
    ·have:=HW2.out.km.1;rw[h0] at hk3;omega
    ·rcases HW2.out.km.2 ia hial h0 with e | e | e<;>omega
   by_cases hr:o.n<0∨((chk (f ia).data).length:Int)<o.n∨o.k<0
   ·have HC:=zh (preplace_bad base B b s (hof hs 0) h o.n o.k 2 live n (Tr.raw g av) fr vs vf _ o.t V2 HW2.out.tv HW2.out.so hh64 hrd (by show (f ia).data.size≤10000;omega) (by show dataE (f ia).kind (chk (f ia).data).length _ _=2;unfold dataE;rw[if_neg hkk,if_neg (by omega),if_pos hr]) (by decide));have HK:=zh (show 3≤(f ia).kind by omega);have HR0:=zh hr;clear eg hk3 hrd hkk hk34 hr;refine wp_region_noPanic ?_;refine wp_region_held_drew (S:=zL8 T B M gh oh m ch w.heap.size ia h o) (by kernel_rfl) ?_ (fun hHeld=>?_)
    ·exact (by rw[hV2];exact HSS.out)
    rw[hV2] at hHeld ⊢;refine agE [0,1,2,3,4,5,6,7,8,9,10,11,12,13,14,15,16,17,18] ?_;iterate 19 (refine tkM ?_;try simp only[pS])
    refine agN ?_;refine rd1 19 fun K hK=>?_;go_simp;refine HC.out.mono ?_;rintro e w3 ⟨rfl,hb3⟩;have HW4:=zh (HW2.out.below hb3).up;have HX3:=zh (HX2.out.below hb3 HX2.out.lt);have HS3:=zh (show zL8 T B M gh oh m ch w.heap.size ia h o w3 from tws_all HW4.out.tw HX3.out HLEN.out (by rw[←hh];exact HV.out.at_hs hial));clear hb3;refine hK.out _ _ (HS3.out) fun hHeld=>?_;clear hK K;(try simp only[pS]);refine agE [20,21,22,23,24] ?_;iterate 5 (refine tkM ?_;try simp only[pS])
    refine agN ?_;refine dnH ?_;go_wp2_with fail;obtain⟨V3,hV3⟩:∃ x,w3.drew=x:=⟨_,rfl⟩
    have hbV3:Below w3.heap.size w3 V3:=bzD hV3;have HW5:=zh (HW4.out.below hbV3);have HX5:=zh (HX3.out.below hbV3 HX3.out.lt);have HS5:=zh (show zL8 T B M gh oh m ch w.heap.size ia h o V3 from tws_all HW5.out.tw HX5.out HLEN.out (by rw[←hh];exact HV.out.at_hs hial));have HR:=zh (rreplace_range bM M m vsM f ia o.n o.k o.t V3 HW5.out.mv hial HK.out HBD.out.2.2 (by omega) HR0.out)
    skip
    refine wp_region_noPanic ?_;refine wp_region_held_drew (S:=zL8 T B M gh oh m ch w.heap.size ia h o) (by kernel_rfl) ?_ (fun hHeld=>?_)
    ·exact (by rw[hV3];exact HS5.out)
    rw[hV3] at hHeld ⊢;refine agE [0,1,2,3,4,5,6,7,8,9,10,11,12] ?_;iterate 13 (refine tkM ?_;try simp only[pS])
    refine agN ?_;refine rd1 13 fun K hK=>?_;go_simp;refine HR.out.mono ?_;rintro e w4 ⟨rfl,hb4⟩;have HW6:=zh (HW5.out.below hb4);have HX6:=zh (HX5.out.below hb4 HX5.out.lt);have HS6:=zh (show zL8 T B M gh oh m ch w.heap.size ia h o w4 from tws_all HW6.out.tw HX6.out HLEN.out (by rw[←hh];exact HV.out.at_hs hial));have HMT:=zh (match_any T B M 0 0 _ (.slice none 0 0) (.slice none 0 0) hs [] w4 HW6.out.tw (World.ownsRow_nil _ _ _ _) (World.ownsRow_nil _ _ _ _) (by simp));clear hb4;refine hK.out _ _ (HS6.out) fun hHeld=>?_;clear hK K;(try simp only[pS]);refine agE [14,15,16,17,18] ?_;iterate 5 (refine tkM ?_;try simp only[pS])
    refine agN ?_;refine dnH ?_;go_wp2_with fail;refine HMT.out.mono ?_;rintro e w5 ⟨rfl,hb5⟩;have HFIN:=zh (HW6.out.below hb5);clear hb5;go_wp2_with fail;go_ret2;exact⟨_,[],_,_,_,_,_,_,_,_,_,_,_,_,rfl,HFIN.out⟩
   ·obtain⟨I,hI⟩:=Int.eq_ofNat_of_zero_le (show 0≤o.n by omega);obtain⟨C,hC⟩:=Int.eq_ofNat_of_zero_le (show 0≤o.k by omega);have hIl:I≤(chk (f ia).data).length:=by omega
    have hCl:C≤128:=by omega
    have HIC:=zh (And.intro hI hC);have EG:=zh eg;clear eg hk3 hrd hkk hr hI hC;rcases hk34 with hk | hk
    ·have HK:=zh (show (Tr.mapG (hof hs) (rsG (f ia))).kind=3 from hk);clear hk;have HC:=zh (preplace_ok3 base B b s (hof hs 0) h I C live n g av fr vs vf _ o.t V2 HW2.out.tv HW2.out.so HW2.out.at' EG.out HK.out HBD.out.2.2 (by show (f ia).data.size≤8000;omega) (by show I≤(chk (f ia).data).length;omega) (by omega) (by omega) (by omega) HL2.out);rw[put_const EG.out (U2:=fun n=>{ n with data:=repD (f ia).data I C o.t }) rfl,←HIC.out.1,←HIC.out.2] at HC;refine wp_region_noPanic ?_;refine wp_region_held_drew (S:=zL8 T B M gh oh m ch w.heap.size ia h o) (by kernel_rfl) ?_ (fun hHeld=>?_)
     ·exact (by rw[hV2];exact HSS.out)
     rw[hV2] at hHeld ⊢;refine agE [0,1,2,3,4,5,6,7,8,9,10,11,12,13,14,15,16,17,18] ?_;iterate 19 (refine tkM ?_;try simp only[pS])
     refine agN ?_;refine rd1 19 fun K hK=>?_;go_simp;refine HC.out.mono ?_;rintro e w3 ⟨v3,rfl,hr3,hv3,hs3,hat3,st3⟩;obtain⟨a1,a2,-,-,-⟩:=HW2.out.after st3;have HX3:=zh (HX2.out.turns st3.1 (HW2.out.tv.not_foot HX2.out (by decide) (by decide) (by decide)));have HS3:=zh (show zL8 T B M gh oh m ch w.heap.size ia h o w3 from tws_all a1 HX3.out HLEN.out (by rw[←hh];exact HV.out.at_hs hial));have HT3:=zh (And.intro a1 a2);have HV3:=zh (And.intro hv3 (And.intro hs3 (And.intro hat3 st3)));have HR3:=zh hr3;obtain⟨A3,c3,rfl⟩:=own_slice (own_zero hr3);clear a1 a2 hv3 hs3 hat3 st3 hr3;refine hK.out _ _ (HS3.out) fun hHeld=>?_;clear hK K;(try simp only[pS]);refine agE [20,21,22,23,24] ?_;iterate 5 (refine tkM ?_;try simp only[pS])
     refine agN ?_;refine dnH ?_;go_wp2_with fail;obtain⟨V3,hV3⟩:∃ x,w3.drew=x:=⟨_,rfl⟩
     have hbV3:Below w3.heap.size w3 V3:=bzD hV3;have HX5:=zh (HX3.out.below hbV3 HX3.out.lt);have HM5:=zh (HT3.out.2.below hbV3);have HT5:=zh (HT3.out.1.below hbV3);have HR5:=zh (show RecRow V2.heap.size V3 _ _ from own_turns (S:=fun _=>False) HR3.out (.of_below hbV3) (fun _ _=>id));have HV5:=zh (And.intro (HV3.out.1.below hbV3) (And.intro HV3.out.2.1 (And.intro (HV3.out.2.2.1.below hbV3) (HV3.out.2.2.2.trans (.of_below hbV3)))));have HS5:=zh (show zL8 T B M gh oh m ch w.heap.size ia h o V3 from tws_all HT5.out HX5.out HLEN.out (by rw[←hh];exact HV.out.at_hs hial));have HR:=zh (rreplace_ok bM M m vsM f ia I C o.t V3 HM5.out hial (by have:=HK.out;show 3≤(f ia).kind;have h3:(f ia).kind=3:=this;omega) HBD.out.2.2 (by omega) (by omega) (by omega) (by omega) (by omega));rw[←HIC.out.1,←HIC.out.2] at HR;refine wp_region_noPanic ?_;refine wp_region_held_drew (S:=zL8 T B M gh oh m ch w.heap.size ia h o) (by kernel_rfl) ?_ (fun hHeld=>?_)
     ·exact (by rw[hV3];exact HS5.out)
     rw[hV3] at hHeld ⊢;refine agE [0,1,2,3,4,5,6,7,8,9,10,11,12] ?_;iterate 13 (refine tkM ?_;try simp only[pS])
     refine agN ?_;refine rd1 13 fun K hK=>?_;go_simp;refine HR.out.mono ?_;rintro e w4 ⟨v4,rfl,hr4,hm4,st4⟩;have HW4:=zh (HW2.out.put (av':=av) (u:=fun n=>{ n with data:=repD (f ia).data I C o.t }) (U:=fun n=>{ n with data:=repD (f ia).data I C o.t }) hial hg (fun _=>⟨rfl,rfl⟩) (fun _=>rfl) (fun _=>⟨rfl,rfl⟩) (fun _=>rfl) (by rw[hh];exact HV5.out.1) (by rw[hh];exact HV5.out.2.1) (by rw[hh];exact HV5.out.2.2.1) HV5.out.2.2.2 hm4 st4 (by have h2:=repD_size (i:=I) (c:=C) (s:=o.t) HBD.out.2.2;exact⟨by show (f ia).at'.length≤_;omega,by show (repD (f ia).data I C o.t).size≤_;omega,repD_rep _ _ _ _⟩));have HX4:=zh (HX5.out.turns st4.1 (HM5.out.not_foot HX5.out (by decide) (by decide) (by decide) (by decide)));have HS4:=zh (show zL8 T B M gh oh m ch w.heap.size ia h o w4 from tws_all HW4.out.tw HX4.out HLEN.out (by rw[←hh];exact HV.out.at_hs hial));have HMT:=zh (match_any T B M V2.heap.size V3.heap.size _ _ v4 hs [dataRecM ia o.n (f ia).data ((min C ((chk (f ia).data).length - I):Nat):Int) ((chk (repB o.t)).length:Nat)] w4 HW4.out.tw (by rw[data_map,hh];exact own_turns HR5.out st4.1 (fun k hk hm=>by have h1:=(HR5.out.lt k hk).1;have h2:=(HW2.out.mv.lt k hm).2;omega)) hr4 (by simp));obtain⟨A4,c4,rfl⟩:=own_slice (own_zero hr4);clear hr4 hm4 st4;refine hK.out _ _ (HS4.out) fun hHeld=>?_;clear hK K;(try simp only[pS]);refine agE [14,15,16,17,18] ?_;iterate 5 (refine tkM ?_;try simp only[pS])
     refine agN ?_;refine dnH ?_;go_wp2_with fail;refine HMT.out.mono ?_;rintro e w5 ⟨rfl,hb5⟩;have HFIN:=zh (HW4.out.below hb5);clear hb5;go_wp2_with fail;go_ret2;exact⟨_,[],_,_,_,_,_,_,_,_,_,_,_,_,rfl,HFIN.out⟩
    ·have HK:=zh (show (Tr.mapG (hof hs) (rsG (f ia))).kind=4 from hk);clear hk;have HC:=zh (preplace_ok4 base B b s (hof hs 0) h I C live n g av fr vs vf _ o.t V2 HW2.out.tv HW2.out.so HW2.out.at' EG.out HK.out HBD.out.2.2 (by show (f ia).data.size≤8000;omega) (by show I≤(chk (f ia).data).length;omega) (by omega) (by omega) (by omega) HL2.out);rw[put_const EG.out (U2:=fun n=>{ n with data:=repD (f ia).data I C o.t }) rfl,←HIC.out.1,←HIC.out.2] at HC;refine wp_region_noPanic ?_;refine wp_region_held_drew (S:=zL8 T B M gh oh m ch w.heap.size ia h o) (by kernel_rfl) ?_ (fun hHeld=>?_)
     ·exact (by rw[hV2];exact HSS.out)
     rw[hV2] at hHeld ⊢;refine agE [0,1,2,3,4,5,6,7,8,9,10,11,12,13,14,15,16,17,18] ?_;iterate 19 (refine tkM ?_;try simp only[pS])
     refine agN ?_;refine rd1 19 fun K hK=>?_;go_simp;refine HC.out.mono ?_;rintro e w3 ⟨v3,rfl,hr3,hv3,hs3,hat3,st3⟩;obtain⟨a1,a2,-,-,-⟩:=HW2.out.after st3;have HX3:=zh (HX2.out.turns st3.1 (HW2.out.tv.not_foot HX2.out (by decide) (by decide) (by decide)));have HS3:=zh (show zL8 T B M gh oh m ch w.heap.size ia h o w3 from tws_all a1 HX3.out HLEN.out (by rw[←hh];exact HV.out.at_hs hial));have HT3:=zh (And.intro a1 a2);have HV3:=zh (And.intro hv3 (And.intro hs3 (And.intro hat3 st3)));have HR3:=zh hr3;obtain⟨A3,c3,rfl⟩:=own_slice (own_zero hr3);clear a1 a2 hv3 hs3 hat3 st3 hr3;refine hK.out _ _ (HS3.out) fun hHeld=>?_;clear hK K;(try simp only[pS]);refine agE [20,21,22,23,24] ?_;iterate 5 (refine tkM ?_;try simp only[pS])
     refine agN ?_;refine dnH ?_;go_wp2_with fail;obtain⟨V3,hV3⟩:∃ x,w3.drew=x:=⟨_,rfl⟩
     have hbV3:Below w3.heap.size w3 V3:=bzD hV3;have HX5:=zh (HX3.out.below hbV3 HX3.out.lt);have HM5:=zh (HT3.out.2.below hbV3);have HT5:=zh (HT3.out.1.below hbV3);have HR5:=zh (show RecRow V2.heap.size V3 _ _ from own_turns (S:=fun _=>False) HR3.out (.of_below hbV3) (fun _ _=>id));have HV5:=zh (And.intro (HV3.out.1.below hbV3) (And.intro HV3.out.2.1 (And.intro (HV3.out.2.2.1.below hbV3) (HV3.out.2.2.2.trans (.of_below hbV3)))));have HS5:=zh (show zL8 T B M gh oh m ch w.heap.size ia h o V3 from tws_all HT5.out HX5.out HLEN.out (by rw[←hh];exact HV.out.at_hs hial));have HR:=zh (rreplace_ok bM M m vsM f ia I C o.t V3 HM5.out hial (by have:=HK.out;show 3≤(f ia).kind;have h3:(f ia).kind=4:=this;omega) HBD.out.2.2 (by omega) (by omega) (by omega) (by omega) (by omega));rw[←HIC.out.1,←HIC.out.2] at HR;refine wp_region_noPanic ?_;refine wp_region_held_drew (S:=zL8 T B M gh oh m ch w.heap.size ia h o) (by kernel_rfl) ?_ (fun hHeld=>?_)
     ·exact (by rw[hV3];exact HS5.out)
     rw[hV3] at hHeld ⊢;refine agE [0,1,2,3,4,5,6,7,8,9,10,11,12] ?_;iterate 13 (refine tkM ?_;try simp only[pS])
     refine agN ?_;refine rd1 13 fun K hK=>?_;go_simp;refine HR.out.mono ?_;rintro e w4 ⟨v4,rfl,hr4,hm4,st4⟩;have HW4:=zh (HW2.out.put (av':=av) (u:=fun n=>{ n with data:=repD (f ia).data I C o.t }) (U:=fun n=>{ n with data:=repD (f ia).data I C o.t }) hial hg (fun _=>⟨rfl,rfl⟩) (fun _=>rfl) (fun _=>⟨rfl,rfl⟩) (fun _=>rfl) (by rw[hh];exact HV5.out.1) (by rw[hh];exact HV5.out.2.1) (by rw[hh];exact HV5.out.2.2.1) HV5.out.2.2.2 hm4 st4 (by have h2:=repD_size (i:=I) (c:=C) (s:=o.t) HBD.out.2.2;exact⟨by show (f ia).at'.length≤_;omega,by show (repD (f ia).data I C o.t).size≤_;omega,repD_rep _ _ _ _⟩));have HX4:=zh (HX5.out.turns st4.1 (HM5.out.not_foot HX5.out (by decide) (by decide) (by decide) (by decide)));have HS4:=zh (show zL8 T B M gh oh m ch w.heap.size ia h o w4 from tws_all HW4.out.tw HX4.out HLEN.out (by rw[←hh];exact HV.out.at_hs hial));have HMT:=zh (match_any T B M V2.heap.size V3.heap.size _ _ v4 hs [dataRecM ia o.n (f ia).data ((min C ((chk (f ia).data).length - I):Nat):Int) ((chk (repB o.t)).length:Nat)] w4 HW4.out.tw (by rw[data_map,hh];exact own_turns HR5.out st4.1 (fun k hk hm=>by have h1:=(HR5.out.lt k hk).1;have h2:=(HW2.out.mv.lt k hm).2;omega)) hr4 (by simp));obtain⟨A4,c4,rfl⟩:=own_slice (own_zero hr4);clear hr4 hm4 st4;refine hK.out _ _ (HS4.out) fun hHeld=>?_;clear hK K;(try simp only[pS]);refine agE [14,15,16,17,18] ?_;iterate 5 (refine tkM ?_;try simp only[pS])
     refine agN ?_;refine dnH ?_;go_wp2_with fail;refine HMT.out.mono ?_;rintro e w5 ⟨rfl,hb5⟩;have HFIN:=zh (HW4.out.below hb5);clear hb5;go_wp2_with fail;go_ret2;exact⟨_,[],_,_,_,_,_,_,_,_,_,_,_,_,rfl,HFIN.out⟩
end
end Go.Proofs.YtaigmpkcdjbpiaaGreatDoor
