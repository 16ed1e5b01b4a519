/- Part of a proof about trees: NRma. -/
import Derived.Test.YtaigmpkcdjbpiaaGreatDoorS04
set_option linter.unusedVariables false
set_option linter.unusedSimpArgs false
set_option linter.unusedSectionVars false
set_option maxHeartbeats 8000000
set_option maxRecDepth 100000
namespace Go.Proofs.YtaigmpkcdjbpiaaGreatDoor
section
open Go.RowKit
def RmaP (base M m:Nat) (vs:Value) (f:Nat→RS) (nm:ByteArray) (l:List (ByteArray×ByteArray)) (w:World) (e:Ending) (w':World):Prop:=
 (Nm.attrs l=false∧e=.returned (.int .i64 1)∧Below w.heap.size w w')∨
 (Nm.attrs l=true∧∃ vs' sl,e=.returned (.int .i64 0)∧MV base w' M vs' (m+1) (pushM m f ⟨2,nm,sl,l.map repP,⟨#[]⟩,-1,⟨none,0,0⟩,[],false⟩)∧AStep w w' (MFoot M vs m f) (MFoot M vs' (m+1) (pushM m f ⟨2,nm,sl,l.map repP,⟨#[]⟩,-1,⟨none,0,0⟩,[],false⟩)))
theorem take_map_succ {l:List (ByteArray×ByteArray)} {j:Nat} {p:ByteArray×ByteArray} (hp:l[j]?=some p):(l.take (j+1)).map repP=(l.take j).map repP++[repP p]:=by
 rw[List.take_add_one,hp,List.map_append];rfl
theorem rmx_row {w1 w2 w3:World} {b X:Nat} {va v2:Value} {j:Nat} {xs:List Value} {vs:Array Value} {tX:TypeId} (o:TR w2 b 92 2 v2 j xs) (hX:Whole w2 X vs 67) (v:Value):TR (w2.setCell ⟨X,2,none⟩ v) b 92 2 v2 j xs:=by
 have g:w2.grownBy (w2.setCell ⟨X,2,none⟩ v) (some X):=gb_put (gb_of_below (Below.refl w2.heap.size w2) _) 2 v;exact o.kept g (.inr (o.unlike hX (by decide)))
theorem rmake_attrs (base M m:Nat) (vs:Value) (aA:Option Addr) (cA:Nat) (l:List (ByteArray×ByteArray)) (f:Nat→RS) (nm dt:ByteArray) (w:World) (H:MV base w M vs m f) (HA:TR w 0 92 2 (.slice aA l.length cA) l.length (atC l)) (he:Nm.elem nm=true) (hbase:base≤w.heap.size) (hm:m≤100000) (hs:nm.size≤10000) (hl:l.length≤64) (hvs:∀ p∈l,p.1.size≤10000∧p.2.size≤6000):
  Calls Tryz.prog 41 #[.pointer (some ⟨M,0,none⟩),.int .i64 2,.string nm,.string dt,.slice aA l.length cA] w fun e w'=>RmaP base M m vs f nm l w e w':=by
 obtain⟨i0,hi0,hz0,hz1,hz2⟩:=info_parts rnodeInfo;obtain⟨iA,hiA,hzA0,hzA1,hzA2⟩:=info_parts rattrInfo;obtain⟨A,c,rfl⟩:=H.form;obtain⟨w1,hw1⟩:∃ w1,w.alloc (.cells #[.int .i64 2,.string ⟨#[]⟩,.slice none 0 0,.string ⟨#[]⟩,.int .i64 (-1),.slice none 0 0,.bool false] 67)=w1:=⟨_,rfl⟩
 have hb1:Below w.heap.size w w1:=bzA hw1;have hX1:Whole w1 w.heap.size #[.int .i64 2,.string ⟨#[]⟩,.slice none 0 0,.string ⟨#[]⟩,.int .i64 (-1),.slice none 0 0,.bool false] 67:=by rw[←hw1];exact Whole.new w _ _
 have hR:=relement_any nm w1 hs;rw[he] at hR;have HR:=zh hR;have HX1:=zh hX1;have HB1:=zh hb1;have HW1:=zh hw1;have HM:=zh (fun (W:World) (hb:Below w.heap.size w W)=>H.below hb);have HAW:=zh (fun (W:World) (hb:Below w.heap.size w W)=>HA.below hb);have hMl:M<w.heap.size:=H.var.lt;have HVB:=zh (fun x (hx:(Value.slice A m c).ownBlock=some x)=>(H.lt x (Or.inr (Or.inl hx))).2);have HVS:=zh (fun (j:Nat) (p:ByteArray×ByteArray) (hj:l[j]?=some p)=>hvs p (List.mem_of_getElem? hj));obtain⟨n,hn⟩:∃ n,l.length=n:=⟨_,rfl⟩
 have HN:=zh hn;rw[hn] at hl;clear hR hX1 hb1 hw1 H HA hs hvs;rw[hn];clear hn
 go_enter Tryz.func41,Tryz.ntmps41
 go_wp2_with fail;rw[HW1.out];refine HR.out.mono ?_;rintro e w2 ⟨rfl,hb2⟩;have hX2:=HX1.out.below hb2 HX1.out.lt;have hb02:=HB1.out.trans (hb2.mono HB1.out.size);have HX2:=zh hX2;have HB2:=zh hb02;clear hb2 hb02 hX2 HX1 HB1 HR;go_wp2_with fail
 go_loopw [12] (fun i wr=>∃ (j:Nat) (va:Value),i=.int .i64 (j:Int)∧j≤n∧Hid (okJ l j)∧Hid (Whole wr w.heap.size #[.int .i64 2,.string ⟨#[]⟩,va,.string ⟨#[]⟩,.int .i64 (-1),.slice none 0 0,.bool false] 67)∧Hid (TR wr w.heap.size 92 2 va j (atC ((l.take j).map repP)))∧Hid (Below w.heap.size w wr)) (fun i _=>n - (intOf i).toNat)
 case atStart=>exact⟨0,.slice none 0 0,rfl,Nat.zero_le _,zh (okJ_zero l),HX2,zh (TR.nil _ _ _ _),HB2⟩
 case round=>
  obtain⟨j,va,rfl,hj,HOK,HX,HROW,HB⟩:=hrel;obtain⟨Av,cv,rfl⟩:=HROW.out.form;by_cases hjn:j<n
  ·have p1:(j:Int)<(n:Int):=by omega
   have p0:(0:Int)≤(j:Int):=by omega
   obtain⟨p,hp⟩:∃ p,l[j]?=some p:=⟨l[j]'(by rw[HN.out];exact hjn),by simp⟩
   have HP:=zh hp;obtain⟨ga,oa,rfl,-⟩:=(HAW.out wr HB.out).cells (by rw[HN.out];omega);have HRD:=zh (fun (W:World) (hb:Below w.heap.size w W) (k:Nat) (q:ByteArray×ByteArray) (hq:l[k]?=some q)=>by
    have hk:k<l.length:=(List.getElem?_eq_some_iff.1 hq).1;have h:=HAW.out W hb
    exact And.intro (h.cellAt (k*2) _ (by omega) (atC_get _ _ _ hq).1) (show W.cell? ⟨ga,oa+k*2+1,none⟩=some (.string q.2) by rw[Nat.add_assoc];exact h.cellAt (k*2+1) _ (by omega) (atC_get _ _ _ hq).2))
   obtain⟨d0,d1⟩:=HRD.out wr HB.out j p hp;have hsz:=HVS.out j p hp;have HH:=zh (rheader_any p.1 wr hsz.1);clear hp;go_wp2_with fail;refine HH.out.mono ?_;rintro e w3 ⟨rfl,hb3⟩;have HB3:=zh (HB.out.trans (hb3.mono HB.out.size));have HX3:=zh (HX.out.below hb3 HX.out.lt);have HROW3:=zh (HROW.out.below hb3);clear HH hb3 d0 d1 HB HX HROW;cases hat:Nm.attr p.1 with
   | false=>
    have HBAD:=zh (Nm.attrs_bad HP.out hat);go_wp2_with fail
    go_ret
    exact .inl ⟨HBAD.out,rfl,HB3.out⟩
   | true=>
    have HAT:=zh hat;clear hat;go_wp2_with fail
    go_loopw [13] (fun k wr=>∃ u:Nat,k=.int .i64 (u:Int)∧u≤j∧Hid (Below w3.heap.size w3 wr)∧Hid (p.1.data.toList∉nmL (l.take u))) (fun k _=>j - (intOf k).toNat)
    case atStart=>exact⟨0,rfl,Nat.zero_le _,zh (Below.refl _ _),zh (by simp[nmL])⟩
    case round=>
     obtain⟨u,rfl,huj,HBI,HNO⟩:=hrel;have HBW:=zh (HB3.out.trans (HBI.out.mono HB3.out.size));obtain⟨e0,e1⟩:=HRD.out wr HBW.out j p HP.out;by_cases hu:u<j
     ·have r1:(u:Int)<(j:Int):=by omega
      have r0:(0:Int)≤(u:Int):=by omega
      have r2:(u:Int)<(n:Int):=by omega
      obtain⟨q,hq⟩:∃ q,l[u]?=some q:=⟨l[u]'(by rw[HN.out];omega),by simp⟩
      have HQ:=zh hq;obtain⟨f0,-⟩:=HRD.out wr HBW.out u q hq;have HDR:=zh (below_drew1 wr.heap.size wr);clear hq e1;cases hqe:(q.1.toList == p.1.toList) with
      | true=>
       have hin:p.1.data.toList∈nmL (l.take j):=by
        have hqe':q.1.toList=p.1.toList:=by simpa using hqe
        rw[←Lib.toList_data,←hqe',Lib.toList_data];exact List.mem_map_of_mem (List.mem_of_getElem? (by rw[List.getElem?_take,if_pos hu];exact HQ.out))
       have HBAD:=zh (Nm.attrs_seen HP.out hin);clear hin;go_wp2_with fail
       go_region
       all_goals go_wp2_with fail
       all_goals go_ret
       all_goals exact .inl ⟨HBAD.out,rfl,HBW.out.trans (HDR.out.mono HBW.out.size)⟩
      | false=>
       have hno:p.1.data.toList∉nmL (l.take (u+1)):=by
        rw[nmL_take HQ.out];intro hm;rcases List.mem_append.1 hm with h | h
        ·exact HNO.out h
        ·have hqe':¬ q.1.toList=p.1.toList:=by simpa using hqe
         exact hqe' (by rw[Lib.toList_data,Lib.toList_data];exact (List.mem_singleton.1 h).symm)
       have HNO2:=zh hno;clear hno;go_wp2_with fail
       go_region
       all_goals go_wp2_with fail
       all_goals go_roundw
       all_goals first | exact⟨u+1,by go_num,by omega,zh (HBI.out.trans (HDR.out.mono HBI.out.size)),HNO2⟩ | (simp[intOf];omega)
     ·have huj':u=j:=by omega
      subst huj';have r1:¬ (u:Int)<(u:Int):=by omega
      have HX4:=zh (HX3.out.below HBI.out HX3.out.lt);have HROW4:=zh (HROW3.out.below HBI.out);have HOK2:=zh (okJ_next HOK.out HP.out HNO.out HAT.out);obtain⟨V,hV⟩:∃ V,wr.drew=V:=⟨_,rfl⟩
      have hVB:Below wr.heap.size wr V:=by rw[←hV];exact below_drew1 _ wr
      have HBV:=zh (HBW.out.trans (hVB.mono HBW.out.size));have HXV:=zh (HX4.out.below hVB HX4.out.lt);have HRV:=zh (HROW4.out.below hVB);have HREP:=zh (rrepair_any p.2 V (by omega));obtain⟨rv,hrv⟩:∃ rv,repB p.2=rv:=⟨_,rfl⟩
      rw[show tstr (Txt.rep p.2.data.toList)=rv from hrv] at HREP;have HRVV:=zh (show repP p=(p.1,rv) by rw[←hrv];rfl);have HS:=zh (fun (W:World) (hb:Below w.heap.size w W)=>HRD.out W hb u p HP.out);have x2:V.cell? ⟨w.heap.size,2,none⟩=some (.slice Av u cv):=HXV.out.cell 2;clear hVB hrv HX4 HROW4 HX3 HROW3 HB3 HBI HNO;go_wp2_with fail;refine wp_region_noPanic ?_;refine wp_region_held_drew (S:=(fun W=>W.cell? ⟨ga,oa+u*2,none⟩=some (.string p.1)∧W.cell? ⟨ga,oa+u*2+1,none⟩=some (.string p.2))) (by kernel_rfl) ?_ (fun hHeld=>?_)
      ·exact (by rw[hV];exact HS.out V HBV.out)
      rw[hV] at hHeld ⊢;refine agE [0,2,3,4,5,6,7,8,9,10,11] ?_;iterate 11 (refine tkA ?_;try simp only[pS])
      refine agN ?_;refine wpAnyH_ready (rs:=[1,12]) (by kernel_rfl) (by simp) ?_;refine AllReadyH.cons rfl (fun K hK=>?_) (AllReadyH.cons rfl (fun K hK=>?_) AllReadyH.nil)
      ·go_simp;refine hK.out _ _ (HS.out V HBV.out) fun hHeld=>?_;clear hK K;(try simp only[pS]);refine rd1 12 fun K hK=>?_;go_simp;refine HREP.out.mono ?_;rintro e w5 ⟨rfl,hb5⟩;have HB5:=zh (HBV.out.trans (hb5.mono HBV.out.size));have HX5:=zh (HXV.out.below hb5 HXV.out.lt);have HR5:=zh (HRV.out.below hb5);have y2:w5.cell? ⟨w.heap.size,2,none⟩=some (.slice Av u cv):=HX5.out.cell 2;obtain⟨w6,hw6⟩:∃ w6,w5.alloc (.cells #[.string p.1,.string rv] 92)=w6:=⟨_,rfl⟩
       have hb56:Below w5.heap.size w5 w6:=bzA hw6;have HB6:=zh (HB5.out.trans (hb56.mono HB5.out.size));have HX6:=zh (HX5.out.below hb56 HX5.out.lt);have HR6:=zh (HR5.out.below hb56);have z2:w6.cell? ⟨w.heap.size,2,none⟩=some (.slice Av u cv):=HX6.out.cell 2;have hsrc:((.slice (some ⟨w5.heap.size,0,none⟩) 1 1:Value)=.slice none 0 0∧1=0)∨∃ a c,(.slice (some ⟨w5.heap.size,0,none⟩) 1 1:Value)=.slice (some a) 1 c∧∀ j u,(atC [(p.1,rv)])[j]?=some u→w6.cell? (a.add j)=some u:=by
        rw[←hw6];exact one_source w5 92 (atC [(p.1,rv)])
       have hs6:w.heap.size≤w6.heap.size:=HB6.out.size;have hr6:=HR6.out;clear hb5 hb56;refine hK.out _ _ (HS.out w5 HB5.out) fun hHeld=>?_;clear hK K;(try simp only[pS]);refine agE [13] ?_
       (refine tkA ?_;try simp only[pS])
       refine agN ?_;refine rd1 14 fun K hK=>?_;go_simp;(try rw[hw6]);refine hK.out _ _ (HS.out w6 HB6.out) fun hHeld=>?_;clear hK K;(try simp only[pS]);refine rd1 15 fun K hK=>?_;refine step_append_tail rfl _ _ 65 rfl w.heap.size 92 iA (.agg #[.string ⟨#[]⟩,.string ⟨#[]⟩]) 2 32 Tryz.underlying65 hiA hzA0 hzA1 hzA2 rfl (by decide) _ u (atC ((l.take u).map repP)) rfl hr6 _ 1 (atC [(p.1,rv)]) rfl rfl hsrc (atC_one _) ?c3 ?c4 hs6 ?_
       case c3=>unfold maxLen;omega
       case c4=>omega
       intro v7 w7 o7 g7 f7;rw[←atC_append] at o7;obtain⟨A7,c7,rfl⟩:=o7.form;have hX7:=HX6.out.grown g7 (fun e=>hr6.unlike HX6.out (by decide) e.symm);have HB7:=zh (HB6.out.grown g7 HB6.out.size (fun j hj=>(hr6.lt j hj).1));have k2:w7.cell? ⟨w.heap.size,2,none⟩=some (.slice Av u cv):=hX7.cell 2;have k2f:=hX7.free 2;have o8:=rmx_row (w1:=w7) (w3:=w7) (va:=.slice none 0 0) (tX:=0) o7 hX7 (.slice A7 (u+1) c7);obtain⟨w8,hw8⟩:∃ w8,w7.setCell ⟨w.heap.size,2,none⟩ (.slice A7 (u+1) c7)=w8:=⟨_,rfl⟩
       rw[hw8] at o8;have HX8:Hid (Whole w8 w.heap.size #[.int .i64 2,.string ⟨#[]⟩,(.slice A7 (u+1) c7),.string ⟨#[]⟩,.int .i64 (-1),.slice none 0 0,.bool false] 67):=zh (by rw[←hw8];exact hX7.put 2 _);have g8:w7.grownBy w8 (some w.heap.size):=by rw[←hw8];exact gb_put (gb_of_below (Below.refl w7.heap.size w7) _) 2 _
       have HB8:=zh (HB7.out.grown g8 HB7.out.size (fun j hj=>by injection hj with hj;omega));have HR8:Hid (TR w8 w.heap.size 92 2 (.slice A7 (u+1) c7) (u+1) (atC ((l.take (u+1)).map repP))):=zh (by rw[take_map_succ HP.out,HRVV.out];exact o8);clear o7 g7 f7 hX7 o8 g8;refine hK.out _ _ (HS.out w7 HB7.out) fun hHeld=>?_;clear hK K;(try simp only[pS]);refine agE [16] ?_
       (refine tkA ?_;try simp only[pS])
       refine agN ?_;refine rd1 17 fun K hK=>?_;go_simp;(try rw[hw8]);refine hK.out _ _ (HS.out w8 HB8.out) fun hHeld=>?_;clear hK K;(try simp only[pS]);refine dnH ?_;go_wp2_with fail
       go_roundw
       case rel=>exact⟨u+1,_,by go_num,by omega,HOK2,HX8,HR8,HB8⟩
       case measure=>simp[intOf];omega
      ·go_simp;refine HREP.out.mono ?_;rintro e w5 ⟨rfl,hb5⟩;have HB5:=zh (HBV.out.trans (hb5.mono HBV.out.size));have HX5:=zh (HXV.out.below hb5 HXV.out.lt);have HR5:=zh (HRV.out.below hb5);have y2:w5.cell? ⟨w.heap.size,2,none⟩=some (.slice Av u cv):=HX5.out.cell 2;obtain⟨w6,hw6⟩:∃ w6,w5.alloc (.cells #[.string p.1,.string rv] 92)=w6:=⟨_,rfl⟩
       have hb56:Below w5.heap.size w5 w6:=bzA hw6;have HB6:=zh (HB5.out.trans (hb56.mono HB5.out.size));have HX6:=zh (HX5.out.below hb56 HX5.out.lt);have HR6:=zh (HR5.out.below hb56);have z2:w6.cell? ⟨w.heap.size,2,none⟩=some (.slice Av u cv):=HX6.out.cell 2;have hsrc:((.slice (some ⟨w5.heap.size,0,none⟩) 1 1:Value)=.slice none 0 0∧1=0)∨∃ a c,(.slice (some ⟨w5.heap.size,0,none⟩) 1 1:Value)=.slice (some a) 1 c∧∀ j u,(atC [(p.1,rv)])[j]?=some u→w6.cell? (a.add j)=some u:=by
        rw[←hw6];exact one_source w5 92 (atC [(p.1,rv)])
       have hs6:w.heap.size≤w6.heap.size:=HB6.out.size;have hr6:=HR6.out;clear hb5 hb56;refine hK.out _ _ (HS.out w5 HB5.out) fun hHeld=>?_;clear hK K;(try simp only[pS]);refine agE [13] ?_
       (refine tkA ?_;try simp only[pS])
       refine agN ?_;refine wpAnyH_ready (rs:=[1,14]) (by kernel_rfl) (by simp) ?_;refine AllReadyH.cons rfl (fun K hK=>?_) (AllReadyH.cons rfl (fun K hK=>?_) AllReadyH.nil)
       ·go_simp;refine hK.out _ _ (HS.out w5 HB5.out) fun hHeld=>?_;clear hK K;(try simp only[pS]);refine rd1 14 fun K hK=>?_;go_simp;(try rw[hw6]);refine hK.out _ _ (HS.out w6 HB6.out) fun hHeld=>?_;clear hK K;(try simp only[pS]);refine rd1 15 fun K hK=>?_;refine step_append_tail rfl _ _ 65 rfl w.heap.size 92 iA (.agg #[.string ⟨#[]⟩,.string ⟨#[]⟩]) 2 32 Tryz.underlying65 hiA hzA0 hzA1 hzA2 rfl (by decide) _ u (atC ((l.take u).map repP)) rfl hr6 _ 1 (atC [(p.1,rv)]) rfl rfl hsrc (atC_one _) ?c3 ?c4 hs6 ?_
        case c3=>unfold maxLen;omega
        case c4=>omega
        intro v7 w7 o7 g7 f7;rw[←atC_append] at o7;obtain⟨A7,c7,rfl⟩:=o7.form;have hX7:=HX6.out.grown g7 (fun e=>hr6.unlike HX6.out (by decide) e.symm);have HB7:=zh (HB6.out.grown g7 HB6.out.size (fun j hj=>(hr6.lt j hj).1));have k2:w7.cell? ⟨w.heap.size,2,none⟩=some (.slice Av u cv):=hX7.cell 2;have k2f:=hX7.free 2;have o8:=rmx_row (w1:=w7) (w3:=w7) (va:=.slice none 0 0) (tX:=0) o7 hX7 (.slice A7 (u+1) c7);obtain⟨w8,hw8⟩:∃ w8,w7.setCell ⟨w.heap.size,2,none⟩ (.slice A7 (u+1) c7)=w8:=⟨_,rfl⟩
        rw[hw8] at o8;have HX8:Hid (Whole w8 w.heap.size #[.int .i64 2,.string ⟨#[]⟩,(.slice A7 (u+1) c7),.string ⟨#[]⟩,.int .i64 (-1),.slice none 0 0,.bool false] 67):=zh (by rw[←hw8];exact hX7.put 2 _);have g8:w7.grownBy w8 (some w.heap.size):=by rw[←hw8];exact gb_put (gb_of_below (Below.refl w7.heap.size w7) _) 2 _
        have HB8:=zh (HB7.out.grown g8 HB7.out.size (fun j hj=>by injection hj with hj;omega));have HR8:Hid (TR w8 w.heap.size 92 2 (.slice A7 (u+1) c7) (u+1) (atC ((l.take (u+1)).map repP))):=zh (by rw[take_map_succ HP.out,HRVV.out];exact o8);clear o7 g7 f7 hX7 o8 g8;refine hK.out _ _ (HS.out w7 HB7.out) fun hHeld=>?_;clear hK K;(try simp only[pS]);refine agE [16] ?_
        (refine tkA ?_;try simp only[pS])
        refine agN ?_;refine rd1 17 fun K hK=>?_;go_simp;(try rw[hw8]);refine hK.out _ _ (HS.out w8 HB8.out) fun hHeld=>?_;clear hK K;(try simp only[pS]);refine dnH ?_;go_wp2_with fail
        go_roundw
        case rel=>exact⟨u+1,_,by go_num,by omega,HOK2,HX8,HR8,HB8⟩
        case measure=>simp[intOf];omega
       ·go_simp;(try rw[hw6]);refine hK.out _ _ (HS.out w6 HB6.out) fun hHeld=>?_;clear hK K;(try simp only[pS]);refine rd1 1 fun K hK=>?_;go_simp;refine hK.out _ _ (HS.out w6 HB6.out) fun hHeld=>?_;clear hK K;(try simp only[pS]);refine rd1 15 fun K hK=>?_;refine step_append_tail rfl _ _ 65 rfl w.heap.size 92 iA (.agg #[.string ⟨#[]⟩,.string ⟨#[]⟩]) 2 32 Tryz.underlying65 hiA hzA0 hzA1 hzA2 rfl (by decide) _ u (atC ((l.take u).map repP)) rfl hr6 _ 1 (atC [(p.1,rv)]) rfl rfl hsrc (atC_one _) ?c3 ?c4 hs6 ?_
        case c3=>unfold maxLen;omega
        case c4=>omega
        intro v7 w7 o7 g7 f7;rw[←atC_append] at o7;obtain⟨A7,c7,rfl⟩:=o7.form;have hX7:=HX6.out.grown g7 (fun e=>hr6.unlike HX6.out (by decide) e.symm);have HB7:=zh (HB6.out.grown g7 HB6.out.size (fun j hj=>(hr6.lt j hj).1));have k2:w7.cell? ⟨w.heap.size,2,none⟩=some (.slice Av u cv):=hX7.cell 2;have k2f:=hX7.free 2;have o8:=rmx_row (w1:=w7) (w3:=w7) (va:=.slice none 0 0) (tX:=0) o7 hX7 (.slice A7 (u+1) c7);obtain⟨w8,hw8⟩:∃ w8,w7.setCell ⟨w.heap.size,2,none⟩ (.slice A7 (u+1) c7)=w8:=⟨_,rfl⟩
        rw[hw8] at o8;have HX8:Hid (Whole w8 w.heap.size #[.int .i64 2,.string ⟨#[]⟩,(.slice A7 (u+1) c7),.string ⟨#[]⟩,.int .i64 (-1),.slice none 0 0,.bool false] 67):=zh (by rw[←hw8];exact hX7.put 2 _);have g8:w7.grownBy w8 (some w.heap.size):=by rw[←hw8];exact gb_put (gb_of_below (Below.refl w7.heap.size w7) _) 2 _
        have HB8:=zh (HB7.out.grown g8 HB7.out.size (fun j hj=>by injection hj with hj;omega));have HR8:Hid (TR w8 w.heap.size 92 2 (.slice A7 (u+1) c7) (u+1) (atC ((l.take (u+1)).map repP))):=zh (by rw[take_map_succ HP.out,HRVV.out];exact o8);clear o7 g7 f7 hX7 o8 g8;refine hK.out _ _ (HS.out w7 HB7.out) fun hHeld=>?_;clear hK K;(try simp only[pS]);refine agE [16] ?_
        (refine tkA ?_;try simp only[pS])
        refine agN ?_;refine rd1 17 fun K hK=>?_;go_simp;(try rw[hw8]);refine hK.out _ _ (HS.out w8 HB8.out) fun hHeld=>?_;clear hK K;(try simp only[pS]);refine dnH ?_;go_wp2_with fail
        go_roundw
        case rel=>exact⟨u+1,_,by go_num,by omega,HOK2,HX8,HR8,HB8⟩
        case measure=>simp[intOf];omega
  ·have hjn':j=n:=by omega
   have r1:¬ (j:Int)<(n:Int):=by omega
   have HALL:=zh (okJ_all HOK.out (by rw[HN.out];omega));have hlm:l.take j=l:=List.take_of_length_le (by rw[HN.out];omega);have hrow:=HROW.out;rw[hlm] at hrow;have HLM:=zh (show (l.map repP).length=j by rw[List.length_map,HN.out,hjn']);have HRW:=zh hrow;have y1:wr.cell? ⟨w.heap.size,1,none⟩=some (.string ⟨#[]⟩):=HX.out.cell 1;have f1:=HX.out.free 1;obtain⟨w4,hw4⟩:∃ w4,wr.setCell ⟨w.heap.size,1,none⟩ (.string nm)=w4:=⟨_,rfl⟩
   have hX4:Whole w4 w.heap.size #[.int .i64 2,.string nm,.slice Av j cv,.string ⟨#[]⟩,.int .i64 (-1),.slice none 0 0,.bool false] 67:=by rw[←hw4];exact HX.out.put 1 (.string nm)
   have g4:wr.grownBy w4 (some w.heap.size):=by rw[←hw4];exact gb_put (gb_of_below (Below.refl wr.heap.size wr) _) _ _
   have hb04:=HB.out.grown g4 HB.out.size (fun j hj=>by simp at hj;omega);have hr4:=hrow.kept g4 (.inr (hrow.unlike HX.out (by decide)));have hM4:=HM.out w4 hb04;have c0:w4.cell? ⟨M,0,none⟩=some (.slice A m c):=hM4.var.cell 0;have z0:=hM4.var.free 0;have x0:w4.cell? ⟨w.heap.size,0,none⟩=some (.int .i64 2):=hX4.cell 0;have x1:w4.cell? ⟨w.heap.size,1,none⟩=some (.string nm):=hX4.cell 1;have x2:w4.cell? ⟨w.heap.size,2,none⟩=some (.slice Av j cv):=hX4.cell 2;have x3:w4.cell? ⟨w.heap.size,3,none⟩=some (.string ⟨#[]⟩):=hX4.cell 3;have x4:w4.cell? ⟨w.heap.size,4,none⟩=some (.int .i64 (-1)):=hX4.cell 4;have x5:w4.cell? ⟨w.heap.size,5,none⟩=some (.slice none 0 0):=hX4.cell 5;have x6:w4.cell? ⟨w.heap.size,6,none⟩=some (.bool false):=hX4.cell 6;obtain⟨w5,hw5⟩:∃ w5,w4.drew.alloc (.cells #[.int .i64 2,.string nm,.slice Av j cv,.string ⟨#[]⟩,.int .i64 (-1),.slice none 0 0,.bool false] 67)=w5:=⟨_,rfl⟩
   have hb45:Below w4.heap.size w4 w5:=by rw[←hw5];exact (below_drew1 _ w4).alloc (Nat.le_refl _) _
   have hX5:=hX4.below hb45 hX4.lt;have hM5:=hM4.below hb45;have hr5:=hr4.below hb45;have hb05:=hb04.trans (hb45.mono hb04.size);have c5:w5.cell? ⟨M,0,none⟩=some (.slice A m c):=hM5.var.cell 0;have z5:=hM5.var.free 0;have hsrc:w5.ownsRow w4.heap.size 67 7 (.slice (some ⟨w4.heap.size,0,none⟩) 1 1) 1 [.int .i64 2,.string nm,.slice Av j cv,.string ⟨#[]⟩,.int .i64 (-1),.slice none 0 0,.bool false]:=by
    rw[←hw5];exact World.ownsRow_lit (base:=w4.heap.size) (e:=67) (size:=7) w4.drew #[.int .i64 2,.string nm,.slice Av j cv,.string ⟨#[]⟩,.int .i64 (-1),.slice none 0 0,.bool false] 1 (Nat.le_refl _) (by unfold maxLen;omega) rfl
   have hb5s:base≤w5.heap.size:=by have:=hb45.size;have:=hb04.size;omega
   have HS0:=zh (show w4.drew.cell? ⟨w.heap.size,0,none⟩=some (.int .i64 2)∧w4.drew.cell? ⟨w.heap.size,1,none⟩=some (.string nm)∧w4.drew.cell? ⟨w.heap.size,2,none⟩=some (.slice Av j cv)∧w4.drew.cell? ⟨w.heap.size,3,none⟩=some (.string ⟨#[]⟩)∧w4.drew.cell? ⟨w.heap.size,4,none⟩=some (.int .i64 (-1))∧w4.drew.cell? ⟨w.heap.size,5,none⟩=some (.slice none 0 0)∧w4.drew.cell? ⟨w.heap.size,6,none⟩=some (.bool false) from⟨hX4.cell 0,hX4.cell 1,hX4.cell 2,hX4.cell 3,hX4.cell 4,hX4.cell 5,hX4.cell 6⟩);have HS1:=zh (show w5.cell? ⟨w.heap.size,0,none⟩=some (.int .i64 2)∧w5.cell? ⟨w.heap.size,1,none⟩=some (.string nm)∧w5.cell? ⟨w.heap.size,2,none⟩=some (.slice Av j cv)∧w5.cell? ⟨w.heap.size,3,none⟩=some (.string ⟨#[]⟩)∧w5.cell? ⟨w.heap.size,4,none⟩=some (.int .i64 (-1))∧w5.cell? ⟨w.heap.size,5,none⟩=some (.slice none 0 0)∧w5.cell? ⟨w.heap.size,6,none⟩=some (.bool false) from⟨hX5.cell 0,hX5.cell 1,hX5.cell 2,hX5.cell 3,hX5.cell 4,hX5.cell 5,hX5.cell 6⟩);have HX5:=zh hX5;have HB05:=zh hb05;have HR5:=zh hr5;have HMO:=zh (HM.out w (Below.refl _ w));have hrM:=hM5.row;clear hX4 hX5 g4 hb04 hM4 hb45 hb05 hr4 hr5 hrow hlm HX HROW HB hjn';go_wp2_with fail;(try rw[hw4]);(try go_wp2_with fail);refine wp_region_noPanic ?_;refine wp_region_held_drew (S:=(fun W=>W.cell? ⟨w.heap.size,0,none⟩=some (.int .i64 2)∧W.cell? ⟨w.heap.size,1,none⟩=some (.string nm)∧W.cell? ⟨w.heap.size,2,none⟩=some (.slice Av j cv)∧W.cell? ⟨w.heap.size,3,none⟩=some (.string ⟨#[]⟩)∧W.cell? ⟨w.heap.size,4,none⟩=some (.int .i64 (-1))∧W.cell? ⟨w.heap.size,5,none⟩=some (.slice none 0 0)∧W.cell? ⟨w.heap.size,6,none⟩=some (.bool false))) (by kernel_rfl) ?_ (fun hHeld=>?_)
   ·exact HS0.out
   refine agE [0,1,2,3,5] ?_;iterate 5 (refine tkA ?_;try simp only[pS])
   refine agN ?_;apply memo1
   ·intro KEY;refine wpAnyH_ready (rs:=[4,6]) (by kernel_rfl) (by simp) ?_;refine AllReadyH.cons rfl (fun K hK=>?_) (AllReadyH.cons rfl (fun K hK=>?_) AllReadyH.nil)
    ·go_simp;refine hK.out _ _ (HS0.out) fun hHeld=>?_;clear hK K;(try simp only[pS]);refine rd1 6 fun K hK=>?_;go_simp;(try rw[hw5]);refine hK.out _ _ (HS1.out) fun hHeld=>?_;clear hK K;(try simp only[pS]);exact KEY
    ·go_simp;(try rw[hw5]);refine hK.out _ _ (HS1.out) fun hHeld=>?_;clear hK K;(try simp only[pS]);refine rd1 4 fun K hK=>?_;go_simp;refine hK.out _ _ (HS1.out) fun hHeld=>?_;clear hK K;(try simp only[pS]);exact KEY
   refine rd1 7 fun K hK=>?_;refine step_append_src rfl _ _ 68 rfl base w4.heap.size 67 i0 (.agg #[.int .i64 0,.string ⟨#[]⟩,.slice none 0 0,.string ⟨#[]⟩,.int .i64 0,.slice none 0 0,.bool false]) 7 104 Tryz.underlying68 hi0 hz0 hz1 hz2 rfl (by decide) _ m (cellsT rsC m f) rfl hrM _ 1 [.int .i64 2,.string nm,.slice Av j cv,.string ⟨#[]⟩,.int .i64 (-1),.slice none 0 0,.bool false] rfl hsrc ?c3 ?c4 ?c5 hb5s ?_
   case c3=>exact rsC_one ⟨2,nm,⟨Av,j,cv⟩,l.map repP,⟨#[]⟩,-1,⟨none,0,0⟩,[],false⟩
   case c4=>unfold maxLen;omega
   case c5=>omega
   intro v6 w6 o6 g6 f6;obtain⟨A6,c6,rfl⟩:=own_slice (own_zero o6);have hpush:=HMO.out.push (x:=⟨2,nm,⟨Av,j,cv⟩,l.map repP,⟨#[]⟩,-1,⟨none,0,0⟩,[],false⟩) HB05.out g6 o6 f6 rfl rfl (by show TR _ _ _ _ (.slice Av j cv) (l.map repP).length _;rw[HLM.out];exact HR5.out);obtain⟨v6,hm7,st7⟩:=hpush;have k6:w6.cell? ⟨M,0,none⟩=some (.slice A m c):=v6.cell 0;have k6f:=v6.free 0;have hX6:=HX5.out.grown g6 (fun e=>by have:=HVB.out _ e.symm;omega);obtain⟨w7,hw7⟩:∃ w7,w6.setCell ⟨M,0,none⟩ (.slice A6 (m+1) c6)=w7:=⟨_,rfl⟩
   rw[hw7] at hm7 st7;have hX7:Whole w7 w.heap.size #[.int .i64 2,.string nm,.slice Av j cv,.string ⟨#[]⟩,.int .i64 (-1),.slice none 0 0,.bool false] 67:=by rw[←hw7];exact hX6.other (by show w.heap.size≠M;omega) _
   have hS6:=(⟨hX6.cell 0,hX6.cell 1,hX6.cell 2,hX6.cell 3,hX6.cell 4,hX6.cell 5,hX6.cell 6⟩:w6.cell? ⟨w.heap.size,0,none⟩=some (.int .i64 2)∧w6.cell? ⟨w.heap.size,1,none⟩=some (.string nm)∧w6.cell? ⟨w.heap.size,2,none⟩=some (.slice Av j cv)∧w6.cell? ⟨w.heap.size,3,none⟩=some (.string ⟨#[]⟩)∧w6.cell? ⟨w.heap.size,4,none⟩=some (.int .i64 (-1))∧w6.cell? ⟨w.heap.size,5,none⟩=some (.slice none 0 0)∧w6.cell? ⟨w.heap.size,6,none⟩=some (.bool false))
   have hS7:=(⟨hX7.cell 0,hX7.cell 1,hX7.cell 2,hX7.cell 3,hX7.cell 4,hX7.cell 5,hX7.cell 6⟩:w7.cell? ⟨w.heap.size,0,none⟩=some (.int .i64 2)∧w7.cell? ⟨w.heap.size,1,none⟩=some (.string nm)∧w7.cell? ⟨w.heap.size,2,none⟩=some (.slice Av j cv)∧w7.cell? ⟨w.heap.size,3,none⟩=some (.string ⟨#[]⟩)∧w7.cell? ⟨w.heap.size,4,none⟩=some (.int .i64 (-1))∧w7.cell? ⟨w.heap.size,5,none⟩=some (.slice none 0 0)∧w7.cell? ⟨w.heap.size,6,none⟩=some (.bool false))
   have HFIN:=zh (And.intro hm7 st7);clear hm7 st7 hX7 hX6 o6 g6 f6 v6;refine hK.out _ _ (hS6) fun hHeld=>?_;clear hK K;(try simp only[pS]);refine agE [8,9] ?_;iterate 2 (refine tkA ?_;try simp only[pS])
   refine agN ?_;refine rd1 10 fun K hK=>?_;go_simp;(try rw[hw7]);refine hK.out _ _ (hS7) fun hHeld=>?_;clear hK K;(try simp only[pS]);refine dnH ?_;go_wp2_with fail
   go_ret
   exact .inr ⟨HALL.out,_,_,rfl,HFIN.out.1,HFIN.out.2⟩
end
end Go.Proofs.YtaigmpkcdjbpiaaGreatDoor
