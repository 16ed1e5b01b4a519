/- Part of a proof about trees. -/
import Derived.Test.YtnbaadpgbcklaaaGreatDoorS04
set_option linter.unusedVariables false
set_option linter.unusedSimpArgs false
set_option maxHeartbeats 8000000
set_option maxRecDepth 100000
namespace Go.Proofs.YtnbaadpgbcklaaaGreatDoor
section
open Go.RowKit
def aay (base M m:Nat) (vs:Value) (f:Nat→RS) (nm:ByteArray) (l:List (ByteArray×ByteArray)) (w:World) (e:Ending) (w':World):Prop:=
 (Nm.attrs l=false∧e=.returned (.int .i64 1)∧Below w.heap.size w w')∨
 (Nm.attrs l=true∧∃ vs' sl,e=.returned (.int .i64 0)∧MV base w' M vs' (m+1) (iq m f ⟨2,nm,sl,l.map fZ,⟨#[]⟩,-1,⟨none,0,0⟩,[],false⟩)∧aB w w' (aC M vs m f) (aC M vs' (m+1) (iq m f ⟨2,nm,sl,l.map fZ,⟨#[]⟩,-1,⟨none,0,0⟩,[],false⟩)))
theorem oL {l:List (ByteArray×ByteArray)} {j:Nat} {p:ByteArray×ByteArray} (hp:l[j]?=some p):(l.take (j+1)).map fZ=(l.take j).map fZ++[fZ p]:=by
 rw[List.take_add_one,hp,List.map_append];rfl
theorem DU {w1 w2 w3:World} {b X:Nat} {va v2:Value} {j:Nat} {xs:List Value} {vs:Array Value} {tX:TypeId} (o:TR w2 b 96 2 v2 j xs) (hX:Whole w2 X vs 67) (v:Value):TR (w2.setCell ⟨X,2,none⟩ v) b 96 2 v2 j xs:=by
 have g:w2.grownBy (w2.setCell ⟨X,2,none⟩ v) (some X):=aK (au (Below.refl w2.heap.size w2) _) 2 v;exact o.kept g (.inr (o.unlike hX (by decide)))
theorem xM (base M m:Nat) (vs:Value) (aA:Option Addr) (cA:Nat) (l:List (ByteArray×ByteArray)) (f:Nat→RS) (nm dt:ByteArray) (w:World) (H:MV base w M vs m f) (HA:TR w 0 96 2 (.slice aA l.length cA) l.length (fF l)) (he:Nm.elem nm=true) (hbase:base≤w.heap.size) (hm:m≤100000) (hs:nm.size≤10000) (hl:l.length≤64) (hvs:∀ p∈l,p.1.size≤10000∧p.2.size≤6000):
  Calls Tryz.prog 48 #[.pointer (some ⟨M,0,none⟩),.int .i64 2,.string nm,.string dt,.slice aA l.length cA] w fun e w'=>aay base M m vs f nm l w e w':=by
 obtain⟨i0,hi0,hz0,hz1,hz2⟩:=info_parts sZ;obtain⟨iA,NW,zu,zw,zx⟩:=info_parts nk;obtain⟨A,c,rfl⟩:=H.form;obtain⟨w1,hw1⟩:=eX (w.alloc (.cells #[.int .i64 2,.string ⟨#[]⟩,.slice none 0 0,.string ⟨#[]⟩,.int .i64 (-1),.slice none 0 0,.bool false] 67))
 have hb1:Below w.heap.size w w1:=gP hw1;have hX1:Whole w1 w.heap.size #[.int .i64 2,.string ⟨#[]⟩,.slice none 0 0,.string ⟨#[]⟩,.int .i64 (-1),.slice none 0 0,.bool false] 67:=by rw[←hw1];exact Whole.new w _ _
 have hR:=vw nm w1 hs;rw[he] at hR;have HR:=zh hR;have fu:=zh hX1;have HB1:=zh hb1;have HW1:=zh hw1;have HM:=zh (fun (W:World) (hb:Below w.heap.size w W)=>H.below hb);have HAW:=zh (fun (W:World) (hb:Below w.heap.size w W)=>HA.below hb);have Vi:M<w.heap.size:=H.var.lt;have TY:=zh (fun x (hx:(Value.slice A m c).ownBlock=some x)=>(H.lt x (Or.inr (Or.inl hx))).2);have HVS:=zh (fun (j:Nat) (p:ByteArray×ByteArray) (hj:l[j]?=some p)=>hvs p (List.mem_of_getElem? hj));obtain⟨n,hn⟩:=eX (l.length)
 have HN:=zh hn;rw[hn] at hl;clear hR hX1 hb1 hw1 H HA hs hvs;rw[hn];clear hn
 go_enter Tryz.func48,Tryz.ntmps48
 go_wp2_with fail;rw[HW1.out];refine HR.out.mono ?_;rintro e w2 ⟨rfl,hb2⟩;have hX2:=fu.out.below hb2 fu.out.lt;have eP:=HB1.out.trans (hb2.mono HB1.out.size);have gH:=zh hX2;have HB2:=zh eP;clear hb2 eP hX2 fu HB1 HR;go_wp2_with fail
 go_loopw [12] (fun i wr=>∃ (j:Nat) (va:Value),i=.int .i64 (j:Int)∧j≤n∧Hid (Sj l j)∧Hid (Whole wr w.heap.size #[.int .i64 2,.string ⟨#[]⟩,va,.string ⟨#[]⟩,.int .i64 (-1),.slice none 0 0,.bool false] 67)∧Hid (TR wr w.heap.size 96 2 va j (fF ((l.take j).map fZ)))∧Hid (Below w.heap.size w wr)) (fun i _=>n - (intOf i).toNat)
 case atStart=>exact⟨0,.slice none 0 0,rfl,Nat.zero_le _,zh (FN l),gH,zh (TR.nil _ _ _ _),HB2⟩
 case round=>
  obtain⟨j,va,rfl,hj,p8,HX,DV,HB⟩:=hrel;obtain⟨Av,cv,rfl⟩:=DV.out.form;by_cases hjn:j<n
  ·have p1:(j:Int)<(n:Int):=by omega
   have p0:(0:Int)≤(j:Int):=by omega
   obtain⟨p,hp⟩:∃ p,l[j]?=some p:=⟨l[j]'(by rw[HN.out];exact hjn),by simp⟩
   have HP:=zh hp;obtain⟨ga,oa,rfl,-⟩:=(HAW.out wr HB.out).cells (by rw[HN.out];omega);have RP:=zh (fun (W:World) (hb:Below w.heap.size w W) (k:Nat) (q:ByteArray×ByteArray) (hq:l[k]?=some q)=>by
    have hk:k<l.length:=(List.getElem?_eq_some_iff.1 hq).1;have h:=HAW.out W hb
    exact And.intro (h.cellAt (k*2) _ (by omega) (je _ _ _ hq).1) (show W.cell? ⟨ga,oa+k*2+1,none⟩=some (.string q.2) by rw[Nat.add_assoc];exact h.cellAt (k*2+1) _ (by omega) (je _ _ _ hq).2))
   obtain⟨d0,d1⟩:=RP.out wr HB.out j p hp;have hsz:=HVS.out j p hp;have HH:=zh (oq p.1 wr hsz.1);clear hp;go_wp2_with fail;refine HH.out.mono ?_;rintro e w3 ⟨rfl,hb3⟩;have HB3:=zh (HB.out.trans (hb3.mono HB.out.size));have eU:=zh (HX.out.below hb3 HX.out.lt);have Sk:=zh (DV.out.below hb3);clear HH hb3 d0 d1 HB HX DV;cases hat:Nm.attr p.1 with
   | false=>
    have HBAD:=zh (Nm.Cu HP.out hat);go_wp2_with fail
    go_ret
    exact .inl ⟨HBAD.out,rfl,HB3.out⟩
   | true=>
    have HAT:=zh hat;clear hat;go_wp2_with fail
    go_loopw [13] (fun k wr=>∃ u:Nat,k=.int .i64 (u:Int)∧u≤j∧Hid (Below w3.heap.size w3 wr)∧Hid (p.1.data.toList∉yx (l.take u))) (fun k _=>j - (intOf k).toNat)
    case atStart=>exact⟨0,rfl,Nat.zero_le _,zh (Below.refl _ _),zh (by simp[yx])⟩
    case round=>
     obtain⟨u,rfl,huj,Vl,HNO⟩:=hrel;have KX:=zh (HB3.out.trans (Vl.out.mono HB3.out.size));obtain⟨e0,e1⟩:=RP.out wr KX.out j p HP.out;by_cases hu:u<j
     ·have r1:(u:Int)<(j:Int):=by omega
      have r0:(0:Int)≤(u:Int):=by omega
      have r2:(u:Int)<(n:Int):=by omega
      obtain⟨q,hq⟩:∃ q,l[u]?=some q:=⟨l[u]'(by rw[HN.out];omega),by simp⟩
      have HQ:=zh hq;obtain⟨f0,-⟩:=RP.out wr KX.out u q hq;have HDR:=zh (aZ wr.heap.size wr);clear hq e1;cases hqe:(q.1.toList == p.1.toList) with
      | true=>
       have hin:p.1.data.toList∈yx (l.take j):=by
        have T9:q.1.toList=p.1.toList:=by simpa using hqe
        rw[←Lib.toList_data,←T9,Lib.toList_data];exact List.mem_map_of_mem (List.mem_of_getElem? (by rw[List.getElem?_take,if_pos hu];exact HQ.out))
       have HBAD:=zh (Nm.zF HP.out hin);clear hin;go_wp2_with fail
       go_region
       all_goals go_wp2_with fail
       all_goals go_ret
       all_goals exact .inl ⟨HBAD.out,rfl,KX.out.trans (HDR.out.mono KX.out.size)⟩
      | false=>
       have hno:p.1.data.toList∉yx (l.take (u+1)):=by
        rw[vC HQ.out];intro hm;rcases List.mem_append.1 hm with h | h
        ·exact HNO.out h
        ·have T9:¬ q.1.toList=p.1.toList:=by simpa using hqe
         exact T9 (by rw[Lib.toList_data,Lib.toList_data];exact (List.mem_singleton.1 h).symm)
       have aaz:=zh hno;clear hno;go_wp2_with fail
       go_region
       all_goals go_wp2_with fail
       all_goals go_roundw
       all_goals first | exact⟨u+1,by go_num,by omega,zh (Vl.out.trans (HDR.out.mono Vl.out.size)),aaz⟩ | (simp[intOf];omega)
     ·have aaA:u=j:=by omega
      subst aaA;have r1:¬ (u:Int)<(u:Int):=by omega
      have vX:=zh (eU.out.below Vl.out eU.out.lt);have Sm:=zh (Sk.out.below Vl.out);have Ua:=zh (FP p8.out HP.out HNO.out HAT.out);obtain⟨V,hV⟩:=eX (wr.drew)
      have oW:Below wr.heap.size wr V:=by rw[←hV];exact aZ _ wr
      have bW:=zh (KX.out.trans (oW.mono KX.out.size));have cZ:=zh (vX.out.below oW vX.out.lt);have J7:=zh (Sm.out.below oW);have Ub:=zh (jZ p.2 V (by omega));obtain⟨rv,mQ⟩:=eX (aX p.2)
      rw[show fA (bD.rep p.2.data.toList)=rv from mQ] at Ub;have Uc:=zh (show fZ p=(p.1,rv) by rw[←mQ];rfl);have HS:=zh (fun (W:World) (hb:Below w.heap.size w W)=>RP.out W hb u p HP.out);have x2:V.cell? ⟨w.heap.size,2,none⟩=some (.slice Av u cv):=cZ.out.cell 2;clear oW mQ vX Sm eU Sk HB3 Vl HNO;go_wp2_with fail;refine wp_region_noPanic ?_;refine wp_region_held_drew (S:=(fun W=>W.cell? ⟨ga,oa+u*2,none⟩=some (.string p.1)∧W.cell? ⟨ga,oa+u*2+1,none⟩=some (.string p.2))) (by kernel_rfl) ?_ (fun ah=>?_)
      ·exact (by rw[hV];exact HS.out V bW.out)
      rw[hV] at ah ⊢;refine bE [0,2,3,4,5,6,7,8,9,10,11] ?_;iterate 11 (refine jf ?_;try simp only[pS])
      refine bF ?_;refine yg 1 12 (fun K hK=>?_) fun K hK=>?_
      ·go_simp;refine hK.out _ _ (HS.out V bW.out) fun ah=>?_;clear hK K;(try simp only[pS]);refine bI 12 fun K hK=>?_;go_simp;refine Ub.out.mono ?_;rintro e w5 ⟨rfl,hb5⟩;have oK:=zh (bW.out.trans (hb5.mono bW.out.size));have gL:=zh (cZ.out.below hb5 cZ.out.lt);have BQ:=zh (J7.out.below hb5);have y2:w5.cell? ⟨w.heap.size,2,none⟩=some (.slice Av u cv):=gL.out.cell 2;obtain⟨w6,kZ⟩:=eX (w5.alloc (.cells #[.string p.1,.string rv] 96))
       have DW:Below w5.heap.size w5 w6:=gP kZ;have qb:=zh (oK.out.trans (DW.mono oK.out.size));have wI:=zh (gL.out.below DW gL.out.lt);have Ud:=zh (BQ.out.below DW);have z2:w6.cell? ⟨w.heap.size,2,none⟩=some (.slice Av u cv):=wI.out.cell 2;have hsrc:((.slice (some ⟨w5.heap.size,0,none⟩) 1 1:Value)=.slice none 0 0∧1=0)∨∃ a c,(.slice (some ⟨w5.heap.size,0,none⟩) 1 1:Value)=.slice (some a) 1 c∧∀ j u,(fF [(p.1,rv)])[j]?=some u→w6.cell? (a.add j)=some u:=by
        rw[←kZ];exact nL w5 96 (fF [(p.1,rv)])
       have hs6:w.heap.size≤w6.heap.size:=qb.out.size;have wR:=Ud.out;clear hb5 DW;refine hK.out _ _ (HS.out w5 oK.out) fun ah=>?_;clear hK K;(try simp only[pS]);refine bE [13] ?_
       (refine jf ?_;try simp only[pS])
       refine bF ?_;refine bI 14 fun K hK=>?_;go_simp;(try rw[kZ]);refine hK.out _ _ (HS.out w6 qb.out) fun ah=>?_;clear hK K;(try simp only[pS]);refine bI 15 fun K hK=>?_;refine aO rfl _ _ 65 rfl w.heap.size 96 iA (.agg #[.string ⟨#[]⟩,.string ⟨#[]⟩]) 2 32 Tryz.underlying65 NW zu zw zx rfl (by decide) _ u (fF ((l.take u).map fZ)) rfl wR _ 1 (fF [(p.1,rv)]) rfl rfl hsrc (gN _) ?c3 ?c4 hs6 ?_
       case c3=>unfold maxLen;omega
       case c4=>omega
       intro v7 w7 o7 g7 f7;rw[←jR] at o7;obtain⟨A7,c7,rfl⟩:=o7.form;have aP:=wI.out.grown g7 (fun e=>wR.unlike wI.out (by decide) e.symm);have kC:=zh (qb.out.grown g7 qb.out.size (fun j hj=>(wR.lt j hj).1));have k2:w7.cell? ⟨w.heap.size,2,none⟩=some (.slice Av u cv):=aP.cell 2;have k2f:=aP.free 2;have o8:=DU (w1:=w7) (w3:=w7) (va:=.slice none 0 0) (tX:=0) o7 aP (.slice A7 (u+1) c7);obtain⟨w8,hw8⟩:=eX (w7.setCell ⟨w.heap.size,2,none⟩ (.slice A7 (u+1) c7))
       rw[hw8] at o8;have kD:Hid (Whole w8 w.heap.size #[.int .i64 2,.string ⟨#[]⟩,(.slice A7 (u+1) c7),.string ⟨#[]⟩,.int .i64 (-1),.slice none 0 0,.bool false] 67):=zh (by rw[←hw8];exact aP.put 2 _);have g8:w7.grownBy w8 (some w.heap.size):=by rw[←hw8];exact aK (au (Below.refl w7.heap.size w7) _) 2 _
       have p9:=zh (kC.out.grown g8 kC.out.size (fun j hj=>by injection hj with hj;omega));have Vm:Hid (TR w8 w.heap.size 96 2 (.slice A7 (u+1) c7) (u+1) (fF ((l.take (u+1)).map fZ))):=zh (by rw[oL HP.out,Uc.out];exact o8);clear o7 g7 f7 aP o8 g8;refine hK.out _ _ (HS.out w7 kC.out) fun ah=>?_;clear hK K;(try simp only[pS]);refine bE [16] ?_
       (refine jf ?_;try simp only[pS])
       refine bF ?_;refine bI 17 fun K hK=>?_;go_simp;(try rw[hw8]);refine hK.out _ _ (HS.out w8 p9.out) fun ah=>?_;clear hK K;(try simp only[pS]);refine gq ?_;go_wp2_with fail
       go_roundw
       case rel=>exact⟨u+1,_,by go_num,by omega,Ua,kD,Vm,p9⟩
       case measure=>simp[intOf];omega
      ·go_simp;refine Ub.out.mono ?_;rintro e w5 ⟨rfl,hb5⟩;have oK:=zh (bW.out.trans (hb5.mono bW.out.size));have gL:=zh (cZ.out.below hb5 cZ.out.lt);have BQ:=zh (J7.out.below hb5);have y2:w5.cell? ⟨w.heap.size,2,none⟩=some (.slice Av u cv):=gL.out.cell 2;obtain⟨w6,kZ⟩:=eX (w5.alloc (.cells #[.string p.1,.string rv] 96))
       have DW:Below w5.heap.size w5 w6:=gP kZ;have qb:=zh (oK.out.trans (DW.mono oK.out.size));have wI:=zh (gL.out.below DW gL.out.lt);have Ud:=zh (BQ.out.below DW);have z2:w6.cell? ⟨w.heap.size,2,none⟩=some (.slice Av u cv):=wI.out.cell 2;have hsrc:((.slice (some ⟨w5.heap.size,0,none⟩) 1 1:Value)=.slice none 0 0∧1=0)∨∃ a c,(.slice (some ⟨w5.heap.size,0,none⟩) 1 1:Value)=.slice (some a) 1 c∧∀ j u,(fF [(p.1,rv)])[j]?=some u→w6.cell? (a.add j)=some u:=by
        rw[←kZ];exact nL w5 96 (fF [(p.1,rv)])
       have hs6:w.heap.size≤w6.heap.size:=qb.out.size;have wR:=Ud.out;clear hb5 DW;refine hK.out _ _ (HS.out w5 oK.out) fun ah=>?_;clear hK K;(try simp only[pS]);refine bE [13] ?_
       (refine jf ?_;try simp only[pS])
       refine bF ?_;refine yg 1 14 (fun K hK=>?_) fun K hK=>?_
       ·go_simp;refine hK.out _ _ (HS.out w5 oK.out) fun ah=>?_;clear hK K;(try simp only[pS]);refine bI 14 fun K hK=>?_;go_simp;(try rw[kZ]);refine hK.out _ _ (HS.out w6 qb.out) fun ah=>?_;clear hK K;(try simp only[pS]);refine bI 15 fun K hK=>?_;refine aO rfl _ _ 65 rfl w.heap.size 96 iA (.agg #[.string ⟨#[]⟩,.string ⟨#[]⟩]) 2 32 Tryz.underlying65 NW zu zw zx rfl (by decide) _ u (fF ((l.take u).map fZ)) rfl wR _ 1 (fF [(p.1,rv)]) rfl rfl hsrc (gN _) ?c3 ?c4 hs6 ?_
        case c3=>unfold maxLen;omega
        case c4=>omega
        intro v7 w7 o7 g7 f7;rw[←jR] at o7;obtain⟨A7,c7,rfl⟩:=o7.form;have aP:=wI.out.grown g7 (fun e=>wR.unlike wI.out (by decide) e.symm);have kC:=zh (qb.out.grown g7 qb.out.size (fun j hj=>(wR.lt j hj).1));have k2:w7.cell? ⟨w.heap.size,2,none⟩=some (.slice Av u cv):=aP.cell 2;have k2f:=aP.free 2;have o8:=DU (w1:=w7) (w3:=w7) (va:=.slice none 0 0) (tX:=0) o7 aP (.slice A7 (u+1) c7);obtain⟨w8,hw8⟩:=eX (w7.setCell ⟨w.heap.size,2,none⟩ (.slice A7 (u+1) c7))
        rw[hw8] at o8;have kD:Hid (Whole w8 w.heap.size #[.int .i64 2,.string ⟨#[]⟩,(.slice A7 (u+1) c7),.string ⟨#[]⟩,.int .i64 (-1),.slice none 0 0,.bool false] 67):=zh (by rw[←hw8];exact aP.put 2 _);have g8:w7.grownBy w8 (some w.heap.size):=by rw[←hw8];exact aK (au (Below.refl w7.heap.size w7) _) 2 _
        have p9:=zh (kC.out.grown g8 kC.out.size (fun j hj=>by injection hj with hj;omega));have Vm:Hid (TR w8 w.heap.size 96 2 (.slice A7 (u+1) c7) (u+1) (fF ((l.take (u+1)).map fZ))):=zh (by rw[oL HP.out,Uc.out];exact o8);clear o7 g7 f7 aP o8 g8;refine hK.out _ _ (HS.out w7 kC.out) fun ah=>?_;clear hK K;(try simp only[pS]);refine bE [16] ?_
        (refine jf ?_;try simp only[pS])
        refine bF ?_;refine bI 17 fun K hK=>?_;go_simp;(try rw[hw8]);refine hK.out _ _ (HS.out w8 p9.out) fun ah=>?_;clear hK K;(try simp only[pS]);refine gq ?_;go_wp2_with fail
        go_roundw
        case rel=>exact⟨u+1,_,by go_num,by omega,Ua,kD,Vm,p9⟩
        case measure=>simp[intOf];omega
       ·go_simp;(try rw[kZ]);refine hK.out _ _ (HS.out w6 qb.out) fun ah=>?_;clear hK K;(try simp only[pS]);refine bI 1 fun K hK=>?_;go_simp;refine hK.out _ _ (HS.out w6 qb.out) fun ah=>?_;clear hK K;(try simp only[pS]);refine bI 15 fun K hK=>?_;refine aO rfl _ _ 65 rfl w.heap.size 96 iA (.agg #[.string ⟨#[]⟩,.string ⟨#[]⟩]) 2 32 Tryz.underlying65 NW zu zw zx rfl (by decide) _ u (fF ((l.take u).map fZ)) rfl wR _ 1 (fF [(p.1,rv)]) rfl rfl hsrc (gN _) ?c3 ?c4 hs6 ?_
        case c3=>unfold maxLen;omega
        case c4=>omega
        intro v7 w7 o7 g7 f7;rw[←jR] at o7;obtain⟨A7,c7,rfl⟩:=o7.form;have aP:=wI.out.grown g7 (fun e=>wR.unlike wI.out (by decide) e.symm);have kC:=zh (qb.out.grown g7 qb.out.size (fun j hj=>(wR.lt j hj).1));have k2:w7.cell? ⟨w.heap.size,2,none⟩=some (.slice Av u cv):=aP.cell 2;have k2f:=aP.free 2;have o8:=DU (w1:=w7) (w3:=w7) (va:=.slice none 0 0) (tX:=0) o7 aP (.slice A7 (u+1) c7);obtain⟨w8,hw8⟩:=eX (w7.setCell ⟨w.heap.size,2,none⟩ (.slice A7 (u+1) c7))
        rw[hw8] at o8;have kD:Hid (Whole w8 w.heap.size #[.int .i64 2,.string ⟨#[]⟩,(.slice A7 (u+1) c7),.string ⟨#[]⟩,.int .i64 (-1),.slice none 0 0,.bool false] 67):=zh (by rw[←hw8];exact aP.put 2 _);have g8:w7.grownBy w8 (some w.heap.size):=by rw[←hw8];exact aK (au (Below.refl w7.heap.size w7) _) 2 _
        have p9:=zh (kC.out.grown g8 kC.out.size (fun j hj=>by injection hj with hj;omega));have Vm:Hid (TR w8 w.heap.size 96 2 (.slice A7 (u+1) c7) (u+1) (fF ((l.take (u+1)).map fZ))):=zh (by rw[oL HP.out,Uc.out];exact o8);clear o7 g7 f7 aP o8 g8;refine hK.out _ _ (HS.out w7 kC.out) fun ah=>?_;clear hK K;(try simp only[pS]);refine bE [16] ?_
        (refine jf ?_;try simp only[pS])
        refine bF ?_;refine bI 17 fun K hK=>?_;go_simp;(try rw[hw8]);refine hK.out _ _ (HS.out w8 p9.out) fun ah=>?_;clear hK K;(try simp only[pS]);refine gq ?_;go_wp2_with fail
        go_roundw
        case rel=>exact⟨u+1,_,by go_num,by omega,Ua,kD,Vm,p9⟩
        case measure=>simp[intOf];omega
  ·have Xg:j=n:=by omega
   have r1:¬ (j:Int)<(n:Int):=by omega
   have wP:=zh (Kl p8.out (by rw[HN.out];omega));have hlm:l.take j=l:=List.take_of_length_le (by rw[HN.out];omega);have hrow:=DV.out;rw[hlm] at hrow;have YV:=zh (show (l.map fZ).length=j by rw[List.length_map,HN.out,Xg]);have HRW:=zh hrow;have y1:wr.cell? ⟨w.heap.size,1,none⟩=some (.string ⟨#[]⟩):=HX.out.cell 1;have f1:=HX.out.free 1;obtain⟨w4,hw4⟩:=eX (wr.setCell ⟨w.heap.size,1,none⟩ (.string nm))
   have bg:Whole w4 w.heap.size #[.int .i64 2,.string nm,.slice Av j cv,.string ⟨#[]⟩,.int .i64 (-1),.slice none 0 0,.bool false] 67:=by rw[←hw4];exact HX.out.put 1 (.string nm)
   have g4:wr.grownBy w4 (some w.heap.size):=by rw[←hw4];exact aK (au (Below.refl wr.heap.size wr) _) _ _
   have bR:=HB.out.grown g4 HB.out.size (fun j hj=>by simp at hj;omega);have hr4:=hrow.kept g4 (.inr (hrow.unlike HX.out (by decide)));have DX:=HM.out w4 bR;have c0:w4.cell? ⟨M,0,none⟩=some (.slice A m c):=DX.var.cell 0;have z0:=DX.var.free 0;have x0:w4.cell? ⟨w.heap.size,0,none⟩=some (.int .i64 2):=bg.cell 0;have x1:w4.cell? ⟨w.heap.size,1,none⟩=some (.string nm):=bg.cell 1;have x2:w4.cell? ⟨w.heap.size,2,none⟩=some (.slice Av j cv):=bg.cell 2;have x3:w4.cell? ⟨w.heap.size,3,none⟩=some (.string ⟨#[]⟩):=bg.cell 3;have x4:w4.cell? ⟨w.heap.size,4,none⟩=some (.int .i64 (-1)):=bg.cell 4;have x5:w4.cell? ⟨w.heap.size,5,none⟩=some (.slice none 0 0):=bg.cell 5;have x6:w4.cell? ⟨w.heap.size,6,none⟩=some (.bool false):=bg.cell 6;obtain⟨w5,fU⟩:=eX (w4.drew.alloc (.cells #[.int .i64 2,.string nm,.slice Av j cv,.string ⟨#[]⟩,.int .i64 (-1),.slice none 0 0,.bool false] 67))
   have eY:Below w4.heap.size w4 w5:=by rw[←fU];exact (aZ _ w4).alloc (Nat.le_refl _) _
   have dR:=bg.below eY bg.lt;have P8:=DX.below eY;have wS:=hr4.below eY;have dZ:=bR.trans (eY.mono bR.size);have c5:w5.cell? ⟨M,0,none⟩=some (.slice A m c):=P8.var.cell 0;have z5:=P8.var.free 0;have hsrc:w5.ownsRow w4.heap.size 67 7 (.slice (some ⟨w4.heap.size,0,none⟩) 1 1) 1 [.int .i64 2,.string nm,.slice Av j cv,.string ⟨#[]⟩,.int .i64 (-1),.slice none 0 0,.bool false]:=by
    rw[←fU];exact World.ownsRow_lit (base:=w4.heap.size) (e:=67) (size:=7) w4.drew #[.int .i64 2,.string nm,.slice Av j cv,.string ⟨#[]⟩,.int .i64 (-1),.slice none 0 0,.bool false] 1 (Nat.le_refl _) (by unfold maxLen;omega) rfl
   have Ue:base≤w5.heap.size:=by have:=eY.size;have:=bR.size;omega
   have Kj:=zh (show w4.drew.cell? ⟨w.heap.size,0,none⟩=some (.int .i64 2)∧w4.drew.cell? ⟨w.heap.size,1,none⟩=some (.string nm)∧w4.drew.cell? ⟨w.heap.size,2,none⟩=some (.slice Av j cv)∧w4.drew.cell? ⟨w.heap.size,3,none⟩=some (.string ⟨#[]⟩)∧w4.drew.cell? ⟨w.heap.size,4,none⟩=some (.int .i64 (-1))∧w4.drew.cell? ⟨w.heap.size,5,none⟩=some (.slice none 0 0)∧w4.drew.cell? ⟨w.heap.size,6,none⟩=some (.bool false) from⟨bg.cell 0,bg.cell 1,bg.cell 2,bg.cell 3,bg.cell 4,bg.cell 5,bg.cell 6⟩);have IY:=zh (show w5.cell? ⟨w.heap.size,0,none⟩=some (.int .i64 2)∧w5.cell? ⟨w.heap.size,1,none⟩=some (.string nm)∧w5.cell? ⟨w.heap.size,2,none⟩=some (.slice Av j cv)∧w5.cell? ⟨w.heap.size,3,none⟩=some (.string ⟨#[]⟩)∧w5.cell? ⟨w.heap.size,4,none⟩=some (.int .i64 (-1))∧w5.cell? ⟨w.heap.size,5,none⟩=some (.slice none 0 0)∧w5.cell? ⟨w.heap.size,6,none⟩=some (.bool false) from⟨dR.cell 0,dR.cell 1,dR.cell 2,dR.cell 3,dR.cell 4,dR.cell 5,dR.cell 6⟩);have gL:=zh dR;have Ib:=zh dZ;have BQ:=zh wS;have HMO:=zh (HM.out w (Below.refl _ w));have hrM:=P8.row;clear bg dR g4 bR DX eY dZ hr4 wS hrow hlm HX DV HB Xg;go_wp2_with fail;(try rw[hw4]);(try go_wp2_with fail);refine wp_region_noPanic ?_;refine wp_region_held_drew (S:=(fun W=>W.cell? ⟨w.heap.size,0,none⟩=some (.int .i64 2)∧W.cell? ⟨w.heap.size,1,none⟩=some (.string nm)∧W.cell? ⟨w.heap.size,2,none⟩=some (.slice Av j cv)∧W.cell? ⟨w.heap.size,3,none⟩=some (.string ⟨#[]⟩)∧W.cell? ⟨w.heap.size,4,none⟩=some (.int .i64 (-1))∧W.cell? ⟨w.heap.size,5,none⟩=some (.slice none 0 0)∧W.cell? ⟨w.heap.size,6,none⟩=some (.bool false))) (by kernel_rfl) ?_ (fun ah=>?_)
   ·exact Kj.out
   refine bE [0,1,2,3,5] ?_;iterate 5 (refine jf ?_;try simp only[pS])
   refine bF ?_;apply yU
   ·intro KEY;refine yg 4 6 (fun K hK=>?_) fun K hK=>?_
    ·go_simp;refine hK.out _ _ (Kj.out) fun ah=>?_;clear hK K;(try simp only[pS]);refine bI 6 fun K hK=>?_;go_simp;(try rw[fU]);refine hK.out _ _ (IY.out) fun ah=>?_;clear hK K;(try simp only[pS]);exact KEY
    ·go_simp;(try rw[fU]);refine hK.out _ _ (IY.out) fun ah=>?_;clear hK K;(try simp only[pS]);refine bI 4 fun K hK=>?_;go_simp;refine hK.out _ _ (IY.out) fun ah=>?_;clear hK K;(try simp only[pS]);exact KEY
   refine bI 7 fun K hK=>?_;refine cu rfl _ _ 68 rfl base w4.heap.size 67 i0 (.agg #[.int .i64 0,.string ⟨#[]⟩,.slice none 0 0,.string ⟨#[]⟩,.int .i64 0,.slice none 0 0,.bool false]) 7 104 Tryz.underlying68 hi0 hz0 hz1 hz2 rfl (by decide) _ m (bO pQ m f) rfl hrM _ 1 [.int .i64 2,.string nm,.slice Av j cv,.string ⟨#[]⟩,.int .i64 (-1),.slice none 0 0,.bool false] rfl hsrc ?c3 ?c4 ?c5 Ue ?_
   case c3=>exact lT ⟨2,nm,⟨Av,j,cv⟩,l.map fZ,⟨#[]⟩,-1,⟨none,0,0⟩,[],false⟩
   case c4=>unfold maxLen;omega
   case c5=>omega
   intro v6 w6 o6 g6 f6;obtain⟨A6,c6,rfl⟩:=aG (aH o6);have hpush:=HMO.out.push (x:=⟨2,nm,⟨Av,j,cv⟩,l.map fZ,⟨#[]⟩,-1,⟨none,0,0⟩,[],false⟩) Ib.out g6 o6 f6 rfl rfl (by show TR _ _ _ _ (.slice Av j cv) (l.map fZ).length _;rw[YV.out];exact BQ.out);obtain⟨v6,qQ,yh⟩:=hpush;have k6:w6.cell? ⟨M,0,none⟩=some (.slice A m c):=v6.cell 0;have k6f:=v6.free 0;have fQ:=gL.out.grown g6 (fun e=>by have:=TY.out _ e.symm;omega);obtain⟨w7,hw7⟩:=eX (w6.setCell ⟨M,0,none⟩ (.slice A6 (m+1) c6))
   rw[hw7] at qQ yh;have aP:Whole w7 w.heap.size #[.int .i64 2,.string nm,.slice Av j cv,.string ⟨#[]⟩,.int .i64 (-1),.slice none 0 0,.bool false] 67:=by rw[←hw7];exact fQ.other (by show w.heap.size≠M;omega) _
   have Sn:=(⟨fQ.cell 0,fQ.cell 1,fQ.cell 2,fQ.cell 3,fQ.cell 4,fQ.cell 5,fQ.cell 6⟩:w6.cell? ⟨w.heap.size,0,none⟩=some (.int .i64 2)∧w6.cell? ⟨w.heap.size,1,none⟩=some (.string nm)∧w6.cell? ⟨w.heap.size,2,none⟩=some (.slice Av j cv)∧w6.cell? ⟨w.heap.size,3,none⟩=some (.string ⟨#[]⟩)∧w6.cell? ⟨w.heap.size,4,none⟩=some (.int .i64 (-1))∧w6.cell? ⟨w.heap.size,5,none⟩=some (.slice none 0 0)∧w6.cell? ⟨w.heap.size,6,none⟩=some (.bool false))
   have qR:=(⟨aP.cell 0,aP.cell 1,aP.cell 2,aP.cell 3,aP.cell 4,aP.cell 5,aP.cell 6⟩:w7.cell? ⟨w.heap.size,0,none⟩=some (.int .i64 2)∧w7.cell? ⟨w.heap.size,1,none⟩=some (.string nm)∧w7.cell? ⟨w.heap.size,2,none⟩=some (.slice Av j cv)∧w7.cell? ⟨w.heap.size,3,none⟩=some (.string ⟨#[]⟩)∧w7.cell? ⟨w.heap.size,4,none⟩=some (.int .i64 (-1))∧w7.cell? ⟨w.heap.size,5,none⟩=some (.slice none 0 0)∧w7.cell? ⟨w.heap.size,6,none⟩=some (.bool false))
   have bf:=zh (And.intro qQ yh);clear qQ yh aP fQ o6 g6 f6 v6;refine hK.out _ _ (Sn) fun ah=>?_;clear hK K;(try simp only[pS]);refine bE [8,9] ?_;iterate 2 (refine jf ?_;try simp only[pS])
   refine bF ?_;refine bI 10 fun K hK=>?_;go_simp;(try rw[hw7]);refine hK.out _ _ (qR) fun ah=>?_;clear hK K;(try simp only[pS]);refine gq ?_;go_wp2_with fail
   go_ret
   exact .inr ⟨wP.out,_,_,rfl,bf.out.1,bf.out.2⟩
end
end Go.Proofs.YtnbaadpgbcklaaaGreatDoor
