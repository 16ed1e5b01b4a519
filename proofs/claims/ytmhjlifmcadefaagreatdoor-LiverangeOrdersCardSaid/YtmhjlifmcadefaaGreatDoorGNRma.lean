/- Part of a proof about trees. -/
import Derived.Test.YtmhjlifmcadefaaGreatDoorS04
set_option linter.unusedVariables false
set_option linter.unusedSimpArgs false
set_option maxHeartbeats 8000000
set_option maxRecDepth 100000
namespace Go.Proofs.YtmhjlifmcadefaaGreatDoor
section
open Go.RowKit
def aaM (base M m:Nat) (vs:Value) (f:Nat→RS) (nm:ByteArray) (l:List (ByteArray×ByteArray)) (w:World) (e:Ending) (w':World):Prop:=
 (Nm.attrs l=false∧e=.returned (.int .i64 1)∧Below w.heap.size w w')∨
 (Nm.attrs l=true∧∃ vs' sl,e=.returned (.int .i64 0)∧MV base w' M vs' (m+1) (gZ m f ⟨2,nm,sl,l.map fT,⟨#[]⟩,-1,⟨none,0,0⟩,[],false⟩)∧aB w w' (aC M vs m f) (aC M vs' (m+1) (gZ m f ⟨2,nm,sl,l.map fT,⟨#[]⟩,-1,⟨none,0,0⟩,[],false⟩)))
theorem oM {l:List (ByteArray×ByteArray)} {j:Nat} {p:ByteArray×ByteArray} (hp:l[j]?=some p):(l.take (j+1)).map fT=(l.take j).map fT++[fT p]:=by
 rw[List.take_add_one,hp,List.map_append];rfl
theorem EN {w1 w2 w3:World} {b X:Nat} {va v2:Value} {j:Nat} {xs:List Value} {vs:Array Value} {tX:TypeId} (o:TR w2 b 96 2 v2 j xs) (hX:Whole w2 X vs 75) (v:Value):TR (w2.setCell ⟨X,2,none⟩ v) b 96 2 v2 j xs:=by
 have g:w2.grownBy (w2.setCell ⟨X,2,none⟩ v) (some X):=aJ (ay (Below.refl w2.heap.size w2) _) 2 v;exact o.kept g (.inr (o.unlike hX (by decide)))
theorem yw (base M m:Nat) (vs:Value) (aA:Option Addr) (cA:Nat) (l:List (ByteArray×ByteArray)) (f:Nat→RS) (nm dt:ByteArray) (w:World) (H:MV base w M vs m f) (HA:TR w 0 96 2 (.slice aA l.length cA) l.length (fP l)) (he:Nm.elem nm=true) (hbase:base≤w.heap.size) (hm:m≤100000) (hs:nm.size≤10000) (hl:l.length≤64) (hvs:∀ p∈l,p.1.size≤10000∧p.2.size≤6000):
  Calls Tryz.prog 31 #[.pointer (some ⟨M,0,none⟩),.int .i64 2,.string nm,.string dt,.slice aA l.length cA] w fun e w'=>aaM base M m vs f nm l w e w':=by
 obtain⟨i0,hi0,hz0,hz1,hz2⟩:=info_parts wY;obtain⟨iA,VJ,JB,JC,JD⟩:=info_parts pQ;obtain⟨A,c,rfl⟩:=H.form;obtain⟨w1,hw1⟩:=eX (w.alloc (.cells #[.int .i64 2,.string ⟨#[]⟩,.slice none 0 0,.string ⟨#[]⟩,.int .i64 (-1),.slice none 0 0,.bool false] 75))
 have hb1:Below w.heap.size w w1:=fI hw1;have hX1:Whole w1 w.heap.size #[.int .i64 2,.string ⟨#[]⟩,.slice none 0 0,.string ⟨#[]⟩,.int .i64 (-1),.slice none 0 0,.bool false] 75:=by rw[←hw1];exact Whole.new w _ _
 have hR:=vR nm w1 hs;rw[he] at hR;have HR:=zh hR;have fQ:=zh hX1;have HB1:=zh hb1;have HW1:=zh hw1;have HM:=zh (fun (W:World) (hb:Below w.heap.size w W)=>H.below hb);have HAW:=zh (fun (W:World) (hb:Below w.heap.size w W)=>HA.below hb);have YL:M<w.heap.size:=H.var.lt;have V4:=zh (fun x (hx:(Value.slice A m c).ownBlock=some x)=>(H.lt x (Or.inr (Or.inl hx))).2);have HVS:=zh (fun (j:Nat) (p:ByteArray×ByteArray) (hj:l[j]?=some p)=>hvs p (List.mem_of_getElem? hj));obtain⟨n,hn⟩:=eX (l.length)
 have HN:=zh hn;rw[hn] at hl;clear hR hX1 hb1 hw1 H HA hs hvs;rw[hn];clear hn
 go_enter Tryz.func31,Tryz.ntmps31
 go_wp2_with fail;rw[HW1.out];refine HR.out.mono ?_;rintro e w2 ⟨rfl,hb2⟩;have hX2:=fQ.out.below hb2 fQ.out.lt;have dV:=HB1.out.trans (hb2.mono HB1.out.size);have gG:=zh hX2;have HB2:=zh dV;clear hb2 dV hX2 fQ HB1 HR;go_wp2_with fail
 go_loopw [12] (fun i wr=>∃ (j:Nat) (va:Value),i=.int .i64 (j:Int)∧j≤n∧Hid (UH l j)∧Hid (Whole wr w.heap.size #[.int .i64 2,.string ⟨#[]⟩,va,.string ⟨#[]⟩,.int .i64 (-1),.slice none 0 0,.bool false] 75)∧Hid (TR wr w.heap.size 96 2 va j (fP ((l.take j).map fT)))∧Hid (Below w.heap.size w wr)) (fun i _=>n - (intOf i).toNat)
 case atStart=>exact⟨0,.slice none 0 0,rfl,Nat.zero_le _,zh (Gu l),gG,zh (TR.nil _ _ _ _),HB2⟩
 case round=>
  obtain⟨j,va,rfl,hj,ql,HX,AB,HB⟩:=hrel;obtain⟨Av,cv,rfl⟩:=AB.out.form;by_cases hjn:j<n
  ·have p1:(j:Int)<(n:Int):=by omega
   have p0:(0:Int)≤(j:Int):=by omega
   obtain⟨p,hp⟩:∃ p,l[j]?=some p:=⟨l[j]'(by rw[HN.out];exact hjn),by simp⟩
   have HP:=zh hp;obtain⟨ga,oa,rfl,-⟩:=(HAW.out wr HB.out).cells (by rw[HN.out];omega);have Rw:=zh (fun (W:World) (hb:Below w.heap.size w W) (k:Nat) (q:ByteArray×ByteArray) (hq:l[k]?=some q)=>by
    have hk:k<l.length:=(List.getElem?_eq_some_iff.1 hq).1;have h:=HAW.out W hb
    exact And.intro (h.cellAt (k*2) _ (by omega) (ji _ _ _ hq).1) (show W.cell? ⟨ga,oa+k*2+1,none⟩=some (.string q.2) by rw[Nat.add_assoc];exact h.cellAt (k*2+1) _ (by omega) (ji _ _ _ hq).2))
   obtain⟨d0,d1⟩:=Rw.out wr HB.out j p hp;have hsz:=HVS.out j p hp;have HH:=zh (om p.1 wr hsz.1);clear hp;go_wp2_with fail;refine HH.out.mono ?_;rintro e w3 ⟨rfl,hb3⟩;have HB3:=zh (HB.out.trans (hb3.mono HB.out.size));have eU:=zh (HX.out.below hb3 HX.out.lt);have UJ:=zh (AB.out.below hb3);clear HH hb3 d0 d1 HB HX AB;cases hat:Nm.attr p.1 with
   | false=>
    have HBAD:=zh (Nm.DF HP.out hat);go_wp2_with fail
    go_ret
    exact .inl ⟨HBAD.out,rfl,HB3.out⟩
   | true=>
    have HAT:=zh hat;clear hat;go_wp2_with fail
    go_loopw [13] (fun k wr=>∃ u:Nat,k=.int .i64 (u:Int)∧u≤j∧Hid (Below w3.heap.size w3 wr)∧Hid (p.1.data.toList∉yR (l.take u))) (fun k _=>j - (intOf k).toNat)
    case atStart=>exact⟨0,rfl,Nat.zero_le _,zh (Below.refl _ _),zh (by simp[yR])⟩
    case round=>
     obtain⟨u,rfl,huj,XJ,Y8⟩:=hrel;have uo:=zh (HB3.out.trans (XJ.out.mono HB3.out.size));obtain⟨e0,e1⟩:=Rw.out wr uo.out j p HP.out;by_cases hu:u<j
     ·have r1:(u:Int)<(j:Int):=by omega
      have r0:(0:Int)≤(u:Int):=by omega
      have r2:(u:Int)<(n:Int):=by omega
      obtain⟨q,hq⟩:∃ q,l[u]?=some q:=⟨l[u]'(by rw[HN.out];omega),by simp⟩
      have HQ:=zh hq;obtain⟨f0,-⟩:=Rw.out wr uo.out u q hq;have HDR:=zh (bf wr.heap.size wr);clear hq e1;cases hqe:(q.1.toList == p.1.toList) with
      | true=>
       have hin:p.1.data.toList∈yR (l.take j):=by
        have Wd:q.1.toList=p.1.toList:=by simpa using hqe
        rw[←Lib.toList_data,←Wd,Lib.toList_data];exact List.mem_map_of_mem (List.mem_of_getElem? (by rw[List.getElem?_take,if_pos hu];exact HQ.out))
       have HBAD:=zh (Nm.AJ HP.out hin);clear hin;go_wp2_with fail
       go_region
       all_goals go_wp2_with fail
       all_goals go_ret
       all_goals exact .inl ⟨HBAD.out,rfl,uo.out.trans (HDR.out.mono uo.out.size)⟩
      | false=>
       have hno:p.1.data.toList∉yR (l.take (u+1)):=by
        rw[vS HQ.out];intro hm;rcases List.mem_append.1 hm with h | h
        ·exact Y8.out h
        ·have Wd:¬ q.1.toList=p.1.toList:=by simpa using hqe
         exact Wd (by rw[Lib.toList_data,Lib.toList_data];exact (List.mem_singleton.1 h).symm)
       have aaN:=zh hno;clear hno;go_wp2_with fail
       go_region
       all_goals go_wp2_with fail
       all_goals go_roundw
       all_goals first | exact⟨u+1,by go_num,by omega,zh (XJ.out.trans (HDR.out.mono XJ.out.size)),aaN⟩ | (simp[intOf];omega)
     ·have aaO:u=j:=by omega
      subst aaO;have r1:¬ (u:Int)<(u:Int):=by omega
      have uM:=zh (eU.out.below XJ.out eU.out.lt);have UK:=zh (UJ.out.below XJ.out);have Wh:=zh (Gv ql.out HP.out Y8.out HAT.out);obtain⟨V,hV⟩:=eX (wr.drew)
      have sQ:Below wr.heap.size wr V:=by rw[←hV];exact bf _ wr
      have bK:=zh (uo.out.trans (sQ.mono uo.out.size));have dH:=zh (uM.out.below sQ uM.out.lt);have Lf:=zh (UK.out.below sQ);have Wi:=zh (kC p.2 V (by omega));obtain⟨rv,mW⟩:=eX (aZ p.2)
      rw[show fB (bB.rep p.2.data.toList)=rv from mW] at Wi;have Wj:=zh (show fT p=(p.1,rv) by rw[←mW];rfl);have HS:=zh (fun (W:World) (hb:Below w.heap.size w W)=>Rw.out W hb u p HP.out);have x2:V.cell? ⟨w.heap.size,2,none⟩=some (.slice Av u cv):=dH.out.cell 2;clear sQ mW uM UK eU UJ HB3 XJ Y8;go_wp2_with fail;refine wp_region_noPanic ?_;refine wp_region_held_drew (S:=(fun W=>W.cell? ⟨ga,oa+u*2,none⟩=some (.string p.1)∧W.cell? ⟨ga,oa+u*2+1,none⟩=some (.string p.2))) (by kernel_rfl) ?_ (fun ah=>?_)
      ·exact (by rw[hV];exact HS.out V bK.out)
      rw[hV] at ah ⊢;refine bn [0,2,3,4,5,6,7,8,9,10,11] ?_;iterate 11 (refine jf ?_;try simp only[pS])
      refine bq ?_;refine zQ 1 12 (fun K hK=>?_) fun K hK=>?_
      ·go_simp;refine hK.out _ _ (HS.out V bK.out) fun ah=>?_;clear hK K;(try simp only[pS]);refine bG 12 fun K hK=>?_;go_simp;refine Wi.out.mono ?_;rintro e w5 ⟨rfl,hb5⟩;have jg:=zh (bK.out.trans (hb5.mono bK.out.size));have iJ:=zh (dH.out.below hb5 dH.out.lt);have Di:=zh (Lf.out.below hb5);have y2:w5.cell? ⟨w.heap.size,2,none⟩=some (.slice Av u cv):=iJ.out.cell 2;obtain⟨w6,kZ⟩:=eX (w5.alloc (.cells #[.string p.1,.string rv] 96))
       have EO:Below w5.heap.size w5 w6:=fI kZ;have iQ:=zh (jg.out.trans (EO.mono jg.out.size));have wU:=zh (iJ.out.below EO iJ.out.lt);have Wm:=zh (Di.out.below EO);have z2:w6.cell? ⟨w.heap.size,2,none⟩=some (.slice Av u cv):=wU.out.cell 2;have hsrc:((.slice (some ⟨w5.heap.size,0,none⟩) 1 1:Value)=.slice none 0 0∧1=0)∨∃ a c,(.slice (some ⟨w5.heap.size,0,none⟩) 1 1:Value)=.slice (some a) 1 c∧∀ j u,(fP [(p.1,rv)])[j]?=some u→w6.cell? (a.add j)=some u:=by
        rw[←kZ];exact nM w5 96 (fP [(p.1,rv)])
       have hs6:w.heap.size≤w6.heap.size:=iQ.out.size;have xk:=Wm.out;clear hb5 EO;refine hK.out _ _ (HS.out w5 jg.out) fun ah=>?_;clear hK K;(try simp only[pS]);refine bn [13] ?_
       (refine jf ?_;try simp only[pS])
       refine bq ?_;refine bG 14 fun K hK=>?_;go_simp;(try rw[kZ]);refine hK.out _ _ (HS.out w6 iQ.out) fun ah=>?_;clear hK K;(try simp only[pS]);refine bG 15 fun K hK=>?_;refine aQ rfl _ _ 73 rfl w.heap.size 96 iA (.agg #[.string ⟨#[]⟩,.string ⟨#[]⟩]) 2 32 Tryz.underlying73 VJ JB JC JD rfl (by decide) _ u (fP ((l.take u).map fT)) rfl xk _ 1 (fP [(p.1,rv)]) rfl rfl hsrc (jl _) ?c3 ?c4 hs6 ?_
       case c3=>unfold maxLen;omega
       case c4=>omega
       intro v7 w7 o7 g7 f7;rw[←jT] at o7;obtain⟨A7,c7,rfl⟩:=o7.form;have aL:=wU.out.grown g7 (fun e=>xk.unlike wU.out (by decide) e.symm);have lT:=zh (iQ.out.grown g7 iQ.out.size (fun j hj=>(xk.lt j hj).1));have k2:w7.cell? ⟨w.heap.size,2,none⟩=some (.slice Av u cv):=aL.cell 2;have k2f:=aL.free 2;have o8:=EN (w1:=w7) (w3:=w7) (va:=.slice none 0 0) (tX:=0) o7 aL (.slice A7 (u+1) c7);obtain⟨w8,hw8⟩:=eX (w7.setCell ⟨w.heap.size,2,none⟩ (.slice A7 (u+1) c7))
       rw[hw8] at o8;have pq:Hid (Whole w8 w.heap.size #[.int .i64 2,.string ⟨#[]⟩,(.slice A7 (u+1) c7),.string ⟨#[]⟩,.int .i64 (-1),.slice none 0 0,.bool false] 75):=zh (by rw[←hw8];exact aL.put 2 _);have g8:w7.grownBy w8 (some w.heap.size):=by rw[←hw8];exact aJ (ay (Below.refl w7.heap.size w7) _) 2 _
       have uE:=zh (lT.out.grown g8 lT.out.size (fun j hj=>by injection hj with hj;omega));have XK:Hid (TR w8 w.heap.size 96 2 (.slice A7 (u+1) c7) (u+1) (fP ((l.take (u+1)).map fT))):=zh (by rw[oM HP.out,Wj.out];exact o8);clear o7 g7 f7 aL o8 g8;refine hK.out _ _ (HS.out w7 lT.out) fun ah=>?_;clear hK K;(try simp only[pS]);refine bn [16] ?_
       (refine jf ?_;try simp only[pS])
       refine bq ?_;refine bG 17 fun K hK=>?_;go_simp;(try rw[hw8]);refine hK.out _ _ (HS.out w8 uE.out) fun ah=>?_;clear hK K;(try simp only[pS]);refine eY ?_;go_wp2_with fail
       go_roundw
       case rel=>exact⟨u+1,_,by go_num,by omega,Wh,pq,XK,uE⟩
       case measure=>simp[intOf];omega
      ·go_simp;refine Wi.out.mono ?_;rintro e w5 ⟨rfl,hb5⟩;have jg:=zh (bK.out.trans (hb5.mono bK.out.size));have iJ:=zh (dH.out.below hb5 dH.out.lt);have Di:=zh (Lf.out.below hb5);have y2:w5.cell? ⟨w.heap.size,2,none⟩=some (.slice Av u cv):=iJ.out.cell 2;obtain⟨w6,kZ⟩:=eX (w5.alloc (.cells #[.string p.1,.string rv] 96))
       have EO:Below w5.heap.size w5 w6:=fI kZ;have iQ:=zh (jg.out.trans (EO.mono jg.out.size));have wU:=zh (iJ.out.below EO iJ.out.lt);have Wm:=zh (Di.out.below EO);have z2:w6.cell? ⟨w.heap.size,2,none⟩=some (.slice Av u cv):=wU.out.cell 2;have hsrc:((.slice (some ⟨w5.heap.size,0,none⟩) 1 1:Value)=.slice none 0 0∧1=0)∨∃ a c,(.slice (some ⟨w5.heap.size,0,none⟩) 1 1:Value)=.slice (some a) 1 c∧∀ j u,(fP [(p.1,rv)])[j]?=some u→w6.cell? (a.add j)=some u:=by
        rw[←kZ];exact nM w5 96 (fP [(p.1,rv)])
       have hs6:w.heap.size≤w6.heap.size:=iQ.out.size;have xk:=Wm.out;clear hb5 EO;refine hK.out _ _ (HS.out w5 jg.out) fun ah=>?_;clear hK K;(try simp only[pS]);refine bn [13] ?_
       (refine jf ?_;try simp only[pS])
       refine bq ?_;refine zQ 1 14 (fun K hK=>?_) fun K hK=>?_
       ·go_simp;refine hK.out _ _ (HS.out w5 jg.out) fun ah=>?_;clear hK K;(try simp only[pS]);refine bG 14 fun K hK=>?_;go_simp;(try rw[kZ]);refine hK.out _ _ (HS.out w6 iQ.out) fun ah=>?_;clear hK K;(try simp only[pS]);refine bG 15 fun K hK=>?_;refine aQ rfl _ _ 73 rfl w.heap.size 96 iA (.agg #[.string ⟨#[]⟩,.string ⟨#[]⟩]) 2 32 Tryz.underlying73 VJ JB JC JD rfl (by decide) _ u (fP ((l.take u).map fT)) rfl xk _ 1 (fP [(p.1,rv)]) rfl rfl hsrc (jl _) ?c3 ?c4 hs6 ?_
        case c3=>unfold maxLen;omega
        case c4=>omega
        intro v7 w7 o7 g7 f7;rw[←jT] at o7;obtain⟨A7,c7,rfl⟩:=o7.form;have aL:=wU.out.grown g7 (fun e=>xk.unlike wU.out (by decide) e.symm);have lT:=zh (iQ.out.grown g7 iQ.out.size (fun j hj=>(xk.lt j hj).1));have k2:w7.cell? ⟨w.heap.size,2,none⟩=some (.slice Av u cv):=aL.cell 2;have k2f:=aL.free 2;have o8:=EN (w1:=w7) (w3:=w7) (va:=.slice none 0 0) (tX:=0) o7 aL (.slice A7 (u+1) c7);obtain⟨w8,hw8⟩:=eX (w7.setCell ⟨w.heap.size,2,none⟩ (.slice A7 (u+1) c7))
        rw[hw8] at o8;have pq:Hid (Whole w8 w.heap.size #[.int .i64 2,.string ⟨#[]⟩,(.slice A7 (u+1) c7),.string ⟨#[]⟩,.int .i64 (-1),.slice none 0 0,.bool false] 75):=zh (by rw[←hw8];exact aL.put 2 _);have g8:w7.grownBy w8 (some w.heap.size):=by rw[←hw8];exact aJ (ay (Below.refl w7.heap.size w7) _) 2 _
        have uE:=zh (lT.out.grown g8 lT.out.size (fun j hj=>by injection hj with hj;omega));have XK:Hid (TR w8 w.heap.size 96 2 (.slice A7 (u+1) c7) (u+1) (fP ((l.take (u+1)).map fT))):=zh (by rw[oM HP.out,Wj.out];exact o8);clear o7 g7 f7 aL o8 g8;refine hK.out _ _ (HS.out w7 lT.out) fun ah=>?_;clear hK K;(try simp only[pS]);refine bn [16] ?_
        (refine jf ?_;try simp only[pS])
        refine bq ?_;refine bG 17 fun K hK=>?_;go_simp;(try rw[hw8]);refine hK.out _ _ (HS.out w8 uE.out) fun ah=>?_;clear hK K;(try simp only[pS]);refine eY ?_;go_wp2_with fail
        go_roundw
        case rel=>exact⟨u+1,_,by go_num,by omega,Wh,pq,XK,uE⟩
        case measure=>simp[intOf];omega
       ·go_simp;(try rw[kZ]);refine hK.out _ _ (HS.out w6 iQ.out) fun ah=>?_;clear hK K;(try simp only[pS]);refine bG 1 fun K hK=>?_;go_simp;refine hK.out _ _ (HS.out w6 iQ.out) fun ah=>?_;clear hK K;(try simp only[pS]);refine bG 15 fun K hK=>?_;refine aQ rfl _ _ 73 rfl w.heap.size 96 iA (.agg #[.string ⟨#[]⟩,.string ⟨#[]⟩]) 2 32 Tryz.underlying73 VJ JB JC JD rfl (by decide) _ u (fP ((l.take u).map fT)) rfl xk _ 1 (fP [(p.1,rv)]) rfl rfl hsrc (jl _) ?c3 ?c4 hs6 ?_
        case c3=>unfold maxLen;omega
        case c4=>omega
        intro v7 w7 o7 g7 f7;rw[←jT] at o7;obtain⟨A7,c7,rfl⟩:=o7.form;have aL:=wU.out.grown g7 (fun e=>xk.unlike wU.out (by decide) e.symm);have lT:=zh (iQ.out.grown g7 iQ.out.size (fun j hj=>(xk.lt j hj).1));have k2:w7.cell? ⟨w.heap.size,2,none⟩=some (.slice Av u cv):=aL.cell 2;have k2f:=aL.free 2;have o8:=EN (w1:=w7) (w3:=w7) (va:=.slice none 0 0) (tX:=0) o7 aL (.slice A7 (u+1) c7);obtain⟨w8,hw8⟩:=eX (w7.setCell ⟨w.heap.size,2,none⟩ (.slice A7 (u+1) c7))
        rw[hw8] at o8;have pq:Hid (Whole w8 w.heap.size #[.int .i64 2,.string ⟨#[]⟩,(.slice A7 (u+1) c7),.string ⟨#[]⟩,.int .i64 (-1),.slice none 0 0,.bool false] 75):=zh (by rw[←hw8];exact aL.put 2 _);have g8:w7.grownBy w8 (some w.heap.size):=by rw[←hw8];exact aJ (ay (Below.refl w7.heap.size w7) _) 2 _
        have uE:=zh (lT.out.grown g8 lT.out.size (fun j hj=>by injection hj with hj;omega));have XK:Hid (TR w8 w.heap.size 96 2 (.slice A7 (u+1) c7) (u+1) (fP ((l.take (u+1)).map fT))):=zh (by rw[oM HP.out,Wj.out];exact o8);clear o7 g7 f7 aL o8 g8;refine hK.out _ _ (HS.out w7 lT.out) fun ah=>?_;clear hK K;(try simp only[pS]);refine bn [16] ?_
        (refine jf ?_;try simp only[pS])
        refine bq ?_;refine bG 17 fun K hK=>?_;go_simp;(try rw[hw8]);refine hK.out _ _ (HS.out w8 uE.out) fun ah=>?_;clear hK K;(try simp only[pS]);refine eY ?_;go_wp2_with fail
        go_roundw
        case rel=>exact⟨u+1,_,by go_num,by omega,Wh,pq,XK,uE⟩
        case measure=>simp[intOf];omega
  ·have Y9:j=n:=by omega
   have r1:¬ (j:Int)<(n:Int):=by omega
   have wZ:=zh (Ls ql.out (by rw[HN.out];omega));have hlm:l.take j=l:=List.take_of_length_le (by rw[HN.out];omega);have hrow:=AB.out;rw[hlm] at hrow;have HLM:=zh (show (l.map fT).length=j by rw[List.length_map,HN.out,Y9]);have HRW:=zh hrow;have y1:wr.cell? ⟨w.heap.size,1,none⟩=some (.string ⟨#[]⟩):=HX.out.cell 1;have f1:=HX.out.free 1;obtain⟨w4,hw4⟩:=eX (wr.setCell ⟨w.heap.size,1,none⟩ (.string nm))
   have bI:Whole w4 w.heap.size #[.int .i64 2,.string nm,.slice Av j cv,.string ⟨#[]⟩,.int .i64 (-1),.slice none 0 0,.bool false] 75:=by rw[←hw4];exact HX.out.put 1 (.string nm)
   have g4:wr.grownBy w4 (some w.heap.size):=by rw[←hw4];exact aJ (ay (Below.refl wr.heap.size wr) _) _ _
   have bU:=HB.out.grown g4 HB.out.size (fun j hj=>by simp at hj;omega);have hr4:=hrow.kept g4 (.inr (hrow.unlike HX.out (by decide)));have EP:=HM.out w4 bU;have c0:w4.cell? ⟨M,0,none⟩=some (.slice A m c):=EP.var.cell 0;have z0:=EP.var.free 0;have x0:w4.cell? ⟨w.heap.size,0,none⟩=some (.int .i64 2):=bI.cell 0;have x1:w4.cell? ⟨w.heap.size,1,none⟩=some (.string nm):=bI.cell 1;have x2:w4.cell? ⟨w.heap.size,2,none⟩=some (.slice Av j cv):=bI.cell 2;have x3:w4.cell? ⟨w.heap.size,3,none⟩=some (.string ⟨#[]⟩):=bI.cell 3;have x4:w4.cell? ⟨w.heap.size,4,none⟩=some (.int .i64 (-1)):=bI.cell 4;have x5:w4.cell? ⟨w.heap.size,5,none⟩=some (.slice none 0 0):=bI.cell 5;have x6:w4.cell? ⟨w.heap.size,6,none⟩=some (.bool false):=bI.cell 6;obtain⟨w5,fE⟩:=eX (w4.drew.alloc (.cells #[.int .i64 2,.string nm,.slice Av j cv,.string ⟨#[]⟩,.int .i64 (-1),.slice none 0 0,.bool false] 75))
   have eZ:Below w4.heap.size w4 w5:=by rw[←fE];exact (bf _ w4).alloc (Nat.le_refl _) _
   have dM:=bI.below eZ bI.lt;have Rv:=EP.below eZ;have xq:=hr4.below eZ;have dX:=bU.trans (eZ.mono bU.size);have c5:w5.cell? ⟨M,0,none⟩=some (.slice A m c):=Rv.var.cell 0;have z5:=Rv.var.free 0;have hsrc:w5.ownsRow w4.heap.size 75 7 (.slice (some ⟨w4.heap.size,0,none⟩) 1 1) 1 [.int .i64 2,.string nm,.slice Av j cv,.string ⟨#[]⟩,.int .i64 (-1),.slice none 0 0,.bool false]:=by
    rw[←fE];exact World.ownsRow_lit (base:=w4.heap.size) (e:=75) (size:=7) w4.drew #[.int .i64 2,.string nm,.slice Av j cv,.string ⟨#[]⟩,.int .i64 (-1),.slice none 0 0,.bool false] 1 (Nat.le_refl _) (by unfold maxLen;omega) rfl
   have Wn:base≤w5.heap.size:=by have:=eZ.size;have:=bU.size;omega
   have Lp:=zh (show w4.drew.cell? ⟨w.heap.size,0,none⟩=some (.int .i64 2)∧w4.drew.cell? ⟨w.heap.size,1,none⟩=some (.string nm)∧w4.drew.cell? ⟨w.heap.size,2,none⟩=some (.slice Av j cv)∧w4.drew.cell? ⟨w.heap.size,3,none⟩=some (.string ⟨#[]⟩)∧w4.drew.cell? ⟨w.heap.size,4,none⟩=some (.int .i64 (-1))∧w4.drew.cell? ⟨w.heap.size,5,none⟩=some (.slice none 0 0)∧w4.drew.cell? ⟨w.heap.size,6,none⟩=some (.bool false) from⟨bI.cell 0,bI.cell 1,bI.cell 2,bI.cell 3,bI.cell 4,bI.cell 5,bI.cell 6⟩);have JI:=zh (show w5.cell? ⟨w.heap.size,0,none⟩=some (.int .i64 2)∧w5.cell? ⟨w.heap.size,1,none⟩=some (.string nm)∧w5.cell? ⟨w.heap.size,2,none⟩=some (.slice Av j cv)∧w5.cell? ⟨w.heap.size,3,none⟩=some (.string ⟨#[]⟩)∧w5.cell? ⟨w.heap.size,4,none⟩=some (.int .i64 (-1))∧w5.cell? ⟨w.heap.size,5,none⟩=some (.slice none 0 0)∧w5.cell? ⟨w.heap.size,6,none⟩=some (.bool false) from⟨dM.cell 0,dM.cell 1,dM.cell 2,dM.cell 3,dM.cell 4,dM.cell 5,dM.cell 6⟩);have iJ:=zh dM;have Jf:=zh dX;have Di:=zh xq;have HMO:=zh (HM.out w (Below.refl _ w));have hrM:=Rv.row;clear bI dM g4 bU EP eZ dX hr4 xq hrow hlm HX AB HB Y9;go_wp2_with fail;(try rw[hw4]);(try go_wp2_with fail);refine wp_region_noPanic ?_;refine wp_region_held_drew (S:=(fun W=>W.cell? ⟨w.heap.size,0,none⟩=some (.int .i64 2)∧W.cell? ⟨w.heap.size,1,none⟩=some (.string nm)∧W.cell? ⟨w.heap.size,2,none⟩=some (.slice Av j cv)∧W.cell? ⟨w.heap.size,3,none⟩=some (.string ⟨#[]⟩)∧W.cell? ⟨w.heap.size,4,none⟩=some (.int .i64 (-1))∧W.cell? ⟨w.heap.size,5,none⟩=some (.slice none 0 0)∧W.cell? ⟨w.heap.size,6,none⟩=some (.bool false))) (by kernel_rfl) ?_ (fun ah=>?_)
   ·exact Lp.out
   refine bn [0,1,2,3,5] ?_;iterate 5 (refine jf ?_;try simp only[pS])
   refine bq ?_;apply Dh
   ·intro KEY;refine zQ 4 6 (fun K hK=>?_) fun K hK=>?_
    ·go_simp;refine hK.out _ _ (Lp.out) fun ah=>?_;clear hK K;(try simp only[pS]);refine bG 6 fun K hK=>?_;go_simp;(try rw[fE]);refine hK.out _ _ (JI.out) fun ah=>?_;clear hK K;(try simp only[pS]);exact KEY
    ·go_simp;(try rw[fE]);refine hK.out _ _ (JI.out) fun ah=>?_;clear hK K;(try simp only[pS]);refine bG 4 fun K hK=>?_;go_simp;refine hK.out _ _ (JI.out) fun ah=>?_;clear hK K;(try simp only[pS]);exact KEY
   refine bG 7 fun K hK=>?_;refine fZ rfl _ _ 70 rfl base w4.heap.size 75 i0 (.agg #[.int .i64 0,.string ⟨#[]⟩,.slice none 0 0,.string ⟨#[]⟩,.int .i64 0,.slice none 0 0,.bool false]) 7 104 Tryz.underlying70 hi0 hz0 hz1 hz2 rfl (by decide) _ m (bW qO m f) rfl hrM _ 1 [.int .i64 2,.string nm,.slice Av j cv,.string ⟨#[]⟩,.int .i64 (-1),.slice none 0 0,.bool false] rfl hsrc ?c3 ?c4 ?c5 Wn ?_
   case c3=>exact sW ⟨2,nm,⟨Av,j,cv⟩,l.map fT,⟨#[]⟩,-1,⟨none,0,0⟩,[],false⟩
   case c4=>unfold maxLen;omega
   case c5=>omega
   intro v6 w6 o6 g6 f6;obtain⟨A6,c6,rfl⟩:=aF (aG o6);have hpush:=HMO.out.push (x:=⟨2,nm,⟨Av,j,cv⟩,l.map fT,⟨#[]⟩,-1,⟨none,0,0⟩,[],false⟩) Jf.out g6 o6 f6 rfl rfl (by show TR _ _ _ _ (.slice Av j cv) (l.map fT).length _;rw[HLM.out];exact Di.out);obtain⟨v6,qM,yP⟩:=hpush;have k6:w6.cell? ⟨M,0,none⟩=some (.slice A m c):=v6.cell 0;have k6f:=v6.free 0;have gL:=iJ.out.grown g6 (fun e=>by have:=V4.out _ e.symm;omega);obtain⟨w7,hw7⟩:=eX (w6.setCell ⟨M,0,none⟩ (.slice A6 (m+1) c6))
   rw[hw7] at qM yP;have aL:Whole w7 w.heap.size #[.int .i64 2,.string nm,.slice Av j cv,.string ⟨#[]⟩,.int .i64 (-1),.slice none 0 0,.bool false] 75:=by rw[←hw7];exact gL.other (by show w.heap.size≠M;omega) _
   have UL:=(⟨gL.cell 0,gL.cell 1,gL.cell 2,gL.cell 3,gL.cell 4,gL.cell 5,gL.cell 6⟩:w6.cell? ⟨w.heap.size,0,none⟩=some (.int .i64 2)∧w6.cell? ⟨w.heap.size,1,none⟩=some (.string nm)∧w6.cell? ⟨w.heap.size,2,none⟩=some (.slice Av j cv)∧w6.cell? ⟨w.heap.size,3,none⟩=some (.string ⟨#[]⟩)∧w6.cell? ⟨w.heap.size,4,none⟩=some (.int .i64 (-1))∧w6.cell? ⟨w.heap.size,5,none⟩=some (.slice none 0 0)∧w6.cell? ⟨w.heap.size,6,none⟩=some (.bool false))
   have vg:=(⟨aL.cell 0,aL.cell 1,aL.cell 2,aL.cell 3,aL.cell 4,aL.cell 5,aL.cell 6⟩:w7.cell? ⟨w.heap.size,0,none⟩=some (.int .i64 2)∧w7.cell? ⟨w.heap.size,1,none⟩=some (.string nm)∧w7.cell? ⟨w.heap.size,2,none⟩=some (.slice Av j cv)∧w7.cell? ⟨w.heap.size,3,none⟩=some (.string ⟨#[]⟩)∧w7.cell? ⟨w.heap.size,4,none⟩=some (.int .i64 (-1))∧w7.cell? ⟨w.heap.size,5,none⟩=some (.slice none 0 0)∧w7.cell? ⟨w.heap.size,6,none⟩=some (.bool false))
   have bC:=zh (And.intro qM yP);clear qM yP aL gL o6 g6 f6 v6;refine hK.out _ _ (UL) fun ah=>?_;clear hK K;(try simp only[pS]);refine bn [8,9] ?_;iterate 2 (refine jf ?_;try simp only[pS])
   refine bq ?_;refine bG 10 fun K hK=>?_;go_simp;(try rw[hw7]);refine hK.out _ _ (vg) fun ah=>?_;clear hK K;(try simp only[pS]);refine eY ?_;go_wp2_with fail
   go_ret
   exact .inr ⟨wZ.out,_,_,rfl,bC.out.1,bC.out.2⟩
end
end Go.Proofs.YtmhjlifmcadefaaGreatDoor
