/- Part of a proof about trees. -/
import Derived.Test.YtjpbhkcjmdndjaaGreatDoorS04
set_option linter.unusedVariables false
set_option linter.unusedSimpArgs false
set_option maxHeartbeats 8000000
set_option maxRecDepth 100000
namespace Go.Proofs.YtjpbhkcjmdndjaaGreatDoor
section
open Go.RowKit
def aaQ (base M m:Nat) (vs:Value) (f:Nat→RS) (nm:ByteArray) (l:List (ByteArray×ByteArray)) (w:World) (e:Ending) (w':World):Prop:=
 (Nm.attrs l=false∧e=.returned (.int .i64 1)∧Below w.heap.size w w')∨
 (Nm.attrs l=true∧∃ vs' sl,e=.returned (.int .i64 0)∧MV base w' M vs' (m+1) (iD m f ⟨2,nm,sl,l.map gD,⟨#[]⟩,-1,⟨none,0,0⟩,[],false⟩)∧aB w w' (aC M vs m f) (aC M vs' (m+1) (iD m f ⟨2,nm,sl,l.map gD,⟨#[]⟩,-1,⟨none,0,0⟩,[],false⟩)))
theorem oV {l:List (ByteArray×ByteArray)} {j:Nat} {p:ByteArray×ByteArray} (hp:l[j]?=some p):(l.take (j+1)).map gD=(l.take j).map gD++[gD p]:=by
 rw[List.take_add_one,hp,List.map_append];rfl
theorem Ed {w1 w2 w3:World} {b X:Nat} {va v2:Value} {j:Nat} {xs:List Value} {vs:Array Value} {tX:TypeId} (o:TR w2 b 74 2 v2 j xs) (hX:Whole w2 X vs 52) (v:Value):TR (w2.setCell ⟨X,2,none⟩ v) b 74 2 v2 j xs:=by
 have g:w2.grownBy (w2.setCell ⟨X,2,none⟩ v) (some X):=aO (ay (Below.refl w2.heap.size w2) _) 2 v;exact o.kept g (.inr (o.unlike hX (by decide)))
theorem yh (base M m:Nat) (vs:Value) (aA:Option Addr) (cA:Nat) (l:List (ByteArray×ByteArray)) (f:Nat→RS) (nm dt:ByteArray) (w:World) (H:MV base w M vs m f) (HA:TR w 0 74 2 (.slice aA l.length cA) l.length (fJ l)) (he:Nm.elem nm=true) (hbase:base≤w.heap.size) (hm:m≤100000) (hs:nm.size≤10000) (hl:l.length≤64) (hvs:∀ p∈l,p.1.size≤10000∧p.2.size≤6000):
  Calls Tryz.prog 21 #[.pointer (some ⟨M,0,none⟩),.int .i64 2,.string nm,.string dt,.slice aA l.length cA] w fun e w'=>aaQ base M m vs f nm l w e w':=by
 obtain⟨i0,hi0,hz0,hz1,hz2⟩:=info_parts tJ;obtain⟨iA,OC,zK,zL,zM⟩:=info_parts nM;obtain⟨A,c,rfl⟩:=H.form;obtain⟨w1,hw1⟩:=eX (w.alloc (.cells #[.int .i64 2,.string ⟨#[]⟩,.slice none 0 0,.string ⟨#[]⟩,.int .i64 (-1),.slice none 0 0,.bool false] 52))
 have hb1:Below w.heap.size w w1:=gU hw1;have hX1:Whole w1 w.heap.size #[.int .i64 2,.string ⟨#[]⟩,.slice none 0 0,.string ⟨#[]⟩,.int .i64 (-1),.slice none 0 0,.bool false] 52:=by rw[←hw1];exact Whole.new w _ _
 have hR:=vN nm w1 hs;rw[he] at hR;have HR:=zh hR;have eP:=zh hX1;have HB1:=zh hb1;have HW1:=zh hw1;have HM:=zh (fun (W:World) (hb:Below w.heap.size w W)=>H.below hb);have HAW:=zh (fun (W:World) (hb:Below w.heap.size w W)=>HA.below hb);have WC:M<w.heap.size:=H.var.lt;have U5:=zh (fun x (hx:(Value.slice A m c).ownBlock=some x)=>(H.lt x (Or.inr (Or.inl hx))).2);have HVS:=zh (fun (j:Nat) (p:ByteArray×ByteArray) (hj:l[j]?=some p)=>hvs p (List.mem_of_getElem? hj));obtain⟨n,hn⟩:=eX (l.length)
 have HN:=zh hn;rw[hn] at hl;clear hR hX1 hb1 hw1 H HA hs hvs;rw[hn];clear hn
 go_enter Tryz.func21,Tryz.ntmps21
 go_wp2_with fail;rw[HW1.out];refine HR.out.mono ?_;rintro e w2 ⟨rfl,hb2⟩;have hX2:=eP.out.below hb2 eP.out.lt;have eU:=HB1.out.trans (hb2.mono HB1.out.size);have gM:=zh hX2;have HB2:=zh eU;clear hb2 eU hX2 eP HB1 HR;go_wp2_with fail
 go_loopw [12] (fun i wr=>∃ (j:Nat) (va:Value),i=.int .i64 (j:Int)∧j≤n∧Hid (TF l j)∧Hid (Whole wr w.heap.size #[.int .i64 2,.string ⟨#[]⟩,va,.string ⟨#[]⟩,.int .i64 (-1),.slice none 0 0,.bool false] 52)∧Hid (TR wr w.heap.size 74 2 va j (fJ ((l.take j).map gD)))∧Hid (Below w.heap.size w wr)) (fun i _=>n - (intOf i).toNat)
 case atStart=>exact⟨0,.slice none 0 0,rfl,Nat.zero_le _,zh (Gh l),gM,zh (TR.nil _ _ _ _),HB2⟩
 case round=>
  obtain⟨j,va,rfl,hj,qp,HX,zS,HB⟩:=hrel;obtain⟨Av,cv,rfl⟩:=zS.out.form;by_cases hjn:j<n
  ·have p1:(j:Int)<(n:Int):=by omega
   have p0:(0:Int)≤(j:Int):=by omega
   obtain⟨p,hp⟩:∃ p,l[j]?=some p:=⟨l[j]'(by rw[HN.out];exact hjn),by simp⟩
   have HP:=zh hp;obtain⟨ga,oa,rfl,-⟩:=(HAW.out wr HB.out).cells (by rw[HN.out];omega);have Ta:=zh (fun (W:World) (hb:Below w.heap.size w W) (k:Nat) (q:ByteArray×ByteArray) (hq:l[k]?=some q)=>by
    have hk:k<l.length:=(List.getElem?_eq_some_iff.1 hq).1;have h:=HAW.out W hb
    exact And.intro (h.cellAt (k*2) _ (by omega) (jk _ _ _ hq).1) (show W.cell? ⟨ga,oa+k*2+1,none⟩=some (.string q.2) by rw[Nat.add_assoc];exact h.cellAt (k*2+1) _ (by omega) (jk _ _ _ hq).2))
   obtain⟨d0,d1⟩:=Ta.out wr HB.out j p hp;have hsz:=HVS.out j p hp;have HH:=zh (oH p.1 wr hsz.1);clear hp;go_wp2_with fail;refine HH.out.mono ?_;rintro e w3 ⟨rfl,hb3⟩;have HB3:=zh (HB.out.trans (hb3.mono HB.out.size));have fu:=zh (HX.out.below hb3 HX.out.lt);have TG:=zh (zS.out.below hb3);clear HH hb3 d0 d1 HB HX zS;cases hat:Nm.attr p.1 with
   | false=>
    have HBAD:=zh (Nm.CP HP.out hat);go_wp2_with fail
    go_ret
    exact .inl ⟨HBAD.out,rfl,HB3.out⟩
   | true=>
    have HAT:=zh hat;clear hat;go_wp2_with fail
    go_loopw [13] (fun k wr=>∃ u:Nat,k=.int .i64 (u:Int)∧u≤j∧Hid (Below w3.heap.size w3 wr)∧Hid (p.1.data.toList∉yM (l.take u))) (fun k _=>j - (intOf k).toNat)
    case atStart=>exact⟨0,rfl,Nat.zero_le _,zh (Below.refl _ _),zh (by simp[yM])⟩
    case round=>
     obtain⟨u,rfl,huj,WI,XP⟩:=hrel;have Bn:=zh (HB3.out.trans (WI.out.mono HB3.out.size));obtain⟨e0,e1⟩:=Ta.out wr Bn.out j p HP.out;by_cases hu:u<j
     ·have r1:(u:Int)<(j:Int):=by omega
      have r0:(0:Int)≤(u:Int):=by omega
      have r2:(u:Int)<(n:Int):=by omega
      obtain⟨q,hq⟩:∃ q,l[u]?=some q:=⟨l[u]'(by rw[HN.out];omega),by simp⟩
      have HQ:=zh hq;obtain⟨f0,-⟩:=Ta.out wr Bn.out u q hq;have HDR:=zh (aZ wr.heap.size wr);clear hq e1;cases hqe:(q.1.toList == p.1.toList) with
      | true=>
       have hin:p.1.data.toList∈yM (l.take j):=by
        have U6:q.1.toList=p.1.toList:=by simpa using hqe
        rw[←Lib.toList_data,←U6,Lib.toList_data];exact List.mem_map_of_mem (List.mem_of_getElem? (by rw[List.getElem?_take,if_pos hu];exact HQ.out))
       have HBAD:=zh (Nm.zT HP.out hin);clear hin;go_wp2_with fail
       go_region
       all_goals go_wp2_with fail
       all_goals go_ret
       all_goals exact .inl ⟨HBAD.out,rfl,Bn.out.trans (HDR.out.mono Bn.out.size)⟩
      | false=>
       have hno:p.1.data.toList∉yM (l.take (u+1)):=by
        rw[vO HQ.out];intro hm;rcases List.mem_append.1 hm with h | h
        ·exact XP.out h
        ·have U6:¬ q.1.toList=p.1.toList:=by simpa using hqe
         exact U6 (by rw[Lib.toList_data,Lib.toList_data];exact (List.mem_singleton.1 h).symm)
       have aaR:=zh hno;clear hno;go_wp2_with fail
       go_region
       all_goals go_wp2_with fail
       all_goals go_roundw
       all_goals first | exact⟨u+1,by go_num,by omega,zh (WI.out.trans (HDR.out.mono WI.out.size)),aaR⟩ | (simp[intOf];omega)
     ·have aaS:u=j:=by omega
      subst aaS;have r1:¬ (u:Int)<(u:Int):=by omega
      have uH:=zh (fu.out.below WI.out fu.out.lt);have TH:=zh (TG.out.below WI.out);have U7:=zh (Gi qp.out HP.out XP.out HAT.out);obtain⟨V,hV⟩:=eX (wr.drew)
      have mX:Below wr.heap.size wr V:=by rw[←hV];exact aZ _ wr
      have cZ:=zh (Bn.out.trans (mX.mono Bn.out.size));have dw:=zh (uH.out.below mX uH.out.lt);have KJ:=zh (TH.out.below mX);have U8:=zh (kC p.2 V (by omega));obtain⟨rv,nu⟩:=eX (aX p.2)
      rw[show fF (bD.rep p.2.data.toList)=rv from nu] at U8;have U9:=zh (show gD p=(p.1,rv) by rw[←nu];rfl);have HS:=zh (fun (W:World) (hb:Below w.heap.size w W)=>Ta.out W hb u p HP.out);have x2:V.cell? ⟨w.heap.size,2,none⟩=some (.slice Av u cv):=dw.out.cell 2;clear mX nu uH TH fu TG HB3 WI XP;go_wp2_with fail;refine wp_region_noPanic ?_;refine wp_region_held_drew (S:=(fun W=>W.cell? ⟨ga,oa+u*2,none⟩=some (.string p.1)∧W.cell? ⟨ga,oa+u*2+1,none⟩=some (.string p.2))) (by kernel_rfl) ?_ (fun ah=>?_)
      ·exact (by rw[hV];exact HS.out V cZ.out)
      rw[hV] at ah ⊢;refine bE [0,2,3,4,5,6,7,8,9,10,11] ?_;iterate 11 (refine jl ?_;try simp only[pS])
      refine bF ?_;refine zm 1 12 (fun K hK=>?_) fun K hK=>?_
      ·go_simp;refine hK.out _ _ (HS.out V cZ.out) fun ah=>?_;clear hK K;(try simp only[pS]);refine bO 12 fun K hK=>?_;go_simp;refine U8.out.mono ?_;rintro e w5 ⟨rfl,hb5⟩;have mH:=zh (cZ.out.trans (hb5.mono cZ.out.size));have gT:=zh (dw.out.below hb5 dw.out.lt);have Cg:=zh (KJ.out.below hb5);have y2:w5.cell? ⟨w.heap.size,2,none⟩=some (.slice Av u cv):=gT.out.cell 2;obtain⟨w6,jM⟩:=eX (w5.alloc (.cells #[.string p.1,.string rv] 74))
       have Ee:Below w5.heap.size w5 w6:=gU jM;have qx:=zh (mH.out.trans (Ee.mono mH.out.size));have wQ:=zh (gT.out.below Ee gT.out.lt);have Va:=zh (Cg.out.below Ee);have z2:w6.cell? ⟨w.heap.size,2,none⟩=some (.slice Av u cv):=wQ.out.cell 2;have hsrc:((.slice (some ⟨w5.heap.size,0,none⟩) 1 1:Value)=.slice none 0 0∧1=0)∨∃ a c,(.slice (some ⟨w5.heap.size,0,none⟩) 1 1:Value)=.slice (some a) 1 c∧∀ j u,(fJ [(p.1,rv)])[j]?=some u→w6.cell? (a.add j)=some u:=by
        rw[←jM];exact nT w5 74 (fJ [(p.1,rv)])
       have hs6:w.heap.size≤w6.heap.size:=qx.out.size;have xk:=Va.out;clear hb5 Ee;refine hK.out _ _ (HS.out w5 mH.out) fun ah=>?_;clear hK K;(try simp only[pS]);refine bE [13] ?_
       (refine jl ?_;try simp only[pS])
       refine bF ?_;refine bO 14 fun K hK=>?_;go_simp;(try rw[jM]);refine hK.out _ _ (HS.out w6 qx.out) fun ah=>?_;clear hK K;(try simp only[pS]);refine bO 15 fun K hK=>?_;refine aJ rfl _ _ 50 rfl w.heap.size 74 iA (.agg #[.string ⟨#[]⟩,.string ⟨#[]⟩]) 2 32 Tryz.underlying50 OC zK zL zM rfl (by decide) _ u (fJ ((l.take u).map gD)) rfl xk _ 1 (fJ [(p.1,rv)]) rfl rfl hsrc (gV _) ?c3 ?c4 hs6 ?_
       case c3=>unfold maxLen;omega
       case c4=>omega
       intro v7 w7 o7 g7 f7;rw[←jU] at o7;obtain⟨A7,c7,rfl⟩:=o7.form;have aK:=wQ.out.grown g7 (fun e=>xk.unlike wQ.out (by decide) e.symm);have iL:=zh (qx.out.grown g7 qx.out.size (fun j hj=>(xk.lt j hj).1));have k2:w7.cell? ⟨w.heap.size,2,none⟩=some (.slice Av u cv):=aK.cell 2;have k2f:=aK.free 2;have o8:=Ed (w1:=w7) (w3:=w7) (va:=.slice none 0 0) (tX:=0) o7 aK (.slice A7 (u+1) c7);obtain⟨w8,hw8⟩:=eX (w7.setCell ⟨w.heap.size,2,none⟩ (.slice A7 (u+1) c7))
       rw[hw8] at o8;have kH:Hid (Whole w8 w.heap.size #[.int .i64 2,.string ⟨#[]⟩,(.slice A7 (u+1) c7),.string ⟨#[]⟩,.int .i64 (-1),.slice none 0 0,.bool false] 52):=zh (by rw[←hw8];exact aK.put 2 _);have g8:w7.grownBy w8 (some w.heap.size):=by rw[←hw8];exact aO (ay (Below.refl w7.heap.size w7) _) 2 _
       have qw:=zh (iL.out.grown g8 iL.out.size (fun j hj=>by injection hj with hj;omega));have WJ:Hid (TR w8 w.heap.size 74 2 (.slice A7 (u+1) c7) (u+1) (fJ ((l.take (u+1)).map gD))):=zh (by rw[oV HP.out,U9.out];exact o8);clear o7 g7 f7 aK o8 g8;refine hK.out _ _ (HS.out w7 iL.out) fun ah=>?_;clear hK K;(try simp only[pS]);refine bE [16] ?_
       (refine jl ?_;try simp only[pS])
       refine bF ?_;refine bO 17 fun K hK=>?_;go_simp;(try rw[hw8]);refine hK.out _ _ (HS.out w8 qw.out) fun ah=>?_;clear hK K;(try simp only[pS]);refine gQ ?_;go_wp2_with fail
       go_roundw
       case rel=>exact⟨u+1,_,by go_num,by omega,U7,kH,WJ,qw⟩
       case measure=>simp[intOf];omega
      ·go_simp;refine U8.out.mono ?_;rintro e w5 ⟨rfl,hb5⟩;have mH:=zh (cZ.out.trans (hb5.mono cZ.out.size));have gT:=zh (dw.out.below hb5 dw.out.lt);have Cg:=zh (KJ.out.below hb5);have y2:w5.cell? ⟨w.heap.size,2,none⟩=some (.slice Av u cv):=gT.out.cell 2;obtain⟨w6,jM⟩:=eX (w5.alloc (.cells #[.string p.1,.string rv] 74))
       have Ee:Below w5.heap.size w5 w6:=gU jM;have qx:=zh (mH.out.trans (Ee.mono mH.out.size));have wQ:=zh (gT.out.below Ee gT.out.lt);have Va:=zh (Cg.out.below Ee);have z2:w6.cell? ⟨w.heap.size,2,none⟩=some (.slice Av u cv):=wQ.out.cell 2;have hsrc:((.slice (some ⟨w5.heap.size,0,none⟩) 1 1:Value)=.slice none 0 0∧1=0)∨∃ a c,(.slice (some ⟨w5.heap.size,0,none⟩) 1 1:Value)=.slice (some a) 1 c∧∀ j u,(fJ [(p.1,rv)])[j]?=some u→w6.cell? (a.add j)=some u:=by
        rw[←jM];exact nT w5 74 (fJ [(p.1,rv)])
       have hs6:w.heap.size≤w6.heap.size:=qx.out.size;have xk:=Va.out;clear hb5 Ee;refine hK.out _ _ (HS.out w5 mH.out) fun ah=>?_;clear hK K;(try simp only[pS]);refine bE [13] ?_
       (refine jl ?_;try simp only[pS])
       refine bF ?_;refine zm 1 14 (fun K hK=>?_) fun K hK=>?_
       ·go_simp;refine hK.out _ _ (HS.out w5 mH.out) fun ah=>?_;clear hK K;(try simp only[pS]);refine bO 14 fun K hK=>?_;go_simp;(try rw[jM]);refine hK.out _ _ (HS.out w6 qx.out) fun ah=>?_;clear hK K;(try simp only[pS]);refine bO 15 fun K hK=>?_;refine aJ rfl _ _ 50 rfl w.heap.size 74 iA (.agg #[.string ⟨#[]⟩,.string ⟨#[]⟩]) 2 32 Tryz.underlying50 OC zK zL zM rfl (by decide) _ u (fJ ((l.take u).map gD)) rfl xk _ 1 (fJ [(p.1,rv)]) rfl rfl hsrc (gV _) ?c3 ?c4 hs6 ?_
        case c3=>unfold maxLen;omega
        case c4=>omega
        intro v7 w7 o7 g7 f7;rw[←jU] at o7;obtain⟨A7,c7,rfl⟩:=o7.form;have aK:=wQ.out.grown g7 (fun e=>xk.unlike wQ.out (by decide) e.symm);have iL:=zh (qx.out.grown g7 qx.out.size (fun j hj=>(xk.lt j hj).1));have k2:w7.cell? ⟨w.heap.size,2,none⟩=some (.slice Av u cv):=aK.cell 2;have k2f:=aK.free 2;have o8:=Ed (w1:=w7) (w3:=w7) (va:=.slice none 0 0) (tX:=0) o7 aK (.slice A7 (u+1) c7);obtain⟨w8,hw8⟩:=eX (w7.setCell ⟨w.heap.size,2,none⟩ (.slice A7 (u+1) c7))
        rw[hw8] at o8;have kH:Hid (Whole w8 w.heap.size #[.int .i64 2,.string ⟨#[]⟩,(.slice A7 (u+1) c7),.string ⟨#[]⟩,.int .i64 (-1),.slice none 0 0,.bool false] 52):=zh (by rw[←hw8];exact aK.put 2 _);have g8:w7.grownBy w8 (some w.heap.size):=by rw[←hw8];exact aO (ay (Below.refl w7.heap.size w7) _) 2 _
        have qw:=zh (iL.out.grown g8 iL.out.size (fun j hj=>by injection hj with hj;omega));have WJ:Hid (TR w8 w.heap.size 74 2 (.slice A7 (u+1) c7) (u+1) (fJ ((l.take (u+1)).map gD))):=zh (by rw[oV HP.out,U9.out];exact o8);clear o7 g7 f7 aK o8 g8;refine hK.out _ _ (HS.out w7 iL.out) fun ah=>?_;clear hK K;(try simp only[pS]);refine bE [16] ?_
        (refine jl ?_;try simp only[pS])
        refine bF ?_;refine bO 17 fun K hK=>?_;go_simp;(try rw[hw8]);refine hK.out _ _ (HS.out w8 qw.out) fun ah=>?_;clear hK K;(try simp only[pS]);refine gQ ?_;go_wp2_with fail
        go_roundw
        case rel=>exact⟨u+1,_,by go_num,by omega,U7,kH,WJ,qw⟩
        case measure=>simp[intOf];omega
       ·go_simp;(try rw[jM]);refine hK.out _ _ (HS.out w6 qx.out) fun ah=>?_;clear hK K;(try simp only[pS]);refine bO 1 fun K hK=>?_;go_simp;refine hK.out _ _ (HS.out w6 qx.out) fun ah=>?_;clear hK K;(try simp only[pS]);refine bO 15 fun K hK=>?_;refine aJ rfl _ _ 50 rfl w.heap.size 74 iA (.agg #[.string ⟨#[]⟩,.string ⟨#[]⟩]) 2 32 Tryz.underlying50 OC zK zL zM rfl (by decide) _ u (fJ ((l.take u).map gD)) rfl xk _ 1 (fJ [(p.1,rv)]) rfl rfl hsrc (gV _) ?c3 ?c4 hs6 ?_
        case c3=>unfold maxLen;omega
        case c4=>omega
        intro v7 w7 o7 g7 f7;rw[←jU] at o7;obtain⟨A7,c7,rfl⟩:=o7.form;have aK:=wQ.out.grown g7 (fun e=>xk.unlike wQ.out (by decide) e.symm);have iL:=zh (qx.out.grown g7 qx.out.size (fun j hj=>(xk.lt j hj).1));have k2:w7.cell? ⟨w.heap.size,2,none⟩=some (.slice Av u cv):=aK.cell 2;have k2f:=aK.free 2;have o8:=Ed (w1:=w7) (w3:=w7) (va:=.slice none 0 0) (tX:=0) o7 aK (.slice A7 (u+1) c7);obtain⟨w8,hw8⟩:=eX (w7.setCell ⟨w.heap.size,2,none⟩ (.slice A7 (u+1) c7))
        rw[hw8] at o8;have kH:Hid (Whole w8 w.heap.size #[.int .i64 2,.string ⟨#[]⟩,(.slice A7 (u+1) c7),.string ⟨#[]⟩,.int .i64 (-1),.slice none 0 0,.bool false] 52):=zh (by rw[←hw8];exact aK.put 2 _);have g8:w7.grownBy w8 (some w.heap.size):=by rw[←hw8];exact aO (ay (Below.refl w7.heap.size w7) _) 2 _
        have qw:=zh (iL.out.grown g8 iL.out.size (fun j hj=>by injection hj with hj;omega));have WJ:Hid (TR w8 w.heap.size 74 2 (.slice A7 (u+1) c7) (u+1) (fJ ((l.take (u+1)).map gD))):=zh (by rw[oV HP.out,U9.out];exact o8);clear o7 g7 f7 aK o8 g8;refine hK.out _ _ (HS.out w7 iL.out) fun ah=>?_;clear hK K;(try simp only[pS]);refine bE [16] ?_
        (refine jl ?_;try simp only[pS])
        refine bF ?_;refine bO 17 fun K hK=>?_;go_simp;(try rw[hw8]);refine hK.out _ _ (HS.out w8 qw.out) fun ah=>?_;clear hK K;(try simp only[pS]);refine gQ ?_;go_wp2_with fail
        go_roundw
        case rel=>exact⟨u+1,_,by go_num,by omega,U7,kH,WJ,qw⟩
        case measure=>simp[intOf];omega
  ·have Yr:j=n:=by omega
   have r1:¬ (j:Int)<(n:Int):=by omega
   have wZ:=zh (KX qp.out (by rw[HN.out];omega));have hlm:l.take j=l:=List.take_of_length_le (by rw[HN.out];omega);have hrow:=zS.out;rw[hlm] at hrow;have HLM:=zh (show (l.map gD).length=j by rw[List.length_map,HN.out,Yr]);have HRW:=zh hrow;have y1:wr.cell? ⟨w.heap.size,1,none⟩=some (.string ⟨#[]⟩):=HX.out.cell 1;have f1:=HX.out.free 1;obtain⟨w4,hw4⟩:=eX (wr.setCell ⟨w.heap.size,1,none⟩ (.string nm))
   have bB:Whole w4 w.heap.size #[.int .i64 2,.string nm,.slice Av j cv,.string ⟨#[]⟩,.int .i64 (-1),.slice none 0 0,.bool false] 52:=by rw[←hw4];exact HX.out.put 1 (.string nm)
   have g4:wr.grownBy w4 (some w.heap.size):=by rw[←hw4];exact aO (ay (Below.refl wr.heap.size wr) _) _ _
   have bU:=HB.out.grown g4 HB.out.size (fun j hj=>by simp at hj;omega);have hr4:=hrow.kept g4 (.inr (hrow.unlike HX.out (by decide)));have Ef:=HM.out w4 bU;have c0:w4.cell? ⟨M,0,none⟩=some (.slice A m c):=Ef.var.cell 0;have z0:=Ef.var.free 0;have x0:w4.cell? ⟨w.heap.size,0,none⟩=some (.int .i64 2):=bB.cell 0;have x1:w4.cell? ⟨w.heap.size,1,none⟩=some (.string nm):=bB.cell 1;have x2:w4.cell? ⟨w.heap.size,2,none⟩=some (.slice Av j cv):=bB.cell 2;have x3:w4.cell? ⟨w.heap.size,3,none⟩=some (.string ⟨#[]⟩):=bB.cell 3;have x4:w4.cell? ⟨w.heap.size,4,none⟩=some (.int .i64 (-1)):=bB.cell 4;have x5:w4.cell? ⟨w.heap.size,5,none⟩=some (.slice none 0 0):=bB.cell 5;have x6:w4.cell? ⟨w.heap.size,6,none⟩=some (.bool false):=bB.cell 6;obtain⟨w5,fT⟩:=eX (w4.drew.alloc (.cells #[.int .i64 2,.string nm,.slice Av j cv,.string ⟨#[]⟩,.int .i64 (-1),.slice none 0 0,.bool false] 52))
   have fB:Below w4.heap.size w4 w5:=by rw[←fT];exact (aZ _ w4).alloc (Nat.le_refl _) _
   have dU:=bB.below fB bB.lt;have Qy:=Ef.below fB;have xq:=hr4.below fB;have dY:=bU.trans (fB.mono bU.size);have c5:w5.cell? ⟨M,0,none⟩=some (.slice A m c):=Qy.var.cell 0;have z5:=Qy.var.free 0;have hsrc:w5.ownsRow w4.heap.size 52 7 (.slice (some ⟨w4.heap.size,0,none⟩) 1 1) 1 [.int .i64 2,.string nm,.slice Av j cv,.string ⟨#[]⟩,.int .i64 (-1),.slice none 0 0,.bool false]:=by
    rw[←fT];exact World.ownsRow_lit (base:=w4.heap.size) (e:=52) (size:=7) w4.drew #[.int .i64 2,.string nm,.slice Av j cv,.string ⟨#[]⟩,.int .i64 (-1),.slice none 0 0,.bool false] 1 (Nat.le_refl _) (by unfold maxLen;omega) rfl
   have Vb:base≤w5.heap.size:=by have:=fB.size;have:=bU.size;omega
   have D6:=zh (show w4.drew.cell? ⟨w.heap.size,0,none⟩=some (.int .i64 2)∧w4.drew.cell? ⟨w.heap.size,1,none⟩=some (.string nm)∧w4.drew.cell? ⟨w.heap.size,2,none⟩=some (.slice Av j cv)∧w4.drew.cell? ⟨w.heap.size,3,none⟩=some (.string ⟨#[]⟩)∧w4.drew.cell? ⟨w.heap.size,4,none⟩=some (.int .i64 (-1))∧w4.drew.cell? ⟨w.heap.size,5,none⟩=some (.slice none 0 0)∧w4.drew.cell? ⟨w.heap.size,6,none⟩=some (.bool false) from⟨bB.cell 0,bB.cell 1,bB.cell 2,bB.cell 3,bB.cell 4,bB.cell 5,bB.cell 6⟩);have Ju:=zh (show w5.cell? ⟨w.heap.size,0,none⟩=some (.int .i64 2)∧w5.cell? ⟨w.heap.size,1,none⟩=some (.string nm)∧w5.cell? ⟨w.heap.size,2,none⟩=some (.slice Av j cv)∧w5.cell? ⟨w.heap.size,3,none⟩=some (.string ⟨#[]⟩)∧w5.cell? ⟨w.heap.size,4,none⟩=some (.int .i64 (-1))∧w5.cell? ⟨w.heap.size,5,none⟩=some (.slice none 0 0)∧w5.cell? ⟨w.heap.size,6,none⟩=some (.bool false) from⟨dU.cell 0,dU.cell 1,dU.cell 2,dU.cell 3,dU.cell 4,dU.cell 5,dU.cell 6⟩);have gT:=zh dU;have IU:=zh dY;have Cg:=zh xq;have HMO:=zh (HM.out w (Below.refl _ w));have hrM:=Qy.row;clear bB dU g4 bU Ef fB dY hr4 xq hrow hlm HX zS HB Yr;go_wp2_with fail;(try rw[hw4]);(try go_wp2_with fail);refine wp_region_noPanic ?_;refine wp_region_held_drew (S:=(fun W=>W.cell? ⟨w.heap.size,0,none⟩=some (.int .i64 2)∧W.cell? ⟨w.heap.size,1,none⟩=some (.string nm)∧W.cell? ⟨w.heap.size,2,none⟩=some (.slice Av j cv)∧W.cell? ⟨w.heap.size,3,none⟩=some (.string ⟨#[]⟩)∧W.cell? ⟨w.heap.size,4,none⟩=some (.int .i64 (-1))∧W.cell? ⟨w.heap.size,5,none⟩=some (.slice none 0 0)∧W.cell? ⟨w.heap.size,6,none⟩=some (.bool false))) (by kernel_rfl) ?_ (fun ah=>?_)
   ·exact D6.out
   refine bE [0,1,2,3,5] ?_;iterate 5 (refine jl ?_;try simp only[pS])
   refine bF ?_;apply Ce
   ·intro KEY;refine zm 4 6 (fun K hK=>?_) fun K hK=>?_
    ·go_simp;refine hK.out _ _ (D6.out) fun ah=>?_;clear hK K;(try simp only[pS]);refine bO 6 fun K hK=>?_;go_simp;(try rw[fT]);refine hK.out _ _ (Ju.out) fun ah=>?_;clear hK K;(try simp only[pS]);exact KEY
    ·go_simp;(try rw[fT]);refine hK.out _ _ (Ju.out) fun ah=>?_;clear hK K;(try simp only[pS]);refine bO 4 fun K hK=>?_;go_simp;refine hK.out _ _ (Ju.out) fun ah=>?_;clear hK K;(try simp only[pS]);exact KEY
   refine bO 7 fun K hK=>?_;refine cK rfl _ _ 53 rfl base w4.heap.size 52 i0 (.agg #[.int .i64 0,.string ⟨#[]⟩,.slice none 0 0,.string ⟨#[]⟩,.int .i64 0,.slice none 0 0,.bool false]) 7 104 Tryz.underlying53 hi0 hz0 hz1 hz2 rfl (by decide) _ m (bQ p8 m f) rfl hrM _ 1 [.int .i64 2,.string nm,.slice Av j cv,.string ⟨#[]⟩,.int .i64 (-1),.slice none 0 0,.bool false] rfl hsrc ?c3 ?c4 ?c5 Vb ?_
   case c3=>exact lZ ⟨2,nm,⟨Av,j,cv⟩,l.map gD,⟨#[]⟩,-1,⟨none,0,0⟩,[],false⟩
   case c4=>unfold maxLen;omega
   case c5=>omega
   intro v6 w6 o6 g6 f6;obtain⟨A6,c6,rfl⟩:=aF (aG o6);have hpush:=HMO.out.push (x:=⟨2,nm,⟨Av,j,cv⟩,l.map gD,⟨#[]⟩,-1,⟨none,0,0⟩,[],false⟩) IU.out g6 o6 f6 rfl rfl (by show TR _ _ _ _ (.slice Av j cv) (l.map gD).length _;rw[HLM.out];exact Cg.out);obtain⟨v6,qW,yJ⟩:=hpush;have k6:w6.cell? ⟨M,0,none⟩=some (.slice A m c):=v6.cell 0;have k6f:=v6.free 0;have gI:=gT.out.grown g6 (fun e=>by have:=U5.out _ e.symm;omega);obtain⟨w7,hw7⟩:=eX (w6.setCell ⟨M,0,none⟩ (.slice A6 (m+1) c6))
   rw[hw7] at qW yJ;have aK:Whole w7 w.heap.size #[.int .i64 2,.string nm,.slice Av j cv,.string ⟨#[]⟩,.int .i64 (-1),.slice none 0 0,.bool false] 52:=by rw[←hw7];exact gI.other (by show w.heap.size≠M;omega) _
   have TI:=(⟨gI.cell 0,gI.cell 1,gI.cell 2,gI.cell 3,gI.cell 4,gI.cell 5,gI.cell 6⟩:w6.cell? ⟨w.heap.size,0,none⟩=some (.int .i64 2)∧w6.cell? ⟨w.heap.size,1,none⟩=some (.string nm)∧w6.cell? ⟨w.heap.size,2,none⟩=some (.slice Av j cv)∧w6.cell? ⟨w.heap.size,3,none⟩=some (.string ⟨#[]⟩)∧w6.cell? ⟨w.heap.size,4,none⟩=some (.int .i64 (-1))∧w6.cell? ⟨w.heap.size,5,none⟩=some (.slice none 0 0)∧w6.cell? ⟨w.heap.size,6,none⟩=some (.bool false))
   have pO:=(⟨aK.cell 0,aK.cell 1,aK.cell 2,aK.cell 3,aK.cell 4,aK.cell 5,aK.cell 6⟩:w7.cell? ⟨w.heap.size,0,none⟩=some (.int .i64 2)∧w7.cell? ⟨w.heap.size,1,none⟩=some (.string nm)∧w7.cell? ⟨w.heap.size,2,none⟩=some (.slice Av j cv)∧w7.cell? ⟨w.heap.size,3,none⟩=some (.string ⟨#[]⟩)∧w7.cell? ⟨w.heap.size,4,none⟩=some (.int .i64 (-1))∧w7.cell? ⟨w.heap.size,5,none⟩=some (.slice none 0 0)∧w7.cell? ⟨w.heap.size,6,none⟩=some (.bool false))
   have bf:=zh (And.intro qW yJ);clear qW yJ aK gI o6 g6 f6 v6;refine hK.out _ _ (TI) fun ah=>?_;clear hK K;(try simp only[pS]);refine bE [8,9] ?_;iterate 2 (refine jl ?_;try simp only[pS])
   refine bF ?_;refine bO 10 fun K hK=>?_;go_simp;(try rw[hw7]);refine hK.out _ _ (pO) fun ah=>?_;clear hK K;(try simp only[pS]);refine gQ ?_;go_wp2_with fail
   go_ret
   exact .inr ⟨wZ.out,_,_,rfl,bf.out.1,bf.out.2⟩
end
end Go.Proofs.YtjpbhkcjmdndjaaGreatDoor
