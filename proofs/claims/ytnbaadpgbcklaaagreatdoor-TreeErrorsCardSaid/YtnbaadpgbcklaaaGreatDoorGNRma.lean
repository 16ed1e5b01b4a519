/- Part of a proof about trees: NRma. -/
import Derived.Test.YtnbaadpgbcklaaaGreatDoorS04
set_option linter.unusedVariables false
set_option linter.unusedSimpArgs false
set_option linter.unusedSectionVars false
set_option maxHeartbeats 8000000
set_option maxRecDepth 100000
namespace Go.Proofs.YtnbaadpgbcklaaaGreatDoor
section
open Go.RowKit
def ZJ (base M m:Nat) (vs:Value) (f:Nat→RS) (nm:ByteArray) (l:List (ByteArray×ByteArray)) (w:World) (e:Ending) (w':World):Prop:=
 (Nm.attrs l=false∧e=.returned (.int .i64 1)∧Below w.heap.size w w')∨
 (Nm.attrs l=true∧∃ vs' sl,e=.returned (.int .i64 0)∧MV base w' M vs' (m+1) (iw m f ⟨2,nm,sl,l.map gD,⟨#[]⟩,-1,⟨none,0,0⟩,[],false⟩)∧ay w w' (aB M vs m f) (aB M vs' (m+1) (iw m f ⟨2,nm,sl,l.map gD,⟨#[]⟩,-1,⟨none,0,0⟩,[],false⟩)))
theorem oN {l:List (ByteArray×ByteArray)} {j:Nat} {p:ByteArray×ByteArray} (hp:l[j]?=some p):(l.take (j+1)).map gD=(l.take j).map gD++[gD p]:=by
 rw[List.take_add_one,hp,List.map_append];rfl
theorem Dq {w1 w2 w3:World} {b X:Nat} {va v2:Value} {j:Nat} {xs:List Value} {vs:Array Value} {tX:TypeId} (o:TR w2 b 96 2 v2 j xs) (hX:Whole w2 X vs 67) (v:Value):TR (w2.setCell ⟨X,2,none⟩ v) b 96 2 v2 j xs:=by
 have g:w2.grownBy (w2.setCell ⟨X,2,none⟩ v) (some X):=aL (ak (Below.refl w2.heap.size w2) _) 2 v;exact o.kept g (.inr (o.unlike hX (by decide)))
theorem xP (base M m:Nat) (vs:Value) (aA:Option Addr) (cA:Nat) (l:List (ByteArray×ByteArray)) (f:Nat→RS) (nm dt:ByteArray) (w:World) (H:MV base w M vs m f) (HA:TR w 0 96 2 (.slice aA l.length cA) l.length (fM l)) (he:Nm.elem nm=true) (hbase:base≤w.heap.size) (hm:m≤100000) (hs:nm.size≤10000) (hl:l.length≤64) (hvs:∀ p∈l,p.1.size≤10000∧p.2.size≤6000):
  Calls Tryz.prog 48 #[.pointer (some ⟨M,0,none⟩),.int .i64 2,.string nm,.string dt,.slice aA l.length cA] w fun e w'=>ZJ base M m vs f nm l w e w':=by
 obtain⟨i0,hi0,hz0,hz1,hz2⟩:=info_parts tF;obtain⟨iA,M9,za,ze,zf⟩:=info_parts ny;obtain⟨A,c,rfl⟩:=H.form;obtain⟨w1,hw1⟩:∃ w1,w.alloc (.cells #[.int .i64 2,.string ⟨#[]⟩,.slice none 0 0,.string ⟨#[]⟩,.int .i64 (-1),.slice none 0 0,.bool false] 67)=w1:=⟨_,rfl⟩
 have hb1:Below w.heap.size w w1:=eP hw1;have hX1:Whole w1 w.heap.size #[.int .i64 2,.string ⟨#[]⟩,.slice none 0 0,.string ⟨#[]⟩,.int .i64 (-1),.slice none 0 0,.bool false] 67:=by rw[←hw1];exact Whole.new w _ _
 have hR:=vE nm w1 hs;rw[he] at hR;have HR:=zh hR;have aU:=zh hX1;have HB1:=zh hb1;have HW1:=zh hw1;have HM:=zh (fun (W:World) (hb:Below w.heap.size w W)=>H.below hb);have HAW:=zh (fun (W:World) (hb:Below w.heap.size w W)=>HA.below hb);have Um:M<w.heap.size:=H.var.lt;have Ih:=zh (fun x (hx:(Value.slice A m c).ownBlock=some x)=>(H.lt x (Or.inr (Or.inl hx))).2);have HVS:=zh (fun (j:Nat) (p:ByteArray×ByteArray) (hj:l[j]?=some p)=>hvs p (List.mem_of_getElem? hj));obtain⟨n,hn⟩:∃ n,l.length=n:=⟨_,rfl⟩
 have HN:=zh hn;rw[hn] at hl;clear hR hX1 hb1 hw1 H HA hs hvs;rw[hn];clear hn
 go_enter Tryz.func48,Tryz.ntmps48
 go_wp2_with fail;rw[HW1.out];refine HR.out.mono ?_;rintro e w2 ⟨rfl,hb2⟩;have hX2:=aU.out.below hb2 aU.out.lt;have fu:=HB1.out.trans (hb2.mono HB1.out.size);have fE:=zh hX2;have HB2:=zh fu;clear hb2 fu hX2 aU HB1 HR;go_wp2_with fail
 go_loopw [12] (fun i wr=>∃ (j:Nat) (va:Value),i=.int .i64 (j:Int)∧j≤n∧Hid (Rb l j)∧Hid (Whole wr w.heap.size #[.int .i64 2,.string ⟨#[]⟩,va,.string ⟨#[]⟩,.int .i64 (-1),.slice none 0 0,.bool false] 67)∧Hid (TR wr w.heap.size 96 2 va j (fM ((l.take j).map gD)))∧Hid (Below w.heap.size w wr)) (fun i _=>n - (intOf i).toNat)
 case atStart=>exact⟨0,.slice none 0 0,rfl,Nat.zero_le _,zh (FH l),fE,zh (TR.nil _ _ _ _),HB2⟩
 case round=>
  obtain⟨j,va,rfl,hj,lJ,HX,Dr,HB⟩:=hrel;obtain⟨Av,cv,rfl⟩:=Dr.out.form;by_cases hjn:j<n
  ·have p1:(j:Int)<(n:Int):=by omega
   have p0:(0:Int)≤(j:Int):=by omega
   obtain⟨p,hp⟩:∃ p,l[j]?=some p:=⟨l[j]'(by rw[HN.out];exact hjn),by simp⟩
   have HP:=zh hp;obtain⟨ga,oa,rfl,-⟩:=(HAW.out wr HB.out).cells (by rw[HN.out];omega);have QI:=zh (fun (W:World) (hb:Below w.heap.size w W) (k:Nat) (q:ByteArray×ByteArray) (hq:l[k]?=some q)=>by
    have hk:k<l.length:=(List.getElem?_eq_some_iff.1 hq).1;have h:=HAW.out W hb
    exact And.intro (h.cellAt (k*2) _ (by omega) (gH _ _ _ hq).1) (show W.cell? ⟨ga,oa+k*2+1,none⟩=some (.string q.2) by rw[Nat.add_assoc];exact h.cellAt (k*2+1) _ (by omega) (gH _ _ _ hq).2))
   obtain⟨d0,d1⟩:=QI.out wr HB.out j p hp;have hsz:=HVS.out j p hp;have HH:=zh (oz p.1 wr hsz.1);clear hp;go_wp2_with fail;refine HH.out.mono ?_;rintro e w3 ⟨rfl,hb3⟩;have HB3:=zh (HB.out.trans (hb3.mono HB.out.size));have dW:=zh (HX.out.below hb3 HX.out.lt);have Rc:=zh (Dr.out.below hb3);clear HH hb3 d0 d1 HB HX Dr;cases hat:Nm.attr p.1 with
   | false=>
    have HBAD:=zh (Nm.BX HP.out hat);go_wp2_with fail
    go_ret
    exact .inl ⟨HBAD.out,rfl,HB3.out⟩
   | true=>
    have HAT:=zh hat;clear hat;go_wp2_with fail
    go_loopw [13] (fun k wr=>∃ u:Nat,k=.int .i64 (u:Int)∧u≤j∧Hid (Below w3.heap.size w3 wr)∧Hid (p.1.data.toList∉AU (l.take u))) (fun k _=>j - (intOf k).toNat)
    case atStart=>exact⟨0,rfl,Nat.zero_le _,zh (Below.refl _ _),zh (by simp[AU])⟩
    case round=>
     obtain⟨u,rfl,huj,Ur,ZK⟩:=hrel;have GL:=zh (HB3.out.trans (Ur.out.mono HB3.out.size));obtain⟨e0,e1⟩:=QI.out wr GL.out j p HP.out;by_cases hu:u<j
     ·have r1:(u:Int)<(j:Int):=by omega
      have r0:(0:Int)≤(u:Int):=by omega
      have r2:(u:Int)<(n:Int):=by omega
      obtain⟨q,hq⟩:∃ q,l[u]?=some q:=⟨l[u]'(by rw[HN.out];omega),by simp⟩
      have HQ:=zh hq;obtain⟨f0,-⟩:=QI.out wr GL.out u q hq;have HDR:=zh (bB wr.heap.size wr);clear hq e1;cases hqe:(q.1.toList == p.1.toList) with
      | true=>
       have hin:p.1.data.toList∈AU (l.take j):=by
        have SL:q.1.toList=p.1.toList:=by simpa using hqe
        rw[←Lib.toList_data,←SL,Lib.toList_data];exact List.mem_map_of_mem (List.mem_of_getElem? (by rw[List.getElem?_take,if_pos hu];exact HQ.out))
       have HBAD:=zh (Nm.zu HP.out hin);clear hin;go_wp2_with fail
       go_region
       all_goals go_wp2_with fail
       all_goals go_ret
       all_goals exact .inl ⟨HBAD.out,rfl,GL.out.trans (HDR.out.mono GL.out.size)⟩
      | false=>
       have hno:p.1.data.toList∉AU (l.take (u+1)):=by
        rw[vF HQ.out];intro hm;rcases List.mem_append.1 hm with h | h
        ·exact ZK.out h
        ·have SL:¬ q.1.toList=p.1.toList:=by simpa using hqe
         exact SL (by rw[Lib.toList_data,Lib.toList_data];exact (List.mem_singleton.1 h).symm)
       have ZL:=zh hno;clear hno;go_wp2_with fail
       go_region
       all_goals go_wp2_with fail
       all_goals go_roundw
       all_goals first | exact⟨u+1,by go_num,by omega,zh (Ur.out.trans (HDR.out.mono Ur.out.size)),ZL⟩ | (simp[intOf];omega)
     ·have ZM:u=j:=by omega
      subst ZM;have r1:¬ (u:Int)<(u:Int):=by omega
      have rz:=zh (dW.out.below Ur.out dW.out.lt);have Rf:=zh (Rc.out.below Ur.out);have SQ:=zh (FI lJ.out HP.out ZK.out HAT.out);obtain⟨V,hV⟩:∃ V,wr.drew=V:=⟨_,rfl⟩
      have oU:Below wr.heap.size wr V:=by rw[←hV];exact bB _ wr
      have bZ:=zh (GL.out.trans (oU.mono GL.out.size));have bV:=zh (rz.out.below oU rz.out.lt);have Ju:=zh (Rf.out.below oU);have SS:=zh (jT p.2 V (by omega));obtain⟨rv,mQ⟩:∃ rv,aX p.2=rv:=⟨_,rfl⟩
      rw[show fJ (bJ.rep p.2.data.toList)=rv from mQ] at SS;have SV:=zh (show gD p=(p.1,rv) by rw[←mQ];rfl);have HS:=zh (fun (W:World) (hb:Below w.heap.size w W)=>QI.out W hb u p HP.out);have x2:V.cell? ⟨w.heap.size,2,none⟩=some (.slice Av u cv):=bV.out.cell 2;clear oU mQ rz Rf dW Rc HB3 Ur ZK;go_wp2_with fail;refine wp_region_noPanic ?_;refine wp_region_held_drew (S:=(fun W=>W.cell? ⟨ga,oa+u*2,none⟩=some (.string p.1)∧W.cell? ⟨ga,oa+u*2+1,none⟩=some (.string p.2))) (by kernel_rfl) ?_ (fun hHeld=>?_)
      ·exact (by rw[hV];exact HS.out V bZ.out)
      rw[hV] at hHeld ⊢;refine bD [0,2,3,4,5,6,7,8,9,10,11] ?_;iterate 11 (refine iZ ?_;try simp only[pS])
      refine bE ?_;refine wpAnyH_ready (rs:=[1,12]) (by kernel_rfl) (by simp) ?_;refine AllReadyH.cons rfl (fun K hK=>?_) (AllReadyH.cons rfl (fun K hK=>?_) AllReadyH.nil)
      ·go_simp;refine hK.out _ _ (HS.out V bZ.out) fun hHeld=>?_;clear hK K;(try simp only[pS]);refine bL 12 fun K hK=>?_;go_simp;refine SS.out.mono ?_;rintro e w5 ⟨rfl,hb5⟩;have mq:=zh (bZ.out.trans (hb5.mono bZ.out.size));have eT:=zh (bV.out.below hb5 bV.out.lt);have Br:=zh (Ju.out.below hb5);have y2:w5.cell? ⟨w.heap.size,2,none⟩=some (.slice Av u cv):=eT.out.cell 2;obtain⟨w6,kQ⟩:∃ w6,w5.alloc (.cells #[.string p.1,.string rv] 96)=w6:=⟨_,rfl⟩
       have Dt:Below w5.heap.size w5 w6:=eP kQ;have oq:=zh (mq.out.trans (Dt.mono mq.out.size));have nW:=zh (eT.out.below Dt eT.out.lt);have SX:=zh (Br.out.below Dt);have z2:w6.cell? ⟨w.heap.size,2,none⟩=some (.slice Av u cv):=nW.out.cell 2;have hsrc:((.slice (some ⟨w5.heap.size,0,none⟩) 1 1:Value)=.slice none 0 0∧1=0)∨∃ a c,(.slice (some ⟨w5.heap.size,0,none⟩) 1 1:Value)=.slice (some a) 1 c∧∀ j u,(fM [(p.1,rv)])[j]?=some u→w6.cell? (a.add j)=some u:=by
        rw[←kQ];exact nN w5 96 (fM [(p.1,rv)])
       have hs6:w.heap.size≤w6.heap.size:=oq.out.size;have wT:=SX.out;clear hb5 Dt;refine hK.out _ _ (HS.out w5 mq.out) fun hHeld=>?_;clear hK K;(try simp only[pS]);refine bD [13] ?_
       (refine iZ ?_;try simp only[pS])
       refine bE ?_;refine bL 14 fun K hK=>?_;go_simp;(try rw[kQ]);refine hK.out _ _ (HS.out w6 oq.out) fun hHeld=>?_;clear hK K;(try simp only[pS]);refine bL 15 fun K hK=>?_;refine aM rfl _ _ 65 rfl w.heap.size 96 iA (.agg #[.string ⟨#[]⟩,.string ⟨#[]⟩]) 2 32 Tryz.underlying65 M9 za ze zf rfl (by decide) _ u (fM ((l.take u).map gD)) rfl wT _ 1 (fM [(p.1,rv)]) rfl rfl hsrc (gN _) ?c3 ?c4 hs6 ?_
       case c3=>unfold maxLen;omega
       case c4=>omega
       intro v7 w7 o7 g7 f7;rw[←jM] at o7;obtain⟨A7,c7,rfl⟩:=o7.form;have aO:=nW.out.grown g7 (fun e=>wT.unlike nW.out (by decide) e.symm);have jm:=zh (oq.out.grown g7 oq.out.size (fun j hj=>(wT.lt j hj).1));have k2:w7.cell? ⟨w.heap.size,2,none⟩=some (.slice Av u cv):=aO.cell 2;have k2f:=aO.free 2;have o8:=Dq (w1:=w7) (w3:=w7) (va:=.slice none 0 0) (tX:=0) o7 aO (.slice A7 (u+1) c7);obtain⟨w8,hw8⟩:∃ w8,w7.setCell ⟨w.heap.size,2,none⟩ (.slice A7 (u+1) c7)=w8:=⟨_,rfl⟩
       rw[hw8] at o8;have jW:Hid (Whole w8 w.heap.size #[.int .i64 2,.string ⟨#[]⟩,(.slice A7 (u+1) c7),.string ⟨#[]⟩,.int .i64 (-1),.slice none 0 0,.bool false] 67):=zh (by rw[←hw8];exact aO.put 2 _);have g8:w7.grownBy w8 (some w.heap.size):=by rw[←hw8];exact aL (ak (Below.refl w7.heap.size w7) _) 2 _
       have qh:=zh (jm.out.grown g8 jm.out.size (fun j hj=>by injection hj with hj;omega));have Us:Hid (TR w8 w.heap.size 96 2 (.slice A7 (u+1) c7) (u+1) (fM ((l.take (u+1)).map gD))):=zh (by rw[oN HP.out,SV.out];exact o8);clear o7 g7 f7 aO o8 g8;refine hK.out _ _ (HS.out w7 jm.out) fun hHeld=>?_;clear hK K;(try simp only[pS]);refine bD [16] ?_
       (refine iZ ?_;try simp only[pS])
       refine bE ?_;refine bL 17 fun K hK=>?_;go_simp;(try rw[hw8]);refine hK.out _ _ (HS.out w8 qh.out) fun hHeld=>?_;clear hK K;(try simp only[pS]);refine fB ?_;go_wp2_with fail
       go_roundw
       case rel=>exact⟨u+1,_,by go_num,by omega,SQ,jW,Us,qh⟩
       case measure=>simp[intOf];omega
      ·go_simp;refine SS.out.mono ?_;rintro e w5 ⟨rfl,hb5⟩;have mq:=zh (bZ.out.trans (hb5.mono bZ.out.size));have eT:=zh (bV.out.below hb5 bV.out.lt);have Br:=zh (Ju.out.below hb5);have y2:w5.cell? ⟨w.heap.size,2,none⟩=some (.slice Av u cv):=eT.out.cell 2;obtain⟨w6,kQ⟩:∃ w6,w5.alloc (.cells #[.string p.1,.string rv] 96)=w6:=⟨_,rfl⟩
       have Dt:Below w5.heap.size w5 w6:=eP kQ;have oq:=zh (mq.out.trans (Dt.mono mq.out.size));have nW:=zh (eT.out.below Dt eT.out.lt);have SX:=zh (Br.out.below Dt);have z2:w6.cell? ⟨w.heap.size,2,none⟩=some (.slice Av u cv):=nW.out.cell 2;have hsrc:((.slice (some ⟨w5.heap.size,0,none⟩) 1 1:Value)=.slice none 0 0∧1=0)∨∃ a c,(.slice (some ⟨w5.heap.size,0,none⟩) 1 1:Value)=.slice (some a) 1 c∧∀ j u,(fM [(p.1,rv)])[j]?=some u→w6.cell? (a.add j)=some u:=by
        rw[←kQ];exact nN w5 96 (fM [(p.1,rv)])
       have hs6:w.heap.size≤w6.heap.size:=oq.out.size;have wT:=SX.out;clear hb5 Dt;refine hK.out _ _ (HS.out w5 mq.out) fun hHeld=>?_;clear hK K;(try simp only[pS]);refine bD [13] ?_
       (refine iZ ?_;try simp only[pS])
       refine bE ?_;refine wpAnyH_ready (rs:=[1,14]) (by kernel_rfl) (by simp) ?_;refine AllReadyH.cons rfl (fun K hK=>?_) (AllReadyH.cons rfl (fun K hK=>?_) AllReadyH.nil)
       ·go_simp;refine hK.out _ _ (HS.out w5 mq.out) fun hHeld=>?_;clear hK K;(try simp only[pS]);refine bL 14 fun K hK=>?_;go_simp;(try rw[kQ]);refine hK.out _ _ (HS.out w6 oq.out) fun hHeld=>?_;clear hK K;(try simp only[pS]);refine bL 15 fun K hK=>?_;refine aM rfl _ _ 65 rfl w.heap.size 96 iA (.agg #[.string ⟨#[]⟩,.string ⟨#[]⟩]) 2 32 Tryz.underlying65 M9 za ze zf rfl (by decide) _ u (fM ((l.take u).map gD)) rfl wT _ 1 (fM [(p.1,rv)]) rfl rfl hsrc (gN _) ?c3 ?c4 hs6 ?_
        case c3=>unfold maxLen;omega
        case c4=>omega
        intro v7 w7 o7 g7 f7;rw[←jM] at o7;obtain⟨A7,c7,rfl⟩:=o7.form;have aO:=nW.out.grown g7 (fun e=>wT.unlike nW.out (by decide) e.symm);have jm:=zh (oq.out.grown g7 oq.out.size (fun j hj=>(wT.lt j hj).1));have k2:w7.cell? ⟨w.heap.size,2,none⟩=some (.slice Av u cv):=aO.cell 2;have k2f:=aO.free 2;have o8:=Dq (w1:=w7) (w3:=w7) (va:=.slice none 0 0) (tX:=0) o7 aO (.slice A7 (u+1) c7);obtain⟨w8,hw8⟩:∃ w8,w7.setCell ⟨w.heap.size,2,none⟩ (.slice A7 (u+1) c7)=w8:=⟨_,rfl⟩
        rw[hw8] at o8;have jW:Hid (Whole w8 w.heap.size #[.int .i64 2,.string ⟨#[]⟩,(.slice A7 (u+1) c7),.string ⟨#[]⟩,.int .i64 (-1),.slice none 0 0,.bool false] 67):=zh (by rw[←hw8];exact aO.put 2 _);have g8:w7.grownBy w8 (some w.heap.size):=by rw[←hw8];exact aL (ak (Below.refl w7.heap.size w7) _) 2 _
        have qh:=zh (jm.out.grown g8 jm.out.size (fun j hj=>by injection hj with hj;omega));have Us:Hid (TR w8 w.heap.size 96 2 (.slice A7 (u+1) c7) (u+1) (fM ((l.take (u+1)).map gD))):=zh (by rw[oN HP.out,SV.out];exact o8);clear o7 g7 f7 aO o8 g8;refine hK.out _ _ (HS.out w7 jm.out) fun hHeld=>?_;clear hK K;(try simp only[pS]);refine bD [16] ?_
        (refine iZ ?_;try simp only[pS])
        refine bE ?_;refine bL 17 fun K hK=>?_;go_simp;(try rw[hw8]);refine hK.out _ _ (HS.out w8 qh.out) fun hHeld=>?_;clear hK K;(try simp only[pS]);refine fB ?_;go_wp2_with fail
        go_roundw
        case rel=>exact⟨u+1,_,by go_num,by omega,SQ,jW,Us,qh⟩
        case measure=>simp[intOf];omega
       ·go_simp;(try rw[kQ]);refine hK.out _ _ (HS.out w6 oq.out) fun hHeld=>?_;clear hK K;(try simp only[pS]);refine bL 1 fun K hK=>?_;go_simp;refine hK.out _ _ (HS.out w6 oq.out) fun hHeld=>?_;clear hK K;(try simp only[pS]);refine bL 15 fun K hK=>?_;refine aM rfl _ _ 65 rfl w.heap.size 96 iA (.agg #[.string ⟨#[]⟩,.string ⟨#[]⟩]) 2 32 Tryz.underlying65 M9 za ze zf rfl (by decide) _ u (fM ((l.take u).map gD)) rfl wT _ 1 (fM [(p.1,rv)]) rfl rfl hsrc (gN _) ?c3 ?c4 hs6 ?_
        case c3=>unfold maxLen;omega
        case c4=>omega
        intro v7 w7 o7 g7 f7;rw[←jM] at o7;obtain⟨A7,c7,rfl⟩:=o7.form;have aO:=nW.out.grown g7 (fun e=>wT.unlike nW.out (by decide) e.symm);have jm:=zh (oq.out.grown g7 oq.out.size (fun j hj=>(wT.lt j hj).1));have k2:w7.cell? ⟨w.heap.size,2,none⟩=some (.slice Av u cv):=aO.cell 2;have k2f:=aO.free 2;have o8:=Dq (w1:=w7) (w3:=w7) (va:=.slice none 0 0) (tX:=0) o7 aO (.slice A7 (u+1) c7);obtain⟨w8,hw8⟩:∃ w8,w7.setCell ⟨w.heap.size,2,none⟩ (.slice A7 (u+1) c7)=w8:=⟨_,rfl⟩
        rw[hw8] at o8;have jW:Hid (Whole w8 w.heap.size #[.int .i64 2,.string ⟨#[]⟩,(.slice A7 (u+1) c7),.string ⟨#[]⟩,.int .i64 (-1),.slice none 0 0,.bool false] 67):=zh (by rw[←hw8];exact aO.put 2 _);have g8:w7.grownBy w8 (some w.heap.size):=by rw[←hw8];exact aL (ak (Below.refl w7.heap.size w7) _) 2 _
        have qh:=zh (jm.out.grown g8 jm.out.size (fun j hj=>by injection hj with hj;omega));have Us:Hid (TR w8 w.heap.size 96 2 (.slice A7 (u+1) c7) (u+1) (fM ((l.take (u+1)).map gD))):=zh (by rw[oN HP.out,SV.out];exact o8);clear o7 g7 f7 aO o8 g8;refine hK.out _ _ (HS.out w7 jm.out) fun hHeld=>?_;clear hK K;(try simp only[pS]);refine bD [16] ?_
        (refine iZ ?_;try simp only[pS])
        refine bE ?_;refine bL 17 fun K hK=>?_;go_simp;(try rw[hw8]);refine hK.out _ _ (HS.out w8 qh.out) fun hHeld=>?_;clear hK K;(try simp only[pS]);refine fB ?_;go_wp2_with fail
        go_roundw
        case rel=>exact⟨u+1,_,by go_num,by omega,SQ,jW,Us,qh⟩
        case measure=>simp[intOf];omega
  ·have Wj:j=n:=by omega
   have r1:¬ (j:Int)<(n:Int):=by omega
   have wQ:=zh (JI lJ.out (by rw[HN.out];omega));have hlm:l.take j=l:=List.take_of_length_le (by rw[HN.out];omega);have hrow:=Dr.out;rw[hlm] at hrow;have HLM:=zh (show (l.map gD).length=j by rw[List.length_map,HN.out,Wj]);have HRW:=zh hrow;have y1:wr.cell? ⟨w.heap.size,1,none⟩=some (.string ⟨#[]⟩):=HX.out.cell 1;have f1:=HX.out.free 1;obtain⟨w4,hw4⟩:∃ w4,wr.setCell ⟨w.heap.size,1,none⟩ (.string nm)=w4:=⟨_,rfl⟩
   have bI:Whole w4 w.heap.size #[.int .i64 2,.string nm,.slice Av j cv,.string ⟨#[]⟩,.int .i64 (-1),.slice none 0 0,.bool false] 67:=by rw[←hw4];exact HX.out.put 1 (.string nm)
   have g4:wr.grownBy w4 (some w.heap.size):=by rw[←hw4];exact aL (ak (Below.refl wr.heap.size wr) _) _ _
   have bY:=HB.out.grown g4 HB.out.size (fun j hj=>by simp at hj;omega);have hr4:=hrow.kept g4 (.inr (hrow.unlike HX.out (by decide)));have Du:=HM.out w4 bY;have c0:w4.cell? ⟨M,0,none⟩=some (.slice A m c):=Du.var.cell 0;have z0:=Du.var.free 0;have x0:w4.cell? ⟨w.heap.size,0,none⟩=some (.int .i64 2):=bI.cell 0;have x1:w4.cell? ⟨w.heap.size,1,none⟩=some (.string nm):=bI.cell 1;have x2:w4.cell? ⟨w.heap.size,2,none⟩=some (.slice Av j cv):=bI.cell 2;have x3:w4.cell? ⟨w.heap.size,3,none⟩=some (.string ⟨#[]⟩):=bI.cell 3;have x4:w4.cell? ⟨w.heap.size,4,none⟩=some (.int .i64 (-1)):=bI.cell 4;have x5:w4.cell? ⟨w.heap.size,5,none⟩=some (.slice none 0 0):=bI.cell 5;have x6:w4.cell? ⟨w.heap.size,6,none⟩=some (.bool false):=bI.cell 6;obtain⟨w5,eH⟩:∃ w5,w4.drew.alloc (.cells #[.int .i64 2,.string nm,.slice Av j cv,.string ⟨#[]⟩,.int .i64 (-1),.slice none 0 0,.bool false] 67)=w5:=⟨_,rfl⟩
   have fG:Below w4.heap.size w4 w5:=by rw[←eH];exact (bB _ w4).alloc (Nat.le_refl _) _
   have dP:=bI.below fG bI.lt;have OW:=Du.below fG;have oO:=hr4.below fG;have eu:=bY.trans (fG.mono bY.size);have c5:w5.cell? ⟨M,0,none⟩=some (.slice A m c):=OW.var.cell 0;have z5:=OW.var.free 0;have hsrc:w5.ownsRow w4.heap.size 67 7 (.slice (some ⟨w4.heap.size,0,none⟩) 1 1) 1 [.int .i64 2,.string nm,.slice Av j cv,.string ⟨#[]⟩,.int .i64 (-1),.slice none 0 0,.bool false]:=by
    rw[←eH];exact World.ownsRow_lit (base:=w4.heap.size) (e:=67) (size:=7) w4.drew #[.int .i64 2,.string nm,.slice Av j cv,.string ⟨#[]⟩,.int .i64 (-1),.slice none 0 0,.bool false] 1 (Nat.le_refl _) (by unfold maxLen;omega) rfl
   have SY:base≤w5.heap.size:=by have:=fG.size;have:=bY.size;omega
   have JF:=zh (show w4.drew.cell? ⟨w.heap.size,0,none⟩=some (.int .i64 2)∧w4.drew.cell? ⟨w.heap.size,1,none⟩=some (.string nm)∧w4.drew.cell? ⟨w.heap.size,2,none⟩=some (.slice Av j cv)∧w4.drew.cell? ⟨w.heap.size,3,none⟩=some (.string ⟨#[]⟩)∧w4.drew.cell? ⟨w.heap.size,4,none⟩=some (.int .i64 (-1))∧w4.drew.cell? ⟨w.heap.size,5,none⟩=some (.slice none 0 0)∧w4.drew.cell? ⟨w.heap.size,6,none⟩=some (.bool false) from⟨bI.cell 0,bI.cell 1,bI.cell 2,bI.cell 3,bI.cell 4,bI.cell 5,bI.cell 6⟩);have H9:=zh (show w5.cell? ⟨w.heap.size,0,none⟩=some (.int .i64 2)∧w5.cell? ⟨w.heap.size,1,none⟩=some (.string nm)∧w5.cell? ⟨w.heap.size,2,none⟩=some (.slice Av j cv)∧w5.cell? ⟨w.heap.size,3,none⟩=some (.string ⟨#[]⟩)∧w5.cell? ⟨w.heap.size,4,none⟩=some (.int .i64 (-1))∧w5.cell? ⟨w.heap.size,5,none⟩=some (.slice none 0 0)∧w5.cell? ⟨w.heap.size,6,none⟩=some (.bool false) from⟨dP.cell 0,dP.cell 1,dP.cell 2,dP.cell 3,dP.cell 4,dP.cell 5,dP.cell 6⟩);have eT:=zh dP;have GU:=zh eu;have Br:=zh oO;have ZN:=zh (HM.out w (Below.refl _ w));have hrM:=OW.row;clear bI dP g4 bY Du fG eu hr4 oO hrow hlm HX Dr HB Wj;go_wp2_with fail;(try rw[hw4]);(try go_wp2_with fail);refine wp_region_noPanic ?_;refine wp_region_held_drew (S:=(fun W=>W.cell? ⟨w.heap.size,0,none⟩=some (.int .i64 2)∧W.cell? ⟨w.heap.size,1,none⟩=some (.string nm)∧W.cell? ⟨w.heap.size,2,none⟩=some (.slice Av j cv)∧W.cell? ⟨w.heap.size,3,none⟩=some (.string ⟨#[]⟩)∧W.cell? ⟨w.heap.size,4,none⟩=some (.int .i64 (-1))∧W.cell? ⟨w.heap.size,5,none⟩=some (.slice none 0 0)∧W.cell? ⟨w.heap.size,6,none⟩=some (.bool false))) (by kernel_rfl) ?_ (fun hHeld=>?_)
   ·exact JF.out
   refine bD [0,1,2,3,5] ?_;iterate 5 (refine iZ ?_;try simp only[pS])
   refine bE ?_;apply Bq
   ·intro KEY;refine wpAnyH_ready (rs:=[4,6]) (by kernel_rfl) (by simp) ?_;refine AllReadyH.cons rfl (fun K hK=>?_) (AllReadyH.cons rfl (fun K hK=>?_) AllReadyH.nil)
    ·go_simp;refine hK.out _ _ (JF.out) fun hHeld=>?_;clear hK K;(try simp only[pS]);refine bL 6 fun K hK=>?_;go_simp;(try rw[eH]);refine hK.out _ _ (H9.out) fun hHeld=>?_;clear hK K;(try simp only[pS]);exact KEY
    ·go_simp;(try rw[eH]);refine hK.out _ _ (H9.out) fun hHeld=>?_;clear hK K;(try simp only[pS]);refine bL 4 fun K hK=>?_;go_simp;refine hK.out _ _ (H9.out) fun hHeld=>?_;clear hK K;(try simp only[pS]);exact KEY
   refine bL 7 fun K hK=>?_;refine cZ rfl _ _ 68 rfl base w4.heap.size 67 i0 (.agg #[.int .i64 0,.string ⟨#[]⟩,.slice none 0 0,.string ⟨#[]⟩,.int .i64 0,.slice none 0 0,.bool false]) 7 104 Tryz.underlying68 hi0 hz0 hz1 hz2 rfl (by decide) _ m (bS pR m f) rfl hrM _ 1 [.int .i64 2,.string nm,.slice Av j cv,.string ⟨#[]⟩,.int .i64 (-1),.slice none 0 0,.bool false] rfl hsrc ?c3 ?c4 ?c5 SY ?_
   case c3=>exact lN ⟨2,nm,⟨Av,j,cv⟩,l.map gD,⟨#[]⟩,-1,⟨none,0,0⟩,[],false⟩
   case c4=>unfold maxLen;omega
   case c5=>omega
   intro v6 w6 o6 g6 f6;obtain⟨A6,c6,rfl⟩:=aF (aH o6);have hpush:=ZN.out.push (x:=⟨2,nm,⟨Av,j,cv⟩,l.map gD,⟨#[]⟩,-1,⟨none,0,0⟩,[],false⟩) GU.out g6 o6 f6 rfl rfl (by show TR _ _ _ _ (.slice Av j cv) (l.map gD).length _;rw[HLM.out];exact Br.out);obtain⟨v6,qV,yh⟩:=hpush;have k6:w6.cell? ⟨M,0,none⟩=some (.slice A m c):=v6.cell 0;have k6f:=v6.free 0;have gI:=eT.out.grown g6 (fun e=>by have:=Ih.out _ e.symm;omega);obtain⟨w7,hw7⟩:∃ w7,w6.setCell ⟨M,0,none⟩ (.slice A6 (m+1) c6)=w7:=⟨_,rfl⟩
   rw[hw7] at qV yh;have aO:Whole w7 w.heap.size #[.int .i64 2,.string nm,.slice Av j cv,.string ⟨#[]⟩,.int .i64 (-1),.slice none 0 0,.bool false] 67:=by rw[←hw7];exact gI.other (by show w.heap.size≠M;omega) _
   have Rh:=(⟨gI.cell 0,gI.cell 1,gI.cell 2,gI.cell 3,gI.cell 4,gI.cell 5,gI.cell 6⟩:w6.cell? ⟨w.heap.size,0,none⟩=some (.int .i64 2)∧w6.cell? ⟨w.heap.size,1,none⟩=some (.string nm)∧w6.cell? ⟨w.heap.size,2,none⟩=some (.slice Av j cv)∧w6.cell? ⟨w.heap.size,3,none⟩=some (.string ⟨#[]⟩)∧w6.cell? ⟨w.heap.size,4,none⟩=some (.int .i64 (-1))∧w6.cell? ⟨w.heap.size,5,none⟩=some (.slice none 0 0)∧w6.cell? ⟨w.heap.size,6,none⟩=some (.bool false))
   have qW:=(⟨aO.cell 0,aO.cell 1,aO.cell 2,aO.cell 3,aO.cell 4,aO.cell 5,aO.cell 6⟩:w7.cell? ⟨w.heap.size,0,none⟩=some (.int .i64 2)∧w7.cell? ⟨w.heap.size,1,none⟩=some (.string nm)∧w7.cell? ⟨w.heap.size,2,none⟩=some (.slice Av j cv)∧w7.cell? ⟨w.heap.size,3,none⟩=some (.string ⟨#[]⟩)∧w7.cell? ⟨w.heap.size,4,none⟩=some (.int .i64 (-1))∧w7.cell? ⟨w.heap.size,5,none⟩=some (.slice none 0 0)∧w7.cell? ⟨w.heap.size,6,none⟩=some (.bool false))
   have bf:=zh (And.intro qV yh);clear qV yh aO gI o6 g6 f6 v6;refine hK.out _ _ (Rh) fun hHeld=>?_;clear hK K;(try simp only[pS]);refine bD [8,9] ?_;iterate 2 (refine iZ ?_;try simp only[pS])
   refine bE ?_;refine bL 10 fun K hK=>?_;go_simp;(try rw[hw7]);refine hK.out _ _ (qW) fun hHeld=>?_;clear hK K;(try simp only[pS]);refine fB ?_;go_wp2_with fail
   go_ret
   exact .inr ⟨wQ.out,_,_,rfl,bf.out.1,bf.out.2⟩
end
end Go.Proofs.YtnbaadpgbcklaaaGreatDoor
