/- Part of a proof about trees: NEql. -/
import Derived.BigQuiet
import Derived.Deep.DeepCutAuto
import Derived.Deep.RegionHeld3
import Derived.Test.YtnbaadpgbcklaaaGreatDoorGNMat
set_option linter.unusedVariables false
set_option linter.unusedSimpArgs false
set_option linter.unusedSectionVars false
set_option maxHeartbeats 8000000
set_option maxRecDepth 100000
namespace Go.Proofs.YtnbaadpgbcklaaaGreatDoor
section
open Go.RowKit
variable [nX]
theorem Vp {w:World} {X:Nat} {t:TypeId} {c0 c1 c2 c3 c4 c5 c6 c7 c8:Value} (h:Whole w X #[c0,c1,c2,c3,c4,c5,c6,c7,c8] t) (d0 d1 d2 d3 d4 d5 d6 d7 d8:Value):
  ∃ W,((((((((w.setCell ⟨X,0,none⟩ d0).setCell ⟨X,1,none⟩ d1).setCell ⟨X,2,none⟩ d2).setCell ⟨X,3,none⟩ d3).setCell ⟨X,4,none⟩ d4).setCell ⟨X,5,none⟩ d5).setCell ⟨X,6,none⟩ d6).setCell ⟨X,7,none⟩ d7).setCell ⟨X,8,none⟩ d8=W∧Whole W X #[d0,d1,d2,d3,d4,d5,d6,d7,d8] t∧w.grownBy W (some X):=by
 refine⟨_,rfl,?_,?_⟩
 ·have h0:Whole _ X #[d0,c1,c2,c3,c4,c5,c6,c7,c8] t:=h.put 0 d0;have h1:Whole _ X #[d0,d1,c2,c3,c4,c5,c6,c7,c8] t:=h0.put 1 d1;have h2:Whole _ X #[d0,d1,d2,c3,c4,c5,c6,c7,c8] t:=h1.put 2 d2;have h3:Whole _ X #[d0,d1,d2,d3,c4,c5,c6,c7,c8] t:=h2.put 3 d3;have h4:Whole _ X #[d0,d1,d2,d3,d4,c5,c6,c7,c8] t:=h3.put 4 d4;have h5:Whole _ X #[d0,d1,d2,d3,d4,d5,c6,c7,c8] t:=h4.put 5 d5;have h6:Whole _ X #[d0,d1,d2,d3,d4,d5,d6,c7,c8] t:=h5.put 6 d6;have h7:Whole _ X #[d0,d1,d2,d3,d4,d5,d6,d7,c8] t:=h6.put 7 d7;exact h7.put 8 d8
 ·have g0:w.grownBy (w.setCell ⟨X,0,none⟩ d0) (some X):=aL (ak (Below.refl w.heap.size w) _) 0 d0;exact aL (aL (aL (aL (aL (aL (aL (aL g0 1 d1) 2 d2) 3 d3) 4 d4) 5 d5) 6 d6) 7 d7) 8 d8
theorem KD (base bM T B M:Nat) (b s:Int) (vs vf aT vh:Value) (n live m:Nat) (fr:List Nat) (av:Int→Tr.Sl) (f:Nat→RS) (hs:List Int) (g:Tr.G) (K:Nat) (w:World) (H:TW w base bM T B M b s vs vf aT vh n live m fr av f hs g K) (hm:m≤700) (hK:K≤100):
  Calls Tryz.prog 37 #[.pointer (some ⟨T,0,none⟩)] w fun e w'=>e=.returned (.bool true)∧Below w.heap.size w w':=by
 obtain⟨Ah,ch,rfl⟩:=H.tw.row.form;have hlen:=H.len;have hm0:=H.m0;obtain⟨gh,oh,rfl,-,-,hcs,-⟩:=H.tw.row.cells (by omega);obtain⟨AM,cM,rfl⟩:=H.mv.form;obtain⟨gm,rfl,-⟩:=H.mv.read hm0;have HH:=zh H;have HW:=zh (fun (W:World) (hb:Below w.heap.size w W)=>H.below hb);have HLEN:=zh hlen;have qp:=zh (fun (W:World) (hb:Below w.heap.size w W) (j:Nat) (hj:j<m)=>(show W.cell? ⟨gh,oh+j,none⟩=some (.int .i64 (hof hs (j:Int))) from (H.tw.row.below hb).cellAt j _ (by omega) (aY (H.aW hj))));have jh:=zh (fun (W:World) (hb:Below w.heap.size w W)=>(show W.cell? ⟨T,0,none⟩=some (.pointer (some ⟨B,0,none⟩))∧W.cell? ⟨T,1,none⟩=some (.pointer (some ⟨M,0,none⟩))∧W.cell? ⟨T,2,none⟩=some (.slice (some ⟨gh,oh,none⟩) m ch)∧W.cell? ⟨M,0,none⟩=some (.slice (some ⟨gm,0,none⟩) m cM) from by have h:=H.tw.below hb;rw[hlen] at h;exact⟨h.var.cell 0,h.var.cell 1,h.var.cell 2,(H.mv.below hb).cell.1⟩));clear H hcs
 go_enter Tryz.func37,Tryz.ntmps37
 go_wp2_with fail
 go_loopw [3] (fun u wr=>∃ j:Nat,u=.int .i64 (j:Int)∧j≤m∧Hid (Below w.heap.size w wr)) (fun u _=>m - (intOf u).toNat)
 case atStart=>exact⟨0,rfl,Nat.zero_le _,zh (Below.refl _ _)⟩
 case round=>
  obtain⟨wo,hwo⟩:∃ wo:World,wo=wr:=⟨_,rfl⟩
  subst hwo;obtain⟨j,rfl,hj,HB⟩:=hrel;obtain⟨t0,t1,t2,tm⟩:=jh.out wo HB.out;by_cases hjm:j<m
  ·have y0:(0:Int)≤(j:Int):=by omega
   have y1:(j:Int)<(m:Int):=by omega
   obtain⟨h,hh⟩:∃ h,hof hs (j:Int)=h:=⟨_,rfl⟩
   obtain⟨V,hV⟩:∃ V,wo.drew=V:=⟨_,rfl⟩
   have bZ:=zh (show Below w.heap.size w V by rw[←hV];exact HB.out.trans ⟨rfl,rfl,rfl,Nat.le_refl _,fun _ _=>rfl⟩);have vZ:=zh (fun (W:World) (hb:Below w.heap.size w W)=>(show W.cell? ⟨T,0,none⟩=some (.pointer (some ⟨B,0,none⟩))∧W.cell? ⟨T,2,none⟩=some (.slice (some ⟨gh,oh,none⟩) m ch)∧W.cell? ⟨gh,oh+j,none⟩=some (.int .i64 h) from⟨(jh.out W hb).1,(jh.out W hb).2.2.1,by have:=qp.out W hb j hjm;rw[hh] at this;exact this⟩));have dx:=zh (fun (W:World) (hb:Below w.heap.size w W)=>bW bM M m _ f j W (HW.out W hb).mv hjm (by omega));obtain⟨q,hq⟩:∃ q,(f j).gone=q:=⟨_,rfl⟩
   rw[hq] at dx;obtain⟨D,l,hDl⟩:∃ (D:Tr.Nd) (l:List (ByteArray×ByteArray)),(Tr.raw g av h).getD Tr.wD=D∧(∀ W,Below w.heap.size w W→AR W 0 (.slice D.av.a D.av.n D.av.c) l)∧l.length≤1000∧(Tr.raw g av h).isSome=!q∧(q=false→D=Tr.fF g av h (Tr.fA (hof hs) (jX (f j)))∧l=(f j).at'):=by
    cases hg:(f j).gone with
    | true=>
     obtain⟨e1,e2⟩:=HH.out.kT hjm hg;have e3:Tr.raw g av h=none:=by rw[←hh,e1];exact Tr.aV e2
     refine⟨Tr.wD,[],by rw[e3];rfl,fun W _=>TR.nil _ _ _ _,by simp,by rw[e3,←hq,hg];rfl,fun e=>by rw[←hq,hg] at e;cases e⟩
    | false=>
     have eg:g h=some (Tr.fA (hof hs) (jX (f j))):=by rw[←hh];exact HH.out.eY hjm hg
     refine⟨_,(f j).at',by rw[Tr.ah eg];rfl,fun W hb=>(HW.out W hb).at' h _ eg,by have:=(HH.out.bd j hjm).1;omega,by rw[Tr.ah eg,←hq,hg];rfl,fun _=>⟨rfl,rfl⟩⟩
   obtain⟨hD,hla,hll,hsm,hlv⟩:=hDl;have HN:=zh (fun (W:World) (hb:Below w.heap.size w W)=>by have h1:=sZ base B b s (hof hs 0) h live n (Tr.raw g av) fr vs vf D l W (HW.out W hb).tv HH.out.so (by rw[←hh];exact HH.out.i64 hjm) hD (hla W hb) hll;rw[hsm] at h1;exact h1);have qw:=zh hlv;clear hD hla hsm hlv;go_wp2_with fail;clear t0 t1 t2 tm
   go_cut [4,5] from 4 (fun u4 u5 wc=>∃ (X:Nat) (vA:Value),u4=.pointer (some ⟨X,0,none⟩)∧u5=.bool (!q)∧Whole wc X #[.int .i64 D.kind,.string D.name,vA,.string D.data,.int .i64 D.pa,.int .i64 D.fi,.int .i64 D.la,.int .i64 D.pr,.int .i64 D.ne] 42∧AR wc 0 vA l∧Below w.heap.size w wc)
   case first=>
    rename_i J0 K0 hJ0 uR;refine wp_region_noPanic ?_;refine wp_region_held_drew (S:=(fun W=>W.cell? ⟨T,0,none⟩=some (.pointer (some ⟨B,0,none⟩))∧W.cell? ⟨T,2,none⟩=some (.slice (some ⟨gh,oh,none⟩) m ch)∧W.cell? ⟨gh,oh+j,none⟩=some (.int .i64 h))) (by kernel_rfl) ?_ (fun hHeld=>?_)
    ·exact (by rw[hV];exact vZ.out V bZ.out)
    rw[hV] at hHeld ⊢;refine bD [0,1,2,3,4,5,6,7,8,9,10] ?_;iterate 11 (refine dw ?_;try simp only[pS])
    refine bE ?_;refine wpAnyH_ready (rs:=[11,15]) (by kernel_rfl) (by simp) ?_;refine AllReadyH.cons rfl (fun K hK=>?_) (AllReadyH.cons rfl (fun K hK=>?_) AllReadyH.nil)
    ·go_simp;refine (HN.out V bZ.out).mono ?_;rintro e w2 ⟨vA,rfl,hra,hb2⟩;obtain⟨Av,cv,rfl⟩:=hra.form;have HB2:=zh (bZ.out.trans (hb2.mono bZ.out.size));refine hK.out _ _ (vZ.out w2 HB2.out) fun hHeld=>?_;clear hK K;(try simp only[pS]);refine bD [12,13,14] ?_;iterate 3 (refine dw ?_;try simp only[pS])
     refine bE ?_;obtain⟨w3,hw3⟩:∃ x,w2.alloc (.cells #[.int .i64 0,.string ⟨#[]⟩,.slice none 0 0,.string ⟨#[]⟩,.int .i64 0,.int .i64 0,.int .i64 0,.int .i64 0,.int .i64 0] 42)=x:=⟨_,rfl⟩
     have bq:Whole w3 w2.heap.size #[.int .i64 0,.string ⟨#[]⟩,.slice none 0 0,.string ⟨#[]⟩,.int .i64 0,.int .i64 0,.int .i64 0,.int .i64 0,.int .i64 0] 42:=by rw[←hw3];exact Whole.new w2 _ _
     have hb3:Below w2.heap.size w2 w3:=eP hw3;have HB3:=zh (HB2.out.trans (hb3.mono HB2.out.size));have hr3:=hra.below hb3;refine bL 15 fun K hK=>?_;go_simp;(try rw[hw3]);refine hK.out _ _ (vZ.out w3 HB3.out) fun hHeld=>?_;clear hK K;(try simp only[pS]);obtain⟨W3,hW3,Yz,g3⟩:=Vp bq (.int .i64 D.kind) (.string D.name) (.slice Av l.length cv) (.string D.data) (.int .i64 D.pa) (.int .i64 D.fi) (.int .i64 D.la) (.int .i64 D.pr) (.int .i64 D.ne);have Vq:=zh (HB3.out.grown g3 HB3.out.size (fun k hk=>by injection hk with hk;have:=HB2.out.size;omega));have hrc:=(hr3.turns (.aZ g3 (fun k hk=>hk) (S:=fun k=>some w2.heap.size=some k)) (fun k hk e=>hr3.unlike bq (by decide) (by injection e with e;rw[hk,e]))).zero;have y0:w3.cell? ⟨w2.heap.size,0,none⟩=some (.int .i64 0):=bq.cell 0;have y1:w3.cell? ⟨w2.heap.size,1,none⟩=some (.string ⟨#[]⟩):=bq.cell 1;have y2:w3.cell? ⟨w2.heap.size,2,none⟩=some (.slice none 0 0):=bq.cell 2;have y3:w3.cell? ⟨w2.heap.size,3,none⟩=some (.string ⟨#[]⟩):=bq.cell 3;have y4:w3.cell? ⟨w2.heap.size,4,none⟩=some (.int .i64 0):=bq.cell 4;have y5:w3.cell? ⟨w2.heap.size,5,none⟩=some (.int .i64 0):=bq.cell 5;have y6:w3.cell? ⟨w2.heap.size,6,none⟩=some (.int .i64 0):=bq.cell 6;have y7:w3.cell? ⟨w2.heap.size,7,none⟩=some (.int .i64 0):=bq.cell 7;have y8:w3.cell? ⟨w2.heap.size,8,none⟩=some (.int .i64 0):=bq.cell 8;have Cy:=bq.free 0;have Cz:=bq.free 1;have CB:=bq.free 2;have CF:=bq.free 3;have CG:=bq.free 4;have CJ:=bq.free 5;have CK:=bq.free 6;have CO:=bq.free 7;have CP:=bq.free 8;refine bL 16 fun K hK=>?_;go_simp;(try rw[hW3]);refine hK.out _ _ (vZ.out W3 Vq.out) fun hHeld=>?_;clear hK K;(try simp only[pS]);refine bD [17] ?_
     (refine dw ?_;try simp only[pS])
     refine bE ?_;refine fB ?_;exact uR _ _ (Met.intro (hJ0 _ _ ⟨_,_,_,_,_,_,_,_,_,_,_,_,_,_,_,_,_,_,_,_,_,_,_,_,_,_,_,_,_,_,_,_,_,_,_,_,_,_,_,_,_,_,_,_,_,_,_,_,_,_,_,_,_,_,_,_,_,_,_,_,_,_,_,_,_,_,_,_,_,_,_,_,_,_,_,_,_,_,_,_,_,_,_,_,_,_,_,_,_,_,_,_,_,_,_,_,_,_,_,_,_,_,_,_,_,_,_,_,_,_,_,_,_,_,_,_,_,_,_,_,_,_,_,_,_,_,_,_,_,_,_,_,_,_,_,_,_,_,_,_,_,_,_,_,_,_,_,_,_,_,_,_,_,_,_,_,_,_,_,_,_,_,_,_,_,_,_,_,_,_,_,_,_,_,_,_,_,_,_,_,_,_,_,⟨_,_,rfl,rfl,Yz,hrc,Vq.out⟩,rfl⟩))
    ·go_simp;obtain⟨w2,hw2⟩:∃ x,V.alloc (.cells #[.int .i64 0,.string ⟨#[]⟩,.slice none 0 0,.string ⟨#[]⟩,.int .i64 0,.int .i64 0,.int .i64 0,.int .i64 0,.int .i64 0] 42)=x:=⟨_,rfl⟩
     have hX2:Whole w2 V.heap.size #[.int .i64 0,.string ⟨#[]⟩,.slice none 0 0,.string ⟨#[]⟩,.int .i64 0,.int .i64 0,.int .i64 0,.int .i64 0,.int .i64 0] 42:=by rw[←hw2];exact Whole.new V _ _
     have hb2:Below V.heap.size V w2:=eP hw2;have HB2:=zh (bZ.out.trans (hb2.mono bZ.out.size));(try rw[hw2]);refine hK.out _ _ (vZ.out w2 HB2.out) fun hHeld=>?_;clear hK K;(try simp only[pS]);refine bL 11 fun K hK=>?_;go_simp;refine (HN.out w2 HB2.out).mono ?_;rintro e w3 ⟨vA,rfl,hra,hb3⟩;obtain⟨Av,cv,rfl⟩:=hra.form;have bq:=hX2.below hb3 hX2.lt;have HB3:=zh (HB2.out.trans (hb3.mono HB2.out.size));refine hK.out _ _ (vZ.out w3 HB3.out) fun hHeld=>?_;clear hK K;(try simp only[pS]);refine bD [12,13,14] ?_;iterate 3 (refine dw ?_;try simp only[pS])
     refine bE ?_;obtain⟨W3,hW3,Yz,g3⟩:=Vp bq (.int .i64 D.kind) (.string D.name) (.slice Av l.length cv) (.string D.data) (.int .i64 D.pa) (.int .i64 D.fi) (.int .i64 D.la) (.int .i64 D.pr) (.int .i64 D.ne);have Vq:=zh (HB3.out.grown g3 HB3.out.size (fun k hk=>by injection hk with hk;have:=bZ.out.size;omega));have hrc:=(hra.turns (.aZ g3 (fun k hk=>hk) (S:=fun k=>some V.heap.size=some k)) (fun k hk e=>hra.unlike bq (by decide) (by injection e with e;rw[hk,e]))).zero;have y0:w3.cell? ⟨V.heap.size,0,none⟩=some (.int .i64 0):=bq.cell 0;have y1:w3.cell? ⟨V.heap.size,1,none⟩=some (.string ⟨#[]⟩):=bq.cell 1;have y2:w3.cell? ⟨V.heap.size,2,none⟩=some (.slice none 0 0):=bq.cell 2;have y3:w3.cell? ⟨V.heap.size,3,none⟩=some (.string ⟨#[]⟩):=bq.cell 3;have y4:w3.cell? ⟨V.heap.size,4,none⟩=some (.int .i64 0):=bq.cell 4;have y5:w3.cell? ⟨V.heap.size,5,none⟩=some (.int .i64 0):=bq.cell 5;have y6:w3.cell? ⟨V.heap.size,6,none⟩=some (.int .i64 0):=bq.cell 6;have y7:w3.cell? ⟨V.heap.size,7,none⟩=some (.int .i64 0):=bq.cell 7;have y8:w3.cell? ⟨V.heap.size,8,none⟩=some (.int .i64 0):=bq.cell 8;have Cy:=bq.free 0;have Cz:=bq.free 1;have CB:=bq.free 2;have CF:=bq.free 3;have CG:=bq.free 4;have CJ:=bq.free 5;have CK:=bq.free 6;have CO:=bq.free 7;have CP:=bq.free 8;refine bL 16 fun K hK=>?_;go_simp;(try rw[hW3]);refine hK.out _ _ (vZ.out W3 Vq.out) fun hHeld=>?_;clear hK K;(try simp only[pS]);refine bD [17] ?_
     (refine dw ?_;try simp only[pS])
     refine bE ?_;refine fB ?_;exact uR _ _ (Met.intro (hJ0 _ _ ⟨_,_,_,_,_,_,_,_,_,_,_,_,_,_,_,_,_,_,_,_,_,_,_,_,_,_,_,_,_,_,_,_,_,_,_,_,_,_,_,_,_,_,_,_,_,_,_,_,_,_,_,_,_,_,_,_,_,_,_,_,_,_,_,_,_,_,_,_,_,_,_,_,_,_,_,_,_,_,_,_,_,_,_,_,_,_,_,_,_,_,_,_,_,_,_,_,_,_,_,_,_,_,_,_,_,_,_,_,_,_,_,_,_,_,_,_,_,_,_,_,_,_,_,_,_,_,_,_,_,_,_,_,_,_,_,_,_,_,_,_,_,_,_,_,_,_,_,_,_,_,_,_,_,_,_,_,_,_,_,_,_,_,_,_,_,_,_,_,_,_,_,_,_,_,_,_,_,_,_,_,_,_,_,⟨_,_,rfl,rfl,Yz,hrc,Vq.out⟩,rfl⟩))
   case rest=>
    obtain⟨X,vA,rfl,rfl,hX,O9,hbc⟩:=hcut;have Vr:=zh hbc;obtain⟨t0,t1,t2,tm⟩:=jh.out wc hbc;cases q with
    | true=>
     clear hX O9 hbc;go_wp2_with fail;refine (dx.out wc Vr.out).mono ?_;rintro e w2 ⟨rfl,hw2⟩;rw[hw2];clear hw2;go_wp2_with fail
     go_roundw
     case rel=>exact⟨j+1,by go_num,by omega,Vr⟩
     case measure=>simp[intOf];omega
    | false=>
     obtain⟨e1,e2⟩:=qw.out rfl;obtain⟨Av,cv,rfl⟩:=O9.form;obtain⟨kd,hkd⟩:∃ x,(f j).kind=x:=⟨_,rfl⟩
     obtain⟨nm,hnm⟩:∃ x,(f j).name=x:=⟨_,rfl⟩
     obtain⟨dt,hdt⟩:∃ x,(f j).data=x:=⟨_,rfl⟩
     obtain⟨pn,hpn⟩:∃ x,(f j).pa=x:=⟨_,rfl⟩
     obtain⟨pq,hpq⟩:∃ x,hof hs pn=x:=⟨_,rfl⟩
     obtain⟨al,hal⟩:∃ x,(f j).at'.length=x:=⟨_,rfl⟩
     obtain⟨kl,hkl⟩:∃ x,(f j).kids.length=x:=⟨_,rfl⟩
     have hall:al≤1000:=by rw[←hal];have:=(HH.out.bd j hjm).1;omega
     have k0:D.kind=kd:=by rw[e1,←hkd];rfl
     have k1:D.name=nm:=by rw[e1,←hnm];rfl
     have k3:D.data=dt:=by rw[e1,←hdt];rfl
     have k4:D.pa=pq:=by rw[e1,←hpq,←hpn];rfl
     have hll:l.length=al:=by rw[e2,hal]
     rw[hll] at hX O9;have yt:Whole wc X #[.int .i64 kd,.string nm,.slice Av al cv,.string dt,.int .i64 pq,.int .i64 D.fi,.int .i64 D.la,.int .i64 D.pr,.int .i64 D.ne] 42:=by rw[←k0,←k1,←k3,←k4];exact hX
     have hM:=(HW.out wc hbc).mv;obtain⟨gm',em,c0,c1,c2,c3,c4,c5,c6⟩:=hM.read hjm;obtain rfl:gm=gm':=by injection em with em;injection em
     obtain⟨aA,YA⟩:∃ x,(f j).a.a=x:=⟨_,rfl⟩
     obtain⟨aC,YB⟩:∃ x,(f j).a.c=x:=⟨_,rfl⟩
     obtain⟨kA,YC⟩:∃ x,(f j).k.a=x:=⟨_,rfl⟩
     obtain⟨kC,YD⟩:∃ x,(f j).k.c=x:=⟨_,rfl⟩
     rw[hkd] at c0;rw[hnm] at c1;rw[hM.an hjm,hal,YA,YB] at c2;rw[hdt] at c3;rw[hpn] at c4;rw[hM.kn hjm,hkl,YC,YD] at c5;rw[hq] at c6;have KE:=zh (fun (W:World) (hb:Below w.heap.size w W)=>(show TR W bM 96 2 (.slice aA al aC) (f j).at'.length (fM (f j).at') from by have h1:=(HW.out W hb).mv.ar j hjm;unfold Tr.Sl.v at h1;rw[(HW.out W hb).mv.an hjm,hal,YA,YB] at h1;rw[hal];exact h1));have YE:=zh (fun (W:World) (hb:Below w.heap.size w W)=>(show TR W bM 3 1 (.slice kA kl kC) kl (ints (f j).kids) from by have h1:=(HW.out W hb).mv.kr j hjm;unfold Tr.Sl.v at h1;rw[(HW.out W hb).mv.kn hjm,hkl,YC,YD] at h1;exact h1));obtain⟨w5,eH⟩:∃ x,wc.alloc (.cells #[.int .i64 kd,.string nm,.slice aA al aC,.string dt,.int .i64 pn,.slice kA kl kC,.bool false] 67)=x:=⟨_,rfl⟩
     obtain⟨Y,hY0⟩:∃ Y,wc.heap.size=Y:=⟨_,rfl⟩
     have qB:Whole w5 Y #[.int .i64 kd,.string nm,.slice aA al aC,.string dt,.int .i64 pn,.slice kA kl kC,.bool false] 67:=by rw[←eH,←hY0];exact Whole.new wc _ _
     have hb5:Below wc.heap.size wc w5:=eP eH;have YF:=zh hY0;have HA5:=zh eH;clear hY0 eH;obtain⟨V9,YG⟩:∃ x,w5.drew=x:=⟨_,rfl⟩
     have Vs:Below w5.heap.size w5 V9:=mJ YG;have R6:=zh ((hbc.trans (hb5.mono hbc.size)).trans (Vs.mono (hbc.trans (hb5.mono hbc.size)).size));have l6:=zh ((yt.below hb5 yt.lt).below Vs (yt.below hb5 yt.lt).lt);have MO:=zh (qB.below Vs qB.lt);have YH:=zh ((O9.below hb5).below Vs);have HW9:=zh (HW.out V9 R6.out);have BI:=zh (fun (W:World) (hb:Below V9.heap.size V9 W)=>(show W.cell? ⟨X,0,none⟩=some (.int .i64 kd)∧W.cell? ⟨X,1,none⟩=some (.string nm)∧W.cell? ⟨X,2,none⟩=some (.slice Av al cv)∧W.cell? ⟨X,3,none⟩=some (.string dt)∧W.cell? ⟨X,4,none⟩=some (.int .i64 pq)∧W.cell? ⟨Y,0,none⟩=some (.int .i64 kd)∧W.cell? ⟨Y,1,none⟩=some (.string nm)∧W.cell? ⟨Y,2,none⟩=some (.slice aA al aC)∧W.cell? ⟨Y,3,none⟩=some (.string dt)∧W.cell? ⟨Y,4,none⟩=some (.int .i64 pn)∧W.cell? ⟨Y,5,none⟩=some (.slice kA kl kC) from by
      have hx:=l6.out.below hb l6.out.lt;have hy:=MO.out.below hb MO.out.lt
      exact⟨hx.cell 0,hx.cell 1,hx.cell 2,hx.cell 3,hx.cell 4,hy.cell 0,hy.cell 1,hy.cell 2,hy.cell 3,hy.cell 4,hy.cell 5⟩))
     have HPQ:=zh hpq;have Vl:=zh hal;have Jv:=zh hkl;have HE2:=zh e2;have HQ:=zh hq;clear hX yt O9 hbc e1 e2 hkd hnm hdt hpn hpq hal hkl k0 k1 k3 k4 hll hM YA YB YC YD qB hb5 Vs hq;go_wp2_with fail;refine (dx.out wc Vr.out).mono ?_;rintro e w2 ⟨rfl,hw2⟩;rw[hw2];clear hw2;go_wp2_with fail;(try rw[HA5.out]);(try rw[YF.out]);(try go_wp2_with fail);refine wp_region_noPanic ?_;refine wp_region_held_drew (S:=(fun W=>W.cell? ⟨X,0,none⟩=some (.int .i64 kd)∧W.cell? ⟨X,1,none⟩=some (.string nm)∧W.cell? ⟨X,2,none⟩=some (.slice Av al cv)∧W.cell? ⟨X,3,none⟩=some (.string dt)∧W.cell? ⟨X,4,none⟩=some (.int .i64 pq)∧W.cell? ⟨Y,0,none⟩=some (.int .i64 kd)∧W.cell? ⟨Y,1,none⟩=some (.string nm)∧W.cell? ⟨Y,2,none⟩=some (.slice aA al aC)∧W.cell? ⟨Y,3,none⟩=some (.string dt)∧W.cell? ⟨Y,4,none⟩=some (.int .i64 pn)∧W.cell? ⟨Y,5,none⟩=some (.slice kA kl kC))) (by kernel_rfl) ?_ (fun hHeld=>?_)
     ·exact (by rw[YG];exact BI.out V9 (Below.refl _ _))
     rw[YG] at hHeld ⊢;refine bD [0,1,2,3,4,5,6,7,8,9,10,11,12,13,14,15,16,17,18,19,20,21,22,23,24] ?_;iterate 25 (refine dw ?_;try simp only[pS])
     refine bE ?_;refine bL 25 fun K hK=>?_;go_simp;refine (fD T B M _ hs pn V9 HW9.out.tw).mono ?_;rintro e w2 ⟨rfl,hw2⟩;rw[hw2,HPQ.out];clear hw2;refine hK.out _ _ (BI.out V9 (Below.refl _ _)) fun hHeld=>?_;clear hK K;(try simp only[pS]);refine bD [26,27,28,29,30,31,32,33,34,35,36] ?_;iterate 11 (refine dw ?_;try simp only[pS])
     refine bE ?_;refine fB ?_;clear c0 c1 c2 c3 c4 c5 c6 t0 t1 t2 tm;obtain⟨x2,hx2⟩:∃ x:Unit,x=():=⟨_,rfl⟩
     have f2:V9.cell? ⟨Y,2,none⟩=some (.slice aA al aC):=MO.out.cell 2;go_wp2_with fail
     go_loopw [7] (fun u wr=>∃ i:Nat,u=.int .i64 (i:Int)∧i≤al∧Hid (Below V9.heap.size V9 wr)) (fun u _=>al - (intOf u).toNat)
     case atStart=>exact⟨0,rfl,Nat.zero_le _,zh (Below.refl _ _)⟩
     case round=>
      obtain⟨KG,YI⟩:∃ wo:World,wo=wr:=⟨_,rfl⟩
      subst YI;obtain⟨i,rfl,hi,Ui⟩:=hrel;clear f2;have f2:KG.cell? ⟨Y,2,none⟩=some (.slice aA al aC):=(MO.out.below Ui.out MO.out.lt).cell 2;by_cases hia:i<al
      ·have z0:(0:Int)≤(i:Int):=by omega
       have z1:(i:Int)<(al:Int):=by omega
       obtain⟨p,hp⟩:∃ p,(f j).at'[i]?=some p:=⟨(f j).at'[i]'(by rw[Vl.out];exact hia),by simp⟩
       obtain⟨p1,hp1⟩:∃ x,p.1=x:=⟨_,rfl⟩
       obtain⟨p2,hp2⟩:∃ x,p.2=x:=⟨_,rfl⟩
       obtain⟨QU,R7⟩:∃ x,KG.drew=x:=⟨_,rfl⟩
       have ko:Below KG.heap.size KG QU:=mJ R7;have tT:=zh (Ui.out.trans (ko.mono Ui.out.size));have hra:=YH.out.below tT.out;have hrr:=KE.out QU (R6.out.trans (tT.out.mono R6.out.size));rw[HE2.out,Vl.out] at hra;rw[Vl.out] at hrr;obtain⟨ga,oa,hga,-,-,hca,-⟩:=hra.cells (by omega);obtain⟨gr,Uj,hgr,-,-,hcr,-⟩:=hrr.cells (by omega);have g1:=hca _ _ (by omega) (gH _ i p hp).1;have g2:=hca _ _ (by omega) (gH _ i p hp).2;have g3:=hcr _ _ (by omega) (gH _ i p hp).1;have g4:=hcr _ _ (by omega) (gH _ i p hp).2;subst hga;subst hgr;rw[hp1] at g1 g3;rw[hp2,←Nat.add_assoc] at g2 g4;have YJ:=zh (show QU.cell? ⟨X,2,none⟩=some (.slice (some ⟨ga,oa,none⟩) al cv)∧QU.cell? ⟨Y,2,none⟩=some (.slice (some ⟨gr,Uj,none⟩) al aC)∧QU.cell? ⟨ga,oa+i*2,none⟩=some (.string p1)∧QU.cell? ⟨ga,oa+i*2+1,none⟩=some (.string p2)∧QU.cell? ⟨gr,Uj+i*2,none⟩=some (.string p1)∧QU.cell? ⟨gr,Uj+i*2+1,none⟩=some (.string p2) from⟨(l6.out.below tT.out l6.out.lt).cell 2,(MO.out.below tT.out MO.out.lt).cell 2,g1,g2,g3,g4⟩);clear hp1 hp2 hra hrr hca hcr g1 g2 g3 g4 ko;go_wp2_with fail;refine wp_region_noPanic ?_;refine wp_region_held_drew (S:=(fun W=>W.cell? ⟨X,2,none⟩=some (.slice (some ⟨ga,oa,none⟩) al cv)∧W.cell? ⟨Y,2,none⟩=some (.slice (some ⟨gr,Uj,none⟩) al aC)∧W.cell? ⟨ga,oa+i*2,none⟩=some (.string p1)∧W.cell? ⟨ga,oa+i*2+1,none⟩=some (.string p2)∧W.cell? ⟨gr,Uj+i*2,none⟩=some (.string p1)∧W.cell? ⟨gr,Uj+i*2+1,none⟩=some (.string p2))) (by kernel_rfl) ?_ (fun hHeld=>?_)
       ·exact (by rw[R7];exact YJ.out)
       rw[R7] at hHeld ⊢;refine bD [0,1,2,3,4,5,6,7,8,9,10,11,12,13,14,15,16,17,18,19,20,21,22,23,24,25,26,27] ?_;iterate 28 (refine dw ?_;try simp only[pS])
       refine bE ?_;refine fB ?_;go_wp2_with fail
       go_roundw
       case rel=>exact⟨i+1,by go_num,by omega,tT⟩
       case measure=>simp[intOf];omega
      ·have z1:¬ (i:Int)<(al:Int):=by omega
       obtain⟨t0,t1,t2,tm⟩:=jh.out KG (R6.out.trans (Ui.out.mono R6.out.size));obtain⟨XB,R8⟩:∃ x,KG.drew=x:=⟨_,rfl⟩
       have oK:Below KG.heap.size KG XB:=mJ R8;have Jw:=Ui.out.trans (oK.mono Ui.out.size);have Pp:=zh (R6.out.trans (Jw.mono R6.out.size));have Vt:=zh (l6.out.below Jw l6.out.lt);have Vu:=zh (MO.out.below Jw MO.out.lt);have Vv:=HW.out XB Pp.out;have pJ:=HH.out.im.pull HH.out.wf;have hkk:Tr.aj g h=(f j).kids.map (hof hs):=by rw[←hh];exact HH.out.im.kid (aQ hjm HQ.out)
       have hkm:kl≤m:=by
        rw[←Jv.out];refine wL m _ (pJ.nodup _ _ (aQ hjm HQ.out)) fun x hx=>?_;obtain⟨y,e1,e2,-⟩:=jA (HH.out.im.kids _ _ (aQ hjm HQ.out) x hx);exact⟨y,e1,e2⟩
       have XC:=zh (EX base B b s (hof hs 0) h live n g av fr vs vf XB Vv.tv HH.out.so HH.out.wf (by rw[←hh];exact HH.out.i64 hjm) (by rw[hkk,List.length_map,Jv.out];omega));rw[hkk,List.length_map,Jv.out] at XC;have HKK:=zh hkk;clear t1 tm oK Jw Vv hkk;go_wp2_with fail;clear f2;refine wp_region_noPanic ?_;refine wp_region_held_drew (S:=(fun W=>W.cell? ⟨T,0,none⟩=some (.pointer (some ⟨B,0,none⟩))∧W.cell? ⟨T,2,none⟩=some (.slice (some ⟨gh,oh,none⟩) m ch)∧W.cell? ⟨gh,oh+j,none⟩=some (.int .i64 h))) (by kernel_rfl) ?_ (fun hHeld=>?_)
       ·exact (by rw[R8];exact vZ.out XB Pp.out)
       rw[R8] at hHeld ⊢;refine bD [0,1,2,3,4,5,6,7,8,9,10] ?_;iterate 11 (refine dw ?_;try simp only[pS])
       refine bE ?_;refine bL 11 fun K hK=>?_;go_simp;refine XC.out.mono ?_;rintro e w6 ⟨vk,rfl,hkr,hb6⟩;obtain⟨kg,kc,rfl⟩:=aF (aH hkr);have oq:=zh (Pp.out.trans (hb6.mono Pp.out.size));have nW:=zh (Vt.out.below hb6 Vt.out.lt);have Au:=zh (Vu.out.below hb6 Vu.out.lt);have Pq:=zh (aH hkr);clear hkr hb6;refine hK.out _ _ (vZ.out w6 oq.out) fun hHeld=>?_;clear hK K;(try simp only[pS]);refine bD [12] ?_
       (refine dw ?_;try simp only[pS])
       refine bE ?_;refine fB ?_;clear t0 t2;obtain⟨XD,R9⟩:∃ x,w6.drew=x:=⟨_,rfl⟩
       have MP:Below w6.heap.size w6 XD:=mJ R9;have Pt:=zh (oq.out.trans (MP.mono oq.out.size));have Vw:=zh (nW.out.below MP nW.out.lt);have Sb:=zh (Au.out.below MP Au.out.lt);have Vx:=zh (own_below Pq.out MP);obtain⟨ix,hix⟩:∃ x,jl m f j=x:=⟨_,rfl⟩
       have QV:=zh (wM base B b s (hof hs 0) h live n g av fr vs vf XD (HW.out XD Pt.out).tv HH.out.so HH.out.wf (by rw[←hh];exact HH.out.i64 hjm));rw[show Tr.jG g h=ix by rw[←hix,←hh];exact HH.out.im.index HH.out.wf hjm HQ.out] at QV;have HRI:=zh (fun (W:World) (hb:Below w.heap.size w W)=>qC bM M m _ f j W (HW.out W hb).mv pJ hjm HQ.out (by omega));rw[hix] at HRI;have Sc:=zh (fun (W:World) (hb:Below w.heap.size w W) (hy:Whole W Y #[.int .i64 kd,.string nm,.slice aA al aC,.string dt,.int .i64 pn,.slice kA kl kC,.bool false] 67)=>(show W.cell? ⟨T,0,none⟩=some (.pointer (some ⟨B,0,none⟩))∧W.cell? ⟨T,1,none⟩=some (.pointer (some ⟨M,0,none⟩))∧W.cell? ⟨T,2,none⟩=some (.slice (some ⟨gh,oh,none⟩) m ch)∧W.cell? ⟨gh,oh+j,none⟩=some (.int .i64 h)∧W.cell? ⟨Y,5,none⟩=some (.slice kA kl kC) from⟨(jh.out W hb).1,(jh.out W hb).2.1,(jh.out W hb).2.2.1,(vZ.out W hb).2.2,hy.cell 5⟩));clear hix MP pJ;go_wp2_with fail;refine wp_region_noPanic ?_;refine wp_region_held_drew (S:=(fun W=>W.cell? ⟨T,0,none⟩=some (.pointer (some ⟨B,0,none⟩))∧W.cell? ⟨T,1,none⟩=some (.pointer (some ⟨M,0,none⟩))∧W.cell? ⟨T,2,none⟩=some (.slice (some ⟨gh,oh,none⟩) m ch)∧W.cell? ⟨gh,oh+j,none⟩=some (.int .i64 h)∧W.cell? ⟨Y,5,none⟩=some (.slice kA kl kC))) (by kernel_rfl) ?_ (fun hHeld=>?_)
       ·exact (by rw[R9];exact Sc.out XD Pt.out Sb.out)
       rw[R9] at hHeld ⊢;refine bD [0,1,2,3,4,5,6,7,8,9,10,11,12,13,14,15,16,17,19,20,21,22,23] ?_;iterate 23 (refine dw ?_;try simp only[pS])
       refine bE ?_;refine bL 18 fun K hK=>?_;go_simp;refine QV.out.mono ?_;rintro e w7 ⟨rfl,lK⟩;have jm:=zh (Pt.out.trans (lK.mono Pt.out.size));have oV:=zh (Vw.out.below lK Vw.out.lt);have XE:=zh (Sb.out.below lK Sb.out.lt);have YK:=zh (own_below Vx.out lK);clear lK;refine hK.out _ _ (Sc.out w7 jm.out XE.out) fun hHeld=>?_;clear hK K;(try simp only[pS]);refine bL 24 fun K hK=>?_;go_simp;refine (HRI.out w7 jm.out).mono ?_;rintro e w8 ⟨rfl,hw8⟩;rw[hw8];clear hw8;refine hK.out _ _ (Sc.out w7 jm.out XE.out) fun hHeld=>?_;clear hK K;(try simp only[pS]);refine bD [25,26] ?_;iterate 2 (refine dw ?_;try simp only[pS])
       refine bE ?_;refine fB ?_;go_wp2_with fail
       go_loopw [9] (fun u wr=>∃ i:Nat,u=.int .i64 (i:Int)∧i≤kl∧Hid (Below w7.heap.size w7 wr)) (fun u _=>kl - (intOf u).toNat)
       case atStart=>exact⟨0,rfl,Nat.zero_le _,zh (Below.refl _ _)⟩
       case round=>
        obtain⟨Pv,YL⟩:∃ wo:World,wo=wr:=⟨_,rfl⟩
        subst YL;obtain⟨i,rfl,hi,Sd⟩:=hrel;have Sg:=zh (jm.out.trans (Sd.out.mono jm.out.size));by_cases hik:i<kl
        ·have z2:(0:Int)≤(i:Int):=by omega
         have z3:(i:Int)<(kl:Int):=by omega
         obtain⟨x,hx⟩:∃ x,(f j).kids[i]?=some x:=⟨(f j).kids[i]'(by rw[Jv.out];exact hik),by simp⟩
         obtain⟨y,rfl,hym,-,-⟩:=jA (HH.out.im.kids _ _ (aQ hjm HQ.out) x (List.mem_of_getElem? hx));obtain⟨hy,YM⟩:∃ z,hof hs (y:Int)=z:=⟨_,rfl⟩
         obtain⟨OY,Si⟩:∃ x,Pv.drew=x:=⟨_,rfl⟩
         have Sj:Below Pv.heap.size Pv OY:=mJ Si;have hbv:=Sg.out.trans (Sj.mono Sg.out.size);have Pw:=Sd.out.trans (Sj.mono Sd.out.size);have YN:=zh Pw;have hkr:=own_below YK.out Pw;have Vy:=YE.out OY hbv;obtain⟨YO,YP,-⟩:=iY hkr (by omega);obtain⟨gk,ok,Sk,-,-,hck,-⟩:=Vy.cells (by omega);subst YP;subst Sk;have g1:=hck i _ (by omega) (aY hx);have g2:OY.cell? ⟨YO,i,none⟩=some (.int .i64 hy):=by
          rw[hkr.cellAt i (by omega)];exact aY (by rw[List.getElem?_map,hx,←YM];rfl)
         have g3:=qp.out OY hbv y hym;rw[YM] at g3;have YQ:=zh (show OY.cell? ⟨T,2,none⟩=some (.slice (some ⟨gh,oh,none⟩) m ch)∧OY.cell? ⟨Y,5,none⟩=some (.slice (some ⟨gk,ok,none⟩) kl kC)∧OY.cell? ⟨gk,ok+i,none⟩=some (.int .i64 (y:Int))∧OY.cell? ⟨gh,oh+y,none⟩=some (.int .i64 hy)∧OY.cell? ⟨YO,i,none⟩=some (.int .i64 hy) from⟨(jh.out OY hbv).2.2.1,(XE.out.below Pw XE.out.lt).cell 5,g1,g3,g2⟩);have z4:(0:Int)≤(y:Int):=by omega
         have z5:(y:Int)<(m:Int):=by omega
         clear Sj hbv Pw hkr Vy hck g1 g2 g3 hx YM;go_wp2_with fail;refine wp_region_noPanic ?_;refine wp_region_held_drew (S:=(fun W=>W.cell? ⟨T,2,none⟩=some (.slice (some ⟨gh,oh,none⟩) m ch)∧W.cell? ⟨Y,5,none⟩=some (.slice (some ⟨gk,ok,none⟩) kl kC)∧W.cell? ⟨gk,ok+i,none⟩=some (.int .i64 (y:Int))∧W.cell? ⟨gh,oh+y,none⟩=some (.int .i64 hy)∧W.cell? ⟨YO,i,none⟩=some (.int .i64 hy))) (by kernel_rfl) ?_ (fun hHeld=>?_)
         ·exact (by rw[Si];exact YQ.out)
         rw[Si] at hHeld ⊢;refine bD [0,1,2,3,4,5,6,7,8,9,10,11,12,13,14,15] ?_;iterate 16 (refine dw ?_;try simp only[pS])
         refine bE ?_;refine fB ?_;go_wp2_with fail
         go_roundw
         case rel=>exact⟨i+1,by go_num,by omega,YN⟩
         case measure=>simp[intOf];omega
        ·have z3:¬ (i:Int)<(kl:Int):=by omega
         go_wp2_with fail
         go_roundw
         case rel=>exact⟨j+1,by go_num,by omega,Sg⟩
         case measure=>simp[intOf];omega
  ·have y1:¬ (j:Int)<(m:Int):=by omega
   go_wp2_with fail
   go_ret
   exact⟨rfl,HB.out⟩
end
end Go.Proofs.YtnbaadpgbcklaaaGreatDoor
