/- Part of a proof about trees: NEql. -/
import Derived.BigQuiet
import Derived.Deep.DeepCutAuto
import Derived.Deep.RegionHeld3
import Derived.Test.YtaigmpkcdjbpiaaGreatDoorGNMat
set_option linter.unusedVariables false
set_option linter.unusedSimpArgs false
set_option linter.unusedSectionVars false
set_option maxHeartbeats 8000000
set_option maxRecDepth 100000
namespace Go.Proofs.YtaigmpkcdjbpiaaGreatDoor
section
open Go.RowKit
variable [Kep]
theorem boxN {w:World} {X:Nat} {t:TypeId} {c0 c1 c2 c3 c4 c5 c6 c7 c8:Value} (h:Whole w X #[c0,c1,c2,c3,c4,c5,c6,c7,c8] t) (d0 d1 d2 d3 d4 d5 d6 d7 d8:Value):
  ∃ W,((((((((w.setCell ⟨X,0,none⟩ d0).setCell ⟨X,1,none⟩ d1).setCell ⟨X,2,none⟩ d2).setCell ⟨X,3,none⟩ d3).setCell ⟨X,4,none⟩ d4).setCell ⟨X,5,none⟩ d5).setCell ⟨X,6,none⟩ d6).setCell ⟨X,7,none⟩ d7).setCell ⟨X,8,none⟩ d8=W∧Whole W X #[d0,d1,d2,d3,d4,d5,d6,d7,d8] t∧w.grownBy W (some X):=by
 refine⟨_,rfl,?_,?_⟩
 ·have h0:Whole _ X #[d0,c1,c2,c3,c4,c5,c6,c7,c8] t:=h.put 0 d0;have h1:Whole _ X #[d0,d1,c2,c3,c4,c5,c6,c7,c8] t:=h0.put 1 d1;have h2:Whole _ X #[d0,d1,d2,c3,c4,c5,c6,c7,c8] t:=h1.put 2 d2;have h3:Whole _ X #[d0,d1,d2,d3,c4,c5,c6,c7,c8] t:=h2.put 3 d3;have h4:Whole _ X #[d0,d1,d2,d3,d4,c5,c6,c7,c8] t:=h3.put 4 d4;have h5:Whole _ X #[d0,d1,d2,d3,d4,d5,c6,c7,c8] t:=h4.put 5 d5;have h6:Whole _ X #[d0,d1,d2,d3,d4,d5,d6,c7,c8] t:=h5.put 6 d6;have h7:Whole _ X #[d0,d1,d2,d3,d4,d5,d6,d7,c8] t:=h6.put 7 d7;exact h7.put 8 d8
 ·have g0:w.grownBy (w.setCell ⟨X,0,none⟩ d0) (some X):=gb_put (gb_of_below (Below.refl w.heap.size w) _) 0 d0;exact gb_put (gb_put (gb_put (gb_put (gb_put (gb_put (gb_put (gb_put g0 1 d1) 2 d2) 3 d3) 4 d4) 5 d5) 6 d6) 7 d7) 8 d8
theorem equal_any (base bM T B M:Nat) (b s:Int) (vs vf vsM vh:Value) (n live m:Nat) (fr:List Nat) (av:Int→Tr.Sl) (f:Nat→RS) (hs:List Int) (g:Tr.G) (K:Nat) (w:World) (H:TW w base bM T B M b s vs vf vsM vh n live m fr av f hs g K) (hm:m≤700) (hK:K≤100):
  Calls Tryz.prog 14 #[.pointer (some ⟨T,0,none⟩)] w fun e w'=>e=.returned (.bool true)∧Below w.heap.size w w':=by
 obtain⟨Ah,ch,rfl⟩:=H.tw.row.form;have hlen:=H.len;have hm0:=H.m0;obtain⟨gh,oh,rfl,-,-,hcs,-⟩:=H.tw.row.cells (by omega);obtain⟨AM,cM,rfl⟩:=H.mv.form;obtain⟨gm,rfl,-⟩:=H.mv.read hm0;have HH:=zh H;have HW:=zh (fun (W:World) (hb:Below w.heap.size w W)=>H.below hb);have HLEN:=zh hlen;have HCH:=zh (fun (W:World) (hb:Below w.heap.size w W) (j:Nat) (hj:j<m)=>(show W.cell? ⟨gh,oh+j,none⟩=some (.int .i64 (hof hs (j:Int))) from (H.tw.row.below hb).cellAt j _ (by omega) (ints_get (H.at_hs hj))));have HTC:=zh (fun (W:World) (hb:Below w.heap.size w W)=>(show W.cell? ⟨T,0,none⟩=some (.pointer (some ⟨B,0,none⟩))∧W.cell? ⟨T,1,none⟩=some (.pointer (some ⟨M,0,none⟩))∧W.cell? ⟨T,2,none⟩=some (.slice (some ⟨gh,oh,none⟩) m ch)∧W.cell? ⟨M,0,none⟩=some (.slice (some ⟨gm,0,none⟩) m cM) from by have h:=H.tw.below hb;rw[hlen] at h;exact⟨h.var.cell 0,h.var.cell 1,h.var.cell 2,(H.mv.below hb).cell.1⟩));clear H hcs
 go_enter Tryz.func14,Tryz.ntmps14
 go_wp2_with fail
 go_loopw [3] (fun u wr=>∃ j:Nat,u=.int .i64 (j:Int)∧j≤m∧Hid (Below w.heap.size w wr)) (fun u _=>m - (intOf u).toNat)
 case atStart=>exact⟨0,rfl,Nat.zero_le _,zh (Below.refl _ _)⟩
 case round=>
  obtain⟨wo,hwo⟩:∃ wo:World,wo=wr:=⟨_,rfl⟩
  subst hwo;obtain⟨j,rfl,hj,HB⟩:=hrel;obtain⟨t0,t1,t2,tm⟩:=HTC.out wo HB.out;by_cases hjm:j<m
  ·have y0:(0:Int)≤(j:Int):=by omega
   have y1:(j:Int)<(m:Int):=by omega
   obtain⟨h,hh⟩:∃ h,hof hs (j:Int)=h:=⟨_,rfl⟩
   obtain⟨V,hV⟩:∃ V,wo.drew=V:=⟨_,rfl⟩
   have HBV:=zh (show Below w.heap.size w V by rw[←hV];exact HB.out.trans ⟨rfl,rfl,rfl,Nat.le_refl _,fun _ _=>rfl⟩);have HS4:=zh (fun (W:World) (hb:Below w.heap.size w W)=>(show W.cell? ⟨T,0,none⟩=some (.pointer (some ⟨B,0,none⟩))∧W.cell? ⟨T,2,none⟩=some (.slice (some ⟨gh,oh,none⟩) m ch)∧W.cell? ⟨gh,oh+j,none⟩=some (.int .i64 h) from⟨(HTC.out W hb).1,(HTC.out W hb).2.2.1,by have:=HCH.out W hb j hjm;rw[hh] at this;exact this⟩));have HHAS:=zh (fun (W:World) (hb:Below w.heap.size w W)=>rhas_any bM M m _ f j W (HW.out W hb).mv hjm (by omega));obtain⟨q,hq⟩:∃ q,(f j).gone=q:=⟨_,rfl⟩
   rw[hq] at HHAS;obtain⟨D,l,hDl⟩:∃ (D:Tr.Nd) (l:List (ByteArray×ByteArray)),(Tr.raw g av h).getD Tr.zNd=D∧(∀ W,Below w.heap.size w W→AR W 0 (.slice D.av.a D.av.n D.av.c) l)∧l.length≤1000∧(Tr.raw g av h).isSome=!q∧(q=false→D=Tr.raw1 g av h (Tr.mapG (hof hs) (rsG (f j)))∧l=(f j).at'):=by
    cases hg:(f j).gone with
    | true=>
     obtain⟨e1,e2⟩:=HH.out.gone_h hjm hg;have e3:Tr.raw g av h=none:=by rw[←hh,e1];exact Tr.raw_none e2
     refine⟨Tr.zNd,[],by rw[e3];rfl,fun W _=>TR.nil _ _ _ _,by simp,by rw[e3,←hq,hg];rfl,fun e=>by rw[←hq,hg] at e;cases e⟩
    | false=>
     have eg:g h=some (Tr.mapG (hof hs) (rsG (f j))):=by rw[←hh];exact HH.out.live_h hjm hg
     refine⟨_,(f j).at',by rw[Tr.raw_some eg];rfl,fun W hb=>(HW.out W hb).at' h _ eg,by have:=(HH.out.bd j hjm).1;omega,by rw[Tr.raw_some eg,←hq,hg];rfl,fun _=>⟨rfl,rfl⟩⟩
   obtain⟨hD,hla,hll,hsm,hlv⟩:=hDl;have HN:=zh (fun (W:World) (hb:Below w.heap.size w W)=>by have h1:=pnode_any base B b s (hof hs 0) h live n (Tr.raw g av) fr vs vf D l W (HW.out W hb).tv HH.out.so (by rw[←hh];exact HH.out.i64 hjm) hD (hla W hb) hll;rw[hsm] at h1;exact h1);have HLV:=zh hlv;clear hD hla hsm hlv;go_wp2_with fail;clear t0 t1 t2 tm
   go_cut [4,5] from 4 (fun u4 u5 wc=>∃ (X:Nat) (vA:Value),u4=.pointer (some ⟨X,0,none⟩)∧u5=.bool (!q)∧Whole wc X #[.int .i64 D.kind,.string D.name,vA,.string D.data,.int .i64 D.pa,.int .i64 D.fi,.int .i64 D.la,.int .i64 D.pr,.int .i64 D.ne] 42∧AR wc 0 vA l∧Below w.heap.size w wc)
   case first=>
    rename_i J0 K0 hJ0 hK0;refine wp_region_noPanic ?_;refine wp_region_held_drew (S:=(fun W=>W.cell? ⟨T,0,none⟩=some (.pointer (some ⟨B,0,none⟩))∧W.cell? ⟨T,2,none⟩=some (.slice (some ⟨gh,oh,none⟩) m ch)∧W.cell? ⟨gh,oh+j,none⟩=some (.int .i64 h))) (by kernel_rfl) ?_ (fun hHeld=>?_)
    ·exact (by rw[hV];exact HS4.out V HBV.out)
    rw[hV] at hHeld ⊢;refine agE [0,1,2,3,4,5,6,7,8,9,10] ?_;iterate 11 (refine tkM ?_;try simp only[pS])
    refine agN ?_;refine wpAnyH_ready (rs:=[11,15]) (by kernel_rfl) (by simp) ?_;refine AllReadyH.cons rfl (fun K hK=>?_) (AllReadyH.cons rfl (fun K hK=>?_) AllReadyH.nil)
    ·go_simp;refine (HN.out V HBV.out).mono ?_;rintro e w2 ⟨vA,rfl,hra,hb2⟩;obtain⟨Av,cv,rfl⟩:=hra.form;have HB2:=zh (HBV.out.trans (hb2.mono HBV.out.size));refine hK.out _ _ (HS4.out w2 HB2.out) fun hHeld=>?_;clear hK K;(try simp only[pS]);refine agE [12,13,14] ?_;iterate 3 (refine tkM ?_;try simp only[pS])
     refine agN ?_;obtain⟨w3,hw3⟩:∃ x,w2.alloc (.cells #[.int .i64 0,.string ⟨#[]⟩,.slice none 0 0,.string ⟨#[]⟩,.int .i64 0,.int .i64 0,.int .i64 0,.int .i64 0,.int .i64 0] 42)=x:=⟨_,rfl⟩
     have hX3:Whole w3 w2.heap.size #[.int .i64 0,.string ⟨#[]⟩,.slice none 0 0,.string ⟨#[]⟩,.int .i64 0,.int .i64 0,.int .i64 0,.int .i64 0,.int .i64 0] 42:=by rw[←hw3];exact Whole.new w2 _ _
     have hb3:Below w2.heap.size w2 w3:=bzA hw3;have HB3:=zh (HB2.out.trans (hb3.mono HB2.out.size));have hr3:=hra.below hb3;refine rd1 15 fun K hK=>?_;go_simp;(try rw[hw3]);refine hK.out _ _ (HS4.out w3 HB3.out) fun hHeld=>?_;clear hK K;(try simp only[pS]);obtain⟨W3,hW3,hXc,g3⟩:=boxN hX3 (.int .i64 D.kind) (.string D.name) (.slice Av l.length cv) (.string D.data) (.int .i64 D.pa) (.int .i64 D.fi) (.int .i64 D.la) (.int .i64 D.pr) (.int .i64 D.ne);have HBc:=zh (HB3.out.grown g3 HB3.out.size (fun k hk=>by injection hk with hk;have:=HB2.out.size;omega));have hrc:=(hr3.turns (.of_grown g3 (fun k hk=>hk) (S:=fun k=>some w2.heap.size=some k)) (fun k hk e=>hr3.unlike hX3 (by decide) (by injection e with e;rw[hk,e]))).zero;have y0:w3.cell? ⟨w2.heap.size,0,none⟩=some (.int .i64 0):=hX3.cell 0;have y1:w3.cell? ⟨w2.heap.size,1,none⟩=some (.string ⟨#[]⟩):=hX3.cell 1;have y2:w3.cell? ⟨w2.heap.size,2,none⟩=some (.slice none 0 0):=hX3.cell 2;have y3:w3.cell? ⟨w2.heap.size,3,none⟩=some (.string ⟨#[]⟩):=hX3.cell 3;have y4:w3.cell? ⟨w2.heap.size,4,none⟩=some (.int .i64 0):=hX3.cell 4;have y5:w3.cell? ⟨w2.heap.size,5,none⟩=some (.int .i64 0):=hX3.cell 5;have y6:w3.cell? ⟨w2.heap.size,6,none⟩=some (.int .i64 0):=hX3.cell 6;have y7:w3.cell? ⟨w2.heap.size,7,none⟩=some (.int .i64 0):=hX3.cell 7;have y8:w3.cell? ⟨w2.heap.size,8,none⟩=some (.int .i64 0):=hX3.cell 8;have yf0:=hX3.free 0;have yf1:=hX3.free 1;have yf2:=hX3.free 2;have yf3:=hX3.free 3;have yf4:=hX3.free 4;have yf5:=hX3.free 5;have yf6:=hX3.free 6;have yf7:=hX3.free 7;have yf8:=hX3.free 8;refine rd1 16 fun K hK=>?_;go_simp;(try rw[hW3]);refine hK.out _ _ (HS4.out W3 HBc.out) fun hHeld=>?_;clear hK K;(try simp only[pS]);refine agE [17] ?_
     (refine tkM ?_;try simp only[pS])
     refine agN ?_;refine dnH ?_;exact hK0 _ _ (Met.intro (hJ0 _ _ ⟨_,_,_,_,_,_,_,_,_,_,_,_,_,_,_,_,_,_,_,_,_,_,_,_,_,_,_,_,_,_,_,_,_,_,_,_,_,_,_,_,_,_,_,_,_,_,_,_,_,_,_,_,_,_,_,_,_,_,_,_,_,_,_,_,_,_,_,_,_,_,_,_,_,_,_,_,_,_,_,_,_,_,_,_,_,_,_,_,_,_,_,_,_,_,_,_,_,_,_,_,_,_,_,_,_,_,_,_,_,_,_,_,_,_,_,_,_,_,_,_,_,_,_,_,_,_,_,_,_,_,_,_,_,_,_,_,_,_,_,_,_,_,_,_,_,_,_,_,_,_,_,_,_,_,_,_,_,_,_,_,_,_,_,_,_,_,_,_,_,_,_,_,_,_,_,_,_,_,_,_,_,_,_,⟨_,_,rfl,rfl,hXc,hrc,HBc.out⟩,rfl⟩))
    ·go_simp;obtain⟨w2,hw2⟩:∃ x,V.alloc (.cells #[.int .i64 0,.string ⟨#[]⟩,.slice none 0 0,.string ⟨#[]⟩,.int .i64 0,.int .i64 0,.int .i64 0,.int .i64 0,.int .i64 0] 42)=x:=⟨_,rfl⟩
     have hX2:Whole w2 V.heap.size #[.int .i64 0,.string ⟨#[]⟩,.slice none 0 0,.string ⟨#[]⟩,.int .i64 0,.int .i64 0,.int .i64 0,.int .i64 0,.int .i64 0] 42:=by rw[←hw2];exact Whole.new V _ _
     have hb2:Below V.heap.size V w2:=bzA hw2;have HB2:=zh (HBV.out.trans (hb2.mono HBV.out.size));(try rw[hw2]);refine hK.out _ _ (HS4.out w2 HB2.out) fun hHeld=>?_;clear hK K;(try simp only[pS]);refine rd1 11 fun K hK=>?_;go_simp;refine (HN.out w2 HB2.out).mono ?_;rintro e w3 ⟨vA,rfl,hra,hb3⟩;obtain⟨Av,cv,rfl⟩:=hra.form;have hX3:=hX2.below hb3 hX2.lt;have HB3:=zh (HB2.out.trans (hb3.mono HB2.out.size));refine hK.out _ _ (HS4.out w3 HB3.out) fun hHeld=>?_;clear hK K;(try simp only[pS]);refine agE [12,13,14] ?_;iterate 3 (refine tkM ?_;try simp only[pS])
     refine agN ?_;obtain⟨W3,hW3,hXc,g3⟩:=boxN hX3 (.int .i64 D.kind) (.string D.name) (.slice Av l.length cv) (.string D.data) (.int .i64 D.pa) (.int .i64 D.fi) (.int .i64 D.la) (.int .i64 D.pr) (.int .i64 D.ne);have HBc:=zh (HB3.out.grown g3 HB3.out.size (fun k hk=>by injection hk with hk;have:=HBV.out.size;omega));have hrc:=(hra.turns (.of_grown g3 (fun k hk=>hk) (S:=fun k=>some V.heap.size=some k)) (fun k hk e=>hra.unlike hX3 (by decide) (by injection e with e;rw[hk,e]))).zero;have y0:w3.cell? ⟨V.heap.size,0,none⟩=some (.int .i64 0):=hX3.cell 0;have y1:w3.cell? ⟨V.heap.size,1,none⟩=some (.string ⟨#[]⟩):=hX3.cell 1;have y2:w3.cell? ⟨V.heap.size,2,none⟩=some (.slice none 0 0):=hX3.cell 2;have y3:w3.cell? ⟨V.heap.size,3,none⟩=some (.string ⟨#[]⟩):=hX3.cell 3;have y4:w3.cell? ⟨V.heap.size,4,none⟩=some (.int .i64 0):=hX3.cell 4;have y5:w3.cell? ⟨V.heap.size,5,none⟩=some (.int .i64 0):=hX3.cell 5;have y6:w3.cell? ⟨V.heap.size,6,none⟩=some (.int .i64 0):=hX3.cell 6;have y7:w3.cell? ⟨V.heap.size,7,none⟩=some (.int .i64 0):=hX3.cell 7;have y8:w3.cell? ⟨V.heap.size,8,none⟩=some (.int .i64 0):=hX3.cell 8;have yf0:=hX3.free 0;have yf1:=hX3.free 1;have yf2:=hX3.free 2;have yf3:=hX3.free 3;have yf4:=hX3.free 4;have yf5:=hX3.free 5;have yf6:=hX3.free 6;have yf7:=hX3.free 7;have yf8:=hX3.free 8;refine rd1 16 fun K hK=>?_;go_simp;(try rw[hW3]);refine hK.out _ _ (HS4.out W3 HBc.out) fun hHeld=>?_;clear hK K;(try simp only[pS]);refine agE [17] ?_
     (refine tkM ?_;try simp only[pS])
     refine agN ?_;refine dnH ?_;exact hK0 _ _ (Met.intro (hJ0 _ _ ⟨_,_,_,_,_,_,_,_,_,_,_,_,_,_,_,_,_,_,_,_,_,_,_,_,_,_,_,_,_,_,_,_,_,_,_,_,_,_,_,_,_,_,_,_,_,_,_,_,_,_,_,_,_,_,_,_,_,_,_,_,_,_,_,_,_,_,_,_,_,_,_,_,_,_,_,_,_,_,_,_,_,_,_,_,_,_,_,_,_,_,_,_,_,_,_,_,_,_,_,_,_,_,_,_,_,_,_,_,_,_,_,_,_,_,_,_,_,_,_,_,_,_,_,_,_,_,_,_,_,_,_,_,_,_,_,_,_,_,_,_,_,_,_,_,_,_,_,_,_,_,_,_,_,_,_,_,_,_,_,_,_,_,_,_,_,_,_,_,_,_,_,_,_,_,_,_,_,_,_,_,_,_,_,⟨_,_,rfl,rfl,hXc,hrc,HBc.out⟩,rfl⟩))
   case rest=>
    obtain⟨X,vA,rfl,rfl,hX,hrA,hbc⟩:=hcut;have HBC:=zh hbc;obtain⟨t0,t1,t2,tm⟩:=HTC.out wc hbc;cases q with
    | true=>
     clear hX hrA hbc;go_wp2_with fail;refine (HHAS.out wc HBC.out).mono ?_;rintro e w2 ⟨rfl,hw2⟩;rw[hw2];clear hw2;go_wp2_with fail
     go_roundw
     case rel=>exact⟨j+1,by go_num,by omega,HBC⟩
     case measure=>simp[intOf];omega
    | false=>
     obtain⟨e1,e2⟩:=HLV.out rfl;obtain⟨Av,cv,rfl⟩:=hrA.form;obtain⟨kd,hkd⟩:∃ x,(f j).kind=x:=⟨_,rfl⟩
     obtain⟨nm,hnm⟩:∃ x,(f j).name=x:=⟨_,rfl⟩
     obtain⟨dt,hdt⟩:∃ x,(f j).data=x:=⟨_,rfl⟩
     obtain⟨pn,hpn⟩:∃ x,(f j).pa=x:=⟨_,rfl⟩
     obtain⟨pq,hpq⟩:∃ x,hof hs pn=x:=⟨_,rfl⟩
     obtain⟨al,hal⟩:∃ x,(f j).at'.length=x:=⟨_,rfl⟩
     obtain⟨kl,hkl⟩:∃ x,(f j).kids.length=x:=⟨_,rfl⟩
     have hall:al≤1000:=by rw[←hal];have:=(HH.out.bd j hjm).1;omega
     have k0:D.kind=kd:=by rw[e1,←hkd];rfl
     have k1:D.name=nm:=by rw[e1,←hnm];rfl
     have k3:D.data=dt:=by rw[e1,←hdt];rfl
     have k4:D.pa=pq:=by rw[e1,←hpq,←hpn];rfl
     have hll:l.length=al:=by rw[e2,hal]
     rw[hll] at hX hrA;have hX':Whole wc X #[.int .i64 kd,.string nm,.slice Av al cv,.string dt,.int .i64 pq,.int .i64 D.fi,.int .i64 D.la,.int .i64 D.pr,.int .i64 D.ne] 42:=by rw[←k0,←k1,←k3,←k4];exact hX
     have hM:=(HW.out wc hbc).mv;obtain⟨gm',em,c0,c1,c2,c3,c4,c5,c6⟩:=hM.read hjm;obtain rfl:gm=gm':=by injection em with em;injection em
     obtain⟨aA,ean⟩:∃ x,(f j).a.a=x:=⟨_,rfl⟩
     obtain⟨aC,eac⟩:∃ x,(f j).a.c=x:=⟨_,rfl⟩
     obtain⟨kA,ekn⟩:∃ x,(f j).k.a=x:=⟨_,rfl⟩
     obtain⟨kC,ekc⟩:∃ x,(f j).k.c=x:=⟨_,rfl⟩
     rw[hkd] at c0;rw[hnm] at c1;rw[hM.an hjm,hal,ean,eac] at c2;rw[hdt] at c3;rw[hpn] at c4;rw[hM.kn hjm,hkl,ekn,ekc] at c5;rw[hq] at c6;have HAR:=zh (fun (W:World) (hb:Below w.heap.size w W)=>(show TR W bM 92 2 (.slice aA al aC) (f j).at'.length (atC (f j).at') from by have h1:=(HW.out W hb).mv.ar j hjm;unfold Tr.Sl.v at h1;rw[(HW.out W hb).mv.an hjm,hal,ean,eac] at h1;rw[hal];exact h1));have HKRM:=zh (fun (W:World) (hb:Below w.heap.size w W)=>(show TR W bM 3 1 (.slice kA kl kC) kl (ints (f j).kids) from by have h1:=(HW.out W hb).mv.kr j hjm;unfold Tr.Sl.v at h1;rw[(HW.out W hb).mv.kn hjm,hkl,ekn,ekc] at h1;exact h1));obtain⟨w5,hw5⟩:∃ x,wc.alloc (.cells #[.int .i64 kd,.string nm,.slice aA al aC,.string dt,.int .i64 pn,.slice kA kl kC,.bool false] 67)=x:=⟨_,rfl⟩
     obtain⟨Y,hY0⟩:∃ Y,wc.heap.size=Y:=⟨_,rfl⟩
     have hY5:Whole w5 Y #[.int .i64 kd,.string nm,.slice aA al aC,.string dt,.int .i64 pn,.slice kA kl kC,.bool false] 67:=by rw[←hw5,←hY0];exact Whole.new wc _ _
     have hb5:Below wc.heap.size wc w5:=bzA hw5;have HY0:=zh hY0;have HA5:=zh hw5;clear hY0 hw5;obtain⟨V9,hV9⟩:∃ x,w5.drew=x:=⟨_,rfl⟩
     have hb9:Below w5.heap.size w5 V9:=bzD hV9;have HB9:=zh ((hbc.trans (hb5.mono hbc.size)).trans (hb9.mono (hbc.trans (hb5.mono hbc.size)).size));have HX9:=zh ((hX'.below hb5 hX'.lt).below hb9 (hX'.below hb5 hX'.lt).lt);have HY9:=zh (hY5.below hb9 hY5.lt);have HRA9:=zh ((hrA.below hb5).below hb9);have HW9:=zh (HW.out V9 HB9.out);have HS9:=zh (fun (W:World) (hb:Below V9.heap.size V9 W)=>(show W.cell? ⟨X,0,none⟩=some (.int .i64 kd)∧W.cell? ⟨X,1,none⟩=some (.string nm)∧W.cell? ⟨X,2,none⟩=some (.slice Av al cv)∧W.cell? ⟨X,3,none⟩=some (.string dt)∧W.cell? ⟨X,4,none⟩=some (.int .i64 pq)∧W.cell? ⟨Y,0,none⟩=some (.int .i64 kd)∧W.cell? ⟨Y,1,none⟩=some (.string nm)∧W.cell? ⟨Y,2,none⟩=some (.slice aA al aC)∧W.cell? ⟨Y,3,none⟩=some (.string dt)∧W.cell? ⟨Y,4,none⟩=some (.int .i64 pn)∧W.cell? ⟨Y,5,none⟩=some (.slice kA kl kC) from by
      have hx:=HX9.out.below hb HX9.out.lt;have hy:=HY9.out.below hb HY9.out.lt
      exact⟨hx.cell 0,hx.cell 1,hx.cell 2,hx.cell 3,hx.cell 4,hy.cell 0,hy.cell 1,hy.cell 2,hy.cell 3,hy.cell 4,hy.cell 5⟩))
     have HPQ:=zh hpq;have HAL:=zh hal;have HKL:=zh hkl;have HE2:=zh e2;have HQ:=zh hq;clear hX hX' hrA hbc e1 e2 hkd hnm hdt hpn hpq hal hkl k0 k1 k3 k4 hll hM ean eac ekn ekc hY5 hb5 hb9 hq;go_wp2_with fail;refine (HHAS.out wc HBC.out).mono ?_;rintro e w2 ⟨rfl,hw2⟩;rw[hw2];clear hw2;go_wp2_with fail;(try rw[HA5.out]);(try rw[HY0.out]);(try go_wp2_with fail);refine wp_region_noPanic ?_;refine wp_region_held_drew (S:=(fun W=>W.cell? ⟨X,0,none⟩=some (.int .i64 kd)∧W.cell? ⟨X,1,none⟩=some (.string nm)∧W.cell? ⟨X,2,none⟩=some (.slice Av al cv)∧W.cell? ⟨X,3,none⟩=some (.string dt)∧W.cell? ⟨X,4,none⟩=some (.int .i64 pq)∧W.cell? ⟨Y,0,none⟩=some (.int .i64 kd)∧W.cell? ⟨Y,1,none⟩=some (.string nm)∧W.cell? ⟨Y,2,none⟩=some (.slice aA al aC)∧W.cell? ⟨Y,3,none⟩=some (.string dt)∧W.cell? ⟨Y,4,none⟩=some (.int .i64 pn)∧W.cell? ⟨Y,5,none⟩=some (.slice kA kl kC))) (by kernel_rfl) ?_ (fun hHeld=>?_)
     ·exact (by rw[hV9];exact HS9.out V9 (Below.refl _ _))
     rw[hV9] at hHeld ⊢;refine agE [0,1,2,3,4,5,6,7,8,9,10,11,12,13,14,15,16,17,18,19,20,21,22,23,24] ?_;iterate 25 (refine tkM ?_;try simp only[pS])
     refine agN ?_;refine rd1 25 fun K hK=>?_;go_simp;refine (handle_any T B M _ hs pn V9 HW9.out.tw).mono ?_;rintro e w2 ⟨rfl,hw2⟩;rw[hw2,HPQ.out];clear hw2;refine hK.out _ _ (HS9.out V9 (Below.refl _ _)) fun hHeld=>?_;clear hK K;(try simp only[pS]);refine agE [26,27,28,29,30,31,32,33,34,35,36] ?_;iterate 11 (refine tkM ?_;try simp only[pS])
     refine agN ?_;refine dnH ?_;clear c0 c1 c2 c3 c4 c5 c6 t0 t1 t2 tm;obtain⟨x2,hx2⟩:∃ x:Unit,x=():=⟨_,rfl⟩
     have f2:V9.cell? ⟨Y,2,none⟩=some (.slice aA al aC):=HY9.out.cell 2;go_wp2_with fail
     go_loopw [7] (fun u wr=>∃ i:Nat,u=.int .i64 (i:Int)∧i≤al∧Hid (Below V9.heap.size V9 wr)) (fun u _=>al - (intOf u).toNat)
     case atStart=>exact⟨0,rfl,Nat.zero_le _,zh (Below.refl _ _)⟩
     case round=>
      obtain⟨w14,hw14⟩:∃ wo:World,wo=wr:=⟨_,rfl⟩
      subst hw14;obtain⟨i,rfl,hi,HBi⟩:=hrel;clear f2;have f2:w14.cell? ⟨Y,2,none⟩=some (.slice aA al aC):=(HY9.out.below HBi.out HY9.out.lt).cell 2;by_cases hia:i<al
      ·have z0:(0:Int)≤(i:Int):=by omega
       have z1:(i:Int)<(al:Int):=by omega
       obtain⟨p,hp⟩:∃ p,(f j).at'[i]?=some p:=⟨(f j).at'[i]'(by rw[HAL.out];exact hia),by simp⟩
       obtain⟨p1,hp1⟩:∃ x,p.1=x:=⟨_,rfl⟩
       obtain⟨p2,hp2⟩:∃ x,p.2=x:=⟨_,rfl⟩
       obtain⟨V14,hV14⟩:∃ x,w14.drew=x:=⟨_,rfl⟩
       have hb14:Below w14.heap.size w14 V14:=bzD hV14;have HB14:=zh (HBi.out.trans (hb14.mono HBi.out.size));have hra:=HRA9.out.below HB14.out;have hrr:=HAR.out V14 (HB9.out.trans (HB14.out.mono HB9.out.size));rw[HE2.out,HAL.out] at hra;rw[HAL.out] at hrr;obtain⟨ga,oa,hga,-,-,hca,-⟩:=hra.cells (by omega);obtain⟨gr,orr,hgr,-,-,hcr,-⟩:=hrr.cells (by omega);have g1:=hca _ _ (by omega) (atC_get _ i p hp).1;have g2:=hca _ _ (by omega) (atC_get _ i p hp).2;have g3:=hcr _ _ (by omega) (atC_get _ i p hp).1;have g4:=hcr _ _ (by omega) (atC_get _ i p hp).2;subst hga;subst hgr;rw[hp1] at g1 g3;rw[hp2,←Nat.add_assoc] at g2 g4;have HS14:=zh (show V14.cell? ⟨X,2,none⟩=some (.slice (some ⟨ga,oa,none⟩) al cv)∧V14.cell? ⟨Y,2,none⟩=some (.slice (some ⟨gr,orr,none⟩) al aC)∧V14.cell? ⟨ga,oa+i*2,none⟩=some (.string p1)∧V14.cell? ⟨ga,oa+i*2+1,none⟩=some (.string p2)∧V14.cell? ⟨gr,orr+i*2,none⟩=some (.string p1)∧V14.cell? ⟨gr,orr+i*2+1,none⟩=some (.string p2) from⟨(HX9.out.below HB14.out HX9.out.lt).cell 2,(HY9.out.below HB14.out HY9.out.lt).cell 2,g1,g2,g3,g4⟩);clear hp1 hp2 hra hrr hca hcr g1 g2 g3 g4 hb14;go_wp2_with fail;refine wp_region_noPanic ?_;refine wp_region_held_drew (S:=(fun W=>W.cell? ⟨X,2,none⟩=some (.slice (some ⟨ga,oa,none⟩) al cv)∧W.cell? ⟨Y,2,none⟩=some (.slice (some ⟨gr,orr,none⟩) al aC)∧W.cell? ⟨ga,oa+i*2,none⟩=some (.string p1)∧W.cell? ⟨ga,oa+i*2+1,none⟩=some (.string p2)∧W.cell? ⟨gr,orr+i*2,none⟩=some (.string p1)∧W.cell? ⟨gr,orr+i*2+1,none⟩=some (.string p2))) (by kernel_rfl) ?_ (fun hHeld=>?_)
       ·exact (by rw[hV14];exact HS14.out)
       rw[hV14] at hHeld ⊢;refine agE [0,1,2,3,4,5,6,7,8,9,10,11,12,13,14,15,16,17,18,19,20,21,22,23,24,25,26,27] ?_;iterate 28 (refine tkM ?_;try simp only[pS])
       refine agN ?_;refine dnH ?_;go_wp2_with fail
       go_roundw
       case rel=>exact⟨i+1,by go_num,by omega,HB14⟩
       case measure=>simp[intOf];omega
      ·have z1:¬ (i:Int)<(al:Int):=by omega
       obtain⟨t0,t1,t2,tm⟩:=HTC.out w14 (HB9.out.trans (HBi.out.mono HB9.out.size));obtain⟨V16,hV16⟩:∃ x,w14.drew=x:=⟨_,rfl⟩
       have hb16:Below w14.heap.size w14 V16:=bzD hV16;have hb169:=HBi.out.trans (hb16.mono HBi.out.size);have HB16:=zh (HB9.out.trans (hb169.mono HB9.out.size));have HX16:=zh (HX9.out.below hb169 HX9.out.lt);have HY16:=zh (HY9.out.below hb169 HY9.out.lt);have hW16:=HW.out V16 HB16.out;have hpull:=HH.out.im.pull HH.out.wf;have hkk:Tr.kidsOf g h=(f j).kids.map (hof hs):=by rw[←hh];exact HH.out.im.kid (mg_at hjm HQ.out)
       have hkm:kl≤m:=by
        rw[←HKL.out];refine few_below m _ (hpull.nodup _ _ (mg_at hjm HQ.out)) fun x hx=>?_;obtain⟨y,e1,e2,-⟩:=mg_is (HH.out.im.kids _ _ (mg_at hjm HQ.out) x hx);exact⟨y,e1,e2⟩
       have HKC:=zh (kids_any base B b s (hof hs 0) h live n g av fr vs vf V16 hW16.tv HH.out.so HH.out.wf (by rw[←hh];exact HH.out.i64 hjm) (by rw[hkk,List.length_map,HKL.out];omega));rw[hkk,List.length_map,HKL.out] at HKC;have HKK:=zh hkk;clear t1 tm hb16 hb169 hW16 hkk;go_wp2_with fail;clear f2;refine wp_region_noPanic ?_;refine wp_region_held_drew (S:=(fun W=>W.cell? ⟨T,0,none⟩=some (.pointer (some ⟨B,0,none⟩))∧W.cell? ⟨T,2,none⟩=some (.slice (some ⟨gh,oh,none⟩) m ch)∧W.cell? ⟨gh,oh+j,none⟩=some (.int .i64 h))) (by kernel_rfl) ?_ (fun hHeld=>?_)
       ·exact (by rw[hV16];exact HS4.out V16 HB16.out)
       rw[hV16] at hHeld ⊢;refine agE [0,1,2,3,4,5,6,7,8,9,10] ?_;iterate 11 (refine tkM ?_;try simp only[pS])
       refine agN ?_;refine rd1 11 fun K hK=>?_;go_simp;refine HKC.out.mono ?_;rintro e w6 ⟨vk,rfl,hkr,hb6⟩;obtain⟨kg,kc,rfl⟩:=own_slice (own_zero hkr);have HB6:=zh (HB16.out.trans (hb6.mono HB16.out.size));have HX6:=zh (HX16.out.below hb6 HX16.out.lt);have HY6:=zh (HY16.out.below hb6 HY16.out.lt);have HKR:=zh (own_zero hkr);clear hkr hb6;refine hK.out _ _ (HS4.out w6 HB6.out) fun hHeld=>?_;clear hK K;(try simp only[pS]);refine agE [12] ?_
       (refine tkM ?_;try simp only[pS])
       refine agN ?_;refine dnH ?_;clear t0 t2;obtain⟨V17,hV17⟩:∃ x,w6.drew=x:=⟨_,rfl⟩
       have hb17:Below w6.heap.size w6 V17:=bzD hV17;have HB17:=zh (HB6.out.trans (hb17.mono HB6.out.size));have HX17:=zh (HX6.out.below hb17 HX6.out.lt);have HY17:=zh (HY6.out.below hb17 HY6.out.lt);have HKR17:=zh (own_below HKR.out hb17);obtain⟨ix,hix⟩:∃ x,indexM m f j=x:=⟨_,rfl⟩
       have HIX:=zh (index_any base B b s (hof hs 0) h live n g av fr vs vf V17 (HW.out V17 HB17.out).tv HH.out.so HH.out.wf (by rw[←hh];exact HH.out.i64 hjm));rw[show Tr.indexG g h=ix by rw[←hix,←hh];exact HH.out.im.index HH.out.wf hjm HQ.out] at HIX;have HRI:=zh (fun (W:World) (hb:Below w.heap.size w W)=>rindex_any bM M m _ f j W (HW.out W hb).mv hpull hjm HQ.out (by omega));rw[hix] at HRI;have HS17:=zh (fun (W:World) (hb:Below w.heap.size w W) (hy:Whole W Y #[.int .i64 kd,.string nm,.slice aA al aC,.string dt,.int .i64 pn,.slice kA kl kC,.bool false] 67)=>(show W.cell? ⟨T,0,none⟩=some (.pointer (some ⟨B,0,none⟩))∧W.cell? ⟨T,1,none⟩=some (.pointer (some ⟨M,0,none⟩))∧W.cell? ⟨T,2,none⟩=some (.slice (some ⟨gh,oh,none⟩) m ch)∧W.cell? ⟨gh,oh+j,none⟩=some (.int .i64 h)∧W.cell? ⟨Y,5,none⟩=some (.slice kA kl kC) from⟨(HTC.out W hb).1,(HTC.out W hb).2.1,(HTC.out W hb).2.2.1,(HS4.out W hb).2.2,hy.cell 5⟩));clear hix hb17 hpull;go_wp2_with fail;refine wp_region_noPanic ?_;refine wp_region_held_drew (S:=(fun W=>W.cell? ⟨T,0,none⟩=some (.pointer (some ⟨B,0,none⟩))∧W.cell? ⟨T,1,none⟩=some (.pointer (some ⟨M,0,none⟩))∧W.cell? ⟨T,2,none⟩=some (.slice (some ⟨gh,oh,none⟩) m ch)∧W.cell? ⟨gh,oh+j,none⟩=some (.int .i64 h)∧W.cell? ⟨Y,5,none⟩=some (.slice kA kl kC))) (by kernel_rfl) ?_ (fun hHeld=>?_)
       ·exact (by rw[hV17];exact HS17.out V17 HB17.out HY17.out)
       rw[hV17] at hHeld ⊢;refine agE [0,1,2,3,4,5,6,7,8,9,10,11,12,13,14,15,16,17,19,20,21,22,23] ?_;iterate 23 (refine tkM ?_;try simp only[pS])
       refine agN ?_;refine rd1 18 fun K hK=>?_;go_simp;refine HIX.out.mono ?_;rintro e w7 ⟨rfl,hb7⟩;have HB7:=zh (HB17.out.trans (hb7.mono HB17.out.size));have HX7:=zh (HX17.out.below hb7 HX17.out.lt);have HY7:=zh (HY17.out.below hb7 HY17.out.lt);have HKR7:=zh (own_below HKR17.out hb7);clear hb7;refine hK.out _ _ (HS17.out w7 HB7.out HY7.out) fun hHeld=>?_;clear hK K;(try simp only[pS]);refine rd1 24 fun K hK=>?_;go_simp;refine (HRI.out w7 HB7.out).mono ?_;rintro e w8 ⟨rfl,hw8⟩;rw[hw8];clear hw8;refine hK.out _ _ (HS17.out w7 HB7.out HY7.out) fun hHeld=>?_;clear hK K;(try simp only[pS]);refine agE [25,26] ?_;iterate 2 (refine tkM ?_;try simp only[pS])
       refine agN ?_;refine dnH ?_;go_wp2_with fail
       go_loopw [9] (fun u wr=>∃ i:Nat,u=.int .i64 (i:Int)∧i≤kl∧Hid (Below w7.heap.size w7 wr)) (fun u _=>kl - (intOf u).toNat)
       case atStart=>exact⟨0,rfl,Nat.zero_le _,zh (Below.refl _ _)⟩
       case round=>
        obtain⟨w22,hw22⟩:∃ wo:World,wo=wr:=⟨_,rfl⟩
        subst hw22;obtain⟨i,rfl,hi,HBi7⟩:=hrel;have HB22:=zh (HB7.out.trans (HBi7.out.mono HB7.out.size));by_cases hik:i<kl
        ·have z2:(0:Int)≤(i:Int):=by omega
         have z3:(i:Int)<(kl:Int):=by omega
         obtain⟨x,hx⟩:∃ x,(f j).kids[i]?=some x:=⟨(f j).kids[i]'(by rw[HKL.out];exact hik),by simp⟩
         obtain⟨y,rfl,hym,-,-⟩:=mg_is (HH.out.im.kids _ _ (mg_at hjm HQ.out) x (List.mem_of_getElem? hx));obtain⟨hy,hhy⟩:∃ z,hof hs (y:Int)=z:=⟨_,rfl⟩
         obtain⟨V22,hV22⟩:∃ x,w22.drew=x:=⟨_,rfl⟩
         have hb22:Below w22.heap.size w22 V22:=bzD hV22;have hbv:=HB22.out.trans (hb22.mono HB22.out.size);have hbv7:=HBi7.out.trans (hb22.mono HBi7.out.size);have HBv7:=zh hbv7;have hkr:=own_below HKR7.out hbv7;have hkm2:=HKRM.out V22 hbv;obtain⟨kg0,hkg0,-⟩:=own_cells hkr (by omega);obtain⟨gk,ok,hgk,-,-,hck,-⟩:=hkm2.cells (by omega);subst hkg0;subst hgk;have g1:=hck i _ (by omega) (ints_get hx);have g2:V22.cell? ⟨kg0,i,none⟩=some (.int .i64 hy):=by
          rw[hkr.cellAt i (by omega)];exact ints_get (by rw[List.getElem?_map,hx,←hhy];rfl)
         have g3:=HCH.out V22 hbv y hym;rw[hhy] at g3;have HS22:=zh (show V22.cell? ⟨T,2,none⟩=some (.slice (some ⟨gh,oh,none⟩) m ch)∧V22.cell? ⟨Y,5,none⟩=some (.slice (some ⟨gk,ok,none⟩) kl kC)∧V22.cell? ⟨gk,ok+i,none⟩=some (.int .i64 (y:Int))∧V22.cell? ⟨gh,oh+y,none⟩=some (.int .i64 hy)∧V22.cell? ⟨kg0,i,none⟩=some (.int .i64 hy) from⟨(HTC.out V22 hbv).2.2.1,(HY7.out.below hbv7 HY7.out.lt).cell 5,g1,g3,g2⟩);have z4:(0:Int)≤(y:Int):=by omega
         have z5:(y:Int)<(m:Int):=by omega
         clear hb22 hbv hbv7 hkr hkm2 hck g1 g2 g3 hx hhy;go_wp2_with fail;refine wp_region_noPanic ?_;refine wp_region_held_drew (S:=(fun W=>W.cell? ⟨T,2,none⟩=some (.slice (some ⟨gh,oh,none⟩) m ch)∧W.cell? ⟨Y,5,none⟩=some (.slice (some ⟨gk,ok,none⟩) kl kC)∧W.cell? ⟨gk,ok+i,none⟩=some (.int .i64 (y:Int))∧W.cell? ⟨gh,oh+y,none⟩=some (.int .i64 hy)∧W.cell? ⟨kg0,i,none⟩=some (.int .i64 hy))) (by kernel_rfl) ?_ (fun hHeld=>?_)
         ·exact (by rw[hV22];exact HS22.out)
         rw[hV22] at hHeld ⊢;refine agE [0,1,2,3,4,5,6,7,8,9,10,11,12,13,14,15] ?_;iterate 16 (refine tkM ?_;try simp only[pS])
         refine agN ?_;refine dnH ?_;go_wp2_with fail
         go_roundw
         case rel=>exact⟨i+1,by go_num,by omega,HBv7⟩
         case measure=>simp[intOf];omega
        ·have z3:¬ (i:Int)<(kl:Int):=by omega
         go_wp2_with fail
         go_roundw
         case rel=>exact⟨j+1,by go_num,by omega,HB22⟩
         case measure=>simp[intOf];omega
  ·have y1:¬ (j:Int)<(m:Int):=by omega
   go_wp2_with fail
   go_ret
   exact⟨rfl,HB.out⟩
end
end Go.Proofs.YtaigmpkcdjbpiaaGreatDoor
