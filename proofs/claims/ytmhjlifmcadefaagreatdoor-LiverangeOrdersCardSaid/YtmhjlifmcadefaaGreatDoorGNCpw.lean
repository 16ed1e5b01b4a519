/- Part of a proof about trees. -/
import Derived.BigQuiet
import Derived.Deep.RegionHeld3
import Derived.Test.YtmhjlifmcadefaaGreatDoorGNTwq
import Derived.Test.YtmhjlifmcadefaaGreatDoorGNMat
set_option linter.unusedVariables false
set_option linter.unusedSimpArgs false
set_option linter.unusedSectionVars false
set_option maxHeartbeats 8000000
set_option maxRecDepth 100000
namespace Go.Proofs.YtmhjlifmcadefaaGreatDoor
section
open Go.RowKit Go.Shelf
variable [mQ]
attribute [local go_sem] Oper.semAt_some
theorem gu {G X:Prop} (use:X→G) (k:X):G:=use k
theorem nA {w:World} {T B M gh oh ch m ia X:Nat} {hs:List Int} {h:Int} (H:oW w T B M (.slice (some ⟨gh,oh,none⟩) hs.length ch) hs) (hX:Whole w X #[.pointer (some ⟨T,0,none⟩)] 27) (hl:hs.length=m) (hi:hs[ia]?=some h):w.cell? ⟨X,0,none⟩=some (.pointer (some ⟨T,0,none⟩))∧w.cell? ⟨T,0,none⟩=some (.pointer (some ⟨B,0,none⟩))∧w.cell? ⟨T,1,none⟩=some (.pointer (some ⟨M,0,none⟩))∧w.cell? ⟨T,2,none⟩=some (.slice (some ⟨gh,oh,none⟩) m ch)∧w.cell? ⟨gh,oh+ia,none⟩=some (.int .i64 h):=by
 have hlt:=(List.getElem?_eq_some_iff.1 hi).1;rw[←hl];exact⟨hX.cell 0,H.var.cell 0,H.var.cell 1,H.var.cell 2,H.row.cellAt ia _ (by omega) (eu hi)⟩
theorem TR.lC {w:World} {base:Nat} {e:TypeId} {size:Nat} {v:Value} {n:Nat} {xs:List Value} (h:TR w base e size v n xs) {k:Nat} (hk:v.ownBlock=some k):∃ cs t fz,w.heap[k]?=some (.cells cs t fz):=by
 rcases h.2 with ⟨e1,_⟩ | ⟨g,off,cap,cur,e1,_,hg,_⟩
 ·rw[e1] at hk;simp[Value.ownBlock] at hk
 ·rw[e1] at hk;have:g=k:=by simpa [Value.ownBlock] using hk
  rw[←this];exact⟨_,_,_,hg⟩
theorem XY {W W':World} {T B M:Nat} {vh:Value} {hs:List Int} (H:oW W T B M vh hs) (t:Turns (fun k=>k=T∨vh.ownBlock=some k) W W'):KeepsOthers W W':=⟨t.size,fun k o hk hc=>by
 by_cases hf:k=T∨vh.ownBlock=some k
 ·have:∃ cs t fz,W.heap[k]?=some (.cells cs t fz):=by
   rcases hf with rfl | hf
   ·exact⟨_,_,_,H.var⟩
   ·exact H.row.lC hf
  obtain⟨cs,t',fz,e⟩:=this;rw[e] at hk;obtain rfl:=Option.some.inj hk;cases hc
 ·exact (t.block k (Array.getElem?_eq_some_iff.1 hk).1 hf).trans hk⟩
structure CW (base bM T B M X:Nat) (b s:Int) (h' root:Int) (vs' dw dP vh:Value) (n' aY m':Nat) (fr':List Nat) (iK:Int→Tr.Sl) (f':Nat→RS) (g':Tr.G) (w4 w':World) (hs:List Int) (pre:List Int) (lV:Value) (W:World):Prop where
 tw:oW W T B M lV (hs++pre)
 ls:LS base B w4.heap.size (w4.heap.size+1) b s h' vs' n' (Tr.raw g' iK) dw fr' aY root W
 box:Whole W X #[.pointer (some ⟨T,0,none⟩)] 27
 mv:MV bM W M dP m' f'
 tu:Turns (fun k=>k=T∨vh.ownBlock=some k) w4 W
 fr:∀ k,lV.ownBlock=some k→vh.ownBlock=some k∨w'.heap.size≤k
 sz:w'.heap.size≤W.heap.size
section
variable {base bM T B M X:Nat} {b s h' root:Int} {vs' dw dP vh lV:Value} {n' aY m':Nat} {fr':List Nat} {iK:Int→Tr.Sl} {f':Nat→RS} {g':Tr.G} {w4 w' W W':World} {hs pre:List Int}
theorem CW.others {row:Option Nat} (H:CW base bM T B M X b s h' root vs' dw dP vh n' aY m' fr' iK f' g' w4 w' hs pre lV W) (hT:T<w'.heap.size) (hM:∀ k,aC M dP m' f' k→k<w'.heap.size) (hw:w4.heap.size≤w'.heap.size) (hg:W.grownBy W' row) (hr:∀ r,row=some r→w'.heap.size≤r∧∃ o:Obj,W.heap[r]?=some o∧o.isCells=false):CW base bM T B M X b s h' root vs' dw dP vh n' aY m' fr' iK f' g' w4 w' hs pre lV W':=by
 have ht:Turns (fun k=>row=some k) W W':=.aU hg (fun k hk=>hk);refine⟨⟨H.tw.var.turns ht (fun e=>by have:=(hr _ e).1;omega),H.tw.row.turns ht (fun k hk e=>?_)⟩,H.ls.others hg (fun r e=>(hr r e).2),bg H.box hg (fun r e=>(hr r e).2),H.mv.turns ht (fun x hx e=>by have:=hM x hx;have:=(hr _ e).1;omega),H.tu.trans ht (fun _ _ x=>x) (fun k hk e=>by have:=(hr _ e).1;omega),H.fr,Nat.le_trans H.sz ht.size⟩;obtain⟨cs,t,fz,e1⟩:=H.tw.row.lC hk;obtain⟨o,ho,hc⟩:=(hr _ e).2;rw[e1] at ho;obtain rfl:=Option.some.inj ho;cases hc
theorem CW.drew (H:CW base bM T B M X b s h' root vs' dw dP vh n' aY m' fr' iK f' g' w4 w' hs pre lV W) (hb:Below W.heap.size W W'):CW base bM T B M X b s h' root vs' dw dP vh n' aY m' fr' iK f' g' w4 w' hs pre lV W':=
 ⟨H.tw.below hb,H.ls.below hb,H.box.below hb H.box.lt,H.mv.below hb,H.tu.trans (.of_below hb (S:=fun _=>False)) (fun _ _ x=>x) (fun _ _ x=>x.elim),H.fr,Nat.le_trans H.sz hb.size⟩
theorem CW.push {x:Int} {WA W2:World} {v2:Value} (H:CW base bM T B M X b s h' root vs' dw dP vh n' aY m' fr' iK f' g' w4 w' hs pre lV W) (hX:X≠T) (hbt:w4.heap.size≠T∧w4.heap.size+1≠T) (hw':w'.heap.size=w4.heap.size+2)
  (hap:∀ k,vh.ownBlock=some k∨k=T→¬ aD B vs' dw k∧¬ aC M dP m' f' k) (hF:∀ k,aD B vs' dw k∨aC M dP m' f' k→k<w4.heap.size) (hvl:∀ k,vh.ownBlock=some k→k<w4.heap.size)
  (h1:Below W.heap.size W WA) (g:WA.grownBy W2 lV.ownBlock) (o:TR W2 0 3 1 v2 ((hs++pre).length+1) (ints (hs++pre++[x]))) (f:mP WA lV v2):
  Whole W2 T #[.pointer (some ⟨B,0,none⟩),.pointer (some ⟨M,0,none⟩),lV] 41∧CW base bM T B M X b s h' root vs' dw dP vh n' aY m' fr' iK f' g' w4 w' hs (pre++[x]) v2 (W2.setCell ⟨T,2,none⟩ v2)∧Whole W2 X #[.pointer (some ⟨T,0,none⟩)] 27∧KeepsOthers W (W2.setCell ⟨T,2,none⟩ v2)∧
   (LS base B w4.heap.size (w4.heap.size+1) b s h' vs' n' (Tr.raw g' iK) dw fr' aY root W→LS base B w4.heap.size (w4.heap.size+1) b s h' vs' n' (Tr.raw g' iK) dw fr' aY root (W2.setCell ⟨T,2,none⟩ v2)):=by
 obtain⟨hW,CP,ht,hv⟩:=oW.pushed H.tw h1 g o f;have hnF:∀ k,(k=T∨lV.ownBlock=some k)→¬ aD B vs' dw k∧¬ aC M dP m' f' k:=by
  intro k hk;have key:(vh.ownBlock=some k∨k=T)∨w'.heap.size≤k:=by
   rcases hk with e | e
   ·exact .inl (.inr e)
   ·rcases H.fr k e with e1 | e1
    ·exact .inl (.inl e1)
    ·exact .inr e1
  rcases key with e | e
  ·exact hap k e
  ·exact⟨fun hf=>by have:=hF k (.inl hf);omega,fun hf=>by have:=hF k (.inr hf);omega⟩
 have hnb:∀ y,(y=w4.heap.size∨y=w4.heap.size+1)→¬ (y=T∨lV.ownBlock=some y):=by
  rintro y hy (e | e)
  ·rcases hy with rfl | rfl
   ·exact hbt.1 e
   ·exact hbt.2 e
  ·rcases H.fr y e with e1 | e1
   ·have:=hvl y e1;omega
   ·omega
 have hls:LS base B w4.heap.size (w4.heap.size+1) b s h' vs' n' (Tr.raw g' iK) dw fr' aY root (W2.setCell ⟨T,2,none⟩ v2):=
  ⟨H.ls.tree.turns ht (fun k hk e=>(hnF k e).1 hk),H.ls.bt.turns ht (hnb _ (.inl rfl)),H.ls.bh.turns ht (hnb _ (.inr rfl))⟩
 have hbx:Whole (W2.setCell ⟨T,2,none⟩ v2) X #[.pointer (some ⟨T,0,none⟩)] 27:=H.box.turns ht (fun e=>by
  rcases e with e | e
  ·exact hX e
  ·exact H.tw.row.unlike H.box (by decide) e)
 refine⟨hW,⟨by rw[←List.append_assoc];exact CP,hls,hbx,H.mv.turns ht (fun k hk e=>(hnF k e).2 hk),H.tu.trans ht (fun _ _ x=>x) (fun k hk e=>?_),fun k hk=>?_,Nat.le_trans H.sz ht.size⟩,(H.box.below h1 H.box.lt).grown g (fun e=>(H.tw.below h1).row.unlike (H.box.below h1 H.box.lt) (by decide) e.symm),XY H.tw ht,fun _=>hls⟩
 ·rcases e with e | e
  ·exact .inl e
  ·rcases H.fr k e with e1 | e1
   ·exact .inr e1
   ·omega
 ·rcases hv k hk with e | e
  ·exact H.fr k e
  ·exact .inr (Nat.le_trans H.sz e)
end
theorem Mt (base bM T B M:Nat) (b s:Int) (vs vf aP vh:Value) (n live m:Nat) (fr:List Nat) (av:Int→Tr.Sl) (f:Nat→RS) (hs:List Int) (g:Tr.G) (K:Nat) (ia:Nat) (deep:Bool) (w:World) (H:TW w base bM T B M b s vs vf aP vh n live m fr av f hs g K) (hia:ia<m) (hg:(f ia).gone=true) (hm:m≤300) (hK:K≤60):
  Calls Tryz.prog 43 #[.pointer (some ⟨T,0,none⟩),.int .i64 (ia:Int),.bool deep] w fun e w'=>∃ (vs' dw dP lV:Value) (n' aY m':Nat) (fr':List Nat) (iK:Int→Tr.Sl) (f':Nat→RS) (hs':List Int) (g':Tr.G),e=.returned (.bool true)∧TW w' base bM T B M b s vs' dw dP lV n' aY m' fr' iK f' hs' g' (K+1):=by
 obtain⟨Ah,ch,rfl⟩:=H.tw.row.form;have hlen:=H.len;have hm0:=H.m0;obtain⟨gh,oh,rfl,-,-,hcs,-⟩:=H.tw.row.cells (by omega);obtain⟨w1,hw1⟩:=eX (w.alloc (.cells #[.pointer (some ⟨T,0,none⟩)] 27))
 have hb1:Below w.heap.size w w1:=fI hw1;have hX1:Whole w1 w.heap.size #[.pointer (some ⟨T,0,none⟩)] 27:=by rw[←hw1];exact Whole.new w _ _
 have hz1:w1.heap.size=w.heap.size+1:=by rw[←hw1];simp
 obtain⟨V,hV⟩:=eX (w1.drew)
 have dS:Below w1.heap.size w1 V:=lW hV;have HB:=zh (hb1.trans (dS.mono hb1.size));have HV:=zh (H.below HB.out);have HX:=zh (hX1.below dS hX1.lt);have HLEN:=zh hlen;obtain⟨h,hh⟩:=eX (hof hs (ia:Int))
 have Uh:Hid (hs[ia]?=some h):=zh (by rw[←hh];exact H.bJ hia);have gV:=zh (show V.cell? ⟨w.heap.size,0,none⟩=some (.pointer (some ⟨T,0,none⟩))∧V.cell? ⟨T,0,none⟩=some (.pointer (some ⟨B,0,none⟩))∧V.cell? ⟨T,1,none⟩=some (.pointer (some ⟨M,0,none⟩))∧V.cell? ⟨T,2,none⟩=some (.slice (some ⟨gh,oh,none⟩) m ch)∧V.cell? ⟨gh,oh+ia,none⟩=some (.int .i64 h) from nA HV.out.tw HX.out HLEN.out Uh.out);have K4:(0:Int)≤(ia:Int):=by omega
 have K5:(ia:Int)<(m:Int):=by omega
 obtain⟨e1,e2⟩:=H.mD hia hg;have HC:=zh (CQ base B b s (hof hs 0) h 6 deep live n (Tr.raw g av) fr vs vf Tr.yX V HV.out.tv HV.out.so (by rw[←hh];exact HV.out.i64 hia) (by rw[←hh,e1,Tr.bF e2];rfl) (.inl ⟨rfl,rfl⟩));have HG:=zh hg;clear H e1 e2 hb1 hX1 dS hcs hg
 go_enter Tryz.func43,Tryz.ntmps43
 go_wp2_with fail;(try rw[hw1]);(try go_wp2_with fail);refine wp_region_noPanic ?_;refine wp_region_held_drew (S:=(fun W=>W.cell? ⟨w.heap.size,0,none⟩=some (.pointer (some ⟨T,0,none⟩))∧W.cell? ⟨T,0,none⟩=some (.pointer (some ⟨B,0,none⟩))∧W.cell? ⟨T,1,none⟩=some (.pointer (some ⟨M,0,none⟩))∧W.cell? ⟨T,2,none⟩=some (.slice (some ⟨gh,oh,none⟩) m ch)∧W.cell? ⟨gh,oh+ia,none⟩=some (.int .i64 h))) (by kernel_rfl) ?_ (fun ah=>?_)
 ·exact (by rw[hV];exact gV.out)
 rw[hV] at ah ⊢;refine bn [0,1,2,3,4,5,6,7,8,9,10,11] ?_;iterate 12 (refine cZ ?_;try simp only[pS])
 refine bq ?_;refine bG 12 fun K hK=>?_;go_simp;refine HC.out.mono ?_;rintro e w3 ⟨rfl,hb3⟩;have HW3:=zh (HV.out.below hb3);have eU:=zh (HX.out.below hb3 HX.out.lt);have jA:=zh (show w3.cell? ⟨w.heap.size,0,none⟩=some (.pointer (some ⟨T,0,none⟩))∧w3.cell? ⟨T,0,none⟩=some (.pointer (some ⟨B,0,none⟩))∧w3.cell? ⟨T,1,none⟩=some (.pointer (some ⟨M,0,none⟩))∧w3.cell? ⟨T,2,none⟩=some (.slice (some ⟨gh,oh,none⟩) m ch)∧w3.cell? ⟨gh,oh+ia,none⟩=some (.int .i64 h) from nA HW3.out.tw eU.out HLEN.out Uh.out);clear hb3;refine hK.out _ _ (jA.out) fun ah=>?_;clear hK K;(try simp only[pS]);refine bn [13,14,15,16,17] ?_;iterate 5 (refine cZ ?_;try simp only[pS])
 refine bq ?_;refine eY ?_;obtain⟨t3,c0,c1,c2,-⟩:=jA.out;have dZ:=zh (bX bM M m aP f ia w3 HW3.out.mv hia (by omega));rw[HG.out] at dZ;go_wp2_with fail;refine dZ.out.mono ?_;rintro e w4 ⟨rfl,hw4⟩;rw[hw4];clear hw4;go_wp2_with fail
 go_ret
 exact⟨_,_,_,_,_,_,_,_,_,_,_,_,rfl,HW3.out.up⟩
theorem Mv (base bM T B M:Nat) (b s:Int) (vs vf aP vh:Value) (n live m:Nat) (fr:List Nat) (av:Int→Tr.Sl) (f:Nat→RS) (hs:List Int) (g:Tr.G) (K:Nat) (ia:Nat) (deep:Bool) (w:World) (H:TW w base bM T B M b s vs vf aP vh n live m fr av f hs g K) (hia:ia<m) (hg:(f ia).gone=false) (h0:ia=0) (hm:m≤300) (hK:K≤60):
  Calls Tryz.prog 43 #[.pointer (some ⟨T,0,none⟩),.int .i64 (ia:Int),.bool deep] w fun e w'=>∃ (vs' dw dP lV:Value) (n' aY m':Nat) (fr':List Nat) (iK:Int→Tr.Sl) (f':Nat→RS) (hs':List Int) (g':Tr.G),e=.returned (.bool true)∧TW w' base bM T B M b s vs' dw dP lV n' aY m' fr' iK f' hs' g' (K+1):=by
 obtain⟨Ah,ch,rfl⟩:=H.tw.row.form;have hlen:=H.len;have hm0:=H.m0;obtain⟨gh,oh,rfl,-,-,hcs,-⟩:=H.tw.row.cells (by omega);obtain⟨w1,hw1⟩:=eX (w.alloc (.cells #[.pointer (some ⟨T,0,none⟩)] 27))
 have hb1:Below w.heap.size w w1:=fI hw1;have hX1:Whole w1 w.heap.size #[.pointer (some ⟨T,0,none⟩)] 27:=by rw[←hw1];exact Whole.new w _ _
 have hz1:w1.heap.size=w.heap.size+1:=by rw[←hw1];simp
 obtain⟨V,hV⟩:=eX (w1.drew)
 have dS:Below w1.heap.size w1 V:=lW hV;have HB:=zh (hb1.trans (dS.mono hb1.size));have HV:=zh (H.below HB.out);have HX:=zh (hX1.below dS hX1.lt);have HLEN:=zh hlen;obtain⟨h,hh⟩:=eX (hof hs (ia:Int))
 have Uh:Hid (hs[ia]?=some h):=zh (by rw[←hh];exact H.bJ hia);have gV:=zh (show V.cell? ⟨w.heap.size,0,none⟩=some (.pointer (some ⟨T,0,none⟩))∧V.cell? ⟨T,0,none⟩=some (.pointer (some ⟨B,0,none⟩))∧V.cell? ⟨T,1,none⟩=some (.pointer (some ⟨M,0,none⟩))∧V.cell? ⟨T,2,none⟩=some (.slice (some ⟨gh,oh,none⟩) m ch)∧V.cell? ⟨gh,oh+ia,none⟩=some (.int .i64 h) from nA HV.out.tw HX.out HLEN.out Uh.out);have K4:(0:Int)≤(ia:Int):=by omega
 have K5:(ia:Int)<(m:Int):=by omega
 have HC:=zh (CS HV.out hm hK hia hg deep);rw[hh] at HC;have HG:=zh hg;have H0:=zh h0;have aad:=zh HV.out.K6;have aae:=zh HV.out.mv;have Vj:=zh HV.out.tv;have uJ:=zh (show ∀ k,(Value.slice (some ⟨gh,oh,none⟩) hs.length ch).ownBlock=some k→k<w.heap.size from fun k hk=>(H.tw.row.lt k hk).2);have HTL:=zh (show T<w.heap.size from H.tw.var.lt);clear H hb1 hX1 dS hcs hg h0
 go_enter Tryz.func43,Tryz.ntmps43
 go_wp2_with fail;(try rw[hw1]);(try go_wp2_with fail);refine wp_region_noPanic ?_;refine wp_region_held_drew (S:=(fun W=>W.cell? ⟨w.heap.size,0,none⟩=some (.pointer (some ⟨T,0,none⟩))∧W.cell? ⟨T,0,none⟩=some (.pointer (some ⟨B,0,none⟩))∧W.cell? ⟨T,1,none⟩=some (.pointer (some ⟨M,0,none⟩))∧W.cell? ⟨T,2,none⟩=some (.slice (some ⟨gh,oh,none⟩) m ch)∧W.cell? ⟨gh,oh+ia,none⟩=some (.int .i64 h))) (by kernel_rfl) ?_ (fun ah=>?_)
 ·exact (by rw[hV];exact gV.out)
 rw[hV] at ah ⊢;refine bn [0,1,2,3,4,5,6,7,8,9,10,11] ?_;iterate 12 (refine cZ ?_;try simp only[pS])
 refine bq ?_;refine bG 12 fun K hK=>?_;go_simp;refine HC.out.mono ?_;rintro e w3 ⟨h',E,rfl,hE,ht3,oF,Ep,hM⟩;obtain⟨hE1,hE2⟩:E=10∧h'=0:=by rcases hE with ⟨a,b,-⟩ | ⟨-,c⟩;exact⟨a,b⟩;exact absurd H0.out c
 subst hE1;subst hE2;have eU:=zh (HX.out.turns ht3 (Vj.out.aV HX.out (by decide) (by decide) (by decide)));have jA:=zh (show w3.cell? ⟨w.heap.size,0,none⟩=some (.pointer (some ⟨T,0,none⟩))∧w3.cell? ⟨T,0,none⟩=some (.pointer (some ⟨B,0,none⟩))∧w3.cell? ⟨T,1,none⟩=some (.pointer (some ⟨M,0,none⟩))∧w3.cell? ⟨T,2,none⟩=some (.slice (some ⟨gh,oh,none⟩) m ch)∧w3.cell? ⟨gh,oh+ia,none⟩=some (.int .i64 h) from nA oF eU.out HLEN.out Uh.out);have OH:=zh oF;have qV:=zh Ep;have HM:=zh (hM w3 (Below.refl _ _));clear hE ht3 oF Ep hM HC;refine hK.out _ _ (jA.out) fun ah=>?_;clear hK K;(try simp only[pS]);refine bn [13,14,15,16,17] ?_;iterate 5 (refine cZ ?_;try simp only[pS])
 refine bq ?_;refine eY ?_;obtain⟨t3,c0,c1,c2,-⟩:=jA.out;obtain⟨k0,-⟩:=qV.out.cell;obtain⟨AM,cM,hvM⟩:=qV.out.form;subst hvM;have dZ:=zh (bX bM M m _ f ia w3 qV.out hia (by omega));rw[HG.out] at dZ;go_wp2_with fail;refine dZ.out.mono ?_;rintro e w4 ⟨rfl,hw4⟩;rw[hw4];clear hw4;go_wp2_with fail;refine HM.out.mono ?_;rintro e w4 ⟨rfl,CU,hcase⟩;have HF:=zh (show TW w4 base bM T B M b s vs vf (.slice AM m cM) (.slice (some ⟨gh,oh,none⟩) hs.length ch) n live m fr av f hs g (K+1) from by rcases hcase with ⟨-,-,h1⟩ | ⟨h1,-⟩;exact h1;exact absurd h1 (by decide));clear CU hcase;go_wp2_with fail
 go_ret
 exact⟨_,_,_,_,_,_,_,_,_,_,_,_,rfl,HF.out⟩
theorem Mw (base bM T B M:Nat) (b s:Int) (vs vf aP vh:Value) (n live m:Nat) (fr:List Nat) (av:Int→Tr.Sl) (f:Nat→RS) (hs:List Int) (g:Tr.G) (K:Nat) (ia:Nat) (deep:Bool) (w:World) (H:TW w base bM T B M b s vs vf aP vh n live m fr av f hs g K) (hia:ia<m) (hg:(f ia).gone=false) (h0:ia≠0) (hm:m≤300) (hK:K≤60):
  Calls Tryz.prog 43 #[.pointer (some ⟨T,0,none⟩),.int .i64 (ia:Int),.bool deep] w fun e w'=>∃ (vs' dw dP lV:Value) (n' aY m':Nat) (fr':List Nat) (iK:Int→Tr.Sl) (f':Nat→RS) (hs':List Int) (g':Tr.G),e=.returned (.bool true)∧TW w' base bM T B M b s vs' dw dP lV n' aY m' fr' iK f' hs' g' (K+1):=by
 obtain⟨Ah,ch,rfl⟩:=H.tw.row.form;have hlen:=H.len;have hm0:=H.m0;obtain⟨gh,oh,rfl,-,-,hcs,-⟩:=H.tw.row.cells (by omega);obtain⟨w1,hw1⟩:=eX (w.alloc (.cells #[.pointer (some ⟨T,0,none⟩)] 27))
 have hb1:Below w.heap.size w w1:=fI hw1;have hX1:Whole w1 w.heap.size #[.pointer (some ⟨T,0,none⟩)] 27:=by rw[←hw1];exact Whole.new w _ _
 have hz1:w1.heap.size=w.heap.size+1:=by rw[←hw1];simp
 obtain⟨V,hV⟩:=eX (w1.drew)
 have dS:Below w1.heap.size w1 V:=lW hV;have HB:=zh (hb1.trans (dS.mono hb1.size));have HV:=zh (H.below HB.out);have HX:=zh (hX1.below dS hX1.lt);have HLEN:=zh hlen;obtain⟨h,hh⟩:=eX (hof hs (ia:Int))
 have Uh:Hid (hs[ia]?=some h):=zh (by rw[←hh];exact H.bJ hia);have gV:=zh (show V.cell? ⟨w.heap.size,0,none⟩=some (.pointer (some ⟨T,0,none⟩))∧V.cell? ⟨T,0,none⟩=some (.pointer (some ⟨B,0,none⟩))∧V.cell? ⟨T,1,none⟩=some (.pointer (some ⟨M,0,none⟩))∧V.cell? ⟨T,2,none⟩=some (.slice (some ⟨gh,oh,none⟩) m ch)∧V.cell? ⟨gh,oh+ia,none⟩=some (.int .i64 h) from nA HV.out.tw HX.out HLEN.out Uh.out);have K4:(0:Int)≤(ia:Int):=by omega
 have K5:(ia:Int)<(m:Int):=by omega
 have HC:=zh (CS HV.out hm hK hia hg deep);rw[hh] at HC;have HG:=zh hg;have H0:=zh h0;have aad:=zh HV.out.K6;have aae:=zh HV.out.mv;have Vj:=zh HV.out.tv;have uJ:=zh (show ∀ k,(Value.slice (some ⟨gh,oh,none⟩) hs.length ch).ownBlock=some k→k<w.heap.size from fun k hk=>(H.tw.row.lt k hk).2);have HTL:=zh (show T<w.heap.size from H.tw.var.lt);clear H hb1 hX1 dS hcs hg h0;refine (callsIn_wide (n:=8)).1 ?_;refine callsIn_of_wp_marks Tryz.func43 rfl trivial ?_ rfl;refine wpIn_wide.2 ?_;simp only[Tryz.ntmps43,pT,Nat.reduceAdd,Nat.reduceSub];go_wp2_with fail;(try rw[hw1]);(try go_wp2_with fail);refine wp_region_noPanic ?_;refine wp_region_held_drew (S:=(fun W=>W.cell? ⟨w.heap.size,0,none⟩=some (.pointer (some ⟨T,0,none⟩))∧W.cell? ⟨T,0,none⟩=some (.pointer (some ⟨B,0,none⟩))∧W.cell? ⟨T,1,none⟩=some (.pointer (some ⟨M,0,none⟩))∧W.cell? ⟨T,2,none⟩=some (.slice (some ⟨gh,oh,none⟩) m ch)∧W.cell? ⟨gh,oh+ia,none⟩=some (.int .i64 h))) (by kernel_rfl) ?_ (fun ah=>?_)
 ·exact (by rw[hV];exact gV.out)
 rw[hV] at ah ⊢;refine bn [0,1,2,3,4,5,6,7,8,9,10,11] ?_;iterate 12 (refine cZ ?_;try simp only[pS])
 refine bq ?_;refine bG 12 fun K hK=>?_;go_simp;refine HC.out.mono ?_;rintro e w3 ⟨h',E,rfl,hE,ht3,oF,Ep,hM⟩;obtain hE1:E=0:=by rcases hE with ⟨-,-,a⟩ | ⟨a,-⟩;exact absurd a H0.out;exact a
 subst hE1;have eU:=zh (HX.out.turns ht3 (Vj.out.aV HX.out (by decide) (by decide) (by decide)));have jA:=zh (show w3.cell? ⟨w.heap.size,0,none⟩=some (.pointer (some ⟨T,0,none⟩))∧w3.cell? ⟨T,0,none⟩=some (.pointer (some ⟨B,0,none⟩))∧w3.cell? ⟨T,1,none⟩=some (.pointer (some ⟨M,0,none⟩))∧w3.cell? ⟨T,2,none⟩=some (.slice (some ⟨gh,oh,none⟩) m ch)∧w3.cell? ⟨gh,oh+ia,none⟩=some (.int .i64 h) from nA oF eU.out HLEN.out Uh.out);have OH:=zh oF;have qV:=zh Ep;have HM:=zh (hM w3 (Below.refl _ _));clear hE ht3 oF Ep hM HC;refine hK.out _ _ (jA.out) fun ah=>?_;clear hK K;(try simp only[pS]);refine bn [13,14,15,16,17] ?_;iterate 5 (refine cZ ?_;try simp only[pS])
 refine bq ?_;refine eY ?_;obtain⟨t3,c0,c1,c2,-⟩:=jA.out;obtain⟨k0,-⟩:=qV.out.cell;obtain⟨AM,cM,hvM⟩:=qV.out.form;subst hvM;have dZ:=zh (bX bM M m _ f ia w3 qV.out hia (by omega));rw[HG.out] at dZ;go_wp2_with fail;refine dZ.out.mono ?_;rintro e w4 ⟨rfl,hw4⟩;rw[hw4];clear hw4;go_wp2_with fail;refine HM.out.mono ?_;rintro e w4 ⟨rfl,CU,hcase⟩;obtain⟨vs',dw,dP,n',aY,k,fr',iK,f',g',hk,⟨r,hr⟩,wf4,tv4,so4,hg4,mv4,tw4,hkm,hap,hx4⟩:=(show XZ base bM T B M b s (.slice (some ⟨gh,oh,none⟩) hs.length ch) m hs K h' w4 from by rcases hcase with ⟨h1,-⟩ | ⟨-,h1⟩;exact absurd h1 (by decide);exact h1)
 have bI:=eU.out.turns CU (qV.out.nf eU.out (by decide) (by decide) (by decide) (by decide));have hs4:w.heap.size<w4.heap.size:=bI.lt;have t4:w4.cell? ⟨w.heap.size,0,none⟩=some (.pointer (some ⟨T,0,none⟩)):=bI.cell 0;have d0:w4.cell? ⟨T,0,none⟩=some (.pointer (some ⟨B,0,none⟩)):=tw4.var.cell 0;clear CU hcase t3 c0 c1 c2 k0;have hh':=(bH so4 (h:=h') (by rw[aK];exact hg4)).1;have hL:=LS.made (h:=h') tv4;have hseq:=zN so4 wf4 hh' 7 (by omega) _ hL;have zO:=zh (wQ B h' w4);have hszW:((w4.alloc (.cells #[.pointer (some ⟨B,0,none⟩)] 37)).alloc (.cells #[.int .i64 h'] 3)).heap.size=w4.heap.size+2:=by simp
 have hbW:Below w4.heap.size w4 ((w4.alloc (.cells #[.pointer (some ⟨B,0,none⟩)] 37)).alloc (.cells #[.int .i64 h'] 3)):=((Below.refl _ w4).alloc (Nat.le_refl _) _).alloc (by simp) _;have HK:=zh (And.intro hk (And.intro hr (And.intro hkm hap)));have OI:=zh mv4;have Jc:=zh tw4;have Vk:=zh bI;have X0:=zh tv4.lt;have qm:=zh mv4.lt;have Ru:=zh hx4;clear hk hr hkm hap mv4 tw4 bI hx4 tv4 HM jA;go_wp2_with fail;refine zO.out.mono ?_;rintro e w' ⟨rfl,hw'⟩;rw[←hw'] at hL hszW hbW hseq;clear hw' zO t4 d0;have HLX:=zh hL;have dM:=Vk.out.below hbW Vk.out.lt;have Vl:=Jc.out.below hbW;have Rv:=OI.out.below hbW;have uo:=zh hbW;clear hL hbW;go_wp2_with fail;refine (wpIn_wide (n:=8)).1 ?_;obtain⟨i0,hi,hz0,hz1,hz2⟩:=info_parts vo;have abK:=uo.out.size;have X3:=HTL.out;have HCW:Hid (CW base bM T B M w.heap.size b s h' (hof hs 0) vs' dw dP (.slice (some ⟨gh,oh,none⟩) hs.length ch) n' aY (m+k) fr' iK f' g' w4 w' hs [] (.slice (some ⟨gh,oh,none⟩) hs.length ch) w'):=zh ⟨by rw[List.append_nil];exact Vl,HLX.out,dM,Rv,.of_below uo.out,fun k hk=>.inl hk,Nat.le_refl _⟩;clear dM Vl Rv;refine wpIn_rangeFunc_ownF (w:=w') rfl (by decide) (gf:=130) (lb:=#[.pointer (some ⟨w4.heap.size,0,none⟩),.pointer (some ⟨w4.heap.size+1,0,none⟩)]) rfl trivial (enters_of Tryz.func130 (by kernel_rfl) rfl) hseq LS.qW (LS.uq _) (Below.refl _ _) (fun _=>rfl)
  (fun pre W=>∃ lV,CW base bM T B M w.heap.size b s h' (hof hs 0) vs' dw dP (.slice (some ⟨gh,oh,none⟩) hs.length ch) n' aY (m+k) fr' iK f' g' w4 w' hs (pre.map (·.1)) lV W) (fun _ _ _=>False)
  ?hI ?hIx ⟨_,HCW.out⟩ (fun x=>{ tmps:=#[.pointer (some ⟨T,0,none⟩),.int .i64 ↑ia,.bool deep,.pointer (some ⟨w.heap.size,0,none⟩),undef,undef,.bool false,.int .i64 h',.int .i64 0,.int .i64 ↑m,.int .i64 0,.int .i64 x.1,.tuple #[.int .i64 h',.int .i64 0],.pointer (some ⟨T,0,none⟩),.pointer (some ⟨T,0,none⟩),.pointer (some ⟨T,0,none⟩),.pointer (some ⟨B,0,none⟩),.pointer (some ⟨T,0,none⟩),.pointer (some ⟨T,0,none⟩),.pointer (some ⟨T,2,none⟩),.slice (some ⟨gh,oh,none⟩) m ch,.int .i64 ↑ia,.pointer (some ⟨gh,oh+ia,none⟩),.int .i64 h,.bool deep,.tuple #[.int .i64 h',.int .i64 0],.int .i64 h',.int .i64 0,.pointer (some ⟨T,0,none⟩),.pointer (some ⟨T,0,none⟩),.pointer (some ⟨T,1,none⟩),.pointer (some ⟨M,0,none⟩),.int .i64 ↑ia,.bool true,.bool false,undef,undef,undef,undef,undef,undef,.pointer (some ⟨T,0,none⟩),.pointer (some ⟨T,0,none⟩),.pointer (some ⟨T,1,none⟩),.pointer (some ⟨M,0,none⟩),.pointer (some ⟨M,0,none⟩),.pointer (some ⟨M,0,none⟩),.slice AM m cM,.int .i64 ↑m,.pointer (some ⟨T,0,none⟩),.pointer (some ⟨T,0,none⟩),.pointer (some ⟨T,1,none⟩),.pointer (some ⟨M,0,none⟩),.int .i64 ↑ia,.bool deep,.int .i64 0,.int .i64 0,.int .i64 0,.bool false,.bool false,.int .i64 0,.bool false,.bool false,undef,undef,undef,undef,undef,undef,undef,.pointer (some ⟨T,0,none⟩),.pointer (some ⟨T,0,none⟩),.pointer (some ⟨T,0,none⟩),.pointer (some ⟨B,0,none⟩),.int .i64 h',.func (.func 130) #[] #[.pointer (some ⟨w4.heap.size,0,none⟩),.pointer (some ⟨w4.heap.size+1,0,none⟩)],.int .i64 x.1,undef,undef,undef,undef,undef,undef,undef,undef,undef,undef,undef,undef,undef,undef,undef,undef,undef,undef,undef,undef,undef,undef,undef,undef,undef,undef,undef,undef,undef,undef,undef,undef,undef,undef,undef],defers:=[] }) ?assign ?body ?done ?stop
 case hI=>
  rintro pre W W' row ⟨lV,hC⟩ hg hr;exact⟨lV,hC.others (by omega) (fun k hk=>by have:=(qm.out k hk).2;omega) (by omega) hg (fun r e=>⟨by have:=(hr r e).1;omega,(hr r e).2⟩)⟩
 case hIx=>intro c pre W W' row h _ _;exact h
 case assign=>
  intro l x W K hK
  gi_wp2
  first | exact hK | simpa using hK
 case body=>
  rintro l pre x W ⟨lV,hC⟩ hlen;obtain⟨A',c',rfl⟩:=hC.tw.row.form;obtain⟨L,hL⟩:=eX ((hs++pre.map (·.1)).length)
  have hLl:L≤1000:=by
   rw[←hL,List.length_append,List.length_map,HLEN.out];have:=HK.out.1;have:=HK.out.2.2.1;omega
  have HL:=zh hL;rw[hL] at hC;obtain⟨V,hV⟩:=eX (W.drew)
  have dS:Below W.heap.size W V:=lW hV;have hCV:=hC.drew dS;obtain⟨WA,Ce⟩:∃ x',V.alloc (.cells #[.int .i64 x.1] 3)=x':=⟨_,rfl⟩
  have Ui:Below V.heap.size V WA:=fI Ce;have hCA:=hCV.drew Ui;have s5:=jh V 3 (.int .i64 x.1);rw[Ce] at s5;have hrA:=hCA.tw.row;rw[hL] at hrA;have Uj:=zh (fun (v2:Value) (w2:World) (g:WA.grownBy w2 (Value.slice A' L c').ownBlock) (o:TR w2 0 3 1 v2 ((hs++pre.map (·.1)).length+1) (ints (hs++pre.map (·.1)++[x.1]))) (f:mP WA (.slice A' L c') v2)=>CW.push hC (by have:=Vk.out.lt;omega) ⟨by omega,by omega⟩ (by omega) (fun k hk=>HK.out.2.2.2 k hk) (fun k hk=>by rcases hk with hk | hk;exact (X0.out k hk).2;exact (qm.out k hk).2) (fun k hk=>by have:=uJ.out k hk;omega) (dS.trans (Ui.mono dS.size)) g o f);have a0:V.cell? ⟨w.heap.size,0,none⟩=some (.pointer (some ⟨T,0,none⟩)):=hCV.box.cell 0;have a1:V.cell? ⟨T,2,none⟩=some (.slice A' L c'):=hCV.tw.var.cell 2;have b0:WA.cell? ⟨w.heap.size,0,none⟩=some (.pointer (some ⟨T,0,none⟩)):=hCA.box.cell 0;have b1:WA.cell? ⟨T,2,none⟩=some (.slice A' L c'):=hCA.tw.var.cell 2;clear hC hCV hCA dS Ui hL
  gi_wp2_with fail
  refine wpIn_region_any (by kernel_rfl) ?_;(try (change wpAnyIn _ _ _ _ _ _ _ _ _ (World.drew _)));(try rw[hV]);apply gu
  ·intro mE;apply gu
   ·intro uw;apply gu
    ·intro oG;apply gu
     ·intro oH;apply gu
      ·intro xO;apply gu
       ·intro xP;apply gu
        ·intro qX;apply gu
         ·intro qY;apply gu
          ·intro xQ;apply gu
           ·intro CV;apply gu
            ·intro CX;apply gu
             ·intro Mx;apply gu
              ·intro wR;apply gu
               ·intro wS;apply gu
                ·intro CY;apply gu
                 ·intro K7;apply gu
                  ·intro K8;apply gu
                   ·intro RL;apply gu
                    ·intro K9;apply gu
                     ·intro Er;apply gu
                      ·intro La;apply gu
                       ·intro X4;apply gu
                        ·intro Uk;apply gu
                         ·intro X5;apply gu
                          ·intro Ul;apply gu
                           ·intro Um;apply gu
                            ·intro KY5;apply gu
                             ·intro KY1;apply gu
                              ·intro KY0;refine wpAnyIn_ready (rs:=[0,1,5]) (by kernel_rfl) (by simp) ?_;refine AllReadyIn.cons rfl (fun K hK=>?_) (AllReadyIn.cons rfl (fun K hK=>?_) (AllReadyIn.cons rfl (fun K hK=>?_) AllReadyIn.nil))
                               ·go_simp;refine hK _ _ ?_;clear hK K;(try simp only[pS]);exact KY0
                               ·go_simp;refine hK _ _ ?_;clear hK K;(try simp only[pS]);exact KY1
                               ·go_simp;refine hK _ _ ?_;clear hK K;(try simp only[pS]);exact KY5
                              ·refine Jd 1 5 (fun K hK=>?_) fun K hK=>?_
                               ·go_simp;refine hK _ _ ?_;clear hK K;(try simp only[pS]);exact Um
                               ·go_simp;refine hK _ _ ?_;clear hK K;(try simp only[pS]);exact Ul
                             ·refine wpAnyIn_ready (rs:=[0,2,5]) (by kernel_rfl) (by simp) ?_;refine AllReadyIn.cons rfl (fun K hK=>?_) (AllReadyIn.cons rfl (fun K hK=>?_) (AllReadyIn.cons rfl (fun K hK=>?_) AllReadyIn.nil))
                              ·go_simp;refine hK _ _ ?_;clear hK K;(try simp only[pS]);exact Um
                              ·go_simp;refine hK _ _ ?_;clear hK K;(try simp only[pS]);exact X5
                              ·go_simp;refine hK _ _ ?_;clear hK K;(try simp only[pS]);exact Uk
                            ·refine wpAnyIn_ready (rs:=[0,1,6]) (by kernel_rfl) (by simp) ?_;refine AllReadyIn.cons rfl (fun K hK=>?_) (AllReadyIn.cons rfl (fun K hK=>?_) (AllReadyIn.cons rfl (fun K hK=>?_) AllReadyIn.nil))
                             ·go_simp;refine hK _ _ ?_;clear hK K;(try simp only[pS]);exact Ul
                             ·go_simp;refine hK _ _ ?_;clear hK K;(try simp only[pS]);exact Uk
                             ·go_simp;(try rw[Ce]);refine hK _ _ ?_;clear hK K;(try simp only[pS]);exact X4
                           ·refine Jd 2 5 (fun K hK=>?_) fun K hK=>?_
                            ·go_simp;refine hK _ _ ?_;clear hK K;(try simp only[pS]);exact La
                            ·go_simp;refine hK _ _ ?_;clear hK K;(try simp only[pS]);exact Er
                          ·refine Jd 1 6 (fun K hK=>?_) fun K hK=>?_
                           ·go_simp;refine hK _ _ ?_;clear hK K;(try simp only[pS]);exact Er
                           ·go_simp;(try rw[Ce]);refine hK _ _ ?_;clear hK K;(try simp only[pS]);exact K9
                         ·refine wpAnyIn_ready (rs:=[0,3,5]) (by kernel_rfl) (by simp) ?_;refine AllReadyIn.cons rfl (fun K hK=>?_) (AllReadyIn.cons rfl (fun K hK=>?_) (AllReadyIn.cons rfl (fun K hK=>?_) AllReadyIn.nil))
                          ·go_simp;refine hK _ _ ?_;clear hK K;(try simp only[pS]);exact La
                          ·go_simp;refine hK _ _ ?_;clear hK K;(try simp only[pS]);exact RL
                          ·go_simp;refine hK _ _ ?_;clear hK K;(try simp only[pS]);exact K8
                        ·refine wpAnyIn_ready (rs:=[0,2,6]) (by kernel_rfl) (by simp) ?_;refine AllReadyIn.cons rfl (fun K hK=>?_) (AllReadyIn.cons rfl (fun K hK=>?_) (AllReadyIn.cons rfl (fun K hK=>?_) AllReadyIn.nil))
                         ·go_simp;refine hK _ _ ?_;clear hK K;(try simp only[pS]);exact Er
                         ·go_simp;refine hK _ _ ?_;clear hK K;(try simp only[pS]);exact K8
                         ·go_simp;(try rw[Ce]);refine hK _ _ ?_;clear hK K;(try simp only[pS]);exact K7
                       ·refine Jd 0 1 (fun K hK=>?_) fun K hK=>?_
                        ·go_simp;refine hK _ _ ?_;clear hK K;(try simp only[pS]);exact K9
                        ·go_simp;refine hK _ _ ?_;clear hK K;(try simp only[pS]);exact K7
                      ·refine Jd 3 5 (fun K hK=>?_) fun K hK=>?_
                       ·go_simp;refine hK _ _ ?_;clear hK K;(try simp only[pS]);exact CY
                       ·go_simp;refine hK _ _ ?_;clear hK K;(try simp only[pS]);exact wS
                     ·refine Jd 2 6 (fun K hK=>?_) fun K hK=>?_
                      ·go_simp;refine hK _ _ ?_;clear hK K;(try simp only[pS]);exact wS
                      ·go_simp;(try rw[Ce]);refine hK _ _ ?_;clear hK K;(try simp only[pS]);exact wR
                    ·refine Lb 1 fun K hK=>?_
                     ·go_simp;refine hK _ _ ?_;clear hK K;(try simp only[pS]);exact wR
                   ·refine wpAnyIn_ready (rs:=[0,4,5]) (by kernel_rfl) (by simp) ?_;refine AllReadyIn.cons rfl (fun K hK=>?_) (AllReadyIn.cons rfl (fun K hK=>?_) (AllReadyIn.cons rfl (fun K hK=>?_) AllReadyIn.nil))
                    ·go_simp;refine hK _ _ ?_;clear hK K;(try simp only[pS]);exact CY
                    ·go_simp;refine hK _ _ ?_;clear hK K;(try simp only[pS]);exact Mx
                    ·go_simp;refine hK _ _ ?_;clear hK K;(try simp only[pS]);exact CX
                  ·refine wpAnyIn_ready (rs:=[0,3,6]) (by kernel_rfl) (by simp) ?_;refine AllReadyIn.cons rfl (fun K hK=>?_) (AllReadyIn.cons rfl (fun K hK=>?_) (AllReadyIn.cons rfl (fun K hK=>?_) AllReadyIn.nil))
                   ·go_simp;refine hK _ _ ?_;clear hK K;(try simp only[pS]);exact wS
                   ·go_simp;refine hK _ _ ?_;clear hK K;(try simp only[pS]);exact CX
                   ·go_simp;(try rw[Ce]);refine hK _ _ ?_;clear hK K;(try simp only[pS]);exact CV
                 ·refine Jd 0 2 (fun K hK=>?_) fun K hK=>?_
                  ·go_simp;refine hK _ _ ?_;clear hK K;(try simp only[pS]);exact wR
                  ·go_simp;refine hK _ _ ?_;clear hK K;(try simp only[pS]);exact CV
                ·refine Jd 4 5 (fun K hK=>?_) fun K hK=>?_
                 ·go_simp;refine hK _ _ ?_;clear hK K;(try simp only[pS]);exact xQ
                 ·go_simp;refine hK _ _ ?_;clear hK K;(try simp only[pS]);exact qY
               ·refine Jd 3 6 (fun K hK=>?_) fun K hK=>?_
                ·go_simp;refine hK _ _ ?_;clear hK K;(try simp only[pS]);exact qY
                ·go_simp;(try rw[Ce]);refine hK _ _ ?_;clear hK K;(try simp only[pS]);exact qX
              ·refine Lb 2 fun K hK=>?_
               ·go_simp;refine hK _ _ ?_;clear hK K;(try simp only[pS]);exact qX
             ·refine Jd 0 5 (fun K hK=>?_) fun K hK=>?_
              ·go_simp;refine hK _ _ ?_;clear hK K;(try simp only[pS]);exact xQ
              ·go_simp;refine hK _ _ ?_;clear hK K;(try simp only[pS]);exact xP
            ·refine wpAnyIn_ready (rs:=[0,4,6]) (by kernel_rfl) (by simp) ?_;refine AllReadyIn.cons rfl (fun K hK=>?_) (AllReadyIn.cons rfl (fun K hK=>?_) (AllReadyIn.cons rfl (fun K hK=>?_) AllReadyIn.nil))
             ·go_simp;refine hK _ _ ?_;clear hK K;(try simp only[pS]);exact qY
             ·go_simp;refine hK _ _ ?_;clear hK K;(try simp only[pS]);exact xP
             ·go_simp;(try rw[Ce]);refine hK _ _ ?_;clear hK K;(try simp only[pS]);exact xO
           ·refine Jd 0 3 (fun K hK=>?_) fun K hK=>?_
            ·go_simp;refine hK _ _ ?_;clear hK K;(try simp only[pS]);exact qX
            ·go_simp;refine hK _ _ ?_;clear hK K;(try simp only[pS]);exact xO
          ·refine Lb 5 fun K hK=>?_
           ·go_simp;refine hK _ _ ?_;clear hK K;(try simp only[pS]);exact oH
         ·refine Jd 4 6 (fun K hK=>?_) fun K hK=>?_
          ·go_simp;refine hK _ _ ?_;clear hK K;(try simp only[pS]);exact oH
          ·go_simp;(try rw[Ce]);refine hK _ _ ?_;clear hK K;(try simp only[pS]);exact oG
        ·refine Lb 3 fun K hK=>?_
         ·go_simp;refine hK _ _ ?_;clear hK K;(try simp only[pS]);exact oG
       ·refine Jd 0 6 (fun K hK=>?_) fun K hK=>?_
        ·go_simp;refine hK _ _ ?_;clear hK K;(try simp only[pS]);exact oH
        ·go_simp;(try rw[Ce]);refine hK _ _ ?_;clear hK K;(try simp only[pS]);exact uw
      ·refine Jd 0 4 (fun K hK=>?_) fun K hK=>?_
       ·go_simp;refine hK _ _ ?_;clear hK K;(try simp only[pS]);exact oG
       ·go_simp;refine hK _ _ ?_;clear hK K;(try simp only[pS]);exact uw
     ·refine Lb 6 fun K hK=>?_
      ·go_simp;(try rw[Ce]);refine hK _ _ ?_;clear hK K;(try simp only[pS]);exact mE
    ·refine Lb 4 fun K hK=>?_
     ·go_simp;refine hK _ _ ?_;clear hK K;(try simp only[pS]);exact mE
   ·refine Jd 0 7 (fun K hK=>?_) fun K hK=>?_
    ·go_simp;refine hK _ _ ?_;clear hK K;(try simp only[pS]);exact mE
    ·refine nH rfl _ _ 39 rfl 0 3 i0 (.int .i64 0) 1 8 Tryz.underlying39 hi hz0 hz1 hz2 rfl (by decide) _ L (ints (hs++pre.map (·.1))) rfl hrA _ 1 (ints [x.1]) rfl rfl (.inr ⟨_,_,rfl,s5⟩) (eB _) (by unfold maxLen;omega) (by omega) (Nat.zero_le _) ?_;intro v2 w2 o2 g2 f2;rw[←gD,←HL.out] at o2;obtain⟨hW2,hC2,hB2,hko,hkp⟩:=Uj.out v2 w2 g2 o2 f2;rw[HL.out] at o2;obtain⟨A2,c2,rfl⟩:=o2.form;have e0:w2.cell? ⟨T,2,none⟩=some (.slice A' L c'):=hW2.cell 2;have e1:=hW2.free 2;have e2:w2.cell? ⟨w.heap.size,0,none⟩=some (.pointer (some ⟨T,0,none⟩)):=hB2.cell 0;have RN:=zh hC2;have X6:=zh hko;have RO:=zh hkp;clear o2 g2 f2 hW2 hC2 hB2 hko hkp;refine hK _ _ ?_;clear hK K;(try simp only[pS]);refine Lb 0 fun K hK=>?_;go_simp;refine hK _ _ ?_;clear hK K;(try simp only[pS]);refine Lb 8 fun K hK=>?_;go_simp;refine hK _ _ ?_;clear hK K;(try simp only[pS]);refine Lb 9 fun K hK=>?_;go_simp;refine hK _ _ ?_;clear hK K;(try simp only[pS]);refine Lb 10 fun K hK=>?_;go_simp;refine hK _ _ ?_;clear hK K;(try simp only[pS]);refine wpAnyIn_done (by kernel_rfl) ?_ _;go_simp;refine⟨X6.out,RO.out,?_⟩;exact⟨_,by rw[List.map_append];exact RN.out⟩
  ·refine Lb 7 fun K hK=>?_;refine nH rfl _ _ 39 rfl 0 3 i0 (.int .i64 0) 1 8 Tryz.underlying39 hi hz0 hz1 hz2 rfl (by decide) _ L (ints (hs++pre.map (·.1))) rfl hrA _ 1 (ints [x.1]) rfl rfl (.inr ⟨_,_,rfl,s5⟩) (eB _) (by unfold maxLen;omega) (by omega) (Nat.zero_le _) ?_;intro v2 w2 o2 g2 f2;rw[←gD,←HL.out] at o2;obtain⟨hW2,hC2,hB2,hko,hkp⟩:=Uj.out v2 w2 g2 o2 f2;rw[HL.out] at o2;obtain⟨A2,c2,rfl⟩:=o2.form;have e0:w2.cell? ⟨T,2,none⟩=some (.slice A' L c'):=hW2.cell 2;have e1:=hW2.free 2;have e2:w2.cell? ⟨w.heap.size,0,none⟩=some (.pointer (some ⟨T,0,none⟩)):=hB2.cell 0;have RN:=zh hC2;have X6:=zh hko;have RO:=zh hkp;clear o2 g2 f2 hW2 hC2 hB2 hko hkp;refine hK _ _ ?_;clear hK K;(try simp only[pS]);refine Lb 8 fun K hK=>?_;go_simp;refine hK _ _ ?_;clear hK K;(try simp only[pS]);refine Lb 9 fun K hK=>?_;go_simp;refine hK _ _ ?_;clear hK K;(try simp only[pS]);refine Lb 10 fun K hK=>?_;go_simp;refine hK _ _ ?_;clear hK K;(try simp only[pS]);refine wpAnyIn_done (by kernel_rfl) ?_ _;go_simp;refine⟨X6.out,RO.out,?_⟩;exact⟨_,by rw[List.map_append];exact RN.out⟩
 case done=>
  rintro D xs W hD rfl ⟨lV,hC⟩ hK;rw[List.attach_map_subtype_val] at hC;have hr:=HK.out.2.1;have hk1:0<k:=by rw[←HK.out.1,hr];simp
  have hl5:(hs++Tr.ak g' h').length=m+k:=by rw[List.length_append,HLEN.out,HK.out.1]
  have hi5:(hs++Tr.ak g' h')[m]?=some h':=by rw[List.getElem?_append_right (by rw[HLEN.out];exact Nat.le_refl _),HLEN.out,Nat.sub_self,hr];rfl
  obtain⟨A5,c5,rfl⟩:=hC.tw.row.form;have hrow:=hC.tw.row;rw[hl5] at hrow;obtain⟨g5,o5,rfl,-,-,-,-⟩:=hrow.cells (by omega);have hc5:=fun (X:World) (hX:Below W.heap.size W X)=>(hrow.below hX).cellAt m (.int .i64 h') (by omega) (eu hi5);rw[hl5] at hC;obtain⟨A6,c6,rfl⟩:=hC.mv.form;obtain⟨W5,FK⟩:=eX (W.drew)
  have hb5:Below W.heap.size W W5:=lW FK;have Xv:=hC.drew hb5;have Vm:W5.heap[D]?=some (.deferred (some [])):=by rw[←FK];exact hK
  have HK5:=zh Vm;have nV:=zh (show W5.cell? ⟨w.heap.size,0,none⟩=some (.pointer (some ⟨T,0,none⟩))∧W5.cell? ⟨T,1,none⟩=some (.pointer (some ⟨M,0,none⟩))∧W5.cell? ⟨T,2,none⟩=some (.slice (some ⟨g5,o5,none⟩) (m+k) c5)∧W5.cell? ⟨M,0,none⟩=some (.slice A6 (m+k) c6)∧W5.cell? ⟨g5,o5+m,none⟩=some (.int .i64 h') from⟨Xv.box.cell 0,Xv.tw.var.cell 1,Xv.tw.var.cell 2,Xv.mv.var.cell 0,hc5 W5 hb5⟩);have hCF:=Xv.others (W':=W5.putObj D (.deferred none)) (by omega) (fun k hk=>by have:=(qm.out k hk).2;omega) (by omega) (grownBy_putObj' W5 D (.deferred none)) (fun r e=>by cases e;exact⟨by omega,_,Vm,rfl⟩);have bC:=zh (Ru.out _ _ hCF.tw hCF.tu (fun k hk=>by rcases hCF.fr k hk with e | e;exact .inl e;exact .inr (by omega)));have q0:(0:Int)≤(m:Int):=by omega
  have q1:(m:Int)<(m:Int)+(k:Int):=by omega
  have q2:(m:Int)<((m+k:Nat):Int):=by omega
  clear hC Xv hCF hrow hc5 hb5 hk1 hl5 hi5 hr Vm;go_wp2_with fail;refine wp_region_noPanic ?_;refine wp_region_held_drew (S:=(fun W=>W.cell? ⟨w.heap.size,0,none⟩=some (.pointer (some ⟨T,0,none⟩))∧W.cell? ⟨T,1,none⟩=some (.pointer (some ⟨M,0,none⟩))∧W.cell? ⟨T,2,none⟩=some (.slice (some ⟨g5,o5,none⟩) (m+k) c5)∧W.cell? ⟨M,0,none⟩=some (.slice A6 (m+k) c6)∧W.cell? ⟨g5,o5+m,none⟩=some (.int .i64 h'))) (by kernel_rfl) ?_ (fun ah=>?_)
  ·exact (by rw[FK];exact nV.out)
  rw[FK] at ah ⊢;refine bn [0,1,2,3,4,5,6,7,8,9,10,11,12,13,14,15,16,17,18,19,20,21,22,23,24,25] ?_;iterate 26 (refine cZ ?_;try simp only[pS])
  refine bq ?_;refine eY ?_;go_wp2_with fail;refine⟨by simp,.inl ⟨_,_,rfl,run_takeDeferred HK5.out,?_⟩⟩;refine⟨_,results_tmp rfl _ _ _,?_⟩;exact⟨_,_,_,_,_,_,_,_,_,_,_,_,rfl,bC.out⟩
 case stop=>
  rintro D c pre W _ _ h _;exact h.elim
end
end Go.Proofs.YtmhjlifmcadefaaGreatDoor
