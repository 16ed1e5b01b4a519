/- Part of a proof about trees. -/
import Derived.BigQuiet
import Derived.Deep.RegionHeld3
import Derived.Test.YtjpbhkcjmdndjaaGreatDoorGNTwq
set_option linter.unusedVariables false
set_option linter.unusedSimpArgs false
set_option linter.unusedSectionVars false
set_option maxHeartbeats 8000000
set_option maxRecDepth 100000
namespace Go.Proofs.YtjpbhkcjmdndjaaGreatDoor
section
open Go.RowKit Go.Shelf
variable [mY]
attribute [local go_sem] Oper.semAt_some
theorem gG {G X:Prop} (use:X→G) (k:X):G:=use k
theorem nI {w:World} {T B M gh oh ch m ia X:Nat} {hs:List Int} {h:Int} (H:pF w T B M (.slice (some ⟨gh,oh,none⟩) hs.length ch) hs) (hX:Whole w X #[.pointer (some ⟨T,0,none⟩)] 25) (hl:hs.length=m) (hi:hs[ia]?=some h):w.cell? ⟨X,0,none⟩=some (.pointer (some ⟨T,0,none⟩))∧w.cell? ⟨T,0,none⟩=some (.pointer (some ⟨B,0,none⟩))∧w.cell? ⟨T,1,none⟩=some (.pointer (some ⟨M,0,none⟩))∧w.cell? ⟨T,2,none⟩=some (.slice (some ⟨gh,oh,none⟩) m ch)∧w.cell? ⟨gh,oh+ia,none⟩=some (.int .i64 h):=by
 have hlt:=(List.getElem?_eq_some_iff.1 hi).1;rw[←hl];exact⟨hX.cell 0,H.var.cell 0,H.var.cell 1,H.var.cell 2,H.row.cellAt ia _ (by omega) (dP hi)⟩
theorem TR.jX {w:World} {base:Nat} {e:TypeId} {size:Nat} {v:Value} {n:Nat} {xs:List Value} (h:TR w base e size v n xs) {k:Nat} (hk:v.ownBlock=some k):∃ cs t fz,w.heap[k]?=some (.cells cs t fz):=by
 rcases h.2 with ⟨e1,_⟩ | ⟨g,off,cap,cur,e1,_,hg,_⟩
 ·rw[e1] at hk;simp[Value.ownBlock] at hk
 ·rw[e1] at hk;have:g=k:=by simpa [Value.ownBlock] using hk
  rw[←this];exact⟨_,_,_,hg⟩
theorem WV {W W':World} {T B M:Nat} {vh:Value} {hs:List Int} (H:pF W T B M vh hs) (t:Turns (fun k=>k=T∨vh.ownBlock=some k) W W'):KeepsOthers W W':=⟨t.size,fun k o hk hc=>by
 by_cases hf:k=T∨vh.ownBlock=some k
 ·have:∃ cs t fz,W.heap[k]?=some (.cells cs t fz):=by
   rcases hf with rfl | hf
   ·exact⟨_,_,_,H.var⟩
   ·exact H.row.jX hf
  obtain⟨cs,t',fz,e⟩:=this;rw[e] at hk;obtain rfl:=Option.some.inj hk;cases hc
 ·exact (t.block k (Array.getElem?_eq_some_iff.1 hk).1 hf).trans hk⟩
structure CW (base bM T B M X:Nat) (b s:Int) (h' root:Int) (vs' bV dS vh:Value) (n' aW m':Nat) (fr':List Nat) (iR:Int→Tr.Sl) (f':Nat→RS) (g':Tr.G) (w4 w':World) (hs:List Int) (pre:List Int) (l7:Value) (W:World):Prop where
 tw:pF W T B M l7 (hs++pre)
 ls:LS base B w4.heap.size (w4.heap.size+1) b s h' vs' n' (Tr.raw g' iR) bV fr' aW root W
 box:Whole W X #[.pointer (some ⟨T,0,none⟩)] 25
 mv:MV bM W M dS m' f'
 tu:Turns (fun k=>k=T∨vh.ownBlock=some k) w4 W
 fr:∀ k,l7.ownBlock=some k→vh.ownBlock=some k∨w'.heap.size≤k
 sz:w'.heap.size≤W.heap.size
section
variable {base bM T B M X:Nat} {b s h' root:Int} {vs' bV dS vh l7:Value} {n' aW m':Nat} {fr':List Nat} {iR:Int→Tr.Sl} {f':Nat→RS} {g':Tr.G} {w4 w' W W':World} {hs pre:List Int}
theorem CW.others {row:Option Nat} (H:CW base bM T B M X b s h' root vs' bV dS vh n' aW m' fr' iR f' g' w4 w' hs pre l7 W) (hT:T<w'.heap.size) (hM:∀ k,aC M dS m' f' k→k<w'.heap.size) (hw:w4.heap.size≤w'.heap.size) (hg:W.grownBy W' row) (hr:∀ r,row=some r→w'.heap.size≤r∧∃ o:Obj,W.heap[r]?=some o∧o.isCells=false):CW base bM T B M X b s h' root vs' bV dS vh n' aW m' fr' iR f' g' w4 w' hs pre l7 W':=by
 have ht:Turns (fun k=>row=some k) W W':=.aT hg (fun k hk=>hk);refine⟨⟨H.tw.var.turns ht (fun e=>by have:=(hr _ e).1;omega),H.tw.row.turns ht (fun k hk e=>?_)⟩,H.ls.others hg (fun r e=>(hr r e).2),aS H.box hg (fun r e=>(hr r e).2),H.mv.turns ht (fun x hx e=>by have:=hM x hx;have:=(hr _ e).1;omega),H.tu.trans ht (fun _ _ x=>x) (fun k hk e=>by have:=(hr _ e).1;omega),H.fr,Nat.le_trans H.sz ht.size⟩;obtain⟨cs,t,fz,e1⟩:=H.tw.row.jX hk;obtain⟨o,ho,hc⟩:=(hr _ e).2;rw[e1] at ho;obtain rfl:=Option.some.inj ho;cases hc
theorem CW.drew (H:CW base bM T B M X b s h' root vs' bV dS vh n' aW m' fr' iR f' g' w4 w' hs pre l7 W) (hb:Below W.heap.size W W'):CW base bM T B M X b s h' root vs' bV dS vh n' aW m' fr' iR f' g' w4 w' hs pre l7 W':=
 ⟨H.tw.below hb,H.ls.below hb,H.box.below hb H.box.lt,H.mv.below hb,H.tu.trans (.of_below hb (S:=fun _=>False)) (fun _ _ x=>x) (fun _ _ x=>x.elim),H.fr,Nat.le_trans H.sz hb.size⟩
theorem CW.push {x:Int} {WA W2:World} {v2:Value} (H:CW base bM T B M X b s h' root vs' bV dS vh n' aW m' fr' iR f' g' w4 w' hs pre l7 W) (hX:X≠T) (hbt:w4.heap.size≠T∧w4.heap.size+1≠T) (hw':w'.heap.size=w4.heap.size+2)
  (hap:∀ k,vh.ownBlock=some k∨k=T→¬ aD B vs' bV k∧¬ aC M dS m' f' k) (hF:∀ k,aD B vs' bV k∨aC M dS m' f' k→k<w4.heap.size) (hvl:∀ k,vh.ownBlock=some k→k<w4.heap.size)
  (h1:Below W.heap.size W WA) (g:WA.grownBy W2 l7.ownBlock) (o:TR W2 0 3 1 v2 ((hs++pre).length+1) (ints (hs++pre++[x]))) (f:mV WA l7 v2):
  Whole W2 T #[.pointer (some ⟨B,0,none⟩),.pointer (some ⟨M,0,none⟩),l7] 33∧CW base bM T B M X b s h' root vs' bV dS vh n' aW m' fr' iR f' g' w4 w' hs (pre++[x]) v2 (W2.setCell ⟨T,2,none⟩ v2)∧Whole W2 X #[.pointer (some ⟨T,0,none⟩)] 25∧KeepsOthers W (W2.setCell ⟨T,2,none⟩ v2)∧
   (LS base B w4.heap.size (w4.heap.size+1) b s h' vs' n' (Tr.raw g' iR) bV fr' aW root W→LS base B w4.heap.size (w4.heap.size+1) b s h' vs' n' (Tr.raw g' iR) bV fr' aW root (W2.setCell ⟨T,2,none⟩ v2)):=by
 obtain⟨hW,Nz,ht,hv⟩:=pF.pushed H.tw h1 g o f;have hnF:∀ k,(k=T∨l7.ownBlock=some k)→¬ aD B vs' bV k∧¬ aC M dS m' f' k:=by
  intro k hk;have key:(vh.ownBlock=some k∨k=T)∨w'.heap.size≤k:=by
   rcases hk with e | e
   ·exact .inl (.inr e)
   ·rcases H.fr k e with e1 | e1
    ·exact .inl (.inl e1)
    ·exact .inr e1
  rcases key with e | e
  ·exact hap k e
  ·exact⟨fun hf=>by have:=hF k (.inl hf);omega,fun hf=>by have:=hF k (.inr hf);omega⟩
 have hnb:∀ y,(y=w4.heap.size∨y=w4.heap.size+1)→¬ (y=T∨l7.ownBlock=some y):=by
  rintro y hy (e | e)
  ·rcases hy with rfl | rfl
   ·exact hbt.1 e
   ·exact hbt.2 e
  ·rcases H.fr y e with e1 | e1
   ·have:=hvl y e1;omega
   ·omega
 have hls:LS base B w4.heap.size (w4.heap.size+1) b s h' vs' n' (Tr.raw g' iR) bV fr' aW root (W2.setCell ⟨T,2,none⟩ v2):=
  ⟨H.ls.tree.turns ht (fun k hk e=>(hnF k e).1 hk),H.ls.bt.turns ht (hnb _ (.inl rfl)),H.ls.bh.turns ht (hnb _ (.inr rfl))⟩
 have hbx:Whole (W2.setCell ⟨T,2,none⟩ v2) X #[.pointer (some ⟨T,0,none⟩)] 25:=H.box.turns ht (fun e=>by
  rcases e with e | e
  ·exact hX e
  ·exact H.tw.row.unlike H.box (by decide) e)
 refine⟨hW,⟨by rw[←List.append_assoc];exact Nz,hls,hbx,H.mv.turns ht (fun k hk e=>(hnF k e).2 hk),H.tu.trans ht (fun _ _ x=>x) (fun k hk e=>?_),fun k hk=>?_,Nat.le_trans H.sz ht.size⟩,(H.box.below h1 H.box.lt).grown g (fun e=>(H.tw.below h1).row.unlike (H.box.below h1 H.box.lt) (by decide) e.symm),WV H.tw ht,fun _=>hls⟩
 ·rcases e with e | e
  ·exact .inl e
  ·rcases H.fr k e with e1 | e1
   ·exact .inr e1
   ·omega
 ·rcases hv k hk with e | e
  ·exact H.fr k e
  ·exact .inr (Nat.le_trans H.sz e)
end
theorem LB (base bM T B M:Nat) (b s:Int) (vs vf aQ vh:Value) (n live m:Nat) (fr:List Nat) (av:Int→Tr.Sl) (f:Nat→RS) (hs:List Int) (g:Tr.G) (K:Nat) (ia:Nat) (deep:Bool) (w:World) (H:TW w base bM T B M b s vs vf aQ vh n live m fr av f hs g K) (hia:ia<m) (hg:(f ia).gone=true) (hm:m≤300) (hK:K≤60):
  Calls Tryz.prog 32 #[.pointer (some ⟨T,0,none⟩),.int .i64 (ia:Int),.bool deep] w fun e w'=>∃ (vs' bV dS l7:Value) (n' aW m':Nat) (fr':List Nat) (iR:Int→Tr.Sl) (f':Nat→RS) (hs':List Int) (g':Tr.G),e=.returned (.bool true)∧TW w' base bM T B M b s vs' bV dS l7 n' aW m' fr' iR f' hs' g' (K+1):=by
 obtain⟨Ah,ch,rfl⟩:=H.tw.row.form;have hlen:=H.len;have hm0:=H.m0;obtain⟨gh,oh,rfl,-,-,hcs,-⟩:=H.tw.row.cells (by omega);obtain⟨w1,hw1⟩:=eX (w.alloc (.cells #[.pointer (some ⟨T,0,none⟩)] 25))
 have hb1:Below w.heap.size w w1:=gU hw1;have hX1:Whole w1 w.heap.size #[.pointer (some ⟨T,0,none⟩)] 25:=by rw[←hw1];exact Whole.new w _ _
 have hz1:w1.heap.size=w.heap.size+1:=by rw[←hw1];simp
 obtain⟨V,hV⟩:=eX (w1.drew)
 have eH:Below w1.heap.size w1 V:=mW hV;have HB:=zh (hb1.trans (eH.mono hb1.size));have HV:=zh (H.below HB.out);have HX:=zh (hX1.below eH hX1.lt);have HLEN:=zh hlen;obtain⟨h,hh⟩:=eX (hof hs (ia:Int))
 have SQ:Hid (hs[ia]?=some h):=zh (by rw[←hh];exact H.bI hia);have iU:=zh (show V.cell? ⟨w.heap.size,0,none⟩=some (.pointer (some ⟨T,0,none⟩))∧V.cell? ⟨T,0,none⟩=some (.pointer (some ⟨B,0,none⟩))∧V.cell? ⟨T,1,none⟩=some (.pointer (some ⟨M,0,none⟩))∧V.cell? ⟨T,2,none⟩=some (.slice (some ⟨gh,oh,none⟩) m ch)∧V.cell? ⟨gh,oh+ia,none⟩=some (.int .i64 h) from nI HV.out.tw HX.out HLEN.out SQ.out);have Kr:(0:Int)≤(ia:Int):=by omega
 have Kt:(ia:Int)<(m:Int):=by omega
 obtain⟨e1,e2⟩:=H.kL hia hg;have HC:=zh (BS base B b s (hof hs 0) h 6 deep live n (Tr.raw g av) fr vs vf Tr.Bl V HV.out.tv HV.out.so (by rw[←hh];exact HV.out.i64 hia) (by rw[←hh,e1,Tr.bG e2];rfl) (.inl ⟨rfl,rfl⟩));have HG:=zh hg;clear H e1 e2 hb1 hX1 eH hcs hg
 go_enter Tryz.func32,Tryz.ntmps32
 go_wp2_with fail;(try rw[hw1]);(try go_wp2_with fail);refine wp_region_noPanic ?_;refine wp_region_held_drew (S:=(fun W=>W.cell? ⟨w.heap.size,0,none⟩=some (.pointer (some ⟨T,0,none⟩))∧W.cell? ⟨T,0,none⟩=some (.pointer (some ⟨B,0,none⟩))∧W.cell? ⟨T,1,none⟩=some (.pointer (some ⟨M,0,none⟩))∧W.cell? ⟨T,2,none⟩=some (.slice (some ⟨gh,oh,none⟩) m ch)∧W.cell? ⟨gh,oh+ia,none⟩=some (.int .i64 h))) (by kernel_rfl) ?_ (fun ah=>?_)
 ·exact (by rw[hV];exact iU.out)
 rw[hV] at ah ⊢;refine bE [0,1,2,3,4,5,6,7,8,9,10,11] ?_;iterate 12 (refine eY ?_;try simp only[pS])
 refine bF ?_;refine bO 12 fun K hK=>?_;go_simp;refine HC.out.mono ?_;rintro e w3 ⟨rfl,hb3⟩;have HW3:=zh (HV.out.below hb3);have fu:=zh (HX.out.below hb3 HX.out.lt);have jh:=zh (show w3.cell? ⟨w.heap.size,0,none⟩=some (.pointer (some ⟨T,0,none⟩))∧w3.cell? ⟨T,0,none⟩=some (.pointer (some ⟨B,0,none⟩))∧w3.cell? ⟨T,1,none⟩=some (.pointer (some ⟨M,0,none⟩))∧w3.cell? ⟨T,2,none⟩=some (.slice (some ⟨gh,oh,none⟩) m ch)∧w3.cell? ⟨gh,oh+ia,none⟩=some (.int .i64 h) from nI HW3.out.tw fu.out HLEN.out SQ.out);clear hb3;refine hK.out _ _ (jh.out) fun ah=>?_;clear hK K;(try simp only[pS]);refine bE [13,14,15,16,17] ?_;iterate 5 (refine eY ?_;try simp only[pS])
 refine bF ?_;refine gQ ?_;obtain⟨t3,c0,c1,c2,-⟩:=jh.out;have eT:=zh (bX bM M m aQ f ia w3 HW3.out.mv hia (by omega));rw[HG.out] at eT;go_wp2_with fail;refine eT.out.mono ?_;rintro e w4 ⟨rfl,hw4⟩;rw[hw4];clear hw4;go_wp2_with fail
 go_ret
 exact⟨_,_,_,_,_,_,_,_,_,_,_,_,rfl,HW3.out.up⟩
theorem LC (base bM T B M:Nat) (b s:Int) (vs vf aQ vh:Value) (n live m:Nat) (fr:List Nat) (av:Int→Tr.Sl) (f:Nat→RS) (hs:List Int) (g:Tr.G) (K:Nat) (ia:Nat) (deep:Bool) (w:World) (H:TW w base bM T B M b s vs vf aQ vh n live m fr av f hs g K) (hia:ia<m) (hg:(f ia).gone=false) (h0:ia=0) (hm:m≤300) (hK:K≤60):
  Calls Tryz.prog 32 #[.pointer (some ⟨T,0,none⟩),.int .i64 (ia:Int),.bool deep] w fun e w'=>∃ (vs' bV dS l7:Value) (n' aW m':Nat) (fr':List Nat) (iR:Int→Tr.Sl) (f':Nat→RS) (hs':List Int) (g':Tr.G),e=.returned (.bool true)∧TW w' base bM T B M b s vs' bV dS l7 n' aW m' fr' iR f' hs' g' (K+1):=by
 obtain⟨Ah,ch,rfl⟩:=H.tw.row.form;have hlen:=H.len;have hm0:=H.m0;obtain⟨gh,oh,rfl,-,-,hcs,-⟩:=H.tw.row.cells (by omega);obtain⟨w1,hw1⟩:=eX (w.alloc (.cells #[.pointer (some ⟨T,0,none⟩)] 25))
 have hb1:Below w.heap.size w w1:=gU hw1;have hX1:Whole w1 w.heap.size #[.pointer (some ⟨T,0,none⟩)] 25:=by rw[←hw1];exact Whole.new w _ _
 have hz1:w1.heap.size=w.heap.size+1:=by rw[←hw1];simp
 obtain⟨V,hV⟩:=eX (w1.drew)
 have eH:Below w1.heap.size w1 V:=mW hV;have HB:=zh (hb1.trans (eH.mono hb1.size));have HV:=zh (H.below HB.out);have HX:=zh (hX1.below eH hX1.lt);have HLEN:=zh hlen;obtain⟨h,hh⟩:=eX (hof hs (ia:Int))
 have SQ:Hid (hs[ia]?=some h):=zh (by rw[←hh];exact H.bI hia);have iU:=zh (show V.cell? ⟨w.heap.size,0,none⟩=some (.pointer (some ⟨T,0,none⟩))∧V.cell? ⟨T,0,none⟩=some (.pointer (some ⟨B,0,none⟩))∧V.cell? ⟨T,1,none⟩=some (.pointer (some ⟨M,0,none⟩))∧V.cell? ⟨T,2,none⟩=some (.slice (some ⟨gh,oh,none⟩) m ch)∧V.cell? ⟨gh,oh+ia,none⟩=some (.int .i64 h) from nI HV.out.tw HX.out HLEN.out SQ.out);have Kr:(0:Int)≤(ia:Int):=by omega
 have Kt:(ia:Int)<(m:Int):=by omega
 have HC:=zh (BU HV.out hm hK hia hg deep);rw[hh] at HC;have HG:=zh hg;have H0:=zh h0;have aac:=zh HV.out.Ku;have aad:=zh HV.out.mv;have Uh:=zh HV.out.tv;have rD:=zh (show ∀ k,(Value.slice (some ⟨gh,oh,none⟩) hs.length ch).ownBlock=some k→k<w.heap.size from fun k hk=>(H.tw.row.lt k hk).2);have Zt:=zh (show T<w.heap.size from H.tw.var.lt);clear H hb1 hX1 eH hcs hg h0
 go_enter Tryz.func32,Tryz.ntmps32
 go_wp2_with fail;(try rw[hw1]);(try go_wp2_with fail);refine wp_region_noPanic ?_;refine wp_region_held_drew (S:=(fun W=>W.cell? ⟨w.heap.size,0,none⟩=some (.pointer (some ⟨T,0,none⟩))∧W.cell? ⟨T,0,none⟩=some (.pointer (some ⟨B,0,none⟩))∧W.cell? ⟨T,1,none⟩=some (.pointer (some ⟨M,0,none⟩))∧W.cell? ⟨T,2,none⟩=some (.slice (some ⟨gh,oh,none⟩) m ch)∧W.cell? ⟨gh,oh+ia,none⟩=some (.int .i64 h))) (by kernel_rfl) ?_ (fun ah=>?_)
 ·exact (by rw[hV];exact iU.out)
 rw[hV] at ah ⊢;refine bE [0,1,2,3,4,5,6,7,8,9,10,11] ?_;iterate 12 (refine eY ?_;try simp only[pS])
 refine bF ?_;refine bO 12 fun K hK=>?_;go_simp;refine HC.out.mono ?_;rintro e w3 ⟨h',E,rfl,hE,ht3,oM,Du,hM⟩;obtain⟨hE1,hE2⟩:E=10∧h'=0:=by rcases hE with ⟨a,b,-⟩ | ⟨-,c⟩;exact⟨a,b⟩;exact absurd H0.out c
 subst hE1;subst hE2;have fu:=zh (HX.out.turns ht3 (Uh.out.aU HX.out (by decide) (by decide) (by decide)));have jh:=zh (show w3.cell? ⟨w.heap.size,0,none⟩=some (.pointer (some ⟨T,0,none⟩))∧w3.cell? ⟨T,0,none⟩=some (.pointer (some ⟨B,0,none⟩))∧w3.cell? ⟨T,1,none⟩=some (.pointer (some ⟨M,0,none⟩))∧w3.cell? ⟨T,2,none⟩=some (.slice (some ⟨gh,oh,none⟩) m ch)∧w3.cell? ⟨gh,oh+ia,none⟩=some (.int .i64 h) from nI oM fu.out HLEN.out SQ.out);have NT:=zh oM;have rE:=zh Du;have HM:=zh (hM w3 (Below.refl _ _));clear hE ht3 oM Du hM HC;refine hK.out _ _ (jh.out) fun ah=>?_;clear hK K;(try simp only[pS]);refine bE [13,14,15,16,17] ?_;iterate 5 (refine eY ?_;try simp only[pS])
 refine bF ?_;refine gQ ?_;obtain⟨t3,c0,c1,c2,-⟩:=jh.out;obtain⟨k0,-⟩:=rE.out.cell;obtain⟨AM,cM,WW⟩:=rE.out.form;subst WW;have eT:=zh (bX bM M m _ f ia w3 rE.out hia (by omega));rw[HG.out] at eT;go_wp2_with fail;refine eT.out.mono ?_;rintro e w4 ⟨rfl,hw4⟩;rw[hw4];clear hw4;go_wp2_with fail;refine HM.out.mono ?_;rintro e w4 ⟨rfl,BX,hcase⟩;have HF:=zh (show TW w4 base bM T B M b s vs vf (.slice AM m cM) (.slice (some ⟨gh,oh,none⟩) hs.length ch) n live m fr av f hs g (K+1) from by rcases hcase with ⟨-,-,h1⟩ | ⟨h1,-⟩;exact h1;exact absurd h1 (by decide));clear BX hcase;go_wp2_with fail
 go_ret
 exact⟨_,_,_,_,_,_,_,_,_,_,_,_,rfl,HF.out⟩
theorem LD (base bM T B M:Nat) (b s:Int) (vs vf aQ vh:Value) (n live m:Nat) (fr:List Nat) (av:Int→Tr.Sl) (f:Nat→RS) (hs:List Int) (g:Tr.G) (K:Nat) (ia:Nat) (deep:Bool) (w:World) (H:TW w base bM T B M b s vs vf aQ vh n live m fr av f hs g K) (hia:ia<m) (hg:(f ia).gone=false) (h0:ia≠0) (hm:m≤300) (hK:K≤60):
  Calls Tryz.prog 32 #[.pointer (some ⟨T,0,none⟩),.int .i64 (ia:Int),.bool deep] w fun e w'=>∃ (vs' bV dS l7:Value) (n' aW m':Nat) (fr':List Nat) (iR:Int→Tr.Sl) (f':Nat→RS) (hs':List Int) (g':Tr.G),e=.returned (.bool true)∧TW w' base bM T B M b s vs' bV dS l7 n' aW m' fr' iR f' hs' g' (K+1):=by
 obtain⟨Ah,ch,rfl⟩:=H.tw.row.form;have hlen:=H.len;have hm0:=H.m0;obtain⟨gh,oh,rfl,-,-,hcs,-⟩:=H.tw.row.cells (by omega);obtain⟨w1,hw1⟩:=eX (w.alloc (.cells #[.pointer (some ⟨T,0,none⟩)] 25))
 have hb1:Below w.heap.size w w1:=gU hw1;have hX1:Whole w1 w.heap.size #[.pointer (some ⟨T,0,none⟩)] 25:=by rw[←hw1];exact Whole.new w _ _
 have hz1:w1.heap.size=w.heap.size+1:=by rw[←hw1];simp
 obtain⟨V,hV⟩:=eX (w1.drew)
 have eH:Below w1.heap.size w1 V:=mW hV;have HB:=zh (hb1.trans (eH.mono hb1.size));have HV:=zh (H.below HB.out);have HX:=zh (hX1.below eH hX1.lt);have HLEN:=zh hlen;obtain⟨h,hh⟩:=eX (hof hs (ia:Int))
 have SQ:Hid (hs[ia]?=some h):=zh (by rw[←hh];exact H.bI hia);have iU:=zh (show V.cell? ⟨w.heap.size,0,none⟩=some (.pointer (some ⟨T,0,none⟩))∧V.cell? ⟨T,0,none⟩=some (.pointer (some ⟨B,0,none⟩))∧V.cell? ⟨T,1,none⟩=some (.pointer (some ⟨M,0,none⟩))∧V.cell? ⟨T,2,none⟩=some (.slice (some ⟨gh,oh,none⟩) m ch)∧V.cell? ⟨gh,oh+ia,none⟩=some (.int .i64 h) from nI HV.out.tw HX.out HLEN.out SQ.out);have Kr:(0:Int)≤(ia:Int):=by omega
 have Kt:(ia:Int)<(m:Int):=by omega
 have HC:=zh (BU HV.out hm hK hia hg deep);rw[hh] at HC;have HG:=zh hg;have H0:=zh h0;have aac:=zh HV.out.Ku;have aad:=zh HV.out.mv;have Uh:=zh HV.out.tv;have rD:=zh (show ∀ k,(Value.slice (some ⟨gh,oh,none⟩) hs.length ch).ownBlock=some k→k<w.heap.size from fun k hk=>(H.tw.row.lt k hk).2);have Zt:=zh (show T<w.heap.size from H.tw.var.lt);clear H hb1 hX1 eH hcs hg h0;refine (callsIn_wide (n:=8)).1 ?_;refine callsIn_of_wp_marks Tryz.func32 rfl trivial ?_ rfl;refine wpIn_wide.2 ?_;simp only[Tryz.ntmps32,pT,Nat.reduceAdd,Nat.reduceSub];go_wp2_with fail;(try rw[hw1]);(try go_wp2_with fail);refine wp_region_noPanic ?_;refine wp_region_held_drew (S:=(fun W=>W.cell? ⟨w.heap.size,0,none⟩=some (.pointer (some ⟨T,0,none⟩))∧W.cell? ⟨T,0,none⟩=some (.pointer (some ⟨B,0,none⟩))∧W.cell? ⟨T,1,none⟩=some (.pointer (some ⟨M,0,none⟩))∧W.cell? ⟨T,2,none⟩=some (.slice (some ⟨gh,oh,none⟩) m ch)∧W.cell? ⟨gh,oh+ia,none⟩=some (.int .i64 h))) (by kernel_rfl) ?_ (fun ah=>?_)
 ·exact (by rw[hV];exact iU.out)
 rw[hV] at ah ⊢;refine bE [0,1,2,3,4,5,6,7,8,9,10,11] ?_;iterate 12 (refine eY ?_;try simp only[pS])
 refine bF ?_;refine bO 12 fun K hK=>?_;go_simp;refine HC.out.mono ?_;rintro e w3 ⟨h',E,rfl,hE,ht3,oM,Du,hM⟩;obtain hE1:E=0:=by rcases hE with ⟨-,-,a⟩ | ⟨a,-⟩;exact absurd a H0.out;exact a
 subst hE1;have fu:=zh (HX.out.turns ht3 (Uh.out.aU HX.out (by decide) (by decide) (by decide)));have jh:=zh (show w3.cell? ⟨w.heap.size,0,none⟩=some (.pointer (some ⟨T,0,none⟩))∧w3.cell? ⟨T,0,none⟩=some (.pointer (some ⟨B,0,none⟩))∧w3.cell? ⟨T,1,none⟩=some (.pointer (some ⟨M,0,none⟩))∧w3.cell? ⟨T,2,none⟩=some (.slice (some ⟨gh,oh,none⟩) m ch)∧w3.cell? ⟨gh,oh+ia,none⟩=some (.int .i64 h) from nI oM fu.out HLEN.out SQ.out);have NT:=zh oM;have rE:=zh Du;have HM:=zh (hM w3 (Below.refl _ _));clear hE ht3 oM Du hM HC;refine hK.out _ _ (jh.out) fun ah=>?_;clear hK K;(try simp only[pS]);refine bE [13,14,15,16,17] ?_;iterate 5 (refine eY ?_;try simp only[pS])
 refine bF ?_;refine gQ ?_;obtain⟨t3,c0,c1,c2,-⟩:=jh.out;obtain⟨k0,-⟩:=rE.out.cell;obtain⟨AM,cM,WW⟩:=rE.out.form;subst WW;have eT:=zh (bX bM M m _ f ia w3 rE.out hia (by omega));rw[HG.out] at eT;go_wp2_with fail;refine eT.out.mono ?_;rintro e w4 ⟨rfl,hw4⟩;rw[hw4];clear hw4;go_wp2_with fail;refine HM.out.mono ?_;rintro e w4 ⟨rfl,BX,hcase⟩;obtain⟨vs',bV,dS,n',aW,k,fr',iR,f',g',hk,⟨r,hr⟩,wf4,tv4,so4,hg4,mv4,tw4,hkm,hap,hx4⟩:=(show WX base bM T B M b s (.slice (some ⟨gh,oh,none⟩) hs.length ch) m hs K h' w4 from by rcases hcase with ⟨h1,-⟩ | ⟨-,h1⟩;exact absurd h1 (by decide);exact h1)
 have bB:=fu.out.turns BX (rE.out.nf fu.out (by decide) (by decide) (by decide) (by decide));have hs4:w.heap.size<w4.heap.size:=bB.lt;have t4:w4.cell? ⟨w.heap.size,0,none⟩=some (.pointer (some ⟨T,0,none⟩)):=bB.cell 0;have d0:w4.cell? ⟨T,0,none⟩=some (.pointer (some ⟨B,0,none⟩)):=tw4.var.cell 0;clear BX hcase t3 c0 c1 c2 k0;have hh':=(bN so4 (h:=h') (by rw[aM];exact hg4)).1;have hL:=LS.made (h:=h') tv4;have hseq:=rF so4 wf4 hh' 7 (by omega) _ hL;have xK:=zh (pI B h' w4);have hszW:((w4.alloc (.cells #[.pointer (some ⟨B,0,none⟩)] 29)).alloc (.cells #[.int .i64 h'] 3)).heap.size=w4.heap.size+2:=by simp
 have hbW:Below w4.heap.size w4 ((w4.alloc (.cells #[.pointer (some ⟨B,0,none⟩)] 29)).alloc (.cells #[.int .i64 h'] 3)):=((Below.refl _ w4).alloc (Nat.le_refl _) _).alloc (by simp) _;have HK:=zh (And.intro hk (And.intro hr (And.intro hkm hap)));have NU:=zh mv4;have IK:=zh tw4;have Ui:=zh bB;have WY:=zh tv4.lt;have oN:=zh mv4.lt;have NA:=zh hx4;clear hk hr hkm hap mv4 tw4 bB hx4 tv4 HM jh;go_wp2_with fail;refine xK.out.mono ?_;rintro e w' ⟨rfl,hw'⟩;rw[←hw'] at hL hszW hbW hseq;clear hw' xK t4 d0;have Zu:=zh hL;have dU:=Ui.out.below hbW Ui.out.lt;have Uj:=IK.out.below hbW;have Qy:=NU.out.below hbW;have Bn:=zh hbW;clear hL hbW;go_wp2_with fail;refine (wpIn_wide (n:=8)).1 ?_;obtain⟨i0,hi,hz0,hz1,hz2⟩:=info_parts uZ;have abJ:=Bn.out.size;have WZ:=Zt.out;have HCW:Hid (CW base bM T B M w.heap.size b s h' (hof hs 0) vs' bV dS (.slice (some ⟨gh,oh,none⟩) hs.length ch) n' aW (m+k) fr' iR f' g' w4 w' hs [] (.slice (some ⟨gh,oh,none⟩) hs.length ch) w'):=zh ⟨by rw[List.append_nil];exact Uj,Zu.out,dU,Qy,.of_below Bn.out,fun k hk=>.inl hk,Nat.le_refl _⟩;clear dU Uj Qy;refine wpIn_rangeFunc_ownF (w:=w') rfl (by decide) (gf:=40) (lb:=#[.pointer (some ⟨w4.heap.size,0,none⟩),.pointer (some ⟨w4.heap.size+1,0,none⟩)]) rfl trivial (enters_of Tryz.func40 (by kernel_rfl) rfl) hseq LS.pJ (LS.qP _) (Below.refl _ _) (fun _=>rfl)
  (fun pre W=>∃ l7,CW base bM T B M w.heap.size b s h' (hof hs 0) vs' bV dS (.slice (some ⟨gh,oh,none⟩) hs.length ch) n' aW (m+k) fr' iR f' g' w4 w' hs (pre.map (·.1)) l7 W) (fun _ _ _=>False)
  ?hI ?hIx ⟨_,HCW.out⟩ (fun x=>{ tmps:=#[.pointer (some ⟨T,0,none⟩),.int .i64 ↑ia,.bool deep,.pointer (some ⟨w.heap.size,0,none⟩),undef,undef,.bool false,.int .i64 h',.int .i64 0,.int .i64 ↑m,.int .i64 0,.int .i64 x.1,.tuple #[.int .i64 h',.int .i64 0],.pointer (some ⟨T,0,none⟩),.pointer (some ⟨T,0,none⟩),.pointer (some ⟨T,0,none⟩),.pointer (some ⟨B,0,none⟩),.pointer (some ⟨T,0,none⟩),.pointer (some ⟨T,0,none⟩),.pointer (some ⟨T,2,none⟩),.slice (some ⟨gh,oh,none⟩) m ch,.int .i64 ↑ia,.pointer (some ⟨gh,oh+ia,none⟩),.int .i64 h,.bool deep,.tuple #[.int .i64 h',.int .i64 0],.int .i64 h',.int .i64 0,.pointer (some ⟨T,0,none⟩),.pointer (some ⟨T,0,none⟩),.pointer (some ⟨T,1,none⟩),.pointer (some ⟨M,0,none⟩),.int .i64 ↑ia,.bool true,.bool false,undef,undef,undef,undef,undef,undef,.pointer (some ⟨T,0,none⟩),.pointer (some ⟨T,0,none⟩),.pointer (some ⟨T,1,none⟩),.pointer (some ⟨M,0,none⟩),.pointer (some ⟨M,0,none⟩),.pointer (some ⟨M,0,none⟩),.slice AM m cM,.int .i64 ↑m,.pointer (some ⟨T,0,none⟩),.pointer (some ⟨T,0,none⟩),.pointer (some ⟨T,1,none⟩),.pointer (some ⟨M,0,none⟩),.int .i64 ↑ia,.bool deep,.int .i64 0,.int .i64 0,.int .i64 0,.bool false,.bool false,.int .i64 0,.bool false,.bool false,undef,undef,undef,undef,undef,undef,undef,.pointer (some ⟨T,0,none⟩),.pointer (some ⟨T,0,none⟩),.pointer (some ⟨T,0,none⟩),.pointer (some ⟨B,0,none⟩),.int .i64 h',.func (.func 40) #[] #[.pointer (some ⟨w4.heap.size,0,none⟩),.pointer (some ⟨w4.heap.size+1,0,none⟩)],.int .i64 x.1,undef,undef,undef,undef,undef,undef,undef,undef,undef,undef,undef,undef,undef,undef,undef,undef,undef,undef,undef,undef,undef,undef,undef,undef,undef,undef,undef,undef,undef,undef,undef,undef,undef,undef,undef],defers:=[] }) ?assign ?body ?done ?stop
 case hI=>
  rintro pre W W' row ⟨l7,hC⟩ hg hr;exact⟨l7,hC.others (by omega) (fun k hk=>by have:=(oN.out k hk).2;omega) (by omega) hg (fun r e=>⟨by have:=(hr r e).1;omega,(hr r e).2⟩)⟩
 case hIx=>intro c pre W W' row h _ _;exact h
 case assign=>
  intro l x W K hK
  gi_wp2
  first | exact hK | simpa using hK
 case body=>
  rintro l pre x W ⟨l7,hC⟩ hlen;obtain⟨A',c',rfl⟩:=hC.tw.row.form;obtain⟨L,hL⟩:=eX ((hs++pre.map (·.1)).length)
  have hLl:L≤1000:=by
   rw[←hL,List.length_append,List.length_map,HLEN.out];have:=HK.out.1;have:=HK.out.2.2.1;omega
  have HL:=zh hL;rw[hL] at hC;obtain⟨V,hV⟩:=eX (W.drew)
  have eH:Below W.heap.size W V:=mW hV;have Zv:=hC.drew eH;obtain⟨WA,EW⟩:∃ x',V.alloc (.cells #[.int .i64 x.1] 3)=x':=⟨_,rfl⟩
  have Kv:Below V.heap.size V WA:=gU EW;have Zw:=Zv.drew Kv;have s5:=ji V 3 (.int .i64 x.1);rw[EW] at s5;have hrA:=Zw.tw.row;rw[hL] at hrA;have SS:=zh (fun (v2:Value) (w2:World) (g:WA.grownBy w2 (Value.slice A' L c').ownBlock) (o:TR w2 0 3 1 v2 ((hs++pre.map (·.1)).length+1) (ints (hs++pre.map (·.1)++[x.1]))) (f:mV WA (.slice A' L c') v2)=>CW.push hC (by have:=Ui.out.lt;omega) ⟨by omega,by omega⟩ (by omega) (fun k hk=>HK.out.2.2.2 k hk) (fun k hk=>by rcases hk with hk | hk;exact (WY.out k hk).2;exact (oN.out k hk).2) (fun k hk=>by have:=rD.out k hk;omega) (eH.trans (Kv.mono eH.size)) g o f);have a0:V.cell? ⟨w.heap.size,0,none⟩=some (.pointer (some ⟨T,0,none⟩)):=Zv.box.cell 0;have a1:V.cell? ⟨T,2,none⟩=some (.slice A' L c'):=Zv.tw.var.cell 2;have b0:WA.cell? ⟨w.heap.size,0,none⟩=some (.pointer (some ⟨T,0,none⟩)):=Zw.box.cell 0;have b1:WA.cell? ⟨T,2,none⟩=some (.slice A' L c'):=Zw.tw.var.cell 2;clear hC Zv Zw eH Kv hL
  gi_wp2_with fail
  refine wpIn_region_any (by kernel_rfl) ?_;(try (change wpAnyIn _ _ _ _ _ _ _ _ _ (World.drew _)));(try rw[hV]);apply gG
  ·intro mI;apply gG
   ·intro um;apply gG
    ·intro oO;apply gG
     ·intro oP;apply gG
      ·intro xL;apply gG
       ·intro xM;apply gG
        ·intro rG;apply gG
         ·intro rH;apply gG
          ·intro xO;apply gG
           ·intro BZ;apply gG
            ·intro Ca;apply gG
             ·intro LG;apply gG
              ·intro wN;apply gG
               ·intro wO;apply gG
                ·intro Cb;apply gG
                 ·intro Kw;apply gG
                  ·intro Ky;apply gG
                   ·intro QL;apply gG
                    ·intro Kz;apply gG
                     ·intro Dv;apply gG
                      ·intro KC;apply gG
                       ·intro W9;apply gG
                        ·intro SV;apply gG
                         ·intro Xa;apply gG
                          ·intro SX;apply gG
                           ·intro SY;apply gG
                            ·intro KY5;apply gG
                             ·intro KY1;apply gG
                              ·intro KY0;refine wpAnyIn_ready (rs:=[0,1,5]) (by kernel_rfl) (by simp) ?_;refine AllReadyIn.cons rfl (fun K hK=>?_) (AllReadyIn.cons rfl (fun K hK=>?_) (AllReadyIn.cons rfl (fun K hK=>?_) AllReadyIn.nil))
                               ·go_simp;refine hK _ _ ?_;clear hK K;(try simp only[pS]);exact KY0
                               ·go_simp;refine hK _ _ ?_;clear hK K;(try simp only[pS]);exact KY1
                               ·go_simp;refine hK _ _ ?_;clear hK K;(try simp only[pS]);exact KY5
                              ·refine IL 1 5 (fun K hK=>?_) fun K hK=>?_
                               ·go_simp;refine hK _ _ ?_;clear hK K;(try simp only[pS]);exact SY
                               ·go_simp;refine hK _ _ ?_;clear hK K;(try simp only[pS]);exact SX
                             ·refine wpAnyIn_ready (rs:=[0,2,5]) (by kernel_rfl) (by simp) ?_;refine AllReadyIn.cons rfl (fun K hK=>?_) (AllReadyIn.cons rfl (fun K hK=>?_) (AllReadyIn.cons rfl (fun K hK=>?_) AllReadyIn.nil))
                              ·go_simp;refine hK _ _ ?_;clear hK K;(try simp only[pS]);exact SY
                              ·go_simp;refine hK _ _ ?_;clear hK K;(try simp only[pS]);exact Xa
                              ·go_simp;refine hK _ _ ?_;clear hK K;(try simp only[pS]);exact SV
                            ·refine wpAnyIn_ready (rs:=[0,1,6]) (by kernel_rfl) (by simp) ?_;refine AllReadyIn.cons rfl (fun K hK=>?_) (AllReadyIn.cons rfl (fun K hK=>?_) (AllReadyIn.cons rfl (fun K hK=>?_) AllReadyIn.nil))
                             ·go_simp;refine hK _ _ ?_;clear hK K;(try simp only[pS]);exact SX
                             ·go_simp;refine hK _ _ ?_;clear hK K;(try simp only[pS]);exact SV
                             ·go_simp;(try rw[EW]);refine hK _ _ ?_;clear hK K;(try simp only[pS]);exact W9
                           ·refine IL 2 5 (fun K hK=>?_) fun K hK=>?_
                            ·go_simp;refine hK _ _ ?_;clear hK K;(try simp only[pS]);exact KC
                            ·go_simp;refine hK _ _ ?_;clear hK K;(try simp only[pS]);exact Dv
                          ·refine IL 1 6 (fun K hK=>?_) fun K hK=>?_
                           ·go_simp;refine hK _ _ ?_;clear hK K;(try simp only[pS]);exact Dv
                           ·go_simp;(try rw[EW]);refine hK _ _ ?_;clear hK K;(try simp only[pS]);exact Kz
                         ·refine wpAnyIn_ready (rs:=[0,3,5]) (by kernel_rfl) (by simp) ?_;refine AllReadyIn.cons rfl (fun K hK=>?_) (AllReadyIn.cons rfl (fun K hK=>?_) (AllReadyIn.cons rfl (fun K hK=>?_) AllReadyIn.nil))
                          ·go_simp;refine hK _ _ ?_;clear hK K;(try simp only[pS]);exact KC
                          ·go_simp;refine hK _ _ ?_;clear hK K;(try simp only[pS]);exact QL
                          ·go_simp;refine hK _ _ ?_;clear hK K;(try simp only[pS]);exact Ky
                        ·refine wpAnyIn_ready (rs:=[0,2,6]) (by kernel_rfl) (by simp) ?_;refine AllReadyIn.cons rfl (fun K hK=>?_) (AllReadyIn.cons rfl (fun K hK=>?_) (AllReadyIn.cons rfl (fun K hK=>?_) AllReadyIn.nil))
                         ·go_simp;refine hK _ _ ?_;clear hK K;(try simp only[pS]);exact Dv
                         ·go_simp;refine hK _ _ ?_;clear hK K;(try simp only[pS]);exact Ky
                         ·go_simp;(try rw[EW]);refine hK _ _ ?_;clear hK K;(try simp only[pS]);exact Kw
                       ·refine IL 0 1 (fun K hK=>?_) fun K hK=>?_
                        ·go_simp;refine hK _ _ ?_;clear hK K;(try simp only[pS]);exact Kz
                        ·go_simp;refine hK _ _ ?_;clear hK K;(try simp only[pS]);exact Kw
                      ·refine IL 3 5 (fun K hK=>?_) fun K hK=>?_
                       ·go_simp;refine hK _ _ ?_;clear hK K;(try simp only[pS]);exact Cb
                       ·go_simp;refine hK _ _ ?_;clear hK K;(try simp only[pS]);exact wO
                     ·refine IL 2 6 (fun K hK=>?_) fun K hK=>?_
                      ·go_simp;refine hK _ _ ?_;clear hK K;(try simp only[pS]);exact wO
                      ·go_simp;(try rw[EW]);refine hK _ _ ?_;clear hK K;(try simp only[pS]);exact wN
                    ·refine KD 1 fun K hK=>?_
                     ·go_simp;refine hK _ _ ?_;clear hK K;(try simp only[pS]);exact wN
                   ·refine wpAnyIn_ready (rs:=[0,4,5]) (by kernel_rfl) (by simp) ?_;refine AllReadyIn.cons rfl (fun K hK=>?_) (AllReadyIn.cons rfl (fun K hK=>?_) (AllReadyIn.cons rfl (fun K hK=>?_) AllReadyIn.nil))
                    ·go_simp;refine hK _ _ ?_;clear hK K;(try simp only[pS]);exact Cb
                    ·go_simp;refine hK _ _ ?_;clear hK K;(try simp only[pS]);exact LG
                    ·go_simp;refine hK _ _ ?_;clear hK K;(try simp only[pS]);exact Ca
                  ·refine wpAnyIn_ready (rs:=[0,3,6]) (by kernel_rfl) (by simp) ?_;refine AllReadyIn.cons rfl (fun K hK=>?_) (AllReadyIn.cons rfl (fun K hK=>?_) (AllReadyIn.cons rfl (fun K hK=>?_) AllReadyIn.nil))
                   ·go_simp;refine hK _ _ ?_;clear hK K;(try simp only[pS]);exact wO
                   ·go_simp;refine hK _ _ ?_;clear hK K;(try simp only[pS]);exact Ca
                   ·go_simp;(try rw[EW]);refine hK _ _ ?_;clear hK K;(try simp only[pS]);exact BZ
                 ·refine IL 0 2 (fun K hK=>?_) fun K hK=>?_
                  ·go_simp;refine hK _ _ ?_;clear hK K;(try simp only[pS]);exact wN
                  ·go_simp;refine hK _ _ ?_;clear hK K;(try simp only[pS]);exact BZ
                ·refine IL 4 5 (fun K hK=>?_) fun K hK=>?_
                 ·go_simp;refine hK _ _ ?_;clear hK K;(try simp only[pS]);exact xO
                 ·go_simp;refine hK _ _ ?_;clear hK K;(try simp only[pS]);exact rH
               ·refine IL 3 6 (fun K hK=>?_) fun K hK=>?_
                ·go_simp;refine hK _ _ ?_;clear hK K;(try simp only[pS]);exact rH
                ·go_simp;(try rw[EW]);refine hK _ _ ?_;clear hK K;(try simp only[pS]);exact rG
              ·refine KD 2 fun K hK=>?_
               ·go_simp;refine hK _ _ ?_;clear hK K;(try simp only[pS]);exact rG
             ·refine IL 0 5 (fun K hK=>?_) fun K hK=>?_
              ·go_simp;refine hK _ _ ?_;clear hK K;(try simp only[pS]);exact xO
              ·go_simp;refine hK _ _ ?_;clear hK K;(try simp only[pS]);exact xM
            ·refine wpAnyIn_ready (rs:=[0,4,6]) (by kernel_rfl) (by simp) ?_;refine AllReadyIn.cons rfl (fun K hK=>?_) (AllReadyIn.cons rfl (fun K hK=>?_) (AllReadyIn.cons rfl (fun K hK=>?_) AllReadyIn.nil))
             ·go_simp;refine hK _ _ ?_;clear hK K;(try simp only[pS]);exact rH
             ·go_simp;refine hK _ _ ?_;clear hK K;(try simp only[pS]);exact xM
             ·go_simp;(try rw[EW]);refine hK _ _ ?_;clear hK K;(try simp only[pS]);exact xL
           ·refine IL 0 3 (fun K hK=>?_) fun K hK=>?_
            ·go_simp;refine hK _ _ ?_;clear hK K;(try simp only[pS]);exact rG
            ·go_simp;refine hK _ _ ?_;clear hK K;(try simp only[pS]);exact xL
          ·refine KD 5 fun K hK=>?_
           ·go_simp;refine hK _ _ ?_;clear hK K;(try simp only[pS]);exact oP
         ·refine IL 4 6 (fun K hK=>?_) fun K hK=>?_
          ·go_simp;refine hK _ _ ?_;clear hK K;(try simp only[pS]);exact oP
          ·go_simp;(try rw[EW]);refine hK _ _ ?_;clear hK K;(try simp only[pS]);exact oO
        ·refine KD 3 fun K hK=>?_
         ·go_simp;refine hK _ _ ?_;clear hK K;(try simp only[pS]);exact oO
       ·refine IL 0 6 (fun K hK=>?_) fun K hK=>?_
        ·go_simp;refine hK _ _ ?_;clear hK K;(try simp only[pS]);exact oP
        ·go_simp;(try rw[EW]);refine hK _ _ ?_;clear hK K;(try simp only[pS]);exact um
      ·refine IL 0 4 (fun K hK=>?_) fun K hK=>?_
       ·go_simp;refine hK _ _ ?_;clear hK K;(try simp only[pS]);exact oO
       ·go_simp;refine hK _ _ ?_;clear hK K;(try simp only[pS]);exact um
     ·refine KD 6 fun K hK=>?_
      ·go_simp;(try rw[EW]);refine hK _ _ ?_;clear hK K;(try simp only[pS]);exact mI
    ·refine KD 4 fun K hK=>?_
     ·go_simp;refine hK _ _ ?_;clear hK K;(try simp only[pS]);exact mI
   ·refine IL 0 7 (fun K hK=>?_) fun K hK=>?_
    ·go_simp;refine hK _ _ ?_;clear hK K;(try simp only[pS]);exact mI
    ·refine nO rfl _ _ 31 rfl 0 3 i0 (.int .i64 0) 1 8 Tryz.underlying31 hi hz0 hz1 hz2 rfl (by decide) _ L (ints (hs++pre.map (·.1))) rfl hrA _ 1 (ints [x.1]) rfl rfl (.inr ⟨_,_,rfl,s5⟩) (gH _) (by unfold maxLen;omega) (by omega) (Nat.zero_le _) ?_;intro v2 w2 o2 g2 f2;rw[←iB,←HL.out] at o2;obtain⟨hW2,hC2,hB2,hko,hkp⟩:=SS.out v2 w2 g2 o2 f2;rw[HL.out] at o2;obtain⟨A2,c2,rfl⟩:=o2.form;have e0:w2.cell? ⟨T,2,none⟩=some (.slice A' L c'):=hW2.cell 2;have e1:=hW2.free 2;have e2:w2.cell? ⟨w.heap.size,0,none⟩=some (.pointer (some ⟨T,0,none⟩)):=hB2.cell 0;have NC:=zh hC2;have S9:=zh hko;have Xb:=zh hkp;clear o2 g2 f2 hW2 hC2 hB2 hko hkp;refine hK _ _ ?_;clear hK K;(try simp only[pS]);refine KD 0 fun K hK=>?_;go_simp;refine hK _ _ ?_;clear hK K;(try simp only[pS]);refine KD 8 fun K hK=>?_;go_simp;refine hK _ _ ?_;clear hK K;(try simp only[pS]);refine KD 9 fun K hK=>?_;go_simp;refine hK _ _ ?_;clear hK K;(try simp only[pS]);refine KD 10 fun K hK=>?_;go_simp;refine hK _ _ ?_;clear hK K;(try simp only[pS]);refine wpAnyIn_done (by kernel_rfl) ?_ _;go_simp;refine⟨S9.out,Xb.out,?_⟩;exact⟨_,by rw[List.map_append];exact NC.out⟩
  ·refine KD 7 fun K hK=>?_;refine nO rfl _ _ 31 rfl 0 3 i0 (.int .i64 0) 1 8 Tryz.underlying31 hi hz0 hz1 hz2 rfl (by decide) _ L (ints (hs++pre.map (·.1))) rfl hrA _ 1 (ints [x.1]) rfl rfl (.inr ⟨_,_,rfl,s5⟩) (gH _) (by unfold maxLen;omega) (by omega) (Nat.zero_le _) ?_;intro v2 w2 o2 g2 f2;rw[←iB,←HL.out] at o2;obtain⟨hW2,hC2,hB2,hko,hkp⟩:=SS.out v2 w2 g2 o2 f2;rw[HL.out] at o2;obtain⟨A2,c2,rfl⟩:=o2.form;have e0:w2.cell? ⟨T,2,none⟩=some (.slice A' L c'):=hW2.cell 2;have e1:=hW2.free 2;have e2:w2.cell? ⟨w.heap.size,0,none⟩=some (.pointer (some ⟨T,0,none⟩)):=hB2.cell 0;have NC:=zh hC2;have S9:=zh hko;have Xb:=zh hkp;clear o2 g2 f2 hW2 hC2 hB2 hko hkp;refine hK _ _ ?_;clear hK K;(try simp only[pS]);refine KD 8 fun K hK=>?_;go_simp;refine hK _ _ ?_;clear hK K;(try simp only[pS]);refine KD 9 fun K hK=>?_;go_simp;refine hK _ _ ?_;clear hK K;(try simp only[pS]);refine KD 10 fun K hK=>?_;go_simp;refine hK _ _ ?_;clear hK K;(try simp only[pS]);refine wpAnyIn_done (by kernel_rfl) ?_ _;go_simp;refine⟨S9.out,Xb.out,?_⟩;exact⟨_,by rw[List.map_append];exact NC.out⟩
 case done=>
  rintro D xs W hD rfl ⟨l7,hC⟩ hK;rw[List.attach_map_subtype_val] at hC;have hr:=HK.out.2.1;have hk1:0<k:=by rw[←HK.out.1,hr];simp
  have hl5:(hs++Tr.ak g' h').length=m+k:=by rw[List.length_append,HLEN.out,HK.out.1]
  have hi5:(hs++Tr.ak g' h')[m]?=some h':=by rw[List.getElem?_append_right (by rw[HLEN.out];exact Nat.le_refl _),HLEN.out,Nat.sub_self,hr];rfl
  obtain⟨A5,c5,rfl⟩:=hC.tw.row.form;have hrow:=hC.tw.row;rw[hl5] at hrow;obtain⟨g5,o5,rfl,-,-,-,-⟩:=hrow.cells (by omega);have hc5:=fun (X:World) (hX:Below W.heap.size W X)=>(hrow.below hX).cellAt m (.int .i64 h') (by omega) (dP hi5);rw[hl5] at hC;obtain⟨A6,c6,rfl⟩:=hC.mv.form;obtain⟨W5,Cc⟩:=eX (W.drew)
  have hb5:Below W.heap.size W W5:=mW Cc;have Wd:=hC.drew hb5;have Qz:W5.heap[D]?=some (.deferred (some [])):=by rw[←Cc];exact hK
  have HK5:=zh Qz;have oq:=zh (show W5.cell? ⟨w.heap.size,0,none⟩=some (.pointer (some ⟨T,0,none⟩))∧W5.cell? ⟨T,1,none⟩=some (.pointer (some ⟨M,0,none⟩))∧W5.cell? ⟨T,2,none⟩=some (.slice (some ⟨g5,o5,none⟩) (m+k) c5)∧W5.cell? ⟨M,0,none⟩=some (.slice A6 (m+k) c6)∧W5.cell? ⟨g5,o5+m,none⟩=some (.int .i64 h') from⟨Wd.box.cell 0,Wd.tw.var.cell 1,Wd.tw.var.cell 2,Wd.mv.var.cell 0,hc5 W5 hb5⟩);have Zx:=Wd.others (W':=W5.putObj D (.deferred none)) (by omega) (fun k hk=>by have:=(oN.out k hk).2;omega) (by omega) (grownBy_putObj' W5 D (.deferred none)) (fun r e=>by cases e;exact⟨by omega,_,Qz,rfl⟩);have bf:=zh (NA.out _ _ Zx.tw Zx.tu (fun k hk=>by rcases Zx.fr k hk with e | e;exact .inl e;exact .inr (by omega)));have q0:(0:Int)≤(m:Int):=by omega
  have q1:(m:Int)<(m:Int)+(k:Int):=by omega
  have q2:(m:Int)<((m+k:Nat):Int):=by omega
  clear hC Wd Zx hrow hc5 hb5 hk1 hl5 hi5 hr Qz;go_wp2_with fail;refine wp_region_noPanic ?_;refine wp_region_held_drew (S:=(fun W=>W.cell? ⟨w.heap.size,0,none⟩=some (.pointer (some ⟨T,0,none⟩))∧W.cell? ⟨T,1,none⟩=some (.pointer (some ⟨M,0,none⟩))∧W.cell? ⟨T,2,none⟩=some (.slice (some ⟨g5,o5,none⟩) (m+k) c5)∧W.cell? ⟨M,0,none⟩=some (.slice A6 (m+k) c6)∧W.cell? ⟨g5,o5+m,none⟩=some (.int .i64 h'))) (by kernel_rfl) ?_ (fun ah=>?_)
  ·exact (by rw[Cc];exact oq.out)
  rw[Cc] at ah ⊢;refine bE [0,1,2,3,4,5,6,7,8,9,10,11,12,13,14,15,16,17,18,19,20,21,22,23,24,25] ?_;iterate 26 (refine eY ?_;try simp only[pS])
  refine bF ?_;refine gQ ?_;go_wp2_with fail;refine⟨by simp,.inl ⟨_,_,rfl,run_takeDeferred HK5.out,?_⟩⟩;refine⟨_,results_tmp rfl _ _ _,?_⟩;exact⟨_,_,_,_,_,_,_,_,_,_,_,_,rfl,bf.out⟩
 case stop=>
  rintro D c pre W _ _ h _;exact h.elim
end
end Go.Proofs.YtjpbhkcjmdndjaaGreatDoor
