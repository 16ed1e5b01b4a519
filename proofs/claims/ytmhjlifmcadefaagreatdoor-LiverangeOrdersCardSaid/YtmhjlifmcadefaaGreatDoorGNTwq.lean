/- Part of a proof about trees. -/
import Derived.Test.YtmhjlifmcadefaaGreatDoorS05
set_option linter.unusedVariables false
set_option linter.unusedSimpArgs false
set_option linter.unusedSectionVars false
namespace Go.Proofs.YtmhjlifmcadefaaGreatDoor
section
open Go.RowKit
variable [mQ]
theorem yx {hs ds:List Int} {x:Int} (hx:x<(hs.length:Int)):hof (hs++ds) x=hof hs x:=by
 unfold hof
 split
 ·rfl
 ·rw[List.getD_eq_getElem?_getD,List.getD_eq_getElem?_getD,List.getElem?_append_left (by omega)]
theorem yA {hs:List Int}:∀ {ds:List Int} {pre:List Int},hs.length+pre.length=hs.length+pre.length→(oN (hs.length+pre.length) ds.length).map (hof (hs++pre++ds))=ds
 | [],pre,_=>rfl
 | d::r,pre,_=>by
  rw[List.length_cons,DK,List.map_cons];have h1:hof (hs++pre++d::r) ((hs.length+pre.length:Nat):Int)=d:=by
   refine oO ?_;rw[List.getElem?_append_right (by rw[List.length_append];exact Nat.le_refl _),List.length_append,Nat.sub_self];rfl
  have h2:=yA (hs:=hs) (ds:=r) (pre:=pre++[d]) rfl;rw[h1];congr 1;rw[show hs++pre++d::r=hs++(pre++[d])++r by simp];rw[List.length_append,List.length_singleton] at h2;exact h2
theorem ER {a:Tr.G} {u:Int} (w:Tr.WF u a):∀ (F:Nat) (x z:Int),z∈Tr.walk a F x→z=x∨∃ q,a z=some q∧q.pa≠u
 | 0,x,z,h=>by rw[Tr.walk] at h;cases h
 | F+1,x,z,h=>by
  rw[Tr.walk] at h;cases e:a x with
  | none=>rw[e] at h;cases h
  | some n=>
   rw[e] at h;rcases List.mem_cons.1 h with h | h
   ·exact .inl h
   ·obtain⟨k,hk,hz⟩:=List.mem_flatMap.1 h;rcases ER w F k z hz with e1 | e1
    ·subst e1;obtain⟨q,e2,e3⟩:=w.down x n z e hk;refine .inr ⟨q,e2,fun e4=>?_⟩;rw[e3] at e4;subst e4;rw[w.zero] at e;cases e
    ·exact .inr e1
theorem DL {g g':Tr.G}:∀ (f:Nat) {x y q:Int} {lx ly:List Int},Tr.Cp g g' f x y q lx ly→∀ z∈ly,∃ x',x'∈lx∧∃ n n',g x'=some n∧g' z=some n'∧n'.kind=n.kind∧n'.attrs=n.attrs∧n'.data=n.data
 | 0,_,_,_,_,_,h=>h.elim
 | f+1,x,y,q,lx,ly,h=>by
  obtain⟨n,ys,l,m,e1,e2,h3,rfl,rfl⟩:=h;have key:∀ {xs ys l m:List Int},Tr.qR (fun a b l m=>Tr.Cp g g' f a b y l m) xs ys l m→∀ z∈m,∃ x',x'∈l∧∃ n n',g x'=some n∧g' z=some n'∧n'.kind=n.kind∧n'.attrs=n.attrs∧n'.data=n.data:=by
   intro xs ys l m h
   induction h with
   | nil=>intro z hz;cases hz
   | cons h1 h2 ih=>
    intro z hz;rcases List.mem_append.1 hz with hz | hz
    ·obtain⟨x',hx,r⟩:=DL f h1 z hz;exact⟨x',List.mem_append_left _ hx,r⟩
    ·obtain⟨x',hx,r⟩:=ih z hz;exact⟨x',List.mem_append_right _ hx,r⟩
  intro z hz;rcases List.mem_cons.1 hz with rfl | hz
  ·exact⟨x,by simp,n,_,e1,e2,rfl,rfl,rfl⟩
  ·obtain⟨x',hx,r⟩:=key h3 z hz;exact⟨x',List.mem_cons_of_mem _ hx,r⟩
section
variable {w w3 w4 w5:World} {base bM T B M:Nat} {b s:Int} {vs vf aP vh vs' dw dP lV:Value} {n live m n' aY k F:Nat} {fr fr':List Nat} {av iK:Int→Tr.Sl} {f f':Nat→RS} {hs ds la lx:List Int} {g g':Tr.G} {K:Nat}
theorem TW.copied (H:TW w base bM T B M b s vs vf aP vh n live m fr av f hs g K) {i:Nat} {d:Int} (hi:i<m) (hg:(f i).gone=false) (h0:i≠0) (hml:m+k≤700) (hk:ds.length=k) (hn':n'≤n+k)
  (yB:TV base w3 B b s vs' n' (Tr.raw g' iK) dw fr' aY (hof hs 0)) (ES:Sound b s n' (Tr.raw g' iK) fr' aY) (Gy:Tr.WF 0 g') (at3:AT w3 g' iK) (fF:aB w w3 (aD B vs vf) (aD B vs' dw))
  (hcp:Tr.Cp g g' F (hof hs (i:Int)) d 0 la ds) (hnd:ds.Nodup) (hfr:∀ z∈ds,g z=none∧z≠0) (hold:∀ z,z∉ds→g' z=g z)
  (mv4:MV bM w4 M dP (m+k) f') (dJ:aB w3 w4 (aC M aP m f) (aC M dP (m+k) f')) (hO:Gz m f f' (-1) (m:Int)) (hlv:∀ j,m≤j→j<m+k→(f' j).gone=false) (hcm:Tr.Cp (mg m f) (mg (m+k) f') F (i:Int) (m:Int) (-1) (Tr.walk (mg m f) F (i:Int)) (oN m k))
  (UR:oW w5 T B M lV (hs++ds)) (t5:Turns (fun k=>k=T∨vh.ownBlock=some k) w4 w5) (hv5:∀ k,lV.ownBlock=some k→vh.ownBlock=some k∨w4.heap.size≤k):
  TW w5 base bM T B M b s vs' dw dP lV n' aY (m+k) fr' iK f' (hs++ds) g' (K+1):=by
 obtain⟨a1,a2,a3,a4,a5⟩:=H.after fF;have Wt:∀ k,aD B vs' dw k→k<w3.heap.size:=fun k hk=>(yB.lt k hk).2;have hvl:∀ k,vh.ownBlock=some k→k<w3.heap.size:=fun k hk=>Nat.lt_of_lt_of_le (H.tw.row.lt k hk).2 fF.1.size;have X3:T<w3.heap.size:=a1.var.lt;have hFT:¬ aD B vs' dw T:=yB.aV a1.var (by decide) (by decide) (by decide);have hMT:¬ aC M dP (m+k) f' T:=fun hm=>H.K6.2 (dJ.2 T X3 hm);have Wu:∀ x,aD B vs' dw x→¬ aC M dP (m+k) f' x:=fun x hf hm=>a3 x hf (dJ.2 x (Wt x hf) hm);have JV:∀ x,vh.ownBlock=some x→¬ aD B vs' dw x∧¬ aC M dP (m+k) f' x:=fun x hx=>⟨a4 x hx,fun hm=>(H.zw x hx).2 (dJ.2 x (hvl x hx) hm)⟩
 have XA:∀ x,aD B vs' dw x→x<w4.heap.size:=fun x hx=>Nat.lt_of_lt_of_le (Wt x hx) dJ.1.size;have EP:∀ x,aC M dP (m+k) f' x→x<w4.heap.size:=fun x hx=>(mv4.lt x hx).2;have hfo:∀ j,j<m→f' j=f j:=fun j hj=>hO.1 j hj (by omega);have hlen:(hs++ds).length=m+k:=by rw[List.length_append,H.len,hk]
 have PO:hof (hs++ds) 0=hof hs 0:=yx (by have:=H.len;have:=H.m0;omega);have tv5:TV base w5 B b s vs' n' (Tr.raw g' iK) dw fr' aY (hof hs 0):=(yB.turns dJ.1 (fun x hx hm=>a3 x hx hm)).turns t5 (fun x hx hv=>hv.elim (fun e=>hFT (e▸hx)) (fun e=>(JV x e).1 hx));have Sm:AT w4 g' iK:=at3.LA a2 dJ;have hA:AT w5 g' iK:=Sm.turns t5 fun y q e x hx hv=>by
  have hr:=Sm y q e;rcases hv with e1 | e1
  ·exact TR.unlike hr (a1.var.turns dJ.1 H.K6.2) (by decide) (by rw[hx,e1])
  ·exact TR.ne hr (a1.row.turns dJ.1 fun x hx=>(H.zw x hx).2) (by decide) x hx e1
 have vU:=H.im.pull H.wf;have hsrc:∀ j,m≤j→j<m+k→∃ i':Nat,i'<m∧i'≠0∧(f' j).kind=(f i').kind∧(f' j).at'=(f i').at'∧(f' j).data=(f i').data:=fun j hj1 hj2=>by
  obtain⟨x',hx',q,q',e1,e2,e3,e4,e5⟩:=DL F hcm (j:Int) (nQ.2 ⟨j,rfl,hj1,hj2⟩);obtain⟨i',rfl,hi',hgi',rfl⟩:=jk e1;rw[aM hj2 (hlv j hj1 hj2)] at e2;obtain rfl:=Option.some.inj e2;refine⟨i',hi',fun e0=>?_,e3,e4,e5⟩;subst e0;rcases ER vU F _ _ hx' with e6 | ⟨q2,e6,e7⟩
  ·omega
  ·rw[aM hi' hgi'] at e6;obtain rfl:=Option.some.inj e6;exact e7 H.d0
 refine⟨UR,by rw[PO];exact tv5,ES,hA,Gy,mv4.turns t5 (fun x hm hv=>hv.elim (fun e=>hMT (e▸hm)) (fun e=>(JV x e).2 hm)),?_,?_,hlen,by rw[hfo 0 H.m0];exact H.g0,by have:=H.m0;omega,?_,by have:=H.nm;omega,Wu,?_,by rw[hfo 0 H.m0];exact H.d0,?_,⟨((H.kp.1.trans (fF.1.below H.uV fun k hk=>Nat.le_trans H.kp.2.1 (H.tv.lt k hk).1)).trans (dJ.1.below (Nat.le_trans H.uV fF.1.size) fun k hk=>Nat.le_trans H.kp.2.2.1 (H.mv.lt k hk).1)).trans (t5.below (Nat.le_trans (Nat.le_trans H.uV fF.1.size) dJ.1.size) fun k hk=>by rcases hk with e | e;exact e▸H.kp.2.2.2.1;exact H.kp.2.2.2.2 k e),H.kp.2.1,H.kp.2.2.1,H.kp.2.2.2.1,fun k hk=>by rcases hv5 k hk with e | e;exact H.kp.2.2.2.2 k e;exact Nat.le_trans (Nat.le_trans (Nat.le_trans H.uV fF.1.size) dJ.1.size) e⟩,hml,⟨H.ok.1.copy H.wf hcp (fun z hz=>?_) (fun z hz=>(hfr z hz).1) hold,fun j hj=>?_⟩,((H.ks.a fF).m dJ).t t5 hv5⟩
 ·refine H.im.copy hcm hcp (fun y hy=>?_) ?_ (fun z hz=>?_) hold (fun z hz=>⟨yC hz,fun e=>?_⟩) hfr hnd
  ·rcases hy with rfl | hy
   ·rw[mF,mF]
   ·obtain⟨j,rfl,hj,-⟩:=jv hy;exact yx (by rw[H.len];omega)
  ·have:=yA (hs:=hs) (ds:=ds) (pre:=[]) rfl;rw[List.append_nil,List.length_nil,Nat.add_zero,H.len,hk] at this;exact this
  ·rw[hO.tree z hz];unfold Cr
   split
   ·rename_i e;subst e;rw[H.im.neg];rfl
   ·rfl
  ·obtain⟨j,e1,_⟩:=nQ.1 hz;omega
 ·refine⟨by rw[hfo 0 H.m0];exact H.km.1,fun j hj hj0=>?_⟩;by_cases e:j<m
  ·rw[hfo j e];exact H.km.2 j e hj0
  ·obtain⟨i',h1,h2,h3,-⟩:=hsrc j (by omega) hj;rw[h3];exact H.km.2 i' h1 h2
 ·intro j hj hgj;by_cases e:j<m
  ·rw[hfo j e] at hgj;rw[List.getElem?_append_left (by rw[H.len];omega)];exact H.gn j e hgj
  ·rw[hlv j (by omega) hj] at hgj;cases hgj
 ·intro x hx;rcases hv5 x hx with e | e
  ·exact JV x e
  ·exact⟨fun hf=>by have:=XA x hf;omega,fun hm=>by have:=EP x hm;omega⟩
 ·intro j hj;by_cases e:j<m
  ·rw[hfo j e];have:=H.bd j e;exact⟨by omega,by omega,this.2.2⟩
  ·obtain⟨i',h1,h2,h3,h4,h5⟩:=hsrc j (by omega) hj;rw[h4,h5];have:=H.bd i' h1;exact⟨by omega,by omega,this.2.2⟩
 ·have hla:=(Tr.Cp.walks F F hcp (Nat.le_refl _)).1;rw[←hla] at hz;intro h1;have key:∀ j:Nat,j<m→(f j).gone=false→hof hs (j:Int)=z→j=0:=fun j hj hgj e=>by
   apply Classical.byContradiction;intro hj0;rw[←e,Tr.eG (H.dx hj hgj)] at h1;have h2:(f j).kind=1:=h1;rcases H.km.2 j hj hj0 with h | h | h<;>omega
  rcases ER H.wf F _ _ hz with e6 | ⟨q2,e6,e7⟩
  ·exact h0 (key i hi hg e6.symm)
  ·obtain⟨y,hy,e8⟩:=H.im.dom z (by rw[e6];rfl);obtain⟨j,rfl,hj,hgj,-⟩:=jv hy;obtain rfl:=key j hj hgj e8;rw[←e8,H.dx hj hgj] at e6;obtain rfl:=Option.some.inj e6;apply e7;show hof hs (f 0).pa=0;rw[H.d0];exact H.im.zero
 ·by_cases e:j<m
  ·rw[hfo j e];exact H.ok.2 j e
  ·obtain⟨x',q,q',hx',e1,e2,e3,e4,e5,-,-⟩:=Tr.Cp.kid F hcm (j:Int) (nQ.2 ⟨j,rfl,by omega,hj⟩);obtain⟨i',rfl,hi',hgi',rfl⟩:=jk e1;rw[aM hj (hlv j (by omega) hj)] at e2;obtain rfl:=Option.some.inj e2;exact (H.ok.2 i' hi').same e3 e4 e5
end
def XZ (base bM T B M:Nat) (b s:Int) (vh:Value) (m:Nat) (hs:List Int) (K:Nat) (h:Int) (w4:World):Prop:=
 ∃ (vs' dw dP:Value) (n' aY k:Nat) (fr':List Nat) (iK:Int→Tr.Sl) (f':Nat→RS) (g':Tr.G),(Tr.ak g' h).length=k∧(∃ r,Tr.ak g' h=h::r)∧Tr.WF 0 g'∧TV base w4 B b s vs' n' (Tr.raw g' iK) dw fr' aY (hof hs 0)∧Sound b s n' (Tr.raw g' iK) fr' aY∧(g' h).isSome∧MV bM w4 M dP (m+k) f'∧oW w4 T B M vh hs∧k≤m∧
  (∀ x,vh.ownBlock=some x∨x=T→¬ aD B vs' dw x∧¬ aC M dP (m+k) f' x)∧
  ∀ (w5:World) (lV:Value),oW w5 T B M lV (hs++Tr.ak g' h)→Turns (fun k=>k=T∨vh.ownBlock=some k) w4 w5→(∀ k,lV.ownBlock=some k→vh.ownBlock=some k∨w4.heap.size≤k)→
   TW w5 base bM T B M b s vs' dw dP lV n' aY (m+k) fr' iK f' (hs++Tr.ak g' h) g' (K+1)
def aaX (base bM T B M:Nat) (b s:Int) (vs vf aP vh:Value) (n live m:Nat) (fr:List Nat) (av:Int→Tr.Sl) (f:Nat→RS) (hs:List Int) (g:Tr.G) (K:Nat) (h E:Int) (V3:World) (e:Ending) (w4:World):Prop:=
 e=.returned (.int .i64 E)∧Turns (aC M aP m f) V3 w4∧((E=10∧h=0∧TW w4 base bM T B M b s vs vf aP vh n live m fr av f hs g (K+1))∨(E=0∧XZ base bM T B M b s vh m hs K h w4))
def aaY (base bM T B M:Nat) (b s:Int) (vs vf aP vh:Value) (n live m:Nat) (fr:List Nat) (av:Int→Tr.Sl) (f:Nat→RS) (hs:List Int) (g:Tr.G) (K:Nat) (ia:Nat) (deep:Bool) (w:World) (e:Ending) (w3:World):Prop:=
 ∃ (h E:Int),e=.returned (.tuple #[.int .i64 h,.int .i64 E])∧((E=10∧h=0∧ia=0)∨(E=0∧ia≠0))∧Turns (aD B vs vf) w w3∧oW w3 T B M vh hs∧MV bM w3 M aP m f∧
  ∀ V3,Below w3.heap.size w3 V3→Calls Tryz.prog 94 #[.pointer (some ⟨M,0,none⟩),.int .i64 (ia:Int),.bool deep] V3 (aaX base bM T B M b s vs vf aP vh n live m fr av f hs g K h E V3)
section
variable {w:World} {base bM T B M:Nat} {b s:Int} {vs vf aP vh:Value} {n live m:Nat} {fr:List Nat} {av:Int→Tr.Sl} {f:Nat→RS} {hs:List Int} {g:Tr.G} {K:Nat}
theorem Nb {a m:Nat} (h:a≤m):a*a≤m*m:=Nat.mul_le_mul h h
theorem CS (H:TW w base bM T B M b s vs vf aP vh n live m fr av f hs g K) (hm:m≤300) (hK:K≤60) {ia:Nat} (hia:ia<m) (hga:(f ia).gone=false) (deep:Bool):
  Calls Tryz.prog 93 #[.pointer (some ⟨B,0,none⟩),.int .i64 (hof hs (ia:Int)),.bool deep] w (aaY base bM T B M b s vs vf aP vh n live m fr av f hs g K ia deep w):=by
 have eg:=H.dx hia hga;have hn:=H.nm;have hlv:=H.so.count;have hrd:(Tr.raw g av (hof hs (ia:Int))).getD Tr.yX=Tr.dW g av (hof hs (ia:Int)) (Tr.eD (hof hs) (jZ (f ia))):=by rw[Tr.aj eg];rfl
 by_cases h0:ia=0
 ·subst h0;refine (CQ base B b s (hof hs 0) _ 10 deep live n _ fr vs vf _ w H.tv H.so (H.i64 hia) hrd (.inr ⟨H.km.1,rfl⟩)).mono ?_;rintro e w3 ⟨rfl,hb3⟩;have H3:=H.below hb3;refine⟨0,10,rfl,.inl ⟨rfl,rfl,rfl⟩,.of_below hb3,H3.tw,H3.mv,fun V3 hb=>?_⟩;have H5:=H3.below hb;refine (GA M deep V3).mono ?_;rintro e w4 ⟨rfl,e4⟩;rw[e4];exact⟨rfl,.of_below (Below.refl _ _),.inl ⟨rfl,rfl,H5.up⟩⟩
 ·have hkk:(f ia).kind=2∨(f ia).kind=3∨(f ia).kind=4:=H.km.2 ia hia h0;have hk0:(Tr.eD (hof hs) (jZ (f ia))).kind≠0:=by show (f ia).kind≠0;omega
  have hk1:(Tr.eD (hof hs) (jZ (f ia))).kind≠1:=by show (f ia).kind≠1;omega
  have hbd:=H.bd ia hia;have la:(mg m f (ia:Int)).isSome:=by rw[aM hia hga];rfl
  have vU:=H.im.pull H.wf;cases deep with
  | false=>
   refine (JW base B b s (hof hs 0) _ live n g av fr vs vf _ w H.tv H.so H.at' H.wf eg hk0 hk1 (by show (f ia).at'.length≤_;omega) (by omega) (by omega)).mono ?_;rintro e w3 ⟨d,X,tb,rfl,vs',dw,n',aY,fr',sl,hgd,hd0,hn',yB,ES,at3,fF,-,-,-,-⟩;obtain⟨a1,a2,a3,a4,-⟩:=H.after fF;refine⟨d,0,rfl,.inr ⟨rfl,h0⟩,fF.1,a1,a2,fun V3 hb=>?_⟩;have hmv:=a2.below hb;refine (GD bM M m aP f ia V3 hmv hia hga (by omega) (by omega) h0).mono ?_;rintro e w4 ⟨rfl,nb,dP,slM,mv4,dJ,-,-⟩;have Gy:Tr.WF 0 (Tr.dK g d { (Tr.eD (hof hs) (jZ (f ia))) with pa:=0,kids:=[] }):=H.wf.add hgd hd0 rfl rfl;have ed:(Tr.dK g d { (Tr.eD (hof hs) (jZ (f ia))) with pa:=0,kids:=[] }) d=some { (Tr.eD (hof hs) (jZ (f ia))) with pa:=0,kids:=[] }:=Tr.bQ _ _ _;have ew:Tr.ak (Tr.dK g d { (Tr.eD (hof hs) (jZ (f ia))) with pa:=0,kids:=[] }) d=[d]:=by
    unfold Tr.ak;rw[Tr.walk,ed];rfl
   have LB:=at3 d _ ed;rw[Tr.lG] at LB;have hF3:∀ k,aD B vs' dw k→k<w3.heap.size:=fun k hk=>(yB.lt k hk).2;have hvl:∀ k,vh.ownBlock=some k→k<w3.heap.size:=fun k hk=>Nat.lt_of_lt_of_le (H.tw.row.lt k hk).2 fF.1.size;have Zj:=yB.below hb;have Wv:=a1.below hb;refine⟨rfl,dJ.1,.inr ⟨rfl,vs',dw,dP,n',aY,1,fr',_,_,_,by rw[ew];rfl,⟨[],ew⟩,Gy,Zj.turns dJ.1 (fun k hk hm=>a3 k hk hm),ES,by rw[ed];rfl,mv4,⟨Wv.var.turns dJ.1 H.K6.2,Wv.row.turns dJ.1 fun k hk=>(H.zw k hk).2⟩,by omega,?_,fun w5 lV h5 t5 hv5=>?_⟩⟩
   ·rintro k (hk | rfl)
    ·exact⟨a4 k hk,fun Ww=>(H.zw k hk).2 (dJ.2 k (Nat.lt_of_lt_of_le (hvl k hk) hb.size) Ww)⟩
    ·exact⟨yB.aV a1.var (by decide) (by decide) (by decide),fun Ww=>H.K6.2 (dJ.2 _ Wv.var.lt Ww)⟩
   ·rw[ew] at h5 ⊢;exact H.made (x:=⟨(f ia).kind,(f ia).name,slM,(f ia).at',(f ia).data,-1,⟨none,0,0⟩,[],false⟩) (by omega) ⟨rfl,rfl,rfl,hkk⟩ ⟨by show (f ia).at'.length≤_;omega,by show (f ia).data.size≤_;omega,hbd.2.2⟩ ((H.ok.2 ia hia).same rfl rfl rfl) hgd hd0 hn' Zj ES Gy (LB.below hb) (fF.trans (.of_below hb)) mv4 dJ h5 t5 hv5
  | true=>
   have hwl:(Tr.ak g (hof hs (ia:Int))).length≤m:=H.im.GH H.wf hia hga;have hup:=(H.wf.cu (hof hs (ia:Int))).2;obtain⟨F,hF⟩:∃ F,F+(Tr.aS g (hof hs (ia:Int))).length=129:=⟨129 - (Tr.aS g (hof hs (ia:Int))).length,by omega⟩
   have PS:(Tr.aS g (hof hs (ia:Int))).length=(Tr.aS (mg m f) (ia:Int)).length:=by rw[H.im.up H.wf (.inr la),List.length_map]
   have hFm:F+(Tr.aS (mg m f) (ia:Int)).length=129:=by rw[←PS];exact hF
   have hwg:=H.wf.zV hF;have hwm:=vU.zV hFm;have hwal:(Tr.ak (mg m f) (ia:Int)).length=(Tr.ak g (hof hs (ia:Int))).length:=by rw[H.im.walk H.wf _ la,List.length_map]
   have hsq:(Tr.ak g (hof hs (ia:Int))).length*(Tr.ak g (hof hs (ia:Int))).length≤300*300:=Nb (by omega);refine (JX base B b s (hof hs 0) _ F live n g av fr vs vf _ w H.tv H.so H.at' H.wf eg hk0 hk1 (fun y _ q e=>?_) hF (by omega) (by omega)).mono ?_
   ·obtain⟨y',hy,rfl⟩:=H.im.dom y (by rw[e];rfl);obtain⟨j,rfl,hj,hgj,-⟩:=jv hy;rw[H.dx hj hgj] at e;obtain rfl:=Option.some.inj e;show (f j).at'.length≤_;have:=(H.bd j hj).1;omega
   rintro e w3 ⟨d,rfl,d',ds,vs',dw,n',aY,fr',iK,g',ed,hn',yB,ES,Gy,at3,fF,hcp,hnd,hfr,hold⟩;obtain rfl:d'=d:=by injection ed with ed;injection ed with _ ed;exact ed.symm
   obtain⟨a1,a2,a3,a4,-⟩:=H.after fF;have hdl:ds.length=(Tr.ak g (hof hs (ia:Int))).length:=by rw[←Tr.Cp.len F hcp,hwg]
   refine⟨d',0,rfl,.inr ⟨rfl,h0⟩,fF.1,a1,a2,fun V3 hb=>?_⟩;have hmv:=a2.below hb;refine (GI bM M F m aP f ia V3 hmv (vU.full F _ hFm la) (by rw[hwm];omega) (fun j hj=>?_) h0).mono ?_
   ·obtain⟨-,hz⟩:=And.intro trivial hj;have hjl:=(Full.all F _ (vU.full F _ hFm la) _ hj).1;obtain⟨j',e1,hj1,-⟩:=jv hjl;obtain rfl:j=j':=by omega
    have:=(H.bd j hj1).1;omega
   rintro e w4 ⟨rfl,u,u',dP,k,f',-,mv4,dJ,hO,aaZ,hcm⟩;have hkk':ds.length=k:=by
    have h1:=Tr.Cp.len F hcm;rw[GJ,hwm,hwal] at h1;omega
   have ew:Tr.ak g' d'=ds:=(Tr.Cp.walks F 129 hcp (by omega)).2;obtain⟨r1,r2,-,hr2⟩:=Tr.Cp.head hcp;have hvl:∀ x,vh.ownBlock=some x→x<w3.heap.size:=fun x hx=>Nat.lt_of_lt_of_le (H.tw.row.lt x hx).2 fF.1.size;have Zj:=yB.below hb;have Wv:=a1.below hb;have LB:=at3.below hb;refine⟨rfl,dJ.1,.inr ⟨rfl,vs',dw,dP,n',aY,k,fr',iK,f',g',by rw[ew];exact hkk',⟨r2,by rw[ew];exact hr2⟩,Gy,Zj.turns dJ.1 (fun x hx hm=>a3 x hx hm),ES,(Tr.Cp.live F hcp).2 d' (by rw[hr2];simp),mv4,⟨Wv.var.turns dJ.1 H.K6.2,Wv.row.turns dJ.1 fun x hx=>(H.zw x hx).2⟩,by omega,?_,fun w5 lV h5 t5 hv5=>?_⟩⟩
   ·rintro x (hx | rfl)
    ·exact⟨a4 x hx,fun Ww=>(H.zw x hx).2 (dJ.2 x (Nat.lt_of_lt_of_le (hvl x hx) hb.size) Ww)⟩
    ·exact⟨yB.aV a1.var (by decide) (by decide) (by decide),fun Ww=>H.K6.2 (dJ.2 _ Wv.var.lt Ww)⟩
   ·rw[ew] at h5 ⊢;exact H.copied hia hga h0 (by omega) hkk' (by omega) Zj ES Gy LB (fF.trans (.of_below hb)) hcp hnd hfr hold mv4 dJ hO aaZ hcm h5 t5 hv5
end
end
end Go.Proofs.YtmhjlifmcadefaaGreatDoor
