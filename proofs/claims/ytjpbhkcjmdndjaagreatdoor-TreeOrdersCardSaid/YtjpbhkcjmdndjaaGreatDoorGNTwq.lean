/- Part of a proof about trees. -/
import Derived.Test.YtjpbhkcjmdndjaaGreatDoorS06
set_option linter.unusedVariables false
set_option linter.unusedSimpArgs false
set_option linter.unusedSectionVars false
namespace Go.Proofs.YtjpbhkcjmdndjaaGreatDoor
section
open Go.RowKit
variable [mY]
theorem yj {hs ds:List Int} {x:Int} (hx:x<(hs.length:Int)):hof (hs++ds) x=hof hs x:=by
 unfold hof
 split
 ·rfl
 ·rw[List.getD_eq_getElem?_getD,List.getD_eq_getElem?_getD,List.getElem?_append_left (by omega)]
theorem yt {hs:List Int}:∀ {ds:List Int} {pre:List Int},hs.length+pre.length=hs.length+pre.length→(oU (hs.length+pre.length) ds.length).map (hof (hs++pre++ds))=ds
 | [],pre,_=>rfl
 | d::r,pre,_=>by
  rw[List.length_cons,CF,List.map_cons];have h1:hof (hs++pre++d::r) ((hs.length+pre.length:Nat):Int)=d:=by
   refine sF ?_;rw[List.getElem?_append_right (by rw[List.length_append];exact Nat.le_refl _),List.length_append,Nat.sub_self];rfl
  have h2:=yt (hs:=hs) (ds:=r) (pre:=pre++[d]) rfl;rw[h1];congr 1;rw[show hs++pre++d::r=hs++(pre++[d])++r by simp];rw[List.length_append,List.length_singleton] at h2;exact h2
theorem Eh {a:Tr.G} {u:Int} (w:Tr.WF u a):∀ (F:Nat) (x z:Int),z∈Tr.walk a F x→z=x∨∃ q,a z=some q∧q.pa≠u
 | 0,x,z,h=>by rw[Tr.walk] at h;cases h
 | F+1,x,z,h=>by
  rw[Tr.walk] at h;cases e:a x with
  | none=>rw[e] at h;cases h
  | some n=>
   rw[e] at h;rcases List.mem_cons.1 h with h | h
   ·exact .inl h
   ·obtain⟨k,hk,hz⟩:=List.mem_flatMap.1 h;rcases Eh w F k z hz with e1 | e1
    ·subst e1;obtain⟨q,e2,e3⟩:=w.down x n z e hk;refine .inr ⟨q,e2,fun e4=>?_⟩;rw[e3] at e4;subst e4;rw[w.zero] at e;cases e
    ·exact .inr e1
theorem CS {g g':Tr.G}:∀ (f:Nat) {x y q:Int} {lx ly:List Int},Tr.Cp g g' f x y q lx ly→∀ z∈ly,∃ x',x'∈lx∧∃ n n',g x'=some n∧g' z=some n'∧n'.kind=n.kind∧n'.attrs=n.attrs∧n'.data=n.data
 | 0,_,_,_,_,_,h=>h.elim
 | f+1,x,y,q,lx,ly,h=>by
  obtain⟨n,ys,l,m,e1,e2,h3,rfl,rfl⟩:=h;have key:∀ {xs ys l m:List Int},Tr.rC (fun a b l m=>Tr.Cp g g' f a b y l m) xs ys l m→∀ z∈m,∃ x',x'∈l∧∃ n n',g x'=some n∧g' z=some n'∧n'.kind=n.kind∧n'.attrs=n.attrs∧n'.data=n.data:=by
   intro xs ys l m h
   induction h with
   | nil=>intro z hz;cases hz
   | cons h1 h2 ih=>
    intro z hz;rcases List.mem_append.1 hz with hz | hz
    ·obtain⟨x',hx,r⟩:=CS f h1 z hz;exact⟨x',List.mem_append_left _ hx,r⟩
    ·obtain⟨x',hx,r⟩:=ih z hz;exact⟨x',List.mem_append_right _ hx,r⟩
  intro z hz;rcases List.mem_cons.1 hz with rfl | hz
  ·exact⟨x,by simp,n,_,e1,e2,rfl,rfl,rfl⟩
  ·obtain⟨x',hx,r⟩:=key h3 z hz;exact⟨x',List.mem_cons_of_mem _ hx,r⟩
section
variable {w w3 w4 w5:World} {base bM T B M:Nat} {b s:Int} {vs vf aQ vh vs' bV dS l7:Value} {n live m n' aW k F:Nat} {fr fr':List Nat} {av iR:Int→Tr.Sl} {f f':Nat→RS} {hs ds la lx:List Int} {g g':Tr.G} {K:Nat}
theorem TW.copied (H:TW w base bM T B M b s vs vf aQ vh n live m fr av f hs g K) {i:Nat} {d:Int} (hi:i<m) (hg:(f i).gone=false) (h0:i≠0) (hml:m+k≤700) (hk:ds.length=k) (hn':n'≤n+k)
  (yu:TV base w3 B b s vs' n' (Tr.raw g' iR) bV fr' aW (hof hs 0)) (Ei:Sound b s n' (Tr.raw g' iR) fr' aW) (Gm:Tr.WF 0 g') (at3:AT w3 g' iR) (fK:aB w w3 (aD B vs vf) (aD B vs' bV))
  (hcp:Tr.Cp g g' F (hof hs (i:Int)) d 0 la ds) (hnd:ds.Nodup) (hfr:∀ z∈ds,g z=none∧z≠0) (hold:∀ z,z∉ds→g' z=g z)
  (mv4:MV bM w4 M dS (m+k) f') (dK:aB w3 w4 (aC M aQ m f) (aC M dS (m+k) f')) (hO:F6 m f f' (-1) (m:Int)) (hlv:∀ j,m≤j→j<m+k→(f' j).gone=false) (hcm:Tr.Cp (mg m f) (mg (m+k) f') F (i:Int) (m:Int) (-1) (Tr.walk (mg m f) F (i:Int)) (oU m k))
  (TN:pF w5 T B M l7 (hs++ds)) (t5:Turns (fun k=>k=T∨vh.ownBlock=some k) w4 w5) (hv5:∀ k,l7.ownBlock=some k→vh.ownBlock=some k∨w4.heap.size≤k):
  TW w5 base bM T B M b s vs' bV dS l7 n' aW (m+k) fr' iR f' (hs++ds) g' (K+1):=by
 obtain⟨a1,a2,a3,a4,a5⟩:=H.after fK;have QH:∀ k,aD B vs' bV k→k<w3.heap.size:=fun k hk=>(yu.lt k hk).2;have hvl:∀ k,vh.ownBlock=some k→k<w3.heap.size:=fun k hk=>Nat.lt_of_lt_of_le (H.tw.row.lt k hk).2 fK.1.size;have WZ:T<w3.heap.size:=a1.var.lt;have hFT:¬ aD B vs' bV T:=yu.aU a1.var (by decide) (by decide) (by decide);have hMT:¬ aC M dS (m+k) f' T:=fun hm=>H.Ku.2 (dK.2 T WZ hm);have Vi:∀ x,aD B vs' bV x→¬ aC M dS (m+k) f' x:=fun x hf hm=>a3 x hf (dK.2 x (QH x hf) hm);have JF:∀ x,vh.ownBlock=some x→¬ aD B vs' bV x∧¬ aC M dS (m+k) f' x:=fun x hx=>⟨a4 x hx,fun hm=>(H.yV x hx).2 (dK.2 x (hvl x hx) hm)⟩
 have Wj:∀ x,aD B vs' bV x→x<w4.heap.size:=fun x hx=>Nat.lt_of_lt_of_le (QH x hx) dK.1.size;have Ef:∀ x,aC M dS (m+k) f' x→x<w4.heap.size:=fun x hx=>(mv4.lt x hx).2;have hfo:∀ j,j<m→f' j=f j:=fun j hj=>hO.1 j hj (by omega);have hlen:(hs++ds).length=m+k:=by rw[List.length_append,H.len,hk]
 have O4:hof (hs++ds) 0=hof hs 0:=yj (by have:=H.len;have:=H.m0;omega);have tv5:TV base w5 B b s vs' n' (Tr.raw g' iR) bV fr' aW (hof hs 0):=(yu.turns dK.1 (fun x hx hm=>a3 x hx hm)).turns t5 (fun x hx hv=>hv.elim (fun e=>hFT (e▸hx)) (fun e=>(JF x e).1 hx));have Ru:AT w4 g' iR:=at3.K4 a2 dK;have hA:AT w5 g' iR:=Ru.turns t5 fun y q e x hx hv=>by
  have hr:=Ru y q e;rcases hv with e1 | e1
  ·exact TR.unlike hr (a1.var.turns dK.1 H.Ku.2) (by decide) (by rw[hx,e1])
  ·exact TR.ne hr (a1.row.turns dK.1 fun x hx=>(H.yV x hx).2) (by decide) x hx e1
 have vR:=H.im.pull H.wf;have hsrc:∀ j,m≤j→j<m+k→∃ i':Nat,i'<m∧i'≠0∧(f' j).kind=(f i').kind∧(f' j).at'=(f i').at'∧(f' j).data=(f i').data:=fun j hj1 hj2=>by
  obtain⟨x',hx',q,q',e1,e2,e3,e4,e5⟩:=CS F hcm (j:Int) (nS.2 ⟨j,rfl,hj1,hj2⟩);obtain⟨i',rfl,hi',hgi',rfl⟩:=kZ e1;rw[aP hj2 (hlv j hj1 hj2)] at e2;obtain rfl:=Option.some.inj e2;refine⟨i',hi',fun e0=>?_,e3,e4,e5⟩;subst e0;rcases Eh vR F _ _ hx' with e6 | ⟨q2,e6,e7⟩
  ·omega
  ·rw[aP hi' hgi'] at e6;obtain rfl:=Option.some.inj e6;exact e7 H.d0
 refine⟨TN,by rw[O4];exact tv5,Ei,hA,Gm,mv4.turns t5 (fun x hm hv=>hv.elim (fun e=>hMT (e▸hm)) (fun e=>(JF x e).2 hm)),?_,?_,hlen,by rw[hfo 0 H.m0];exact H.g0,by have:=H.m0;omega,?_,by have:=H.nm;omega,Vi,?_,by rw[hfo 0 H.m0];exact H.d0,?_,⟨((H.kp.1.trans (fK.1.below H.uS fun k hk=>Nat.le_trans H.kp.2.1 (H.tv.lt k hk).1)).trans (dK.1.below (Nat.le_trans H.uS fK.1.size) fun k hk=>Nat.le_trans H.kp.2.2.1 (H.mv.lt k hk).1)).trans (t5.below (Nat.le_trans (Nat.le_trans H.uS fK.1.size) dK.1.size) fun k hk=>by rcases hk with e | e;exact e▸H.kp.2.2.2.1;exact H.kp.2.2.2.2 k e),H.kp.2.1,H.kp.2.2.1,H.kp.2.2.2.1,fun k hk=>by rcases hv5 k hk with e | e;exact H.kp.2.2.2.2 k e;exact Nat.le_trans (Nat.le_trans (Nat.le_trans H.uS fK.1.size) dK.1.size) e⟩,hml,⟨H.ok.1.copy H.wf hcp (fun z hz=>?_) (fun z hz=>(hfr z hz).1) hold,fun j hj=>?_⟩,((H.ks.a fK).m dK).t t5 hv5⟩
 ·refine H.im.copy hcm hcp (fun y hy=>?_) ?_ (fun z hz=>?_) hold (fun z hz=>⟨yw hz,fun e=>?_⟩) hfr hnd
  ·rcases hy with rfl | hy
   ·rw[mK,mK]
   ·obtain⟨j,rfl,hj,-⟩:=jq hy;exact yj (by rw[H.len];omega)
  ·have:=yt (hs:=hs) (ds:=ds) (pre:=[]) rfl;rw[List.append_nil,List.length_nil,Nat.add_zero,H.len,hk] at this;exact this
  ·rw[hO.tree z hz];unfold BI
   split
   ·rename_i e;subst e;rw[H.im.neg];rfl
   ·rfl
  ·obtain⟨j,e1,_⟩:=nS.1 hz;omega
 ·refine⟨by rw[hfo 0 H.m0];exact H.km.1,fun j hj hj0=>?_⟩;by_cases e:j<m
  ·rw[hfo j e];exact H.km.2 j e hj0
  ·obtain⟨i',h1,h2,h3,-⟩:=hsrc j (by omega) hj;rw[h3];exact H.km.2 i' h1 h2
 ·intro j hj hgj;by_cases e:j<m
  ·rw[hfo j e] at hgj;rw[List.getElem?_append_left (by rw[H.len];omega)];exact H.gn j e hgj
  ·rw[hlv j (by omega) hj] at hgj;cases hgj
 ·intro x hx;rcases hv5 x hx with e | e
  ·exact JF x e
  ·exact⟨fun hf=>by have:=Wj x hf;omega,fun hm=>by have:=Ef x hm;omega⟩
 ·intro j hj;by_cases e:j<m
  ·rw[hfo j e];have:=H.bd j e;exact⟨by omega,by omega,this.2.2⟩
  ·obtain⟨i',h1,h2,h3,h4,h5⟩:=hsrc j (by omega) hj;rw[h4,h5];have:=H.bd i' h1;exact⟨by omega,by omega,this.2.2⟩
 ·have hla:=(Tr.Cp.walks F F hcp (Nat.le_refl _)).1;rw[←hla] at hz;intro h1;have key:∀ j:Nat,j<m→(f j).gone=false→hof hs (j:Int)=z→j=0:=fun j hj hgj e=>by
   apply Classical.byContradiction;intro hj0;rw[←e,Tr.dA (H.dJ hj hgj)] at h1;have h2:(f j).kind=1:=h1;rcases H.km.2 j hj hj0 with h | h | h<;>omega
  rcases Eh H.wf F _ _ hz with e6 | ⟨q2,e6,e7⟩
  ·exact h0 (key i hi hg e6.symm)
  ·obtain⟨y,hy,e8⟩:=H.im.dom z (by rw[e6];rfl);obtain⟨j,rfl,hj,hgj,-⟩:=jq hy;obtain rfl:=key j hj hgj e8;rw[←e8,H.dJ hj hgj] at e6;obtain rfl:=Option.some.inj e6;apply e7;show hof hs (f 0).pa=0;rw[H.d0];exact H.im.zero
 ·by_cases e:j<m
  ·rw[hfo j e];exact H.ok.2 j e
  ·obtain⟨x',q,q',hx',e1,e2,e3,e4,e5,-,-⟩:=Tr.Cp.kid F hcm (j:Int) (nS.2 ⟨j,rfl,by omega,hj⟩);obtain⟨i',rfl,hi',hgi',rfl⟩:=kZ e1;rw[aP hj (hlv j (by omega) hj)] at e2;obtain rfl:=Option.some.inj e2;exact (H.ok.2 i' hi').same e3 e4 e5
end
def WX (base bM T B M:Nat) (b s:Int) (vh:Value) (m:Nat) (hs:List Int) (K:Nat) (h:Int) (w4:World):Prop:=
 ∃ (vs' bV dS:Value) (n' aW k:Nat) (fr':List Nat) (iR:Int→Tr.Sl) (f':Nat→RS) (g':Tr.G),(Tr.ak g' h).length=k∧(∃ r,Tr.ak g' h=h::r)∧Tr.WF 0 g'∧TV base w4 B b s vs' n' (Tr.raw g' iR) bV fr' aW (hof hs 0)∧Sound b s n' (Tr.raw g' iR) fr' aW∧(g' h).isSome∧MV bM w4 M dS (m+k) f'∧pF w4 T B M vh hs∧k≤m∧
  (∀ x,vh.ownBlock=some x∨x=T→¬ aD B vs' bV x∧¬ aC M dS (m+k) f' x)∧
  ∀ (w5:World) (l7:Value),pF w5 T B M l7 (hs++Tr.ak g' h)→Turns (fun k=>k=T∨vh.ownBlock=some k) w4 w5→(∀ k,l7.ownBlock=some k→vh.ownBlock=some k∨w4.heap.size≤k)→
   TW w5 base bM T B M b s vs' bV dS l7 n' aW (m+k) fr' iR f' (hs++Tr.ak g' h) g' (K+1)
def aa2 (base bM T B M:Nat) (b s:Int) (vs vf aQ vh:Value) (n live m:Nat) (fr:List Nat) (av:Int→Tr.Sl) (f:Nat→RS) (hs:List Int) (g:Tr.G) (K:Nat) (h E:Int) (V3:World) (e:Ending) (w4:World):Prop:=
 e=.returned (.int .i64 E)∧Turns (aC M aQ m f) V3 w4∧((E=10∧h=0∧TW w4 base bM T B M b s vs vf aQ vh n live m fr av f hs g (K+1))∨(E=0∧WX base bM T B M b s vh m hs K h w4))
def aa3 (base bM T B M:Nat) (b s:Int) (vs vf aQ vh:Value) (n live m:Nat) (fr:List Nat) (av:Int→Tr.Sl) (f:Nat→RS) (hs:List Int) (g:Tr.G) (K:Nat) (ia:Nat) (deep:Bool) (w:World) (e:Ending) (w3:World):Prop:=
 ∃ (h E:Int),e=.returned (.tuple #[.int .i64 h,.int .i64 E])∧((E=10∧h=0∧ia=0)∨(E=0∧ia≠0))∧Turns (aD B vs vf) w w3∧pF w3 T B M vh hs∧MV bM w3 M aQ m f∧
  ∀ V3,Below w3.heap.size w3 V3→Calls Tryz.prog 79 #[.pointer (some ⟨M,0,none⟩),.int .i64 (ia:Int),.bool deep] V3 (aa2 base bM T B M b s vs vf aQ vh n live m fr av f hs g K h E V3)
section
variable {w:World} {base bM T B M:Nat} {b s:Int} {vs vf aQ vh:Value} {n live m:Nat} {fr:List Nat} {av:Int→Tr.Sl} {f:Nat→RS} {hs:List Int} {g:Tr.G} {K:Nat}
theorem Ms {a m:Nat} (h:a≤m):a*a≤m*m:=Nat.mul_le_mul h h
theorem BU (H:TW w base bM T B M b s vs vf aQ vh n live m fr av f hs g K) (hm:m≤300) (hK:K≤60) {ia:Nat} (hia:ia<m) (hga:(f ia).gone=false) (deep:Bool):
  Calls Tryz.prog 78 #[.pointer (some ⟨B,0,none⟩),.int .i64 (hof hs (ia:Int)),.bool deep] w (aa3 base bM T B M b s vs vf aQ vh n live m fr av f hs g K ia deep w):=by
 have eg:=H.dJ hia hga;have hn:=H.nm;have hlv:=H.so.count;have hrd:(Tr.raw g av (hof hs (ia:Int))).getD Tr.Bl=Tr.fA g av (hof hs (ia:Int)) (Tr.fC (hof hs) (lH (f ia))):=by rw[Tr.aj eg];rfl
 by_cases h0:ia=0
 ·subst h0;refine (BS base B b s (hof hs 0) _ 10 deep live n _ fr vs vf _ w H.tv H.so (H.i64 hia) hrd (.inr ⟨H.km.1,rfl⟩)).mono ?_;rintro e w3 ⟨rfl,hb3⟩;have H3:=H.below hb3;refine⟨0,10,rfl,.inl ⟨rfl,rfl,rfl⟩,.of_below hb3,H3.tw,H3.mv,fun V3 hb=>?_⟩;have H5:=H3.below hb;refine (Gn M deep V3).mono ?_;rintro e w4 ⟨rfl,e4⟩;rw[e4];exact⟨rfl,.of_below (Below.refl _ _),.inl ⟨rfl,rfl,H5.up⟩⟩
 ·have hkk:(f ia).kind=2∨(f ia).kind=3∨(f ia).kind=4:=H.km.2 ia hia h0;have hk0:(Tr.fC (hof hs) (lH (f ia))).kind≠0:=by show (f ia).kind≠0;omega
  have hk1:(Tr.fC (hof hs) (lH (f ia))).kind≠1:=by show (f ia).kind≠1;omega
  have hbd:=H.bd ia hia;have la:(mg m f (ia:Int)).isSome:=by rw[aP hia hga];rfl
  have vR:=H.im.pull H.wf;cases deep with
  | false=>
   refine (JG base B b s (hof hs 0) _ live n g av fr vs vf _ w H.tv H.so H.at' H.wf eg hk0 hk1 (by show (f ia).at'.length≤_;omega) (by omega) (by omega)).mono ?_;rintro e w3 ⟨d,X,tb,rfl,vs',bV,n',aW,fr',sl,hgd,hd0,hn',yu,Ei,at3,fK,-,-,-,-⟩;obtain⟨a1,a2,a3,a4,-⟩:=H.after fK;refine⟨d,0,rfl,.inr ⟨rfl,h0⟩,fK.1,a1,a2,fun V3 hb=>?_⟩;have hmv:=a2.below hb;refine (Gp bM M m aQ f ia V3 hmv hia hga (by omega) (by omega) h0).mono ?_;rintro e w4 ⟨rfl,nb,dS,slM,mv4,dK,-,-⟩;have Gm:Tr.WF 0 (Tr.dI g d { (Tr.fC (hof hs) (lH (f ia))) with pa:=0,kids:=[] }):=H.wf.add hgd hd0 rfl rfl;have ed:(Tr.dI g d { (Tr.fC (hof hs) (lH (f ia))) with pa:=0,kids:=[] }) d=some { (Tr.fC (hof hs) (lH (f ia))) with pa:=0,kids:=[] }:=Tr.bL _ _ _;have ew:Tr.ak (Tr.dI g d { (Tr.fC (hof hs) (lH (f ia))) with pa:=0,kids:=[] }) d=[d]:=by
    unfold Tr.ak;rw[Tr.walk,ed];rfl
   have K5:=at3 d _ ed;rw[Tr.lK] at K5;have hF3:∀ k,aD B vs' bV k→k<w3.heap.size:=fun k hk=>(yu.lt k hk).2;have hvl:∀ k,vh.ownBlock=some k→k<w3.heap.size:=fun k hk=>Nat.lt_of_lt_of_le (H.tw.row.lt k hk).2 fK.1.size;have YB:=yu.below hb;have Vj:=a1.below hb;refine⟨rfl,dK.1,.inr ⟨rfl,vs',bV,dS,n',aW,1,fr',_,_,_,by rw[ew];rfl,⟨[],ew⟩,Gm,YB.turns dK.1 (fun k hk hm=>a3 k hk hm),Ei,by rw[ed];rfl,mv4,⟨Vj.var.turns dK.1 H.Ku.2,Vj.row.turns dK.1 fun k hk=>(H.yV k hk).2⟩,by omega,?_,fun w5 l7 h5 t5 hv5=>?_⟩⟩
   ·rintro k (hk | rfl)
    ·exact⟨a4 k hk,fun Vk=>(H.yV k hk).2 (dK.2 k (Nat.lt_of_lt_of_le (hvl k hk) hb.size) Vk)⟩
    ·exact⟨yu.aU a1.var (by decide) (by decide) (by decide),fun Vk=>H.Ku.2 (dK.2 _ Vj.var.lt Vk)⟩
   ·rw[ew] at h5 ⊢;exact H.made (x:=⟨(f ia).kind,(f ia).name,slM,(f ia).at',(f ia).data,-1,⟨none,0,0⟩,[],false⟩) (by omega) ⟨rfl,rfl,rfl,hkk⟩ ⟨by show (f ia).at'.length≤_;omega,by show (f ia).data.size≤_;omega,hbd.2.2⟩ ((H.ok.2 ia hia).same rfl rfl rfl) hgd hd0 hn' YB Ei Gm (K5.below hb) (fK.trans (.of_below hb)) mv4 dK h5 t5 hv5
  | true=>
   have hwl:(Tr.ak g (hof hs (ia:Int))).length≤m:=H.im.Gq H.wf hia hga;have hup:=(H.wf.bY (hof hs (ia:Int))).2;obtain⟨F,hF⟩:∃ F,F+(Tr.aY g (hof hs (ia:Int))).length=129:=⟨129 - (Tr.aY g (hof hs (ia:Int))).length,by omega⟩
   have O5:(Tr.aY g (hof hs (ia:Int))).length=(Tr.aY (mg m f) (ia:Int)).length:=by rw[H.im.up H.wf (.inr la),List.length_map]
   have hFm:F+(Tr.aY (mg m f) (ia:Int)).length=129:=by rw[←O5];exact hF
   have hwg:=H.wf.zx hF;have hwm:=vR.zx hFm;have hwal:(Tr.ak (mg m f) (ia:Int)).length=(Tr.ak g (hof hs (ia:Int))).length:=by rw[H.im.walk H.wf _ la,List.length_map]
   have hsq:(Tr.ak g (hof hs (ia:Int))).length*(Tr.ak g (hof hs (ia:Int))).length≤300*300:=Ms (by omega);refine (JH base B b s (hof hs 0) _ F live n g av fr vs vf _ w H.tv H.so H.at' H.wf eg hk0 hk1 (fun y _ q e=>?_) hF (by omega) (by omega)).mono ?_
   ·obtain⟨y',hy,rfl⟩:=H.im.dom y (by rw[e];rfl);obtain⟨j,rfl,hj,hgj,-⟩:=jq hy;rw[H.dJ hj hgj] at e;obtain rfl:=Option.some.inj e;show (f j).at'.length≤_;have:=(H.bd j hj).1;omega
   rintro e w3 ⟨d,rfl,d',ds,vs',bV,n',aW,fr',iR,g',ed,hn',yu,Ei,Gm,at3,fK,hcp,hnd,hfr,hold⟩;obtain rfl:d'=d:=by injection ed with ed;injection ed with _ ed;exact ed.symm
   obtain⟨a1,a2,a3,a4,-⟩:=H.after fK;have hdl:ds.length=(Tr.ak g (hof hs (ia:Int))).length:=by rw[←Tr.Cp.len F hcp,hwg]
   refine⟨d',0,rfl,.inr ⟨rfl,h0⟩,fK.1,a1,a2,fun V3 hb=>?_⟩;have hmv:=a2.below hb;refine (Gs bM M F m aQ f ia V3 hmv (vR.full F _ hFm la) (by rw[hwm];omega) (fun j hj=>?_) h0).mono ?_
   ·obtain⟨-,hz⟩:=And.intro trivial hj;have hjl:=(Full.all F _ (vR.full F _ hFm la) _ hj).1;obtain⟨j',e1,hj1,-⟩:=jq hjl;obtain rfl:j=j':=by omega
    have:=(H.bd j hj1).1;omega
   rintro e w4 ⟨rfl,u,u',dS,k,f',-,mv4,dK,hO,aa4,hcm⟩;have hkk':ds.length=k:=by
    have h1:=Tr.Cp.len F hcm;rw[Gt,hwm,hwal] at h1;omega
   have ew:Tr.ak g' d'=ds:=(Tr.Cp.walks F 129 hcp (by omega)).2;obtain⟨r1,r2,-,hr2⟩:=Tr.Cp.head hcp;have hvl:∀ x,vh.ownBlock=some x→x<w3.heap.size:=fun x hx=>Nat.lt_of_lt_of_le (H.tw.row.lt x hx).2 fK.1.size;have YB:=yu.below hb;have Vj:=a1.below hb;have K5:=at3.below hb;refine⟨rfl,dK.1,.inr ⟨rfl,vs',bV,dS,n',aW,k,fr',iR,f',g',by rw[ew];exact hkk',⟨r2,by rw[ew];exact hr2⟩,Gm,YB.turns dK.1 (fun x hx hm=>a3 x hx hm),Ei,(Tr.Cp.live F hcp).2 d' (by rw[hr2];simp),mv4,⟨Vj.var.turns dK.1 H.Ku.2,Vj.row.turns dK.1 fun x hx=>(H.yV x hx).2⟩,by omega,?_,fun w5 l7 h5 t5 hv5=>?_⟩⟩
   ·rintro x (hx | rfl)
    ·exact⟨a4 x hx,fun Vk=>(H.yV x hx).2 (dK.2 x (Nat.lt_of_lt_of_le (hvl x hx) hb.size) Vk)⟩
    ·exact⟨yu.aU a1.var (by decide) (by decide) (by decide),fun Vk=>H.Ku.2 (dK.2 _ Vj.var.lt Vk)⟩
   ·rw[ew] at h5 ⊢;exact H.copied hia hga h0 (by omega) hkk' (by omega) YB Ei Gm K5 (fK.trans (.of_below hb)) hcp hnd hfr hold mv4 dK hO aa4 hcm h5 t5 hv5
end
end
end Go.Proofs.YtjpbhkcjmdndjaaGreatDoor
