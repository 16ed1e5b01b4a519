/- Part of a proof about trees: NTwq. -/
import Derived.Test.YtnbaadpgbcklaaaGreatDoorS06
set_option linter.unusedVariables false
set_option linter.unusedSimpArgs false
set_option linter.unusedSectionVars false
namespace Go.Proofs.YtnbaadpgbcklaaaGreatDoor
section
open Go.RowKit
variable [nX]
theorem xQ {hs ds:List Int} {x:Int} (hx:x<(hs.length:Int)):hof (hs++ds) x=hof hs x:=by
 unfold hof
 split
 ·rfl
 ·rw[List.getD_eq_getElem?_getD,List.getD_eq_getElem?_getD,List.getElem?_append_left (by omega)]
theorem xR {hs:List Int}:∀ {ds:List Int} {pre:List Int},hs.length+pre.length=hs.length+pre.length→(oM (hs.length+pre.length) ds.length).map (hof (hs++pre++ds))=ds
 | [],pre,_=>rfl
 | d::r,pre,_=>by
  rw[List.length_cons,BP,List.map_cons];have h1:hof (hs++pre++d::r) ((hs.length+pre.length:Nat):Int)=d:=by
   refine sw ?_;rw[List.getElem?_append_right (by rw[List.length_append];exact Nat.le_refl _),List.length_append,Nat.sub_self];rfl
  have h2:=xR (hs:=hs) (ds:=r) (pre:=pre++[d]) rfl;rw[h1];congr 1;rw[show hs++pre++d::r=hs++(pre++[d])++r by simp];rw[List.length_append,List.length_singleton] at h2;exact h2
theorem JL {a:Tr.G} (w:Tr.WF (-1) a):∀ (F:Nat) (x z:Int),z∈Tr.walk a F x→z=x∨∃ q,a z=some q∧q.pa ≠ -1
 | 0,x,z,h=>by rw[Tr.walk] at h;cases h
 | F+1,x,z,h=>by
  rw[Tr.walk] at h;cases e:a x with
  | none=>rw[e] at h;cases h
  | some n=>
   rw[e] at h;rcases List.mem_cons.1 h with h | h
   ·exact .inl h
   ·obtain⟨k,hk,hz⟩:=List.mem_flatMap.1 h;rcases JL w F k z hz with e1 | e1
    ·subst e1;obtain⟨q,e2,e3⟩:=w.down x n z e hk;refine .inr ⟨q,e2,fun e4=>?_⟩;rw[e3] at e4;subst e4;rw[w.zero] at e;cases e
    ·exact .inr e1
theorem Ca {g g':Tr.G}:∀ (f:Nat) {x y q:Int} {lx ly:List Int},Tr.Cp g g' f x y q lx ly→∀ z∈ly,∃ x',x'∈lx∧∃ n n',g x'=some n∧g' z=some n'∧n'.kind=n.kind∧n'.attrs=n.attrs∧n'.data=n.data
 | 0,_,_,_,_,_,h=>h.elim
 | f+1,x,y,q,lx,ly,h=>by
  obtain⟨n,ys,l,m,e1,e2,h3,rfl,rfl⟩:=h;have key:∀ {xs ys l m:List Int},Tr.uo (fun a b l m=>Tr.Cp g g' f a b y l m) xs ys l m→∀ z∈m,∃ x',x'∈l∧∃ n n',g x'=some n∧g' z=some n'∧n'.kind=n.kind∧n'.attrs=n.attrs∧n'.data=n.data:=by
   intro xs ys l m h
   induction h with
   | nil=>intro z hz;cases hz
   | cons h1 h2 ih=>
    intro z hz;rcases List.mem_append.1 hz with hz | hz
    ·obtain⟨x',hx,r⟩:=Ca f h1 z hz;exact⟨x',List.mem_append_left _ hx,r⟩
    ·obtain⟨x',hx,r⟩:=ih z hz;exact⟨x',List.mem_append_right _ hx,r⟩
  intro z hz;rcases List.mem_cons.1 hz with rfl | hz
  ·exact⟨x,by simp,n,_,e1,e2,rfl,rfl,rfl⟩
  ·obtain⟨x',hx,r⟩:=key h3 z hz;exact⟨x',List.mem_cons_of_mem _ hx,r⟩
section
variable {w w3 w4 w5:World} {base bM T B M:Nat} {b s:Int} {vs vf aT vh vs' bN bF gK:Value} {n live m n' aG k F:Nat} {fr fr':List Nat} {av dV:Int→Tr.Sl} {f f':Nat→RS} {hs ds la lx:List Int} {g g':Tr.G} {K:Nat}
theorem TW.copied (H:TW w base bM T B M b s vs vf aT vh n live m fr av f hs g K) {i:Nat} {d:Int} (hi:i<m) (hg:(f i).gone=false) (h0:i≠0) (hml:m+k≤700) (hk:ds.length=k) (hn':n'≤n+k)
  (xS:TV base w3 B b s vs' n' (Tr.raw g' dV) bN fr' aG (hof hs 0)) (Dv:Sound b s n' (Tr.raw g' dV) fr' aG) (FL:Tr.WF 0 g') (at3:AT w3 g' dV) (gy:ay w w3 (aD B vs vf) (aD B vs' bN))
  (hcp:Tr.Cp g g' F (hof hs (i:Int)) d 0 la ds) (hnd:ds.Nodup) (hfr:∀ z∈ds,g z=none∧z≠0) (hold:∀ z,z∉ds→g' z=g z)
  (mv4:MV bM w4 M bF (m+k) f') (dM:ay w3 w4 (aB M aT m f) (aB M bF (m+k) f')) (hO:Fv m f f' (-1) (m:Int)) (hlv:∀ j,m≤j→j<m+k→(f' j).gone=false) (hcm:Tr.Cp (mg m f) (mg (m+k) f') F (i:Int) (m:Int) (-1) (Tr.walk (mg m f) F (i:Int)) (oM m k))
  (Rm:nV w5 T B M gK (hs++ds)) (t5:Turns (fun k=>k=T∨vh.ownBlock=some k) w4 w5) (hv5:∀ k,gK.ownBlock=some k→vh.ownBlock=some k∨w4.heap.size≤k):
  TW w5 base bM T B M b s vs' bN bF gK n' aG (m+k) fr' dV f' (hs++ds) g' (K+1):=by
 obtain⟨a1,a2,a3,a4,a5⟩:=H.after gy;have Tf:∀ k,aD B vs' bN k→k<w3.heap.size:=fun k hk=>(xS.lt k hk).2;have hvl:∀ k,vh.ownBlock=some k→k<w3.heap.size:=fun k hk=>Nat.lt_of_lt_of_le (H.tw.row.lt k hk).2 gy.1.size;have UF:T<w3.heap.size:=a1.var.lt;have Z6:¬ aD B vs' bN T:=xS.aJ a1.var (by decide) (by decide) (by decide);have hMT:¬ aB M bF (m+k) f' T:=fun hm=>H.Jk.2 (dM.2 T UF hm);have Tg:∀ x,aD B vs' bN x→¬ aB M bF (m+k) f' x:=fun x hf hm=>a3 x hf (dM.2 x (Tf x hf) hm);have Io:∀ x,vh.ownBlock=some x→¬ aD B vs' bN x∧¬ aB M bF (m+k) f' x:=fun x hx=>⟨a4 x hx,fun hm=>(H.yA x hx).2 (dM.2 x (hvl x hx) hm)⟩
 have Ue:∀ x,aD B vs' bN x→x<w4.heap.size:=fun x hx=>Nat.lt_of_lt_of_le (Tf x hx) dM.1.size;have Du:∀ x,aB M bF (m+k) f' x→x<w4.heap.size:=fun x hx=>(mv4.lt x hx).2;have hfo:∀ j,j<m→f' j=f j:=fun j hj=>hO.1 j hj (by omega);have hlen:(hs++ds).length=m+k:=by rw[List.length_append,H.len,hk]
 have Nv:hof (hs++ds) 0=hof hs 0:=xQ (by have:=H.len;have:=H.m0;omega);have Z7:TV base w5 B b s vs' n' (Tr.raw g' dV) bN fr' aG (hof hs 0):=(xS.turns dM.1 (fun x hx hm=>a3 x hx hm)).turns t5 (fun x hx hv=>hv.elim (fun e=>Z6 (e▸hx)) (fun e=>(Io x e).1 hx));have PS:AT w4 g' dV:=at3.JM a2 dM;have hA:AT w5 g' dV:=PS.turns t5 fun y q e x hx hv=>by
  have hr:=PS y q e;rcases hv with e1 | e1
  ·exact TR.unlike hr (a1.var.turns dM.1 H.Jk.2) (by decide) (by rw[hx,e1])
  ·exact TR.ne hr (a1.row.turns dM.1 fun x hx=>(H.yA x hx).2) (by decide) x hx e1
 have pJ:=H.im.pull H.wf;have hsrc:∀ j,m≤j→j<m+k→∃ i':Nat,i'<m∧i'≠0∧(f' j).kind=(f i').kind∧(f' j).at'=(f i').at'∧(f' j).data=(f i').data:=fun j hj1 hj2=>by
  obtain⟨x',hx',q,q',e1,e2,e3,e4,e5⟩:=Ca F hcm (j:Int) (pQ.2 ⟨j,rfl,hj1,hj2⟩);obtain⟨i',rfl,hi',hgi',rfl⟩:=lQ e1;rw[aQ hj2 (hlv j hj1 hj2)] at e2;obtain rfl:=Option.some.inj e2;refine⟨i',hi',fun e0=>?_,e3,e4,e5⟩;subst e0;rcases JL pJ F _ _ hx' with e6 | ⟨q2,e6,e7⟩
  ·omega
  ·rw[aQ hi' hgi'] at e6;obtain rfl:=Option.some.inj e6;exact e7 H.d0
 refine⟨Rm,by rw[Nv];exact Z7,Dv,hA,FL,mv4.turns t5 (fun x hm hv=>hv.elim (fun e=>hMT (e▸hm)) (fun e=>(Io x e).2 hm)),?_,?_,hlen,by rw[hfo 0 H.m0];exact H.g0,by have:=H.m0;omega,?_,by have:=H.nm;omega,Tg,?_,by rw[hfo 0 H.m0];exact H.d0,?_,⟨((H.kp.1.trans (gy.1.below H.uL fun k hk=>Nat.le_trans H.kp.2.1 (H.tv.lt k hk).1)).trans (dM.1.below (Nat.le_trans H.uL gy.1.size) fun k hk=>Nat.le_trans H.kp.2.2.1 (H.mv.lt k hk).1)).trans (t5.below (Nat.le_trans (Nat.le_trans H.uL gy.1.size) dM.1.size) fun k hk=>by rcases hk with e | e;exact e▸H.kp.2.2.2.1;exact H.kp.2.2.2.2 k e),H.kp.2.1,H.kp.2.2.1,H.kp.2.2.2.1,fun k hk=>by rcases hv5 k hk with e | e;exact H.kp.2.2.2.2 k e;exact Nat.le_trans (Nat.le_trans (Nat.le_trans H.uL gy.1.size) dM.1.size) e⟩,hml⟩
 ·refine H.im.copy hcm hcp (fun y hy=>?_) ?_ (fun z hz=>?_) hold (fun z hz=>⟨xU hz,fun e=>?_⟩) hfr hnd
  ·rcases hy with rfl | hy
   ·rw[l8,l8]
   ·obtain⟨j,rfl,hj,-⟩:=jA hy;exact xQ (by rw[H.len];omega)
  ·have:=xR (hs:=hs) (ds:=ds) (pre:=[]) rfl;rw[List.append_nil,List.length_nil,Nat.add_zero,H.len,hk] at this;exact this
  ·rw[hO.tree z hz];unfold AX
   split
   ·rename_i e;subst e;rw[H.im.neg];rfl
   ·rfl
  ·obtain⟨j,e1,_⟩:=pQ.1 hz;omega
 ·refine⟨by rw[hfo 0 H.m0];exact H.km.1,fun j hj hj0=>?_⟩;by_cases e:j<m
  ·rw[hfo j e];exact H.km.2 j e hj0
  ·obtain⟨i',h1,h2,h3,-⟩:=hsrc j (by omega) hj;rw[h3];exact H.km.2 i' h1 h2
 ·intro j hj hgj;by_cases e:j<m
  ·rw[hfo j e] at hgj;rw[List.getElem?_append_left (by rw[H.len];omega)];exact H.gn j e hgj
  ·rw[hlv j (by omega) hj] at hgj;cases hgj
 ·intro x hx;rcases hv5 x hx with e | e
  ·exact Io x e
  ·exact⟨fun hf=>by have:=Ue x hf;omega,fun hm=>by have:=Du x hm;omega⟩
 ·intro j hj;by_cases e:j<m
  ·rw[hfo j e];have:=H.bd j e;exact⟨by omega,by omega,this.2.2⟩
  ·obtain⟨i',h1,h2,h3,h4,h5⟩:=hsrc j (by omega) hj;rw[h4,h5];have:=H.bd i' h1;exact⟨by omega,by omega,this.2.2⟩
end
def UD (base bM T B M:Nat) (b s:Int) (vh:Value) (m:Nat) (hs:List Int) (K:Nat) (h:Int) (w4:World):Prop:=
 ∃ (vs' bN bF:Value) (n' aG k:Nat) (fr':List Nat) (dV:Int→Tr.Sl) (f':Nat→RS) (g':Tr.G),(Tr.au g' h).length=k∧(∃ r,Tr.au g' h=h::r)∧Tr.WF 0 g'∧TV base w4 B b s vs' n' (Tr.raw g' dV) bN fr' aG (hof hs 0)∧Sound b s n' (Tr.raw g' dV) fr' aG∧(g' h).isSome∧MV bM w4 M bF (m+k) f'∧nV w4 T B M vh hs∧k≤m∧
  (∀ x,vh.ownBlock=some x∨x=T→¬ aD B vs' bN x∧¬ aB M bF (m+k) f' x)∧
  ∀ (w5:World) (gK:Value),nV w5 T B M gK (hs++Tr.au g' h)→Turns (fun k=>k=T∨vh.ownBlock=some k) w4 w5→(∀ k,gK.ownBlock=some k→vh.ownBlock=some k∨w4.heap.size≤k)→
   TW w5 base bM T B M b s vs' bN bF gK n' aG (m+k) fr' dV f' (hs++Tr.au g' h) g' (K+1)
def Z8 (base bM T B M:Nat) (b s:Int) (vs vf aT vh:Value) (n live m:Nat) (fr:List Nat) (av:Int→Tr.Sl) (f:Nat→RS) (hs:List Int) (g:Tr.G) (K:Nat) (h E:Int) (V3:World) (e:Ending) (w4:World):Prop:=
 e=.returned (.int .i64 E)∧Turns (aB M aT m f) V3 w4∧((E=10∧h=0∧TW w4 base bM T B M b s vs vf aT vh n live m fr av f hs g (K+1))∨(E=0∧UD base bM T B M b s vh m hs K h w4))
def Z9 (base bM T B M:Nat) (b s:Int) (vs vf aT vh:Value) (n live m:Nat) (fr:List Nat) (av:Int→Tr.Sl) (f:Nat→RS) (hs:List Int) (g:Tr.G) (K:Nat) (ia:Nat) (deep:Bool) (w:World) (e:Ending) (w3:World):Prop:=
 ∃ (h E:Int),e=.returned (.tuple #[.int .i64 h,.int .i64 E])∧((E=10∧h=0∧ia=0)∨(E=0∧ia≠0))∧Turns (aD B vs vf) w w3∧nV w3 T B M vh hs∧MV bM w3 M aT m f∧
  ∀ V3,Below w3.heap.size w3 V3→Calls Tryz.prog 121 #[.pointer (some ⟨M,0,none⟩),.int .i64 (ia:Int),.bool deep] V3 (Z8 base bM T B M b s vs vf aT vh n live m fr av f hs g K h E V3)
section
variable {w:World} {base bM T B M:Nat} {b s:Int} {vs vf aT vh:Value} {n live m:Nat} {fr:List Nat} {av:Int→Tr.Sl} {f:Nat→RS} {hs:List Int} {g:Tr.G} {K:Nat}
theorem KV {a m:Nat} (h:a≤m):a*a≤m*m:=Nat.mul_le_mul h h
theorem Bl (H:TW w base bM T B M b s vs vf aT vh n live m fr av f hs g K) (hm:m≤300) (hK:K≤60) {ia:Nat} (hia:ia<m) (hga:(f ia).gone=false) (deep:Bool):
  Calls Tryz.prog 34 #[.pointer (some ⟨B,0,none⟩),.int .i64 (hof hs (ia:Int)),.bool deep] w (Z9 base bM T B M b s vs vf aT vh n live m fr av f hs g K ia deep w):=by
 have eg:=H.eY hia hga;have hn:=H.nm;have hlv:=H.so.count;have hrd:(Tr.raw g av (hof hs (ia:Int))).getD Tr.wD=Tr.fF g av (hof hs (ia:Int)) (Tr.fA (hof hs) (jX (f ia))):=by rw[Tr.ah eg];rfl
 by_cases h0:ia=0
 ·subst h0;refine (wC base B b s (hof hs 0) _ 10 deep live n _ fr vs vf _ w H.tv H.so (H.i64 hia) hrd (.inr ⟨H.km.1,rfl⟩)).mono ?_;rintro e w3 ⟨rfl,hb3⟩;have H3:=H.below hb3;refine⟨0,10,rfl,.inl ⟨rfl,rfl,rfl⟩,.of_below hb3,H3.tw,H3.mv,fun V3 hb=>?_⟩;have H5:=H3.below hb;refine (FM M deep V3).mono ?_;rintro e w4 ⟨rfl,e4⟩;rw[e4];exact⟨rfl,.of_below (Below.refl _ _),.inl ⟨rfl,rfl,H5.up⟩⟩
 ·have hkk:(f ia).kind=2∨(f ia).kind=3∨(f ia).kind=4:=H.km.2 ia hia h0;have hk0:(Tr.fA (hof hs) (jX (f ia))).kind≠0:=by show (f ia).kind≠0;omega
  have hk1:(Tr.fA (hof hs) (jX (f ia))).kind≠1:=by show (f ia).kind≠1;omega
  have hbd:=H.bd ia hia;have la:(mg m f (ia:Int)).isSome:=by rw[aQ hia hga];rfl
  have pJ:=H.im.pull H.wf;cases deep with
  | false=>
   refine (Ip base B b s (hof hs 0) _ live n g av fr vs vf _ w H.tv H.so H.at' H.wf eg hk0 hk1 (by show (f ia).at'.length≤_;omega) (by omega) (by omega)).mono ?_;rintro e w3 ⟨d,X,tb,rfl,vs',bN,n',aG,fr',sl,hgd,hd0,hn',xS,Dv,at3,gy,-,-,-,-⟩;obtain⟨a1,a2,a3,a4,-⟩:=H.after gy;refine⟨d,0,rfl,.inr ⟨rfl,h0⟩,gy.1,a1,a2,fun V3 hb=>?_⟩;have hmv:=a2.below hb;refine (FN bM M m aT f ia V3 hmv hia hga (by omega) (by omega) h0).mono ?_;rintro e w4 ⟨rfl,nb,bF,slM,mv4,dM,-,-⟩;have FL:Tr.WF 0 (Tr.dJ g d { (Tr.fA (hof hs) (jX (f ia))) with pa:=0,kids:=[] }):=H.wf.add hgd hd0 rfl rfl;have ed:(Tr.dJ g d { (Tr.fA (hof hs) (jX (f ia))) with pa:=0,kids:=[] }) d=some { (Tr.fA (hof hs) (jX (f ia))) with pa:=0,kids:=[] }:=Tr.bX _ _ _;have ew:Tr.au (Tr.dJ g d { (Tr.fA (hof hs) (jX (f ia))) with pa:=0,kids:=[] }) d=[d]:=by
    unfold Tr.au;rw[Tr.walk,ed];rfl
   have JN:=at3 d _ ed;rw[Tr.kW] at JN;have hF3:∀ k,aD B vs' bN k→k<w3.heap.size:=fun k hk=>(xS.lt k hk).2;have hvl:∀ k,vh.ownBlock=some k→k<w3.heap.size:=fun k hk=>Nat.lt_of_lt_of_le (H.tw.row.lt k hk).2 gy.1.size;have Wv:=xS.below hb;have Ti:=a1.below hb;refine⟨rfl,dM.1,.inr ⟨rfl,vs',bN,bF,n',aG,1,fr',_,_,_,by rw[ew];rfl,⟨[],ew⟩,FL,Wv.turns dM.1 (fun k hk hm=>a3 k hk hm),Dv,by rw[ed];rfl,mv4,⟨Ti.var.turns dM.1 H.Jk.2,Ti.row.turns dM.1 fun k hk=>(H.yA k hk).2⟩,by omega,?_,fun w5 gK h5 t5 hv5=>?_⟩⟩
   ·rintro k (hk | rfl)
    ·exact⟨a4 k hk,fun Tj=>(H.yA k hk).2 (dM.2 k (Nat.lt_of_lt_of_le (hvl k hk) hb.size) Tj)⟩
    ·exact⟨xS.aJ a1.var (by decide) (by decide) (by decide),fun Tj=>H.Jk.2 (dM.2 _ Ti.var.lt Tj)⟩
   ·rw[ew] at h5 ⊢;exact H.made (x:=⟨(f ia).kind,(f ia).name,slM,(f ia).at',(f ia).data,-1,⟨none,0,0⟩,[],false⟩) (by omega) ⟨rfl,rfl,rfl,hkk⟩ ⟨by show (f ia).at'.length≤_;omega,by show (f ia).data.size≤_;omega,hbd.2.2⟩ hgd hd0 hn' Wv Dv FL (JN.below hb) (gy.trans (.of_below hb)) mv4 dM h5 t5 hv5
  | true=>
   have hwl:(Tr.au g (hof hs (ia:Int))).length≤m:=H.im.EM H.wf hia hga;have hup:=(H.wf.eO (hof hs (ia:Int))).2;obtain⟨F,hF⟩:∃ F,F+(Tr.dz g (hof hs (ia:Int))).length=129:=⟨129 - (Tr.dz g (hof hs (ia:Int))).length,by omega⟩
   have Nw:(Tr.dz g (hof hs (ia:Int))).length=(Tr.dz (mg m f) (ia:Int)).length:=by rw[H.im.up H.wf (.inr la),List.length_map]
   have hFm:F+(Tr.dz (mg m f) (ia:Int)).length=129:=by rw[←Nw];exact hF
   have hwg:=H.wf.yQ hF;have hwm:=pJ.yQ hFm;have hwal:(Tr.au (mg m f) (ia:Int)).length=(Tr.au g (hof hs (ia:Int))).length:=by rw[H.im.walk H.wf _ la,List.length_map]
   have hsq:(Tr.au g (hof hs (ia:Int))).length*(Tr.au g (hof hs (ia:Int))).length≤300*300:=KV (by omega);refine (Iq base B b s (hof hs 0) _ F live n g av fr vs vf _ w H.tv H.so H.at' H.wf eg hk0 hk1 (fun y _ q e=>?_) hF (by omega) (by omega)).mono ?_
   ·obtain⟨y',hy,rfl⟩:=H.im.dom y (by rw[e];rfl);obtain⟨j,rfl,hj,hgj,-⟩:=jA hy;rw[H.eY hj hgj] at e;obtain rfl:=Option.some.inj e;show (f j).at'.length≤_;have:=(H.bd j hj).1;omega
   rintro e w3 ⟨d,rfl,d',ds,vs',bN,n',aG,fr',dV,g',ed,hn',xS,Dv,FL,at3,gy,hcp,hnd,hfr,hold⟩;obtain rfl:d'=d:=by injection ed with ed;injection ed with _ ed;exact ed.symm
   obtain⟨a1,a2,a3,a4,-⟩:=H.after gy;have hdl:ds.length=(Tr.au g (hof hs (ia:Int))).length:=by rw[←Tr.Cp.len F hcp,hwg]
   refine⟨d',0,rfl,.inr ⟨rfl,h0⟩,gy.1,a1,a2,fun V3 hb=>?_⟩;have hmv:=a2.below hb;refine (FP bM M F m aT f ia V3 hmv (pJ.full F _ hFm la) (by rw[hwm];omega) (fun j hj=>?_) h0).mono ?_
   ·obtain⟨-,hz⟩:=And.intro trivial hj;have hjl:=(Full.all F _ (pJ.full F _ hFm la) _ hj).1;obtain⟨j',e1,hj1,-⟩:=jA hjl;obtain rfl:j=j':=by omega
    have:=(H.bd j hj1).1;omega
   rintro e w4 ⟨rfl,u,u',bF,k,f',-,mv4,dM,hO,aac,hcm⟩;have hkk':ds.length=k:=by
    have h1:=Tr.Cp.len F hcm;rw[FQ,hwm,hwal] at h1;omega
   have ew:Tr.au g' d'=ds:=(Tr.Cp.walks F 129 hcp (by omega)).2;obtain⟨r1,r2,-,hr2⟩:=Tr.Cp.head hcp;have hvl:∀ x,vh.ownBlock=some x→x<w3.heap.size:=fun x hx=>Nat.lt_of_lt_of_le (H.tw.row.lt x hx).2 gy.1.size;have Wv:=xS.below hb;have Ti:=a1.below hb;have JN:=at3.below hb;refine⟨rfl,dM.1,.inr ⟨rfl,vs',bN,bF,n',aG,k,fr',dV,f',g',by rw[ew];exact hkk',⟨r2,by rw[ew];exact hr2⟩,FL,Wv.turns dM.1 (fun x hx hm=>a3 x hx hm),Dv,(Tr.Cp.live F hcp).2 d' (by rw[hr2];simp),mv4,⟨Ti.var.turns dM.1 H.Jk.2,Ti.row.turns dM.1 fun x hx=>(H.yA x hx).2⟩,by omega,?_,fun w5 gK h5 t5 hv5=>?_⟩⟩
   ·rintro x (hx | rfl)
    ·exact⟨a4 x hx,fun Tj=>(H.yA x hx).2 (dM.2 x (Nat.lt_of_lt_of_le (hvl x hx) hb.size) Tj)⟩
    ·exact⟨xS.aJ a1.var (by decide) (by decide) (by decide),fun Tj=>H.Jk.2 (dM.2 _ Ti.var.lt Tj)⟩
   ·rw[ew] at h5 ⊢;exact H.copied hia hga h0 (by omega) hkk' (by omega) Wv Dv FL JN (gy.trans (.of_below hb)) hcp hnd hfr hold mv4 dM hO aac hcm h5 t5 hv5
end
end
end Go.Proofs.YtnbaadpgbcklaaaGreatDoor
