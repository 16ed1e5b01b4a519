/- Part of a proof about trees. -/
import Derived.Test.YtjpbhkcjmdndjaaGreatDoorGNDat
import Derived.Test.YtjpbhkcjmdndjaaGreatDoorGNDup
import Derived.Test.YtjpbhkcjmdndjaaGreatDoorGNPmk
import Derived.Test.YtjpbhkcjmdndjaaGreatDoorGNRia
import Derived.Test.YtjpbhkcjmdndjaaGreatDoorGNRma
set_option linter.unusedVariables false
set_option linter.unusedSimpArgs false
set_option linter.unusedSectionVars false
set_option maxHeartbeats 4000000
set_option maxRecDepth 100000
namespace Go.Proofs.YtjpbhkcjmdndjaaGreatDoor
section
open Go.RowKit
def uW (x:RS):Prop:=(x.kind=2→(Nm.attrs x.at' && Nm.elem x.name)=true)∧(x.kind≠2→x.at'=[])∧x.name.size≤20000∧∀ p∈x.at',p.1.size≤20000∧p.2.size≤20000
theorem uW.same {x y:RS} (h:uW x) (hk:y.kind=x.kind) (hn:y.name=x.name) (ha:y.at'=x.at'):uW y:=by
 unfold uW at h ⊢;rw[hk,hn,ha];exact h
theorem Nm.Ns {l l':List (ByteArray×ByteArray)} (hs:l'.Sublist l) (h:Nm.attrs l=true):Nm.attrs l'=true:=by
 unfold Nm.attrs at h ⊢;rw[Bool.and_eq_true,decide_eq_true_iff,List.all_eq_true] at h ⊢;exact⟨h.1.sublist (hs.map _),fun p hp=>h.2 p (hs.mem hp)⟩
theorem uW.drop {x:RS} (h:uW x) (nm:ByteArray) (sl:Tr.Sl):uW { x with a:=sl,at':=jY x.at' nm }:=by
 obtain⟨h1,h2,h3,h4⟩:=h;have hs:(jY x.at' nm).Sublist x.at':=List.eraseIdx_sublist _ _;refine⟨fun e=>?_,fun e=>?_,h3,fun p hp=>h4 p (hs.mem hp)⟩
 ·have:=h1 e;rw[Bool.and_eq_true] at this ⊢;exact⟨Nm.Ns hs this.1,this.2⟩
 ·show jY x.at' nm=[]
  have e0:=h2 e;rw[e0] at hs ⊢;exact List.sublist_nil.1 hs
theorem Nt {l:List (ByteArray×ByteArray)} {k:Nat} {p:ByteArray×ByteArray} {v:ByteArray} (hp:l[k]?=some p):yM (l.set k (p.1,v))=yM l:=by
 unfold yM;rw[List.map_set];apply List.ext_getElem?;intro i;rw[List.getElem?_set];by_cases e:k=i
 ·subst e;have hk:=(List.getElem?_eq_some_iff.1 hp).1;rw[if_pos rfl,if_pos (by simpa using hk),List.getElem?_map,hp];rfl
 ·rw[if_neg e]
theorem uW.set {x:RS} (h:uW x) (hk:x.kind=2) {nm v:ByteArray} (hn:Nm.attr nm=true) (hs:nm.size≤20000) (hv:v.size≤20000) (sl:Tr.Sl):uW { x with a:=sl,at':=gK x.at' nm v }:=by
 obtain⟨h1,h2,h3,h4⟩:=h;have ha:=h1 hk;rw[Bool.and_eq_true] at ha;have key:Nm.attrs (gK x.at' nm v)=true∧∀ p∈gK x.at' nm v,p.1.size≤20000∧p.2.size≤20000:=by
  have ha1:=ha.1;unfold Nm.attrs at ha1 ⊢;rw[Bool.and_eq_true,decide_eq_true_iff,List.all_eq_true] at ha1 ⊢;unfold gK
  split
  ·rename_i p hp;have hpm:=List.mem_of_getElem? hp;refine⟨⟨by rw[Nt hp];exact ha1.1,fun q hq=>?_⟩,fun q hq=>?_⟩
   ·rcases List.mem_or_eq_of_mem_set hq with hq | rfl
    ·exact ha1.2 q hq
    ·exact ha1.2 p hpm
   ·rcases List.mem_or_eq_of_mem_set hq with hq | rfl
    ·exact h4 q hq
    ·exact⟨(h4 p hpm).1,hv⟩
  ·rename_i hp;have hlen:x.at'.length≤pG x.at' nm:=List.getElem?_eq_none_iff.1 hp;have hno:∀ p∈x.at',(p.1.toList == nm.toList)=false:=fun p hp=>by
    have h9:List.findIdx (fun p:ByteArray×ByteArray=>p.1.toList == nm.toList) x.at'=x.at'.length:=Nat.le_antisymm List.findIdx_le_length hlen;exact List.findIdx_eq_length.1 h9 p hp
   refine⟨⟨?_,fun q hq=>?_⟩,fun q hq=>?_⟩
   ·unfold yM at ha1 ⊢;rw[List.map_append,List.nodup_append];refine⟨ha1.1,by simp,fun a ha b hb=>?_⟩;obtain⟨p,hp1,rfl⟩:=List.mem_map.1 ha;simp at hb;subst hb;have:=hno p hp1;rintro e;rw[Lib.toList_data,Lib.toList_data,e] at this;simp at this
   ·rcases List.mem_append.1 hq with hq | hq
    ·exact ha1.2 q hq
    ·simp at hq;subst hq;exact hn
   ·rcases List.mem_append.1 hq with hq | hq
    ·exact h4 q hq
    ·simp at hq;subst hq;exact⟨hs,hv⟩
 refine⟨fun _=>?_,fun e=>absurd hk e,h3,key.2⟩;rw[Bool.and_eq_true];exact⟨key.1,ha.2⟩
end
section
open Go.RowKit
class mY where
 L:Nat
 w0:World
 S:Nat→Prop
variable [mY]
def KS (w:World) (F MF:Nat→Prop) (T:Nat) (vh:Value):Prop:=∀ k,mY.S k→k<w.heap.size∧w.heap[k]?=mY.w0.heap[k]?∧¬ F k∧¬ MF k∧k≠T∧vh.ownBlock≠some k
section
variable {w w':World} {F F' MF MF':Nat→Prop} {T:Nat} {vh l7:Value}
theorem KS.below (H:KS w F MF T vh) (hb:Below w.heap.size w w'):KS w' F MF T vh:=fun k hk=>by
 obtain⟨h1,h2,h3⟩:=H k hk;exact⟨Nat.lt_of_lt_of_le h1 hb.size,(hb.block k h1).trans h2,h3⟩
theorem KS.a (H:KS w F MF T vh) (st:aB w w' F F'):KS w' F' MF T vh:=fun k hk=>by
 obtain⟨h1,h2,h3,h4⟩:=H k hk;exact⟨Nat.lt_of_lt_of_le h1 st.1.size,(st.1.block k h1 h3).trans h2,fun h=>h3 (st.2 k h1 h),h4⟩
theorem KS.m (H:KS w F MF T vh) (st:aB w w' MF MF'):KS w' F MF' T vh:=fun k hk=>by
 obtain⟨h1,h2,h3,h4,h5⟩:=H k hk;exact⟨Nat.lt_of_lt_of_le h1 st.1.size,(st.1.block k h1 h4).trans h2,h3,fun h=>h4 (st.2 k h1 h),h5⟩
theorem KS.t (H:KS w F MF T vh) (t:Turns (fun k=>k=T∨vh.ownBlock=some k) w w') (hv:∀ k,l7.ownBlock=some k→vh.ownBlock=some k∨w.heap.size≤k):KS w' F MF T l7:=fun k hk=>by
 obtain⟨h1,h2,h3,h4,h5,h6⟩:=H k hk;exact⟨Nat.lt_of_lt_of_le h1 t.size,(t.block k h1 (fun h=>h.elim h5 h6)).trans h2,h3,h4,h5,fun e=>(hv k e).elim h6 (Nat.not_le.2 h1)⟩
theorem KS.h (H:KS w F MF T vh) (t:Turns (fun k=>vh.ownBlock=some k) w w'):KS w' F MF T vh:=fun k hk=>by
 obtain⟨h1,h2,h3,h4,h5,h6⟩:=H k hk;exact⟨Nat.lt_of_lt_of_le h1 t.size,(t.block k h1 h6).trans h2,h3,h4,h5,h6⟩
end
structure TW (w:World) (base bM T B M:Nat) (b s:Int) (vs vf aQ vh:Value) (n live m:Nat) (fr:List Nat) (av:Int→Tr.Sl) (f:Nat→RS) (hs:List Int) (g:Tr.G) (K:Nat):Prop where
 tw:pF w T B M vh hs
 tv:TV base w B b s vs n (Tr.raw g av) vf fr live (hof hs 0)
 so:Sound b s n (Tr.raw g av) fr live
 at':AT w g av
 wf:Tr.WF 0 g
 mv:MV bM w M aQ m f
 im:Tr.Im (hof hs) (mg m f) g
 km:J9 m f
 len:hs.length=m
 g0:(f 0).gone=false
 m0:0<m
 gn:∀ i,i<m→(f i).gone=true→hs[i]?=some (-1)
 nm:n≤m
 VX:∀ k,aD B vs vf k→¬ aC M aQ m f k
 yV:∀ k,vh.ownBlock=some k→¬ aD B vs vf k∧¬ aC M aQ m f k
 d0:(f 0).pa = -1
 bd:∀ i,i<m→(f i).at'.length≤K+2∧(f i).data.size≤120*K∧bD.rep (f i).data.data.toList=(f i).data.data.toList
 kp:Below mY.L mY.w0 w∧mY.L≤base∧mY.L≤bM∧mY.L≤T∧∀ k,vh.ownBlock=some k→mY.L≤k
 ml:m≤700
 ok:Tr.yO g∧∀ i,i<m→uW (f i)
 ks:KS w (aD B vs vf) (aC M aQ m f) T vh
section
variable {w w':World} {base bM T B M:Nat} {b s:Int} {vs vf aQ vh:Value} {n live m:Nat} {fr:List Nat} {av:Int→Tr.Sl} {f:Nat→RS} {hs:List Int} {g:Tr.G} {K:Nat}
theorem TW.uS (H:TW w base bM T B M b s vs vf aQ vh n live m fr av f hs g K):mY.L≤w.heap.size:=by
 have:=H.kp.2.2.2.1;have:=H.tw.var.lt;omega
theorem TW.below (H:TW w base bM T B M b s vs vf aQ vh n live m fr av f hs g K) (hb:Below w.heap.size w w'):TW w' base bM T B M b s vs vf aQ vh n live m fr av f hs g K:=
 ⟨H.tw.below hb,H.tv.below hb,H.so,H.at'.below hb,H.wf,H.mv.below hb,H.im,H.km,H.len,H.g0,H.m0,H.gn,H.nm,H.VX,H.yV,H.d0,H.bd,⟨H.kp.1.trans (hb.mono H.uS),H.kp.2⟩,H.ml,H.ok,H.ks.below hb⟩
theorem TW.bI (H:TW w base bM T B M b s vs vf aQ vh n live m fr av f hs g K) {i:Nat} (hi:i<m):hs[i]?=some (hof hs (i:Int)):=by
 have hl:i<hs.length:=by rw[H.len];exact hi
 obtain⟨x,hx⟩:∃ x,hs[i]?=some x:=⟨hs[i],by simp⟩
 rw[hx,sF hx]
theorem TW.kL (H:TW w base bM T B M b s vs vf aQ vh n live m fr av f hs g K) {i:Nat} (hi:i<m) (hg:(f i).gone=true):hof hs (i:Int) = -1∧g (-1)=none:=by
 refine⟨sF (H.gn i hi hg),?_⟩;cases e:g (-1) with
 | none=>rfl
 | some x=>
  have:=(bN H.so (h := -1) (by rw[aM,e];rfl)).2;omega
theorem TW.dJ (H:TW w base bM T B M b s vs vf aQ vh n live m fr av f hs g K) {i:Nat} (hi:i<m) (hg:(f i).gone=false):g (hof hs (i:Int))=some (Tr.fC (hof hs) (lH (f i))):=H.im.node _ _ (aP hi hg)
theorem TW.i64 (H:TW w base bM T B M b s vs vf aQ vh n live m fr av f hs g K) {i:Nat} (hi:i<m):kM (hof hs (i:Int)):=by
 cases hg:(f i).gone with
 | true=>rw[(H.kL hi hg).1];constructor<;>omega
 | false=>exact (bN H.so (h:=hof hs (i:Int)) (by rw[aM,H.dJ hi hg];rfl)).1
theorem TW.Ku (H:TW w base bM T B M b s vs vf aQ vh n live m fr av f hs g K):¬ aD B vs vf T∧¬ aC M aQ m f T:=by
 refine⟨H.tv.aU H.tw.var (by decide) (by decide) (by decide),?_⟩;rintro (e | e | ⟨i,hi,e | e⟩)
 ·exact H.tw.var.unlike H.mv.var (by decide) e
 ·exact bA H.mv.row H.tw.var (by decide) e
 ·exact (H.mv.ar i hi).unlike H.tw.var (by decide) e
 ·exact (H.mv.kr i hi).unlike H.tw.var (by decide) e
theorem TW.after (H:TW w base bM T B M b s vs vf aQ vh n live m fr av f hs g K) {vs' bV:Value} (st:aB w w' (aD B vs vf) (aD B vs' bV)):
  pF w' T B M vh hs∧MV bM w' M aQ m f∧(∀ k,aD B vs' bV k→¬ aC M aQ m f k)∧(∀ k,vh.ownBlock=some k→¬ aD B vs' bV k)∧∀ k,aC M aQ m f k→k<w.heap.size:=by
 have hml:=fun k hk=>(H.mv.lt k hk).2;have hvl:∀ k,vh.ownBlock=some k→k<w.heap.size:=fun k hk=>(H.tw.row.lt k hk).2;refine⟨⟨H.tw.var.turns st.1 H.Ku.1,H.tw.row.turns st.1 fun k hk=>(H.yV k hk).1⟩,H.mv.turns st.1 (fun k hk hf=>H.VX k hf hk),fun k hf hm=>H.VX k (st.2 k (hml k hm) hf) hm,fun k hk hf=>(H.yV k hk).1 (st.2 k (hvl k hk) hf),hml⟩
end
end
section
open Go.RowKit
variable [mY]
theorem Qn (h:Int) (hz:h≠0):Tr.Im (hof [h]) (mg 1 fun _=>Kc) (Tr.dI Bu h pz):=by
 have h0:hof [h] ((0:Nat):Int)=h:=sF rfl;have hm:∀ x,(mg 1 (fun _=>Kc) x).isSome→x=((0:Nat):Int):=fun x hx=>by
  obtain⟨i,rfl,hi,-,-⟩:=jq hx;have:i=0:=by omega
  rw[this]
 have e0:mg 1 (fun _=>Kc) ((0:Nat):Int)=some (lH Kc):=aP (m:=1) (f:=fun _=>Kc) (i:=0) (by omega) rfl;have en:Tr.fC (hof [h]) (lH Kc)=pz:=by
  unfold Tr.fC;rw[show (lH Kc).pa = -1 from rfl,mK];rfl
 constructor
 ·exact mK
 ·intro x n e;have hx:=hm x (by rw[e];rfl);subst hx;rw[e0] at e;obtain rfl:=Option.some.inj e;rw[h0,Tr.bL,en]
 ·intro x hx;refine⟨((0:Nat):Int),by rw[e0];rfl,?_⟩;rw[h0];by_cases e:x=h
  ·exact e.symm
  ·rw[Tr.bS e] at hx;cases hx
 ·intro x y hx hy _;rw[hm x hx,hm y hy]
 ·intro x hx;rw[hm x hx,h0];exact hz
 ·exact lX (by omega)
 ·intro x n e;have hx:=hm x (by rw[e];rfl);subst hx;rw[e0] at e;obtain rfl:=Option.some.inj e;exact .inl rfl
 ·intro x n e k hk;have hx:=hm x (by rw[e];rfl);subst hx;rw[e0] at e;obtain rfl:=Option.some.inj e;cases hk
theorem tw_start (b s:Int) (w w':World) (e:Ending) (h:EL b s w e w') (hkp:Below mY.L mY.w0 w) (hL:mY.L≤w.heap.size) (hS0:∀ k,¬ mY.S k):
  ∃ (T B M base bM:Nat) (vs vf aQ vh:Value),e=.returned (.pointer (some ⟨T,0,none⟩))∧TW w' base bM T B M b s vs vf aQ vh 1 1 1 [] wM (fun _=>Kc) [Ar.hdl b s 0] (Tr.dI Bu (Ar.hdl b s 0) pz) 0:=by
 obtain⟨T,B,M,vs,vf,aQ,vh,rfl,Nz,⟨bT,WU,htv⟩,hso,hwf,⟨bM,hmv,hfm⟩,hb,hT,hv⟩:=h;have h0:hof [Ar.hdl b s 0] 0=Ar.hdl b s 0:=sF (j:=0) rfl;have hz:Ar.hdl b s 0≠0:=by have:=(bN hso (h:=Ar.hdl b s 0) (by rw[aM,Tr.bL];rfl)).2;omega
 have hBM:bT<bM:=Nat.lt_of_le_of_lt htv.low (hfm B (.inl rfl));refine⟨T,B,M,bT,bM,vs,vf,aQ,vh,rfl,⟨Nz,by rw[h0];exact htv,hso,fun x q e=>?_,hwf,hmv,Qn _ hz,⟨rfl,fun i hi h1=>absurd hi (by omega)⟩,rfl,rfl,by omega,fun i hi hg=>absurd hg (by decide),Nat.le_refl _,fun k hf hm=>absurd (hfm k hf) (Nat.not_lt.2 (hmv.lt k hm).1),fun k hk=>(hv k hk).2,rfl,fun i hi=>⟨Nat.zero_le _,Nat.zero_le _,bD.oJ⟩,⟨hkp.trans (hb.mono hL),by omega,by omega,Nat.le_trans hL hT,fun k hk=>Nat.le_trans hL (hv k hk).1⟩,by omega,⟨fun x q e=>?_,fun i hi=>⟨fun h=>absurd h (by decide),fun _=>rfl,Nat.zero_le _,fun p hp=>absurd hp (List.not_mem_nil)⟩⟩,fun k hk=>(hS0 k hk).elim⟩⟩;by_cases hx:x=Ar.hdl b s 0
 ·subst hx;rw[Tr.bL] at e;obtain rfl:=Option.some.inj e;exact TR.nil _ _ _ _
 ·rw[Tr.bS hx] at e;cases e
 ·by_cases hx:x=Ar.hdl b s 0
  ·subst hx;rw[Tr.bL] at e;obtain rfl:=Option.some.inj e;have hno:∀ k:Int,k∈(pz).kids→False:=fun k hk=>by cases hk
   exact⟨Or.inr (Or.inr rfl),fun _ k hk=>(hno k hk).elim,fun _=>⟨fun k hk=>(hno k hk).elim,fun k hk=>(hno k hk).elim⟩⟩
  ·rw[Tr.bS hx] at e;cases e
end
section
open Go.RowKit
variable [mY]
theorem AT.K4 {w w':World} {g:Tr.G} {av:Int→Tr.Sl} {bM M m:Nat} {aQ:Value} {f:Nat→RS} {F':Nat→Prop} (h:AT w g av) (hM:MV bM w M aQ m f) (st:aB w w' (aC M aQ m f) F'):AT w' g av:=
 h.turns st.1 fun x q e k hk hm=>by
  have hr:=h x q e;rcases hm with e1 | e1 | ⟨i,hi,e1 | e1⟩
  ·exact TR.unlike hr hM.var (by decide) (by rw[hk,e1])
  ·exact TR.ne hr (TR.jQ hM.row) (by decide) k hk e1
  ·exact TR.ne hr (hM.ar i hi) (by decide) k hk e1
  ·exact TR.ne hr (hM.kr i hi) (by decide) k hk e1
theorem VY {g:Tr.G} {h:Int} {U:Tr.GN→Tr.GN} (w:Tr.WF 0 g) (hU:∀ n,(U n).pa=n.pa∧(U n).kids=n.kids):Tr.WF 0 (Tr.cO g h U):=by
 have back:∀ x m,Tr.cO g h U x=some m→∃ n,g x=some n∧m.pa=n.pa∧m.kids=n.kids:=fun x m e=>by
  unfold Tr.cO at e
  split at e
  ·rename_i hx;subst hx;cases e2:g x with
   | none=>rw[e2] at e;cases e
   | some n=>rw[e2] at e;obtain rfl:=Option.some.inj e;exact⟨n,rfl,(hU n).1,(hU n).2⟩
  ·exact⟨m,e,rfl,rfl⟩
 have forth:∀ x n,g x=some n→∃ m,Tr.cO g h U x=some m∧m.pa=n.pa∧m.kids=n.kids:=fun x n e=>by
  unfold Tr.cO;by_cases hx:x=h
  ·subst hx;rw[if_pos rfl,e];exact⟨_,rfl,(hU n).1,(hU n).2⟩
  ·rw[if_neg hx];exact⟨n,e,rfl,rfl⟩
 have up:∀ {x:Int} {l:List Int},Tr.Up g x l→Tr.Up (Tr.cO g h U) x l:=by
  intro x l u
  induction u with
  | @out x e=>exact .out (by
    cases e2:Tr.cO g h U x with
    | none=>rfl
    | some m=>obtain⟨n,e3,_⟩:=back x m e2;rw[e] at e3;cases e3)
  | node e _ ih=>obtain⟨m,e2,e3,_⟩:=forth _ _ e;exact .node e2 (by rw[e3];exact ih)
 constructor
 ·cases e:Tr.cO g h U 0 with
  | none=>rfl
  | some m=>obtain⟨n,e2,_⟩:=back 0 m e;rw[w.zero] at e2;cases e2
 ·intro x m e hp;obtain⟨n,e2,e3,e4⟩:=back x m e;obtain⟨p,e5,e6⟩:=w.up x n e2 (by rw[←e3];exact hp);obtain⟨p',e7,_,e8⟩:=forth _ _ e5;exact⟨p',by rw[e3];exact e7,by rw[e8];exact e6⟩
 ·intro x m k e hk;obtain⟨n,e2,e3,e4⟩:=back x m e;obtain⟨q,e5,e6⟩:=w.down x n k e2 (by rw[←e4];exact hk);obtain⟨q',e7,e8,_⟩:=forth _ _ e5;exact⟨q',e7,by rw[e8];exact e6⟩
 ·intro x m e;obtain⟨n,e2,_,e4⟩:=back x m e;rw[e4];exact w.nodup x n e2
 ·intro x;obtain⟨l,u,hl⟩:=w.chain x;exact⟨l,up u,hl⟩
section
variable {w w3 w4:World} {base bM T B M:Nat} {b s:Int} {vs vf aQ vh vs' bV dS:Value} {n live m n' aW:Nat} {fr fr':List Nat} {av iR:Int→Tr.Sl} {f f':Nat→RS} {hs:List Int} {g g':Tr.G} {K:Nat}
theorem TW.up (H:TW w base bM T B M b s vs vf aQ vh n live m fr av f hs g K):TW w base bM T B M b s vs vf aQ vh n live m fr av f hs g (K+1):=
 ⟨H.tw,H.tv,H.so,H.at',H.wf,H.mv,H.im,H.km,H.len,H.g0,H.m0,H.gn,H.nm,H.VX,H.yV,H.d0,fun i hi=>⟨by have:=(H.bd i hi).1;omega,by have:=(H.bd i hi).2.1;omega,(H.bd i hi).2.2⟩,H.kp,H.ml,H.ok,H.ks⟩
theorem TW.step (H:TW w base bM T B M b s vs vf aQ vh n live m fr av f hs g K) (tv':TV base w3 B b s vs' n' (Tr.raw g' iR) bV fr' aW (hof hs 0)) (so':Sound b s n' (Tr.raw g' iR) fr' aW) (st:aB w w3 (aD B vs vf) (aD B vs' bV)) (at':AT w3 g' iR) (wf':Tr.WF 0 g')
  (mv':MV bM w4 M dS m f') (stM:aB w3 w4 (aC M aQ m f) (aC M dS m f')) (im':Tr.Im (hof hs) (mg m f') g') (km':J9 m f') (g0':(f' 0).gone=false) (gn':∀ i,i<m→(f' i).gone=true→hs[i]?=some (-1)) (nm':n'≤m) (d0':(f' 0).pa = -1)
  (bd':∀ i,i<m→(f' i).at'.length≤K+1+2∧(f' i).data.size≤120*(K+1)∧bD.rep (f' i).data.data.toList=(f' i).data.data.toList) (ok':Tr.yO g'∧∀ i,i<m→uW (f' i)):TW w4 base bM T B M b s vs' bV dS vh n' aW m fr' iR f' hs g' (K+1):=by
 obtain⟨a1,a2,a3,a4,a5⟩:=H.after st;have QH:∀ k,aD B vs' bV k→k<w3.heap.size:=fun k hk=>(tv'.lt k hk).2;have hvl:∀ k,vh.ownBlock=some k→k<w3.heap.size:=fun k hk=>Nat.lt_of_lt_of_le (H.tw.row.lt k hk).2 st.1.size;have hT3:¬ aC M aQ m f T:=H.Ku.2;exact⟨⟨a1.var.turns stM.1 hT3,a1.row.turns stM.1 fun k hk=>(H.yV k hk).2⟩,tv'.turns stM.1 (fun k hk hm=>a3 k hk hm),so',at'.K4 a2 stM,wf',mv',im',km',H.len,g0',H.m0,gn',nm',
  fun k hf hm=>a3 k hf (stM.2 k (QH k hf) hm),fun k hk=>⟨a4 k hk,fun hm=>(H.yV k hk).2 (stM.2 k (hvl k hk) hm)⟩,d0',bd',⟨(H.kp.1.trans (st.1.below H.uS fun k hk=>Nat.le_trans H.kp.2.1 (H.tv.lt k hk).1)).trans (stM.1.below (Nat.le_trans H.uS st.1.size) fun k hk=>Nat.le_trans H.kp.2.2.1 (H.mv.lt k hk).1),H.kp.2⟩,H.ml,ok',(H.ks.a st).m stM⟩
theorem kG {p i:Nat} {sl:Tr.Sl} (j:Nat):(aV (aV f p fun n=>{ n with k:=sl,kids:=n.kids.erase (i:Int) }) i (fun n=>{ n with pa := -1 }) j).kind=(f j).kind∧(aV (aV f p fun n=>{ n with k:=sl,kids:=n.kids.erase (i:Int) }) i (fun n=>{ n with pa := -1 }) j).gone=(f j).gone∧
  (aV (aV f p fun n=>{ n with k:=sl,kids:=n.kids.erase (i:Int) }) i (fun n=>{ n with pa := -1 }) j).at'=(f j).at'∧(aV (aV f p fun n=>{ n with k:=sl,kids:=n.kids.erase (i:Int) }) i (fun n=>{ n with pa := -1 }) j).data=(f j).data:=by
 unfold aV;by_cases h1:j=i
 ·subst h1;rw[if_pos rfl];by_cases h2:j=p
  ·subst h2;rw[if_pos rfl];exact⟨rfl,rfl,rfl,rfl⟩
  ·rw[if_neg h2];exact⟨rfl,rfl,rfl,rfl⟩
 ·rw[if_neg h1];by_cases h2:j=p
  ·subst h2;rw[if_pos rfl];exact⟨rfl,rfl,rfl,rfl⟩
  ·rw[if_neg h2];exact⟨rfl,rfl,rfl,rfl⟩
theorem TW.cut (H:TW w base bM T B M b s vs vf aQ vh n live m fr av f hs g K) {i p:Nat} {sl:Tr.Sl} (hi:i<m) (hg:(f i).gone=false) (hp:(f i).pa=(p:Int)) (hpm:p<m) (hpg:(f p).gone=false) (hpi:p≠i)
  (tv':TV base w3 B b s vs n (Tr.raw (Tr.dD g (hof hs (i:Int))) av) vf fr live (hof hs 0)) (st:aB w w3 (aD B vs vf) (aD B vs vf))
  (mv':MV bM w4 M aQ m (aV (aV f p fun n=>{ n with k:=sl,kids:=n.kids.erase (i:Int) }) i fun n=>{ n with pa := -1 })) (stM:aB w3 w4 (aC M aQ m f) (aC M aQ m (aV (aV f p fun n=>{ n with k:=sl,kids:=n.kids.erase (i:Int) }) i fun n=>{ n with pa := -1 }))):
  TW w4 base bM T B M b s vs vf aQ vh n live m fr av (aV (aV f p fun n=>{ n with k:=sl,kids:=n.kids.erase (i:Int) }) i fun n=>{ n with pa := -1 }) hs (Tr.dD g (hof hs (i:Int))) (K+1):=by
 have eg:=H.dJ hi hg;have hpa:Tr.dG g (hof hs (i:Int))=hof hs (p:Int):=by rw[Tr.aL eg];show hof hs (f i).pa=_;rw[hp]
 have hpz:hof hs (p:Int)≠0:=H.im.nz _ (by rw[aP hpm hpg];rfl);have e1:Tr.dD g (hof hs (i:Int))=Tr.iZ g (hof hs (i:Int)):=by unfold Tr.dD;rw[if_neg (by rw[hpa];exact hpz)]
 have im':Tr.Im (hof hs) (mg m (aV (aV f p fun n=>{ n with k:=sl,kids:=n.kids.erase (i:Int) }) i fun n=>{ n with pa := -1 })) (Tr.dD g (hof hs (i:Int))):=by
  rw[OO hi hg hpm hpg hp hpi,e1];exact H.im.cut H.wf (aP hi hg) (by show (f i).pa ≠ -1;omega)
 refine H.step tv' (uK H.so H.wf eg) st ?_ ?_ mv' stM im' ?_ ?_ ?_ H.nm ?_ ?_ ⟨H.ok.1.cut _,fun j hj=>?_⟩
 ·refine AT.same (H.at'.step H.tv st) fun x q e=>?_;rw[e1] at e;unfold Tr.iZ at e
  split at e
  ·rename_i hx;subst hx;rw[eg] at e;obtain rfl:=Option.some.inj e;exact⟨_,eg,rfl⟩
  ·split at e
   ·rename_i hx;cases e2:g x with
    | none=>rw[e2] at e;cases e
    | some y=>rw[e2] at e;obtain rfl:=Option.some.inj e;exact⟨y,rfl,rfl⟩
   ·exact⟨q,e,rfl⟩
 ·exact H.wf.dD eg
 ·exact⟨by rw[(kG 0).1];exact H.km.1,fun j hj h0=>by rw[(kG j).1];exact H.km.2 j hj h0⟩
 ·rw[(kG 0).2.1];exact H.g0
 ·intro j hj hgj;rw[(kG j).2.1] at hgj;exact H.gn j hj hgj
 ·have hd:=H.d0;unfold aV;by_cases h1:0=i
  ·rw[if_pos h1]
  ·rw[if_neg h1];by_cases h2:0=p
   ·rw[if_pos h2,←h2];exact hd
   ·rw[if_neg h2];exact hd
 ·intro j hj;rw[(kG j).2.2.1,(kG j).2.2.2];have:=H.bd j hj;exact⟨by omega,by omega,this.2.2⟩
 ·refine (H.ok.2 j hj).same (kG j).1 ?_ (kG j).2.2.1;unfold aV;by_cases h1:j=i
  ·subst h1;rw[if_pos rfl];by_cases h2:j=p
   ·subst h2;rw[if_pos rfl]
   ·rw[if_neg h2]
  ·rw[if_neg h1];by_cases h2:j=p
   ·subst h2;rw[if_pos rfl]
   ·rw[if_neg h2]
theorem TW.put (H:TW w base bM T B M b s vs vf aQ vh n live m fr av f hs g K) {i:Nat} (hi:i<m) (hg:(f i).gone=false) {u:RS→RS} {U:Tr.GN→Tr.GN} (hu:∀ x,(u x).gone=x.gone∧(u x).kind=x.kind) (hU:∀ x,lH (u x)=U (lH x)) (hUk:∀ n,(U n).pa=n.pa∧(U n).kids=n.kids) (hm:∀ n,U (Tr.fC (hof hs) n)=Tr.fC (hof hs) (U n))
  (tv':TV base w3 B b s vs n (Tr.raw (Tr.cO g (hof hs (i:Int)) U) iR) vf fr live (hof hs 0)) (so':Sound b s n (Tr.raw (Tr.cO g (hof hs (i:Int)) U) iR) fr live) (at':AT w3 (Tr.cO g (hof hs (i:Int)) U) iR) (st:aB w w3 (aD B vs vf) (aD B vs vf))
  (mv':MV bM w4 M aQ m (aV f i u)) (stM:aB w3 w4 (aC M aQ m f) (aC M aQ m (aV f i u)))
  (bd':(u (f i)).at'.length≤K+1+2∧(u (f i)).data.size≤120*(K+1)∧bD.rep (u (f i)).data.data.toList=(u (f i)).data.data.toList) (abz:uW (u (f i))):TW w4 base bM T B M b s vs vf aQ vh n live m fr iR (aV f i u) hs (Tr.cO g (hof hs (i:Int)) U) (K+1):=by
 have hgo:∀ j,(aV f i u j).gone=(f j).gone∧(aV f i u j).kind=(f j).kind:=fun j=>by
  unfold aV;split
  ·rename_i e;rw[e];exact hu _
  ·exact⟨rfl,rfl⟩
 have im':Tr.Im (hof hs) (mg m (aV f i u)) (Tr.cO g (hof hs (i:Int)) U):=by
  rw[VN hi hg (by rw[(hu _).1];exact hg) (hU _)];exact H.im.put (by rw[aP hi hg];rfl) U hUk hm
 have eg:=H.dJ hi hg;refine H.step tv' so' st at' (VY H.wf hUk) mv' stM im' ?_ ?_ ?_ H.nm ?_ ?_ ⟨H.ok.1.put fun n e=>⟨?_,(hUk n).2⟩,fun j hj=>?_⟩
 ·exact⟨by rw[(hgo 0).2];exact H.km.1,fun j hj h0=>by rw[(hgo j).2];exact H.km.2 j hj h0⟩
 ·rw[(hgo 0).1];exact H.g0
 ·intro j hj hgj;rw[(hgo j).1] at hgj;exact H.gn j hj hgj
 ·unfold aV
  split
  ·rename_i e;have h1:=congrArg Tr.GN.pa (hU (f i));rw[(hUk _).1] at h1;show (lH (u (f i))).pa = -1;rw[h1,←e];exact H.d0
  ·exact H.d0
 ·intro j hj;by_cases e:j=i
  ·subst e;unfold aV;rw[if_pos rfl];exact bd'
  ·rw[iW e];have:=H.bd j hj;exact⟨by omega,by omega,this.2.2⟩
 ·rw[eg] at e;obtain rfl:=Option.some.inj e;rw[hm,←hU];show (u (f i)).kind=(f i).kind;exact (hu _).2
 ·by_cases e:j=i
  ·subst e;unfold aV;rw[if_pos rfl];exact abz
  ·rw[iW e];exact H.ok.2 j hj
theorem TW.kinds (H:TW w base bM T B M b s vs vf aQ vh n live m fr av f hs g K):∀ x q,g x=some q→q.kind≠0:=by
 intro x q e;obtain⟨y,hy,rfl⟩:=H.im.dom x (by rw[e];rfl);obtain⟨i,rfl,hi,hg,-⟩:=jq hy;rw[H.dJ hi hg] at e;obtain rfl:=Option.some.inj e;show (f i).kind≠0;by_cases h0:i=0
 ·subst h0;rw[H.km.1];decide
 ·rcases H.km.2 i hi h0 with h | h | h<;>omega
end
end
section
open Go.RowKit
variable [mY]
def hsJ (f:Nat→RS) (hs:List Int):Nat→List Int
 | 0=>hs
 | j+1=>if (f j).gone then (hsJ f hs j).set j (-1) else hsJ f hs j
theorem qO (f:Nat→RS) (hs:List Int):∀ j,(hsJ f hs j).length=hs.length
 | 0=>rfl
 | j+1=>by unfold hsJ;split<;>simp[qO f hs j]
theorem EO (f:Nat→RS) (hs:List Int):∀ (j i:Nat),i<hs.length→(hsJ f hs j)[i]?=if i<j∧(f i).gone=true then some (-1) else hs[i]?
 | 0,i,hi=>by rw[if_neg (by omega)];rfl
 | j+1,i,hi=>by
  have ih:=EO f hs j i hi;unfold hsJ;by_cases hg:(f j).gone=true
  ·rw[if_pos hg,List.getElem?_set];by_cases e:j=i
   ·subst e;rw[if_pos rfl,if_pos (by rw[qO];exact hi),if_pos ⟨by omega,hg⟩]
   ·rw[if_neg e,ih];by_cases h:i<j∧(f i).gone=true
    ·rw[if_pos h,if_pos ⟨by omega,h.2⟩]
    ·rw[if_neg h,if_neg (fun h2=>h ⟨by omega,h2.2⟩)]
  ·rw[if_neg hg,ih];by_cases h:i<j∧(f i).gone=true
   ·rw[if_pos h,if_pos ⟨by omega,h.2⟩]
   ·rw[if_neg h,if_neg (fun h2=>h ⟨by
     rcases Nat.lt_or_ge i j with h3 | h3
     ·exact h3
     ·have:i=j:=by omega
      exact absurd (this▸h2.2) hg,h2.2⟩)]
theorem Lx {f:Nat→RS} {hs:List Int} {j i:Nat} (hi:i<hs.length) (hg:(f i).gone=false):hof (hsJ f hs j) (i:Int)=hof hs (i:Int):=by
 obtain⟨x,hx⟩:∃ x,hs[i]?=some x:=⟨hs[i],by simp⟩
 have h:=EO f hs j i hi;rw[if_neg (fun h=>by rw[hg] at h;exact Bool.false_ne_true h.2),hx] at h;rw[sF h,sF hx]
theorem Tr.Im.names {ρ ρ':Int→Int} {a g:Tr.G} (h:Tr.Im ρ a g) (hρ:∀ y,y = -1∨(a y).isSome→ρ' y=ρ y):Tr.Im ρ' a g:=by
 have hmap:∀ y q,a y=some q→Tr.fC ρ' q=Tr.fC ρ q:=fun y q e=>by
  unfold Tr.fC;rw[hρ q.pa (h.pa y q e)];congr 1;exact List.map_congr_left fun k hk=>hρ k (.inr (h.kids y q e k hk))
 constructor
 ·rw[hρ _ (.inl rfl)];exact h.zero
 ·intro y q e;rw[hρ y (.inr (by rw[e];rfl)),hmap y q e];exact h.node y q e
 ·intro y hy;obtain⟨z,h1,h2⟩:=h.dom y hy;exact⟨z,h1,by rw[hρ z (.inr h1)];exact h2⟩
 ·intro y z hy hz e;rw[hρ y (.inr hy),hρ z (.inr hz)] at e;exact h.inj y z hy hz e
 ·intro y hy;rw[hρ y (.inr hy)];exact h.nz y hy
 ·exact h.neg
 ·exact h.pa
 ·exact h.kids
theorem Dq:∀ (m:Nat) (l:List Int),l.Nodup→(∀ x∈l,∃ i:Nat,x=(i:Int)∧i<m)→l.length≤m
 | 0,l,_,h=>by
  cases l with
  | nil=>exact Nat.le_refl _
  | cons a r=>obtain⟨i,_,hi⟩:=h a (by simp);omega
 | m+1,l,hn,h=>by
  have h1:=Dq m (l.erase (m:Int)) (hn.erase _) (fun x hx=>by
   obtain⟨hne,hm⟩:=(hn.mem_erase_iff).1 hx;obtain⟨i,e,hi⟩:=h x hm
   exact⟨i,e,by omega⟩)
  have h2:=List.length_erase (l:=l) (a:=(m:Int));rw[h2] at h1
  split at h1<;>omega
theorem Tr.Im.Gq {ρ:Int→Int} {m:Nat} {f:Nat→RS} {g:Tr.G} (h:Tr.Im ρ (mg m f) g) (w:Tr.WF 0 g) {i:Nat} (hi:i<m) (hg:(f i).gone=false):(Tr.ak g (ρ (i:Int))).length≤m:=by
 rw[h.walk w (i:Int) (by rw[aP hi hg];rfl),List.length_map];refine Dq m _ ((h.pull w).lN _) fun x hx=>?_;obtain⟨j,e,hj,_⟩:=jq ((h.pull w).jI hx);exact⟨j,e,hj⟩
section
variable {w w3 w4 w5:World} {base bM T B M:Nat} {b s:Int} {vs vf aQ vh vs' bV:Value} {n live m aW:Nat} {fr fr':List Nat} {av:Int→Tr.Sl} {f:Nat→RS} {hs:List Int} {g:Tr.G} {K:Nat}
theorem TW.dropped (H:TW w base bM T B M b s vs vf aQ vh n live m fr av f hs g K) {i:Nat} (hi:i<m) (hg:(f i).gone=false) (h0:i≠0) (hp:(f i).pa = -1)
  (yu:TV base w3 B b s vs' n (Tr.raw (Tr.iG g (hof hs (i:Int))) av) bV fr' aW (hof hs 0)) (Ei:Sound b s n (Tr.raw (Tr.iG g (hof hs (i:Int))) av) fr' aW) (fK:aB w w3 (aD B vs vf) (aD B vs' bV))
  (mv4:MV bM w4 M aQ m (iX f (Tr.ak (mg m f) i))) (dK:aB w3 w4 (aC M aQ m f) (aC M aQ m (iX f (Tr.ak (mg m f) i))))
  (TN:pF w5 T B M vh (hsJ (iX f (Tr.ak (mg m f) i)) hs m)) (t5:Turns (fun k=>vh.ownBlock=some k) w4 w5):
  TW w5 base bM T B M b s vs' bV aQ vh n aW m fr' av (iX f (Tr.ak (mg m f) i)) (hsJ (iX f (Tr.ak (mg m f) i)) hs m) (Tr.iG g (hof hs (i:Int))) (K+1):=by
 have eg:=H.dJ hi hg;have ea:=aP hi hg;have wa:=H.im.pull H.wf;have hd:=H.im.drop H.wf ea hp;have hh0:(0:Int)∉Tr.ak (mg m f) (i:Int):=by
  intro hm;have h1:=(wa.fE (i:Int) 0).1 hm;have e0:mg m f 0=some (lH (f 0)):=aP (m:=m) (f:=f) (i:=0) H.m0 H.g0;rw[wa.bC e0,show (lH (f 0)).pa = -1 from H.d0,wa.kU wa.zero] at h1;have:(i:Int)=0:=by simpa using h1
  omega
 obtain⟨f',hf'⟩:∃ f',iX f (Tr.ak (mg m f) (i:Int))=f':=⟨_,rfl⟩
 have hsame:∀ j,(f' j).kind=(f j).kind∧(f' j).pa=(f j).pa∧(f' j).at'=(f j).at'∧(f' j).data=(f j).data:=fun j=>by
  rw[←hf'];unfold iX;split<;>exact⟨rfl,rfl,rfl,rfl⟩
 have Qo:(f' 0).gone=false:=by
  rw[←hf'];unfold iX;rw[if_neg (by simpa using hh0)];exact H.g0
 have U0:mg m f'=Tr.iG (mg m f) (i:Int):=by rw[←hf'];exact Ql
 have Zh:aC M aQ m f'=aC M aQ m f:=by rw[←hf'];exact om _ _ _ _ _
 rw[hf'] at mv4 dK TN ⊢;rw[Zh] at dK;obtain⟨a1,a2,a3,a4,a5⟩:=H.after fK;have hvl:∀ k,vh.ownBlock=some k→k<w3.heap.size:=fun k hk=>Nat.lt_of_lt_of_le (H.tw.row.lt k hk).2 fK.1.size;have hlen:(hsJ f' hs m).length=m:=by rw[qO,H.len]
 have O4:hof (hsJ f' hs m) 0=hof hs 0:=Lx (i:=0) (by rw[H.len];exact H.m0) Qo;have Uj:TV base w5 B b s vs' n (Tr.raw (Tr.iG g (hof hs (i:Int))) av) bV fr' aW (hof hs 0):=(yu.turns dK.1 (fun k hk hm=>a3 k hk hm)).turns t5 (fun k hk hv=>a4 k hv hk);have hA:AT w5 (Tr.iG g (hof hs (i:Int))) av:=by
  have h1:AT w4 g av:=(H.at'.step H.tv fK).K4 a2 dK;have h2:AT w5 g av:=h1.turns t5 fun x q e k hk hv=>TR.ne (h1 x q e) (a1.row.turns dK.1 fun k hk=>(H.yV k hk).2) (by decide) k hk hv;refine AT.same h2 fun x q e=>?_;unfold Tr.iG at e
  split at e
  ·cases e
  ·exact⟨q,e,rfl⟩
 refine⟨TN,by rw[O4];exact Uj,Ei,hA,H.wf.drop eg (by show hof hs (f i).pa=0;rw[hp];exact H.im.zero),mv4.turns t5 (fun k hm hv=>(H.yV k hv).2 (by rw[←Zh];exact hm)),?_,?_,hlen,Qo,H.m0,?_,H.nm,?_,?_,?_,?_,⟨((H.kp.1.trans (fK.1.below H.uS fun k hk=>Nat.le_trans H.kp.2.1 (H.tv.lt k hk).1)).trans (dK.1.below (Nat.le_trans H.uS fK.1.size) fun k hk=>Nat.le_trans H.kp.2.2.1 (H.mv.lt k hk).1)).trans (t5.below (Nat.le_trans (Nat.le_trans H.uS fK.1.size) dK.1.size) fun k hk=>H.kp.2.2.2.2 k hk),H.kp.2.1,H.kp.2.2.1,H.kp.2.2.2.1,H.kp.2.2.2.2⟩,H.ml,⟨H.ok.1.drop H.wf _ fun n e=>?_,fun j hj=>?_⟩,by rw[Zh];exact ((H.ks.a fK).m dK).h t5⟩
 ·rw[U0];refine hd.names fun y hy=>?_;rcases hy with rfl | hy
  ·rw[mK,mK]
  ·rw[←U0] at hy;obtain⟨j,rfl,hj,WG,-⟩:=jq hy;exact Lx (by rw[H.len];exact hj) WG
 ·exact⟨by rw[(hsame 0).1];exact H.km.1,fun j hj hj0=>by rw[(hsame j).1];exact H.km.2 j hj hj0⟩
 ·intro j hj hgj;rw[EO f' hs m j (by rw[H.len];exact hj),if_pos ⟨hj,hgj⟩]
 ·intro k hf hm;rw[Zh] at hm;exact a3 k hf hm
 ·intro k hk;exact⟨a4 k hk,fun hm=>(H.yV k hk).2 (by rw[←Zh];exact hm)⟩
 ·rw[(hsame 0).2.1];exact H.d0
 ·intro j hj;rw[(hsame j).2.2.1,(hsame j).2.2.2];have:=H.bd j hj;exact⟨by omega,by omega,this.2.2⟩
 ·rw[eg] at e;obtain rfl:=Option.some.inj e;show hof hs (f i).pa=0;rw[hp];exact H.im.zero
 ·rw[←hf'];unfold iX
  split
  ·exact (H.ok.2 j hj).same rfl rfl rfl
  ·exact H.ok.2 j hj
theorem Bf {f:Nat→RS} {hs:List Int}:∀ j,(∀ i,i<j→(f i).gone=true→hs[i]?=some (-1))→hsJ f hs j=hs
 | 0,_=>rfl
 | j+1,h=>by
  unfold hsJ;rw[Bf j fun i hi=>h i (by omega)]
  split
  ·rename_i hg;have hj:=h j (by omega) hg;apply List.ext_getElem?;intro i;rw[List.getElem?_set];by_cases e:j=i
   ·subst e;rw[if_pos rfl,if_pos (List.getElem?_eq_some_iff.1 hj).1,hj]
   ·rw[if_neg e]
  ·rfl
theorem TW.handles (H:TW w base bM T B M b s vs vf aQ vh n live m fr av f hs g K) (TN:pF w5 T B M vh hs) (t5:Turns (fun k=>vh.ownBlock=some k) w w5):TW w5 base bM T B M b s vs vf aQ vh n live m fr av f hs g K:=
 ⟨TN,H.tv.turns t5 (fun k hk hv=>(H.yV k hv).1 hk),H.so,H.at'.turns t5 (fun x q e k hk hv=>TR.ne (H.at' x q e) H.tw.row (by decide) k hk hv),H.wf,H.mv.turns t5 (fun k hm hv=>(H.yV k hv).2 hm),H.im,H.km,H.len,H.g0,H.m0,H.gn,H.nm,H.VX,H.yV,H.d0,H.bd,⟨H.kp.1.trans (t5.below H.uS fun k hk=>H.kp.2.2.2.2 k hk),H.kp.2⟩,H.ml,H.ok,H.ks.h t5⟩
structure HJ (w:World) (T B M:Nat) (vh:Value) (m:Nat) (f:Nat→RS) (hs:List Int) (j:Nat) (wr:World):Prop where
 var:Whole wr T #[.pointer (some ⟨B,0,none⟩),.pointer (some ⟨M,0,none⟩),vh] 33
 row:TR wr 0 3 1 vh m (ints (hsJ f hs j))
 turns:Turns (fun k=>vh.ownBlock=some k) w wr
theorem HJ.start (H:pF w T B M vh hs) (hl:hs.length=m):HJ w T B M vh m f hs 0 w:=⟨H.var,by rw[←hl];exact H.row,.refl _ _⟩
theorem HJ.keep {wr:World} {j:Nat} (H:HJ w T B M vh m f hs j wr) (hg:(f j).gone=false):HJ w T B M vh m f hs (j+1) wr:=⟨H.var,by unfold hsJ;rw[if_neg (by rw[hg];decide)];exact H.row,H.turns⟩
theorem HJ.set {wr:World} {j gh oh ch:Nat} (H:HJ w T B M (.slice (some ⟨gh,oh,none⟩) m ch) m f hs j wr) (hj:j<m) (hg:(f j).gone=true):HJ w T B M (.slice (some ⟨gh,oh,none⟩) m ch) m f hs (j+1) (wr.setCell ⟨gh,oh+j,none⟩ (.int .i64 (-1))):=by
 obtain⟨o1,g1⟩:=H.row.stored j (.int .i64 (-1));have hne:gh≠T:=fun e=>H.row.unlike H.var (by decide) (by rw[e];rfl);refine⟨H.var.other (fun e=>hne e.symm) _,?_,H.turns.trans (.aT g1 (fun k hk=>hk)) (fun _ _ x=>x) (fun k _ hk=>by rw[←hk];rfl)⟩;unfold hsJ;rw[if_pos hg,show ints ((hsJ f hs j).set j (-1))=(ints (hsJ f hs j)).set j (.int .i64 (-1)) by unfold ints;rw[List.map_set]];exact o1
theorem HJ.done {wr:World} (H:HJ w T B M vh m f hs m wr) (hl:hs.length=m):pF wr T B M vh (hsJ f hs m):=⟨H.var,by rw[qO,hl];exact H.row⟩
end
end
section
open Go.RowKit
variable [mY]
section
variable {w w3 w4 w5:World} {base bM T B M:Nat} {b s:Int} {vs vf aQ vh vs' bV dS l7:Value} {n live m n' aW:Nat} {fr fr':List Nat} {av:Int→Tr.Sl} {f:Nat→RS} {hs:List Int} {g:Tr.G} {K:Nat}
theorem TW.made (H:TW w base bM T B M b s vs vf aQ vh n live m fr av f hs g K) {h:Int} {x:RS} {sl:Tr.Sl} (hml:m<700) (hx:x.gone=false∧x.pa = -1∧x.kids=[]∧(x.kind=2∨x.kind=3∨x.kind=4)) (hxb:x.at'.length≤K+1+2∧x.data.size≤120*(K+1)∧bD.rep x.data.data.toList=x.data.data.toList)
  (hxn:uW x) (hg0:g h=none) (hh0:h≠0) (hn':n'≤n+1)
  (yu:TV base w3 B b s vs' n' (Tr.raw (Tr.dI g h { lH x with pa:=0 }) (Tr.eZ av h sl)) bV fr' aW (hof hs 0)) (Ei:Sound b s n' (Tr.raw (Tr.dI g h { lH x with pa:=0 }) (Tr.eZ av h sl)) fr' aW) (Gm:Tr.WF 0 (Tr.dI g h { lH x with pa:=0 })) (K5:AR w3 0 sl.v x.at') (fK:aB w w3 (aD B vs vf) (aD B vs' bV))
  (mv4:MV bM w4 M dS (m+1) (iD m f x)) (dK:aB w3 w4 (aC M aQ m f) (aC M dS (m+1) (iD m f x)))
  (TN:pF w5 T B M l7 (hs++[h])) (t5:Turns (fun k=>k=T∨vh.ownBlock=some k) w4 w5) (hv5:∀ k,l7.ownBlock=some k→vh.ownBlock=some k∨w4.heap.size≤k):
  TW w5 base bM T B M b s vs' bV dS l7 n' aW (m+1) fr' (Tr.eZ av h sl) (iD m f x) (hs++[h]) (Tr.dI g h { lH x with pa:=0 }) (K+1):=by
 obtain⟨a1,a2,a3,a4,a5⟩:=H.after fK;have QH:∀ k,aD B vs' bV k→k<w3.heap.size:=fun k hk=>(yu.lt k hk).2;have hvl:∀ k,vh.ownBlock=some k→k<w3.heap.size:=fun k hk=>Nat.lt_of_lt_of_le (H.tw.row.lt k hk).2 fK.1.size;have WZ:T<w3.heap.size:=a1.var.lt;have hFT:¬ aD B vs' bV T:=yu.aU a1.var (by decide) (by decide) (by decide);have hMT:¬ aC M dS (m+1) (iD m f x) T:=fun hm=>H.Ku.2 (dK.2 T WZ hm);have Vi:∀ k,aD B vs' bV k→¬ aC M dS (m+1) (iD m f x) k:=fun k hf hm=>a3 k hf (dK.2 k (QH k hf) hm);have JF:∀ k,vh.ownBlock=some k→¬ aD B vs' bV k∧¬ aC M dS (m+1) (iD m f x) k:=fun k hk=>⟨a4 k hk,fun hm=>(H.yV k hk).2 (dK.2 k (hvl k hk) hm)⟩
 have Wj:∀ k,aD B vs' bV k→k<w4.heap.size:=fun k hk=>Nat.lt_of_lt_of_le (QH k hk) dK.1.size;have Ef:∀ k,aC M dS (m+1) (iD m f x) k→k<w4.heap.size:=fun k hk=>(mv4.lt k hk).2;have hold:∀ j,j<m→iD m f x j=f j:=fun j hj=>eD hj;have hlen:(hs++[h]).length=m+1:=by rw[List.length_append,H.len];rfl
 have O4:hof (hs++[h]) 0=hof hs 0:=wH (by have:=H.len;have:=H.m0;omega);have tv5:TV base w5 B b s vs' n' (Tr.raw (Tr.dI g h { lH x with pa:=0 }) (Tr.eZ av h sl)) bV fr' aW (hof hs 0):=(yu.turns dK.1 (fun k hk hm=>a3 k hk hm)).turns t5 (fun k hk hv=>hv.elim (fun e=>hFT (e▸hk)) (fun e=>(JF k e).1 hk));have abA:AT w3 (Tr.dI g h { lH x with pa:=0 }) (Tr.eZ av h sl):=fun y q e=>by
  by_cases hy:y=h
  ·subst hy;rw[Tr.bL] at e;obtain rfl:=Option.some.inj e;rw[Tr.lK];exact K5
  ·rw[Tr.bS hy] at e;rw[Tr.vk hy];exact H.at'.step H.tv fK y q e
 have Ru:=abA.K4 a2 dK;have hA:AT w5 (Tr.dI g h { lH x with pa:=0 }) (Tr.eZ av h sl):=Ru.turns t5 fun y q e k hk hv=>by
  have hr:=Ru y q e;rcases hv with e1 | e1
  ·exact TR.unlike hr (a1.var.turns dK.1 H.Ku.2) (by decide) (by rw[hk,e1])
  ·exact TR.ne hr (a1.row.turns dK.1 fun k hk=>(H.yV k hk).2) (by decide) k hk e1
 refine⟨TN,by rw[O4];exact tv5,Ei,hA,Gm,mv4.turns t5 (fun k hm hv=>hv.elim (fun e=>hMT (e▸hm)) (fun e=>(JF k e).2 hm)),?_,?_,hlen,by rw[hold 0 H.m0];exact H.g0,by omega,?_,by have:=H.nm;omega,Vi,?_,by rw[hold 0 H.m0];exact H.d0,?_,⟨((H.kp.1.trans (fK.1.below H.uS fun k hk=>Nat.le_trans H.kp.2.1 (H.tv.lt k hk).1)).trans (dK.1.below (Nat.le_trans H.uS fK.1.size) fun k hk=>Nat.le_trans H.kp.2.2.1 (H.mv.lt k hk).1)).trans (t5.below (Nat.le_trans (Nat.le_trans H.uS fK.1.size) dK.1.size) fun k hk=>by rcases hk with e | e;exact e▸H.kp.2.2.2.1;exact H.kp.2.2.2.2 k e),H.kp.2.1,H.kp.2.2.1,H.kp.2.2.2.1,fun k hk=>by rcases hv5 k hk with e | e;exact H.kp.2.2.2.2 k e;exact Nat.le_trans (Nat.le_trans (Nat.le_trans H.uS fK.1.size) dK.1.size) e⟩,by omega,⟨H.ok.1.add H.wf hg0 hx.2.2.1,fun j hj=>?_⟩,((H.ks.a fK).m dK).t t5 hv5⟩
 ·rw[R7 hx.1];refine H.im.add (fun y hy=>?_) ?_ (by omega) hg0 hh0 ?_ hx.2.1 hx.2.2.1
  ·rcases hy with rfl | hy
   ·rw[mK,mK]
   ·obtain⟨j,rfl,hj,-⟩:=jq hy;exact wH (by rw[H.len];omega)
  ·rw[jC,if_neg (fun h=>by omega)]
  ·rw[←H.len];exact EM
 ·refine⟨by rw[hold 0 H.m0];exact H.km.1,fun j hj hj0=>?_⟩;by_cases e:j=m
  ·rw[e,dQ];exact hx.2.2.2
  ·rw[hold j (by omega)];exact H.km.2 j (by omega) hj0
 ·intro j hj hgj;by_cases e:j=m
  ·rw[e,dQ,hx.1] at hgj;cases hgj
  ·rw[hold j (by omega)] at hgj;rw[List.getElem?_append_left (by rw[H.len];omega)];exact H.gn j (by omega) hgj
 ·intro k hk;rcases hv5 k hk with e | e
  ·exact JF k e
  ·exact⟨fun hf=>by have:=Wj k hf;omega,fun hm=>by have:=Ef k hm;omega⟩
 ·intro j hj;by_cases e:j=m
  ·rw[e,dQ];exact hxb
  ·rw[hold j (by omega)];have:=H.bd j (by omega);exact⟨by omega,by omega,this.2.2⟩
 ·by_cases e:j=m
  ·rw[e,dQ];exact hxn
  ·rw[hold j (by omega)];exact H.ok.2 j (by omega)
end
end
section
open Go.RowKit
variable [mY]
theorem MV.nf {bM M m:Nat} {w:World} {vs:Value} {f:Nat→RS} {k:Nat} {cs:Array Value} {t:TypeId} (hM:MV bM w M vs m f) (hX:Whole w k cs t) (h1:t≠55) (h2:52≠t) (h3:3≠t) (h4:74≠t):¬ aC M vs m f k:=by
 rintro (rfl | hx | ⟨i,hi,hx | hx⟩)
 ·exact hX.unlike hM.var h1 rfl
 ·exact bA hM.row hX h2 hx
 ·exact (hM.ar i hi).unlike hX h4 hx
 ·exact (hM.kr i hi).unlike hX h3 hx
theorem pF.pushed {w w1 w5:World} {T B M:Nat} {vh v5:Value} {hs:List Int} {h:Int} (H:pF w T B M vh hs) (h1:Below w.heap.size w w1) (g:w1.grownBy w5 vh.ownBlock) (o:TR w5 0 3 1 v5 (hs.length+1) (ints (hs++[h]))) (f:mV w1 vh v5):
  Whole w5 T #[.pointer (some ⟨B,0,none⟩),.pointer (some ⟨M,0,none⟩),vh] 33∧pF (w5.setCell ⟨T,2,none⟩ v5) T B M v5 (hs++[h])∧Turns (fun k=>k=T∨vh.ownBlock=some k) w (w5.setCell ⟨T,2,none⟩ v5)∧∀ k,v5.ownBlock=some k→vh.ownBlock=some k∨w.heap.size≤k:=by
 have k1:=(H.below h1).var;have k2:=(H.below h1).row;have hW:Whole w5 T #[.pointer (some ⟨B,0,none⟩),.pointer (some ⟨M,0,none⟩),vh] 33:=k1.grown g (fun e=>k2.unlike k1 (by decide) e.symm);have gp:w5.grownBy (w5.setCell ⟨T,2,none⟩ v5) (some T):=aO (ay (Below.refl w5.heap.size w5) _) 2 v5;refine⟨hW,⟨hW.put 2 v5,?_⟩,?_,?_⟩
 ·have:=o.kept gp (.inr (o.unlike hW (by decide)));rw[List.length_append];exact this
 ·have a1:Turns (fun k=>k=T∨vh.ownBlock=some k) w w1:=.of_below h1;have a2:Turns (fun k=>k=T∨vh.ownBlock=some k) w1 w5:=.aT g (fun k hk=>.inr hk);have a3:Turns (fun k=>k=T∨vh.ownBlock=some k) w5 (w5.setCell ⟨T,2,none⟩ v5):=.aT gp (fun k hk=>.inl (by simpa using hk.symm));exact (a1.trans a2 (fun _ _ x=>x) (fun _ _ x=>x)).trans a3 (fun _ _ x=>x) (fun _ _ x=>x)
 ·intro k hk;rcases f with f | f
  ·exact .inl (f▸hk)
  ·exact .inr (Nat.le_trans h1.size (f k hk))
def abB (base bM T B M:Nat) (b s:Int) (vs vf aQ vh:Value) (n live m:Nat) (fr:List Nat) (av:Int→Tr.Sl) (f:Nat→RS) (hs:List Int) (g:Tr.G) (K:Nat) (h E:Int) (V3:World) (e:Ending) (w4:World):Prop:=
 e=.returned (.int .i64 E)∧Turns (aC M aQ m f) V3 w4∧((E=1∧h=0∧TW w4 base bM T B M b s vs vf aQ vh n live m fr av f hs g (K+1))∨
  (E=0∧h≠0∧pF w4 T B M vh hs∧∀ (w5:World) (l7:Value),pF w5 T B M l7 (hs++[h])→Turns (fun k=>k=T∨vh.ownBlock=some k) w4 w5→(∀ k,l7.ownBlock=some k→vh.ownBlock=some k∨w4.heap.size≤k)→
   ∃ (vs' bV dS:Value) (n' aW:Nat) (fr':List Nat) (iR:Int→Tr.Sl) (f':Nat→RS) (g':Tr.G),TW w5 base bM T B M b s vs' bV dS l7 n' aW (m+1) fr' iR f' (hs++[h]) g' (K+1)))
def Zi (base bM T B M:Nat) (b s:Int) (vs vf aQ vh:Value) (n live m:Nat) (fr:List Nat) (av:Int→Tr.Sl) (f:Nat→RS) (hs:List Int) (g:Tr.G) (K:Nat) (kd:Int) (nm dt:ByteArray) (vP:Value) (w:World) (e:Ending) (w3:World):Prop:=
 ∃ (h E:Int),e=.returned (.tuple #[.int .i64 h,.int .i64 E])∧((E=1∧h=0)∨(E=0∧h≠0))∧Turns (aD B vs vf) w w3∧pF w3 T B M vh hs∧
  ∀ V3,Below w3.heap.size w3 V3→Calls Tryz.prog 21 #[.pointer (some ⟨M,0,none⟩),.int .i64 kd,.string nm,.string dt,vP] V3 (abB base bM T B M b s vs vf aQ vh n live m fr av f hs g K h E V3)
variable {w:World} {base bM T B M:Nat} {b s:Int} {vs vf aQ vh:Value} {n live m:Nat} {fr:List Nat} {av:Int→Tr.Sl} {f:Nat→RS} {hs:List Int} {g:Tr.G} {K:Nat}
theorem TW.Kj (H:TW w base bM T B M b s vs vf aQ vh n live m fr av f hs g K) {kd:Int} {nm dt:ByteArray} {vP:Value} {w3:World} {h:Int} {vs' bV:Value} {n':Nat} {fr':List Nat} {sl:Tr.Sl} {x:RS}
  (hml:m<700) (hx:x.gone=false∧x.pa = -1∧x.kids=[]∧(x.kind=2∨x.kind=3∨x.kind=4)) (hxb:x.at'.length≤K+1+2∧x.data.size≤120*(K+1)∧bD.rep x.data.data.toList=x.data.data.toList) (hxn:uW x) (hn':n'≤n+1) (hg0:g h=none) (hh0:h≠0)
  (yu:TV base w3 B b s vs' n' (Tr.raw (Tr.dI g h { lH x with pa:=0 }) (Tr.eZ av h sl)) bV fr' (live+1) (hof hs 0)) (Ei:Sound b s n' (Tr.raw (Tr.dI g h { lH x with pa:=0 }) (Tr.eZ av h sl)) fr' (live+1)) (Gm:Tr.WF 0 (Tr.dI g h { lH x with pa:=0 })) (K5:AR w3 0 sl.v x.at') (fK:aB w w3 (aD B vs vf) (aD B vs' bV))
  (hR:∀ V3,MV bM V3 M aQ m f→bM≤V3.heap.size→Below w3.heap.size w3 V3→Calls Tryz.prog 21 #[.pointer (some ⟨M,0,none⟩),.int .i64 kd,.string nm,.string dt,vP] V3 fun e w'=>∃ (vs':Value) (sl':Tr.Sl),e=.returned (.int .i64 0)∧MV bM w' M vs' (m+1) (iD m f { x with a:=sl' })∧aB V3 w' (aC M aQ m f) (aC M vs' (m+1) (iD m f { x with a:=sl' }))):
  Zi base bM T B M b s vs vf aQ vh n live m fr av f hs g K kd nm dt vP w (.returned (.tuple #[.int .i64 h,.int .i64 0])) w3:=by
 obtain⟨a1,a2,-,-,-⟩:=H.after fK;refine⟨h,0,rfl,.inr ⟨rfl,hh0⟩,fK.1,a1,fun V3 hb=>?_⟩;have hmv:=a2.below hb;refine (hR V3 hmv (by have:=hmv.low;have:=hmv.var.lt;omega) hb).mono ?_;rintro e w4 ⟨dS,sl',rfl,mv4,dK⟩;refine⟨rfl,dK.1,.inr ⟨rfl,hh0,?_,fun w5 l7 h5 t5 hv5=>⟨vs',bV,dS,n',live+1,fr',_,_,_,H.made (x:={ x with a:=sl' }) hml hx hxb (hxn.same rfl rfl rfl) hg0 hh0 hn' (yu.below hb) Ei Gm (K5.below hb) (fK.trans (.of_below hb)) mv4 dK h5 t5 hv5⟩⟩⟩;have H3:=a1.below hb;have hvl:∀ k,vh.ownBlock=some k→¬ aC M aQ m f k:=fun k hk=>(H.yV k hk).2;exact⟨H3.var.turns dK.1 H.Ku.2,H3.row.turns dK.1 hvl⟩
theorem Dr (H:TW w base bM T B M b s vs vf aQ vh n live m fr av f hs g K) (hm:m≤300) (hT:Lit w) (kd:Int) (hkd:kd=2∨kd=3∨kd=4) (nm dt:ByteArray) (hnm:nm.size≤40) (hdt:dt.size≤40) (l:List (ByteArray×ByteArray)) (hl:l.length≤2) (hvs:∀ p∈l,p.1.size≤40∧p.2.size≤40)
  (A0:Option Addr) (c0:Nat) (hA:AR w 0 (.slice A0 l.length c0) l) (aA:Option Addr) (cA:Nat) (hP:TR w 0 74 2 (.slice aA l.length cA) l.length (fJ l)):
  Calls Tryz.prog 18 #[.pointer (some ⟨B,0,none⟩),.int .i64 kd,.string nm,.string dt,.slice A0 l.length c0] w (Zi base bM T B M b s vs vf aQ vh n live m fr av f hs g K kd nm dt (.slice aA l.length cA) w):=by
 have hbase:base≤w.heap.size:=by have:=H.tv.low;have:=H.tv.var.lt;omega
 have hn:=H.nm;have hlv:live<20000:=by have:=H.so.count;omega
 have hn1:n<100000:=by omega
 have hPF:∀ k,Value.ownBlock (.slice aA l.length cA)=some k→¬ aD B vs vf k:=by
  rintro k hk (rfl | hx | hx)
  ·exact hP.unlike H.tv.var (by decide) hk
  ·exact dR hP H.tv.row (by decide) k hx hk
  ·exact dR hP H.tv.free (by decide) k hx hk
 have Xt:(aX dt).size≤120*(K+1)∧bD.rep (aX dt).data.toList=(aX dt).data.toList:=by
  have h1:=bD.nk dt.data.toList;have h2:(aX dt).size=(bD.rep dt.data.toList).length:=kg _;have h3:dt.data.toList.length=dt.size:=rfl;refine⟨by omega,?_⟩;unfold aX;rw[Ci];exact bD.KZ _
 have SB:∀ p∈l,p.1.size≤20000∧p.2.size≤6000:=fun p hp=>⟨by have:=(hvs p hp).1;omega,by have:=(hvs p hp).2;omega⟩
 have Zj:∀ p∈l,p.1.size≤10000∧p.2.size≤6000:=fun p hp=>⟨by have:=(hvs p hp).1;omega,by have:=(hvs p hp).2;omega⟩
 rcases hkd with rfl | rfl | rfl
 ·cases hok:Nm.attrs l && Nm.elem nm with
  | false=>
   refine (Mg base B b s (hof hs 0) live n g av fr vs vf nm dt _ l w H.tv H.so H.wf hbase hn1 hlv hA (by omega) SB (by omega) hok hT).mono ?_;rintro e w3 ⟨rfl,hb3⟩;have H3:=H.below hb3;refine⟨0,1,rfl,.inl ⟨rfl,rfl⟩,.of_below hb3,H3.tw,fun V3 hb=>?_⟩;have H5:=H3.below hb;have hP5:=(hP.below hb3).below hb;cases he:Nm.elem nm with
   | false=>
    refine (Ki M _ nm dt V3 (by omega) he).mono ?_;rintro e w4 ⟨rfl,hb4⟩;exact⟨rfl,.of_below hb4,.inl ⟨rfl,rfl,(H5.below hb4).up⟩⟩
   | true=>
    refine (yh bM M m aQ aA cA l f nm dt V3 H5.mv hP5 he (by have:=H5.mv.low;have:=H5.mv.var.lt;omega) (by omega) (by omega) (by omega) Zj).mono ?_;rintro e w4 (⟨-,rfl,hb4⟩ | ⟨h1,-⟩)
    ·exact⟨rfl,.of_below hb4,.inl ⟨rfl,rfl,(H5.below hb4).up⟩⟩
    ·rw[h1,he] at hok;cases hok
  | true=>
   refine (Jm base B b s (hof hs 0) live n g av fr vs vf nm dt _ l w H.tv H.so H.wf hbase hn1 hlv hA (by omega) SB (by omega) hok hT).mono ?_;rintro e w3 ⟨h,vs',bV,n',fr',sl,rfl,hn',hg0,hh0,yu,Ei,Gm,K5,fK⟩;have ha:Nm.attrs l=true∧Nm.elem nm=true:=by rw[Bool.and_eq_true] at hok;exact hok
   refine H.Kj (x:=⟨2,nm,⟨none,0,0⟩,l.map gD,⟨#[]⟩,-1,⟨none,0,0⟩,[],false⟩) (by omega) ⟨rfl,rfl,rfl,.inl rfl⟩ ⟨by rw[List.length_map];omega,by show 0≤_;omega,bD.oJ⟩ ⟨fun _=>by rw[Bool.and_eq_true];exact⟨by show Nm.attrs (l.map gD)=true;rw[wX];exact ha.1,ha.2⟩,fun h=>absurd rfl h,by show nm.size≤_;omega,fun p hp=>by obtain⟨q,hq,rfl⟩:=List.mem_map.1 hp;exact⟨(SB q hq).1,jZ (SB q hq).2⟩⟩ hn' hg0 hh0 yu Ei Gm K5 fK fun V3 hv hb hbl=>?_;have hP5:=(hP.turns fK.1 hPF).below hbl;refine (yh bM M m aQ aA cA l f nm dt V3 hv hP5 ha.2 hb (by omega) (by omega) (by omega) Zj).mono ?_;rintro e w4 (⟨h1,-⟩ | ⟨-,Og,NG,rfl,mv4,dK⟩)
   ·rw[ha.1] at h1;cases h1
   ·exact⟨Og,NG,rfl,mv4,dK⟩
 ·refine (Jo base B b s (hof hs 0) live n g av fr vs vf nm dt _ _ _ w H.tv H.so H.wf hbase hn1 hlv (by omega) hT).mono ?_;rintro e w3 ⟨h,vs',bV,n',fr',sl,rfl,hn',hg0,hh0,yu,Ei,Gm,K5,fK⟩;refine H.Kj (x:=⟨3,⟨#[]⟩,⟨none,0,0⟩,[],aX dt,-1,⟨none,0,0⟩,[],false⟩) (by omega) ⟨rfl,rfl,rfl,.inr (.inl rfl)⟩ ⟨by show 0≤_;omega,Xt.1,Xt.2⟩ ⟨fun h=>absurd (show (3:Int)=2 from h) (by decide),fun _=>rfl,Nat.zero_le _,fun p hp=>absurd hp (List.not_mem_nil)⟩ hn' hg0 hh0 yu Ei Gm K5 fK fun V3 hv hb _=>?_;refine (Bd bM M m aQ _ f 3 nm dt V3 hv (by decide) hb (by omega) (by omega)).mono ?_;rintro e w4 ⟨Og,rfl,mv4,dK⟩;exact⟨Og,⟨none,0,0⟩,rfl,mv4,dK⟩
 ·refine (BH base B b s (hof hs 0) live n g av fr vs vf nm dt _ _ _ w H.tv H.so H.wf hbase hn1 hlv (by omega) hT).mono ?_;rintro e w3 ⟨h,vs',bV,n',fr',sl,rfl,hn',hg0,hh0,yu,Ei,Gm,K5,fK⟩;refine H.Kj (x:=⟨4,⟨#[]⟩,⟨none,0,0⟩,[],aX dt,-1,⟨none,0,0⟩,[],false⟩) (by omega) ⟨rfl,rfl,rfl,.inr (.inr rfl)⟩ ⟨by show 0≤_;omega,Xt.1,Xt.2⟩ ⟨fun h=>absurd (show (4:Int)=2 from h) (by decide),fun _=>rfl,Nat.zero_le _,fun p hp=>absurd hp (List.not_mem_nil)⟩ hn' hg0 hh0 yu Ei Gm K5 fK fun V3 hv hb _=>?_;refine (Bd bM M m aQ _ f 4 nm dt V3 hv (by decide) hb (by omega) (by omega)).mono ?_;rintro e w4 ⟨Og,rfl,mv4,dK⟩;exact⟨Og,⟨none,0,0⟩,rfl,mv4,dK⟩
end
section
open Go.RowKit
theorem Kk (base M m:Nat) (vs:Value) (f:Nat→RS) (i:Nat) (nm:ByteArray) (w:World) (h:MV base w M vs m f) (hi:i<m) (hk:(f i).kind≠2):
  Calls Tryz.prog 29 #[.pointer (some ⟨M,0,none⟩),.int .i64 (i:Int),.string nm] w fun e w'=>e=.returned (ou 10)∧w'=w:=by
 obtain⟨A,c,rfl⟩:=h.form;obtain⟨g,rfl,-⟩:=h.read hi;obtain⟨k0,c0,_⟩:=h.rd hi;have q1:(0:Int)≤(i:Int):=by omega
 have q2:(i:Int)<(m:Int):=by omega
 have q3:=bne_true hk;clear h hk
 go_enter Tryz.func29,Tryz.ntmps29
 go_wp2_with fail;go_ret2;exact⟨rfl,rfl⟩
theorem Ib (base M m:Nat) (vs:Value) (f:Nat→RS) (i:Nat) (nm:ByteArray) (w:World) (h:MV base w M vs m f) (hi:i<m) (hm:m≤100000) (hk:(f i).kind=2) (hl:(f i).at'.length≤1000) (hcase:¬ pG (f i).at' nm<(f i).at'.length):
  Calls Tryz.prog 29 #[.pointer (some ⟨M,0,none⟩),.int .i64 (i:Int),.string nm] w fun e w'=>e=.returned (ou 0)∧w'=w:=by
 have hF:=tO base M m vs f i nm w h hi hm hl;have hai:yI (f i).at' nm = -1:=by unfold yI;rw[if_neg hcase]
 rw[hai] at hF;obtain⟨A,c,rfl⟩:=h.form;obtain⟨g,rfl,-⟩:=h.read hi;obtain⟨k0,c0,_⟩:=h.rd hi;rw[hk] at c0;have q1:(0:Int)≤(i:Int):=by omega
 have q2:(i:Int)<(m:Int):=by omega
 have HF:=zh hF;clear h hk hF hcase hai
 go_enter Tryz.func29,Tryz.ntmps29
 go_wp2_with fail;refine HF.out.mono ?_;rintro e w1 ⟨rfl,hw1⟩;obtain rfl:=hw1.symm;go_wp2_with fail;go_ret2;exact⟨rfl,rfl⟩
theorem Ic (base M m:Nat) (vs:Value) (f:Nat→RS) (i:Nat) (nm:ByteArray) (w:World) (h:MV base w M vs m f) (hi:i<m) (hm:m≤100000) (hk:(f i).kind=2) (hl:(f i).at'.length≤1000) (hcase:pG (f i).at' nm<(f i).at'.length):
  Calls Tryz.prog 29 #[.pointer (some ⟨M,0,none⟩),.int .i64 (i:Int),.string nm] w fun e w'=>∃ r sl,e=.returned (.tuple #[r,.int .i64 0])∧jP w.heap.size w' r [fV i nm (lJ (f i).at' nm) true]∧
   MV base w' M vs m (aV f i fun n=>{ n with a:=sl,at':=jY (f i).at' nm })∧aB w w' (aC M vs m f) (aC M vs m (aV f i fun n=>{ n with a:=sl,at':=jY (f i).at' nm })):=by
 obtain⟨i0,hi0,hz0,hz1,hz2⟩:=info_parts nM;have hF:=tO base M m vs f i nm w h hi hm hl;obtain⟨l1,p,l2,hL,hd1⟩:∃ l1 p l2,(f i).at'=l1++p::l2∧l1.length=pG (f i).at' nm:=by
  refine⟨(f i).at'.take (pG (f i).at' nm),(f i).at'[pG (f i).at' nm],(f i).at'.drop (pG (f i).at' nm+1),?_,by rw[List.length_take];omega⟩;rw[←List.drop_eq_getElem_cons hcase,List.take_append_drop]
 obtain⟨d,hd⟩:=eX (l1.length)
 obtain⟨b,hb⟩:=eX (l2.length)
 have hai:yI (f i).at' nm=(d:Int):=by unfold yI;rw[if_pos hcase,←hd1,hd]
 have hget:(f i).at'[d]?=some p:=by rw[hL,←hd];simp
 have hdrop:jY (f i).at' nm=l1++l2:=by unfold jY;rw[←hd1,hL,List.eraseIdx_append_of_length_le (Nat.le_refl _),Nat.sub_self];rfl
 have hold:lJ (f i).at' nm=p.2:=by unfold lJ;rw[←hd1,hd,hget]
 have hlen:(f i).at'.length=d+1+b:=by rw[hL,List.length_append,List.length_cons];omega
 rw[hai] at hF;obtain⟨A,c,rfl⟩:=h.form;obtain⟨g,rfl,-⟩:=h.read hi;obtain⟨k0,c0,_,c2,_⟩:=h.rd hi;rw[hk] at c0;obtain⟨ga,oa,hA,a1,a2⟩:=h.attr hi hget;obtain⟨cp,hcp⟩:=eX ((f i).a.c)
 have hv:(f i).a.v=.slice (some ⟨ga,oa,none⟩) (d+1+b) cp:=by unfold Tr.Sl.v;rw[h.an hi,hlen,hA,hcp]
 rw[hlen,hA,hcp] at c2;have q1:(0:Int)≤(i:Int):=by omega
 have q2:(i:Int)<(m:Int):=by omega
 have hr0:=h.ar i hi;rw[hv,hlen,hL] at hr0;have hcap:=hr0.le;have UQ:=zh (fun (W:World) (hb':Below w.heap.size w W)=>(hr0.below hb').NV hd hb);have HF:=zh hF;have HM:=zh (fun (W:World) (hb:Below w.heap.size w W)=>h.below hb);have hgl:g<w.heap.size:=(h.row.lt g rfl).2;have Z0:base≤w.heap.size:=by have:=h.low;have:=h.var.lt;omega
 have HDR:=zh (And.intro hdrop (And.intro hold (And.intro hd (And.intro hb hv))));rw[hlen] at hl;obtain⟨w3,hw3⟩:=eX (w.alloc (.cells #[.int .i64 0,.int .i64 0,.int .i64 0,.int .i64 0,.int .i64 0,.int .i64 0,.string ⟨#[]⟩,.string ⟨#[]⟩,.bool false,.int .i64 0,.int .i64 0] 114))
 have hb3:Below w.heap.size w w3:=gU hw3;have bJ:Whole w3 w.heap.size #[.int .i64 0,.int .i64 0,.int .i64 0,.int .i64 0,.int .i64 0,.int .i64 0,.string ⟨#[]⟩,.string ⟨#[]⟩,.bool false,.int .i64 0,.int .i64 0] 114:=by rw[←hw3];exact Whole.new w _ _
 have y0:w3.cell? ⟨w.heap.size,0,none⟩=some (.int .i64 0):=bJ.cell 0;have EZ:=bJ.free 0;have y1:w3.cell? ⟨w.heap.size,1,none⟩=some (.int .i64 0):=bJ.cell 1;have E5:=bJ.free 1;have y2:w3.cell? ⟨w.heap.size,2,none⟩=some (.int .i64 0):=bJ.cell 2;have E8:=bJ.free 2;have y3:w3.cell? ⟨w.heap.size,3,none⟩=some (.int .i64 0):=bJ.cell 3;have E9:=bJ.free 3;have y4:w3.cell? ⟨w.heap.size,4,none⟩=some (.int .i64 0):=bJ.cell 4;have Fa:=bJ.free 4;have y5:w3.cell? ⟨w.heap.size,5,none⟩=some (.int .i64 0):=bJ.cell 5;have Fb:=bJ.free 5;have y6:w3.cell? ⟨w.heap.size,6,none⟩=some (.string ⟨#[]⟩):=bJ.cell 6;have Fe:=bJ.free 6;have y7:w3.cell? ⟨w.heap.size,7,none⟩=some (.string ⟨#[]⟩):=bJ.cell 7;have Fg:=bJ.free 7;have y8:w3.cell? ⟨w.heap.size,8,none⟩=some (.bool false):=bJ.cell 8;have Fh:=bJ.free 8;have y9:w3.cell? ⟨w.heap.size,9,none⟩=some (.int .i64 0):=bJ.cell 9;have Fj:=bJ.free 9;have wP:w3.cell? ⟨w.heap.size,10,none⟩=some (.int .i64 0):=bJ.cell 10;have rJ:=bJ.free 10;obtain⟨w4,hw4,bB,g4⟩:=kQ bJ (.int .i64 3) (.int .i64 (i:Int)) (.int .i64 (-1)) (.int .i64 (-1)) (.int .i64 (-1)) (.int .i64 0) (.string nm) (.string p.2) (.bool true) (.int .i64 0) (.int .i64 0);have bU:Below w.heap.size w w4:=hb3.grown g4 hb3.size (fun j hj=>by simp at hj;omega);have uE:Below w.heap.size w w4.drew:=bU.trans ((aZ _ w4).mono bU.size);have hs4:w.heap.size<w4.heap.size:=bB.lt;obtain⟨w5,fT⟩:=eX (w4.drew.alloc (.cells #[] 74))
 have fB:Below w4.heap.size w4 w5:=by rw[←fT];exact (aZ _ w4).alloc (Nat.le_refl _) _
 have dY:=bU.trans (fB.mono bU.size);have dU:=bB.below fB bB.lt;have D6:=zh ((HM.out _ uE).rd hi).1;have Ju:=zh ((HM.out _ dY).rd hi).1;have OH:=fB.size;have e5:TR w5 w4.heap.size 74 2 (.slice (some ⟨w4.heap.size,0,none⟩) 0 0) 0 []:=by rw[←fT];exact lQ w4.drew 74 2
 have s1:=(UQ.out w5 dY).1.source;have hya:=(UQ.out w5 dY).1.1;have hyb:=(UQ.out w5 dY).2.1;have gT:=zh dU;have Jv:=zh fB;have yN:=zh bU;have p0:(0:Int)≤(d:Int):=by omega
 have p1:(d:Int)<(d:Int)+1+(b:Int):=by omega
 have p1b:(d:Int)<((d+1+b:Nat):Int):=by omega
 have hdc:(d:Int)≤(cp:Int):=by omega
 have hi2:(d:Int)+1≤((d+1+b:Nat):Int):=by omega
 have hi3:(0:Int)≤(d:Int)+1:=by omega
 have Xf:(d:Int)+1≤(d:Int)+1+(b:Int):=by omega
 have ht1':((d:Int)+1).toNat=d+1:=by omega
 have hs2:IntKind.i64.wrap ((d:Int)+1)=(d:Int)+1:=by rw[IntKind.wrap_i64];omega
 have p4:¬ (d:Int)<0:=by omega
 clear h hk hF hcase hai bJ bB dU g4 hb3 bU uE fB dY hL hd1 hget hdrop hold hlen hv hcp hA hd hb hr0
 go_enter Tryz.func29,Tryz.ntmps29
 go_wp2_with fail;refine HF.out.mono ?_;rintro e w1 ⟨rfl,hw1⟩;obtain rfl:=hw1.symm;go_wp2_with fail;(try rw[hw4]);go_wp2_with fail;refine wp_region_noPanic ?_;refine wp_region_held_drew (S:=(fun W=>W.cell? ⟨M,0,none⟩=some (.slice (some ⟨g,0,none⟩) m c))) (by kernel_rfl) ?_ (fun ah=>?_)
 ·exact D6.out
 refine bE [0,1,2,3,4,6,7,8,10,11,12,13] ?_;iterate 12 (refine jl ?_;try simp only[pS])
 refine bF ?_;refine bO 5 fun K hK=>?_;go_simp;(try rw[fT]);refine hK.out _ _ (Ju.out) fun ah=>?_;clear hK K;(try simp only[pS]);refine bO 9 fun K hK=>?_;refine aJ rfl _ _ 50 rfl w4.heap.size 74 i0 (.agg #[.string ⟨#[]⟩,.string ⟨#[]⟩]) 2 32 Tryz.underlying50 hi0 hz0 hz1 hz2 rfl (by decide) _ 0 [] rfl e5 _ d (fJ l1) rfl hya s1 (gV _) ?c4 ?c5 OH ?_
 case c4=>unfold maxLen;omega
 case c5=>omega
 intro v7 w7 o7 uw f7;have g7:w5.grownBy w7 (Value.slice (some ⟨w4.heap.size,0,none⟩) 0 0).ownBlock:=uw;clear uw;(try simp only[Nat.zero_add,List.nil_append] at o7);obtain⟨A7,c7,rfl⟩:=o7.form;have zO:Below w4.heap.size w4 w7:=Jv.out.grown g7 Jv.out.size (fun j hj=>by simp[Value.ownBlock] at hj;omega);have nL:=yN.out.trans (zO.mono yN.out.size);have qW:=HM.out w7 nL;have s2:=(UQ.out w7 nL).2.source;have UR:=zO.size;have aK:=gT.out.grown g7 (fun e=>by simp[Value.ownBlock] at e;omega);refine hK.out _ _ ((qW.rd hi).1) fun ah=>?_;clear hK K;(try simp only[pS]);refine bO 14 fun K hK=>?_;refine aJ rfl _ _ 50 rfl w4.heap.size 74 i0 (.agg #[.string ⟨#[]⟩,.string ⟨#[]⟩]) 2 32 Tryz.underlying50 hi0 hz0 hz1 hz2 rfl (by decide) _ d (fJ l1) rfl o7 _ b (fJ l2) rfl hyb s2 (gV _) ?c4 ?c5 UR ?_
 case c4=>unfold maxLen;omega
 case c5=>omega
 intro v8 w8 o8 g8 f8;rw[←jU] at o8;have hb48:Below w4.heap.size w4 w8:=zO.grown g8 zO.size (fun j hj=>(o7.lt j hj).1);have jB:=yN.out.trans (hb48.mono yN.out.size);have Rm:=HM.out w8 jB;obtain⟨A8,c8,rfl⟩:=o8.form;have Ya:(l1++l2).length=d+b:=by rw[List.length_append,HDR.out.2.2.1,HDR.out.2.2.2.1]
 obtain⟨_,fz,hcells,tY,xU⟩:=(HM.out w4 yN.out).nJ (sl:=⟨A8,d+b,c8⟩) (l':=l1++l2) hi (Below.refl _ w4) (ay hb48 _) (by rw[Ya];exact o8.lower (by have:=yN.out.size;omega)) (.inr fun k hk=>(o8.lt k hk).1);have hpc:=hcells i 2 hi (by omega);rw[show (p8 (f i))[2]?=some ((f i).a.v) from rfl,HDR.out.2.2.2.2] at hpc;have zU:=aK.grown g8 (fun e=>by have:=(o7.lt _ e.symm).1;omega);obtain⟨w9,wK⟩:=eX (w8.setCell ⟨g,i*7+2,none⟩ (.slice A8 (d+b) c8))
 rw[show (Tr.Sl.v ⟨A8,d+b,c8⟩)=.slice A8 (d+b) c8 from rfl,wK] at tY xU;have gg:w8.grownBy w9 (some g):=by rw[←wK];exact aO (ay (Below.refl w8.heap.size w8) _) _ _
 have fD:=zU.grown gg (fun e=>by injection e with e;omega);have Yp:=(tY.rd hi).1;have hS8:=(Rm.rd hi).1;rw[←HDR.out.1] at tY xU;have WL:w.heap.size≤w9.heap.size:=by have:=gg.size;have:=jB.size;omega
 have qm:=(Below.refl _ w9).alloc (Nat.le_refl _) (.cells #[.int .i64 3,.int .i64 (i:Int),.int .i64 (-1),.int .i64 (-1),.int .i64 (-1),.int .i64 0,.string nm,.string p.2,.bool true,.int .i64 0,.int .i64 0] 114);have bf:=zh (And.intro (nW w9 (fV i nm p.2 true) w.heap.size WL) (And.intro (tY.below qm) (((aB.of_below yN.out).trans xU).trans (.of_below qm))));have zc0:w9.cell? ⟨w.heap.size,0,none⟩=some (.int .i64 3):=fD.cell 0;have ab6:=fD.free 0;have zc1:w9.cell? ⟨w.heap.size,1,none⟩=some (.int .i64 (i:Int)):=fD.cell 1;have ab7:=fD.free 1;have zc2:w9.cell? ⟨w.heap.size,2,none⟩=some (.int .i64 (-1)):=fD.cell 2;have ab8:=fD.free 2;have zc3:w9.cell? ⟨w.heap.size,3,none⟩=some (.int .i64 (-1)):=fD.cell 3;have ab9:=fD.free 3;have zc4:w9.cell? ⟨w.heap.size,4,none⟩=some (.int .i64 (-1)):=fD.cell 4;have acd:=fD.free 4;have zc5:w9.cell? ⟨w.heap.size,5,none⟩=some (.int .i64 0):=fD.cell 5;have ace:=fD.free 5;have zc6:w9.cell? ⟨w.heap.size,6,none⟩=some (.string nm):=fD.cell 6;have acf:=fD.free 6;have zc7:w9.cell? ⟨w.heap.size,7,none⟩=some (.string p.2):=fD.cell 7;have acg:=fD.free 7;have zc8:w9.cell? ⟨w.heap.size,8,none⟩=some (.bool true):=fD.cell 8;have ach:=fD.free 8;have zc9:w9.cell? ⟨w.heap.size,9,none⟩=some (.int .i64 0):=fD.cell 9;have aci:=fD.free 9;have acj:w9.cell? ⟨w.heap.size,10,none⟩=some (.int .i64 0):=fD.cell 10;have abH:=fD.free 10;clear tY xU qm fD zU aK hcells gg hb48 zO nL jB qW Rm o7 o8 g8 f7 f8 g7 s2 Ya WL;refine hK.out _ _ (hS8) fun ah=>?_;clear hK K;(try simp only[pS]);refine bE [15,16] ?_;iterate 2 (refine jl ?_;try simp only[pS])
 refine bF ?_;refine bO 17 fun K hK=>?_;go_simp;(try rw[wK]);refine hK.out _ _ (Yp) fun ah=>?_;clear hK K;(try simp only[pS]);refine gQ ?_;go_wp2_with fail;all_goals go_ret2
 all_goals
  obtain⟨z1,z2,z3⟩:=bf.out
  first
   | (refine⟨_,⟨A8,d+b,c8⟩,rfl,?_,z2,z3⟩;rw[HDR.out.2.1];exact z1)
   | (refine⟨_,rfl,?_,⟨A8,d+b,c8⟩,z2,z3⟩;rw[HDR.out.2.1];exact z1)
end
section
open Go.RowKit
variable [mY]
theorem Tr.Qp {g:Tr.G} {h x:Int} {q:Tr.GN} (e:Tr.dD g h x=some q):∃ y,g x=some y∧y.attrs=q.attrs:=by
 unfold Tr.dD at e
 split at e
 ·exact⟨q,e,rfl⟩
 ·unfold Tr.iZ at e
  split at e
  ·rename_i hx;subst hx;cases e2:g x with
   | none=>rw[e2] at e;cases e
   | some y=>rw[e2] at e;obtain rfl:=Option.some.inj e;exact⟨y,rfl,rfl⟩
  ·split at e
   ·cases e2:g x with
    | none=>rw[e2] at e;cases e
    | some y=>rw[e2] at e;obtain rfl:=Option.some.inj e;exact⟨y,rfl,rfl⟩
   ·exact⟨q,e,rfl⟩
theorem Tr.Qq {g:Tr.G} {p h c x:Int} {q:Tr.GN} (e:Tr.bg g p h c x=some q):∃ y,g x=some y∧y.attrs=q.attrs:=by
 unfold Tr.bg at e
 split at e
 ·rename_i hx;subst hx;cases e2:g x with
  | none=>rw[e2] at e;cases e
  | some y=>rw[e2] at e;obtain rfl:=Option.some.inj e;exact⟨y,rfl,rfl⟩
 ·split at e
  ·rename_i hx;subst hx;cases e2:g x with
   | none=>rw[e2] at e;cases e
   | some y=>rw[e2] at e;obtain rfl:=Option.some.inj e;exact⟨y,rfl,rfl⟩
  ·exact⟨q,e,rfl⟩
theorem Qr {a:Tr.G} {p i c x:Int} (hx:x≠i):(Tr.lI a p i c x).map (·.pa)=(a x).map (·.pa):=by
 unfold Tr.lI;rw[if_neg hx]
 split
 ·rename_i e;subst e;cases a x<;>rfl
 ·rfl
theorem Qs {a:Tr.G} {i x:Int} (hx:x≠i):(dz a i x).map (·.pa)=(a x).map (·.pa):=by
 unfold dz
 split
 ·rfl
 ·unfold Tr.ug;rw[if_neg hx]
  split
  ·cases a x<;>rfl
  ·rfl
theorem EP {m:Nat} {f2:Nat→RS} {l:List Int} {p i:Nat} {c:Int} (hk:(f2 p).kids=Tr.iw l c (i:Int)) (hx:(i:Int)∉l) (hl:(-1:Int)∉l) (hc:c = -1∨c∈l):jD l p i c=kR m f2 1 i p:=by
 unfold kR;rw[hk];rcases hc with rfl | hc
 ·have q1:=sS l [];have q2:=Bb l [];rw[List.append_nil] at q1 q2;rw[Tr.vv hl,zP l p i rfl,Tr.dX hx,wG,sS,q1,q2]
 ·have hc1:c ≠ -1:=fun e=>hl (e▸hc);obtain⟨l1,l2,rfl,hn⟩:∃ l1 l2,l=l1++c::l2∧c∉l1:=List.eq_append_cons_of_mem hc;have hx1:(i:Int)∉l1:=fun h=>hx (by simp[h]);rw[Tr.uP hn,CO _ p i hc1 rfl,Tr.dX hn,Tr.dX hx1,wG,sS,sS,Bb]
variable {w w3 w4:World} {base bM T B M:Nat} {b s:Int} {vs vf aQ vh:Value} {n live m:Nat} {fr:List Nat} {av:Int→Tr.Sl} {f f2:Nat→RS} {hs:List Int} {g:Tr.G} {K:Nat}
theorem TW.zi (H:TW w base bM T B M b s vs vf aQ vh n live m fr av f hs g K) {i:Nat} (hi:i<m) (hg:(f i).gone=false):Tr.Im (hof hs) (dz (mg m f) (i:Int)) (Tr.dD g (hof hs (i:Int))):=by
 have ei:=aP hi hg;have eg:=H.dJ hi hg;have hpa:Tr.dG g (hof hs (i:Int))=hof hs (f i).pa:=Tr.aL eg;have hpm:Tr.dG (mg m f) (i:Int)=(f i).pa:=Tr.aL ei;by_cases h1:(f i).pa = -1
 ·have e1:dz (mg m f) (i:Int)=mg m f:=by unfold dz;rw[if_pos (hpm.trans h1)]
  have e2:Tr.dD g (hof hs (i:Int))=g:=by unfold Tr.dD;rw[if_pos (by rw[hpa,h1];exact H.im.zero)]
  rw[e1,e2];exact H.im
 ·have hl:(mg m f (f i).pa).isSome:=(H.im.pa _ _ ei).resolve_left h1;have e1:dz (mg m f) (i:Int)=Tr.ug (mg m f) (i:Int):=by unfold dz;rw[if_neg (by rw[hpm];exact h1)]
  have e2:Tr.dD g (hof hs (i:Int))=Tr.iZ g (hof hs (i:Int)):=by unfold Tr.dD;rw[if_neg (by rw[hpa];exact H.im.nz _ hl)]
  rw[e1,e2];exact H.im.cut H.wf ei h1
theorem TW.linked (H:TW w base bM T B M b s vs vf aQ vh n live m fr av f hs g K) {i p:Nat} {c':Int} {f2:Nat→RS} {q1:Tr.GN} (hi:i<m) (hg:(f i).gone=false) (hpm:p<m) (hpg:(f p).gone=false) (hpi:p≠i) (i0:i≠0)
  (hu:hof hs (i:Int)∉Tr.aY g (hof hs (p:Int))) (hlim:(Tr.aY g (hof hs (p:Int))).length+Tr.gF g (hof hs (i:Int))≤128) (hac:Tr.dW g (hof hs (p:Int)) (hof hs (i:Int))=true)
  (hcl:Tr.Lv (dz (mg m f) (i:Int)) c') (FL:Tr.dD g (hof hs (i:Int)) (hof hs (p:Int))=some q1) (hc1:hof hs c'=0∨hof hs c'∈q1.kids)
  (tv':TV base w3 B b s vs n (Tr.raw (Tr.bg (Tr.dD g (hof hs (i:Int))) (hof hs (p:Int)) (hof hs (i:Int)) (hof hs c')) av) vf fr live (hof hs 0)) (st:aB w w3 (aD B vs vf) (aD B vs vf))
  (mv':MV bM w4 M aQ m f2) (stM:aB w3 w4 (aC M aQ m f) (aC M aQ m f2)) (hm2:mg m f2=Tr.lI (dz (mg m f) (i:Int)) p i c') (hk2:∀ j,qR (f2 j) (f j)):
  TW w4 base bM T B M b s vs vf aQ vh n live m fr av f2 hs (Tr.bg (Tr.dD g (hof hs (i:Int))) (hof hs (p:Int)) (hof hs (i:Int)) (hof hs c')) (K+1):=by
 have eg:=H.dJ hi hg;have QJ:=H.zi hi hg;have hw1:=H.wf.dD eg;have hS1:=uK H.so H.wf eg;have FK:=Tr.wU eg;have wT:hof hs (i:Int)≠hof hs (p:Int):=fun e=>by
  have:=H.im.inj (i:Int) (p:Int) (by rw[aP hi hg];rfl) (by rw[aP hpm hpg];rfl) e;omega
 have hi1:(dz (mg m f) (i:Int) (i:Int)).isSome:=by
  unfold dz Tr.ug
  split
  ·rw[aP hi hg];rfl
  ·dsimp only;rw[if_pos rfl,aP hi hg];rfl
 have hp1:(dz (mg m f) (i:Int) (p:Int)).isSome:=by
  unfold dz Tr.ug
  split
  ·rw[aP hpm hpg];rfl
  ·dsimp only;rw[if_neg (by omega)]
   split
   ·rw[aP hpm hpg];rfl
   ·rw[aP hpm hpg];rfl
 obtain⟨ni,ei1⟩:=Option.isSome_iff_exists.1 hi1;obtain⟨np,QK⟩:=Option.isSome_iff_exists.1 hp1;have im':Tr.Im (hof hs) (mg m f2) (Tr.bg (Tr.dD g (hof hs (i:Int))) (hof hs (p:Int)) (hof hs (i:Int)) (hof hs c')):=by
  rw[hm2];exact QJ.link hw1 ei1 QK (by omega) hcl
 have hS2:=qD hS1 hw1 FK rfl FL wT hc1;have hw2:=hw1.link (c:=hof hs c') FK rfl FL (by rw[H.wf.DV eg hu];exact hu) (by rw[H.wf.DV eg hu,H.wf.KL eg];exact hlim);have ep:=H.dJ hpm hpg;refine H.step tv' hS2 st ?_ hw2 mv' stM im' ?_ ?_ ?_ H.nm ?_ ?_ ⟨(H.ok.1.cut _).link hac (fun k=>Tr.Ht k) (fun n1 e=>?_) (fun nh _ e=>wT e.symm),fun j hj=>(H.ok.2 j hj).same (hk2 j).2.1 (hk2 j).2.2.2.2 (hk2 j).2.2.1⟩
 ·refine AT.same (H.at'.step H.tv st) fun x q e=>?_;obtain⟨y,e1,e2⟩:=Tr.Qq e;obtain⟨z,e3,e4⟩:=Tr.Qp e1;exact⟨z,e3,e4.trans e2⟩
 ·exact⟨by rw[(hk2 0).2.1];exact H.km.1,fun j hj h0=>by rw[(hk2 j).2.1];exact H.km.2 j hj h0⟩
 ·rw[(hk2 0).1];exact H.g0
 ·intro j hj hgj;rw[(hk2 j).1] at hgj;exact H.gn j hj hgj
 ·have h0:0<m:=H.m0;have g0:(f2 0).gone=false:=by rw[(hk2 0).1];exact H.g0
  have e2:mg m f2 ((0:Nat):Int)=some (lH (f2 0)):=aP h0 g0;have e3:mg m f ((0:Nat):Int)=some (lH (f 0)):=aP h0 H.g0;have hne:((0:Nat):Int)≠(i:Int):=by omega
  have e4:=(Qr (a:=dz (mg m f) (i:Int)) (p:=(p:Int)) (c:=c') hne).trans (Qs (a:=mg m f) hne);rw[←hm2,e2,e3] at e4;have e5:(f2 0).pa=(f 0).pa:=Option.some.inj e4;rw[e5];exact H.d0
 ·intro j hj;rw[(hk2 j).2.2.1,(hk2 j).2.2.2.1];have:=H.bd j hj;exact⟨by omega,by omega,this.2.2⟩
 ·unfold Tr.dD at e
  split at e
  ·exact⟨n1,e,fun k hk=>hk⟩
  ·obtain⟨n,a1,-,a2,-⟩:=Tr.Dk e;exact⟨n,a1,a2⟩
theorem TW.placed (H:TW w base bM T B M b s vs vf aQ vh n live m fr av f2 hs g K) {i p:Nat} {l:List Int} {c:Int} (hi:i<m) (hg:(f2 i).gone=false) (hp:(f2 i).pa=(p:Int)) (hk:(f2 p).kids=Tr.iw l c (i:Int)) (hx:(i:Int)∉l) (hl:(-1:Int)∉l) (hc:c = -1∨c∈l):
  Tr.jO g 1 (hof hs (i:Int))=rO (hof hs) (jD l p i c):=by
 rw[EP (m:=m) hk hx hl hc];exact H.im.place H.wf 1 hi hg hp
end
section
open Go.RowKit
variable [mY]
def wI (m:Nat) (f:Nat→RS) (h:Nat):List Tr.Rec:=if (f h).pa = -1 then [] else [kR m f 2 h (f h).pa.toNat]
theorem Bg {m:Nat} {f:Nat→RS} {h:Nat} (e:(f h).pa = -1):wI m f h=[]:=if_pos e
theorem Ie {m:Nat} {f:Nat→RS} {h q:Nat} (e:(f h).pa=(q:Int)):wI m f h=[kR m f 2 h q]:=by
 unfold wI;rw[if_neg (by omega),e,Int.toNat_natCast]
theorem ER {m:Nat} {f:Nat→RS} {h:Nat} (hw:Tr.WF (-1) (mg m f)) (hhm:h<m) (uX:(f h).gone=false):(f h).pa = -1∨∃ q:Nat,(f h).pa=(q:Int)∧q<m∧(f q).gone=false∧q≠h:=by
 rcases hw.pa (aP hhm uX) with e | ⟨n,e,_⟩
 ·exact .inl e
 ·obtain⟨q',e1,e2,e3,_⟩:=kZ e;have e5:(f h).pa=(q':Int):=e1;exact .inr ⟨q',e5,e2,e3,fun e4=>hw.iO (aP hhm uX) (by show (f h).pa=_;rw[e5,e4])⟩
theorem Kl (base M m:Nat) (vs:Value) (f:Nat→RS) (p h:Nat) (c:Int) (w:World) (H:MV base w M vs m f) (hw:Tr.WF (-1) (mg m f)) (hpm:p<m) (hpg:(f p).gone=false) (hhm:h<m) (uX:(f h).gone=false) (Jw:(f 0).gone=false) (hm:m≤100000)
  (hch:jS m f p h=true) (hc:c = -1∨∃ j:Nat,c=(j:Int)∧j<m∧(f j).pa=(p:Int)) (hlim:(Tr.aY (mg m f) (p:Int)).length+Tr.gF (mg m f) (h:Int)≤128) (wT:p≠h) (hw1:Tr.WF (-1) (dz (mg m f) (h:Int))) (hcin:gP (mg m f) h c = -1∨gP (mg m f) h c∈Tr.au (dz (mg m f) (h:Int)) (p:Int)):
  Calls Tryz.prog 23 #[.pointer (some ⟨M,0,none⟩),.int .i64 (p:Int),.int .i64 (h:Int),.int .i64 c] w fun e w'=>∃ r,e=.returned (.tuple #[r,.int .i64 0])∧jP w.heap.size w' r (wI m f h++[jD (Tr.au (dz (mg m f) (h:Int)) (p:Int)) p h (gP (mg m f) h c)])∧
   ∃ f2,MV base w' M vs m f2∧aB w w' (aC M vs m f) (aC M vs m f2)∧mg m f2=Tr.lI (dz (mg m f) (h:Int)) p h (gP (mg m f) h c)∧∀ j,qR (f2 j) (f j):=by
 refine Gf base M m vs f p h c w H hw hpm hpg hhm uX Jw hm hch hc hlim wT hw1 hcin _ ?_;rcases ER hw hhm uX with e | ⟨q,e,-⟩
 ·exact .inl ⟨e,Bg e⟩
 ·exact .inr ⟨q,e,Ie e⟩
variable {w:World} {base bM T B M:Nat} {b s:Int} {vs vf aQ vh:Value} {n live m:Nat} {fr:List Nat} {av:Int→Tr.Sl} {f:Nat→RS} {hs:List Int} {g:Tr.G} {K:Nat}
theorem TW.fU (H:TW w base bM T B M b s vs vf aQ vh n live m fr av f hs g K) {i:Nat} (hi:i<m) (hg:(f i).gone=false):Tr.fU g (hof hs (i:Int))=(wI m f i).map (rO (hof hs)):=by
 have eg:=H.dJ hi hg;have hpa:Tr.dG g (hof hs (i:Int))=hof hs (f i).pa:=Tr.aL eg;unfold Tr.fU;rcases ER (H.im.pull H.wf) hi hg with e | ⟨q,e,hq1,hq2,-⟩
 ·rw[Bg e,if_pos (by rw[hpa,e];exact H.im.zero)];rfl
 ·rw[Ie e,if_neg (by rw[hpa,e];exact H.im.nz _ (by rw[aP hq1 hq2];rfl))];rw[H.im.place H.wf 2 hi hg e];rfl
theorem TW.oQ (H:TW w base bM T B M b s vs vf aQ vh n live m fr av f hs g K) {i:Nat} (hi:i<m) (hg:(f i).gone=false) {c:Int} (hc:c = -1∨(mg m f c).isSome) (hp:c=(i:Int)→(f i).pa ≠ -1):hof hs (gP (mg m f) i c)=Tr.oQ g (hof hs (i:Int)) (hof hs c):=by
 have ei:=aP hi hg;have eg:=H.dJ hi hg;have li:(mg m f (i:Int)).isSome:=by rw[ei];rfl
 unfold gP Tr.oQ;by_cases e:c=(i:Int)
 ·rw[if_pos e,if_pos (by rw[e])];rcases ER (H.im.pull H.wf) hi hg with e1 | ⟨q,e1,hq1,hq2,-⟩
  ·exact absurd e1 (hp e)
  ·obtain⟨-,-,l1,l2,hL,n1,n2,n3⟩:=H.im.split H.wf hi hg e1;have hpm:Tr.dG (mg m f) (i:Int)=(q:Int):=(Tr.aL ei).trans e1;have hpg:Tr.dG g (hof hs (i:Int))=hof hs (q:Int):=by rw[Tr.aL eg];show hof hs (f i).pa=_;rw[e1]
   have hk1:Tr.au (mg m f) (q:Int)=l1++(i:Int)::l2:=(Tr.aH (aP hq1 hq2)).trans hL;have hk2:Tr.au g (hof hs (q:Int))=(l1++(i:Int)::l2).map (hof hs):=by rw[H.im.kid (aP hq1 hq2)];show (f q).kids.map _=_;rw[hL]
   rw[hpm,hpg,hk1,hk2,Tr.dX n1,wG,List.map_append,List.map_cons,Tr.ig n2,Qd H.im.zero]
 ·rw[if_neg e,if_neg];intro e2;rcases hc with rfl | hc
  ·exact H.im.nz _ li (by rw[←e2];exact H.im.zero)
  ·exact e (H.im.inj _ _ hc li e2)
end
section
open Go.RowKit
variable [mY]
theorem VZ (l:List Int) (i:Int):xg l i = -1∨xg l i∈l:=by
 unfold xg
 split
 ·exact .inl rfl
 ·cases e:l[i.toNat]? with
  | none=>exact .inl rfl
  | some y=>exact .inr (List.mem_of_getElem? e)
theorem tV (a:Tr.G) (i x:Int):(dz a i x).isSome=(a x).isSome:=by
 unfold dz
 split
 ·rfl
 ·unfold Tr.ug
  split
  ·rename_i e;subst e;cases a x<;>rfl
  ·split
   ·cases a x<;>rfl
   ·rfl
variable {w:World} {base bM T B M:Nat} {b s:Int} {vs vf aQ vh:Value} {n live m:Nat} {fr:List Nat} {av:Int→Tr.Sl} {f:Nat→RS} {hs:List Int} {g:Tr.G} {K:Nat}
theorem TW.Zk (H:TW w base bM T B M b s vs vf aQ vh n live m fr av f hs g K) {i:Nat} (hi:i<m) (hg:(f i).gone=false) {c:Int} (hc:c = -1∨(mg m f c).isSome):Tr.Lv (dz (mg m f) (i:Int)) (gP (mg m f) i c):=by
 unfold Tr.Lv;rw[tV];unfold gP
 split
 ·rcases VZ (Tr.au (mg m f) (Tr.dG (mg m f) (i:Int))) (((Tr.au (mg m f) (Tr.dG (mg m f) (i:Int))).idxOf (i:Int):Nat)+1) with e | e
  ·exact .inl e
  ·refine .inr ?_;cases e2:mg m f (Tr.dG (mg m f) (i:Int)) with
   | none=>rw[show Tr.au (mg m f) (Tr.dG (mg m f) (i:Int))=[] by unfold Tr.au;rw[e2]] at e;exact absurd e (by unfold xg;split<;>simp)
   | some q=>exact H.im.kids _ q e2 _ (by rw[←Tr.aH e2];exact e)
 ·exact hc
theorem TW.Ud (H:TW w base bM T B M b s vs vf aQ vh n live m fr av f hs g K) {i p:Nat} (hi:i<m) (hg:(f i).gone=false) (hpm:p<m) (hpg:(f p).gone=false) (hu:hof hs (i:Int)∉Tr.aY g (hof hs (p:Int))) {c:Int}
  (hc:c = -1∨∃ j:Nat,c=(j:Int)∧j<m∧(f j).gone=false∧(f j).pa=(p:Int)):
  Tr.Lv (dz (mg m f) (i:Int)) (gP (mg m f) i c)∧hof hs (gP (mg m f) i c)=Tr.oQ g (hof hs (i:Int)) (hof hs c)∧
   (gP (mg m f) i c = -1∨gP (mg m f) i c∈Tr.au (dz (mg m f) (i:Int)) (p:Int))∧
   ∃ q1,Tr.dD g (hof hs (i:Int)) (hof hs (p:Int))=some q1∧(hof hs (gP (mg m f) i c)=0∨hof hs (gP (mg m f) i c)∈q1.kids):=by
 have eg:=H.dJ hi hg;have ep:=H.dJ hpm hpg;have QJ:=H.zi hi hg;have hcl:c = -1∨(mg m f c).isSome:=by
  rcases hc with e | ⟨j,rfl,h1,h2,-⟩
  ·exact .inl e
  ·exact .inr (by rw[aP h1 h2];rfl)
 have hL:=H.Zk hi hg hcl;have hE:=H.oQ hi hg hcl (fun e=>by
  rcases hc with e1 | ⟨j,e1,h1,h2,h3⟩
  ·omega
  ·obtain rfl:j=i:=by omega
   omega)
 obtain⟨q1,e1,e2⟩:=Tr.FM (c:=hof hs c) H.wf eg ep hu (by
  rcases hc with rfl | ⟨j,rfl,h1,h2,h3⟩
  ·exact .inl H.im.zero
  ·have ej:=H.dJ h1 h2;refine .inr ⟨?_,by rw[ej];rfl⟩
   rw[Tr.aL ej];show hof hs (f j).pa=_;rw[h3])
 rw[←hE] at e2;refine⟨hL,hE,?_,q1,e1,e2⟩;have hpl:(dz (mg m f) (i:Int) (p:Int)).isSome:=by rw[tV,aP hpm hpg];rfl
 obtain⟨np,QK⟩:=Option.isSome_iff_exists.1 hpl;have e3:=QJ.node _ _ QK;rw[e1] at e3;obtain rfl:=Option.some.inj e3;rcases hL with h1 | h1
 ·exact .inl h1
 ·rcases e2 with e2 | e2
  ·exact absurd e2 (QJ.nz _ h1)
  ·exact .inr (by rw[Tr.aH QK];exact (QJ.mem (QJ.kids _ _ QK) h1).1 e2)
theorem Km {a:Tr.G} {i:Int} {n:Tr.GN} (e:dz a i i=some n):n.pa = -1:=by
 unfold dz at e
 split at e
 ·rename_i h1;rw[←Tr.aL e];exact h1
 ·unfold Tr.ug at e;rw[if_pos rfl] at e;cases e2:a i with
  | none=>rw[e2] at e;cases e
  | some y=>rw[e2] at e;obtain rfl:=Option.some.inj e;rfl
theorem TW.inserted {w3 w4:World} {f2:Nat→RS} (H:TW w base bM T B M b s vs vf aQ vh n live m fr av f hs g K) {i p:Nat} (hi:i<m) (hg:(f i).gone=false) (hpm:p<m) (hpg:(f p).gone=false) (hpi:p≠i) (i0:i≠0)
  (hu:hof hs (i:Int)∉Tr.aY g (hof hs (p:Int))) (hlim:(Tr.aY g (hof hs (p:Int))).length+Tr.gF g (hof hs (i:Int))≤128) (hac:Tr.dW g (hof hs (p:Int)) (hof hs (i:Int))=true) {c:Int}
  (hc:c = -1∨∃ j:Nat,c=(j:Int)∧j<m∧(f j).gone=false∧(f j).pa=(p:Int))
  (tv':TV base w3 B b s vs n (Tr.raw (Tr.bg (Tr.dD g (hof hs (i:Int))) (hof hs (p:Int)) (hof hs (i:Int)) (Tr.oQ g (hof hs (i:Int)) (hof hs c))) av) vf fr live (hof hs 0)) (st:aB w w3 (aD B vs vf) (aD B vs vf))
  (mv':MV bM w4 M aQ m f2) (stM:aB w3 w4 (aC M aQ m f) (aC M aQ m f2)) (hm2:mg m f2=Tr.lI (dz (mg m f) (i:Int)) p i (gP (mg m f) i c)) (hk2:∀ j,qR (f2 j) (f j)):
  TW w4 base bM T B M b s vs vf aQ vh n live m fr av f2 hs (Tr.bg (Tr.dD g (hof hs (i:Int))) (hof hs (p:Int)) (hof hs (i:Int)) (Tr.oQ g (hof hs (i:Int)) (hof hs c))) (K+1)∧
   (wI m f i++[jD (Tr.au (dz (mg m f) (i:Int)) (p:Int)) p i (gP (mg m f) i c)]).map (rO (hof hs))=
    Tr.fU g (hof hs (i:Int))++[Tr.jO (Tr.bg (Tr.dD g (hof hs (i:Int))) (hof hs (p:Int)) (hof hs (i:Int)) (Tr.oQ g (hof hs (i:Int)) (hof hs c))) 1 (hof hs (i:Int))]:=by
 obtain⟨hL,hE,hin,q1,e1,e2⟩:=H.Ud hi hg hpm hpg hu hc;rw[←hE] at tv' ⊢;have HT:=H.linked hi hg hpm hpg hpi i0 hu hlim hac hL e1 e2 tv' st mv' stM hm2 hk2;refine⟨HT,?_⟩;have QJ:=H.zi hi hg;have hw1:=QJ.pull (H.wf.dD (H.dJ hi hg));have hi1:(dz (mg m f) (i:Int) (i:Int)).isSome:=by rw[tV,aP hi hg];rfl
 have hp1:(dz (mg m f) (i:Int) (p:Int)).isSome:=by rw[tV,aP hpm hpg];rfl
 obtain⟨ni,ei1⟩:=Option.isSome_iff_exists.1 hi1;obtain⟨np,QK⟩:=Option.isSome_iff_exists.1 hp1;have g2i:(f2 i).gone=false:=by rw[(hk2 i).1];exact hg
 have g2p:(f2 p).gone=false:=by rw[(hk2 p).1];exact hpg
 have a1:mg m f2 (i:Int)=some (lH (f2 i)):=aP hi g2i;have a2:mg m f2 (p:Int)=some (lH (f2 p)):=aP hpm g2p;rw[hm2] at a1 a2;unfold Tr.lI at a1 a2;rw[if_pos rfl,ei1] at a1;have Vq:(p:Int)≠(i:Int):=fun e=>hpi (by clear hc;omega);rw[if_neg Vq,if_pos rfl,QK] at a2;have b1:(f2 i).pa=(p:Int):=congrArg Tr.GN.pa (Option.some.inj a1).symm;have b2:(f2 p).kids=Tr.iw np.kids (gP (mg m f) i c) (i:Int):=congrArg Tr.GN.kids (Option.some.inj a2).symm;have hk:=Tr.aH QK;rw[hk] at hin ⊢;have hx:(i:Int)∉np.kids:=fun hm=>by
  obtain⟨y,e3,e4⟩:=hw1.down _ _ _ QK hm;have e5:=Km e3;rw[e4] at e5;exact absurd e5 (by clear hc;omega)
 have hl:(-1:Int)∉np.kids:=fun hm=>by
  have:=QJ.kids _ _ QK _ hm;rw[QJ.neg] at this;cases this
 rw[List.map_append,←H.fU hi hg,HT.placed hi g2i b1 b2 hx hl hin];rfl
end
section
open Go.RowKit
variable [mY]
def Qt (m:Nat) (f:Nat→RS) (ib ia:Nat) (c:Int):Prop:=jS m f ib ia=true∧(c = -1∨∃ j:Nat,c=(j:Int)∧j<m∧(f j).gone=false∧(f j).pa=(ib:Int))∧(Tr.aY (mg m f) (ib:Int)).length+Tr.gF (mg m f) (ia:Int)≤128
def SC (m:Nat) (f:Nat→RS) (ib ia:Nat) (c:Int) (f':Nat→RS) (lm:List Tr.Rec):Prop:=
 (Qt m f ib ia c∧mg m f'=Tr.lI (dz (mg m f) (ia:Int)) ib ia (gP (mg m f) ia c)∧lm=wI m f ia++[jD (Tr.au (dz (mg m f) (ia:Int)) (ib:Int)) ib ia (gP (mg m f) ia c)])∨(¬ Qt m f ib ia c∧f'=f∧lm=[])
def abC (base bM T B M:Nat) (b s:Int) (vs vf aQ vh:Value) (n live m:Nat) (fr:List Nat) (av:Int→Tr.Sl) (f:Nat→RS) (hs:List Int) (K:Nat) (ib ia:Nat) (c:Int) (w0:Nat) (E:Int) (v:Value) (lm:List Tr.Rec) (V3:World) (e:Ending) (w4:World):Prop:=
 ∃ (r:Value) (f2:Nat→RS) (g2:Tr.G),e=.returned (.tuple #[r,.int .i64 E])∧jP V3.heap.size w4 r lm∧bH w0 w4 v (lm.map (rO (hof hs)))∧aB V3 w4 (aC M aQ m f) (aC M aQ m f2)∧
  SC m f ib ia c f2 lm∧TW w4 base bM T B M b s vs vf aQ vh n live m fr av f2 hs g2 (K+1)
def Zl (base bM T B M:Nat) (b s:Int) (vs vf aQ vh:Value) (n live m:Nat) (fr:List Nat) (av:Int→Tr.Sl) (f:Nat→RS) (hs:List Int) (K:Nat) (ib ia:Nat) (c:Int) (w:World) (e:Ending) (w3:World):Prop:=
 ∃ (v:Value) (E:Int) (lm:List Tr.Rec),e=.returned (.tuple #[v,.int .i64 E])∧(E=0∨E=5∨E=10)∧lm.length≤2∧(∃ A n c,v=.slice A n c)∧pF w3 T B M vh hs∧MV bM w3 M aQ m f∧aB w w3 (aD B vs vf) (aD B vs vf)∧
  ∀ V3,Below w3.heap.size w3 V3→Calls Tryz.prog 23 #[.pointer (some ⟨M,0,none⟩),.int .i64 (ib:Int),.int .i64 (ia:Int),.int .i64 c] V3 (abC base bM T B M b s vs vf aQ vh n live m fr av f hs K ib ia c w.heap.size E v lm V3)
variable {w:World} {base bM T B M:Nat} {b s:Int} {vs vf aQ vh:Value} {n live m:Nat} {fr:List Nat} {av:Int→Tr.Sl} {f:Nat→RS} {hs:List Int} {g:Tr.G} {K:Nat}
theorem TW.Zm (H:TW w base bM T B M b s vs vf aQ vh n live m fr av f hs g K) {ib ia:Nat} {c E:Int} {w3:World} (hb3:Below w.heap.size w w3) (hno:¬ Qt m f ib ia c) (hE:E=0∨E=5∨E=10)
  (hR:∀ V3,MV bM V3 M aQ m f→Calls Tryz.prog 23 #[.pointer (some ⟨M,0,none⟩),.int .i64 (ib:Int),.int .i64 (ia:Int),.int .i64 c] V3 fun e w'=>e=.returned (ou E)∧w'=V3):
  Zl base bM T B M b s vs vf aQ vh n live m fr av f hs K ib ia c w (.returned (ou E)) w3:=by
 have H3:=H.below hb3;refine⟨_,E,[],rfl,hE,by simp,⟨_,_,_,rfl⟩,H3.tw,H3.mv,.of_below hb3,fun V3 hb=>?_⟩;have H5:=H3.below hb;refine (hR V3 H5.mv).mono ?_;rintro e w4 ⟨rfl,e4⟩;rw[e4];exact⟨_,f,g,rfl,World.ownsRow_nil _ _ _ _,World.ownsRow_nil _ _ _ _,.of_below (Below.refl _ _),.inr ⟨hno,rfl,rfl⟩,H5.up⟩
theorem xR (H:TW w base bM T B M b s vs vf aQ vh n live m fr av f hs g K) (hm:m≤100000) {ia ib:Nat} (hia:ia<m) (hga:(f ia).gone=false) (hib:ib<m) (hgb:(f ib).gone=false) {c:Int} (hc:c = -1∨∃ j:Nat,c=(j:Int)∧j<m∧(f j).gone=false):
  Calls Tryz.prog 19 #[.pointer (some ⟨B,0,none⟩),.int .i64 (hof hs (ib:Int)),.int .i64 (hof hs (ia:Int)),.int .i64 (hof hs c)] w (Zl base bM T B M b s vs vf aQ vh n live m fr av f hs K ib ia c w):=by
 have ea:=H.dJ hia hga;have eb:=H.dJ hib hgb;have la:(mg m f (ia:Int)).isSome:=by rw[aP hia hga];rfl
 have lb:(mg m f (ib:Int)).isSome:=by rw[aP hib hgb];rfl
 have hcs:hof hs c≠0→(g (hof hs c)).isSome:=by
  rcases hc with rfl | ⟨j,rfl,h1,h2⟩
  ·exact fun h=>absurd H.im.zero h
  ·intro _;rw[H.dJ h1 h2];rfl
 have hpa:∀ j:Nat,j<m→(f j).gone=false→(Tr.dG g (hof hs (j:Int))=hof hs (ib:Int)↔(f j).pa=(ib:Int)):=fun j hj hgj=>by
  have e1:Tr.dG g (hof hs (j:Int))=hof hs (f j).pa:=Tr.aL (H.dJ hj hgj);rw[e1];refine⟨fun e=>H.im.Vp (H.im.pa _ _ (aP hj hgj)) (.inr lb) e,fun e=>by rw[e]⟩
 have IN:rR base B b s (hof hs 0) (hof hs (ib:Int)) (hof hs (ia:Int)) (hof hs c) live n g av fr vs vf _ _ w:=⟨H.tv,H.so,H.wf,eb,ea,hcs⟩
 have Zn:=H.im.accepts H.wf H.km H.m0 H.g0 hib hgb hia hga;have O5:(Tr.aY g (hof hs (ib:Int))).length=(Tr.aY (mg m f) (ib:Int)).length:=by rw[H.im.up H.wf (.inr lb),List.length_map]
 have V4:Tr.gF g (hof hs (ia:Int))=Tr.gF (mg m f) (ia:Int):=H.im.hgt H.wf _ la;have vR:=H.im.pull H.wf;by_cases hT:jS m f ib ia=false∨∃ j:Nat,c=(j:Int)∧j<m∧(f j).pa≠(ib:Int)
 ·refine (G7 base B b s (hof hs 0) _ _ _ live n g av fr vs vf _ _ w IN ?_).mono ?_
  ·rcases hT with h1 | ⟨j,rfl,hj,h2⟩
   ·rw[Zn,Bool.and_eq_false_iff] at h1;rcases h1 with h1 | h1
    ·exact .inl h1
    ·refine .inr (.inl ?_);simpa using h1
   ·have hgj:(f j).gone=false:=by
     rcases hc with h3 | ⟨j',h3,h4,h5⟩
     ·omega
     ·obtain rfl:j'=j:=by omega
      exact h5
    exact .inr (.inr ⟨H.im.nz _ (by rw[aP hj hgj];rfl),fun e=>h2 ((hpa j hj hgj).1 e)⟩)
  ·rintro e w3 ⟨rfl,hb3⟩;refine H.Zm hb3 (fun hok=>?_) (.inr (.inr rfl)) fun V3 hv=>EN bM M m aQ f ib ia c V3 hv vR hib hgb hia H.g0 hm hT;rcases hT with h1 | ⟨j,h1,h2,h3⟩
   ·rw[hok.1] at h1;cases h1
   ·rcases hok.2.1 with h4 | ⟨j',h4,h5,h6,h7⟩
    ·omega
    ·obtain rfl:j'=j:=by omega
     exact h3 h7
 ·have hch:jS m f ib ia=true:=by
   cases h:jS m f ib ia with
   | true=>rfl
   | false=>exact absurd (.inl h) hT
  have hcp:c = -1∨∃ j:Nat,c=(j:Int)∧j<m∧(f j).gone=false∧(f j).pa=(ib:Int):=by
   rcases hc with h1 | ⟨j,h1,h2,h3⟩
   ·exact .inl h1
   ·refine .inr ⟨j,h1,h2,h3,?_⟩;by_cases e:(f j).pa=(ib:Int)
    ·exact e
    ·exact absurd (.inr ⟨j,h1,h2,e⟩) hT
  have SE:c = -1∨∃ j:Nat,c=(j:Int)∧j<m∧(f j).pa=(ib:Int):=by
   rcases hcp with h1 | ⟨j,h1,h2,-,h4⟩
   ·exact .inl h1
   ·exact .inr ⟨j,h1,h2,h4⟩
  have Ig:Tr.dW g (hof hs (ib:Int)) (hof hs (ia:Int))=true∧hof hs (ia:Int)∉Tr.aY g (hof hs (ib:Int)):=by
   have h1:=hch;rw[Zn,Bool.and_eq_true] at h1;exact⟨h1.1,by simpa using h1.2⟩
  have hpc:hof hs c≠0→Tr.dG g (hof hs c)=hof hs (ib:Int):=by
   rcases hcp with rfl | ⟨j,rfl,h2,h3,h4⟩
   ·exact fun h=>absurd H.im.zero h
   ·exact fun _=>(hpa j h2 h3).2 h4
  by_cases hl:128<(Tr.aY (mg m f) (ib:Int)).length+Tr.gF (mg m f) (ia:Int)
  ·refine (EH base B b s (hof hs 0) _ _ _ live n g av fr vs vf _ _ w IN Ig.1 Ig.2 hpc (by rw[O5,V4];exact hl)).mono ?_;rintro e w3 ⟨rfl,hb3⟩;exact H.Zm hb3 (fun hok=>by have:=hok.2.2;omega) (.inr (.inl rfl)) fun V3 hv=>BR bM M m aQ f ib ia c V3 hv vR hib hgb hia hga H.g0 hm hch SE hl
  ·have hl':(Tr.aY (mg m f) (ib:Int)).length+Tr.gF (mg m f) (ia:Int)≤128:=by clear hc hcp SE hT;omega
   have i0:ia≠0:=fun e=>by
    subst e;unfold jS at hch;rw[if_pos (.inl rfl)] at hch;cases hch
   have hpi:ib≠ia:=fun e=>by
    have:=Ig.2;rw[H.wf.bC eb,e] at this;exact this (by simp)
   obtain⟨-,-,hcin,-⟩:=H.Ud hia hga hib hgb Ig.2 hcp;have hw1:=(H.zi hia hga).pull (H.wf.dD ea);refine (Cu base B b s (hof hs 0) _ _ _ live n g av fr vs vf _ _ w IN Ig.1 Ig.2 hpc (by rw[O5,V4];exact hl')).mono ?_;rintro e w3 ⟨v,rfl,hr3,yu,fK⟩;obtain⟨a1,a2,-,-,-⟩:=H.after fK;obtain⟨A3,c3,hv3⟩:=aF (aG hr3);refine⟨v,0,wI m f ia++[jD (Tr.au (dz (mg m f) (ia:Int)) (ib:Int)) ib ia (gP (mg m f) ia c)],rfl,.inl rfl,?_,⟨_,_,_,hv3⟩,a1,a2,fK,fun V3 hb=>?_⟩
   ·unfold wI;split<;>simp
   ·refine (Kl bM M m aQ f ib ia c V3 (a2.below hb) vR hib hgb hia hga H.g0 hm hch SE hl' hpi hw1 hcin).mono ?_;rintro e w4 ⟨r,rfl,hr4,f2,mv4,dK,hm2,hk2⟩;obtain⟨HT,hrec⟩:=H.inserted hia hga hib hgb hpi i0 Ig.2 (by rw[O5,V4];exact hl') Ig.1 hcp (yu.below hb) (fK.trans (.of_below hb)) mv4 dK hm2 hk2;rw[←hrec] at hr3;have xq:bH w.heap.size V3 v _:=bW (S:=fun _=>False) hr3 (.of_below hb) (fun _ _=>id);exact⟨r,f2,_,rfl,hr4,bW xq dK.1 (fun k hk hm=>by have h1:=(xq.lt k hk).1;have h2:=(H.mv.lt k hm).2;clear hc hcp SE hT;omega),dK,.inl ⟨⟨hch,hcp,hl'⟩,hm2,rfl⟩,HT⟩
end
section
open Go.RowKit
theorem BS (base B:Nat) (b s root h k:Int) (deep:Bool) (live n:Nat) (R:Int→Option Tr.Nd) (fr:List Nat) (vs vf:Value) (d:Tr.Nd) (w:World) (hm:TV base w B b s vs n R vf fr live root) (hS:Sound b s n R fr live) (hh:kM h) (hd:(R h).getD Tr.Bl=d) (hk:d.kind=0∧k=6∨d.kind=1∧k=10):
  Calls Tryz.prog 78 #[.pointer (some ⟨B,0,none⟩),.int .i64 h,.bool deep] w fun e w'=>e=.returned (.tuple #[.int .i64 0,.int .i64 k])∧Below w.heap.size w w':=by
 have HA:=jW base B b s root h live n R fr vs vf w hm hS hh;rw[hd] at HA;clear hm hS hd
 go_enter Tryz.func78,Tryz.ntmps78
 go_wp2_with fail;refine HA.mono ?_;rintro e w1 ⟨gb,o,rfl,hnp,hb1⟩;obtain⟨t0,_⟩:=hnp.cells;clear HA hnp;rcases hk with ⟨hk,rfl⟩ | ⟨hk,rfl⟩
 ·rw[hk] at t0;clear hk;go_wp2_with fail;go_ret2;exact⟨rfl,hb1⟩
 ·rw[hk] at t0;clear hk;go_wp2_with fail;go_ret2;exact⟨rfl,hb1⟩
theorem JG (base B:Nat) (b s root h:Int) (live n:Nat) (g:Tr.G) (av:Int→Tr.Sl) (fr:List Nat) (vs vf:Value) (nd:Tr.GN) (w:World) (hm:TV base w B b s vs n (Tr.raw g av) vf fr live root) (hS:Sound b s n (Tr.raw g av) fr live) (ha:AT w g av) (hw:Tr.WF 0 g) (eg:g h=some nd) (h0:nd.kind≠0) (h1:nd.kind≠1) (hl:nd.attrs.length≤1000) (hn:n<100000) (hlim:live+1≤20000):
  Calls Tryz.prog 78 #[.pointer (some ⟨B,0,none⟩),.int .i64 h,.bool false] w fun e w'=>∃ d X tb,e=.returned (.tuple #[.int .i64 d,.int .i64 0])∧Ob base B X tb b s root n g av vs vf nd w d w':=by
 have hh:=(bN hS (h:=h) (by rw[aM,eg];rfl)).1;have HA:=jW base B b s root h live n _ fr vs vf w hm hS hh;rw[Tr.aj eg] at HA;have q0:(nd.kind == 0)=false:=by simpa using h0
 have q1:(nd.kind == 1)=false:=by simpa using h1
 have HM:=zh (fun (W:World) (hb:Below w.heap.size w W)=>hm.below hb);have HD:=zh (fun (W:World) (hb:Below w.heap.size w W)=>L6 base B b s root h live n g av fr vs vf nd W (hm.below hb) hS (ha.below hb) hw eg hl hn);have HNL:=zh (fun (W:World) (hb:Below w.heap.size w W)=>pX base B b s root live n (Tr.raw g av) fr vs vf W (hm.below hb));have q2:¬ (20000:Int)<(live:Int)+1:=by omega
 have hlv:live≤20000:=by omega
 clear hm hS h0 h1 hw ha hl hn hlim
 go_enter Tryz.func78,Tryz.ntmps78
 go_wp2_with fail;refine HA.mono ?_;rintro e w1 ⟨gb,o,rfl,hnp,hb1⟩;obtain⟨t0,_⟩:=hnp.cells;have t0':w1.cell? ⟨gb,o,none⟩=some (.int .i64 nd.kind):=t0;have HB1:=zh hb1;clear HA hnp t0 hb1;go_wp2_with fail;refine (HNL.out w1 HB1.out).mono ?_;rintro e w2 ⟨rfl,rfl⟩;go_wp2_with fail;refine (HD.out _ HB1.out).mono ?_;rintro e w3 ⟨d,X,tb,rfl,hD⟩;have FE:=zh hD;clear hD;go_wp2_with fail;go_ret2;obtain⟨vs1,Tg,n1,FJ,NH,sl1,z1,z2,z3,z4,z5,z6,z7,z8,z9,y1,y2⟩:=FE.out;exact⟨d,X,tb,rfl,vs1,Tg,n1,FJ,NH,sl1,z1,z2,z3,z4,z5,z6,(aB.of_below HB1.out).trans z7,z8,z9,y1,Nat.le_trans HB1.out.size y2⟩
theorem JH (base B:Nat) (b s root h:Int) (f live n:Nat) (g:Tr.G) (av:Int→Tr.Sl) (fr:List Nat) (vs vf:Value) (nd:Tr.GN) (w:World) (hm:TV base w B b s vs n (Tr.raw g av) vf fr live root) (hS:Sound b s n (Tr.raw g av) fr live) (ha:AT w g av) (hw:Tr.WF 0 g) (eg:g h=some nd) (h0:nd.kind≠0) (h1:nd.kind≠1)
  (hat:∀ y∈Tr.ak g h,∀ m,g y=some m→m.attrs.length≤1000) (hf:f+(Tr.aY g h).length=129) (hcap:n+(Tr.ak g h).length*(Tr.ak g h).length≤99999) (hlim:live+(Tr.ak g h).length≤20000):
  Calls Tryz.prog 78 #[.pointer (some ⟨B,0,none⟩),.int .i64 h,.bool true] w fun e w'=>∃ d,e=.returned (.tuple #[.int .i64 d,.int .i64 0])∧Uu base B b s root n g vs vf h f w (.returned (.int .i64 d)) w':=by
 have hh:=(bN hS (h:=h) (by rw[aM,eg];rfl)).1;have HA:=jW base B b s root h live n _ fr vs vf w hm hS hh;rw[Tr.aj eg] at HA;have q0:(nd.kind == 0)=false:=by simpa using h0
 have q1:(nd.kind == 1)=false:=by simpa using h1
 have HM:=zh (fun (W:World) (hb:Below w.heap.size w W)=>hm.below hb);have HD:=zh (fun (W:World) (hb:Below w.heap.size w W)=>L9 base B b s root f live n g av fr vs vf h W (hm.below hb) hS (ha.below hb) hw (by rw[eg];rfl) hat hf hcap);have HNL:=zh (fun (W:World) (hb:Below w.heap.size w W)=>pX base B b s root live n (Tr.raw g av) fr vs vf W (hm.below hb));have Zb:=zh (fun (W:World) (hb:Below w.heap.size w W)=>M9 base B b s root h live n g av fr vs vf W (hm.below hb) hS hw hh (by omega));obtain⟨Z,hZ⟩:=eX ((Tr.ak g h).length)
 rw[hZ] at Zb hlim;have q2:¬ (20000:Int)<(live:Int)+(Z:Int):=by omega
 have hlv:live≤20000∧Z≤20000:=by omega
 clear hm hS h0 h1 hw ha hlim hcap hf hat hZ
 go_enter Tryz.func78,Tryz.ntmps78
 go_wp2_with fail;refine HA.mono ?_;rintro e w1 ⟨gb,o,rfl,hnp,hb1⟩;obtain⟨t0,_⟩:=hnp.cells;have t0':w1.cell? ⟨gb,o,none⟩=some (.int .i64 nd.kind):=t0;have HB1:=zh hb1;clear HA hnp t0 hb1;go_wp2_with fail;refine (Zb.out w1 HB1.out).mono ?_;rintro e w2 ⟨rfl,hb2⟩;have HB2:=zh (HB1.out.trans (hb2.mono HB1.out.size));clear hb2;obtain⟨hl1,hl2⟩:=hlv;go_wp2_with fail;refine (HNL.out w2 HB2.out).mono ?_;rintro e w3 ⟨rfl,rfl⟩;go_wp2_with fail;refine (HD.out _ HB2.out).mono ?_;rintro e w4 ⟨d,ds,vs1,Tg,n1,FJ,NH,av1,g1,rfl,z1,z2,z3,z4,z5,z6,z7⟩;have FE:=zh (And.intro z1 (And.intro z2 (And.intro z3 (And.intro z4 (And.intro z5 (And.intro ((aB.of_below HB2.out).trans z6) z7))))));clear z1 z2 z3 z4 z5 z6 z7;go_wp2_with fail;go_ret2;obtain⟨z1,z2,z3,z4,z5,z6,z7⟩:=FE.out;exact⟨d,rfl,d,ds,vs1,Tg,n1,FJ,NH,av1,g1,rfl,z1,z2,z3,z4,z5,z6,z7⟩
end
end Go.Proofs.YtjpbhkcjmdndjaaGreatDoor
