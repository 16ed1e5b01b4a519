/- Part of a proof about trees. -/
import Derived.Test.YtmhjlifmcadefaaGreatDoorGNDat
import Derived.Test.YtmhjlifmcadefaaGreatDoorGNDup
import Derived.Test.YtmhjlifmcadefaaGreatDoorGNPmk
import Derived.Test.YtmhjlifmcadefaaGreatDoorGNRcq
import Derived.Test.YtmhjlifmcadefaaGreatDoorGNRia
import Derived.Test.YtmhjlifmcadefaaGreatDoorGNRma
set_option linter.unusedVariables false
set_option linter.unusedSimpArgs false
set_option linter.unusedSectionVars false
set_option maxHeartbeats 4000000
set_option maxRecDepth 100000
namespace Go.Proofs.YtmhjlifmcadefaaGreatDoor
section
open Go.RowKit
def uZ (x:RS):Prop:=(x.kind=2→(Nm.attrs x.at' && Nm.elem x.name)=true)∧(x.kind≠2→x.at'=[])∧x.name.size≤20000∧∀ p∈x.at',p.1.size≤20000∧p.2.size≤20000
theorem uZ.same {x y:RS} (h:uZ x) (hk:y.kind=x.kind) (hn:y.name=x.name) (ha:y.at'=x.at'):uZ y:=by
 unfold uZ at h ⊢;rw[hk,hn,ha];exact h
theorem Nm.Oi {l l':List (ByteArray×ByteArray)} (hs:l'.Sublist l) (h:Nm.attrs l=true):Nm.attrs l'=true:=by
 unfold Nm.attrs at h ⊢;rw[Bool.and_eq_true,decide_eq_true_iff,List.all_eq_true] at h ⊢;exact⟨h.1.sublist (hs.map _),fun p hp=>h.2 p (hs.mem hp)⟩
theorem uZ.drop {x:RS} (h:uZ x) (nm:ByteArray) (sl:Tr.Sl):uZ { x with a:=sl,at':=jY x.at' nm }:=by
 obtain⟨h1,h2,h3,h4⟩:=h;have hs:(jY x.at' nm).Sublist x.at':=List.eraseIdx_sublist _ _;refine⟨fun e=>?_,fun e=>?_,h3,fun p hp=>h4 p (hs.mem hp)⟩
 ·have:=h1 e;rw[Bool.and_eq_true] at this ⊢;exact⟨Nm.Oi hs this.1,this.2⟩
 ·show jY x.at' nm=[]
  have e0:=h2 e;rw[e0] at hs ⊢;exact List.sublist_nil.1 hs
theorem Oj {l:List (ByteArray×ByteArray)} {k:Nat} {p:ByteArray×ByteArray} {v:ByteArray} (hp:l[k]?=some p):yR (l.set k (p.1,v))=yR l:=by
 unfold yR;rw[List.map_set];apply List.ext_getElem?;intro i;rw[List.getElem?_set];by_cases e:k=i
 ·subst e;have hk:=(List.getElem?_eq_some_iff.1 hp).1;rw[if_pos rfl,if_pos (by simpa using hk),List.getElem?_map,hp];rfl
 ·rw[if_neg e]
theorem uZ.set {x:RS} (h:uZ x) (hk:x.kind=2) {nm v:ByteArray} (hn:Nm.attr nm=true) (hs:nm.size≤20000) (hv:v.size≤20000) (sl:Tr.Sl):uZ { x with a:=sl,at':=gF x.at' nm v }:=by
 obtain⟨h1,h2,h3,h4⟩:=h;have ha:=h1 hk;rw[Bool.and_eq_true] at ha;have key:Nm.attrs (gF x.at' nm v)=true∧∀ p∈gF x.at' nm v,p.1.size≤20000∧p.2.size≤20000:=by
  have ha1:=ha.1;unfold Nm.attrs at ha1 ⊢;rw[Bool.and_eq_true,decide_eq_true_iff,List.all_eq_true] at ha1 ⊢;unfold gF
  split
  ·rename_i p hp;have hpm:=List.mem_of_getElem? hp;refine⟨⟨by rw[Oj hp];exact ha1.1,fun q hq=>?_⟩,fun q hq=>?_⟩
   ·rcases List.mem_or_eq_of_mem_set hq with hq | rfl
    ·exact ha1.2 q hq
    ·exact ha1.2 p hpm
   ·rcases List.mem_or_eq_of_mem_set hq with hq | rfl
    ·exact h4 q hq
    ·exact⟨(h4 p hpm).1,hv⟩
  ·rename_i hp;have hlen:x.at'.length≤oZ x.at' nm:=List.getElem?_eq_none_iff.1 hp;have hno:∀ p∈x.at',(p.1.toList == nm.toList)=false:=fun p hp=>by
    have h9:List.findIdx (fun p:ByteArray×ByteArray=>p.1.toList == nm.toList) x.at'=x.at'.length:=Nat.le_antisymm List.findIdx_le_length hlen;exact List.findIdx_eq_length.1 h9 p hp
   refine⟨⟨?_,fun q hq=>?_⟩,fun q hq=>?_⟩
   ·unfold yR at ha1 ⊢;rw[List.map_append,List.nodup_append];refine⟨ha1.1,by simp,fun a ha b hb=>?_⟩;obtain⟨p,hp1,rfl⟩:=List.mem_map.1 ha;simp at hb;subst hb;have:=hno p hp1;rintro e;rw[Lib.toList_data,Lib.toList_data,e] at this;simp at this
   ·rcases List.mem_append.1 hq with hq | hq
    ·exact ha1.2 q hq
    ·simp at hq;subst hq;exact hn
   ·rcases List.mem_append.1 hq with hq | hq
    ·exact h4 q hq
    ·simp at hq;subst hq;exact⟨hs,hv⟩
 refine⟨fun _=>?_,fun e=>absurd hk e,h3,key.2⟩;rw[Bool.and_eq_true];exact⟨key.1,ha.2⟩
end
section
open Go.RowKit
class mQ where
 L:Nat
 w0:World
 S:Nat→Prop
variable [mQ]
def KS (w:World) (F MF:Nat→Prop) (T:Nat) (vh:Value):Prop:=∀ k,mQ.S k→k<w.heap.size∧w.heap[k]?=mQ.w0.heap[k]?∧¬ F k∧¬ MF k∧k≠T∧vh.ownBlock≠some k
section
variable {w w':World} {F F' MF MF':Nat→Prop} {T:Nat} {vh lV:Value}
theorem KS.below (H:KS w F MF T vh) (hb:Below w.heap.size w w'):KS w' F MF T vh:=fun k hk=>by
 obtain⟨h1,h2,h3⟩:=H k hk;exact⟨Nat.lt_of_lt_of_le h1 hb.size,(hb.block k h1).trans h2,h3⟩
theorem KS.a (H:KS w F MF T vh) (st:aB w w' F F'):KS w' F' MF T vh:=fun k hk=>by
 obtain⟨h1,h2,h3,h4⟩:=H k hk;exact⟨Nat.lt_of_lt_of_le h1 st.1.size,(st.1.block k h1 h3).trans h2,fun h=>h3 (st.2 k h1 h),h4⟩
theorem KS.m (H:KS w F MF T vh) (st:aB w w' MF MF'):KS w' F MF' T vh:=fun k hk=>by
 obtain⟨h1,h2,h3,h4,h5⟩:=H k hk;exact⟨Nat.lt_of_lt_of_le h1 st.1.size,(st.1.block k h1 h4).trans h2,h3,fun h=>h4 (st.2 k h1 h),h5⟩
theorem KS.t (H:KS w F MF T vh) (t:Turns (fun k=>k=T∨vh.ownBlock=some k) w w') (hv:∀ k,lV.ownBlock=some k→vh.ownBlock=some k∨w.heap.size≤k):KS w' F MF T lV:=fun k hk=>by
 obtain⟨h1,h2,h3,h4,h5,h6⟩:=H k hk;exact⟨Nat.lt_of_lt_of_le h1 t.size,(t.block k h1 (fun h=>h.elim h5 h6)).trans h2,h3,h4,h5,fun e=>(hv k e).elim h6 (Nat.not_le.2 h1)⟩
theorem KS.h (H:KS w F MF T vh) (t:Turns (fun k=>vh.ownBlock=some k) w w'):KS w' F MF T vh:=fun k hk=>by
 obtain⟨h1,h2,h3,h4,h5,h6⟩:=H k hk;exact⟨Nat.lt_of_lt_of_le h1 t.size,(t.block k h1 h6).trans h2,h3,h4,h5,h6⟩
end
structure TW (w:World) (base bM T B M:Nat) (b s:Int) (vs vf aP vh:Value) (n live m:Nat) (fr:List Nat) (av:Int→Tr.Sl) (f:Nat→RS) (hs:List Int) (g:Tr.G) (K:Nat):Prop where
 tw:oW w T B M vh hs
 tv:TV base w B b s vs n (Tr.raw g av) vf fr live (hof hs 0)
 so:Sound b s n (Tr.raw g av) fr live
 at':AT w g av
 wf:Tr.WF 0 g
 mv:MV bM w M aP m f
 im:Tr.Im (hof hs) (mg m f) g
 km:Kv m f
 len:hs.length=m
 g0:(f 0).gone=false
 m0:0<m
 gn:∀ i,i<m→(f i).gone=true→hs[i]?=some (-1)
 nm:n≤m
 Xf:∀ k,aD B vs vf k→¬ aC M aP m f k
 zw:∀ k,vh.ownBlock=some k→¬ aD B vs vf k∧¬ aC M aP m f k
 d0:(f 0).pa = -1
 bd:∀ i,i<m→(f i).at'.length≤K+2∧(f i).data.size≤120*K∧bB.rep (f i).data.data.toList=(f i).data.data.toList
 kp:Below mQ.L mQ.w0 w∧mQ.L≤base∧mQ.L≤bM∧mQ.L≤T∧∀ k,vh.ownBlock=some k→mQ.L≤k
 ml:m≤700
 ok:Tr.yV g∧∀ i,i<m→uZ (f i)
 ks:KS w (aD B vs vf) (aC M aP m f) T vh
section
variable {w w':World} {base bM T B M:Nat} {b s:Int} {vs vf aP vh:Value} {n live m:Nat} {fr:List Nat} {av:Int→Tr.Sl} {f:Nat→RS} {hs:List Int} {g:Tr.G} {K:Nat}
theorem TW.uV (H:TW w base bM T B M b s vs vf aP vh n live m fr av f hs g K):mQ.L≤w.heap.size:=by
 have:=H.kp.2.2.2.1;have:=H.tw.var.lt;omega
theorem TW.below (H:TW w base bM T B M b s vs vf aP vh n live m fr av f hs g K) (hb:Below w.heap.size w w'):TW w' base bM T B M b s vs vf aP vh n live m fr av f hs g K:=
 ⟨H.tw.below hb,H.tv.below hb,H.so,H.at'.below hb,H.wf,H.mv.below hb,H.im,H.km,H.len,H.g0,H.m0,H.gn,H.nm,H.Xf,H.zw,H.d0,H.bd,⟨H.kp.1.trans (hb.mono H.uV),H.kp.2⟩,H.ml,H.ok,H.ks.below hb⟩
theorem TW.bJ (H:TW w base bM T B M b s vs vf aP vh n live m fr av f hs g K) {i:Nat} (hi:i<m):hs[i]?=some (hof hs (i:Int)):=by
 have hl:i<hs.length:=by rw[H.len];exact hi
 obtain⟨x,hx⟩:∃ x,hs[i]?=some x:=⟨hs[i],by simp⟩
 rw[hx,oO hx]
theorem TW.mD (H:TW w base bM T B M b s vs vf aP vh n live m fr av f hs g K) {i:Nat} (hi:i<m) (hg:(f i).gone=true):hof hs (i:Int) = -1∧g (-1)=none:=by
 refine⟨oO (H.gn i hi hg),?_⟩;cases e:g (-1) with
 | none=>rfl
 | some x=>
  have:=(bH H.so (h := -1) (by rw[aK,e];rfl)).2;omega
theorem TW.dx (H:TW w base bM T B M b s vs vf aP vh n live m fr av f hs g K) {i:Nat} (hi:i<m) (hg:(f i).gone=false):g (hof hs (i:Int))=some (Tr.eD (hof hs) (jZ (f i))):=H.im.node _ _ (aM hi hg)
theorem TW.i64 (H:TW w base bM T B M b s vs vf aP vh n live m fr av f hs g K) {i:Nat} (hi:i<m):gI (hof hs (i:Int)):=by
 cases hg:(f i).gone with
 | true=>rw[(H.mD hi hg).1];constructor<;>omega
 | false=>exact (bH H.so (h:=hof hs (i:Int)) (by rw[aK,H.dx hi hg];rfl)).1
theorem TW.K6 (H:TW w base bM T B M b s vs vf aP vh n live m fr av f hs g K):¬ aD B vs vf T∧¬ aC M aP m f T:=by
 refine⟨H.tv.aV H.tw.var (by decide) (by decide) (by decide),?_⟩;rintro (e | e | ⟨i,hi,e | e⟩)
 ·exact H.tw.var.unlike H.mv.var (by decide) e
 ·exact bE H.mv.row H.tw.var (by decide) e
 ·exact (H.mv.ar i hi).unlike H.tw.var (by decide) e
 ·exact (H.mv.kr i hi).unlike H.tw.var (by decide) e
theorem TW.after (H:TW w base bM T B M b s vs vf aP vh n live m fr av f hs g K) {vs' dw:Value} (st:aB w w' (aD B vs vf) (aD B vs' dw)):
  oW w' T B M vh hs∧MV bM w' M aP m f∧(∀ k,aD B vs' dw k→¬ aC M aP m f k)∧(∀ k,vh.ownBlock=some k→¬ aD B vs' dw k)∧∀ k,aC M aP m f k→k<w.heap.size:=by
 have hml:=fun k hk=>(H.mv.lt k hk).2;have hvl:∀ k,vh.ownBlock=some k→k<w.heap.size:=fun k hk=>(H.tw.row.lt k hk).2;refine⟨⟨H.tw.var.turns st.1 H.K6.1,H.tw.row.turns st.1 fun k hk=>(H.zw k hk).1⟩,H.mv.turns st.1 (fun k hk hf=>H.Xf k hf hk),fun k hf hm=>H.Xf k (st.2 k (hml k hm) hf) hm,fun k hk hf=>(H.zw k hk).1 (st.2 k (hvl k hk) hf),hml⟩
end
end
section
open Go.RowKit
variable [mQ]
theorem Ra (h:Int) (hz:h≠0):Tr.Im (hof [h]) (mg 1 fun _=>Ky) (Tr.dK xH h lN):=by
 have h0:hof [h] ((0:Nat):Int)=h:=oO rfl;have hm:∀ x,(mg 1 (fun _=>Ky) x).isSome→x=((0:Nat):Int):=fun x hx=>by
  obtain⟨i,rfl,hi,-,-⟩:=jv hx;have:i=0:=by omega
  rw[this]
 have e0:mg 1 (fun _=>Ky) ((0:Nat):Int)=some (jZ Ky):=aM (m:=1) (f:=fun _=>Ky) (i:=0) (by omega) rfl;have en:Tr.eD (hof [h]) (jZ Ky)=lN:=by
  unfold Tr.eD;rw[show (jZ Ky).pa = -1 from rfl,mF];rfl
 constructor
 ·exact mF
 ·intro x n e;have hx:=hm x (by rw[e];rfl);subst hx;rw[e0] at e;obtain rfl:=Option.some.inj e;rw[h0,Tr.bQ,en]
 ·intro x hx;refine⟨((0:Nat):Int),by rw[e0];rfl,?_⟩;rw[h0];by_cases e:x=h
  ·exact e.symm
  ·rw[Tr.bZ e] at hx;cases hx
 ·intro x y hx hy _;rw[hm x hx,hm y hy]
 ·intro x hx;rw[hm x hx,h0];exact hz
 ·exact lQ (by omega)
 ·intro x n e;have hx:=hm x (by rw[e];rfl);subst hx;rw[e0] at e;obtain rfl:=Option.some.inj e;exact .inl rfl
 ·intro x n e k hk;have hx:=hm x (by rw[e];rfl);subst hx;rw[e0] at e;obtain rfl:=Option.some.inj e;cases hk
theorem Rb (b s:Int) (w w':World) (e:Ending) (h:Fy b s w e w') (hkp:Below mQ.L mQ.w0 w) (hL:mQ.L≤w.heap.size) (hS0:∀ k,¬ mQ.S k):
  ∃ (T B M base bM:Nat) (vs vf aP vh:Value),e=.returned (.pointer (some ⟨T,0,none⟩))∧TW w' base bM T B M b s vs vf aP vh 1 1 1 [] CF (fun _=>Ky) [Ar.hdl b s 0] (Tr.dK xH (Ar.hdl b s 0) lN) 0:=by
 obtain⟨T,B,M,vs,vf,aP,vh,rfl,CP,⟨bT,XV,htv⟩,hso,hwf,⟨bM,hmv,hfm⟩,hb,hT,hv⟩:=h;have h0:hof [Ar.hdl b s 0] 0=Ar.hdl b s 0:=oO (j:=0) rfl;have hz:Ar.hdl b s 0≠0:=by have:=(bH hso (h:=Ar.hdl b s 0) (by rw[aK,Tr.bQ];rfl)).2;omega
 have hBM:bT<bM:=Nat.lt_of_le_of_lt htv.low (hfm B (.inl rfl));refine⟨T,B,M,bT,bM,vs,vf,aP,vh,rfl,⟨CP,by rw[h0];exact htv,hso,fun x q e=>?_,hwf,hmv,Ra _ hz,⟨rfl,fun i hi h1=>absurd hi (by omega)⟩,rfl,rfl,by omega,fun i hi hg=>absurd hg (by decide),Nat.le_refl _,fun k hf hm=>absurd (hfm k hf) (Nat.not_lt.2 (hmv.lt k hm).1),fun k hk=>(hv k hk).2,rfl,fun i hi=>⟨Nat.zero_le _,Nat.zero_le _,bB.tN⟩,⟨hkp.trans (hb.mono hL),by omega,by omega,Nat.le_trans hL hT,fun k hk=>Nat.le_trans hL (hv k hk).1⟩,by omega,⟨fun x q e=>?_,fun i hi=>⟨fun h=>absurd h (by decide),fun _=>rfl,Nat.zero_le _,fun p hp=>absurd hp (List.not_mem_nil)⟩⟩,fun k hk=>(hS0 k hk).elim⟩⟩;by_cases hx:x=Ar.hdl b s 0
 ·subst hx;rw[Tr.bQ] at e;obtain rfl:=Option.some.inj e;exact TR.nil _ _ _ _
 ·rw[Tr.bZ hx] at e;cases e
 ·by_cases hx:x=Ar.hdl b s 0
  ·subst hx;rw[Tr.bQ] at e;obtain rfl:=Option.some.inj e;have hno:∀ k:Int,k∈(lN).kids→False:=fun k hk=>by cases hk
   exact⟨Or.inr (Or.inr rfl),fun _ k hk=>(hno k hk).elim,fun _=>⟨fun k hk=>(hno k hk).elim,fun k hk=>(hno k hk).elim⟩⟩
  ·rw[Tr.bZ hx] at e;cases e
end
section
open Go.RowKit
variable [mQ]
theorem AT.LA {w w':World} {g:Tr.G} {av:Int→Tr.Sl} {bM M m:Nat} {aP:Value} {f:Nat→RS} {F':Nat→Prop} (h:AT w g av) (hM:MV bM w M aP m f) (st:aB w w' (aC M aP m f) F'):AT w' g av:=
 h.turns st.1 fun x q e k hk hm=>by
  have hr:=h x q e;rcases hm with e1 | e1 | ⟨i,hi,e1 | e1⟩
  ·exact TR.unlike hr hM.var (by decide) (by rw[hk,e1])
  ·exact TR.ne hr (TR.jP hM.row) (by decide) k hk e1
  ·exact TR.ne hr (hM.ar i hi) (by decide) k hk e1
  ·exact TR.ne hr (hM.kr i hi) (by decide) k hk e1
theorem Xg {g:Tr.G} {h:Int} {U:Tr.GN→Tr.GN} (w:Tr.WF 0 g) (hU:∀ n,(U n).pa=n.pa∧(U n).kids=n.kids):Tr.WF 0 (Tr.cK g h U):=by
 have back:∀ x m,Tr.cK g h U x=some m→∃ n,g x=some n∧m.pa=n.pa∧m.kids=n.kids:=fun x m e=>by
  unfold Tr.cK at e
  split at e
  ·rename_i hx;subst hx;cases e2:g x with
   | none=>rw[e2] at e;cases e
   | some n=>rw[e2] at e;obtain rfl:=Option.some.inj e;exact⟨n,rfl,(hU n).1,(hU n).2⟩
  ·exact⟨m,e,rfl,rfl⟩
 have forth:∀ x n,g x=some n→∃ m,Tr.cK g h U x=some m∧m.pa=n.pa∧m.kids=n.kids:=fun x n e=>by
  unfold Tr.cK;by_cases hx:x=h
  ·subst hx;rw[if_pos rfl,e];exact⟨_,rfl,(hU n).1,(hU n).2⟩
  ·rw[if_neg hx];exact⟨n,e,rfl,rfl⟩
 have up:∀ {x:Int} {l:List Int},Tr.Up g x l→Tr.Up (Tr.cK g h U) x l:=by
  intro x l u
  induction u with
  | @out x e=>exact .out (by
    cases e2:Tr.cK g h U x with
    | none=>rfl
    | some m=>obtain⟨n,e3,_⟩:=back x m e2;rw[e] at e3;cases e3)
  | node e _ ih=>obtain⟨m,e2,e3,_⟩:=forth _ _ e;exact .node e2 (by rw[e3];exact ih)
 constructor
 ·cases e:Tr.cK g h U 0 with
  | none=>rfl
  | some m=>obtain⟨n,e2,_⟩:=back 0 m e;rw[w.zero] at e2;cases e2
 ·intro x m e hp;obtain⟨n,e2,e3,e4⟩:=back x m e;obtain⟨p,e5,e6⟩:=w.up x n e2 (by rw[←e3];exact hp);obtain⟨p',e7,_,e8⟩:=forth _ _ e5;exact⟨p',by rw[e3];exact e7,by rw[e8];exact e6⟩
 ·intro x m k e hk;obtain⟨n,e2,e3,e4⟩:=back x m e;obtain⟨q,e5,e6⟩:=w.down x n k e2 (by rw[←e4];exact hk);obtain⟨q',e7,e8,_⟩:=forth _ _ e5;exact⟨q',e7,by rw[e8];exact e6⟩
 ·intro x m e;obtain⟨n,e2,_,e4⟩:=back x m e;rw[e4];exact w.nodup x n e2
 ·intro x;obtain⟨l,u,hl⟩:=w.chain x;exact⟨l,up u,hl⟩
section
variable {w w3 w4:World} {base bM T B M:Nat} {b s:Int} {vs vf aP vh vs' dw dP:Value} {n live m n' aY:Nat} {fr fr':List Nat} {av iK:Int→Tr.Sl} {f f':Nat→RS} {hs:List Int} {g g':Tr.G} {K:Nat}
theorem TW.up (H:TW w base bM T B M b s vs vf aP vh n live m fr av f hs g K):TW w base bM T B M b s vs vf aP vh n live m fr av f hs g (K+1):=
 ⟨H.tw,H.tv,H.so,H.at',H.wf,H.mv,H.im,H.km,H.len,H.g0,H.m0,H.gn,H.nm,H.Xf,H.zw,H.d0,fun i hi=>⟨by have:=(H.bd i hi).1;omega,by have:=(H.bd i hi).2.1;omega,(H.bd i hi).2.2⟩,H.kp,H.ml,H.ok,H.ks⟩
theorem TW.step (H:TW w base bM T B M b s vs vf aP vh n live m fr av f hs g K) (tv':TV base w3 B b s vs' n' (Tr.raw g' iK) dw fr' aY (hof hs 0)) (so':Sound b s n' (Tr.raw g' iK) fr' aY) (st:aB w w3 (aD B vs vf) (aD B vs' dw)) (at':AT w3 g' iK) (wf':Tr.WF 0 g')
  (mv':MV bM w4 M dP m f') (stM:aB w3 w4 (aC M aP m f) (aC M dP m f')) (im':Tr.Im (hof hs) (mg m f') g') (km':Kv m f') (g0':(f' 0).gone=false) (gn':∀ i,i<m→(f' i).gone=true→hs[i]?=some (-1)) (nm':n'≤m) (d0':(f' 0).pa = -1)
  (bd':∀ i,i<m→(f' i).at'.length≤K+1+2∧(f' i).data.size≤120*(K+1)∧bB.rep (f' i).data.data.toList=(f' i).data.data.toList) (ok':Tr.yV g'∧∀ i,i<m→uZ (f' i)):TW w4 base bM T B M b s vs' dw dP vh n' aY m fr' iK f' hs g' (K+1):=by
 obtain⟨a1,a2,a3,a4,a5⟩:=H.after st;have Wt:∀ k,aD B vs' dw k→k<w3.heap.size:=fun k hk=>(tv'.lt k hk).2;have hvl:∀ k,vh.ownBlock=some k→k<w3.heap.size:=fun k hk=>Nat.lt_of_lt_of_le (H.tw.row.lt k hk).2 st.1.size;have hT3:¬ aC M aP m f T:=H.K6.2;exact⟨⟨a1.var.turns stM.1 hT3,a1.row.turns stM.1 fun k hk=>(H.zw k hk).2⟩,tv'.turns stM.1 (fun k hk hm=>a3 k hk hm),so',at'.LA a2 stM,wf',mv',im',km',H.len,g0',H.m0,gn',nm',
  fun k hf hm=>a3 k hf (stM.2 k (Wt k hf) hm),fun k hk=>⟨a4 k hk,fun hm=>(H.zw k hk).2 (stM.2 k (hvl k hk) hm)⟩,d0',bd',⟨(H.kp.1.trans (st.1.below H.uV fun k hk=>Nat.le_trans H.kp.2.1 (H.tv.lt k hk).1)).trans (stM.1.below (Nat.le_trans H.uV st.1.size) fun k hk=>Nat.le_trans H.kp.2.2.1 (H.mv.lt k hk).1),H.kp.2⟩,H.ml,ok',(H.ks.a st).m stM⟩
theorem kH {p i:Nat} {sl:Tr.Sl} (j:Nat):(aX (aX f p fun n=>{ n with k:=sl,kids:=n.kids.erase (i:Int) }) i (fun n=>{ n with pa := -1 }) j).kind=(f j).kind∧(aX (aX f p fun n=>{ n with k:=sl,kids:=n.kids.erase (i:Int) }) i (fun n=>{ n with pa := -1 }) j).gone=(f j).gone∧
  (aX (aX f p fun n=>{ n with k:=sl,kids:=n.kids.erase (i:Int) }) i (fun n=>{ n with pa := -1 }) j).at'=(f j).at'∧(aX (aX f p fun n=>{ n with k:=sl,kids:=n.kids.erase (i:Int) }) i (fun n=>{ n with pa := -1 }) j).data=(f j).data:=by
 unfold aX;by_cases h1:j=i
 ·subst h1;rw[if_pos rfl];by_cases h2:j=p
  ·subst h2;rw[if_pos rfl];exact⟨rfl,rfl,rfl,rfl⟩
  ·rw[if_neg h2];exact⟨rfl,rfl,rfl,rfl⟩
 ·rw[if_neg h1];by_cases h2:j=p
  ·subst h2;rw[if_pos rfl];exact⟨rfl,rfl,rfl,rfl⟩
  ·rw[if_neg h2];exact⟨rfl,rfl,rfl,rfl⟩
theorem TW.cut (H:TW w base bM T B M b s vs vf aP vh n live m fr av f hs g K) {i p:Nat} {sl:Tr.Sl} (hi:i<m) (hg:(f i).gone=false) (hp:(f i).pa=(p:Int)) (hpm:p<m) (hpg:(f p).gone=false) (hpi:p≠i)
  (tv':TV base w3 B b s vs n (Tr.raw (Tr.dG g (hof hs (i:Int))) av) vf fr live (hof hs 0)) (st:aB w w3 (aD B vs vf) (aD B vs vf))
  (mv':MV bM w4 M aP m (aX (aX f p fun n=>{ n with k:=sl,kids:=n.kids.erase (i:Int) }) i fun n=>{ n with pa := -1 })) (stM:aB w3 w4 (aC M aP m f) (aC M aP m (aX (aX f p fun n=>{ n with k:=sl,kids:=n.kids.erase (i:Int) }) i fun n=>{ n with pa := -1 }))):
  TW w4 base bM T B M b s vs vf aP vh n live m fr av (aX (aX f p fun n=>{ n with k:=sl,kids:=n.kids.erase (i:Int) }) i fun n=>{ n with pa := -1 }) hs (Tr.dG g (hof hs (i:Int))) (K+1):=by
 have eg:=H.dx hi hg;have hpa:Tr.dI g (hof hs (i:Int))=hof hs (p:Int):=by rw[Tr.aO eg];show hof hs (f i).pa=_;rw[hp]
 have hpz:hof hs (p:Int)≠0:=H.im.nz _ (by rw[aM hpm hpg];rfl);have e1:Tr.dG g (hof hs (i:Int))=Tr.iU g (hof hs (i:Int)):=by unfold Tr.dG;rw[if_neg (by rw[hpa];exact hpz)]
 have im':Tr.Im (hof hs) (mg m (aX (aX f p fun n=>{ n with k:=sl,kids:=n.kids.erase (i:Int) }) i fun n=>{ n with pa := -1 })) (Tr.dG g (hof hs (i:Int))):=by
  rw[Pw hi hg hpm hpg hp hpi,e1];exact H.im.cut H.wf (aM hi hg) (by show (f i).pa ≠ -1;omega)
 refine H.step tv' (uQ H.so H.wf eg) st ?_ ?_ mv' stM im' ?_ ?_ ?_ H.nm ?_ ?_ ⟨H.ok.1.cut _,fun j hj=>?_⟩
 ·refine AT.same (H.at'.step H.tv st) fun x q e=>?_;rw[e1] at e;unfold Tr.iU at e
  split at e
  ·rename_i hx;subst hx;rw[eg] at e;obtain rfl:=Option.some.inj e;exact⟨_,eg,rfl⟩
  ·split at e
   ·rename_i hx;cases e2:g x with
    | none=>rw[e2] at e;cases e
    | some y=>rw[e2] at e;obtain rfl:=Option.some.inj e;exact⟨y,rfl,rfl⟩
   ·exact⟨q,e,rfl⟩
 ·exact H.wf.dG eg
 ·exact⟨by rw[(kH 0).1];exact H.km.1,fun j hj h0=>by rw[(kH j).1];exact H.km.2 j hj h0⟩
 ·rw[(kH 0).2.1];exact H.g0
 ·intro j hj hgj;rw[(kH j).2.1] at hgj;exact H.gn j hj hgj
 ·have hd:=H.d0;unfold aX;by_cases h1:0=i
  ·rw[if_pos h1]
  ·rw[if_neg h1];by_cases h2:0=p
   ·rw[if_pos h2,←h2];exact hd
   ·rw[if_neg h2];exact hd
 ·intro j hj;rw[(kH j).2.2.1,(kH j).2.2.2];have:=H.bd j hj;exact⟨by omega,by omega,this.2.2⟩
 ·refine (H.ok.2 j hj).same (kH j).1 ?_ (kH j).2.2.1;unfold aX;by_cases h1:j=i
  ·subst h1;rw[if_pos rfl];by_cases h2:j=p
   ·subst h2;rw[if_pos rfl]
   ·rw[if_neg h2]
  ·rw[if_neg h1];by_cases h2:j=p
   ·subst h2;rw[if_pos rfl]
   ·rw[if_neg h2]
theorem TW.put (H:TW w base bM T B M b s vs vf aP vh n live m fr av f hs g K) {i:Nat} (hi:i<m) (hg:(f i).gone=false) {u:RS→RS} {U:Tr.GN→Tr.GN} (hu:∀ x,(u x).gone=x.gone∧(u x).kind=x.kind) (hU:∀ x,jZ (u x)=U (jZ x)) (hUk:∀ n,(U n).pa=n.pa∧(U n).kids=n.kids) (hm:∀ n,U (Tr.eD (hof hs) n)=Tr.eD (hof hs) (U n))
  (tv':TV base w3 B b s vs n (Tr.raw (Tr.cK g (hof hs (i:Int)) U) iK) vf fr live (hof hs 0)) (so':Sound b s n (Tr.raw (Tr.cK g (hof hs (i:Int)) U) iK) fr live) (at':AT w3 (Tr.cK g (hof hs (i:Int)) U) iK) (st:aB w w3 (aD B vs vf) (aD B vs vf))
  (mv':MV bM w4 M aP m (aX f i u)) (stM:aB w3 w4 (aC M aP m f) (aC M aP m (aX f i u)))
  (bd':(u (f i)).at'.length≤K+1+2∧(u (f i)).data.size≤120*(K+1)∧bB.rep (u (f i)).data.data.toList=(u (f i)).data.data.toList) (abx:uZ (u (f i))):TW w4 base bM T B M b s vs vf aP vh n live m fr iK (aX f i u) hs (Tr.cK g (hof hs (i:Int)) U) (K+1):=by
 have hgo:∀ j,(aX f i u j).gone=(f j).gone∧(aX f i u j).kind=(f j).kind:=fun j=>by
  unfold aX;split
  ·rename_i e;rw[e];exact hu _
  ·exact⟨rfl,rfl⟩
 have im':Tr.Im (hof hs) (mg m (aX f i u)) (Tr.cK g (hof hs (i:Int)) U):=by
  rw[Xa hi hg (by rw[(hu _).1];exact hg) (hU _)];exact H.im.put (by rw[aM hi hg];rfl) U hUk hm
 have eg:=H.dx hi hg;refine H.step tv' so' st at' (Xg H.wf hUk) mv' stM im' ?_ ?_ ?_ H.nm ?_ ?_ ⟨H.ok.1.put fun n e=>⟨?_,(hUk n).2⟩,fun j hj=>?_⟩
 ·exact⟨by rw[(hgo 0).2];exact H.km.1,fun j hj h0=>by rw[(hgo j).2];exact H.km.2 j hj h0⟩
 ·rw[(hgo 0).1];exact H.g0
 ·intro j hj hgj;rw[(hgo j).1] at hgj;exact H.gn j hj hgj
 ·unfold aX
  split
  ·rename_i e;have h1:=congrArg Tr.GN.pa (hU (f i));rw[(hUk _).1] at h1;show (jZ (u (f i))).pa = -1;rw[h1,←e];exact H.d0
  ·exact H.d0
 ·intro j hj;by_cases e:j=i
  ·subst e;unfold aX;rw[if_pos rfl];exact bd'
  ·rw[iP e];have:=H.bd j hj;exact⟨by omega,by omega,this.2.2⟩
 ·rw[eg] at e;obtain rfl:=Option.some.inj e;rw[hm,←hU];show (u (f i)).kind=(f i).kind;exact (hu _).2
 ·by_cases e:j=i
  ·subst e;unfold aX;rw[if_pos rfl];exact abx
  ·rw[iP e];exact H.ok.2 j hj
theorem TW.kinds (H:TW w base bM T B M b s vs vf aP vh n live m fr av f hs g K):∀ x q,g x=some q→q.kind≠0:=by
 intro x q e;obtain⟨y,hy,rfl⟩:=H.im.dom x (by rw[e];rfl);obtain⟨i,rfl,hi,hg,-⟩:=jv hy;rw[H.dx hi hg] at e;obtain rfl:=Option.some.inj e;show (f i).kind≠0;by_cases h0:i=0
 ·subst h0;rw[H.km.1];decide
 ·rcases H.km.2 i hi h0 with h | h | h<;>omega
end
end
section
open Go.RowKit
variable [mQ]
def hsJ (f:Nat→RS) (hs:List Int):Nat→List Int
 | 0=>hs
 | j+1=>if (f j).gone then (hsJ f hs j).set j (-1) else hsJ f hs j
theorem qI (f:Nat→RS) (hs:List Int):∀ j,(hsJ f hs j).length=hs.length
 | 0=>rfl
 | j+1=>by unfold hsJ;split<;>simp[qI f hs j]
theorem FC (f:Nat→RS) (hs:List Int):∀ (j i:Nat),i<hs.length→(hsJ f hs j)[i]?=if i<j∧(f i).gone=true then some (-1) else hs[i]?
 | 0,i,hi=>by rw[if_neg (by omega)];rfl
 | j+1,i,hi=>by
  have ih:=FC f hs j i hi;unfold hsJ;by_cases hg:(f j).gone=true
  ·rw[if_pos hg,List.getElem?_set];by_cases e:j=i
   ·subst e;rw[if_pos rfl,if_pos (by rw[qI];exact hi),if_pos ⟨by omega,hg⟩]
   ·rw[if_neg e,ih];by_cases h:i<j∧(f i).gone=true
    ·rw[if_pos h,if_pos ⟨by omega,h.2⟩]
    ·rw[if_neg h,if_neg (fun h2=>h ⟨by omega,h2.2⟩)]
  ·rw[if_neg hg,ih];by_cases h:i<j∧(f i).gone=true
   ·rw[if_pos h,if_pos ⟨by omega,h.2⟩]
   ·rw[if_neg h,if_neg (fun h2=>h ⟨by
     rcases Nat.lt_or_ge i j with h3 | h3
     ·exact h3
     ·have:i=j:=by omega
      exact absurd (this▸h2.2) hg,h2.2⟩)]
theorem Mq {f:Nat→RS} {hs:List Int} {j i:Nat} (hi:i<hs.length) (hg:(f i).gone=false):hof (hsJ f hs j) (i:Int)=hof hs (i:Int):=by
 obtain⟨x,hx⟩:∃ x,hs[i]?=some x:=⟨hs[i],by simp⟩
 have h:=FC f hs j i hi;rw[if_neg (fun h=>by rw[hg] at h;exact Bool.false_ne_true h.2),hx] at h;rw[oO h,oO hx]
theorem Tr.Im.names {ρ ρ':Int→Int} {a g:Tr.G} (h:Tr.Im ρ a g) (hρ:∀ y,y = -1∨(a y).isSome→ρ' y=ρ y):Tr.Im ρ' a g:=by
 have hmap:∀ y q,a y=some q→Tr.eD ρ' q=Tr.eD ρ q:=fun y q e=>by
  unfold Tr.eD;rw[hρ q.pa (h.pa y q e)];congr 1;exact List.map_congr_left fun k hk=>hρ k (.inr (h.kids y q e k hk))
 constructor
 ·rw[hρ _ (.inl rfl)];exact h.zero
 ·intro y q e;rw[hρ y (.inr (by rw[e];rfl)),hmap y q e];exact h.node y q e
 ·intro y hy;obtain⟨z,h1,h2⟩:=h.dom y hy;exact⟨z,h1,by rw[hρ z (.inr h1)];exact h2⟩
 ·intro y z hy hz e;rw[hρ y (.inr hy),hρ z (.inr hz)] at e;exact h.inj y z hy hz e
 ·intro y hy;rw[hρ y (.inr hy)];exact h.nz y hy
 ·exact h.neg
 ·exact h.pa
 ·exact h.kids
theorem Eh:∀ (m:Nat) (l:List Int),l.Nodup→(∀ x∈l,∃ i:Nat,x=(i:Int)∧i<m)→l.length≤m
 | 0,l,_,h=>by
  cases l with
  | nil=>exact Nat.le_refl _
  | cons a r=>obtain⟨i,_,hi⟩:=h a (by simp);omega
 | m+1,l,hn,h=>by
  have h1:=Eh m (l.erase (m:Int)) (hn.erase _) (fun x hx=>by
   obtain⟨hne,hm⟩:=(hn.mem_erase_iff).1 hx;obtain⟨i,e,hi⟩:=h x hm
   exact⟨i,e,by omega⟩)
  have h2:=List.length_erase (l:=l) (a:=(m:Int));rw[h2] at h1
  split at h1<;>omega
theorem Tr.Im.GH {ρ:Int→Int} {m:Nat} {f:Nat→RS} {g:Tr.G} (h:Tr.Im ρ (mg m f) g) (w:Tr.WF 0 g) {i:Nat} (hi:i<m) (hg:(f i).gone=false):(Tr.ak g (ρ (i:Int))).length≤m:=by
 rw[h.walk w (i:Int) (by rw[aM hi hg];rfl),List.length_map];refine Eh m _ ((h.pull w).jV _) fun x hx=>?_;obtain⟨j,e,hj,_⟩:=jv ((h.pull w).lY hx);exact⟨j,e,hj⟩
section
variable {w w3 w4 w5:World} {base bM T B M:Nat} {b s:Int} {vs vf aP vh vs' dw:Value} {n live m aY:Nat} {fr fr':List Nat} {av:Int→Tr.Sl} {f:Nat→RS} {hs:List Int} {g:Tr.G} {K:Nat}
theorem TW.dropped (H:TW w base bM T B M b s vs vf aP vh n live m fr av f hs g K) {i:Nat} (hi:i<m) (hg:(f i).gone=false) (h0:i≠0) (hp:(f i).pa = -1)
  (yB:TV base w3 B b s vs' n (Tr.raw (Tr.iw g (hof hs (i:Int))) av) dw fr' aY (hof hs 0)) (ES:Sound b s n (Tr.raw (Tr.iw g (hof hs (i:Int))) av) fr' aY) (fF:aB w w3 (aD B vs vf) (aD B vs' dw))
  (mv4:MV bM w4 M aP m (iR f (Tr.ak (mg m f) i))) (dJ:aB w3 w4 (aC M aP m f) (aC M aP m (iR f (Tr.ak (mg m f) i))))
  (UR:oW w5 T B M vh (hsJ (iR f (Tr.ak (mg m f) i)) hs m)) (t5:Turns (fun k=>vh.ownBlock=some k) w4 w5):
  TW w5 base bM T B M b s vs' dw aP vh n aY m fr' av (iR f (Tr.ak (mg m f) i)) (hsJ (iR f (Tr.ak (mg m f) i)) hs m) (Tr.iw g (hof hs (i:Int))) (K+1):=by
 have eg:=H.dx hi hg;have ea:=aM hi hg;have wa:=H.im.pull H.wf;have hd:=H.im.drop H.wf ea hp;have hh0:(0:Int)∉Tr.ak (mg m f) (i:Int):=by
  intro hm;have h1:=(wa.eH (i:Int) 0).1 hm;have e0:mg m f 0=some (jZ (f 0)):=aM (m:=m) (f:=f) (i:=0) H.m0 H.g0;rw[wa.aT e0,show (jZ (f 0)).pa = -1 from H.d0,wa.jI wa.zero] at h1;have:(i:Int)=0:=by simpa using h1
  omega
 obtain⟨f',hf'⟩:∃ f',iR f (Tr.ak (mg m f) (i:Int))=f':=⟨_,rfl⟩
 have hsame:∀ j,(f' j).kind=(f j).kind∧(f' j).pa=(f j).pa∧(f' j).at'=(f j).at'∧(f' j).data=(f j).data:=fun j=>by
  rw[←hf'];unfold iR;split<;>exact⟨rfl,rfl,rfl,rfl⟩
 have Rc:(f' 0).gone=false:=by
  rw[←hf'];unfold iR;rw[if_neg (by simpa using hh0)];exact H.g0
 have VX:mg m f'=Tr.iw (mg m f) (i:Int):=by rw[←hf'];exact Q8
 have Z4:aC M aP m f'=aC M aP m f:=by rw[←hf'];exact nT _ _ _ _ _
 rw[hf'] at mv4 dJ UR ⊢;rw[Z4] at dJ;obtain⟨a1,a2,a3,a4,a5⟩:=H.after fF;have hvl:∀ k,vh.ownBlock=some k→k<w3.heap.size:=fun k hk=>Nat.lt_of_lt_of_le (H.tw.row.lt k hk).2 fF.1.size;have hlen:(hsJ f' hs m).length=m:=by rw[qI,H.len]
 have PO:hof (hsJ f' hs m) 0=hof hs 0:=Mq (i:=0) (by rw[H.len];exact H.m0) Rc;have Vl:TV base w5 B b s vs' n (Tr.raw (Tr.iw g (hof hs (i:Int))) av) dw fr' aY (hof hs 0):=(yB.turns dJ.1 (fun k hk hm=>a3 k hk hm)).turns t5 (fun k hk hv=>a4 k hv hk);have hA:AT w5 (Tr.iw g (hof hs (i:Int))) av:=by
  have h1:AT w4 g av:=(H.at'.step H.tv fF).LA a2 dJ;have h2:AT w5 g av:=h1.turns t5 fun x q e k hk hv=>TR.ne (h1 x q e) (a1.row.turns dJ.1 fun k hk=>(H.zw k hk).2) (by decide) k hk hv;refine AT.same h2 fun x q e=>?_;unfold Tr.iw at e
  split at e
  ·cases e
  ·exact⟨q,e,rfl⟩
 refine⟨UR,by rw[PO];exact Vl,ES,hA,H.wf.drop eg (by show hof hs (f i).pa=0;rw[hp];exact H.im.zero),mv4.turns t5 (fun k hm hv=>(H.zw k hv).2 (by rw[←Z4];exact hm)),?_,?_,hlen,Rc,H.m0,?_,H.nm,?_,?_,?_,?_,⟨((H.kp.1.trans (fF.1.below H.uV fun k hk=>Nat.le_trans H.kp.2.1 (H.tv.lt k hk).1)).trans (dJ.1.below (Nat.le_trans H.uV fF.1.size) fun k hk=>Nat.le_trans H.kp.2.2.1 (H.mv.lt k hk).1)).trans (t5.below (Nat.le_trans (Nat.le_trans H.uV fF.1.size) dJ.1.size) fun k hk=>H.kp.2.2.2.2 k hk),H.kp.2.1,H.kp.2.2.1,H.kp.2.2.2.1,H.kp.2.2.2.2⟩,H.ml,⟨H.ok.1.drop H.wf _ fun n e=>?_,fun j hj=>?_⟩,by rw[Z4];exact ((H.ks.a fF).m dJ).h t5⟩
 ·rw[VX];refine hd.names fun y hy=>?_;rcases hy with rfl | hy
  ·rw[mF,mF]
  ·rw[←VX] at hy;obtain⟨j,rfl,hj,XH,-⟩:=jv hy;exact Mq (by rw[H.len];exact hj) XH
 ·exact⟨by rw[(hsame 0).1];exact H.km.1,fun j hj hj0=>by rw[(hsame j).1];exact H.km.2 j hj hj0⟩
 ·intro j hj hgj;rw[FC f' hs m j (by rw[H.len];exact hj),if_pos ⟨hj,hgj⟩]
 ·intro k hf hm;rw[Z4] at hm;exact a3 k hf hm
 ·intro k hk;exact⟨a4 k hk,fun hm=>(H.zw k hk).2 (by rw[←Z4];exact hm)⟩
 ·rw[(hsame 0).2.1];exact H.d0
 ·intro j hj;rw[(hsame j).2.2.1,(hsame j).2.2.2];have:=H.bd j hj;exact⟨by omega,by omega,this.2.2⟩
 ·rw[eg] at e;obtain rfl:=Option.some.inj e;show hof hs (f i).pa=0;rw[hp];exact H.im.zero
 ·rw[←hf'];unfold iR
  split
  ·exact (H.ok.2 j hj).same rfl rfl rfl
  ·exact H.ok.2 j hj
theorem BP {f:Nat→RS} {hs:List Int}:∀ j,(∀ i,i<j→(f i).gone=true→hs[i]?=some (-1))→hsJ f hs j=hs
 | 0,_=>rfl
 | j+1,h=>by
  unfold hsJ;rw[BP j fun i hi=>h i (by omega)]
  split
  ·rename_i hg;have hj:=h j (by omega) hg;apply List.ext_getElem?;intro i;rw[List.getElem?_set];by_cases e:j=i
   ·subst e;rw[if_pos rfl,if_pos (List.getElem?_eq_some_iff.1 hj).1,hj]
   ·rw[if_neg e]
  ·rfl
theorem TW.handles (H:TW w base bM T B M b s vs vf aP vh n live m fr av f hs g K) (UR:oW w5 T B M vh hs) (t5:Turns (fun k=>vh.ownBlock=some k) w w5):TW w5 base bM T B M b s vs vf aP vh n live m fr av f hs g K:=
 ⟨UR,H.tv.turns t5 (fun k hk hv=>(H.zw k hv).1 hk),H.so,H.at'.turns t5 (fun x q e k hk hv=>TR.ne (H.at' x q e) H.tw.row (by decide) k hk hv),H.wf,H.mv.turns t5 (fun k hm hv=>(H.zw k hv).2 hm),H.im,H.km,H.len,H.g0,H.m0,H.gn,H.nm,H.Xf,H.zw,H.d0,H.bd,⟨H.kp.1.trans (t5.below H.uV fun k hk=>H.kp.2.2.2.2 k hk),H.kp.2⟩,H.ml,H.ok,H.ks.h t5⟩
structure HJ (w:World) (T B M:Nat) (vh:Value) (m:Nat) (f:Nat→RS) (hs:List Int) (j:Nat) (wr:World):Prop where
 var:Whole wr T #[.pointer (some ⟨B,0,none⟩),.pointer (some ⟨M,0,none⟩),vh] 41
 row:TR wr 0 3 1 vh m (ints (hsJ f hs j))
 turns:Turns (fun k=>vh.ownBlock=some k) w wr
theorem HJ.start (H:oW w T B M vh hs) (hl:hs.length=m):HJ w T B M vh m f hs 0 w:=⟨H.var,by rw[←hl];exact H.row,.refl _ _⟩
theorem HJ.keep {wr:World} {j:Nat} (H:HJ w T B M vh m f hs j wr) (hg:(f j).gone=false):HJ w T B M vh m f hs (j+1) wr:=⟨H.var,by unfold hsJ;rw[if_neg (by rw[hg];decide)];exact H.row,H.turns⟩
theorem HJ.set {wr:World} {j gh oh ch:Nat} (H:HJ w T B M (.slice (some ⟨gh,oh,none⟩) m ch) m f hs j wr) (hj:j<m) (hg:(f j).gone=true):HJ w T B M (.slice (some ⟨gh,oh,none⟩) m ch) m f hs (j+1) (wr.setCell ⟨gh,oh+j,none⟩ (.int .i64 (-1))):=by
 obtain⟨o1,g1⟩:=H.row.stored j (.int .i64 (-1));have hne:gh≠T:=fun e=>H.row.unlike H.var (by decide) (by rw[e];rfl);refine⟨H.var.other (fun e=>hne e.symm) _,?_,H.turns.trans (.aU g1 (fun k hk=>hk)) (fun _ _ x=>x) (fun k _ hk=>by rw[←hk];rfl)⟩;unfold hsJ;rw[if_pos hg,show ints ((hsJ f hs j).set j (-1))=(ints (hsJ f hs j)).set j (.int .i64 (-1)) by unfold ints;rw[List.map_set]];exact o1
theorem HJ.done {wr:World} (H:HJ w T B M vh m f hs m wr) (hl:hs.length=m):oW wr T B M vh (hsJ f hs m):=⟨H.var,by rw[qI,hl];exact H.row⟩
end
end
section
open Go.RowKit
variable [mQ]
section
variable {w w3 w4 w5:World} {base bM T B M:Nat} {b s:Int} {vs vf aP vh vs' dw dP lV:Value} {n live m n' aY:Nat} {fr fr':List Nat} {av:Int→Tr.Sl} {f:Nat→RS} {hs:List Int} {g:Tr.G} {K:Nat}
theorem TW.made (H:TW w base bM T B M b s vs vf aP vh n live m fr av f hs g K) {h:Int} {x:RS} {sl:Tr.Sl} (hml:m<700) (hx:x.gone=false∧x.pa = -1∧x.kids=[]∧(x.kind=2∨x.kind=3∨x.kind=4)) (hxb:x.at'.length≤K+1+2∧x.data.size≤120*(K+1)∧bB.rep x.data.data.toList=x.data.data.toList)
  (hxn:uZ x) (hg0:g h=none) (hh0:h≠0) (hn':n'≤n+1)
  (yB:TV base w3 B b s vs' n' (Tr.raw (Tr.dK g h { jZ x with pa:=0 }) (Tr.fq av h sl)) dw fr' aY (hof hs 0)) (ES:Sound b s n' (Tr.raw (Tr.dK g h { jZ x with pa:=0 }) (Tr.fq av h sl)) fr' aY) (Gy:Tr.WF 0 (Tr.dK g h { jZ x with pa:=0 })) (LB:AR w3 0 sl.v x.at') (fF:aB w w3 (aD B vs vf) (aD B vs' dw))
  (mv4:MV bM w4 M dP (m+1) (gZ m f x)) (dJ:aB w3 w4 (aC M aP m f) (aC M dP (m+1) (gZ m f x)))
  (UR:oW w5 T B M lV (hs++[h])) (t5:Turns (fun k=>k=T∨vh.ownBlock=some k) w4 w5) (hv5:∀ k,lV.ownBlock=some k→vh.ownBlock=some k∨w4.heap.size≤k):
  TW w5 base bM T B M b s vs' dw dP lV n' aY (m+1) fr' (Tr.fq av h sl) (gZ m f x) (hs++[h]) (Tr.dK g h { jZ x with pa:=0 }) (K+1):=by
 obtain⟨a1,a2,a3,a4,a5⟩:=H.after fF;have Wt:∀ k,aD B vs' dw k→k<w3.heap.size:=fun k hk=>(yB.lt k hk).2;have hvl:∀ k,vh.ownBlock=some k→k<w3.heap.size:=fun k hk=>Nat.lt_of_lt_of_le (H.tw.row.lt k hk).2 fF.1.size;have X3:T<w3.heap.size:=a1.var.lt;have hFT:¬ aD B vs' dw T:=yB.aV a1.var (by decide) (by decide) (by decide);have hMT:¬ aC M dP (m+1) (gZ m f x) T:=fun hm=>H.K6.2 (dJ.2 T X3 hm);have Wu:∀ k,aD B vs' dw k→¬ aC M dP (m+1) (gZ m f x) k:=fun k hf hm=>a3 k hf (dJ.2 k (Wt k hf) hm);have JV:∀ k,vh.ownBlock=some k→¬ aD B vs' dw k∧¬ aC M dP (m+1) (gZ m f x) k:=fun k hk=>⟨a4 k hk,fun hm=>(H.zw k hk).2 (dJ.2 k (hvl k hk) hm)⟩
 have XA:∀ k,aD B vs' dw k→k<w4.heap.size:=fun k hk=>Nat.lt_of_lt_of_le (Wt k hk) dJ.1.size;have EP:∀ k,aC M dP (m+1) (gZ m f x) k→k<w4.heap.size:=fun k hk=>(mv4.lt k hk).2;have hold:∀ j,j<m→gZ m f x j=f j:=fun j hj=>dY hj;have hlen:(hs++[h]).length=m+1:=by rw[List.length_append,H.len];rfl
 have PO:hof (hs++[h]) 0=hof hs 0:=wK (by have:=H.len;have:=H.m0;omega);have tv5:TV base w5 B b s vs' n' (Tr.raw (Tr.dK g h { jZ x with pa:=0 }) (Tr.fq av h sl)) dw fr' aY (hof hs 0):=(yB.turns dJ.1 (fun k hk hm=>a3 k hk hm)).turns t5 (fun k hk hv=>hv.elim (fun e=>hFT (e▸hk)) (fun e=>(JV k e).1 hk));have aby:AT w3 (Tr.dK g h { jZ x with pa:=0 }) (Tr.fq av h sl):=fun y q e=>by
  by_cases hy:y=h
  ·subst hy;rw[Tr.bQ] at e;obtain rfl:=Option.some.inj e;rw[Tr.lG];exact LB
  ·rw[Tr.bZ hy] at e;rw[Tr.vC hy];exact H.at'.step H.tv fF y q e
 have Sm:=aby.LA a2 dJ;have hA:AT w5 (Tr.dK g h { jZ x with pa:=0 }) (Tr.fq av h sl):=Sm.turns t5 fun y q e k hk hv=>by
  have hr:=Sm y q e;rcases hv with e1 | e1
  ·exact TR.unlike hr (a1.var.turns dJ.1 H.K6.2) (by decide) (by rw[hk,e1])
  ·exact TR.ne hr (a1.row.turns dJ.1 fun k hk=>(H.zw k hk).2) (by decide) k hk e1
 refine⟨UR,by rw[PO];exact tv5,ES,hA,Gy,mv4.turns t5 (fun k hm hv=>hv.elim (fun e=>hMT (e▸hm)) (fun e=>(JV k e).2 hm)),?_,?_,hlen,by rw[hold 0 H.m0];exact H.g0,by omega,?_,by have:=H.nm;omega,Wu,?_,by rw[hold 0 H.m0];exact H.d0,?_,⟨((H.kp.1.trans (fF.1.below H.uV fun k hk=>Nat.le_trans H.kp.2.1 (H.tv.lt k hk).1)).trans (dJ.1.below (Nat.le_trans H.uV fF.1.size) fun k hk=>Nat.le_trans H.kp.2.2.1 (H.mv.lt k hk).1)).trans (t5.below (Nat.le_trans (Nat.le_trans H.uV fF.1.size) dJ.1.size) fun k hk=>by rcases hk with e | e;exact e▸H.kp.2.2.2.1;exact H.kp.2.2.2.2 k e),H.kp.2.1,H.kp.2.2.1,H.kp.2.2.2.1,fun k hk=>by rcases hv5 k hk with e | e;exact H.kp.2.2.2.2 k e;exact Nat.le_trans (Nat.le_trans (Nat.le_trans H.uV fF.1.size) dJ.1.size) e⟩,by omega,⟨H.ok.1.add H.wf hg0 hx.2.2.1,fun j hj=>?_⟩,((H.ks.a fF).m dJ).t t5 hv5⟩
 ·rw[Tv hx.1];refine H.im.add (fun y hy=>?_) ?_ (by omega) hg0 hh0 ?_ hx.2.1 hx.2.2.1
  ·rcases hy with rfl | hy
   ·rw[mF,mF]
   ·obtain⟨j,rfl,hj,-⟩:=jv hy;exact wK (by rw[H.len];omega)
  ·rw[jH,if_neg (fun h=>by omega)]
  ·rw[←H.len];exact Fz
 ·refine⟨by rw[hold 0 H.m0];exact H.km.1,fun j hj hj0=>?_⟩;by_cases e:j=m
  ·rw[e,dO];exact hx.2.2.2
  ·rw[hold j (by omega)];exact H.km.2 j (by omega) hj0
 ·intro j hj hgj;by_cases e:j=m
  ·rw[e,dO,hx.1] at hgj;cases hgj
  ·rw[hold j (by omega)] at hgj;rw[List.getElem?_append_left (by rw[H.len];omega)];exact H.gn j (by omega) hgj
 ·intro k hk;rcases hv5 k hk with e | e
  ·exact JV k e
  ·exact⟨fun hf=>by have:=XA k hf;omega,fun hm=>by have:=EP k hm;omega⟩
 ·intro j hj;by_cases e:j=m
  ·rw[e,dO];exact hxb
  ·rw[hold j (by omega)];have:=H.bd j (by omega);exact⟨by omega,by omega,this.2.2⟩
 ·by_cases e:j=m
  ·rw[e,dO];exact hxn
  ·rw[hold j (by omega)];exact H.ok.2 j (by omega)
end
end
section
open Go.RowKit
variable [mQ]
theorem MV.nf {bM M m:Nat} {w:World} {vs:Value} {f:Nat→RS} {k:Nat} {cs:Array Value} {t:TypeId} (hM:MV bM w M vs m f) (hX:Whole w k cs t) (h1:t≠72) (h2:75≠t) (h3:3≠t) (h4:96≠t):¬ aC M vs m f k:=by
 rintro (rfl | hx | ⟨i,hi,hx | hx⟩)
 ·exact hX.unlike hM.var h1 rfl
 ·exact bE hM.row hX h2 hx
 ·exact (hM.ar i hi).unlike hX h4 hx
 ·exact (hM.kr i hi).unlike hX h3 hx
theorem oW.pushed {w w1 w5:World} {T B M:Nat} {vh v5:Value} {hs:List Int} {h:Int} (H:oW w T B M vh hs) (h1:Below w.heap.size w w1) (g:w1.grownBy w5 vh.ownBlock) (o:TR w5 0 3 1 v5 (hs.length+1) (ints (hs++[h]))) (f:mP w1 vh v5):
  Whole w5 T #[.pointer (some ⟨B,0,none⟩),.pointer (some ⟨M,0,none⟩),vh] 41∧oW (w5.setCell ⟨T,2,none⟩ v5) T B M v5 (hs++[h])∧Turns (fun k=>k=T∨vh.ownBlock=some k) w (w5.setCell ⟨T,2,none⟩ v5)∧∀ k,v5.ownBlock=some k→vh.ownBlock=some k∨w.heap.size≤k:=by
 have k1:=(H.below h1).var;have k2:=(H.below h1).row;have hW:Whole w5 T #[.pointer (some ⟨B,0,none⟩),.pointer (some ⟨M,0,none⟩),vh] 41:=k1.grown g (fun e=>k2.unlike k1 (by decide) e.symm);have gp:w5.grownBy (w5.setCell ⟨T,2,none⟩ v5) (some T):=aJ (ay (Below.refl w5.heap.size w5) _) 2 v5;refine⟨hW,⟨hW.put 2 v5,?_⟩,?_,?_⟩
 ·have:=o.kept gp (.inr (o.unlike hW (by decide)));rw[List.length_append];exact this
 ·have a1:Turns (fun k=>k=T∨vh.ownBlock=some k) w w1:=.of_below h1;have a2:Turns (fun k=>k=T∨vh.ownBlock=some k) w1 w5:=.aU g (fun k hk=>.inr hk);have a3:Turns (fun k=>k=T∨vh.ownBlock=some k) w5 (w5.setCell ⟨T,2,none⟩ v5):=.aU gp (fun k hk=>.inl (by simpa using hk.symm));exact (a1.trans a2 (fun _ _ x=>x) (fun _ _ x=>x)).trans a3 (fun _ _ x=>x) (fun _ _ x=>x)
 ·intro k hk;rcases f with f | f
  ·exact .inl (f▸hk)
  ·exact .inr (Nat.le_trans h1.size (f k hk))
def abz (base bM T B M:Nat) (b s:Int) (vs vf aP vh:Value) (n live m:Nat) (fr:List Nat) (av:Int→Tr.Sl) (f:Nat→RS) (hs:List Int) (g:Tr.G) (K:Nat) (h E:Int) (V3:World) (e:Ending) (w4:World):Prop:=
 e=.returned (.int .i64 E)∧Turns (aC M aP m f) V3 w4∧((E=1∧h=0∧TW w4 base bM T B M b s vs vf aP vh n live m fr av f hs g (K+1))∨
  (E=0∧h≠0∧oW w4 T B M vh hs∧∀ (w5:World) (lV:Value),oW w5 T B M lV (hs++[h])→Turns (fun k=>k=T∨vh.ownBlock=some k) w4 w5→(∀ k,lV.ownBlock=some k→vh.ownBlock=some k∨w4.heap.size≤k)→
   ∃ (vs' dw dP:Value) (n' aY:Nat) (fr':List Nat) (iK:Int→Tr.Sl) (f':Nat→RS) (g':Tr.G),TW w5 base bM T B M b s vs' dw dP lV n' aY (m+1) fr' iK f' (hs++[h]) g' (K+1)))
def Z5 (base bM T B M:Nat) (b s:Int) (vs vf aP vh:Value) (n live m:Nat) (fr:List Nat) (av:Int→Tr.Sl) (f:Nat→RS) (hs:List Int) (g:Tr.G) (K:Nat) (kd:Int) (nm dt:ByteArray) (vP:Value) (w:World) (e:Ending) (w3:World):Prop:=
 ∃ (h E:Int),e=.returned (.tuple #[.int .i64 h,.int .i64 E])∧((E=1∧h=0)∨(E=0∧h≠0))∧Turns (aD B vs vf) w w3∧oW w3 T B M vh hs∧
  ∀ V3,Below w3.heap.size w3 V3→Calls Tryz.prog 31 #[.pointer (some ⟨M,0,none⟩),.int .i64 kd,.string nm,.string dt,vP] V3 (abz base bM T B M b s vs vf aP vh n live m fr av f hs g K h E V3)
variable {w:World} {base bM T B M:Nat} {b s:Int} {vs vf aP vh:Value} {n live m:Nat} {fr:List Nat} {av:Int→Tr.Sl} {f:Nat→RS} {hs:List Int} {g:Tr.G} {K:Nat}
theorem TW.KG (H:TW w base bM T B M b s vs vf aP vh n live m fr av f hs g K) {kd:Int} {nm dt:ByteArray} {vP:Value} {w3:World} {h:Int} {vs' dw:Value} {n':Nat} {fr':List Nat} {sl:Tr.Sl} {x:RS}
  (hml:m<700) (hx:x.gone=false∧x.pa = -1∧x.kids=[]∧(x.kind=2∨x.kind=3∨x.kind=4)) (hxb:x.at'.length≤K+1+2∧x.data.size≤120*(K+1)∧bB.rep x.data.data.toList=x.data.data.toList) (hxn:uZ x) (hn':n'≤n+1) (hg0:g h=none) (hh0:h≠0)
  (yB:TV base w3 B b s vs' n' (Tr.raw (Tr.dK g h { jZ x with pa:=0 }) (Tr.fq av h sl)) dw fr' (live+1) (hof hs 0)) (ES:Sound b s n' (Tr.raw (Tr.dK g h { jZ x with pa:=0 }) (Tr.fq av h sl)) fr' (live+1)) (Gy:Tr.WF 0 (Tr.dK g h { jZ x with pa:=0 })) (LB:AR w3 0 sl.v x.at') (fF:aB w w3 (aD B vs vf) (aD B vs' dw))
  (hR:∀ V3,MV bM V3 M aP m f→bM≤V3.heap.size→Below w3.heap.size w3 V3→Calls Tryz.prog 31 #[.pointer (some ⟨M,0,none⟩),.int .i64 kd,.string nm,.string dt,vP] V3 fun e w'=>∃ (vs':Value) (sl':Tr.Sl),e=.returned (.int .i64 0)∧MV bM w' M vs' (m+1) (gZ m f { x with a:=sl' })∧aB V3 w' (aC M aP m f) (aC M vs' (m+1) (gZ m f { x with a:=sl' }))):
  Z5 base bM T B M b s vs vf aP vh n live m fr av f hs g K kd nm dt vP w (.returned (.tuple #[.int .i64 h,.int .i64 0])) w3:=by
 obtain⟨a1,a2,-,-,-⟩:=H.after fF;refine⟨h,0,rfl,.inr ⟨rfl,hh0⟩,fF.1,a1,fun V3 hb=>?_⟩;have hmv:=a2.below hb;refine (hR V3 hmv (by have:=hmv.low;have:=hmv.var.lt;omega) hb).mono ?_;rintro e w4 ⟨dP,sl',rfl,mv4,dJ⟩;refine⟨rfl,dJ.1,.inr ⟨rfl,hh0,?_,fun w5 lV h5 t5 hv5=>⟨vs',dw,dP,n',live+1,fr',_,_,_,H.made (x:={ x with a:=sl' }) hml hx hxb (hxn.same rfl rfl rfl) hg0 hh0 hn' (yB.below hb) ES Gy (LB.below hb) (fF.trans (.of_below hb)) mv4 dJ h5 t5 hv5⟩⟩⟩;have H3:=a1.below hb;have hvl:∀ k,vh.ownBlock=some k→¬ aC M aP m f k:=fun k hk=>(H.zw k hk).2;exact⟨H3.var.turns dJ.1 H.K6.2,H3.row.turns dJ.1 hvl⟩
theorem Ei (H:TW w base bM T B M b s vs vf aP vh n live m fr av f hs g K) (hm:m≤300) (hT:Lit w) (kd:Int) (hkd:kd=2∨kd=3∨kd=4) (nm dt:ByteArray) (hnm:nm.size≤40) (hdt:dt.size≤40) (l:List (ByteArray×ByteArray)) (hl:l.length≤2) (hvs:∀ p∈l,p.1.size≤40∧p.2.size≤40)
  (A0:Option Addr) (c0:Nat) (hA:AR w 0 (.slice A0 l.length c0) l) (aA:Option Addr) (cA:Nat) (hP:TR w 0 96 2 (.slice aA l.length cA) l.length (fP l)):
  Calls Tryz.prog 30 #[.pointer (some ⟨B,0,none⟩),.int .i64 kd,.string nm,.string dt,.slice A0 l.length c0] w (Z5 base bM T B M b s vs vf aP vh n live m fr av f hs g K kd nm dt (.slice aA l.length cA) w):=by
 have hbase:base≤w.heap.size:=by have:=H.tv.low;have:=H.tv.var.lt;omega
 have hn:=H.nm;have hlv:live<20000:=by have:=H.so.count;omega
 have hn1:n<100000:=by omega
 have hPF:∀ k,Value.ownBlock (.slice aA l.length cA)=some k→¬ aD B vs vf k:=by
  rintro k hk (rfl | hx | hx)
  ·exact hP.unlike H.tv.var (by decide) hk
  ·exact dN hP H.tv.row (by decide) k hx hk
  ·exact dN hP H.tv.free (by decide) k hx hk
 have Yo:(aZ dt).size≤120*(K+1)∧bB.rep (aZ dt).data.toList=(aZ dt).data.toList:=by
  have h1:=bB.mV dt.data.toList;have h2:(aZ dt).size=(bB.rep dt.data.toList).length:=ko _;have h3:dt.data.toList.length=dt.size:=rfl;refine⟨by omega,?_⟩;unfold aZ;rw[Dk];exact bB.Lu _
 have TQ:∀ p∈l,p.1.size≤20000∧p.2.size≤6000:=fun p hp=>⟨by have:=(hvs p hp).1;omega,by have:=(hvs p hp).2;omega⟩
 have Z6:∀ p∈l,p.1.size≤10000∧p.2.size≤6000:=fun p hp=>⟨by have:=(hvs p hp).1;omega,by have:=(hvs p hp).2;omega⟩
 rcases hkd with rfl | rfl | rfl
 ·cases hok:Nm.attrs l && Nm.elem nm with
  | false=>
   refine (MZ base B b s (hof hs 0) live n g av fr vs vf nm dt _ l w H.tv H.so H.wf hbase hn1 hlv hA (by omega) TQ (by omega) hok hT).mono ?_;rintro e w3 ⟨rfl,hb3⟩;have H3:=H.below hb3;refine⟨0,1,rfl,.inl ⟨rfl,rfl⟩,.of_below hb3,H3.tw,fun V3 hb=>?_⟩;have H5:=H3.below hb;have hP5:=(hP.below hb3).below hb;cases he:Nm.elem nm with
   | false=>
    refine (KE M _ nm dt V3 (by omega) he).mono ?_;rintro e w4 ⟨rfl,hb4⟩;exact⟨rfl,.of_below hb4,.inl ⟨rfl,rfl,(H5.below hb4).up⟩⟩
   | true=>
    refine (yw bM M m aP aA cA l f nm dt V3 H5.mv hP5 he (by have:=H5.mv.low;have:=H5.mv.var.lt;omega) (by omega) (by omega) (by omega) Z6).mono ?_;rintro e w4 (⟨-,rfl,hb4⟩ | ⟨h1,-⟩)
    ·exact⟨rfl,.of_below hb4,.inl ⟨rfl,rfl,(H5.below hb4).up⟩⟩
    ·rw[h1,he] at hok;cases hok
  | true=>
   refine (Jz base B b s (hof hs 0) live n g av fr vs vf nm dt _ l w H.tv H.so H.wf hbase hn1 hlv hA (by omega) TQ (by omega) hok hT).mono ?_;rintro e w3 ⟨h,vs',dw,n',fr',sl,rfl,hn',hg0,hh0,yB,ES,Gy,LB,fF⟩;have ha:Nm.attrs l=true∧Nm.elem nm=true:=by rw[Bool.and_eq_true] at hok;exact hok
   refine H.KG (x:=⟨2,nm,⟨none,0,0⟩,l.map fT,⟨#[]⟩,-1,⟨none,0,0⟩,[],false⟩) (by omega) ⟨rfl,rfl,rfl,.inl rfl⟩ ⟨by rw[List.length_map];omega,by show 0≤_;omega,bB.tN⟩ ⟨fun _=>by rw[Bool.and_eq_true];exact⟨by show Nm.attrs (l.map fT)=true;rw[wX];exact ha.1,ha.2⟩,fun h=>absurd rfl h,by show nm.size≤_;omega,fun p hp=>by obtain⟨q,hq,rfl⟩:=List.mem_map.1 hp;exact⟨(TQ q hq).1,kg (TQ q hq).2⟩⟩ hn' hg0 hh0 yB ES Gy LB fF fun V3 hv hb hbl=>?_;have hP5:=(hP.turns fF.1 hPF).below hbl;refine (yw bM M m aP aA cA l f nm dt V3 hv hP5 ha.2 hb (by omega) (by omega) (by omega) Z6).mono ?_;rintro e w4 (⟨h1,-⟩ | ⟨-,O4,Oy,rfl,mv4,dJ⟩)
   ·rw[ha.1] at h1;cases h1
   ·exact⟨O4,Oy,rfl,mv4,dJ⟩
 ·refine (JA base B b s (hof hs 0) live n g av fr vs vf nm dt _ _ _ w H.tv H.so H.wf hbase hn1 hlv (by omega) hT).mono ?_;rintro e w3 ⟨h,vs',dw,n',fr',sl,rfl,hn',hg0,hh0,yB,ES,Gy,LB,fF⟩;refine H.KG (x:=⟨3,⟨#[]⟩,⟨none,0,0⟩,[],aZ dt,-1,⟨none,0,0⟩,[],false⟩) (by omega) ⟨rfl,rfl,rfl,.inr (.inl rfl)⟩ ⟨by show 0≤_;omega,Yo.1,Yo.2⟩ ⟨fun h=>absurd (show (3:Int)=2 from h) (by decide),fun _=>rfl,Nat.zero_le _,fun p hp=>absurd hp (List.not_mem_nil)⟩ hn' hg0 hh0 yB ES Gy LB fF fun V3 hv hb _=>?_;refine (BO bM M m aP _ f 3 nm dt V3 hv (by decide) hb (by omega) (by omega)).mono ?_;rintro e w4 ⟨O4,rfl,mv4,dJ⟩;exact⟨O4,⟨none,0,0⟩,rfl,mv4,dJ⟩
 ·refine (Cq base B b s (hof hs 0) live n g av fr vs vf nm dt _ _ _ w H.tv H.so H.wf hbase hn1 hlv (by omega) hT).mono ?_;rintro e w3 ⟨h,vs',dw,n',fr',sl,rfl,hn',hg0,hh0,yB,ES,Gy,LB,fF⟩;refine H.KG (x:=⟨4,⟨#[]⟩,⟨none,0,0⟩,[],aZ dt,-1,⟨none,0,0⟩,[],false⟩) (by omega) ⟨rfl,rfl,rfl,.inr (.inr rfl)⟩ ⟨by show 0≤_;omega,Yo.1,Yo.2⟩ ⟨fun h=>absurd (show (4:Int)=2 from h) (by decide),fun _=>rfl,Nat.zero_le _,fun p hp=>absurd hp (List.not_mem_nil)⟩ hn' hg0 hh0 yB ES Gy LB fF fun V3 hv hb _=>?_;refine (BO bM M m aP _ f 4 nm dt V3 hv (by decide) hb (by omega) (by omega)).mono ?_;rintro e w4 ⟨O4,rfl,mv4,dJ⟩;exact⟨O4,⟨none,0,0⟩,rfl,mv4,dJ⟩
end
section
open Go.RowKit
theorem KH (base M m:Nat) (vs:Value) (f:Nat→RS) (i:Nat) (nm:ByteArray) (w:World) (h:MV base w M vs m f) (hi:i<m) (hk:(f i).kind≠2):
  Calls Tryz.prog 40 #[.pointer (some ⟨M,0,none⟩),.int .i64 (i:Int),.string nm] w fun e w'=>e=.returned (nW 10)∧w'=w:=by
 obtain⟨A,c,rfl⟩:=h.form;obtain⟨g,rfl,-⟩:=h.read hi;obtain⟨k0,c0,_⟩:=h.rd hi;have q1:(0:Int)≤(i:Int):=by omega
 have q2:(i:Int)<(m:Int):=by omega
 have q3:=bne_true hk;clear h hk
 go_enter Tryz.func40,Tryz.ntmps40
 go_wp2_with fail;go_ret2;exact⟨rfl,rfl⟩
theorem Iw (base M m:Nat) (vs:Value) (f:Nat→RS) (i:Nat) (nm:ByteArray) (w:World) (h:MV base w M vs m f) (hi:i<m) (hm:m≤100000) (hk:(f i).kind=2) (hl:(f i).at'.length≤1000) (hcase:¬ oZ (f i).at' nm<(f i).at'.length):
  Calls Tryz.prog 40 #[.pointer (some ⟨M,0,none⟩),.int .i64 (i:Int),.string nm] w fun e w'=>e=.returned (nW 0)∧w'=w:=by
 have hF:=tH base M m vs f i nm w h hi hm hl;have hai:yO (f i).at' nm = -1:=by unfold yO;rw[if_neg hcase]
 rw[hai] at hF;obtain⟨A,c,rfl⟩:=h.form;obtain⟨g,rfl,-⟩:=h.read hi;obtain⟨k0,c0,_⟩:=h.rd hi;rw[hk] at c0;have q1:(0:Int)≤(i:Int):=by omega
 have q2:(i:Int)<(m:Int):=by omega
 have HF:=zh hF;clear h hk hF hcase hai
 go_enter Tryz.func40,Tryz.ntmps40
 go_wp2_with fail;refine HF.out.mono ?_;rintro e w1 ⟨rfl,hw1⟩;obtain rfl:=hw1.symm;go_wp2_with fail;go_ret2;exact⟨rfl,rfl⟩
theorem Iy (base M m:Nat) (vs:Value) (f:Nat→RS) (i:Nat) (nm:ByteArray) (w:World) (h:MV base w M vs m f) (hi:i<m) (hm:m≤100000) (hk:(f i).kind=2) (hl:(f i).at'.length≤1000) (hcase:oZ (f i).at' nm<(f i).at'.length):
  Calls Tryz.prog 40 #[.pointer (some ⟨M,0,none⟩),.int .i64 (i:Int),.string nm] w fun e w'=>∃ r sl,e=.returned (.tuple #[r,.int .i64 0])∧jN w.heap.size w' r [fK i nm (lD (f i).at' nm) true]∧
   MV base w' M vs m (aX f i fun n=>{ n with a:=sl,at':=jY (f i).at' nm })∧aB w w' (aC M vs m f) (aC M vs m (aX f i fun n=>{ n with a:=sl,at':=jY (f i).at' nm })):=by
 obtain⟨i0,hi0,hz0,hz1,hz2⟩:=info_parts pQ;have hF:=tH base M m vs f i nm w h hi hm hl;obtain⟨l1,p,l2,hL,hd1⟩:∃ l1 p l2,(f i).at'=l1++p::l2∧l1.length=oZ (f i).at' nm:=by
  refine⟨(f i).at'.take (oZ (f i).at' nm),(f i).at'[oZ (f i).at' nm],(f i).at'.drop (oZ (f i).at' nm+1),?_,by rw[List.length_take];omega⟩;rw[←List.drop_eq_getElem_cons hcase,List.take_append_drop]
 obtain⟨d,hd⟩:=eX (l1.length)
 obtain⟨b,hb⟩:=eX (l2.length)
 have hai:yO (f i).at' nm=(d:Int):=by unfold yO;rw[if_pos hcase,←hd1,hd]
 have hget:(f i).at'[d]?=some p:=by rw[hL,←hd];simp
 have hdrop:jY (f i).at' nm=l1++l2:=by unfold jY;rw[←hd1,hL,List.eraseIdx_append_of_length_le (Nat.le_refl _),Nat.sub_self];rfl
 have hold:lD (f i).at' nm=p.2:=by unfold lD;rw[←hd1,hd,hget]
 have hlen:(f i).at'.length=d+1+b:=by rw[hL,List.length_append,List.length_cons];omega
 rw[hai] at hF;obtain⟨A,c,rfl⟩:=h.form;obtain⟨g,rfl,-⟩:=h.read hi;obtain⟨k0,c0,_,c2,_⟩:=h.rd hi;rw[hk] at c0;obtain⟨ga,oa,hA,a1,a2⟩:=h.attr hi hget;obtain⟨cp,hcp⟩:=eX ((f i).a.c)
 have hv:(f i).a.v=.slice (some ⟨ga,oa,none⟩) (d+1+b) cp:=by unfold Tr.Sl.v;rw[h.an hi,hlen,hA,hcp]
 rw[hlen,hA,hcp] at c2;have q1:(0:Int)≤(i:Int):=by omega
 have q2:(i:Int)<(m:Int):=by omega
 have hr0:=h.ar i hi;rw[hv,hlen,hL] at hr0;have hcap:=hr0.le;have VO:=zh (fun (W:World) (hb':Below w.heap.size w W)=>(hr0.below hb').OJ hd hb);have HF:=zh hF;have HM:=zh (fun (W:World) (hb:Below w.heap.size w W)=>h.below hb);have hgl:g<w.heap.size:=(h.row.lt g rfl).2;have hMb:base≤w.heap.size:=by have:=h.low;have:=h.var.lt;omega
 have HDR:=zh (And.intro hdrop (And.intro hold (And.intro hd (And.intro hb hv))));rw[hlen] at hl;obtain⟨w3,hw3⟩:=eX (w.alloc (.cells #[.int .i64 0,.int .i64 0,.int .i64 0,.int .i64 0,.int .i64 0,.int .i64 0,.string ⟨#[]⟩,.string ⟨#[]⟩,.bool false,.int .i64 0,.int .i64 0] 147))
 have hb3:Below w.heap.size w w3:=fI hw3;have aW:Whole w3 w.heap.size #[.int .i64 0,.int .i64 0,.int .i64 0,.int .i64 0,.int .i64 0,.int .i64 0,.string ⟨#[]⟩,.string ⟨#[]⟩,.bool false,.int .i64 0,.int .i64 0] 147:=by rw[←hw3];exact Whole.new w _ _
 have y0:w3.cell? ⟨w.heap.size,0,none⟩=some (.int .i64 0):=aW.cell 0;have yZ:=aW.free 0;have y1:w3.cell? ⟨w.heap.size,1,none⟩=some (.int .i64 0):=aW.cell 1;have za:=aW.free 1;have y2:w3.cell? ⟨w.heap.size,2,none⟩=some (.int .i64 0):=aW.cell 2;have CZ:=aW.free 2;have y3:w3.cell? ⟨w.heap.size,3,none⟩=some (.int .i64 0):=aW.cell 3;have C8:=aW.free 3;have y4:w3.cell? ⟨w.heap.size,4,none⟩=some (.int .i64 0):=aW.cell 4;have C9:=aW.free 4;have y5:w3.cell? ⟨w.heap.size,5,none⟩=some (.int .i64 0):=aW.cell 5;have Da:=aW.free 5;have y6:w3.cell? ⟨w.heap.size,6,none⟩=some (.string ⟨#[]⟩):=aW.cell 6;have Db:=aW.free 6;have y7:w3.cell? ⟨w.heap.size,7,none⟩=some (.string ⟨#[]⟩):=aW.cell 7;have Dc:=aW.free 7;have y8:w3.cell? ⟨w.heap.size,8,none⟩=some (.bool false):=aW.cell 8;have Df:=aW.free 8;have y9:w3.cell? ⟨w.heap.size,9,none⟩=some (.int .i64 0):=aW.cell 9;have FN:=aW.free 9;have wT:w3.cell? ⟨w.heap.size,10,none⟩=some (.int .i64 0):=aW.cell 10;have qZ:=aW.free 10;obtain⟨w4,hw4,bI,g4⟩:=kJ aW (.int .i64 3) (.int .i64 (i:Int)) (.int .i64 (-1)) (.int .i64 (-1)) (.int .i64 (-1)) (.int .i64 0) (.string nm) (.string p.2) (.bool true) (.int .i64 0) (.int .i64 0);have bU:Below w.heap.size w w4:=hb3.grown g4 hb3.size (fun j hj=>by simp at hj;omega);have uK:Below w.heap.size w w4.drew:=bU.trans ((bf _ w4).mono bU.size);have hs4:w.heap.size<w4.heap.size:=bI.lt;obtain⟨w5,fE⟩:=eX (w4.drew.alloc (.cells #[] 96))
 have eZ:Below w4.heap.size w4 w5:=by rw[←fE];exact (bf _ w4).alloc (Nat.le_refl _) _
 have dX:=bU.trans (eZ.mono bU.size);have dM:=bI.below eZ bI.lt;have Lp:=zh ((HM.out _ uK).rd hi).1;have JI:=zh ((HM.out _ dX).rd hi).1;have Pn:=eZ.size;have e5:TR w5 w4.heap.size 96 2 (.slice (some ⟨w4.heap.size,0,none⟩) 0 0) 0 []:=by rw[←fE];exact nK w4.drew 96 2
 have s1:=(VO.out w5 dX).1.source;have hya:=(VO.out w5 dX).1.1;have hyb:=(VO.out w5 dX).2.1;have iJ:=zh dM;have JJ:=zh eZ;have yT:=zh bU;have p0:(0:Int)≤(d:Int):=by omega
 have p1:(d:Int)<(d:Int)+1+(b:Int):=by omega
 have p1b:(d:Int)<((d+1+b:Nat):Int):=by omega
 have hdc:(d:Int)≤(cp:Int):=by omega
 have hi2:(d:Int)+1≤((d+1+b:Nat):Int):=by omega
 have hi3:(0:Int)≤(d:Int)+1:=by omega
 have Yb:(d:Int)+1≤(d:Int)+1+(b:Int):=by omega
 have ht1':((d:Int)+1).toNat=d+1:=by omega
 have hs2:IntKind.i64.wrap ((d:Int)+1)=(d:Int)+1:=by rw[IntKind.wrap_i64];omega
 have p4:¬ (d:Int)<0:=by omega
 clear h hk hF hcase hai aW bI dM g4 hb3 bU uK eZ dX hL hd1 hget hdrop hold hlen hv hcp hA hd hb hr0
 go_enter Tryz.func40,Tryz.ntmps40
 go_wp2_with fail;refine HF.out.mono ?_;rintro e w1 ⟨rfl,hw1⟩;obtain rfl:=hw1.symm;go_wp2_with fail;(try rw[hw4]);go_wp2_with fail;refine wp_region_noPanic ?_;refine wp_region_held_drew (S:=(fun W=>W.cell? ⟨M,0,none⟩=some (.slice (some ⟨g,0,none⟩) m c))) (by kernel_rfl) ?_ (fun ah=>?_)
 ·exact Lp.out
 refine bn [0,1,2,3,4,6,7,8,10,11,12,13] ?_;iterate 12 (refine jf ?_;try simp only[pS])
 refine bq ?_;refine bG 5 fun K hK=>?_;go_simp;(try rw[fE]);refine hK.out _ _ (JI.out) fun ah=>?_;clear hK K;(try simp only[pS]);refine bG 9 fun K hK=>?_;refine aQ rfl _ _ 73 rfl w4.heap.size 96 i0 (.agg #[.string ⟨#[]⟩,.string ⟨#[]⟩]) 2 32 Tryz.underlying73 hi0 hz0 hz1 hz2 rfl (by decide) _ 0 [] rfl e5 _ d (fP l1) rfl hya s1 (jl _) ?c4 ?c5 Pn ?_
 case c4=>unfold maxLen;omega
 case c5=>omega
 intro v7 w7 o7 Ak f7;have g7:w5.grownBy w7 (Value.slice (some ⟨w4.heap.size,0,none⟩) 0 0).ownBlock:=Ak;clear Ak;(try simp only[Nat.zero_add,List.nil_append] at o7);obtain⟨A7,c7,rfl⟩:=o7.form;have Au:Below w4.heap.size w4 w7:=JJ.out.grown g7 JJ.out.size (fun j hj=>by simp[Value.ownBlock] at hj;omega);have lq:=yT.out.trans (Au.mono yT.out.size);have qM:=HM.out w7 lq;have s2:=(VO.out w7 lq).2.source;have VP:=Au.size;have aL:=iJ.out.grown g7 (fun e=>by simp[Value.ownBlock] at e;omega);refine hK.out _ _ ((qM.rd hi).1) fun ah=>?_;clear hK K;(try simp only[pS]);refine bG 14 fun K hK=>?_;refine aQ rfl _ _ 73 rfl w4.heap.size 96 i0 (.agg #[.string ⟨#[]⟩,.string ⟨#[]⟩]) 2 32 Tryz.underlying73 hi0 hz0 hz1 hz2 rfl (by decide) _ d (fP l1) rfl o7 _ b (fP l2) rfl hyb s2 (jl _) ?c4 ?c5 VP ?_
 case c4=>unfold maxLen;omega
 case c5=>omega
 intro v8 w8 o8 g8 f8;rw[←jT] at o8;have hb48:Below w4.heap.size w4 w8:=Au.grown g8 Au.size (fun j hj=>(o7.lt j hj).1);have mX:=yT.out.trans (hb48.mono yT.out.size);have Sb:=HM.out w8 mX;obtain⟨A8,c8,rfl⟩:=o8.form;have YQ:(l1++l2).length=d+b:=by rw[List.length_append,HDR.out.2.2.1,HDR.out.2.2.2.1]
 obtain⟨_,fz,hcells,uf,xX⟩:=(HM.out w4 yT.out).nC (sl:=⟨A8,d+b,c8⟩) (l':=l1++l2) hi (Below.refl _ w4) (ay hb48 _) (by rw[YQ];exact o8.lower (by have:=yT.out.size;omega)) (.inr fun k hk=>(o8.lt k hk).1);have hpc:=hcells i 2 hi (by omega);rw[show (qO (f i))[2]?=some ((f i).a.v) from rfl,HDR.out.2.2.2.2] at hpc;have xu:=aL.grown g8 (fun e=>by have:=(o7.lt _ e.symm).1;omega);obtain⟨w9,wO⟩:=eX (w8.setCell ⟨g,i*7+2,none⟩ (.slice A8 (d+b) c8))
 rw[show (Tr.Sl.v ⟨A8,d+b,c8⟩)=.slice A8 (d+b) c8 from rfl,wO] at uf xX;have gg:w8.grownBy w9 (some g):=by rw[←wO];exact aJ (ay (Below.refl w8.heap.size w8) _) _ _
 have gN:=xu.grown gg (fun e=>by injection e with e;omega);have Y6:=(uf.rd hi).1;have hS8:=(Sb.rd hi).1;rw[←HDR.out.1] at uf xX;have XM:w.heap.size≤w9.heap.size:=by have:=gg.size;have:=mX.size;omega
 have qh:=(Below.refl _ w9).alloc (Nat.le_refl _) (.cells #[.int .i64 3,.int .i64 (i:Int),.int .i64 (-1),.int .i64 (-1),.int .i64 (-1),.int .i64 0,.string nm,.string p.2,.bool true,.int .i64 0,.int .i64 0] 147);have bC:=zh (And.intro (nP w9 (fK i nm p.2 true) w.heap.size XM) (And.intro (uf.below qh) (((aB.of_below yT.out).trans xX).trans (.of_below qh))));have zc0:w9.cell? ⟨w.heap.size,0,none⟩=some (.int .i64 3):=gN.cell 0;have ab4:=gN.free 0;have zc1:w9.cell? ⟨w.heap.size,1,none⟩=some (.int .i64 (i:Int)):=gN.cell 1;have ab5:=gN.free 1;have zc2:w9.cell? ⟨w.heap.size,2,none⟩=some (.int .i64 (-1)):=gN.cell 2;have ab6:=gN.free 2;have zc3:w9.cell? ⟨w.heap.size,3,none⟩=some (.int .i64 (-1)):=gN.cell 3;have ab7:=gN.free 3;have zc4:w9.cell? ⟨w.heap.size,4,none⟩=some (.int .i64 (-1)):=gN.cell 4;have ab8:=gN.free 4;have zc5:w9.cell? ⟨w.heap.size,5,none⟩=some (.int .i64 0):=gN.cell 5;have ab9:=gN.free 5;have zc6:w9.cell? ⟨w.heap.size,6,none⟩=some (.string nm):=gN.cell 6;have acd:=gN.free 6;have zc7:w9.cell? ⟨w.heap.size,7,none⟩=some (.string p.2):=gN.cell 7;have ace:=gN.free 7;have zc8:w9.cell? ⟨w.heap.size,8,none⟩=some (.bool true):=gN.cell 8;have acf:=gN.free 8;have zc9:w9.cell? ⟨w.heap.size,9,none⟩=some (.int .i64 0):=gN.cell 9;have acg:=gN.free 9;have ach:w9.cell? ⟨w.heap.size,10,none⟩=some (.int .i64 0):=gN.cell 10;have abI:=gN.free 10;clear uf xX qh gN xu aL hcells gg hb48 Au lq mX qM Sb o7 o8 g8 f7 f8 g7 s2 YQ XM;refine hK.out _ _ (hS8) fun ah=>?_;clear hK K;(try simp only[pS]);refine bn [15,16] ?_;iterate 2 (refine jf ?_;try simp only[pS])
 refine bq ?_;refine bG 17 fun K hK=>?_;go_simp;(try rw[wO]);refine hK.out _ _ (Y6) fun ah=>?_;clear hK K;(try simp only[pS]);refine eY ?_;go_wp2_with fail;all_goals go_ret2
 all_goals
  obtain⟨z1,z2,z3⟩:=bC.out
  first
   | (refine⟨_,⟨A8,d+b,c8⟩,rfl,?_,z2,z3⟩;rw[HDR.out.2.1];exact z1)
   | (refine⟨_,rfl,?_,⟨A8,d+b,c8⟩,z2,z3⟩;rw[HDR.out.2.1];exact z1)
end
section
open Go.RowKit
variable [mQ]
theorem Tr.Rf {g:Tr.G} {h x:Int} {q:Tr.GN} (e:Tr.dG g h x=some q):∃ y,g x=some y∧y.attrs=q.attrs:=by
 unfold Tr.dG at e
 split at e
 ·exact⟨q,e,rfl⟩
 ·unfold Tr.iU at e
  split at e
  ·rename_i hx;subst hx;cases e2:g x with
   | none=>rw[e2] at e;cases e
   | some y=>rw[e2] at e;obtain rfl:=Option.some.inj e;exact⟨y,rfl,rfl⟩
  ·split at e
   ·cases e2:g x with
    | none=>rw[e2] at e;cases e
    | some y=>rw[e2] at e;obtain rfl:=Option.some.inj e;exact⟨y,rfl,rfl⟩
   ·exact⟨q,e,rfl⟩
theorem Tr.Rh {g:Tr.G} {p h c x:Int} {q:Tr.GN} (e:Tr.bO g p h c x=some q):∃ y,g x=some y∧y.attrs=q.attrs:=by
 unfold Tr.bO at e
 split at e
 ·rename_i hx;subst hx;cases e2:g x with
  | none=>rw[e2] at e;cases e
  | some y=>rw[e2] at e;obtain rfl:=Option.some.inj e;exact⟨y,rfl,rfl⟩
 ·split at e
  ·rename_i hx;subst hx;cases e2:g x with
   | none=>rw[e2] at e;cases e
   | some y=>rw[e2] at e;obtain rfl:=Option.some.inj e;exact⟨y,rfl,rfl⟩
  ·exact⟨q,e,rfl⟩
theorem Ri {a:Tr.G} {p i c x:Int} (hx:x≠i):(Tr.lu a p i c x).map (·.pa)=(a x).map (·.pa):=by
 unfold Tr.lu;rw[if_neg hx]
 split
 ·rename_i e;subst e;cases a x<;>rfl
 ·rfl
theorem Rj {a:Tr.G} {i x:Int} (hx:x≠i):(dz a i x).map (·.pa)=(a x).map (·.pa):=by
 unfold dz
 split
 ·rfl
 ·unfold Tr.uh;rw[if_neg hx]
  split
  ·cases a x<;>rfl
  ·rfl
theorem FD {m:Nat} {f2:Nat→RS} {l:List Int} {p i:Nat} {c:Int} (hk:(f2 p).kids=Tr.iD l c (i:Int)) (hx:(i:Int)∉l) (hl:(-1:Int)∉l) (hc:c = -1∨c∈l):jD l p i c=kK m f2 1 i p:=by
 unfold kK;rw[hk];rcases hc with rfl | hc
 ·have q1:=su l [];have q2:=BM l [];rw[List.append_nil] at q1 q2;rw[Tr.vE hl,Aw l p i rfl,Tr.dU hx,wI,su,q1,q2]
 ·have hc1:c ≠ -1:=fun e=>hl (e▸hc);obtain⟨l1,l2,rfl,hn⟩:∃ l1 l2,l=l1++c::l2∧c∉l1:=List.eq_append_cons_of_mem hc;have hx1:(i:Int)∉l1:=fun h=>hx (by simp[h]);rw[Tr.uS hn,DC _ p i hc1 rfl,Tr.dU hn,Tr.dU hx1,wI,su,su,BM]
variable {w w3 w4:World} {base bM T B M:Nat} {b s:Int} {vs vf aP vh:Value} {n live m:Nat} {fr:List Nat} {av:Int→Tr.Sl} {f f2:Nat→RS} {hs:List Int} {g:Tr.G} {K:Nat}
theorem TW.zK (H:TW w base bM T B M b s vs vf aP vh n live m fr av f hs g K) {i:Nat} (hi:i<m) (hg:(f i).gone=false):Tr.Im (hof hs) (dz (mg m f) (i:Int)) (Tr.dG g (hof hs (i:Int))):=by
 have ei:=aM hi hg;have eg:=H.dx hi hg;have hpa:Tr.dI g (hof hs (i:Int))=hof hs (f i).pa:=Tr.aO eg;have hpm:Tr.dI (mg m f) (i:Int)=(f i).pa:=Tr.aO ei;by_cases h1:(f i).pa = -1
 ·have e1:dz (mg m f) (i:Int)=mg m f:=by unfold dz;rw[if_pos (hpm.trans h1)]
  have e2:Tr.dG g (hof hs (i:Int))=g:=by unfold Tr.dG;rw[if_pos (by rw[hpa,h1];exact H.im.zero)]
  rw[e1,e2];exact H.im
 ·have hl:(mg m f (f i).pa).isSome:=(H.im.pa _ _ ei).resolve_left h1;have e1:dz (mg m f) (i:Int)=Tr.uh (mg m f) (i:Int):=by unfold dz;rw[if_neg (by rw[hpm];exact h1)]
  have e2:Tr.dG g (hof hs (i:Int))=Tr.iU g (hof hs (i:Int)):=by unfold Tr.dG;rw[if_neg (by rw[hpa];exact H.im.nz _ hl)]
  rw[e1,e2];exact H.im.cut H.wf ei h1
theorem TW.linked (H:TW w base bM T B M b s vs vf aP vh n live m fr av f hs g K) {i p:Nat} {c':Int} {f2:Nat→RS} {q1:Tr.GN} (hi:i<m) (hg:(f i).gone=false) (hpm:p<m) (hpg:(f p).gone=false) (hpi:p≠i) (i0:i≠0)
  (hu:hof hs (i:Int)∉Tr.aS g (hof hs (p:Int))) (hlim:(Tr.aS g (hof hs (p:Int))).length+Tr.gM g (hof hs (i:Int))≤128) (hac:Tr.eF g (hof hs (p:Int)) (hof hs (i:Int))=true)
  (hcl:Tr.Lv (dz (mg m f) (i:Int)) c') (F7:Tr.dG g (hof hs (i:Int)) (hof hs (p:Int))=some q1) (hc1:hof hs c'=0∨hof hs c'∈q1.kids)
  (tv':TV base w3 B b s vs n (Tr.raw (Tr.bO (Tr.dG g (hof hs (i:Int))) (hof hs (p:Int)) (hof hs (i:Int)) (hof hs c')) av) vf fr live (hof hs 0)) (st:aB w w3 (aD B vs vf) (aD B vs vf))
  (mv':MV bM w4 M aP m f2) (stM:aB w3 w4 (aC M aP m f) (aC M aP m f2)) (hm2:mg m f2=Tr.lu (dz (mg m f) (i:Int)) p i c') (hk2:∀ j,qJ (f2 j) (f j)):
  TW w4 base bM T B M b s vs vf aP vh n live m fr av f2 hs (Tr.bO (Tr.dG g (hof hs (i:Int))) (hof hs (p:Int)) (hof hs (i:Int)) (hof hs c')) (K+1):=by
 have eg:=H.dx hi hg;have RI:=H.zK hi hg;have hw1:=H.wf.dG eg;have hS1:=uQ H.so H.wf eg;have F6:=Tr.wV eg;have zX:hof hs (i:Int)≠hof hs (p:Int):=fun e=>by
  have:=H.im.inj (i:Int) (p:Int) (by rw[aM hi hg];rfl) (by rw[aM hpm hpg];rfl) e;omega
 have hi1:(dz (mg m f) (i:Int) (i:Int)).isSome:=by
  unfold dz Tr.uh
  split
  ·rw[aM hi hg];rfl
  ·dsimp only;rw[if_pos rfl,aM hi hg];rfl
 have hp1:(dz (mg m f) (i:Int) (p:Int)).isSome:=by
  unfold dz Tr.uh
  split
  ·rw[aM hpm hpg];rfl
  ·dsimp only;rw[if_neg (by omega)]
   split
   ·rw[aM hpm hpg];rfl
   ·rw[aM hpm hpg];rfl
 obtain⟨ni,ei1⟩:=Option.isSome_iff_exists.1 hi1;obtain⟨np,RJ⟩:=Option.isSome_iff_exists.1 hp1;have im':Tr.Im (hof hs) (mg m f2) (Tr.bO (Tr.dG g (hof hs (i:Int))) (hof hs (p:Int)) (hof hs (i:Int)) (hof hs c')):=by
  rw[hm2];exact RI.link hw1 ei1 RJ (by omega) hcl
 have hS2:=uN hS1 hw1 F6 rfl F7 zX hc1;have hw2:=hw1.link (c:=hof hs c') F6 rfl F7 (by rw[H.wf.EI eg hu];exact hu) (by rw[H.wf.EI eg hu,H.wf.Lg eg];exact hlim);have ep:=H.dx hpm hpg;refine H.step tv' hS2 st ?_ hw2 mv' stM im' ?_ ?_ ?_ H.nm ?_ ?_ ⟨(H.ok.1.cut _).link hac (fun k=>Tr.Ih k) (fun n1 e=>?_) (fun nh _ e=>zX e.symm),fun j hj=>(H.ok.2 j hj).same (hk2 j).2.1 (hk2 j).2.2.2.2 (hk2 j).2.2.1⟩
 ·refine AT.same (H.at'.step H.tv st) fun x q e=>?_;obtain⟨y,e1,e2⟩:=Tr.Rh e;obtain⟨z,e3,e4⟩:=Tr.Rf e1;exact⟨z,e3,e4.trans e2⟩
 ·exact⟨by rw[(hk2 0).2.1];exact H.km.1,fun j hj h0=>by rw[(hk2 j).2.1];exact H.km.2 j hj h0⟩
 ·rw[(hk2 0).1];exact H.g0
 ·intro j hj hgj;rw[(hk2 j).1] at hgj;exact H.gn j hj hgj
 ·have h0:0<m:=H.m0;have g0:(f2 0).gone=false:=by rw[(hk2 0).1];exact H.g0
  have e2:mg m f2 ((0:Nat):Int)=some (jZ (f2 0)):=aM h0 g0;have e3:mg m f ((0:Nat):Int)=some (jZ (f 0)):=aM h0 H.g0;have hne:((0:Nat):Int)≠(i:Int):=by omega
  have e4:=(Ri (a:=dz (mg m f) (i:Int)) (p:=(p:Int)) (c:=c') hne).trans (Rj (a:=mg m f) hne);rw[←hm2,e2,e3] at e4;have e5:(f2 0).pa=(f 0).pa:=Option.some.inj e4;rw[e5];exact H.d0
 ·intro j hj;rw[(hk2 j).2.2.1,(hk2 j).2.2.2.1];have:=H.bd j hj;exact⟨by omega,by omega,this.2.2⟩
 ·unfold Tr.dG at e
  split at e
  ·exact⟨n1,e,fun k hk=>hk⟩
  ·obtain⟨n,a1,-,a2,-⟩:=Tr.Ed e;exact⟨n,a1,a2⟩
theorem TW.placed (H:TW w base bM T B M b s vs vf aP vh n live m fr av f2 hs g K) {i p:Nat} {l:List Int} {c:Int} (hi:i<m) (hg:(f2 i).gone=false) (hp:(f2 i).pa=(p:Int)) (hk:(f2 p).kids=Tr.iD l c (i:Int)) (hx:(i:Int)∉l) (hl:(-1:Int)∉l) (hc:c = -1∨c∈l):
  Tr.kM g 1 (hof hs (i:Int))=rz (hof hs) (jD l p i c):=by
 rw[FD (m:=m) hk hx hl hc];exact H.im.place H.wf 1 hi hg hp
end
section
open Go.RowKit
variable [mQ]
def wL (m:Nat) (f:Nat→RS) (h:Nat):List Tr.Rec:=if (f h).pa = -1 then [] else [kK m f 2 h (f h).pa.toNat]
theorem BQ {m:Nat} {f:Nat→RS} {h:Nat} (e:(f h).pa = -1):wL m f h=[]:=if_pos e
theorem Iz {m:Nat} {f:Nat→RS} {h q:Nat} (e:(f h).pa=(q:Int)):wL m f h=[kK m f 2 h q]:=by
 unfold wL;rw[if_neg (by omega),e,Int.toNat_natCast]
theorem FE {m:Nat} {f:Nat→RS} {h:Nat} (hw:Tr.WF (-1) (mg m f)) (hhm:h<m) (wM:(f h).gone=false):(f h).pa = -1∨∃ q:Nat,(f h).pa=(q:Int)∧q<m∧(f q).gone=false∧q≠h:=by
 rcases hw.pa (aM hhm wM) with e | ⟨n,e,_⟩
 ·exact .inl e
 ·obtain⟨q',e1,e2,e3,_⟩:=jk e;have e5:(f h).pa=(q':Int):=e1;exact .inr ⟨q',e5,e2,e3,fun e4=>hw.iG (aM hhm wM) (by show (f h).pa=_;rw[e5,e4])⟩
theorem KJ (base M m:Nat) (vs:Value) (f:Nat→RS) (p h:Nat) (c:Int) (w:World) (H:MV base w M vs m f) (hw:Tr.WF (-1) (mg m f)) (hpm:p<m) (hpg:(f p).gone=false) (hhm:h<m) (wM:(f h).gone=false) (JK:(f 0).gone=false) (hm:m≤100000)
  (hch:jR m f p h=true) (hc:c = -1∨∃ j:Nat,c=(j:Int)∧j<m∧(f j).pa=(p:Int)) (hlim:(Tr.aS (mg m f) (p:Int)).length+Tr.gM (mg m f) (h:Int)≤128) (zX:p≠h) (hw1:Tr.WF (-1) (dz (mg m f) (h:Int))) (hcin:gK (mg m f) h c = -1∨gK (mg m f) h c∈Tr.au (dz (mg m f) (h:Int)) (p:Int)):
  Calls Tryz.prog 34 #[.pointer (some ⟨M,0,none⟩),.int .i64 (p:Int),.int .i64 (h:Int),.int .i64 c] w fun e w'=>∃ r,e=.returned (.tuple #[r,.int .i64 0])∧jN w.heap.size w' r (wL m f h++[jD (Tr.au (dz (mg m f) (h:Int)) (p:Int)) p h (gK (mg m f) h c)])∧
   ∃ f2,MV base w' M vs m f2∧aB w w' (aC M vs m f) (aC M vs m f2)∧mg m f2=Tr.lu (dz (mg m f) (h:Int)) p h (gK (mg m f) h c)∧∀ j,qJ (f2 j) (f j):=by
 refine Gs base M m vs f p h c w H hw hpm hpg hhm wM JK hm hch hc hlim zX hw1 hcin _ ?_;rcases FE hw hhm wM with e | ⟨q,e,-⟩
 ·exact .inl ⟨e,BQ e⟩
 ·exact .inr ⟨q,e,Iz e⟩
variable {w:World} {base bM T B M:Nat} {b s:Int} {vs vf aP vh:Value} {n live m:Nat} {fr:List Nat} {av:Int→Tr.Sl} {f:Nat→RS} {hs:List Int} {g:Tr.G} {K:Nat}
theorem TW.fU (H:TW w base bM T B M b s vs vf aP vh n live m fr av f hs g K) {i:Nat} (hi:i<m) (hg:(f i).gone=false):Tr.fU g (hof hs (i:Int))=(wL m f i).map (rz (hof hs)):=by
 have eg:=H.dx hi hg;have hpa:Tr.dI g (hof hs (i:Int))=hof hs (f i).pa:=Tr.aO eg;unfold Tr.fU;rcases FE (H.im.pull H.wf) hi hg with e | ⟨q,e,hq1,hq2,-⟩
 ·rw[BQ e,if_pos (by rw[hpa,e];exact H.im.zero)];rfl
 ·rw[Iz e,if_neg (by rw[hpa,e];exact H.im.nz _ (by rw[aM hq1 hq2];rfl))];rw[H.im.place H.wf 2 hi hg e];rfl
theorem TW.qA (H:TW w base bM T B M b s vs vf aP vh n live m fr av f hs g K) {i:Nat} (hi:i<m) (hg:(f i).gone=false) {c:Int} (hc:c = -1∨(mg m f c).isSome) (hp:c=(i:Int)→(f i).pa ≠ -1):hof hs (gK (mg m f) i c)=Tr.qA g (hof hs (i:Int)) (hof hs c):=by
 have ei:=aM hi hg;have eg:=H.dx hi hg;have li:(mg m f (i:Int)).isSome:=by rw[ei];rfl
 unfold gK Tr.qA;by_cases e:c=(i:Int)
 ·rw[if_pos e,if_pos (by rw[e])];rcases FE (H.im.pull H.wf) hi hg with e1 | ⟨q,e1,hq1,hq2,-⟩
  ·exact absurd e1 (hp e)
  ·obtain⟨-,-,l1,l2,hL,n1,n2,n3⟩:=H.im.split H.wf hi hg e1;have hpm:Tr.dI (mg m f) (i:Int)=(q:Int):=(Tr.aO ei).trans e1;have hpg:Tr.dI g (hof hs (i:Int))=hof hs (q:Int):=by rw[Tr.aO eg];show hof hs (f i).pa=_;rw[e1]
   have hk1:Tr.au (mg m f) (q:Int)=l1++(i:Int)::l2:=(Tr.aH (aM hq1 hq2)).trans hL;have hk2:Tr.au g (hof hs (q:Int))=(l1++(i:Int)::l2).map (hof hs):=by rw[H.im.kid (aM hq1 hq2)];show (f q).kids.map _=_;rw[hL]
   rw[hpm,hpg,hk1,hk2,Tr.dU n1,wI,List.map_append,List.map_cons,Tr.gT n2,QW H.im.zero]
 ·rw[if_neg e,if_neg];intro e2;rcases hc with rfl | hc
  ·exact H.im.nz _ li (by rw[←e2];exact H.im.zero)
  ·exact e (H.im.inj _ _ hc li e2)
end
section
open Go.RowKit
variable [mQ]
theorem Xh (l:List Int) (i:Int):xg l i = -1∨xg l i∈l:=by
 unfold xg
 split
 ·exact .inl rfl
 ·cases e:l[i.toNat]? with
  | none=>exact .inl rfl
  | some y=>exact .inr (List.mem_of_getElem? e)
theorem tZ (a:Tr.G) (i x:Int):(dz a i x).isSome=(a x).isSome:=by
 unfold dz
 split
 ·rfl
 ·unfold Tr.uh
  split
  ·rename_i e;subst e;cases a x<;>rfl
  ·split
   ·cases a x<;>rfl
   ·rfl
variable {w:World} {base bM T B M:Nat} {b s:Int} {vs vf aP vh:Value} {n live m:Nat} {fr:List Nat} {av:Int→Tr.Sl} {f:Nat→RS} {hs:List Int} {g:Tr.G} {K:Nat}
theorem TW.Z7 (H:TW w base bM T B M b s vs vf aP vh n live m fr av f hs g K) {i:Nat} (hi:i<m) (hg:(f i).gone=false) {c:Int} (hc:c = -1∨(mg m f c).isSome):Tr.Lv (dz (mg m f) (i:Int)) (gK (mg m f) i c):=by
 unfold Tr.Lv;rw[tZ];unfold gK
 split
 ·rcases Xh (Tr.au (mg m f) (Tr.dI (mg m f) (i:Int))) (((Tr.au (mg m f) (Tr.dI (mg m f) (i:Int))).idxOf (i:Int):Nat)+1) with e | e
  ·exact .inl e
  ·refine .inr ?_;cases e2:mg m f (Tr.dI (mg m f) (i:Int)) with
   | none=>rw[show Tr.au (mg m f) (Tr.dI (mg m f) (i:Int))=[] by unfold Tr.au;rw[e2]] at e;exact absurd e (by unfold xg;split<;>simp)
   | some q=>exact H.im.kids _ q e2 _ (by rw[←Tr.aH e2];exact e)
 ·exact hc
theorem TW.Vb (H:TW w base bM T B M b s vs vf aP vh n live m fr av f hs g K) {i p:Nat} (hi:i<m) (hg:(f i).gone=false) (hpm:p<m) (hpg:(f p).gone=false) (hu:hof hs (i:Int)∉Tr.aS g (hof hs (p:Int))) {c:Int}
  (hc:c = -1∨∃ j:Nat,c=(j:Int)∧j<m∧(f j).gone=false∧(f j).pa=(p:Int)):
  Tr.Lv (dz (mg m f) (i:Int)) (gK (mg m f) i c)∧hof hs (gK (mg m f) i c)=Tr.qA g (hof hs (i:Int)) (hof hs c)∧
   (gK (mg m f) i c = -1∨gK (mg m f) i c∈Tr.au (dz (mg m f) (i:Int)) (p:Int))∧
   ∃ q1,Tr.dG g (hof hs (i:Int)) (hof hs (p:Int))=some q1∧(hof hs (gK (mg m f) i c)=0∨hof hs (gK (mg m f) i c)∈q1.kids):=by
 have eg:=H.dx hi hg;have ep:=H.dx hpm hpg;have RI:=H.zK hi hg;have hcl:c = -1∨(mg m f c).isSome:=by
  rcases hc with e | ⟨j,rfl,h1,h2,-⟩
  ·exact .inl e
  ·exact .inr (by rw[aM h1 h2];rfl)
 have hL:=H.Z7 hi hg hcl;have hE:=H.qA hi hg hcl (fun e=>by
  rcases hc with e1 | ⟨j,e1,h1,h2,h3⟩
  ·omega
  ·obtain rfl:j=i:=by omega
   omega)
 obtain⟨q1,e1,e2⟩:=Tr.F8 (c:=hof hs c) H.wf eg ep hu (by
  rcases hc with rfl | ⟨j,rfl,h1,h2,h3⟩
  ·exact .inl H.im.zero
  ·have ej:=H.dx h1 h2;refine .inr ⟨?_,by rw[ej];rfl⟩
   rw[Tr.aO ej];show hof hs (f j).pa=_;rw[h3])
 rw[←hE] at e2;refine⟨hL,hE,?_,q1,e1,e2⟩;have hpl:(dz (mg m f) (i:Int) (p:Int)).isSome:=by rw[tZ,aM hpm hpg];rfl
 obtain⟨np,RJ⟩:=Option.isSome_iff_exists.1 hpl;have e3:=RI.node _ _ RJ;rw[e1] at e3;obtain rfl:=Option.some.inj e3;rcases hL with h1 | h1
 ·exact .inl h1
 ·rcases e2 with e2 | e2
  ·exact absurd e2 (RI.nz _ h1)
  ·exact .inr (by rw[Tr.aH RJ];exact (RI.mem (RI.kids _ _ RJ) h1).1 e2)
theorem KL {a:Tr.G} {i:Int} {n:Tr.GN} (e:dz a i i=some n):n.pa = -1:=by
 unfold dz at e
 split at e
 ·rename_i h1;rw[←Tr.aO e];exact h1
 ·unfold Tr.uh at e;rw[if_pos rfl] at e;cases e2:a i with
  | none=>rw[e2] at e;cases e
  | some y=>rw[e2] at e;obtain rfl:=Option.some.inj e;rfl
theorem TW.inserted {w3 w4:World} {f2:Nat→RS} (H:TW w base bM T B M b s vs vf aP vh n live m fr av f hs g K) {i p:Nat} (hi:i<m) (hg:(f i).gone=false) (hpm:p<m) (hpg:(f p).gone=false) (hpi:p≠i) (i0:i≠0)
  (hu:hof hs (i:Int)∉Tr.aS g (hof hs (p:Int))) (hlim:(Tr.aS g (hof hs (p:Int))).length+Tr.gM g (hof hs (i:Int))≤128) (hac:Tr.eF g (hof hs (p:Int)) (hof hs (i:Int))=true) {c:Int}
  (hc:c = -1∨∃ j:Nat,c=(j:Int)∧j<m∧(f j).gone=false∧(f j).pa=(p:Int))
  (tv':TV base w3 B b s vs n (Tr.raw (Tr.bO (Tr.dG g (hof hs (i:Int))) (hof hs (p:Int)) (hof hs (i:Int)) (Tr.qA g (hof hs (i:Int)) (hof hs c))) av) vf fr live (hof hs 0)) (st:aB w w3 (aD B vs vf) (aD B vs vf))
  (mv':MV bM w4 M aP m f2) (stM:aB w3 w4 (aC M aP m f) (aC M aP m f2)) (hm2:mg m f2=Tr.lu (dz (mg m f) (i:Int)) p i (gK (mg m f) i c)) (hk2:∀ j,qJ (f2 j) (f j)):
  TW w4 base bM T B M b s vs vf aP vh n live m fr av f2 hs (Tr.bO (Tr.dG g (hof hs (i:Int))) (hof hs (p:Int)) (hof hs (i:Int)) (Tr.qA g (hof hs (i:Int)) (hof hs c))) (K+1)∧
   (wL m f i++[jD (Tr.au (dz (mg m f) (i:Int)) (p:Int)) p i (gK (mg m f) i c)]).map (rz (hof hs))=
    Tr.fU g (hof hs (i:Int))++[Tr.kM (Tr.bO (Tr.dG g (hof hs (i:Int))) (hof hs (p:Int)) (hof hs (i:Int)) (Tr.qA g (hof hs (i:Int)) (hof hs c))) 1 (hof hs (i:Int))]:=by
 obtain⟨hL,hE,hin,q1,e1,e2⟩:=H.Vb hi hg hpm hpg hu hc;rw[←hE] at tv' ⊢;have HT:=H.linked hi hg hpm hpg hpi i0 hu hlim hac hL e1 e2 tv' st mv' stM hm2 hk2;refine⟨HT,?_⟩;have RI:=H.zK hi hg;have hw1:=RI.pull (H.wf.dG (H.dx hi hg));have hi1:(dz (mg m f) (i:Int) (i:Int)).isSome:=by rw[tZ,aM hi hg];rfl
 have hp1:(dz (mg m f) (i:Int) (p:Int)).isSome:=by rw[tZ,aM hpm hpg];rfl
 obtain⟨ni,ei1⟩:=Option.isSome_iff_exists.1 hi1;obtain⟨np,RJ⟩:=Option.isSome_iff_exists.1 hp1;have g2i:(f2 i).gone=false:=by rw[(hk2 i).1];exact hg
 have g2p:(f2 p).gone=false:=by rw[(hk2 p).1];exact hpg
 have a1:mg m f2 (i:Int)=some (jZ (f2 i)):=aM hi g2i;have a2:mg m f2 (p:Int)=some (jZ (f2 p)):=aM hpm g2p;rw[hm2] at a1 a2;unfold Tr.lu at a1 a2;rw[if_pos rfl,ei1] at a1;have WK:(p:Int)≠(i:Int):=fun e=>hpi (by clear hc;omega);rw[if_neg WK,if_pos rfl,RJ] at a2;have b1:(f2 i).pa=(p:Int):=congrArg Tr.GN.pa (Option.some.inj a1).symm;have b2:(f2 p).kids=Tr.iD np.kids (gK (mg m f) i c) (i:Int):=congrArg Tr.GN.kids (Option.some.inj a2).symm;have hk:=Tr.aH RJ;rw[hk] at hin ⊢;have hx:(i:Int)∉np.kids:=fun hm=>by
  obtain⟨y,e3,e4⟩:=hw1.down _ _ _ RJ hm;have e5:=KL e3;rw[e4] at e5;exact absurd e5 (by clear hc;omega)
 have hl:(-1:Int)∉np.kids:=fun hm=>by
  have:=RI.kids _ _ RJ _ hm;rw[RI.neg] at this;cases this
 rw[List.map_append,←H.fU hi hg,HT.placed hi g2i b1 b2 hx hl hin];rfl
end
section
open Go.RowKit
variable [mQ]
def Rk (m:Nat) (f:Nat→RS) (ib ia:Nat) (c:Int):Prop:=jR m f ib ia=true∧(c = -1∨∃ j:Nat,c=(j:Int)∧j<m∧(f j).gone=false∧(f j).pa=(ib:Int))∧(Tr.aS (mg m f) (ib:Int)).length+Tr.gM (mg m f) (ia:Int)≤128
def TS (m:Nat) (f:Nat→RS) (ib ia:Nat) (c:Int) (f':Nat→RS) (lm:List Tr.Rec):Prop:=
 (Rk m f ib ia c∧mg m f'=Tr.lu (dz (mg m f) (ia:Int)) ib ia (gK (mg m f) ia c)∧lm=wL m f ia++[jD (Tr.au (dz (mg m f) (ia:Int)) (ib:Int)) ib ia (gK (mg m f) ia c)])∨(¬ Rk m f ib ia c∧f'=f∧lm=[])
def abA (base bM T B M:Nat) (b s:Int) (vs vf aP vh:Value) (n live m:Nat) (fr:List Nat) (av:Int→Tr.Sl) (f:Nat→RS) (hs:List Int) (K:Nat) (ib ia:Nat) (c:Int) (w0:Nat) (E:Int) (v:Value) (lm:List Tr.Rec) (V3:World) (e:Ending) (w4:World):Prop:=
 ∃ (r:Value) (f2:Nat→RS) (g2:Tr.G),e=.returned (.tuple #[r,.int .i64 E])∧jN V3.heap.size w4 r lm∧bL w0 w4 v (lm.map (rz (hof hs)))∧aB V3 w4 (aC M aP m f) (aC M aP m f2)∧
  TS m f ib ia c f2 lm∧TW w4 base bM T B M b s vs vf aP vh n live m fr av f2 hs g2 (K+1)
def Z8 (base bM T B M:Nat) (b s:Int) (vs vf aP vh:Value) (n live m:Nat) (fr:List Nat) (av:Int→Tr.Sl) (f:Nat→RS) (hs:List Int) (K:Nat) (ib ia:Nat) (c:Int) (w:World) (e:Ending) (w3:World):Prop:=
 ∃ (v:Value) (E:Int) (lm:List Tr.Rec),e=.returned (.tuple #[v,.int .i64 E])∧(E=0∨E=5∨E=10)∧lm.length≤2∧(∃ A n c,v=.slice A n c)∧oW w3 T B M vh hs∧MV bM w3 M aP m f∧aB w w3 (aD B vs vf) (aD B vs vf)∧
  ∀ V3,Below w3.heap.size w3 V3→Calls Tryz.prog 34 #[.pointer (some ⟨M,0,none⟩),.int .i64 (ib:Int),.int .i64 (ia:Int),.int .i64 c] V3 (abA base bM T B M b s vs vf aP vh n live m fr av f hs K ib ia c w.heap.size E v lm V3)
variable {w:World} {base bM T B M:Nat} {b s:Int} {vs vf aP vh:Value} {n live m:Nat} {fr:List Nat} {av:Int→Tr.Sl} {f:Nat→RS} {hs:List Int} {g:Tr.G} {K:Nat}
theorem TW.Z9 (H:TW w base bM T B M b s vs vf aP vh n live m fr av f hs g K) {ib ia:Nat} {c E:Int} {w3:World} (hb3:Below w.heap.size w w3) (hno:¬ Rk m f ib ia c) (hE:E=0∨E=5∨E=10)
  (hR:∀ V3,MV bM V3 M aP m f→Calls Tryz.prog 34 #[.pointer (some ⟨M,0,none⟩),.int .i64 (ib:Int),.int .i64 (ia:Int),.int .i64 c] V3 fun e w'=>e=.returned (nW E)∧w'=V3):
  Z8 base bM T B M b s vs vf aP vh n live m fr av f hs K ib ia c w (.returned (nW E)) w3:=by
 have H3:=H.below hb3;refine⟨_,E,[],rfl,hE,by simp,⟨_,_,_,rfl⟩,H3.tw,H3.mv,.of_below hb3,fun V3 hb=>?_⟩;have H5:=H3.below hb;refine (hR V3 H5.mv).mono ?_;rintro e w4 ⟨rfl,e4⟩;rw[e4];exact⟨_,f,g,rfl,World.ownsRow_nil _ _ _ _,World.ownsRow_nil _ _ _ _,.of_below (Below.refl _ _),.inr ⟨hno,rfl,rfl⟩,H5.up⟩
theorem xU (H:TW w base bM T B M b s vs vf aP vh n live m fr av f hs g K) (hm:m≤100000) {ia ib:Nat} (hia:ia<m) (hga:(f ia).gone=false) (hib:ib<m) (hgb:(f ib).gone=false) {c:Int} (hc:c = -1∨∃ j:Nat,c=(j:Int)∧j<m∧(f j).gone=false):
  Calls Tryz.prog 32 #[.pointer (some ⟨B,0,none⟩),.int .i64 (hof hs (ib:Int)),.int .i64 (hof hs (ia:Int)),.int .i64 (hof hs c)] w (Z8 base bM T B M b s vs vf aP vh n live m fr av f hs K ib ia c w):=by
 have ea:=H.dx hia hga;have eb:=H.dx hib hgb;have la:(mg m f (ia:Int)).isSome:=by rw[aM hia hga];rfl
 have lb:(mg m f (ib:Int)).isSome:=by rw[aM hib hgb];rfl
 have hcs:hof hs c≠0→(g (hof hs c)).isSome:=by
  rcases hc with rfl | ⟨j,rfl,h1,h2⟩
  ·exact fun h=>absurd H.im.zero h
  ·intro _;rw[H.dx h1 h2];rfl
 have hpa:∀ j:Nat,j<m→(f j).gone=false→(Tr.dI g (hof hs (j:Int))=hof hs (ib:Int)↔(f j).pa=(ib:Int)):=fun j hj hgj=>by
  have e1:Tr.dI g (hof hs (j:Int))=hof hs (f j).pa:=Tr.aO (H.dx hj hgj);rw[e1];refine⟨fun e=>H.im.WJ (H.im.pa _ _ (aM hj hgj)) (.inr lb) e,fun e=>by rw[e]⟩
 have IN:uD base B b s (hof hs 0) (hof hs (ib:Int)) (hof hs (ia:Int)) (hof hs c) live n g av fr vs vf _ _ w:=⟨H.tv,H.so,H.wf,eb,ea,hcs⟩
 have aac:=H.im.accepts H.wf H.km H.m0 H.g0 hib hgb hia hga;have PS:(Tr.aS g (hof hs (ib:Int))).length=(Tr.aS (mg m f) (ib:Int)).length:=by rw[H.im.up H.wf (.inr lb),List.length_map]
 have Xi:Tr.gM g (hof hs (ia:Int))=Tr.gM (mg m f) (ia:Int):=H.im.hgt H.wf _ la;have vU:=H.im.pull H.wf;by_cases hT:jR m f ib ia=false∨∃ j:Nat,c=(j:Int)∧j<m∧(f j).pa≠(ib:Int)
 ·refine (H6 base B b s (hof hs 0) _ _ _ live n g av fr vs vf _ _ w IN ?_).mono ?_
  ·rcases hT with h1 | ⟨j,rfl,hj,h2⟩
   ·rw[aac,Bool.and_eq_false_iff] at h1;rcases h1 with h1 | h1
    ·exact .inl h1
    ·refine .inr (.inl ?_);simpa using h1
   ·have hgj:(f j).gone=false:=by
     rcases hc with h3 | ⟨j',h3,h4,h5⟩
     ·omega
     ·obtain rfl:j'=j:=by omega
      exact h5
    exact .inr (.inr ⟨H.im.nz _ (by rw[aM hj hgj];rfl),fun e=>h2 ((hpa j hj hgj).1 e)⟩)
  ·rintro e w3 ⟨rfl,hb3⟩;refine H.Z9 hb3 (fun hok=>?_) (.inr (.inr rfl)) fun V3 hv=>FB bM M m aP f ib ia c V3 hv vU hib hgb hia H.g0 hm hT;rcases hT with h1 | ⟨j,h1,h2,h3⟩
   ·rw[hok.1] at h1;cases h1
   ·rcases hok.2.1 with h4 | ⟨j',h4,h5,h6,h7⟩
    ·omega
    ·obtain rfl:j'=j:=by omega
     exact h3 h7
 ·have hch:jR m f ib ia=true:=by
   cases h:jR m f ib ia with
   | true=>rfl
   | false=>exact absurd (.inl h) hT
  have hcp:c = -1∨∃ j:Nat,c=(j:Int)∧j<m∧(f j).gone=false∧(f j).pa=(ib:Int):=by
   rcases hc with h1 | ⟨j,h1,h2,h3⟩
   ·exact .inl h1
   ·refine .inr ⟨j,h1,h2,h3,?_⟩;by_cases e:(f j).pa=(ib:Int)
    ·exact e
    ·exact absurd (.inr ⟨j,h1,h2,e⟩) hT
  have TT:c = -1∨∃ j:Nat,c=(j:Int)∧j<m∧(f j).pa=(ib:Int):=by
   rcases hcp with h1 | ⟨j,h1,h2,-,h4⟩
   ·exact .inl h1
   ·exact .inr ⟨j,h1,h2,h4⟩
  have IB:Tr.eF g (hof hs (ib:Int)) (hof hs (ia:Int))=true∧hof hs (ia:Int)∉Tr.aS g (hof hs (ib:Int)):=by
   have h1:=hch;rw[aac,Bool.and_eq_true] at h1;exact⟨h1.1,by simpa using h1.2⟩
  have hpc:hof hs c≠0→Tr.dI g (hof hs c)=hof hs (ib:Int):=by
   rcases hcp with rfl | ⟨j,rfl,h2,h3,h4⟩
   ·exact fun h=>absurd H.im.zero h
   ·exact fun _=>(hpa j h2 h3).2 h4
  by_cases hl:128<(Tr.aS (mg m f) (ib:Int)).length+Tr.gM (mg m f) (ia:Int)
  ·refine (Fv base B b s (hof hs 0) _ _ _ live n g av fr vs vf _ _ w IN IB.1 IB.2 hpc (by rw[PS,Xi];exact hl)).mono ?_;rintro e w3 ⟨rfl,hb3⟩;exact H.Z9 hb3 (fun hok=>by have:=hok.2.2;omega) (.inr (.inl rfl)) fun V3 hv=>CO bM M m aP f ib ia c V3 hv vU hib hgb hia hga H.g0 hm hch TT hl
  ·have hl':(Tr.aS (mg m f) (ib:Int)).length+Tr.gM (mg m f) (ia:Int)≤128:=by clear hc hcp TT hT;omega
   have i0:ia≠0:=fun e=>by
    subst e;unfold jR at hch;rw[if_pos (.inl rfl)] at hch;cases hch
   have hpi:ib≠ia:=fun e=>by
    have:=IB.2;rw[H.wf.aT eb,e] at this;exact this (by simp)
   obtain⟨-,-,hcin,-⟩:=H.Vb hia hga hib hgb IB.2 hcp;have hw1:=(H.zK hia hga).pull (H.wf.dG ea);refine (MW base B b s (hof hs 0) _ _ _ live n g av fr vs vf _ _ w IN IB.1 IB.2 hpc (by rw[PS,Xi];exact hl')).mono ?_;rintro e w3 ⟨v,rfl,hr3,yB,fF⟩;obtain⟨a1,a2,-,-,-⟩:=H.after fF;obtain⟨A3,c3,hv3⟩:=aF (aG hr3);refine⟨v,0,wL m f ia++[jD (Tr.au (dz (mg m f) (ia:Int)) (ib:Int)) ib ia (gK (mg m f) ia c)],rfl,.inl rfl,?_,⟨_,_,_,hv3⟩,a1,a2,fF,fun V3 hb=>?_⟩
   ·unfold wL;split<;>simp
   ·refine (KJ bM M m aP f ib ia c V3 (a2.below hb) vU hib hgb hia hga H.g0 hm hch TT hl' hpi hw1 hcin).mono ?_;rintro e w4 ⟨r,rfl,hr4,f2,mv4,dJ,hm2,hk2⟩;obtain⟨HT,hrec⟩:=H.inserted hia hga hib hgb hpi i0 IB.2 (by rw[PS,Xi];exact hl') IB.1 hcp (yB.below hb) (fF.trans (.of_below hb)) mv4 dJ hm2 hk2;rw[←hrec] at hr3;have xq:bL w.heap.size V3 v _:=bY (S:=fun _=>False) hr3 (.of_below hb) (fun _ _=>id);exact⟨r,f2,_,rfl,hr4,bY xq dJ.1 (fun k hk hm=>by have h1:=(xq.lt k hk).1;have h2:=(H.mv.lt k hm).2;clear hc hcp TT hT;omega),dJ,.inl ⟨⟨hch,hcp,hl'⟩,hm2,rfl⟩,HT⟩
end
section
open Go.RowKit
theorem CQ (base B:Nat) (b s root h k:Int) (deep:Bool) (live n:Nat) (R:Int→Option Tr.Nd) (fr:List Nat) (vs vf:Value) (d:Tr.Nd) (w:World) (hm:TV base w B b s vs n R vf fr live root) (hS:Sound b s n R fr live) (hh:gI h) (hd:(R h).getD Tr.yX=d) (hk:d.kind=0∧k=6∨d.kind=1∧k=10):
  Calls Tryz.prog 93 #[.pointer (some ⟨B,0,none⟩),.int .i64 h,.bool deep] w fun e w'=>e=.returned (.tuple #[.int .i64 0,.int .i64 k])∧Below w.heap.size w w':=by
 have HA:=jX base B b s root h live n R fr vs vf w hm hS hh;rw[hd] at HA;clear hm hS hd
 go_enter Tryz.func93,Tryz.ntmps93
 go_wp2_with fail;refine HA.mono ?_;rintro e w1 ⟨gb,o,rfl,hnp,hb1⟩;obtain⟨t0,_⟩:=hnp.cells;clear HA hnp;rcases hk with ⟨hk,rfl⟩ | ⟨hk,rfl⟩
 ·rw[hk] at t0;clear hk;go_wp2_with fail;go_ret2;exact⟨rfl,hb1⟩
 ·rw[hk] at t0;clear hk;go_wp2_with fail;go_ret2;exact⟨rfl,hb1⟩
theorem JW (base B:Nat) (b s root h:Int) (live n:Nat) (g:Tr.G) (av:Int→Tr.Sl) (fr:List Nat) (vs vf:Value) (nd:Tr.GN) (w:World) (hm:TV base w B b s vs n (Tr.raw g av) vf fr live root) (hS:Sound b s n (Tr.raw g av) fr live) (ha:AT w g av) (hw:Tr.WF 0 g) (eg:g h=some nd) (h0:nd.kind≠0) (h1:nd.kind≠1) (hl:nd.attrs.length≤1000) (hn:n<100000) (hlim:live+1≤20000):
  Calls Tryz.prog 93 #[.pointer (some ⟨B,0,none⟩),.int .i64 h,.bool false] w fun e w'=>∃ d X tb,e=.returned (.tuple #[.int .i64 d,.int .i64 0])∧OX base B X tb b s root n g av vs vf nd w d w':=by
 have hh:=(bH hS (h:=h) (by rw[aK,eg];rfl)).1;have HA:=jX base B b s root h live n _ fr vs vf w hm hS hh;rw[Tr.aj eg] at HA;have q0:(nd.kind == 0)=false:=by simpa using h0
 have q1:(nd.kind == 1)=false:=by simpa using h1
 have HM:=zh (fun (W:World) (hb:Below w.heap.size w W)=>hm.below hb);have HD:=zh (fun (W:World) (hb:Below w.heap.size w W)=>MQ base B b s root h live n g av fr vs vf nd W (hm.below hb) hS (ha.below hb) hw eg hl hn);have HNL:=zh (fun (W:World) (hb:Below w.heap.size w W)=>rH base B b s root live n (Tr.raw g av) fr vs vf W (hm.below hb));have q2:¬ (20000:Int)<(live:Int)+1:=by omega
 have hlv:live≤20000:=by omega
 clear hm hS h0 h1 hw ha hl hn hlim
 go_enter Tryz.func93,Tryz.ntmps93
 go_wp2_with fail;refine HA.mono ?_;rintro e w1 ⟨gb,o,rfl,hnp,hb1⟩;obtain⟨t0,_⟩:=hnp.cells;have t0':w1.cell? ⟨gb,o,none⟩=some (.int .i64 nd.kind):=t0;have HB1:=zh hb1;clear HA hnp t0 hb1;go_wp2_with fail;refine (HNL.out w1 HB1.out).mono ?_;rintro e w2 ⟨rfl,rfl⟩;go_wp2_with fail;refine (HD.out _ HB1.out).mono ?_;rintro e w3 ⟨d,X,tb,rfl,hD⟩;have FZ:=zh hD;clear hD;go_wp2_with fail;go_ret2;obtain⟨vs1,Ur,n1,F5,OA,sl1,z1,z2,z3,z4,z5,z6,z7,z8,z9,y1,y2⟩:=FZ.out;exact⟨d,X,tb,rfl,vs1,Ur,n1,F5,OA,sl1,z1,z2,z3,z4,z5,z6,(aB.of_below HB1.out).trans z7,z8,z9,y1,Nat.le_trans HB1.out.size y2⟩
theorem JX (base B:Nat) (b s root h:Int) (f live n:Nat) (g:Tr.G) (av:Int→Tr.Sl) (fr:List Nat) (vs vf:Value) (nd:Tr.GN) (w:World) (hm:TV base w B b s vs n (Tr.raw g av) vf fr live root) (hS:Sound b s n (Tr.raw g av) fr live) (ha:AT w g av) (hw:Tr.WF 0 g) (eg:g h=some nd) (h0:nd.kind≠0) (h1:nd.kind≠1)
  (hat:∀ y∈Tr.ak g h,∀ m,g y=some m→m.attrs.length≤1000) (hf:f+(Tr.aS g h).length=129) (hcap:n+(Tr.ak g h).length*(Tr.ak g h).length≤99999) (hlim:live+(Tr.ak g h).length≤20000):
  Calls Tryz.prog 93 #[.pointer (some ⟨B,0,none⟩),.int .i64 h,.bool true] w fun e w'=>∃ d,e=.returned (.tuple #[.int .i64 d,.int .i64 0])∧Vv base B b s root n g vs vf h f w (.returned (.int .i64 d)) w':=by
 have hh:=(bH hS (h:=h) (by rw[aK,eg];rfl)).1;have HA:=jX base B b s root h live n _ fr vs vf w hm hS hh;rw[Tr.aj eg] at HA;have q0:(nd.kind == 0)=false:=by simpa using h0
 have q1:(nd.kind == 1)=false:=by simpa using h1
 have HM:=zh (fun (W:World) (hb:Below w.heap.size w W)=>hm.below hb);have HD:=zh (fun (W:World) (hb:Below w.heap.size w W)=>MU base B b s root f live n g av fr vs vf h W (hm.below hb) hS (ha.below hb) hw (by rw[eg];rfl) hat hf hcap);have HNL:=zh (fun (W:World) (hb:Below w.heap.size w W)=>rH base B b s root live n (Tr.raw g av) fr vs vf W (hm.below hb));have Vd:=zh (fun (W:World) (hb:Below w.heap.size w W)=>NS base B b s root h live n g av fr vs vf W (hm.below hb) hS hw hh (by omega));obtain⟨Z,hZ⟩:=eX ((Tr.ak g h).length)
 rw[hZ] at Vd hlim;have q2:¬ (20000:Int)<(live:Int)+(Z:Int):=by omega
 have hlv:live≤20000∧Z≤20000:=by omega
 clear hm hS h0 h1 hw ha hlim hcap hf hat hZ
 go_enter Tryz.func93,Tryz.ntmps93
 go_wp2_with fail;refine HA.mono ?_;rintro e w1 ⟨gb,o,rfl,hnp,hb1⟩;obtain⟨t0,_⟩:=hnp.cells;have t0':w1.cell? ⟨gb,o,none⟩=some (.int .i64 nd.kind):=t0;have HB1:=zh hb1;clear HA hnp t0 hb1;go_wp2_with fail;refine (Vd.out w1 HB1.out).mono ?_;rintro e w2 ⟨rfl,hb2⟩;have HB2:=zh (HB1.out.trans (hb2.mono HB1.out.size));clear hb2;obtain⟨hl1,hl2⟩:=hlv;go_wp2_with fail;refine (HNL.out w2 HB2.out).mono ?_;rintro e w3 ⟨rfl,rfl⟩;go_wp2_with fail;refine (HD.out _ HB2.out).mono ?_;rintro e w4 ⟨d,ds,vs1,Ur,n1,F5,OA,av1,g1,rfl,z1,z2,z3,z4,z5,z6,z7⟩;have FZ:=zh (And.intro z1 (And.intro z2 (And.intro z3 (And.intro z4 (And.intro z5 (And.intro ((aB.of_below HB2.out).trans z6) z7))))));clear z1 z2 z3 z4 z5 z6 z7;go_wp2_with fail;go_ret2;obtain⟨z1,z2,z3,z4,z5,z6,z7⟩:=FZ.out;exact⟨d,rfl,d,ds,vs1,Ur,n1,F5,OA,av1,g1,rfl,z1,z2,z3,z4,z5,z6,z7⟩
theorem GA (M:Nat) (deep:Bool) (w:World):
  Calls Tryz.prog 94 #[.pointer (some ⟨M,0,none⟩),.int .i64 0,.bool deep] w fun e w'=>e=.returned (.int .i64 10)∧w'=w:=by
 go_enter Tryz.func94,Tryz.ntmps94
 go_wp2_with fail
 go_ret
 exact⟨rfl,rfl⟩
theorem GD (base M m:Nat) (vs:Value) (f:Nat→RS) (i:Nat) (w:World) (H:MV base w M vs m f) (hi:i<m) (hg:(f i).gone=false) (hat:(f i).at'.length≤1000) (hcap:m<100000) (h0:i≠0):
  Calls Tryz.prog 94 #[.pointer (some ⟨M,0,none⟩),.int .i64 (i:Int),.bool false] w fun e w'=>e=.returned (.int .i64 0)∧∃ nb,Ux base M m nb vs f i (-1) w w':=by
 have HC:=zh (JF base M m vs f i (-1) w H hi hg hat hcap (by omega));have q0:((i:Int) == 0)=false:=by simpa using h0
 clear H hi hg hat hcap h0
 go_enter Tryz.func94,Tryz.ntmps94
 go_wp2_with fail;refine HC.out.mono ?_;rintro e w1 ⟨⟨u,rfl⟩,hA⟩;have HA:=zh hA;clear hA;go_wp2_with fail
 go_ret
 exact⟨rfl,_,HA.out⟩
theorem GI (base M F m:Nat) (vs:Value) (f:Nat→RS) (i:Nat) (w:World) (H:MV base w M vs m f) (hF:Full (mg m f) F (i:Int)) (hcap:m+(Tr.walk (mg m f) F (i:Int)).length≤100000) (hat:∀ j:Nat,(j:Int)∈Tr.walk (mg m f) F (i:Int)→(f j).at'.length≤1000) (h0:i≠0):
  Calls Tryz.prog 94 #[.pointer (some ⟨M,0,none⟩),.int .i64 (i:Int),.bool true] w fun e w'=>e=.returned (.int .i64 0)∧∃ u,YJ base M m vs f (i:Int) (-1) F w (.returned u) w':=by
 have HC:=zh (JG base M F m vs f (i:Int) (-1) w H hF (.inl rfl) (fun hm=>by have:=(Full.all F _ hF _ hm).1;rw[lQ (by omega)] at this;cases this) hcap hat);have q0:((i:Int) == 0)=false:=by simpa using h0
 clear H hF hat hcap h0
 go_enter Tryz.func94,Tryz.ntmps94
 go_wp2_with fail;refine HC.out.mono ?_;rintro e w1 ⟨u,vs1,k1,f1,rfl,h1⟩;have HA:=zh h1;clear h1;go_wp2_with fail
 go_ret
 exact⟨rfl,u,u,vs1,k1,f1,rfl,HA.out⟩
end
end Go.Proofs.YtmhjlifmcadefaaGreatDoor
