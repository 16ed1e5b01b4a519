/- Part of a proof about trees. -/
import Derived.Test.YtjpbhkcjmdndjaaGreatDoorS01
set_option linter.unusedVariables false
set_option linter.unusedSimpArgs false
set_option linter.unusedSectionVars false
namespace Go.Proofs.YtjpbhkcjmdndjaaGreatDoor
section
open Go Go.RowKit
section
variable {base M m:Nat} {w w1 w':World} {vs v':Value} {f:Nat→RS}
theorem MV.zN {g c i:Nat} {sl:Tr.Sl} {l':List Int} (h:MV base w M (.slice (some ⟨g,0,none⟩) m c) m f) (hi:i<m) (h1:Below w.heap.size w w1) (gr:w1.grownBy w' (f i).k.v.ownBlock) (o:TR w' base 3 1 sl.v l'.length (ints l')) (fr:mV w1 (f i).k.v sl.v):
  (∀ x,aC M (.slice (some ⟨g,0,none⟩) m c) m f x→x<w.heap.size)∧w'.frozen? ⟨g,i*7+5,none⟩=false∧(∀ a b,a<m→b<7→w'.cell? ⟨g,a*7+b,none⟩=(p8 (f a))[b]?)∧
  MV base (w'.setCell ⟨g,i*7+5,none⟩ sl.v) M (.slice (some ⟨g,0,none⟩) m c) m (aV f i fun n=>{ n with k:=sl,kids:=l' })∧aB w (w'.setCell ⟨g,i*7+5,none⟩ sl.v) (aC M (.slice (some ⟨g,0,none⟩) m c) m f) (aC M (.slice (some ⟨g,0,none⟩) m c) m (aV f i fun n=>{ n with k:=sl,kids:=l' })):=by
 have hb:=h.below h1;have hn1:∀ x,(f i).k.v.ownBlock=some x→x≠M∧x≠g∧(∀ y,y<m→(f y).a.v.ownBlock≠some x)∧∀ y,y<m→y≠i→(f y).k.v.ownBlock≠some x:=fun x hx=>by
  refine⟨fun e=>?_,fun e=>?_,fun y hy=>?_,fun y hy hyi=>?_⟩
  ·exact (hb.kr i hi).unlike hb.var (by decide) (e▸hx)
  ·exact dR (hb.kr i hi) hb.row (by decide) g (by simp[Value.ownBlock]) (e▸hx)
  ·exact (hb.kr i hi).ne (hb.ar y hy) (by decide) x hx
  ·exact hb.kk i y hi hy (fun e=>hyi e.symm) x hx
 have v':Whole w' M #[.slice (some ⟨g,0,none⟩) m c] 55:=hb.var.grown gr (fun e=>(hn1 M e.symm).1 rfl);have r':w'.ownsRow base 52 7 (.slice (some ⟨g,0,none⟩) m c) m (bQ p8 m f):=hb.row.kept gr (.inr fun e=>(hn1 g (by simpa [Value.ownBlock] using e.symm)).2.1 rfl);have o':∀ y,y<m→TR w' base 74 2 (f y).a.v (f y).at'.length (fJ (f y).at'):=fun y hy=>(hb.ar y hy).kept gr (by
  cases e:(f y).a.v.ownBlock with
  | none=>exact .inl rfl
  | some x=>exact .inr fun e2=>(hn1 x e2.symm).2.2.1 y hy e)
 have k':∀ y,y<m→y≠i→TR w' base 3 1 (f y).k.v (f y).kids.length (ints (f y).kids):=fun y hy hyi=>(hb.kr y hy).kept gr (by
  cases e:(f y).k.v.ownBlock with
  | none=>exact .inl rfl
  | some x=>exact .inr fun e2=>(hn1 x e2.symm).2.2.2 y hy hyi e)
 have hg:g<w1.heap.size:=(hb.row.lt g (by simp[Value.ownBlock])).2;have hsl:∀ x,sl.v.ownBlock=some x→(f i).k.v.ownBlock=some x∨w1.heap.size≤x:=fun x hx=>by
  rcases fr with e | e
  ·exact .inl (e▸hx)
  ·exact .inr (e x hx)
 obtain⟨o1,g1⟩:=r'.stored (i*7+5) sl.v;have hgo:sl.v.ownBlock≠some g:=fun e=>by
  rcases hsl g e with e | e
  ·exact (hn1 g e).2.1 rfl
  ·omega
 have q1:∀ x,x≠i→aV f i (fun n=>{ n with k:=sl,kids:=l' }) x=f x:=fun x hx=>iW hx;have q2:aV f i (fun n=>{ n with k:=sl,kids:=l' }) i={ f i with k:=sl,kids:=l' }:=ku f i _;have qo:∀ x,(aV f i (fun n=>{ n with k:=sl,kids:=l' }) x).a=(f x).a∧(aV f i (fun n=>{ n with k:=sl,kids:=l' }) x).at'=(f x).at':=fun x=>by
  by_cases e:x=i
  ·subst e;rw[q2];exact⟨rfl,rfl⟩
  ·rw[q1 x e];exact⟨rfl,rfl⟩
 have hap:∀ y,y<m→y≠i→∀ x,sl.v.ownBlock=some x→(f y).k.v.ownBlock≠some x:=fun y hy hyi x hx e=>by
  rcases hsl x hx with e2 | e2
  ·exact (hn1 x e2).2.2.2 y hy hyi e
  ·have:=((hb.kr y hy).lt x e).2;omega
 refine⟨fun x hx=>(h.lt x hx).2,r'.frozenAt _,fun a b ha hb'=>?_,⟨h.low,?_,?_,?_,?_,?_,?_⟩,?_,?_⟩
 ·rw[r'.cellAt _ (by omega)];exact jT tK _ ha hb'
 ·exact v'.grown g1 (fun e=>bA r' v' (by decide) e.symm)
 ·have e:(bQ p8 m f).set (i*7+5) sl.v=bQ p8 m (aV f i fun n=>{ n with k:=sl,kids:=l' }):=by
   rw[qH tK _ { f i with k:=sl,kids:=l' } sl.v hi (by omega) rfl];exact jm fun k _=>by unfold aV;rfl
  rw[←e];exact o1
 ·intro y hy;rw[(qo y).1,(qo y).2];exact (o' y hy).kept g1 (.inr (dR (o' y hy) r' (by decide) g (by simp[Value.ownBlock])))
 ·intro y hy;by_cases e:y=i
  ·subst e;rw[q2];exact o.turns (.aT g1 (S:=fun k=>k=g) (fun k hk=>by simpa using hk.symm)) (fun k hk e=>hgo (e▸hk))
  ·rw[q1 y e];exact (k' y hy e).kept g1 (.inr (dR (k' y hy e) r' (by decide) g (by simp[Value.ownBlock])))
 ·intro x y hx hy e z hz;rw[(qo x).1] at hz;rw[(qo y).1];exact h.aa x y hx hy e z hz
 ·intro x y hx hy e z hz;by_cases ex:x=i
  ·subst ex;rw[q2] at hz;rw[q1 y (fun e2=>e e2.symm)];exact hap y hy (fun e2=>e e2.symm) z hz
  ·rw[q1 x ex] at hz;by_cases ey:y=i
   ·subst ey;rw[q2];exact fun e2=>hap x hx ex z e2 hz
   ·rw[q1 y ey];exact h.kk x y hx hy e z hz
 ·have t1:Turns (aC M (.slice (some ⟨g,0,none⟩) m c) m f) w w1:=.of_below h1;have t2:Turns (aC M (.slice (some ⟨g,0,none⟩) m c) m f) w1 w':=.aT gr (fun k hk=>.inr (.inr ⟨i,hi,.inr hk⟩));have t3:Turns (aC M (.slice (some ⟨g,0,none⟩) m c) m f) w' (w'.setCell ⟨g,i*7+5,none⟩ sl.v):=.aT g1 (fun k hk=>.inr (.inl (by simpa [Value.ownBlock] using hk)));exact (t1.trans t2 (fun _ _ x=>x) (fun _ _ x=>x)).trans t3 (fun _ _ x=>x) (fun _ _ x=>x)
 ·rintro x hx (rfl | hv | ⟨y,hy,hv | hv⟩)
  ·exact .inl rfl
  ·exact .inr (.inl hv)
  ·rw[(qo y).1] at hv;exact .inr (.inr ⟨y,hy,.inl hv⟩)
  ·by_cases e:y=i
   ·subst e;rw[q2] at hv;rcases hsl x hv with e2 | e2
    ·exact .inr (.inr ⟨y,hy,.inr e2⟩)
    ·have:=h1.size;omega
   ·rw[q1 y e] at hv;exact .inr (.inr ⟨y,hy,.inr hv⟩)
theorem MV.nJ {g c i:Nat} {sl:Tr.Sl} {l':List (ByteArray×ByteArray)} (h:MV base w M (.slice (some ⟨g,0,none⟩) m c) m f) (hi:i<m) (h1:Below w.heap.size w w1) (gr:w1.grownBy w' (f i).a.v.ownBlock) (o:TR w' base 74 2 sl.v l'.length (fJ l')) (fr:mV w1 (f i).a.v sl.v):
  (∀ x,aC M (.slice (some ⟨g,0,none⟩) m c) m f x→x<w.heap.size)∧w'.frozen? ⟨g,i*7+2,none⟩=false∧(∀ a b,a<m→b<7→w'.cell? ⟨g,a*7+b,none⟩=(p8 (f a))[b]?)∧
  MV base (w'.setCell ⟨g,i*7+2,none⟩ sl.v) M (.slice (some ⟨g,0,none⟩) m c) m (aV f i fun n=>{ n with a:=sl,at':=l' })∧aB w (w'.setCell ⟨g,i*7+2,none⟩ sl.v) (aC M (.slice (some ⟨g,0,none⟩) m c) m f) (aC M (.slice (some ⟨g,0,none⟩) m c) m (aV f i fun n=>{ n with a:=sl,at':=l' })):=by
 have hb:=h.below h1;have hn1:∀ x,(f i).a.v.ownBlock=some x→x≠M∧x≠g∧(∀ y,y<m→(f y).k.v.ownBlock≠some x)∧∀ y,y<m→y≠i→(f y).a.v.ownBlock≠some x:=fun x hx=>by
  refine⟨fun e=>?_,fun e=>?_,fun y hy=>?_,fun y hy hyi=>?_⟩
  ·exact (hb.ar i hi).unlike hb.var (by decide) (e▸hx)
  ·exact dR (hb.ar i hi) hb.row (by decide) g (by simp[Value.ownBlock]) (e▸hx)
  ·exact (hb.ar i hi).ne (hb.kr y hy) (by decide) x hx
  ·exact hb.aa i y hi hy (fun e=>hyi e.symm) x hx
 have v':Whole w' M #[.slice (some ⟨g,0,none⟩) m c] 55:=hb.var.grown gr (fun e=>(hn1 M e.symm).1 rfl);have r':w'.ownsRow base 52 7 (.slice (some ⟨g,0,none⟩) m c) m (bQ p8 m f):=hb.row.kept gr (.inr fun e=>(hn1 g (by simpa [Value.ownBlock] using e.symm)).2.1 rfl);have o':∀ y,y<m→TR w' base 3 1 (f y).k.v (f y).kids.length (ints (f y).kids):=fun y hy=>(hb.kr y hy).kept gr (by
  cases e:(f y).k.v.ownBlock with
  | none=>exact .inl rfl
  | some x=>exact .inr fun e2=>(hn1 x e2.symm).2.2.1 y hy e)
 have k':∀ y,y<m→y≠i→TR w' base 74 2 (f y).a.v (f y).at'.length (fJ (f y).at'):=fun y hy hyi=>(hb.ar y hy).kept gr (by
  cases e:(f y).a.v.ownBlock with
  | none=>exact .inl rfl
  | some x=>exact .inr fun e2=>(hn1 x e2.symm).2.2.2 y hy hyi e)
 have hg:g<w1.heap.size:=(hb.row.lt g (by simp[Value.ownBlock])).2;have hsl:∀ x,sl.v.ownBlock=some x→(f i).a.v.ownBlock=some x∨w1.heap.size≤x:=fun x hx=>by
  rcases fr with e | e
  ·exact .inl (e▸hx)
  ·exact .inr (e x hx)
 obtain⟨o1,g1⟩:=r'.stored (i*7+2) sl.v;have hgo:sl.v.ownBlock≠some g:=fun e=>by
  rcases hsl g e with e | e
  ·exact (hn1 g e).2.1 rfl
  ·omega
 have q1:∀ x,x≠i→aV f i (fun n=>{ n with a:=sl,at':=l' }) x=f x:=fun x hx=>iW hx;have q2:aV f i (fun n=>{ n with a:=sl,at':=l' }) i={ f i with a:=sl,at':=l' }:=ku f i _;have qo:∀ x,(aV f i (fun n=>{ n with a:=sl,at':=l' }) x).k=(f x).k∧(aV f i (fun n=>{ n with a:=sl,at':=l' }) x).kids=(f x).kids:=fun x=>by
  by_cases e:x=i
  ·subst e;rw[q2];exact⟨rfl,rfl⟩
  ·rw[q1 x e];exact⟨rfl,rfl⟩
 have hap:∀ y,y<m→y≠i→∀ x,sl.v.ownBlock=some x→(f y).a.v.ownBlock≠some x:=fun y hy hyi x hx e=>by
  rcases hsl x hx with e2 | e2
  ·exact (hn1 x e2).2.2.2 y hy hyi e
  ·have:=((hb.ar y hy).lt x e).2;omega
 refine⟨fun x hx=>(h.lt x hx).2,r'.frozenAt _,fun a b ha hb'=>?_,⟨h.low,?_,?_,?_,?_,?_,?_⟩,?_,?_⟩
 ·rw[r'.cellAt _ (by omega)];exact jT tK _ ha hb'
 ·exact v'.grown g1 (fun e=>bA r' v' (by decide) e.symm)
 ·have e:(bQ p8 m f).set (i*7+2) sl.v=bQ p8 m (aV f i fun n=>{ n with a:=sl,at':=l' }):=by
   rw[qH tK _ { f i with a:=sl,at':=l' } sl.v hi (by omega) rfl];exact jm fun k _=>by unfold aV;rfl
  rw[←e];exact o1
 ·intro y hy;by_cases e:y=i
  ·subst e;rw[q2];exact o.turns (.aT g1 (S:=fun k=>k=g) (fun k hk=>by simpa using hk.symm)) (fun k hk e=>hgo (e▸hk))
  ·rw[q1 y e];exact (k' y hy e).kept g1 (.inr (dR (k' y hy e) r' (by decide) g (by simp[Value.ownBlock])))
 ·intro y hy;rw[(qo y).1,(qo y).2];exact (o' y hy).kept g1 (.inr (dR (o' y hy) r' (by decide) g (by simp[Value.ownBlock])))
 ·intro x y hx hy e z hz;by_cases ex:x=i
  ·subst ex;rw[q2] at hz;rw[q1 y (fun e2=>e e2.symm)];exact hap y hy (fun e2=>e e2.symm) z hz
  ·rw[q1 x ex] at hz;by_cases ey:y=i
   ·subst ey;rw[q2];exact fun e2=>hap x hx ex z e2 hz
   ·rw[q1 y ey];exact h.aa x y hx hy e z hz
 ·intro x y hx hy e z hz;rw[(qo x).1] at hz;rw[(qo y).1];exact h.kk x y hx hy e z hz
 ·have t1:Turns (aC M (.slice (some ⟨g,0,none⟩) m c) m f) w w1:=.of_below h1;have t2:Turns (aC M (.slice (some ⟨g,0,none⟩) m c) m f) w1 w':=.aT gr (fun k hk=>.inr (.inr ⟨i,hi,.inl hk⟩));have t3:Turns (aC M (.slice (some ⟨g,0,none⟩) m c) m f) w' (w'.setCell ⟨g,i*7+2,none⟩ sl.v):=.aT g1 (fun k hk=>.inr (.inl (by simpa [Value.ownBlock] using hk)));exact (t1.trans t2 (fun _ _ x=>x) (fun _ _ x=>x)).trans t3 (fun _ _ x=>x) (fun _ _ x=>x)
 ·rintro x hx (rfl | hv | ⟨y,hy,hv | hv⟩)
  ·exact .inl rfl
  ·exact .inr (.inl hv)
  ·by_cases e:y=i
   ·subst e;rw[q2] at hv;rcases hsl x hv with e2 | e2
    ·exact .inr (.inr ⟨y,hy,.inl e2⟩)
    ·have:=h1.size;omega
   ·rw[q1 y e] at hv;exact .inr (.inr ⟨y,hy,.inl hv⟩)
  ·rw[(qo y).1] at hv;exact .inr (.inr ⟨y,hy,.inr hv⟩)
theorem MV.Mq {g c i j ga oa:Nat} {p:ByteArray×ByteArray} {v:ByteArray} (h:MV base w M (.slice (some ⟨g,0,none⟩) m c) m f) (hi:i<m) (hA:(f i).a.a=some ⟨ga,oa,none⟩) (hn:(f i).a.n=(f i).at'.length) (hj:(f i).at'[j]?=some p):
  MV base (w.setCell ⟨ga,oa+(j*2+1),none⟩ (.string v)) M (.slice (some ⟨g,0,none⟩) m c) m (aV f i fun n=>{ n with at':=n.at'.set j (p.1,v) })∧aB w (w.setCell ⟨ga,oa+(j*2+1),none⟩ (.string v)) (aC M (.slice (some ⟨g,0,none⟩) m c) m f) (aC M (.slice (some ⟨g,0,none⟩) m c) m (aV f i fun n=>{ n with at':=n.at'.set j (p.1,v) })):=by
 have hr:=h.ar i hi;have hv:(f i).a.v=.slice (some ⟨ga,oa,none⟩) (f i).at'.length (f i).a.c:=by unfold Tr.Sl.v;rw[hA,hn]
 rw[hv] at hr;obtain⟨o1,g1⟩:=hr.stored (j*2+1) (.string v);rw[yS _ _ _ hj] at o1;have Yq:(f i).a.v.ownBlock=some ga:=by rw[hv];rfl
 have q1:∀ x,x≠i→aV f i (fun n=>{ n with at':=n.at'.set j (p.1,v) }) x=f x:=fun x hx=>iW hx;have q2:aV f i (fun n=>{ n with at':=n.at'.set j (p.1,v) }) i={ f i with at':=(f i).at'.set j (p.1,v) }:=ku f i _;have qo:∀ x,(aV f i (fun n=>{ n with at':=n.at'.set j (p.1,v) }) x).a=(f x).a∧(aV f i (fun n=>{ n with at':=n.at'.set j (p.1,v) }) x).k=(f x).k∧(aV f i (fun n=>{ n with at':=n.at'.set j (p.1,v) }) x).kids=(f x).kids∧p8 (aV f i (fun n=>{ n with at':=n.at'.set j (p.1,v) }) x)=p8 (f x):=fun x=>by
  by_cases e:x=i
  ·subst e;rw[q2];exact⟨rfl,rfl,rfl,rfl⟩
  ·rw[q1 x e];exact⟨rfl,rfl,rfl,rfl⟩
 have hF:aC M (.slice (some ⟨g,0,none⟩) m c) m (aV f i fun n=>{ n with at':=n.at'.set j (p.1,v) })=aC M (.slice (some ⟨g,0,none⟩) m c) m f:=by
  funext x;unfold aC;simp only[(qo _).1,(qo _).2.1]
 refine⟨⟨h.low,h.var.grown g1 (fun e=>?_),?_,fun y hy=>?_,fun y hy=>?_,fun x y hx hy e z hz=>?_,fun x y hx hy e z hz=>?_⟩,?_⟩
 ·exact (h.ar i hi).unlike h.var (by decide) (Yq.trans e.symm)
 ·have e:bQ p8 m (aV f i fun n=>{ n with at':=n.at'.set j (p.1,v) })=bQ p8 m f:=by
   unfold bQ;rw[List.flatMap_def,List.flatMap_def];congr 1;exact List.map_congr_left fun k _=>(qo k).2.2.2
  rw[e];exact h.row.kept g1 (.inr fun e=>dR (h.ar i hi) h.row (by decide) ga e Yq)
 ·by_cases e:y=i
  ·subst e;rw[q2];dsimp only;rw[List.length_set,hv];exact o1
  ·rw[q1 y e];exact (h.ar y hy).kept g1 (.inr fun e2=>h.aa i y hi hy (fun e3=>e e3.symm) ga Yq e2)
 ·rw[(qo y).2.1,(qo y).2.2.1];exact (h.kr y hy).kept g1 (.inr fun e2=>(h.ar i hi).ne (h.kr y hy) (by decide) ga Yq e2)
 ·rw[(qo x).1] at hz;rw[(qo y).1];exact h.aa x y hx hy e z hz
 ·rw[(qo x).2.1] at hz;rw[(qo y).2.1];exact h.kk x y hx hy e z hz
 ·rw[hF];exact .p9 (.aT g1 (fun k hk=>.inr (.inr ⟨i,hi,.inl (Yq.trans hk)⟩)))
def iD (m:Nat) (f:Nat→RS) (x:RS):Nat→RS:=fun i=>if i=m then x else f i
theorem eD {m i:Nat} {f:Nat→RS} {x:RS} (h:i<m):iD m f x i=f i:=if_neg (by omega)
theorem dQ {m:Nat} {f:Nat→RS} {x:RS}:iD m f x m=x:=if_pos rfl
theorem Gg (m:Nat) (f:Nat→RS) (x:RS):bQ p8 (m+1) (iD m f x)=bQ p8 m f++p8 x:=by
 rw[oG,dQ,jm (g:=f) fun i hi=>eD hi]
theorem MV.push {x:RS} (h:MV base w M vs m f) (h1:Below w.heap.size w w1) (gr:w1.grownBy w' vs.ownBlock) (o:w'.ownsRow base 52 7 v' (m+1) (bQ p8 m f++p8 x)) (fr:mV w1 vs v')
  (hk:x.k=⟨none,0,0⟩) (hk2:x.kids=[]) (ha:TR w1 w.heap.size 74 2 x.a.v x.at'.length (fJ x.at')):
  Whole w' M #[vs] 55∧MV base (w'.setCell ⟨M,0,none⟩ v') M v' (m+1) (iD m f x)∧aB w (w'.setCell ⟨M,0,none⟩ v') (aC M vs m f) (aC M v' (m+1) (iD m f x)):=by
 have hb:=h.below h1;have hWl:w.heap.size≤w1.heap.size:=h1.size;have WC:=h.var.lt;have v2:Whole w' M #[vs] 55:=hb.var.grown gr (fun e=>bA hb.row hb.var (by decide) e.symm);have g1:w'.grownBy (w'.setCell ⟨M,0,none⟩ v') (some M):=aO (ay (Below.refl w'.heap.size w') _) 0 v';have hxk:x.k.v.ownBlock=none:=by rw[hk];rfl
 have hxa:∀ z,x.a.v.ownBlock=some z→w.heap.size≤z:=fun z hz=>(ha.lt z hz).1;have aN:∀ y,y<m→∀ z,(f y).a.v.ownBlock=some z→vs.ownBlock≠some z:=fun y hy z hz e=>dR (hb.ar y hy) hb.row (by decide) z e hz;have kN:∀ y,y<m→∀ z,(f y).k.v.ownBlock=some z→vs.ownBlock≠some z:=fun y hy z hz e=>dR (hb.kr y hy) hb.row (by decide) z e hz;have keep:∀ {b sz n:Nat} {e:TypeId} {v:Value} {xs:List Value},TR w1 b e sz v n xs→e≠52→e≠55→TR (w'.setCell ⟨M,0,none⟩ v') b e sz v n xs:=fun t e1 e2=>by
  have t':=t.kept gr (by
   cases e:Value.ownBlock _ with
   | none=>exact .inl rfl
   | some z=>exact .inr fun e3=>dR t hb.row e1 z e3.symm e)
  exact t'.kept g1 (t'.Rp v2 e2)
 refine⟨v2,⟨h.low,v2.put 0 v',?_,fun y hy=>?_,fun y hy=>?_,fun a b hx hy e z hz=>?_,fun a b hx hy e z hz=>?_⟩,?_,?_⟩
 ·rw[Gg];exact o.kept g1 (.inr (bA o v2 (by decide)))
 ·by_cases e:y=m
  ·subst e;rw[dQ];exact (keep ha (by decide) (by decide)).lower (by have:=h.low;omega)
  ·rw[eD (by omega)];exact keep (hb.ar y (by omega)) (by decide) (by decide)
 ·by_cases e:y=m
  ·subst e;rw[dQ,hk,hk2];exact TR.nil _ _ _ _
  ·rw[eD (by omega)];exact keep (hb.kr y (by omega)) (by decide) (by decide)
 ·by_cases ea:a=m
  ·subst ea;rw[dQ] at hz;rw[eD (by omega)];intro e2;have:=hxa z hz;have:=((h.ar b (by omega)).lt z e2).2;omega
  ·rw[eD (by omega)] at hz;by_cases eb:b=m
   ·subst eb;rw[dQ];intro e2;have:=hxa z e2;have:=((h.ar a (by omega)).lt z hz).2;omega
   ·rw[eD (by omega)];exact h.aa a b (by omega) (by omega) e z hz
 ·by_cases ea:a=m
  ·subst ea;rw[dQ,hxk] at hz;cases hz
  ·rw[eD (by omega)] at hz;by_cases eb:b=m
   ·subst eb;rw[dQ,hxk];intro e2;cases e2
   ·rw[eD (by omega)];exact h.kk a b (by omega) (by omega) e z hz
 ·have t1:Turns (aC M vs m f) w w1:=.of_below h1;have t2:Turns (aC M vs m f) w1 w':=.aT gr (fun k hk=>.inr (.inl hk));have t3:Turns (aC M vs m f) w' (w'.setCell ⟨M,0,none⟩ v'):=.aT g1 (fun k hk=>.inl (by simpa using hk.symm));exact (t1.trans t2 (fun _ _ x=>x) (fun _ _ x=>x)).trans t3 (fun _ _ x=>x) (fun _ _ x=>x)
 ·rintro z hz (rfl | hv | ⟨y,hy,hv | hv⟩)
  ·exact .inl rfl
  ·rcases fr with e | e
   ·exact .inr (.inl (e▸hv))
   ·have:=e z hv;omega
  ·by_cases e:y=m
   ·subst e;rw[dQ] at hv;have:=hxa z hv;omega
   ·rw[eD (by omega)] at hv;exact .inr (.inr ⟨y,by omega,.inl hv⟩)
  ·by_cases e:y=m
   ·subst e;rw[dQ,hxk] at hv;cases hv
   ·rw[eD (by omega)] at hv;exact .inr (.inr ⟨y,by omega,.inr hv⟩)
end
end
end Go.Proofs.YtjpbhkcjmdndjaaGreatDoor
