/- Part of a proof about trees. -/
import Derived.Test.YtmhjlifmcadefaaGreatDoorS01
set_option linter.unusedVariables false
set_option linter.unusedSimpArgs false
set_option linter.unusedSectionVars false
namespace Go.Proofs.YtmhjlifmcadefaaGreatDoor
section
open Go Go.RowKit
section
variable {base M m:Nat} {w w1 w':World} {vs v':Value} {f:Nat→RS}
theorem MV.Aq {g c i:Nat} {sl:Tr.Sl} {l':List Int} (h:MV base w M (.slice (some ⟨g,0,none⟩) m c) m f) (hi:i<m) (h1:Below w.heap.size w w1) (gr:w1.grownBy w' (f i).k.v.ownBlock) (o:TR w' base 3 1 sl.v l'.length (ints l')) (fr:mP w1 (f i).k.v sl.v):
  (∀ x,aC M (.slice (some ⟨g,0,none⟩) m c) m f x→x<w.heap.size)∧w'.frozen? ⟨g,i*7+5,none⟩=false∧(∀ a b,a<m→b<7→w'.cell? ⟨g,a*7+b,none⟩=(qO (f a))[b]?)∧
  MV base (w'.setCell ⟨g,i*7+5,none⟩ sl.v) M (.slice (some ⟨g,0,none⟩) m c) m (aX f i fun n=>{ n with k:=sl,kids:=l' })∧aB w (w'.setCell ⟨g,i*7+5,none⟩ sl.v) (aC M (.slice (some ⟨g,0,none⟩) m c) m f) (aC M (.slice (some ⟨g,0,none⟩) m c) m (aX f i fun n=>{ n with k:=sl,kids:=l' })):=by
 have hb:=h.below h1;have hn1:∀ x,(f i).k.v.ownBlock=some x→x≠M∧x≠g∧(∀ y,y<m→(f y).a.v.ownBlock≠some x)∧∀ y,y<m→y≠i→(f y).k.v.ownBlock≠some x:=fun x hx=>by
  refine⟨fun e=>?_,fun e=>?_,fun y hy=>?_,fun y hy hyi=>?_⟩
  ·exact (hb.kr i hi).unlike hb.var (by decide) (e▸hx)
  ·exact dN (hb.kr i hi) hb.row (by decide) g (by simp[Value.ownBlock]) (e▸hx)
  ·exact (hb.kr i hi).ne (hb.ar y hy) (by decide) x hx
  ·exact hb.kk i y hi hy (fun e=>hyi e.symm) x hx
 have v':Whole w' M #[.slice (some ⟨g,0,none⟩) m c] 72:=hb.var.grown gr (fun e=>(hn1 M e.symm).1 rfl);have r':w'.ownsRow base 75 7 (.slice (some ⟨g,0,none⟩) m c) m (bW qO m f):=hb.row.kept gr (.inr fun e=>(hn1 g (by simpa [Value.ownBlock] using e.symm)).2.1 rfl);have o':∀ y,y<m→TR w' base 96 2 (f y).a.v (f y).at'.length (fP (f y).at'):=fun y hy=>(hb.ar y hy).kept gr (by
  cases e:(f y).a.v.ownBlock with
  | none=>exact .inl rfl
  | some x=>exact .inr fun e2=>(hn1 x e2.symm).2.2.1 y hy e)
 have k':∀ y,y<m→y≠i→TR w' base 3 1 (f y).k.v (f y).kids.length (ints (f y).kids):=fun y hy hyi=>(hb.kr y hy).kept gr (by
  cases e:(f y).k.v.ownBlock with
  | none=>exact .inl rfl
  | some x=>exact .inr fun e2=>(hn1 x e2.symm).2.2.2 y hy hyi e)
 have hg:g<w1.heap.size:=(hb.row.lt g (by simp[Value.ownBlock])).2;have hsl:∀ x,sl.v.ownBlock=some x→(f i).k.v.ownBlock=some x∨w1.heap.size≤x:=fun x hx=>by
  rcases fr with e | e
  ·exact .inl (e▸hx)
  ·exact .inr (e x hx)
 obtain⟨o1,g1⟩:=r'.stored (i*7+5) sl.v;have hgo:sl.v.ownBlock≠some g:=fun e=>by
  rcases hsl g e with e | e
  ·exact (hn1 g e).2.1 rfl
  ·omega
 have q1:∀ x,x≠i→aX f i (fun n=>{ n with k:=sl,kids:=l' }) x=f x:=fun x hx=>iP hx;have q2:aX f i (fun n=>{ n with k:=sl,kids:=l' }) i={ f i with k:=sl,kids:=l' }:=ku f i _;have qo:∀ x,(aX f i (fun n=>{ n with k:=sl,kids:=l' }) x).a=(f x).a∧(aX f i (fun n=>{ n with k:=sl,kids:=l' }) x).at'=(f x).at':=fun x=>by
  by_cases e:x=i
  ·subst e;rw[q2];exact⟨rfl,rfl⟩
  ·rw[q1 x e];exact⟨rfl,rfl⟩
 have hap:∀ y,y<m→y≠i→∀ x,sl.v.ownBlock=some x→(f y).k.v.ownBlock≠some x:=fun y hy hyi x hx e=>by
  rcases hsl x hx with e2 | e2
  ·exact (hn1 x e2).2.2.2 y hy hyi e
  ·have:=((hb.kr y hy).lt x e).2;omega
 refine⟨fun x hx=>(h.lt x hx).2,r'.frozenAt _,fun a b ha hb'=>?_,⟨h.low,?_,?_,?_,?_,?_,?_⟩,?_,?_⟩
 ·rw[r'.cellAt _ (by omega)];exact jS tq _ ha hb'
 ·exact v'.grown g1 (fun e=>bE r' v' (by decide) e.symm)
 ·have e:(bW qO m f).set (i*7+5) sl.v=bW qO m (aX f i fun n=>{ n with k:=sl,kids:=l' }):=by
   rw[qC tq _ { f i with k:=sl,kids:=l' } sl.v hi (by omega) rfl];exact jo fun k _=>by unfold aX;rfl
  rw[←e];exact o1
 ·intro y hy;rw[(qo y).1,(qo y).2];exact (o' y hy).kept g1 (.inr (dN (o' y hy) r' (by decide) g (by simp[Value.ownBlock])))
 ·intro y hy;by_cases e:y=i
  ·subst e;rw[q2];exact o.turns (.aU g1 (S:=fun k=>k=g) (fun k hk=>by simpa using hk.symm)) (fun k hk e=>hgo (e▸hk))
  ·rw[q1 y e];exact (k' y hy e).kept g1 (.inr (dN (k' y hy e) r' (by decide) g (by simp[Value.ownBlock])))
 ·intro x y hx hy e z hz;rw[(qo x).1] at hz;rw[(qo y).1];exact h.aa x y hx hy e z hz
 ·intro x y hx hy e z hz;by_cases ex:x=i
  ·subst ex;rw[q2] at hz;rw[q1 y (fun e2=>e e2.symm)];exact hap y hy (fun e2=>e e2.symm) z hz
  ·rw[q1 x ex] at hz;by_cases ey:y=i
   ·subst ey;rw[q2];exact fun e2=>hap x hx ex z e2 hz
   ·rw[q1 y ey];exact h.kk x y hx hy e z hz
 ·have t1:Turns (aC M (.slice (some ⟨g,0,none⟩) m c) m f) w w1:=.of_below h1;have t2:Turns (aC M (.slice (some ⟨g,0,none⟩) m c) m f) w1 w':=.aU gr (fun k hk=>.inr (.inr ⟨i,hi,.inr hk⟩));have t3:Turns (aC M (.slice (some ⟨g,0,none⟩) m c) m f) w' (w'.setCell ⟨g,i*7+5,none⟩ sl.v):=.aU g1 (fun k hk=>.inr (.inl (by simpa [Value.ownBlock] using hk)));exact (t1.trans t2 (fun _ _ x=>x) (fun _ _ x=>x)).trans t3 (fun _ _ x=>x) (fun _ _ x=>x)
 ·rintro x hx (rfl | hv | ⟨y,hy,hv | hv⟩)
  ·exact .inl rfl
  ·exact .inr (.inl hv)
  ·rw[(qo y).1] at hv;exact .inr (.inr ⟨y,hy,.inl hv⟩)
  ·by_cases e:y=i
   ·subst e;rw[q2] at hv;rcases hsl x hv with e2 | e2
    ·exact .inr (.inr ⟨y,hy,.inr e2⟩)
    ·have:=h1.size;omega
   ·rw[q1 y e] at hv;exact .inr (.inr ⟨y,hy,.inr hv⟩)
theorem MV.nC {g c i:Nat} {sl:Tr.Sl} {l':List (ByteArray×ByteArray)} (h:MV base w M (.slice (some ⟨g,0,none⟩) m c) m f) (hi:i<m) (h1:Below w.heap.size w w1) (gr:w1.grownBy w' (f i).a.v.ownBlock) (o:TR w' base 96 2 sl.v l'.length (fP l')) (fr:mP w1 (f i).a.v sl.v):
  (∀ x,aC M (.slice (some ⟨g,0,none⟩) m c) m f x→x<w.heap.size)∧w'.frozen? ⟨g,i*7+2,none⟩=false∧(∀ a b,a<m→b<7→w'.cell? ⟨g,a*7+b,none⟩=(qO (f a))[b]?)∧
  MV base (w'.setCell ⟨g,i*7+2,none⟩ sl.v) M (.slice (some ⟨g,0,none⟩) m c) m (aX f i fun n=>{ n with a:=sl,at':=l' })∧aB w (w'.setCell ⟨g,i*7+2,none⟩ sl.v) (aC M (.slice (some ⟨g,0,none⟩) m c) m f) (aC M (.slice (some ⟨g,0,none⟩) m c) m (aX f i fun n=>{ n with a:=sl,at':=l' })):=by
 have hb:=h.below h1;have hn1:∀ x,(f i).a.v.ownBlock=some x→x≠M∧x≠g∧(∀ y,y<m→(f y).k.v.ownBlock≠some x)∧∀ y,y<m→y≠i→(f y).a.v.ownBlock≠some x:=fun x hx=>by
  refine⟨fun e=>?_,fun e=>?_,fun y hy=>?_,fun y hy hyi=>?_⟩
  ·exact (hb.ar i hi).unlike hb.var (by decide) (e▸hx)
  ·exact dN (hb.ar i hi) hb.row (by decide) g (by simp[Value.ownBlock]) (e▸hx)
  ·exact (hb.ar i hi).ne (hb.kr y hy) (by decide) x hx
  ·exact hb.aa i y hi hy (fun e=>hyi e.symm) x hx
 have v':Whole w' M #[.slice (some ⟨g,0,none⟩) m c] 72:=hb.var.grown gr (fun e=>(hn1 M e.symm).1 rfl);have r':w'.ownsRow base 75 7 (.slice (some ⟨g,0,none⟩) m c) m (bW qO m f):=hb.row.kept gr (.inr fun e=>(hn1 g (by simpa [Value.ownBlock] using e.symm)).2.1 rfl);have o':∀ y,y<m→TR w' base 3 1 (f y).k.v (f y).kids.length (ints (f y).kids):=fun y hy=>(hb.kr y hy).kept gr (by
  cases e:(f y).k.v.ownBlock with
  | none=>exact .inl rfl
  | some x=>exact .inr fun e2=>(hn1 x e2.symm).2.2.1 y hy e)
 have k':∀ y,y<m→y≠i→TR w' base 96 2 (f y).a.v (f y).at'.length (fP (f y).at'):=fun y hy hyi=>(hb.ar y hy).kept gr (by
  cases e:(f y).a.v.ownBlock with
  | none=>exact .inl rfl
  | some x=>exact .inr fun e2=>(hn1 x e2.symm).2.2.2 y hy hyi e)
 have hg:g<w1.heap.size:=(hb.row.lt g (by simp[Value.ownBlock])).2;have hsl:∀ x,sl.v.ownBlock=some x→(f i).a.v.ownBlock=some x∨w1.heap.size≤x:=fun x hx=>by
  rcases fr with e | e
  ·exact .inl (e▸hx)
  ·exact .inr (e x hx)
 obtain⟨o1,g1⟩:=r'.stored (i*7+2) sl.v;have hgo:sl.v.ownBlock≠some g:=fun e=>by
  rcases hsl g e with e | e
  ·exact (hn1 g e).2.1 rfl
  ·omega
 have q1:∀ x,x≠i→aX f i (fun n=>{ n with a:=sl,at':=l' }) x=f x:=fun x hx=>iP hx;have q2:aX f i (fun n=>{ n with a:=sl,at':=l' }) i={ f i with a:=sl,at':=l' }:=ku f i _;have qo:∀ x,(aX f i (fun n=>{ n with a:=sl,at':=l' }) x).k=(f x).k∧(aX f i (fun n=>{ n with a:=sl,at':=l' }) x).kids=(f x).kids:=fun x=>by
  by_cases e:x=i
  ·subst e;rw[q2];exact⟨rfl,rfl⟩
  ·rw[q1 x e];exact⟨rfl,rfl⟩
 have hap:∀ y,y<m→y≠i→∀ x,sl.v.ownBlock=some x→(f y).a.v.ownBlock≠some x:=fun y hy hyi x hx e=>by
  rcases hsl x hx with e2 | e2
  ·exact (hn1 x e2).2.2.2 y hy hyi e
  ·have:=((hb.ar y hy).lt x e).2;omega
 refine⟨fun x hx=>(h.lt x hx).2,r'.frozenAt _,fun a b ha hb'=>?_,⟨h.low,?_,?_,?_,?_,?_,?_⟩,?_,?_⟩
 ·rw[r'.cellAt _ (by omega)];exact jS tq _ ha hb'
 ·exact v'.grown g1 (fun e=>bE r' v' (by decide) e.symm)
 ·have e:(bW qO m f).set (i*7+2) sl.v=bW qO m (aX f i fun n=>{ n with a:=sl,at':=l' }):=by
   rw[qC tq _ { f i with a:=sl,at':=l' } sl.v hi (by omega) rfl];exact jo fun k _=>by unfold aX;rfl
  rw[←e];exact o1
 ·intro y hy;by_cases e:y=i
  ·subst e;rw[q2];exact o.turns (.aU g1 (S:=fun k=>k=g) (fun k hk=>by simpa using hk.symm)) (fun k hk e=>hgo (e▸hk))
  ·rw[q1 y e];exact (k' y hy e).kept g1 (.inr (dN (k' y hy e) r' (by decide) g (by simp[Value.ownBlock])))
 ·intro y hy;rw[(qo y).1,(qo y).2];exact (o' y hy).kept g1 (.inr (dN (o' y hy) r' (by decide) g (by simp[Value.ownBlock])))
 ·intro x y hx hy e z hz;by_cases ex:x=i
  ·subst ex;rw[q2] at hz;rw[q1 y (fun e2=>e e2.symm)];exact hap y hy (fun e2=>e e2.symm) z hz
  ·rw[q1 x ex] at hz;by_cases ey:y=i
   ·subst ey;rw[q2];exact fun e2=>hap x hx ex z e2 hz
   ·rw[q1 y ey];exact h.aa x y hx hy e z hz
 ·intro x y hx hy e z hz;rw[(qo x).1] at hz;rw[(qo y).1];exact h.kk x y hx hy e z hz
 ·have t1:Turns (aC M (.slice (some ⟨g,0,none⟩) m c) m f) w w1:=.of_below h1;have t2:Turns (aC M (.slice (some ⟨g,0,none⟩) m c) m f) w1 w':=.aU gr (fun k hk=>.inr (.inr ⟨i,hi,.inl hk⟩));have t3:Turns (aC M (.slice (some ⟨g,0,none⟩) m c) m f) w' (w'.setCell ⟨g,i*7+2,none⟩ sl.v):=.aU g1 (fun k hk=>.inr (.inl (by simpa [Value.ownBlock] using hk)));exact (t1.trans t2 (fun _ _ x=>x) (fun _ _ x=>x)).trans t3 (fun _ _ x=>x) (fun _ _ x=>x)
 ·rintro x hx (rfl | hv | ⟨y,hy,hv | hv⟩)
  ·exact .inl rfl
  ·exact .inr (.inl hv)
  ·by_cases e:y=i
   ·subst e;rw[q2] at hv;rcases hsl x hv with e2 | e2
    ·exact .inr (.inr ⟨y,hy,.inl e2⟩)
    ·have:=h1.size;omega
   ·rw[q1 y e] at hv;exact .inr (.inr ⟨y,hy,.inl hv⟩)
  ·rw[(qo y).1] at hv;exact .inr (.inr ⟨y,hy,.inr hv⟩)
theorem MV.M9 {g c i j ga oa:Nat} {p:ByteArray×ByteArray} {v:ByteArray} (h:MV base w M (.slice (some ⟨g,0,none⟩) m c) m f) (hi:i<m) (hA:(f i).a.a=some ⟨ga,oa,none⟩) (hn:(f i).a.n=(f i).at'.length) (hj:(f i).at'[j]?=some p):
  MV base (w.setCell ⟨ga,oa+(j*2+1),none⟩ (.string v)) M (.slice (some ⟨g,0,none⟩) m c) m (aX f i fun n=>{ n with at':=n.at'.set j (p.1,v) })∧aB w (w.setCell ⟨ga,oa+(j*2+1),none⟩ (.string v)) (aC M (.slice (some ⟨g,0,none⟩) m c) m f) (aC M (.slice (some ⟨g,0,none⟩) m c) m (aX f i fun n=>{ n with at':=n.at'.set j (p.1,v) })):=by
 have hr:=h.ar i hi;have hv:(f i).a.v=.slice (some ⟨ga,oa,none⟩) (f i).at'.length (f i).a.c:=by unfold Tr.Sl.v;rw[hA,hn]
 rw[hv] at hr;obtain⟨o1,g1⟩:=hr.stored (j*2+1) (.string v);rw[zo _ _ _ hj] at o1;have Y7:(f i).a.v.ownBlock=some ga:=by rw[hv];rfl
 have q1:∀ x,x≠i→aX f i (fun n=>{ n with at':=n.at'.set j (p.1,v) }) x=f x:=fun x hx=>iP hx;have q2:aX f i (fun n=>{ n with at':=n.at'.set j (p.1,v) }) i={ f i with at':=(f i).at'.set j (p.1,v) }:=ku f i _;have qo:∀ x,(aX f i (fun n=>{ n with at':=n.at'.set j (p.1,v) }) x).a=(f x).a∧(aX f i (fun n=>{ n with at':=n.at'.set j (p.1,v) }) x).k=(f x).k∧(aX f i (fun n=>{ n with at':=n.at'.set j (p.1,v) }) x).kids=(f x).kids∧qO (aX f i (fun n=>{ n with at':=n.at'.set j (p.1,v) }) x)=qO (f x):=fun x=>by
  by_cases e:x=i
  ·subst e;rw[q2];exact⟨rfl,rfl,rfl,rfl⟩
  ·rw[q1 x e];exact⟨rfl,rfl,rfl,rfl⟩
 have hF:aC M (.slice (some ⟨g,0,none⟩) m c) m (aX f i fun n=>{ n with at':=n.at'.set j (p.1,v) })=aC M (.slice (some ⟨g,0,none⟩) m c) m f:=by
  funext x;unfold aC;simp only[(qo _).1,(qo _).2.1]
 refine⟨⟨h.low,h.var.grown g1 (fun e=>?_),?_,fun y hy=>?_,fun y hy=>?_,fun x y hx hy e z hz=>?_,fun x y hx hy e z hz=>?_⟩,?_⟩
 ·exact (h.ar i hi).unlike h.var (by decide) (Y7.trans e.symm)
 ·have e:bW qO m (aX f i fun n=>{ n with at':=n.at'.set j (p.1,v) })=bW qO m f:=by
   unfold bW;rw[List.flatMap_def,List.flatMap_def];congr 1;exact List.map_congr_left fun k _=>(qo k).2.2.2
  rw[e];exact h.row.kept g1 (.inr fun e=>dN (h.ar i hi) h.row (by decide) ga e Y7)
 ·by_cases e:y=i
  ·subst e;rw[q2];dsimp only;rw[List.length_set,hv];exact o1
  ·rw[q1 y e];exact (h.ar y hy).kept g1 (.inr fun e2=>h.aa i y hi hy (fun e3=>e e3.symm) ga Y7 e2)
 ·rw[(qo y).2.1,(qo y).2.2.1];exact (h.kr y hy).kept g1 (.inr fun e2=>(h.ar i hi).ne (h.kr y hy) (by decide) ga Y7 e2)
 ·rw[(qo x).1] at hz;rw[(qo y).1];exact h.aa x y hx hy e z hz
 ·rw[(qo x).2.1] at hz;rw[(qo y).2.1];exact h.kk x y hx hy e z hz
 ·rw[hF];exact .pR (.aU g1 (fun k hk=>.inr (.inr ⟨i,hi,.inl (Y7.trans hk)⟩)))
def gZ (m:Nat) (f:Nat→RS) (x:RS):Nat→RS:=fun i=>if i=m then x else f i
theorem dY {m i:Nat} {f:Nat→RS} {x:RS} (h:i<m):gZ m f x i=f i:=if_neg (by omega)
theorem dO {m:Nat} {f:Nat→RS} {x:RS}:gZ m f x m=x:=if_pos rfl
theorem Gt (m:Nat) (f:Nat→RS) (x:RS):bW qO (m+1) (gZ m f x)=bW qO m f++qO x:=by
 rw[og,dO,jo (g:=f) fun i hi=>dY hi]
theorem MV.push {x:RS} (h:MV base w M vs m f) (h1:Below w.heap.size w w1) (gr:w1.grownBy w' vs.ownBlock) (o:w'.ownsRow base 75 7 v' (m+1) (bW qO m f++qO x)) (fr:mP w1 vs v')
  (hk:x.k=⟨none,0,0⟩) (hk2:x.kids=[]) (ha:TR w1 w.heap.size 96 2 x.a.v x.at'.length (fP x.at')):
  Whole w' M #[vs] 72∧MV base (w'.setCell ⟨M,0,none⟩ v') M v' (m+1) (gZ m f x)∧aB w (w'.setCell ⟨M,0,none⟩ v') (aC M vs m f) (aC M v' (m+1) (gZ m f x)):=by
 have hb:=h.below h1;have hWl:w.heap.size≤w1.heap.size:=h1.size;have YL:=h.var.lt;have v2:Whole w' M #[vs] 72:=hb.var.grown gr (fun e=>bE hb.row hb.var (by decide) e.symm);have g1:w'.grownBy (w'.setCell ⟨M,0,none⟩ v') (some M):=aJ (ay (Below.refl w'.heap.size w') _) 0 v';have hxk:x.k.v.ownBlock=none:=by rw[hk];rfl
 have hxa:∀ z,x.a.v.ownBlock=some z→w.heap.size≤z:=fun z hz=>(ha.lt z hz).1;have aN:∀ y,y<m→∀ z,(f y).a.v.ownBlock=some z→vs.ownBlock≠some z:=fun y hy z hz e=>dN (hb.ar y hy) hb.row (by decide) z e hz;have kN:∀ y,y<m→∀ z,(f y).k.v.ownBlock=some z→vs.ownBlock≠some z:=fun y hy z hz e=>dN (hb.kr y hy) hb.row (by decide) z e hz;have keep:∀ {b sz n:Nat} {e:TypeId} {v:Value} {xs:List Value},TR w1 b e sz v n xs→e≠75→e≠72→TR (w'.setCell ⟨M,0,none⟩ v') b e sz v n xs:=fun t e1 e2=>by
  have t':=t.kept gr (by
   cases e:Value.ownBlock _ with
   | none=>exact .inl rfl
   | some z=>exact .inr fun e3=>dN t hb.row e1 z e3.symm e)
  exact t'.kept g1 (t'.Sg v2 e2)
 refine⟨v2,⟨h.low,v2.put 0 v',?_,fun y hy=>?_,fun y hy=>?_,fun a b hx hy e z hz=>?_,fun a b hx hy e z hz=>?_⟩,?_,?_⟩
 ·rw[Gt];exact o.kept g1 (.inr (bE o v2 (by decide)))
 ·by_cases e:y=m
  ·subst e;rw[dO];exact (keep ha (by decide) (by decide)).lower (by have:=h.low;omega)
  ·rw[dY (by omega)];exact keep (hb.ar y (by omega)) (by decide) (by decide)
 ·by_cases e:y=m
  ·subst e;rw[dO,hk,hk2];exact TR.nil _ _ _ _
  ·rw[dY (by omega)];exact keep (hb.kr y (by omega)) (by decide) (by decide)
 ·by_cases ea:a=m
  ·subst ea;rw[dO] at hz;rw[dY (by omega)];intro e2;have:=hxa z hz;have:=((h.ar b (by omega)).lt z e2).2;omega
  ·rw[dY (by omega)] at hz;by_cases eb:b=m
   ·subst eb;rw[dO];intro e2;have:=hxa z e2;have:=((h.ar a (by omega)).lt z hz).2;omega
   ·rw[dY (by omega)];exact h.aa a b (by omega) (by omega) e z hz
 ·by_cases ea:a=m
  ·subst ea;rw[dO,hxk] at hz;cases hz
  ·rw[dY (by omega)] at hz;by_cases eb:b=m
   ·subst eb;rw[dO,hxk];intro e2;cases e2
   ·rw[dY (by omega)];exact h.kk a b (by omega) (by omega) e z hz
 ·have t1:Turns (aC M vs m f) w w1:=.of_below h1;have t2:Turns (aC M vs m f) w1 w':=.aU gr (fun k hk=>.inr (.inl hk));have t3:Turns (aC M vs m f) w' (w'.setCell ⟨M,0,none⟩ v'):=.aU g1 (fun k hk=>.inl (by simpa using hk.symm));exact (t1.trans t2 (fun _ _ x=>x) (fun _ _ x=>x)).trans t3 (fun _ _ x=>x) (fun _ _ x=>x)
 ·rintro z hz (rfl | hv | ⟨y,hy,hv | hv⟩)
  ·exact .inl rfl
  ·rcases fr with e | e
   ·exact .inr (.inl (e▸hv))
   ·have:=e z hv;omega
  ·by_cases e:y=m
   ·subst e;rw[dO] at hv;have:=hxa z hv;omega
   ·rw[dY (by omega)] at hv;exact .inr (.inr ⟨y,by omega,.inl hv⟩)
  ·by_cases e:y=m
   ·subst e;rw[dO,hxk] at hv;cases hv
   ·rw[dY (by omega)] at hv;exact .inr (.inr ⟨y,by omega,.inr hv⟩)
end
end
end Go.Proofs.YtmhjlifmcadefaaGreatDoor
