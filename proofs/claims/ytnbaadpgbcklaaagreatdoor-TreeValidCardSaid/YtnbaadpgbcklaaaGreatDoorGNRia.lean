/- Part of a proof about trees. -/
import Derived.Test.YtnbaadpgbcklaaaGreatDoorGNRsa
set_option linter.unusedVariables false
set_option linter.unusedSimpArgs false
set_option maxHeartbeats 8000000
set_option maxRecDepth 100000
namespace Go.Proofs.YtnbaadpgbcklaaaGreatDoor
section
open Go.RowKit
theorem N9:(Tryz.prog.info? 147).map (fun i=>(i.zero,i.size,i.bytes))=some (some (.agg #[.int .i64 0,.int .i64 0,.int .i64 0,.int .i64 0,.int .i64 0,.int .i64 0,.string ⟨#[]⟩,.string ⟨#[]⟩,.bool false,.int .i64 0,.int .i64 0]),11,104):=by kernel_rfl
theorem MV.FI {base M m b:Nat} {f:Nat→RS} {w:World} {vs v:Value} {l:List Tr.Rec} (h:MV base w M vs m f) (hr:jM b w v l):∀ k,v.ownBlock=some k→¬ aC M vs m f k:=by
 have ht:TR w b 147 11 v l.length (gQ l):=TR.jN hr;rintro k hk (rfl | hx | ⟨i,hi,hx | hx⟩)
 ·exact ht.unlike h.var (by decide) hk
 ·exact dM ht h.row (by decide) k hx hk
 ·exact ht.ne (h.ar i hi) (by decide) k hk hx
 ·exact ht.ne (h.kr i hi) (by decide) k hk hx
theorem jM.step {base M m b:Nat} {f:Nat→RS} {w w':World} {vs v:Value} {l:List Tr.Rec} {F':Nat→Prop} (hr:jM b w v l) (h:MV base w M vs m f) (st:aB w w' (aC M vs m f) F'):jM b w' v l:=bX hr st.1 (h.FI hr)
theorem MV.FJ {base M m b:Nat} {f:Nat→RS} {w w':World} {vs v:Value} {l:List Tr.Rec} (h:MV base w M vs m f) (hr:jM b w v l) (g:w.grownBy w' v.ownBlock):MV base w' M vs m f:=
 h.turns (S:=fun k=>v.ownBlock=some k) (.aY g (fun k hk=>hk)) (fun x hx e=>h.FI hr x e hx)
theorem aB.FK {M m b:Nat} {f:Nat→RS} {w0 w w':World} {vs v:Value} {l:List Tr.Rec} {F:Nat→Prop} (st:aB w0 w F (aC M vs m f)) (hr:jM b w v l) (hb:w0.heap.size≤b) (g:w.grownBy w' v.ownBlock):aB w0 w' F (aC M vs m f):=
 st.lG (S:=fun k=>v.ownBlock=some k) (.aY g (fun k hk=>hk)) (fun k hk=>Nat.le_trans hb (hr.lt k hk).1)
def qO (a b:RS):Prop:=a.gone=b.gone∧a.kind=b.kind∧a.at'=b.at'∧a.data=b.data∧a.name=b.name
theorem qO.trans {a b c:RS} (h:qO a b) (k:qO b c):qO a c:=⟨h.1.trans k.1,h.2.1.trans k.2.1,h.2.2.1.trans k.2.2.1,h.2.2.2.1.trans k.2.2.2.1,h.2.2.2.2.trans k.2.2.2.2⟩
theorem vo {f:Nat→RS} {i:Nat} {u:RS→RS} (hu:qO (u (f i)) (f i)) (j:Nat):qO (aV f i u j) (f j):=by
 unfold aV;split
 ·rename_i e;rw[e];exact hu
 ·exact⟨rfl,rfl,rfl,rfl,rfl⟩
theorem Oa {m i p:Nat} {f:Nat→RS} {sl:Tr.Sl} {c:Int} (hi:i<m) (hg:(f i).gone=false) (hp:p<m) (hpg:(f p).gone=false) (hpi:p≠i):
  mg m (aV (aV f p fun n=>{ n with k:=sl,kids:=Tr.gW (f p).kids c (i:Int) }) i fun n=>{ n with pa:=p })=Tr.lq (mg m f) p i c:=by
 have hfun:(aV f p fun n=>{ n with k:=sl,kids:=Tr.gW (f p).kids c (i:Int) })=aV f p fun n=>{ n with k:=sl,kids:=Tr.gW n.kids c (i:Int) }:=by
  funext j;unfold aV;by_cases e:j=p
  ·subst e;simp
  ·simp[e]
 rw[hfun];exact Qy hi hg hp hpg hpi
def dx (a:Tr.G) (h:Int):Tr.G:=if Tr.cO a h = -1 then a else Tr.tV a h
def gK (a:Tr.G) (h c:Int):Int:=if c=h then wQ (Tr.ak a (Tr.cO a h)) (((Tr.ak a (Tr.cO a h)).idxOf h:Nat)+1) else c
def jw (l:List Int) (p h c:Int):Tr.Rec:=
 let i:Int:=if c = -1 then (l.length:Int) else (l.idxOf c:Nat)
 ⟨1,p,h,wQ l (i - 1),wQ l i,i,⟨#[]⟩,⟨#[]⟩,false,0,0⟩
theorem zB (l:List Int) (p h:Int) {n:Int} (hn:(l.length:Int)=n):jw l p h (-1)=⟨1,p,h,wQ l (n - 1),wQ l n,n,⟨#[]⟩,⟨#[]⟩,false,0,0⟩:=by
 subst hn;unfold jw;rw[if_pos rfl]
theorem Ct (l:List Int) (p h:Int) {c n:Int} (hc:c ≠ -1) (hn:((l.idxOf c:Nat):Int)=n):jw l p h c=⟨1,p,h,wQ l (n - 1),wQ l n,n,⟨#[]⟩,⟨#[]⟩,false,0,0⟩:=by
 subst hn;unfold jw;rw[if_neg hc]
theorem LD {l:List Int} {c h:Int} (hc:c = -1∨c∈l) (h0:(-1:Int)∉l):∃ l1 l2,l=l1++l2∧Tr.gW l c h=l1++h::l2∧((c = -1∧l2=[])∨(c ≠ -1∧l.idxOf c=l1.length)):=by
 rcases hc with rfl | hc
 ·exact⟨l,[],by simp,Tr.uS h0,.inl ⟨rfl,rfl⟩⟩
 ·have hne:c ≠ -1:=fun e=>h0 (e▸hc);obtain⟨l1,l2,rfl,hn⟩:∃ l1 l2,l=l1++c::l2∧c∉l1:=by
   clear h0 hne
   induction l with
   | nil=>cases hc
   | cons a r ih=>
    by_cases e:a=c
    ·exact⟨[],r,by rw[e];rfl,by simp⟩
    ·obtain⟨l1,l2,h1,h2⟩:=ih (by rcases List.mem_cons.1 hc with h3 | h3;exact absurd h3.symm e;exact h3);exact⟨a::l1,l2,by rw[h1];rfl,by simp;exact⟨fun e2=>e e2.symm,h2⟩⟩
  exact⟨l1,c::l2,rfl,Tr.uF hn,.inr ⟨hne,Tr.dW hn⟩⟩
theorem Ob {m i p:Nat} {f:Nat→RS} {sl:Tr.Sl} {c:Int} {A:Tr.G} (hA:mg m f=A) (hi:i<m) (hg:(f i).gone=false) (hp:p<m) (hpg:(f p).gone=false) (hpi:p≠i):
  mg m (aV (aV f p fun n=>{ n with k:=sl,kids:=Tr.gW (f p).kids c (i:Int) }) i fun n=>{ n with pa:=p })=Tr.lq A p i c:=by
 rw[←hA];exact Oa hi hg hp hpg hpi
theorem FL (base M m:Nat) (vs:Value) (f:Nat→RS) (p h:Nat) (c:Int) (w:World) (H:MV base w M vs m f) (hw:Tr.WF (-1) (mg m f)) (hpm:p<m) (hpg:(f p).gone=false) (hhm:h<m) (uM:(f h).gone=false) (I4:(f 0).gone=false) (hm:m≤100000)
  (hch:jP m f p h=true) (hc:c = -1∨∃ j:Nat,c=(j:Int)∧j<m∧(f j).pa=(p:Int)) (hlim:(Tr.dw (mg m f) (p:Int)).length+Tr.gu (mg m f) (h:Int)≤128) (wJ:p≠h) (hw1:Tr.WF (-1) (dx (mg m f) (h:Int))) (hcin:gK (mg m f) h c = -1∨gK (mg m f) h c∈Tr.ak (dx (mg m f) (h:Int)) (p:Int))
  (L0:List Tr.Rec) (hL0:((f h).pa = -1∧L0=[])∨∃ q:Nat,(f h).pa=(q:Int)∧L0=[kH m f 2 h q]):
  Calls Tryz.prog 50 #[.pointer (some ⟨M,0,none⟩),.int .i64 (p:Int),.int .i64 (h:Int),.int .i64 c] w fun e w'=>∃ r,e=.returned (.tuple #[r,.int .i64 0])∧jM w.heap.size w' r (L0++[jw (Tr.ak (dx (mg m f) (h:Int)) (p:Int)) p h (gK (mg m f) h c)])∧
   ∃ f2,MV base w' M vs m f2∧aB w w' (aC M vs m f) (aC M vs m f2)∧mg m f2=Tr.lq (dx (mg m f) (h:Int)) p h (gK (mg m f) h c)∧∀ j,qO (f2 j) (f j):=by
 obtain⟨i0,hi0,hz0,hz1,hz2⟩:=info_parts rU;obtain⟨j0,hj0,hy0,hy1,hy2⟩:=info_parts N9;obtain⟨A,c0,rfl⟩:=H.form;obtain⟨g,rfl,-⟩:=H.read hpm;obtain⟨dp,hdp⟩:=eX ((Tr.dw (mg m f) (p:Int)).length)
 obtain⟨ht,hht⟩:=eX (Tr.gu (mg m f) (h:Int))
 have qX:=zh (uG base M m _ f p h w H hw hpm hpg hhm I4 hm);rw[hch] at qX;have Qz:=zh (zC base M m _ f (p:Int) w H hw (.inr (by rw[jX hpm,hpg];rfl)) hm);have Fx:=zh (xL base M m _ f hw hm (h:Int) (by rw[jX hhm,uM];rfl) w H);rw[hdp] at Qz hlim;rw[hht] at Fx hlim;have p0:(0:Int)≤(p:Int):=by omega
 have p1:(p:Int)<(m:Int):=by omega
 have h0:(0:Int)≤(h:Int):=by omega
 have h1:(h:Int)<(m:Int):=by omega
 have WT:¬ (128:Int)<(dp:Int)+(ht:Int):=by omega
 have YT:=(H.rd hpm).1;have hup:∀ q:Nat,(f h).pa=(q:Int)→q<m∧(f q).gone=false∧(f h).pa=(q:Int)∧q≠h∧(h:Int)∈(f q).kids:=by
  intro q hq;rcases hw.pa (aQ hhm uM) with e | ⟨n,e,e5⟩
  ·exact absurd (show (f h).pa = -1 from e) (by omega)
  ·rw[show (jD (f h)).pa=(q:Int) from hq] at e;obtain⟨q',e1,e2,e3,e6⟩:=kK e;obtain rfl:q=q':=by omega
   refine⟨e2,e3,hq,fun e4=>hw.iF (aQ hhm uM) ?_,by rw[e6] at e5;exact e5⟩;show (f h).pa=_;rw[hq,e4]
 have Oc:=zh (fun (e0:c=(h:Int))=>show ∃ (aa n ac D:Nat) (a':Option Addr),aa=0∧w.cell? ⟨g,p*7+5,none⟩=some (.slice a' n ac)∧D<100000∧
   (∀ nq,Calls Tryz.prog 95 #[.pointer (some ⟨M,0,none⟩),.int .i64 (h:Int)] (w.drewN nq) fun e w'=>e=.returned (.int .i64 (D:Int))∧w'=w.drewN nq)∧
   (∀ nq,Calls Tryz.prog 116 #[.slice a' n ac,.int .i64 ((D:Int)+1)] (w.drewN nq) fun e w'=>e=.returned (.int .i64 (gK (mg m f) h c))∧w'=w.drewN nq) from by
  have hq:(f h).pa=(p:Int):=by
   rcases hc with e | ⟨j,e1,_,e3⟩
   ·omega
   ·have e:j=h:=by omega
    rw[e] at e3;exact e3
  have WU:=(hup p hq).2.2.2.2;have hle0:=lI hw hpm hpg;have aac:=List.idxOf_lt_length_iff.2 WU;obtain⟨D0,hD0⟩:=eX ((f p).kids.idxOf (h:Int))
  rw[hD0] at aac;have WV:jO m f h=(D0:Int):=by unfold jO;rw[if_neg (by omega),hq,Int.toNat_natCast,hD0]
  have hX:gK (mg m f) h c=wQ (f p).kids ((D0:Int)+1):=by
   unfold gK;rw[if_pos e0,show Tr.cO (mg m f) (h:Int)=(p:Int) by rw[Tr.aM (aQ hhm uM)];exact hq,show Tr.ak (mg m f) (p:Int)=(f p).kids from Tr.aJ (aQ hpm hpg),hD0]
  obtain⟨-,-,-,-,-,-,x,-⟩:=H.rd hpm;refine⟨0,(f p).kids.length,(f p).k.c,D0,(f p).k.a,rfl,x,by omega,fun nq=>?_,fun nq=>?_⟩
  ·have:=uE base M m _ f h (w.drewN nq) (H.below (below_drewN _ w nq)) hw hhm uM hm;rw[WV] at this;exact this
  ·rw[hX];refine vk base (.slice (f p).k.a (f p).kids.length (f p).k.c) (f p).kids ((D0:Int)+1) (w.drewN nq) ?_ (by constructor<;>omega) (by omega);have:=(H.below (below_drewN _ w nq)).kr p hpm
   rw[show (f p).k.v=.slice (f p).k.a (f p).kids.length (f p).k.c by unfold Tr.Sl.v;rw[H.kn hpm]] at this;exact this)
 obtain⟨cb,hcb⟩:=eX (gK (mg m f) h c)
 have HCN:=zh (show c≠(h:Int)→cb=c from fun e=>by rw[←hcb];exact if_neg e);rw[hcb] at hcin Oc ⊢;have WW:=zh (show ¬ (0:Int)≤c∨∃ jc:Nat,c=(jc:Int)∧jc<m∧w.cell? ⟨g,jc*7+4,none⟩=some (.int .i64 (p:Int)) from by
  rcases hc with e | ⟨jc,e1,e2,e3⟩
  ·exact .inl (by omega)
  ·obtain⟨-,-,-,-,-,x,-⟩:=H.rd e2;rw[e3] at x
   exact .inr ⟨jc,e1,e2,x⟩)
 have HA:=zh (And.intro H (And.intro hw (And.intro hpg (And.intro uM (And.intro hw1 (And.intro hcin (And.intro wJ (And.intro hL0 hup))))))));clear hc hcin hw1 wJ uM hpg I4 H hw hch hdp hht hlim hL0 hup hcb
 go_enter Tryz.func50,Tryz.ntmps50
 go_upto_region 1 with fail
 go_cut [33] from 13 (fun u wc=>u=.bool false∧wc=w)
 case first=>
  rcases WW.out with hn | ⟨jc,rfl,hjm,hjr⟩
  ·go_wp2_with fail;refine nN qX.out ?_;go_wp2_with fail;go_meet
   case rel=>exact⟨rfl,rfl⟩
  ·have abz:(0:Int)≤(jc:Int):=by omega
   have abA:(jc:Int)<(m:Int):=by omega
   go_wp2_with fail;refine nN qX.out ?_;go_wp2_with fail;go_meet
   case rel=>exact⟨rfl,rfl⟩
 case rest=>
 obtain⟨rfl,hwc⟩:=hcut;obtain rfl:=hwc.symm;clear qX WW;go_wp2_with fail;refine nN Qz.out ?_;go_wp2_with fail;refine nN Fx.out ?_;clear Qz Fx
 go_upto_if 44 with fail
 go_cut [3] from 13 (fun u wc=>u=.int .i64 cb∧Below w.heap.size w wc)
 case first=>
  by_cases hce:c=(h:Int)
  ·have qe:(c == (h:Int))=true:=by simp[hce]
   obtain⟨_,n0,ac0,D0,aa0,-,c5w,hD,HI,HT⟩:=Oc.out hce;have HI:=zh HI;have HT:=zh HT;have hs2:IntKind.i64.wrap ((D0:Int)+1)=(D0:Int)+1:=by rw[IntKind.wrap_i64];omega
   clear hce;go_wp2_with fail
   go_quiet (first | (go_at_call 95;exact Calls.quiet_of_same (HI.out _)) | (go_at_call 116;exact Calls.quiet_of_same (HT.out _)))
   go_wp2_with fail;go_meet
   case rel=>exact⟨rfl,below_drewN _ w nq⟩
  ·have qe:(c == (h:Int))=false:=bY hce;have hcc:=HCN.out hce;go_wp2_with fail;go_meet
   case rel=>exact⟨by rw[hcc],Below.refl _ _⟩
 case rest=>
 obtain⟨rfl,hwc⟩:=hcut;clear Oc HCN YT;obtain⟨wb,hwb⟩:∃ x,x=wc:=⟨_,rfl⟩
 subst hwb;obtain⟨H,hw,hpg,uM,hw1,hcin,wJ,hL0,hup⟩:=HA.out;have Hc:=H.below hwc;obtain⟨pa0,TM⟩:=eX ((f h).pa)
 obtain⟨YT,-,-,-,-,hfr,-⟩:=Hc.rd hhm;rw[TM] at hfr;have Qb:=zh Hc;have HWC:=zh hwc;have HPA:=zh TM;clear H hw hpg uM hw1 hcin wJ hL0 hup Hc hwc TM
 go_upto_if 66 with fail
 go_cut [10] from 13 (fun u W=>∃ f1,MV base W M (.slice (some ⟨g,0,none⟩) m c0) m f1∧mg m f1=dx (mg m f) (h:Int)∧(∀ j,qO (f1 j) (f j))∧jM w.heap.size W u L0∧aB w W (aC M (.slice (some ⟨g,0,none⟩) m c0) m f) (aC M (.slice (some ⟨g,0,none⟩) m c0) m f1))
 case first=>
  obtain⟨H,hw,hpg,uM,hw1,hcin,wJ,hL0,hup⟩:=HA.out;rcases hL0 with ⟨hq,TN⟩ | ⟨q,hq,TN⟩
  ·have hn:¬ (0:Int)≤pa0:=by have:=HPA.out;omega
   have hcut:mg m f=dx (mg m f) (h:Int):=by unfold dx;rw[Tr.aM (aQ hhm uM)];exact (if_pos hq).symm
   have tO:=zh (And.intro Qb.out (And.intro hcut (aB.of_below (F:=aC M (.slice (some ⟨g,0,none⟩) m c0) m f) HWC.out)));have Sc:=zh TN;clear H hw hpg uM hw1 hcin wJ hup hq hcut TN;go_wp2_with fail;go_meet
   case rel=>exact⟨f,tO.out.1,tO.out.2.1,fun _=>⟨rfl,rfl,rfl,rfl,rfl⟩,by rw[Sc.out];exact jM.nil _ _,tO.out.2.2⟩
  ·obtain rfl:pa0=(q:Int):=by have:=HPA.out;omega
   have qq0:(0:Int)≤(q:Int):=by omega
   obtain⟨hqm,hqg,-,hqh,-⟩:=hup q hq;have hcut:dx (mg m f) (h:Int)=Tr.tV (mg m f) (h:Int):=by unfold dx;rw[Tr.aM (aQ hhm uM)];exact if_neg (by show (f h).pa ≠ -1;omega)
   have Lj:=zh (FH base M m _ f h q wb Qb.out hw hhm uM hq hm);have WX:=zh (fun sl=>Od (sl:=sl) hhm uM hqm hqg hq hqh);have Sc:=zh (And.intro TN hcut);clear H hw hpg uM hw1 hcin wJ hup hq hcut TN hqm hqg hqh;go_wp2_with fail;refine Lj.out.mono ?_;rintro e W0 ⟨rfl,sl0,hm0,st0⟩;obtain⟨f1,hf1⟩:=eX ((aV (aV f q fun n=>{ n with k:=sl0,kids:=n.kids.erase (h:Int) }) h fun n=>{ n with pa := -1 }))
   rw[hf1] at hm0 st0;have HG:=zh (show mg m f1=dx (mg m f) (h:Int)∧∀ j,qO (f1 j) (f j) from⟨by rw[←hf1,Sc.out.2];exact WX.out sl0,fun j=>by rw[←hf1];exact (vo ⟨rfl,rfl,rfl,rfl,rfl⟩ j).trans (vo ⟨rfl,rfl,rfl,rfl,rfl⟩ j)⟩);obtain⟨r0,hr⟩:=eX (kH m f 2 h q)
   have rV:=nO W0 r0 0 (Nat.zero_le _);obtain⟨Wb,hWb⟩:=eX (W0.alloc (.cells #[.int .i64 r0.kind,.int .i64 r0.target,.int .i64 r0.node,.int .i64 r0.prev,.int .i64 r0.next,.int .i64 r0.index,.string r0.name,.string r0.old,.bool r0.had,.int .i64 r0.count,.int .i64 r0.size] 147))
   rw[hWb] at rV;have hbb:Below W0.heap.size W0 Wb:=gP hWb;have TP:=((aB.of_below (F:=aC M (.slice (some ⟨g,0,none⟩) m c0) m f) HWC.out).trans st0).trans (.of_below hbb);have hsb:w.heap.size≤Wb.heap.size:=TP.1.size;have YU:=zh (hm0.below hbb);have HSB:=zh TP;rw[hr] at Sc ⊢;have aad:=Sc;clear Lj WX YT hfr hm0 st0 hbb TP hr hf1 Sc
   go_wp2_with (at_builtin;refine dS rfl _ _ 93 rfl w.heap.size 0 147 j0 (.agg #[.int .i64 0,.int .i64 0,.int .i64 0,.int .i64 0,.int .i64 0,.int .i64 0,.string ⟨#[]⟩,.string ⟨#[]⟩,.bool false,.int .i64 0,.int .i64 0]) 11 104 Tryz.underlying93 hj0 hy0 hy1 hy2 rfl (by decide) _ 0 [] rfl (jM.nil w.heap.size _) _ 1 (gQ [r0]) rfl rV (zl _) ?cm1 ?cm2 hsb ?_)
   case cm1=>unfold maxLen;omega
   case cm2=>omega
   intro v1 W1 o1 g1 Nc;have tO:=zh (show _∧_∧_ from⟨YU.out.FJ (jM.nil w.heap.size _) g1,(show jM w.heap.size W1 v1 L0 by rw[aad.out.1];unfold jM;simpa using o1),HSB.out.FK (jM.nil w.heap.size _) (Nat.le_refl _) g1⟩);obtain⟨Ao,co,rfl⟩:=aG (aH o1);clear o1 g1 Nc rV YU HSB hWb;go_wp2_with fail;go_meet
   case rel=>exact⟨f1,tO.out.1,HG.out.1,HG.out.2,tO.out.2.1,tO.out.2.2⟩
 case rest=>
 obtain⟨f1,hm1,TQ,hgn,hro,hst⟩:=hcut;obtain⟨H,hw,hpg,uM,hw1,hcin,wJ,hL0,hup⟩:=HA.out;have hR0:L0.length≤1:=by rcases hL0 with ⟨-,e⟩ | ⟨_,-,e⟩<;>rw[e]<;>simp
 have LG:(f1 p).gone=false:=(hgn p).1.trans hpg;have WY:(f1 h).gone=false:=(hgn h).1.trans uM;have Oe:Tr.WF (-1) (mg m f1):=by rw[TQ];exact hw1
 have WZ:=zh (show Tr.ak (dx (mg m f) (h:Int)) (p:Int)=(f1 p).kids by rw[←TQ];exact Tr.aJ (aQ hpm LG));rw[WZ.out] at hcin;have hnz:(-1:Int)∉(f1 p).kids:=Oe.kL (aQ hpm LG);have hle:=lI Oe hpm LG;obtain⟨l1,l2,hL,Sg,hcl⟩:=LD (h:=(h:Int)) hcin hnz;obtain⟨d,hd⟩:=eX (l1.length)
 obtain⟨b,hb⟩:=eX (l2.length)
 have hlen:(f1 p).kids.length=d+b:=by rw[hL,List.length_append,hd,hb]
 obtain⟨A5,hA5⟩:=eX ((f1 p).k.a)
 obtain⟨Nh,TS⟩:=eX ((f1 p).k.c)
 have hkv:(f1 p).k.v=.slice A5 (d+b) Nh:=by unfold Tr.Sl.v;rw[hm1.kn hpm,hlen,hA5,TS]
 obtain⟨kz,-,-,-,-,-,kc5,-⟩:=hm1.rd hpm;rw[hA5,hlen,TS] at kc5;have hcap:d+b≤Nh:=by
  have hk:=hm1.kr p hpm;rw[hkv] at hk;rcases hk.2 with ⟨e,e2⟩ | ⟨_,_,_,_,e,_,_,e2,_⟩
  ·injection e;omega
  ·injection e with e3 e4 e5;rw[hlen] at e2;omega
 have Sb:=zh (show jw (f1 p).kids p h cb=⟨1,p,h,wQ (f1 p).kids ((d:Int) - 1),wQ (f1 p).kids (d:Int),(d:Int),⟨#[]⟩,⟨#[]⟩,false,0,0⟩ from by
  rcases hcl with ⟨e,e2⟩ | ⟨hcn,hix⟩
  ·rw[e];exact zB _ _ _ (by rw[hlen,←hb,e2];simp)
  ·exact Ct _ _ _ hcn (by rw[hix,hd]))
 have HIM:=zh (show (¬ (0:Int)≤cb∧Hid (b=0))∨∃ j:Nat,cb=(j:Int)∧Calls Tryz.prog 95 #[.pointer (some ⟨M,0,none⟩),.int .i64 (j:Int)] wc fun e w'=>e=.returned (.int .i64 (d:Int))∧w'=wc from by
  rcases hcl with ⟨e,e2⟩ | ⟨hcn,hix⟩
  ·exact .inl ⟨by omega,zh (by rw[←hb,e2];rfl)⟩
  ·obtain⟨j,hcj,hjm,Vk,hjp⟩:=Live.kid Oe hpm LG (hcin.resolve_left hcn);have:=uE base M m _ f1 j wc hm1 Oe hjm Vk hm;rw[show jO m f1 j=(d:Int) by unfold jO;rw[if_neg (by omega),hjp,Int.toNat_natCast,←hcj,hix,hd]] at this
   exact .inr ⟨j,hcj,this⟩)
 have W9:=zh (fun (W:World) (hmv:MV base W M (.slice (some ⟨g,0,none⟩) m c0) m f1)=>show TR W base 3 1 (.slice A5 d Nh) d (ints l1)∧TR W base 3 1 (.slice (if Nh=d then A5 else A5.map fun x=>x.add d) b (Nh - d)) b (ints l2) from by
  have hk:=hmv.kr p hpm;rw[hkv,hlen,hL] at hk;have a1:=hk.head (k:=d) (by omega);have a2:=hk.tail (k:=d) (by omega);rw[Nat.mul_one,Cq,List.take_left' hd] at a1;rw[Nat.mul_one,Cr,List.drop_left' hd,Nat.add_sub_cancel_left] at a2;rw[show tailV (.slice A5 (d+b) Nh) d 1=.slice (if Nh=d then A5 else A5.map fun x=>x.add d) b (Nh - d) by unfold tailV;simp only[Nat.add_sub_cancel_left,Nat.mul_one]] at a2
  exact⟨a1,a2⟩)
 have IW:=zh (fun (W:World) (hb:Below wc.heap.size wc W)=>show TR W base 3 1 (.slice A5 (d+b) Nh) (d+b) (ints (f1 p).kids) from by
  have hk:=(hm1.below hb).kr p hpm
  rw[hkv,hlen] at hk;exact hk)
 have Qw:=zh (show (f1 p).kids.length=(d+b) from hlen);have aae:=zh (show Tr.gW (f1 p).kids cb (h:Int)=l1++(h:Int)::l2 from Sg);have TT:=zh (show l1.length=d∧l2.length=b from⟨hd,hb⟩);have HGH:=zh WY;have HGP:=zh LG;have HPH:=zh wJ;have HMG:=zh TQ;have Xa:=zh hgn;have HST:=zh hst;have HM1:=zh hm1;have HRO:=zh hro;have hdb:d+b≤100000:=by omega
 have d0:(0:Int)≤(d:Int):=by omega
 have hda:(d:Int)≤(Nh:Int):=by omega
 have hdn:(d:Int)≤((d+b:Nat):Int):=by omega
 have abB:(d:Int)≤(d:Int)+(b:Int):=by omega
 obtain⟨Ao,co,rfl⟩:=aG (aH hro);clear H hw hpg uM hw1 hcin wJ hL0 hup LG WY Oe hnz hle hL Sg hcl hd hb hlen hA5 TS hkv TQ hgn hst hm1 hro HA Qb HWC HPA YT hfr
 go_upto_if 84 with fail
 go_cut [12] from 13 (fun u W=>u=.int .i64 (d:Int)∧W=wc)
 case first=>
  rcases HIM.out with ⟨hn,hb0⟩ | ⟨j,rfl,HI⟩
  ·go_wp2_with fail;go_meet
   case rel=>exact⟨by rw[hb0.out];rfl,rfl⟩
  ·have qj:(0:Int)≤(j:Int):=by omega
   have HI:=zh HI;go_wp2_with fail;refine nN HI.out ?_;go_wp2_with fail;go_meet
   case rel=>exact⟨rfl,rfl⟩
 case rest=>
 obtain⟨rfl,aaf⟩:=hcut;obtain rfl:=aaf.symm;clear HIM;have hm1:=HM1.out;have hro:=HRO.out;have hA1:=vk base (.slice A5 (d+b) Nh) (f1 p).kids ((d:Int) - 1) wc (by have:=IW.out wc (Below.refl _ _);rw[Qw.out];exact this) (by constructor<;>omega) (by rw[Qw.out];omega);have hA2:=vk base (.slice A5 (d+b) Nh) (f1 p).kids (d:Int) wc (by have:=IW.out wc (Below.refl _ _);rw[Qw.out];exact this) (by constructor<;>omega) (by rw[Qw.out];omega);obtain⟨X1,hX1⟩:=eX (wQ (f1 p).kids ((d:Int) - 1))
 obtain⟨X2,hX2⟩:=eX (wQ (f1 p).kids (d:Int))
 have e1:=hX1;have e2:=hX2;unfold wQ at e1 e2;rw[e1] at hA1;rw[e2] at hA2;have HA1:=zh hA1;have HA2:=zh hA2;clear hA1 hA2;have aag:=zh (show jw (f1 p).kids p h cb=⟨1,p,h,X1,X2,(d:Int),⟨#[]⟩,⟨#[]⟩,false,0,0⟩ by
  rw[Sb.out,hX1,hX2])
 obtain⟨W2,hW2⟩:=eX (wc.alloc (.cells #[.int .i64 1,.int .i64 (p:Int),.int .i64 (h:Int),.int .i64 X1,.int .i64 X2,.int .i64 (d:Int),.string ⟨#[]⟩,.string ⟨#[]⟩,.bool false,.int .i64 0,.int .i64 0] 147))
 have eF:Below wc.heap.size wc W2:=gP hW2;have hrow2:jM 0 W2 (.slice (some ⟨wc.heap.size,0,none⟩) 1 1) [jw (f1 p).kids p h cb]:=by
  rw[aag.out,←hW2];exact nO wc ⟨1,p,h,X1,X2,(d:Int),⟨#[]⟩,⟨#[]⟩,false,0,0⟩ 0 (Nat.zero_le _)
 have hm2:=hm1.below eF;have TU:=hro.below eF;have aah:w.heap.size≤W2.heap.size:=Nat.le_trans HST.out.1.size eF.size;have aai:=zh (HST.out.trans (.of_below eF));have Og:=zh hm2;have Xb:=zh TU;clear e1 e2 hX1 hX2 eF;go_wp2_with fail;refine nN HA1.out ?_;go_wp2_with fail;refine nN HA2.out ?_;clear HA1 HA2
 go_wp2_with (at_builtin;refine dS rfl _ _ 93 rfl w.heap.size 0 147 j0 (.agg #[.int .i64 0,.int .i64 0,.int .i64 0,.int .i64 0,.int .i64 0,.int .i64 0,.string ⟨#[]⟩,.string ⟨#[]⟩,.bool false,.int .i64 0,.int .i64 0]) 11 104 Tryz.underlying93 hj0 hy0 hy1 hy2 rfl (by decide) _ L0.length (gQ L0) rfl TU _ 1 (gQ [jw (f1 p).kids p h cb]) rfl hrow2 (zl _) ?cB1 ?cB2 aah ?_)
 case cB1=>unfold maxLen;omega
 case cB2=>omega
 intro v3 W3 o3 g3 f3;have AJ:=Og.out.FJ Xb.out g3;have o3':jM w.heap.size W3 v3 (L0++[jw (f1 p).kids p h cb]):=by
  unfold jM;rw[List.length_append,lS];exact o3
 have aaj:=zh (aai.out.FK Xb.out (Nat.le_refl _) g3);have aak:=zh o3';have rC:=zh AJ;obtain⟨A3,c3,rfl⟩:=aG (aH o3);have aal:=aZ W3.heap.size W3;have I5:Below W3.heap.size W3 W3.drew:=aal;have Oh:=zh (fun (W:World) (hb:Below W3.heap.size W3 W)=>(AJ.below hb));have Si:=zh (fun (W:World) (hb:Below W3.heap.size W3 W)=>(W9.out W (AJ.below hb)));have Kj:=zh ((AJ.below I5).rd hpm).1;have hgl:g<W3.heap.size:=(AJ.row.lt g rfl).2;have aam:base≤W3.heap.size:=by have:=AJ.low;have:=AJ.var.lt;omega
 clear hm2 TU hrow2 AJ o3 o3' g3 f3 hm1 hro hW2;go_wp2_with fail;refine wp_region_noPanic ?_;refine wp_region_held_drew (S:=(fun W=>W.cell? ⟨M,0,none⟩=some (.slice (some ⟨g,0,none⟩) m c0))) (by kernel_rfl) ?_ (fun ah=>?_)
 ·exact Kj.out
 refine bE [0,1,2,3,4,6,7,8,10,13,14,15] ?_;iterate 12 (refine jf ?_;try simp only[pS])
 refine bF ?_;refine jn5 (C:=fun (V:World) (A7:Option Addr) (c7 X Y:Nat)=>Below W3.heap.size W3 V∧TR V W3.heap.size 3 1 (.slice A7 d c7) d (ints l1)∧TR V W3.heap.size 3 1 (.slice (some ⟨X,0,none⟩) 1 1) 1 (ints [(h:Int)])) (T:=?T) (fun TAIL=>?_) ?_
 case refine_1=>
  refine yg 5 11 (fun K hK=>?_) fun K hK=>?_
  ·
   obtain⟨V1,hV1⟩:=eX (W3.drew.alloc (.cells #[] 3))
   have hbn:Below W3.drew.heap.size W3.drew V1:=by rw[←hV1];exact (Below.refl _ W3.drew).alloc (Nat.le_refl _) _
   have vv:Below W3.heap.size W3 V1:=I5.trans (hbn.mono I5.size);have e5:TR V1 W3.heap.size 3 1 (.slice (some ⟨W3.drew.heap.size,0,none⟩) 0 0) 0 []:=by rw[←hV1];exact (lH W3.drew 3 1).lower I5.size
   go_simp;(try rw[hV1]);refine hK.out _ _ (((Oh.out _ vv).rd hpm).1) fun ah=>?_;clear hK K;(try simp only[pS]);refine yg 9 11 (fun K hK=>?_) fun K hK=>?_
   ·
    refine aO rfl _ _ 31 rfl W3.heap.size 3 i0 (.int .i64 0) 1 8 Tryz.underlying31 hi0 hz0 hz1 hz2 rfl (by decide) _ 0 [] rfl e5 _ d (ints l1) rfl (Si.out V1 vv).1.1 (Si.out V1 vv).1.source (gB _) ?aan ?aao vv.size ?_
    case aan=>unfold maxLen;omega
    case aao=>omega
    intro v7 V2 o7 uh f7;have g7:V1.grownBy V2 (Value.slice (some ⟨W3.drew.heap.size,0,none⟩) 0 0).ownBlock:=uh;clear uh;(try simp only[Nat.zero_add,List.nil_append] at o7);have bK:Below W3.heap.size W3 V2:=vv.grown g7 vv.size (fun jj hj=>(e5.lt jj hj).1);obtain⟨A7,c7,rfl⟩:=o7.form;refine hK.out _ _ (((Oh.out _ bK).rd hpm).1) fun ah=>?_;clear hK K;(try simp only[pS]);refine bI 11 fun K hK=>?_;obtain⟨V3,jJ⟩:=eX (V2.alloc (.cells #[.int .i64 (h:Int)] 3))
    have zD:Below V2.heap.size V2 V3:=gP jJ;have bN:Below W3.heap.size W3 V3:=bK.trans (zD.mono bK.size);have Kk:TR V3 W3.heap.size 3 1 (.slice (some ⟨V2.heap.size,0,none⟩) 1 1) 1 (ints [(h:Int)]):=by
     rw[←jJ];exact (TR.jN (World.ownsRow_lit (base:=V2.heap.size) (e:=3) (size:=1) V2 #[.int .i64 (h:Int)] 1 (Nat.le_refl _) (by unfold maxLen;omega) rfl)).lower bK.size
    go_simp;(try rw[jJ]);refine hK.out _ _ (((Oh.out _ bN).rd hpm).1) fun ah=>?_;clear hK K;(try simp only[pS]);have o7:=o7.below zD;obtain⟨X,hX⟩:=eX (V2.heap.size)
    obtain⟨Y,hY⟩:=eX (W3.heap.size)
    rw[hX,hY];exact TAIL.out _ _ _ X Y ⟨bN,o7,by rw[←hX];exact Kk⟩
   ·
    obtain⟨V2,hV2⟩:=eX (V1.alloc (.cells #[.int .i64 (h:Int)] 3))
    have zD:Below V1.heap.size V1 V2:=gP hV2;have bK:Below W3.heap.size W3 V2:=vv.trans (zD.mono vv.size);have Kk:TR V2 W3.heap.size 3 1 (.slice (some ⟨V1.heap.size,0,none⟩) 1 1) 1 (ints [(h:Int)]):=by
     rw[←hV2];exact (TR.jN (World.ownsRow_lit (base:=V1.heap.size) (e:=3) (size:=1) V1 #[.int .i64 (h:Int)] 1 (Nat.le_refl _) (by unfold maxLen;omega) rfl)).lower vv.size
    go_simp;(try rw[hV2]);refine hK.out _ _ (((Oh.out _ bK).rd hpm).1) fun ah=>?_;clear hK K;(try simp only[pS]);have e5:=e5.below zD;refine bI 9 fun K hK=>?_;refine aO rfl _ _ 31 rfl W3.heap.size 3 i0 (.int .i64 0) 1 8 Tryz.underlying31 hi0 hz0 hz1 hz2 rfl (by decide) _ 0 [] rfl e5 _ d (ints l1) rfl (Si.out V2 bK).1.1 (Si.out V2 bK).1.source (gB _) ?aap ?aaq bK.size ?_
    case aap=>unfold maxLen;omega
    case aaq=>omega
    intro v7 V3 o7 uh f7;have g7:V2.grownBy V3 (Value.slice (some ⟨W3.drew.heap.size,0,none⟩) 0 0).ownBlock:=uh;clear uh;(try simp only[Nat.zero_add,List.nil_append] at o7);have bN:Below W3.heap.size W3 V3:=bK.grown g7 bK.size (fun jj hj=>(e5.lt jj hj).1);obtain⟨A7,c7,rfl⟩:=o7.form;have Kk:TR V3 W3.heap.size 3 1 _ 1 (ints [(h:Int)]):=Kk.kept g7 (.inr (fun e=>by have ee:V1.heap.size=W3.drew.heap.size:=(by simpa [Value.ownBlock] using e);rw[←hV1,World.size_alloc] at ee;omega));refine hK.out _ _ (((Oh.out _ bN).rd hpm).1) fun ah=>?_;clear hK K;(try simp only[pS]);obtain⟨X,hX⟩:=eX (V1.heap.size)
    obtain⟨Y,hY⟩:=eX (W3.heap.size)
    rw[hX,hY];exact TAIL.out _ _ _ X Y ⟨bN,o7,by rw[←hX];exact Kk⟩
  ·
   obtain⟨V1,hV1⟩:=eX (W3.drew.alloc (.cells #[.int .i64 (h:Int)] 3))
   have zD:Below W3.drew.heap.size W3.drew V1:=by rw[←hV1];exact (Below.refl _ W3.drew).alloc (Nat.le_refl _) _
   have vv:Below W3.heap.size W3 V1:=I5.trans (zD.mono I5.size);have Kk:TR V1 W3.heap.size 3 1 (.slice (some ⟨W3.drew.heap.size,0,none⟩) 1 1) 1 (ints [(h:Int)]):=by
    rw[←hV1];exact (TR.jN (World.ownsRow_lit (base:=W3.drew.heap.size) (e:=3) (size:=1) W3.drew #[.int .i64 (h:Int)] 1 (Nat.le_refl _) (by unfold maxLen;omega) rfl)).lower I5.size
   go_simp;(try rw[hV1]);refine hK.out _ _ (((Oh.out _ vv).rd hpm).1) fun ah=>?_;clear hK K;(try simp only[pS]);refine bI 5 fun K hK=>?_;obtain⟨V2,hV2⟩:=eX (V1.alloc (.cells #[] 3))
   have hbn:Below V1.heap.size V1 V2:=gP hV2;have bK:Below W3.heap.size W3 V2:=vv.trans (hbn.mono vv.size);have e5:TR V2 W3.heap.size 3 1 (.slice (some ⟨V1.heap.size,0,none⟩) 0 0) 0 []:=by rw[←hV2];exact (lH V1 3 1).lower vv.size
   go_simp;(try rw[hV2]);refine hK.out _ _ (((Oh.out _ bK).rd hpm).1) fun ah=>?_;clear hK K;(try simp only[pS]);have Kk:=Kk.below hbn;refine bI 9 fun K hK=>?_;refine aO rfl _ _ 31 rfl W3.heap.size 3 i0 (.int .i64 0) 1 8 Tryz.underlying31 hi0 hz0 hz1 hz2 rfl (by decide) _ 0 [] rfl e5 _ d (ints l1) rfl (Si.out V2 bK).1.1 (Si.out V2 bK).1.source (gB _) ?aar ?aas bK.size ?_
   case aar=>unfold maxLen;omega
   case aas=>omega
   intro v7 V3 o7 uh f7;have g7:V2.grownBy V3 (Value.slice (some ⟨V1.heap.size,0,none⟩) 0 0).ownBlock:=uh;clear uh;(try simp only[Nat.zero_add,List.nil_append] at o7);have bN:Below W3.heap.size W3 V3:=bK.grown g7 bK.size (fun jj hj=>(e5.lt jj hj).1);obtain⟨A7,c7,rfl⟩:=o7.form;have Kk:TR V3 W3.heap.size 3 1 _ 1 (ints [(h:Int)]):=Kk.kept g7 (.inr (fun e=>by have ee:W3.drew.heap.size=V1.heap.size:=(by simpa [Value.ownBlock] using e);rw[←hV1,World.size_alloc] at ee;omega));refine hK.out _ _ (((Oh.out _ bN).rd hpm).1) fun ah=>?_;clear hK K;(try simp only[pS]);obtain⟨X,hX⟩:=eX (W3.heap.size)
   obtain⟨Y,hY⟩:=eX (V1.heap.size)
   rw[hX,hY];exact TAIL.out _ _ _ X Y ⟨bN,o7,by rw[←hX];exact Kk⟩
 intro V3 A7 c7 X Y ⟨bN,o7,Kk⟩;have ah:=((Oh.out _ bN).rd hpm).1;refine bI 12 fun K hK=>?_;have s11:=Kk.source;have l11:=Kk.1;refine aO rfl _ _ 31 rfl W3.heap.size 3 i0 (.int .i64 0) 1 8 Tryz.underlying31 hi0 hz0 hz1 hz2 rfl (by decide) _ d (ints l1) rfl o7 _ 1 (ints [(h:Int)]) rfl l11 s11 (gB _) ?aat ?aau bN.size ?_
 case aat=>unfold maxLen;omega
 case aau=>omega
 intro v8 V8 o8 g8 f8;rw[←gY] at o8;have I6:Below W3.heap.size W3 V8:=bN.grown g8 bN.size (fun jj hj=>(o7.lt jj hj).1);obtain⟨A8,c8,rfl⟩:=o8.form;refine hK.out _ _ (((Oh.out _ I6).rd hpm).1) fun ah=>?_;clear hK K;(try simp only[pS]);refine bI 16 fun K hK=>?_;have hyb:=(Si.out V8 I6).2.1;have s2:=(Si.out V8 I6).2.source;refine aO rfl _ _ 31 rfl W3.heap.size 3 i0 (.int .i64 0) 1 8 Tryz.underlying31 hi0 hz0 hz1 hz2 rfl (by decide) _ (d+1) (ints (l1++[(h:Int)])) rfl o8 _ b (ints l2) rfl hyb s2 (gB _) ?aav ?aaw I6.size ?_
 case aav=>unfold maxLen;omega
 case aaw=>omega
 intro v9 V9 o9 g9 f9;rw[←gY] at o9;have Xd:Below W3.heap.size W3 V9:=I6.grown g9 I6.size (fun jj hj=>(o8.lt jj hj).1);obtain⟨A9,c9,rfl⟩:=o9.form;have Oi:TR V9 base 3 1 (Tr.Sl.v ⟨A9,d+1+b,c9⟩) (Tr.gW (f1 p).kids cb (h:Int)).length (ints (Tr.gW (f1 p).kids cb (h:Int))):=by
  rw[aae.out,show l1++(h:Int)::l2=l1++[(h:Int)]++l2 from by simp];have e:(l1++[(h:Int)]++l2).length=d+1+b:=by rw[List.length_append,List.length_append,TT.out.1,TT.out.2];rfl
  rw[e];exact o9.lower aam
 obtain⟨_,fz,hcells,eB,eG⟩:=rC.out.zy (sl:=⟨A9,d+1+b,c9⟩) (l':=Tr.gW (f1 p).kids cb (h:Int)) hpm (Below.refl _ W3) (au Xd _) Oi (.inr fun k hk=>(o9.lt k hk).1);have hpc:=hcells p 5 hpm (by omega);rw[show (pQ (f1 p))[5]?=some ((f1 p).k.v) from rfl] at hpc;obtain⟨V10,Xe⟩:=eX (V9.setCell ⟨g,p*7+5,none⟩ (.slice A9 (d+1+b) c9))
 rw[show (Tr.Sl.v ⟨A9,d+1+b,c9⟩)=.slice A9 (d+1+b) c9 from rfl,Xe] at eB eG;have aax:=(eB.rd hpm).1;have hS9:=((Oh.out _ Xd).rd hpm).1;obtain⟨k10,-,-,-,-,p10,-⟩:=eB.rd hhm;have abC:=eB.fz (h*7+4);obtain⟨uU,LC⟩:=eB.put (j:=4) (v:=.int .i64 (p:Int)) hhm (by omega) (fun n=>{ n with pa:=p }) rfl ⟨rfl,rfl,rfl,rfl⟩;have bf:=zh (And.intro ((aak.out.step rC.out eG).step eB LC) (And.intro uU ((aaj.out.trans eG).trans LC)));clear eB eG uU LC hcells o9 Oi g9 f9 o8 g8 f8 o7 hyb s2 I6;refine hK.out _ _ (hS9) fun ah=>?_;clear hK K;(try simp only[pS]);refine bE [17,18] ?_;iterate 2 (refine jf ?_;try simp only[pS])
 refine bF ?_;refine bI 19 fun K hK=>?_;go_simp;(try rw[Xe]);refine hK.out _ _ (aax) fun ah=>?_;clear hK K;(try simp only[pS]);refine gq ?_;go_wp2_with fail;all_goals go_ret2
 all_goals
  refine⟨_,rfl,?_,_,bf.out.2.1,bf.out.2.2,?_,?_⟩
  ·rw[WZ.out];exact bf.out.1
  ·exact Ob HMG.out hhm HGH.out hpm HGP.out HPH.out
  ·intro jj;exact (vo ⟨rfl,rfl,rfl,rfl,rfl⟩ jj).trans ((vo ⟨rfl,rfl,rfl,rfl,rfl⟩ jj).trans (Xa.out jj))
end
end Go.Proofs.YtnbaadpgbcklaaaGreatDoor
