/- Part of a proof about trees: NRia. -/
import Derived.Test.YtnbaadpgbcklaaaGreatDoorGNRsa
set_option linter.unusedVariables false
set_option linter.unusedSimpArgs false
set_option linter.unusedSectionVars false
set_option maxHeartbeats 8000000
set_option maxRecDepth 100000
namespace Go.Proofs.YtnbaadpgbcklaaaGreatDoor
section
open Go.RowKit
theorem Nf:(Tryz.prog.info? 147).map (fun i=>(i.zero,i.size,i.bytes))=some (some (.agg #[.int .i64 0,.int .i64 0,.int .i64 0,.int .i64 0,.int .i64 0,.int .i64 0,.string ⟨#[]⟩,.string ⟨#[]⟩,.bool false,.int .i64 0,.int .i64 0]),11,104):=by kernel_rfl
theorem MV.Fz {base M m b:Nat} {f:Nat→RS} {w:World} {vs v:Value} {l:List Tr.Rec} (h:MV base w M vs m f) (hr:jI b w v l):∀ k,v.ownBlock=some k→¬ aB M vs m f k:=by
 have ht:TR w b 147 11 v l.length (gT l):=TR.jJ hr;rintro k hk (rfl | hx | ⟨i,hi,hx | hx⟩)
 ·exact ht.unlike h.var (by decide) hk
 ·exact dL ht h.row (by decide) k hx hk
 ·exact ht.ne (h.ar i hi) (by decide) k hk hx
 ·exact ht.ne (h.kr i hi) (by decide) k hk hx
theorem jI.step {base M m b:Nat} {f:Nat→RS} {w w':World} {vs v:Value} {l:List Tr.Rec} {F':Nat→Prop} (hr:jI b w v l) (h:MV base w M vs m f) (st:ay w w' (aB M vs m f) F'):jI b w' v l:=cB hr st.1 (h.Fz hr)
theorem MV.FB {base M m b:Nat} {f:Nat→RS} {w w':World} {vs v:Value} {l:List Tr.Rec} (h:MV base w M vs m f) (hr:jI b w v l) (g:w.grownBy w' v.ownBlock):MV base w' M vs m f:=
 h.turns (S:=fun k=>v.ownBlock=some k) (.aZ g (fun k hk=>hk)) (fun x hx e=>h.Fz hr x e hx)
theorem ay.FC {M m b:Nat} {f:Nat→RS} {w0 w w':World} {vs v:Value} {l:List Tr.Rec} {F:Nat→Prop} (st:ay w0 w F (aB M vs m f)) (hr:jI b w v l) (hb:w0.heap.size≤b) (g:w.grownBy w' v.ownBlock):ay w0 w' F (aB M vs m f):=
 st.kZ (S:=fun k=>v.ownBlock=some k) (.aZ g (fun k hk=>hk)) (fun k hk=>Nat.le_trans hb (hr.lt k hk).1)
def qQ (a b:RS):Prop:=a.gone=b.gone∧a.kind=b.kind∧a.at'=b.at'∧a.data=b.data
theorem qQ.trans {a b c:RS} (h:qQ a b) (k:qQ b c):qQ a c:=⟨h.1.trans k.1,h.2.1.trans k.2.1,h.2.2.1.trans k.2.2.1,h.2.2.2.trans k.2.2.2⟩
theorem vC {f:Nat→RS} {i:Nat} {u:RS→RS} (hu:qQ (u (f i)) (f i)) (j:Nat):qQ (bg f i u j) (f j):=by
 unfold bg;split
 ·rename_i e;rw[e];exact hu
 ·exact⟨rfl,rfl,rfl,rfl⟩
theorem Ng {m i p:Nat} {f:Nat→RS} {sl:Tr.Sl} {c:Int} (hi:i<m) (hg:(f i).gone=false) (hp:p<m) (hpg:(f p).gone=false) (hpi:p≠i):
  mg m (bg (bg f p fun n=>{ n with k:=sl,kids:=Tr.iL (f p).kids c (i:Int) }) i fun n=>{ n with pa:=p })=Tr.kR (mg m f) p i c:=by
 have hfun:(bg f p fun n=>{ n with k:=sl,kids:=Tr.iL (f p).kids c (i:Int) })=bg f p fun n=>{ n with k:=sl,kids:=Tr.iL n.kids c (i:Int) }:=by
  funext j;unfold bg;by_cases e:j=p
  ·subst e;simp
  ·simp[e]
 rw[hfun];exact PG hi hg hp hpg hpi
def dA (a:Tr.G) (h:Int):Tr.G:=if Tr.dI a h = -1 then a else Tr.tZ a h
def gM (a:Tr.G) (h c:Int):Int:=if c=h then wR (Tr.aj a (Tr.dI a h)) (((Tr.aj a (Tr.dI a h)).idxOf h:Nat)+1) else c
def jr (l:List Int) (p h c:Int):Tr.Rec:=
 let i:Int:=if c = -1 then (l.length:Int) else (l.idxOf c:Nat)
 ⟨1,p,h,wR l (i - 1),wR l i,i,⟨#[]⟩,⟨#[]⟩,false,0,0⟩
theorem zm (l:List Int) (p h:Int) {n:Int} (hn:(l.length:Int)=n):jr l p h (-1)=⟨1,p,h,wR l (n - 1),wR l n,n,⟨#[]⟩,⟨#[]⟩,false,0,0⟩:=by
 subst hn;unfold jr;rw[if_pos rfl]
theorem BU (l:List Int) (p h:Int) {c n:Int} (hc:c ≠ -1) (hn:((l.idxOf c:Nat):Int)=n):jr l p h c=⟨1,p,h,wR l (n - 1),wR l n,n,⟨#[]⟩,⟨#[]⟩,false,0,0⟩:=by
 subst hn;unfold jr;rw[if_neg hc]
theorem KR {l:List Int} {c h:Int} (hc:c = -1∨c∈l) (h0:(-1:Int)∉l):∃ l1 l2,l=l1++l2∧Tr.iL l c h=l1++h::l2∧((c = -1∧l2=[])∨(c ≠ -1∧l.idxOf c=l1.length)):=by
 rcases hc with rfl | hc
 ·exact⟨l,[],by simp,Tr.uW h0,.inl ⟨rfl,rfl⟩⟩
 ·have hne:c ≠ -1:=fun e=>h0 (e▸hc);obtain⟨l1,l2,rfl,hn⟩:∃ l1 l2,l=l1++c::l2∧c∉l1:=by
   clear h0 hne
   induction l with
   | nil=>cases hc
   | cons a r ih=>
    by_cases e:a=c
    ·exact⟨[],r,by rw[e];rfl,by simp⟩
    ·obtain⟨l1,l2,h1,h2⟩:=ih (by rcases List.mem_cons.1 hc with h3 | h3;exact absurd h3.symm e;exact h3);exact⟨a::l1,l2,by rw[h1];rfl,by simp;exact⟨fun e2=>e e2.symm,h2⟩⟩
  exact⟨l1,c::l2,rfl,Tr.uI hn,.inr ⟨hne,Tr.fq hn⟩⟩
theorem Nh {m i p:Nat} {f:Nat→RS} {sl:Tr.Sl} {c:Int} {A:Tr.G} (hA:mg m f=A) (hi:i<m) (hg:(f i).gone=false) (hp:p<m) (hpg:(f p).gone=false) (hpi:p≠i):
  mg m (bg (bg f p fun n=>{ n with k:=sl,kids:=Tr.iL (f p).kids c (i:Int) }) i fun n=>{ n with pa:=p })=Tr.kR A p i c:=by
 rw[←hA];exact Ng hi hg hp hpg hpi
theorem FD (base M m:Nat) (vs:Value) (f:Nat→RS) (p h:Nat) (c:Int) (w:World) (H:MV base w M vs m f) (hw:Tr.WF (-1) (mg m f)) (hpm:p<m) (hpg:(f p).gone=false) (hhm:h<m) (uP:(f h).gone=false) (Ib:(f 0).gone=false) (hm:m≤100000)
  (hch:jK m f p h=true) (hc:c = -1∨∃ j:Nat,c=(j:Int)∧j<m∧(f j).pa=(p:Int)) (hlim:(Tr.dz (mg m f) (p:Int)).length+Tr.gB (mg m f) (h:Int)≤128) (xG:p≠h) (hw1:Tr.WF (-1) (dA (mg m f) (h:Int))) (hcin:gM (mg m f) h c = -1∨gM (mg m f) h c∈Tr.aj (dA (mg m f) (h:Int)) (p:Int))
  (L0:List Tr.Rec) (hL0:((f h).pa = -1∧L0=[])∨∃ q:Nat,(f h).pa=(q:Int)∧L0=[kE m f 2 h q]):
  Calls Tryz.prog 50 #[.pointer (some ⟨M,0,none⟩),.int .i64 (p:Int),.int .i64 (h:Int),.int .i64 c] w fun e w'=>∃ r,e=.returned (.tuple #[r,.int .i64 0])∧jI w.heap.size w' r (L0++[jr (Tr.aj (dA (mg m f) (h:Int)) (p:Int)) p h (gM (mg m f) h c)])∧
   ∃ f2,MV base w' M vs m f2∧ay w w' (aB M vs m f) (aB M vs m f2)∧mg m f2=Tr.kR (dA (mg m f) (h:Int)) p h (gM (mg m f) h c)∧∀ j,qQ (f2 j) (f j):=by
 obtain⟨i0,hi0,hz0,hz1,hz2⟩:=info_parts kD;obtain⟨j0,hj0,hy0,hy1,hy2⟩:=info_parts Nf;obtain⟨A,c0,rfl⟩:=H.form;obtain⟨g,rfl,-⟩:=H.read hpm;obtain⟨dp,hdp⟩:∃ dp,(Tr.dz (mg m f) (p:Int)).length=dp:=⟨_,rfl⟩
 obtain⟨ht,hht⟩:∃ ht,Tr.gB (mg m f) (h:Int)=ht:=⟨_,rfl⟩
 have qp:=zh (uJ base M m _ f p h w H hw hpm hpg hhm Ib hm);rw[hch] at qp;have PI:=zh (zo base M m _ f (p:Int) w H hw (.inr (by rw[jR hpm,hpg];rfl)) hm);have Fj:=zh (xO base M m _ f hw hm (h:Int) (by rw[jR hhm,uP];rfl) w H);rw[hdp] at PI hlim;rw[hht] at Fj hlim;have p0:(0:Int)≤(p:Int):=by omega
 have p1:(p:Int)<(m:Int):=by omega
 have h0:(0:Int)≤(h:Int):=by omega
 have h1:(h:Int)<(m:Int):=by omega
 have VR:¬ (128:Int)<(dp:Int)+(ht:Int):=by omega
 have XV:=(H.rd hpm).1;have hup:∀ q:Nat,(f h).pa=(q:Int)→q<m∧(f q).gone=false∧(f h).pa=(q:Int)∧q≠h∧(h:Int)∈(f q).kids:=by
  intro q hq;rcases hw.pa (aQ hhm uP) with e | ⟨n,e,e5⟩
  ·exact absurd (show (f h).pa = -1 from e) (by omega)
  ·rw[show (jX (f h)).pa=(q:Int) from hq] at e;obtain⟨q',e1,e2,e3,e6⟩:=lQ e;obtain rfl:q=q':=by omega
   refine⟨e2,e3,hq,fun e4=>hw.iD (aQ hhm uP) ?_,by rw[e6] at e5;exact e5⟩;show (f h).pa=_;rw[hq,e4]
 have Ni:=zh (fun (e0:c=(h:Int))=>show ∃ (aa n ac D:Nat) (a':Option Addr),aa=0∧w.cell? ⟨g,p*7+5,none⟩=some (.slice a' n ac)∧D<100000∧
   (∀ nq,Calls Tryz.prog 95 #[.pointer (some ⟨M,0,none⟩),.int .i64 (h:Int)] (w.drewN nq) fun e w'=>e=.returned (.int .i64 (D:Int))∧w'=w.drewN nq)∧
   (∀ nq,Calls Tryz.prog 116 #[.slice a' n ac,.int .i64 ((D:Int)+1)] (w.drewN nq) fun e w'=>e=.returned (.int .i64 (gM (mg m f) h c))∧w'=w.drewN nq) from by
  have hq:(f h).pa=(p:Int):=by
   rcases hc with e | ⟨j,e1,_,e3⟩
   ·omega
   ·have e:j=h:=by omega
    rw[e] at e3;exact e3
  have VT:=(hup p hq).2.2.2.2;have hle0:=lC hw hpm hpg;have Zf:=List.idxOf_lt_length_iff.2 VT;obtain⟨D0,hD0⟩:∃ D0,(f p).kids.idxOf (h:Int)=D0:=⟨_,rfl⟩
  rw[hD0] at Zf;have VU:jl m f h=(D0:Int):=by unfold jl;rw[if_neg (by omega),hq,Int.toNat_natCast,hD0]
  have hX:gM (mg m f) h c=wR (f p).kids ((D0:Int)+1):=by
   unfold gM;rw[if_pos e0,show Tr.dI (mg m f) (h:Int)=(p:Int) by rw[Tr.aP (aQ hhm uP)];exact hq,show Tr.aj (mg m f) (p:Int)=(f p).kids from Tr.aR (aQ hpm hpg),hD0]
  obtain⟨-,-,-,-,-,-,x,-⟩:=H.rd hpm;refine⟨0,(f p).kids.length,(f p).k.c,D0,(f p).k.a,rfl,x,by omega,fun nq=>?_,fun nq=>?_⟩
  ·have:=qC base M m _ f h (w.drewN nq) (H.below (below_drewN _ w nq)) hw hhm uP hm;rw[VU] at this;exact this
  ·rw[hX];refine vB base (.slice (f p).k.a (f p).kids.length (f p).k.c) (f p).kids ((D0:Int)+1) (w.drewN nq) ?_ (by constructor<;>omega) (by omega);have:=(H.below (below_drewN _ w nq)).kr p hpm
   rw[show (f p).k.v=.slice (f p).k.a (f p).kids.length (f p).k.c by unfold Tr.Sl.v;rw[H.kn hpm]] at this;exact this)
 obtain⟨cb,hcb⟩:∃ cb,gM (mg m f) h c=cb:=⟨_,rfl⟩
 have HCN:=zh (show c≠(h:Int)→cb=c from fun e=>by rw[←hcb];exact if_neg e);rw[hcb] at hcin Ni ⊢;have VW:=zh (show ¬ (0:Int)≤c∨∃ jc:Nat,c=(jc:Int)∧jc<m∧w.cell? ⟨g,jc*7+4,none⟩=some (.int .i64 (p:Int)) from by
  rcases hc with e | ⟨jc,e1,e2,e3⟩
  ·exact .inl (by omega)
  ·obtain⟨-,-,-,-,-,x,-⟩:=H.rd e2;rw[e3] at x
   exact .inr ⟨jc,e1,e2,x⟩)
 have HA:=zh (And.intro H (And.intro hw (And.intro hpg (And.intro uP (And.intro hw1 (And.intro hcin (And.intro xG (And.intro hL0 hup))))))));clear hc hcin hw1 xG uP hpg Ib H hw hch hdp hht hlim hL0 hup hcb
 go_enter Tryz.func50,Tryz.ntmps50
 go_upto_region 1 with fail
 go_cut [33] from 13 (fun u wc=>u=.bool false∧wc=w)
 case first=>
  rcases VW.out with hn | ⟨jc,rfl,hjm,hjr⟩
  ·go_wp2_with fail;refine nP qp.out ?_;go_wp2_with fail;go_meet
   case rel=>exact⟨rfl,rfl⟩
  ·have aaP:(0:Int)≤(jc:Int):=by omega
   have aaQ:(jc:Int)<(m:Int):=by omega
   go_wp2_with fail;refine nP qp.out ?_;go_wp2_with fail;go_meet
   case rel=>exact⟨rfl,rfl⟩
 case rest=>
 obtain⟨rfl,hwc⟩:=hcut;obtain rfl:=hwc.symm;clear qp VW;go_wp2_with fail;refine nP PI.out ?_;go_wp2_with fail;refine nP Fj.out ?_;clear PI Fj
 go_upto_if 44 with fail
 go_cut [3] from 13 (fun u wc=>u=.int .i64 cb∧Below w.heap.size w wc)
 case first=>
  by_cases hce:c=(h:Int)
  ·have qe:(c == (h:Int))=true:=by simp[hce]
   obtain⟨_,n0,ac0,D0,aa0,-,c5w,hD,HI,HT⟩:=Ni.out hce;have HI:=zh HI;have HT:=zh HT;have hs2:IntKind.i64.wrap ((D0:Int)+1)=(D0:Int)+1:=by rw[IntKind.wrap_i64];omega
   clear hce;go_wp2_with fail
   go_quiet (first | (go_at_call 95;exact Calls.quiet_of_same (HI.out _)) | (go_at_call 116;exact Calls.quiet_of_same (HT.out _)))
   go_wp2_with fail;go_meet
   case rel=>exact⟨rfl,below_drewN _ w nq⟩
  ·have qe:(c == (h:Int))=false:=cK hce;have hcc:=HCN.out hce;go_wp2_with fail;go_meet
   case rel=>exact⟨by rw[hcc],Below.refl _ _⟩
 case rest=>
 obtain⟨rfl,hwc⟩:=hcut;clear Ni HCN XV;obtain⟨wb,hwb⟩:∃ x,x=wc:=⟨_,rfl⟩
 subst hwb;obtain⟨H,hw,hpg,uP,hw1,hcin,xG,hL0,hup⟩:=HA.out;have Hc:=H.below hwc;obtain⟨XW,SE⟩:∃ XW,(f h).pa=XW:=⟨_,rfl⟩
 obtain⟨XV,-,-,-,-,hfr,-⟩:=Hc.rd hhm;rw[SE] at hfr;have OZ:=zh Hc;have Zg:=zh hwc;have Zh:=zh SE;clear H hw hpg uP hw1 hcin xG hL0 hup Hc hwc SE
 go_upto_if 66 with fail
 go_cut [10] from 13 (fun u W=>∃ f1,MV base W M (.slice (some ⟨g,0,none⟩) m c0) m f1∧mg m f1=dA (mg m f) (h:Int)∧(∀ j,qQ (f1 j) (f j))∧jI w.heap.size W u L0∧ay w W (aB M (.slice (some ⟨g,0,none⟩) m c0) m f) (aB M (.slice (some ⟨g,0,none⟩) m c0) m f1))
 case first=>
  obtain⟨H,hw,hpg,uP,hw1,hcin,xG,hL0,hup⟩:=HA.out;rcases hL0 with ⟨hq,SF⟩ | ⟨q,hq,SF⟩
  ·have hn:¬ (0:Int)≤XW:=by have:=Zh.out;omega
   have hcut:mg m f=dA (mg m f) (h:Int):=by unfold dA;rw[Tr.aP (aQ hhm uP)];exact (if_pos hq).symm
   have Ic:=zh (And.intro OZ.out (And.intro hcut (ay.of_below (F:=aB M (.slice (some ⟨g,0,none⟩) m c0) m f) Zg.out)));have Q7:=zh SF;clear H hw hpg uP hw1 hcin xG hup hq hcut SF;go_wp2_with fail;go_meet
   case rel=>exact⟨f,Ic.out.1,Ic.out.2.1,fun _=>⟨rfl,rfl,rfl,rfl⟩,by rw[Q7.out];exact jI.nil _ _,Ic.out.2.2⟩
  ·obtain rfl:XW=(q:Int):=by have:=Zh.out;omega
   have qq0:(0:Int)≤(q:Int):=by omega
   obtain⟨hqm,hqg,-,hqh,-⟩:=hup q hq;have hcut:dA (mg m f) (h:Int)=Tr.tZ (mg m f) (h:Int):=by unfold dA;rw[Tr.aP (aQ hhm uP)];exact if_neg (by show (f h).pa ≠ -1;omega)
   have KL:=zh (Fy base M m _ f h q wb OZ.out hw hhm uP hq hm);have VX:=zh (fun sl=>Nj (sl:=sl) hhm uP hqm hqg hq hqh);have Q7:=zh (And.intro SF hcut);clear H hw hpg uP hw1 hcin xG hup hq hcut SF hqm hqg hqh;go_wp2_with fail;refine KL.out.mono ?_;rintro e W0 ⟨rfl,sl0,hm0,st0⟩;obtain⟨f1,hf1⟩:∃ f1,(bg (bg f q fun n=>{ n with k:=sl0,kids:=n.kids.erase (h:Int) }) h fun n=>{ n with pa := -1 })=f1:=⟨_,rfl⟩
   rw[hf1] at hm0 st0;have HG:=zh (show mg m f1=dA (mg m f) (h:Int)∧∀ j,qQ (f1 j) (f j) from⟨by rw[←hf1,Q7.out.2];exact VX.out sl0,fun j=>by rw[←hf1];exact (vC ⟨rfl,rfl,rfl,rfl⟩ j).trans (vC ⟨rfl,rfl,rfl,rfl⟩ j)⟩);obtain⟨r0,hr⟩:∃ r0,kE m f 2 h q=r0:=⟨_,rfl⟩
   have rX:=nQ W0 r0 0 (Nat.zero_le _);obtain⟨Wb,Zi⟩:∃ Wb,W0.alloc (.cells #[.int .i64 r0.kind,.int .i64 r0.target,.int .i64 r0.node,.int .i64 r0.prev,.int .i64 r0.next,.int .i64 r0.index,.string r0.name,.string r0.old,.bool r0.had,.int .i64 r0.count,.int .i64 r0.size] 147)=Wb:=⟨_,rfl⟩
   rw[Zi] at rX;have hbb:Below W0.heap.size W0 Wb:=eP Zi;have SG:=((ay.of_below (F:=aB M (.slice (some ⟨g,0,none⟩) m c0) m f) Zg.out).trans st0).trans (.of_below hbb);have hsb:w.heap.size≤Wb.heap.size:=SG.1.size;have XY:=zh (hm0.below hbb);have HSB:=zh SG;rw[hr] at Q7 ⊢;have Zj:=Q7;clear KL VX XV hfr hm0 st0 hbb SG hr hf1 Q7
   go_wp2_with (at_builtin;refine dQ rfl _ _ 93 rfl w.heap.size 0 147 j0 (.agg #[.int .i64 0,.int .i64 0,.int .i64 0,.int .i64 0,.int .i64 0,.int .i64 0,.string ⟨#[]⟩,.string ⟨#[]⟩,.bool false,.int .i64 0,.int .i64 0]) 11 104 Tryz.underlying93 hj0 hy0 hy1 hy2 rfl (by decide) _ 0 [] rfl (jI.nil w.heap.size _) _ 1 (gT [r0]) rfl rX (yU _) ?cm1 ?cm2 hsb ?_)
   case cm1=>unfold maxLen;omega
   case cm2=>omega
   intro v1 W1 o1 g1 Mf;have Ic:=zh (show _∧_∧_ from⟨XY.out.FB (jI.nil w.heap.size _) g1,(show jI w.heap.size W1 v1 L0 by rw[Zj.out.1];unfold jI;simpa using o1),HSB.out.FC (jI.nil w.heap.size _) (Nat.le_refl _) g1⟩);obtain⟨Ao,co,rfl⟩:=aF (aH o1);clear o1 g1 Mf rX XY HSB Zi;go_wp2_with fail;go_meet
   case rel=>exact⟨f1,Ic.out.1,HG.out.1,HG.out.2,Ic.out.2.1,Ic.out.2.2⟩
 case rest=>
 obtain⟨f1,hm1,SH,hgn,hro,hst⟩:=hcut;obtain⟨H,hw,hpg,uP,hw1,hcin,xG,hL0,hup⟩:=HA.out;have hR0:L0.length≤1:=by rcases hL0 with ⟨-,e⟩ | ⟨_,-,e⟩<;>rw[e]<;>simp
 have KS:(f1 p).gone=false:=(hgn p).1.trans hpg;have VY:(f1 h).gone=false:=(hgn h).1.trans uP;have Nk:Tr.WF (-1) (mg m f1):=by rw[SH];exact hw1
 have VZ:=zh (show Tr.aj (dA (mg m f) (h:Int)) (p:Int)=(f1 p).kids by rw[←SH];exact Tr.aR (aQ hpm KS));rw[VZ.out] at hcin;have hnz:(-1:Int)∉(f1 p).kids:=Nk.kG (aQ hpm KS);have hle:=lC Nk hpm KS;obtain⟨l1,l2,hL,Q9,hcl⟩:=KR (h:=(h:Int)) hcin hnz;obtain⟨d,hd⟩:∃ d,l1.length=d:=⟨_,rfl⟩
 obtain⟨b,hb⟩:∃ b,l2.length=b:=⟨_,rfl⟩
 have hlen:(f1 p).kids.length=d+b:=by rw[hL,List.length_append,hd,hb]
 obtain⟨A5,Zk⟩:∃ A5,(f1 p).k.a=A5:=⟨_,rfl⟩
 obtain⟨JG,SI⟩:∃ JG,(f1 p).k.c=JG:=⟨_,rfl⟩
 have hkv:(f1 p).k.v=.slice A5 (d+b) JG:=by unfold Tr.Sl.v;rw[hm1.kn hpm,hlen,Zk,SI]
 obtain⟨kz,-,-,-,-,-,kc5,-⟩:=hm1.rd hpm;rw[Zk,hlen,SI] at kc5;have hcap:d+b≤JG:=by
  have hk:=hm1.kr p hpm;rw[hkv] at hk;rcases hk.2 with ⟨e,e2⟩ | ⟨_,_,_,_,e,_,_,e2,_⟩
  ·injection e;omega
  ·injection e with e3 e4 e5;rw[hlen] at e2;omega
 have QV:=zh (show jr (f1 p).kids p h cb=⟨1,p,h,wR (f1 p).kids ((d:Int) - 1),wR (f1 p).kids (d:Int),(d:Int),⟨#[]⟩,⟨#[]⟩,false,0,0⟩ from by
  rcases hcl with ⟨e,e2⟩ | ⟨hcn,hix⟩
  ·rw[e];exact zm _ _ _ (by rw[hlen,←hb,e2];simp)
  ·exact BU _ _ _ hcn (by rw[hix,hd]))
 have HIM:=zh (show (¬ (0:Int)≤cb∧Hid (b=0))∨∃ j:Nat,cb=(j:Int)∧Calls Tryz.prog 95 #[.pointer (some ⟨M,0,none⟩),.int .i64 (j:Int)] wc fun e w'=>e=.returned (.int .i64 (d:Int))∧w'=wc from by
  rcases hcl with ⟨e,e2⟩ | ⟨hcn,hix⟩
  ·exact .inl ⟨by omega,zh (by rw[←hb,e2];rfl)⟩
  ·obtain⟨j,hcj,hjm,Uq,hjp⟩:=Live.kid Nk hpm KS (hcin.resolve_left hcn);have:=qC base M m _ f1 j wc hm1 Nk hjm Uq hm;rw[show jl m f1 j=(d:Int) by unfold jl;rw[if_neg (by omega),hjp,Int.toNat_natCast,←hcj,hix,hd]] at this
   exact .inr ⟨j,hcj,this⟩)
 have V4:=zh (fun (W:World) (hmv:MV base W M (.slice (some ⟨g,0,none⟩) m c0) m f1)=>show TR W base 3 1 (.slice A5 d JG) d (ints l1)∧TR W base 3 1 (.slice (if JG=d then A5 else A5.map fun x=>x.add d) b (JG - d)) b (ints l2) from by
  have hk:=hmv.kr p hpm;rw[hkv,hlen,hL] at hk;have a1:=hk.head (k:=d) (by omega);have a2:=hk.tail (k:=d) (by omega);rw[Nat.mul_one,BR,List.take_left' hd] at a1;rw[Nat.mul_one,BS,List.drop_left' hd,Nat.add_sub_cancel_left] at a2;rw[show tailV (.slice A5 (d+b) JG) d 1=.slice (if JG=d then A5 else A5.map fun x=>x.add d) b (JG - d) by unfold tailV;simp only[Nat.add_sub_cancel_left,Nat.mul_one]] at a2
  exact⟨a1,a2⟩)
 have Un:=zh (fun (W:World) (hb:Below wc.heap.size wc W)=>show TR W base 3 1 (.slice A5 (d+b) JG) (d+b) (ints (f1 p).kids) from by
  have hk:=(hm1.below hb).kr p hpm
  rw[hkv,hlen] at hk;exact hk)
 have Jv:=zh (show (f1 p).kids.length=(d+b) from hlen);have Zl:=zh (show Tr.iL (f1 p).kids cb (h:Int)=l1++(h:Int)::l2 from Q9);have XZ:=zh (show l1.length=d∧l2.length=b from⟨hd,hb⟩);have HGH:=zh VY;have HGP:=zh KS;have HPH:=zh xG;have HMG:=zh SH;have V5:=zh hgn;have HST:=zh hst;have Zm:=zh hm1;have HRO:=zh hro;have hdb:d+b≤100000:=by omega
 have d0:(0:Int)≤(d:Int):=by omega
 have hda:(d:Int)≤(JG:Int):=by omega
 have hdn:(d:Int)≤((d+b:Nat):Int):=by omega
 have aaR:(d:Int)≤(d:Int)+(b:Int):=by omega
 obtain⟨Ao,co,rfl⟩:=aF (aH hro);clear H hw hpg uP hw1 hcin xG hL0 hup KS VY Nk hnz hle hL Q9 hcl hd hb hlen Zk SI hkv SH hgn hst hm1 hro HA OZ Zg Zh XV hfr
 go_upto_if 84 with fail
 go_cut [12] from 13 (fun u W=>u=.int .i64 (d:Int)∧W=wc)
 case first=>
  rcases HIM.out with ⟨hn,hb0⟩ | ⟨j,rfl,HI⟩
  ·go_wp2_with fail;go_meet
   case rel=>exact⟨by rw[hb0.out];rfl,rfl⟩
  ·have qj:(0:Int)≤(j:Int):=by omega
   have HI:=zh HI;go_wp2_with fail;refine nP HI.out ?_;go_wp2_with fail;go_meet
   case rel=>exact⟨rfl,rfl⟩
 case rest=>
 obtain⟨rfl,Zn⟩:=hcut;obtain rfl:=Zn.symm;clear HIM;have hm1:=Zm.out;have hro:=HRO.out;have hA1:=vB base (.slice A5 (d+b) JG) (f1 p).kids ((d:Int) - 1) wc (by have:=Un.out wc (Below.refl _ _);rw[Jv.out];exact this) (by constructor<;>omega) (by rw[Jv.out];omega);have hA2:=vB base (.slice A5 (d+b) JG) (f1 p).kids (d:Int) wc (by have:=Un.out wc (Below.refl _ _);rw[Jv.out];exact this) (by constructor<;>omega) (by rw[Jv.out];omega);obtain⟨X1,hX1⟩:∃ x,wR (f1 p).kids ((d:Int) - 1)=x:=⟨_,rfl⟩
 obtain⟨X2,hX2⟩:∃ x,wR (f1 p).kids (d:Int)=x:=⟨_,rfl⟩
 have e1:=hX1;have e2:=hX2;unfold wR at e1 e2;rw[e1] at hA1;rw[e2] at hA2;have HA1:=zh hA1;have HA2:=zh hA2;clear hA1 hA2;have Zo:=zh (show jr (f1 p).kids p h cb=⟨1,p,h,X1,X2,(d:Int),⟨#[]⟩,⟨#[]⟩,false,0,0⟩ by
  rw[QV.out,hX1,hX2])
 obtain⟨W2,hW2⟩:∃ W2,wc.alloc (.cells #[.int .i64 1,.int .i64 (p:Int),.int .i64 (h:Int),.int .i64 X1,.int .i64 X2,.int .i64 (d:Int),.string ⟨#[]⟩,.string ⟨#[]⟩,.bool false,.int .i64 0,.int .i64 0] 147)=W2:=⟨_,rfl⟩
 have eU:Below wc.heap.size wc W2:=eP hW2;have hrow2:jI 0 W2 (.slice (some ⟨wc.heap.size,0,none⟩) 1 1) [jr (f1 p).kids p h cb]:=by
  rw[Zo.out,←hW2];exact nQ wc ⟨1,p,h,X1,X2,(d:Int),⟨#[]⟩,⟨#[]⟩,false,0,0⟩ 0 (Nat.zero_le _)
 have hm2:=hm1.below eU;have SK:=hro.below eU;have Zp:w.heap.size≤W2.heap.size:=Nat.le_trans HST.out.1.size eU.size;have Zq:=zh (HST.out.trans (.of_below eU));have wS:=zh hm2;have V6:=zh SK;clear e1 e2 hX1 hX2 eU;go_wp2_with fail;refine nP HA1.out ?_;go_wp2_with fail;refine nP HA2.out ?_;clear HA1 HA2
 go_wp2_with (at_builtin;refine dQ rfl _ _ 93 rfl w.heap.size 0 147 j0 (.agg #[.int .i64 0,.int .i64 0,.int .i64 0,.int .i64 0,.int .i64 0,.int .i64 0,.string ⟨#[]⟩,.string ⟨#[]⟩,.bool false,.int .i64 0,.int .i64 0]) 11 104 Tryz.underlying93 hj0 hy0 hy1 hy2 rfl (by decide) _ L0.length (gT L0) rfl SK _ 1 (gT [jr (f1 p).kids p h cb]) rfl hrow2 (yU _) ?cB1 ?cB2 Zp ?_)
 case cB1=>unfold maxLen;omega
 case cB2=>omega
 intro v3 W3 o3 g3 f3;have GH:=wS.out.FB V6.out g3;have o3':jI w.heap.size W3 v3 (L0++[jr (f1 p).kids p h cb]):=by
  unfold jI;rw[List.length_append,lM];exact o3
 have Zr:=zh (Zq.out.FC V6.out (Nat.le_refl _) g3);have Zt:=zh o3';have jY:=zh GH;obtain⟨A3,c3,rfl⟩:=aF (aH o3);have Zu:=bB W3.heap.size W3;have Ie:Below W3.heap.size W3 W3.drew:=Zu;have Nl:=zh (fun (W:World) (hb:Below W3.heap.size W3 W)=>(GH.below hb));have Ra:=zh (fun (W:World) (hb:Below W3.heap.size W3 W)=>(V4.out W (GH.below hb)));have JF:=zh ((GH.below Ie).rd hpm).1;have hgl:g<W3.heap.size:=(GH.row.lt g rfl).2;have Zv:base≤W3.heap.size:=by have:=GH.low;have:=GH.var.lt;omega
 clear hm2 SK hrow2 GH o3 o3' g3 f3 hm1 hro hW2;go_wp2_with fail;refine wp_region_noPanic ?_;refine wp_region_held_drew (S:=(fun W=>W.cell? ⟨M,0,none⟩=some (.slice (some ⟨g,0,none⟩) m c0))) (by kernel_rfl) ?_ (fun hHeld=>?_)
 ·exact JF.out
 refine bD [0,1,2,3,4,6,7,8,10,13,14,15] ?_;iterate 12 (refine iZ ?_;try simp only[pS])
 refine bE ?_;refine jn5 (C:=fun (V:World) (A7:Option Addr) (c7 X Y:Nat)=>Below W3.heap.size W3 V∧TR V W3.heap.size 3 1 (.slice A7 d c7) d (ints l1)∧TR V W3.heap.size 3 1 (.slice (some ⟨X,0,none⟩) 1 1) 1 (ints [(h:Int)])) (T:=?T) (fun TAIL=>?_) ?_
 case refine_1=>
  refine wpAnyH_ready (rs:=[5,11]) (by kernel_rfl) (by simp) ?_;refine AllReadyH.cons rfl (fun K hK=>?_) (AllReadyH.cons rfl (fun K hK=>?_) AllReadyH.nil)
  ·
   obtain⟨V1,hV1⟩:∃ V,W3.drew.alloc (.cells #[] 3)=V:=⟨_,rfl⟩
   have hbn:Below W3.drew.heap.size W3.drew V1:=by rw[←hV1];exact (Below.refl _ W3.drew).alloc (Nat.le_refl _) _
   have vD:Below W3.heap.size W3 V1:=Ie.trans (hbn.mono Ie.size);have e5:TR V1 W3.heap.size 3 1 (.slice (some ⟨W3.drew.heap.size,0,none⟩) 0 0) 0 []:=by rw[←hV1];exact (lu W3.drew 3 1).lower Ie.size
   go_simp;(try rw[hV1]);refine hK.out _ _ (((Nl.out _ vD).rd hpm).1) fun hHeld=>?_;clear hK K;(try simp only[pS]);refine wpAnyH_ready (rs:=[9,11]) (by kernel_rfl) (by simp) ?_;refine AllReadyH.cons rfl (fun K hK=>?_) (AllReadyH.cons rfl (fun K hK=>?_) AllReadyH.nil)
   ·
    refine aM rfl _ _ 31 rfl W3.heap.size 3 i0 (.int .i64 0) 1 8 Tryz.underlying31 hi0 hz0 hz1 hz2 rfl (by decide) _ 0 [] rfl e5 _ d (ints l1) rfl (Ra.out V1 vD).1.1 (Ra.out V1 vD).1.source (dY _) ?Zw ?Zx vD.size ?_
    case Zw=>unfold maxLen;omega
    case Zx=>omega
    intro v7 V2 o7 um f7;have g7:V1.grownBy V2 (Value.slice (some ⟨W3.drew.heap.size,0,none⟩) 0 0).ownBlock:=um;clear um;(try simp only[Nat.zero_add,List.nil_append] at o7);have bA:Below W3.heap.size W3 V2:=vD.grown g7 vD.size (fun jj hj=>(e5.lt jj hj).1);obtain⟨A7,c7,rfl⟩:=o7.form;refine hK.out _ _ (((Nl.out _ bA).rd hpm).1) fun hHeld=>?_;clear hK K;(try simp only[pS]);refine bL 11 fun K hK=>?_;obtain⟨V3,gP⟩:∃ V,V2.alloc (.cells #[.int .i64 (h:Int)] 3)=V:=⟨_,rfl⟩
    have zq:Below V2.heap.size V2 V3:=eP gP;have bC:Below W3.heap.size W3 V3:=bA.trans (zq.mono bA.size);have JH:TR V3 W3.heap.size 3 1 (.slice (some ⟨V2.heap.size,0,none⟩) 1 1) 1 (ints [(h:Int)]):=by
     rw[←gP];exact (TR.jJ (World.ownsRow_lit (base:=V2.heap.size) (e:=3) (size:=1) V2 #[.int .i64 (h:Int)] 1 (Nat.le_refl _) (by unfold maxLen;omega) rfl)).lower bA.size
    go_simp;(try rw[gP]);refine hK.out _ _ (((Nl.out _ bC).rd hpm).1) fun hHeld=>?_;clear hK K;(try simp only[pS]);have o7:=o7.below zq;obtain⟨X,hX⟩:∃ X,V2.heap.size=X:=⟨_,rfl⟩
    obtain⟨Y,hY⟩:∃ Y,W3.heap.size=Y:=⟨_,rfl⟩
    rw[hX,hY];exact TAIL.out _ _ _ X Y ⟨bC,o7,by rw[←hX];exact JH⟩
   ·
    obtain⟨V2,hV2⟩:∃ V,V1.alloc (.cells #[.int .i64 (h:Int)] 3)=V:=⟨_,rfl⟩
    have zq:Below V1.heap.size V1 V2:=eP hV2;have bA:Below W3.heap.size W3 V2:=vD.trans (zq.mono vD.size);have JH:TR V2 W3.heap.size 3 1 (.slice (some ⟨V1.heap.size,0,none⟩) 1 1) 1 (ints [(h:Int)]):=by
     rw[←hV2];exact (TR.jJ (World.ownsRow_lit (base:=V1.heap.size) (e:=3) (size:=1) V1 #[.int .i64 (h:Int)] 1 (Nat.le_refl _) (by unfold maxLen;omega) rfl)).lower vD.size
    go_simp;(try rw[hV2]);refine hK.out _ _ (((Nl.out _ bA).rd hpm).1) fun hHeld=>?_;clear hK K;(try simp only[pS]);have e5:=e5.below zq;refine bL 9 fun K hK=>?_;refine aM rfl _ _ 31 rfl W3.heap.size 3 i0 (.int .i64 0) 1 8 Tryz.underlying31 hi0 hz0 hz1 hz2 rfl (by decide) _ 0 [] rfl e5 _ d (ints l1) rfl (Ra.out V2 bA).1.1 (Ra.out V2 bA).1.source (dY _) ?Zy ?Zz bA.size ?_
    case Zy=>unfold maxLen;omega
    case Zz=>omega
    intro v7 V3 o7 um f7;have g7:V2.grownBy V3 (Value.slice (some ⟨W3.drew.heap.size,0,none⟩) 0 0).ownBlock:=um;clear um;(try simp only[Nat.zero_add,List.nil_append] at o7);have bC:Below W3.heap.size W3 V3:=bA.grown g7 bA.size (fun jj hj=>(e5.lt jj hj).1);obtain⟨A7,c7,rfl⟩:=o7.form;have JH:TR V3 W3.heap.size 3 1 _ 1 (ints [(h:Int)]):=JH.kept g7 (.inr (fun e=>by have ee:V1.heap.size=W3.drew.heap.size:=(by simpa [Value.ownBlock] using e);rw[←hV1,World.size_alloc] at ee;omega));refine hK.out _ _ (((Nl.out _ bC).rd hpm).1) fun hHeld=>?_;clear hK K;(try simp only[pS]);obtain⟨X,hX⟩:∃ X,V1.heap.size=X:=⟨_,rfl⟩
    obtain⟨Y,hY⟩:∃ Y,W3.heap.size=Y:=⟨_,rfl⟩
    rw[hX,hY];exact TAIL.out _ _ _ X Y ⟨bC,o7,by rw[←hX];exact JH⟩
  ·
   obtain⟨V1,hV1⟩:∃ V,W3.drew.alloc (.cells #[.int .i64 (h:Int)] 3)=V:=⟨_,rfl⟩
   have zq:Below W3.drew.heap.size W3.drew V1:=by rw[←hV1];exact (Below.refl _ W3.drew).alloc (Nat.le_refl _) _
   have vD:Below W3.heap.size W3 V1:=Ie.trans (zq.mono Ie.size);have JH:TR V1 W3.heap.size 3 1 (.slice (some ⟨W3.drew.heap.size,0,none⟩) 1 1) 1 (ints [(h:Int)]):=by
    rw[←hV1];exact (TR.jJ (World.ownsRow_lit (base:=W3.drew.heap.size) (e:=3) (size:=1) W3.drew #[.int .i64 (h:Int)] 1 (Nat.le_refl _) (by unfold maxLen;omega) rfl)).lower Ie.size
   go_simp;(try rw[hV1]);refine hK.out _ _ (((Nl.out _ vD).rd hpm).1) fun hHeld=>?_;clear hK K;(try simp only[pS]);refine bL 5 fun K hK=>?_;obtain⟨V2,hV2⟩:∃ V,V1.alloc (.cells #[] 3)=V:=⟨_,rfl⟩
   have hbn:Below V1.heap.size V1 V2:=eP hV2;have bA:Below W3.heap.size W3 V2:=vD.trans (hbn.mono vD.size);have e5:TR V2 W3.heap.size 3 1 (.slice (some ⟨V1.heap.size,0,none⟩) 0 0) 0 []:=by rw[←hV2];exact (lu V1 3 1).lower vD.size
   go_simp;(try rw[hV2]);refine hK.out _ _ (((Nl.out _ bA).rd hpm).1) fun hHeld=>?_;clear hK K;(try simp only[pS]);have JH:=JH.below hbn;refine bL 9 fun K hK=>?_;refine aM rfl _ _ 31 rfl W3.heap.size 3 i0 (.int .i64 0) 1 8 Tryz.underlying31 hi0 hz0 hz1 hz2 rfl (by decide) _ 0 [] rfl e5 _ d (ints l1) rfl (Ra.out V2 bA).1.1 (Ra.out V2 bA).1.source (dY _) ?ZA ?ZB bA.size ?_
   case ZA=>unfold maxLen;omega
   case ZB=>omega
   intro v7 V3 o7 um f7;have g7:V2.grownBy V3 (Value.slice (some ⟨V1.heap.size,0,none⟩) 0 0).ownBlock:=um;clear um;(try simp only[Nat.zero_add,List.nil_append] at o7);have bC:Below W3.heap.size W3 V3:=bA.grown g7 bA.size (fun jj hj=>(e5.lt jj hj).1);obtain⟨A7,c7,rfl⟩:=o7.form;have JH:TR V3 W3.heap.size 3 1 _ 1 (ints [(h:Int)]):=JH.kept g7 (.inr (fun e=>by have ee:W3.drew.heap.size=V1.heap.size:=(by simpa [Value.ownBlock] using e);rw[←hV1,World.size_alloc] at ee;omega));refine hK.out _ _ (((Nl.out _ bC).rd hpm).1) fun hHeld=>?_;clear hK K;(try simp only[pS]);obtain⟨X,hX⟩:∃ X,W3.heap.size=X:=⟨_,rfl⟩
   obtain⟨Y,hY⟩:∃ Y,V1.heap.size=Y:=⟨_,rfl⟩
   rw[hX,hY];exact TAIL.out _ _ _ X Y ⟨bC,o7,by rw[←hX];exact JH⟩
 intro V3 A7 c7 X Y ⟨bC,o7,JH⟩;have hHeld:=((Nl.out _ bC).rd hpm).1;refine bL 12 fun K hK=>?_;have s11:=JH.source;have l11:=JH.1;refine aM rfl _ _ 31 rfl W3.heap.size 3 i0 (.int .i64 0) 1 8 Tryz.underlying31 hi0 hz0 hz1 hz2 rfl (by decide) _ d (ints l1) rfl o7 _ 1 (ints [(h:Int)]) rfl l11 s11 (dY _) ?ZC ?ZE bC.size ?_
 case ZC=>unfold maxLen;omega
 case ZE=>omega
 intro v8 V8 o8 g8 f8;rw[←dX] at o8;have Ig:Below W3.heap.size W3 V8:=bC.grown g8 bC.size (fun jj hj=>(o7.lt jj hj).1);obtain⟨A8,c8,rfl⟩:=o8.form;refine hK.out _ _ (((Nl.out _ Ig).rd hpm).1) fun hHeld=>?_;clear hK K;(try simp only[pS]);refine bL 16 fun K hK=>?_;have hyb:=(Ra.out V8 Ig).2.1;have s2:=(Ra.out V8 Ig).2.source;refine aM rfl _ _ 31 rfl W3.heap.size 3 i0 (.int .i64 0) 1 8 Tryz.underlying31 hi0 hz0 hz1 hz2 rfl (by decide) _ (d+1) (ints (l1++[(h:Int)])) rfl o8 _ b (ints l2) rfl hyb s2 (dY _) ?ZF ?ZG Ig.size ?_
 case ZF=>unfold maxLen;omega
 case ZG=>omega
 intro v9 V9 o9 g9 f9;rw[←dX] at o9;have Wd:Below W3.heap.size W3 V9:=Ig.grown g9 Ig.size (fun jj hj=>(o8.lt jj hj).1);obtain⟨A9,c9,rfl⟩:=o9.form;have Nn:TR V9 base 3 1 (Tr.Sl.v ⟨A9,d+1+b,c9⟩) (Tr.iL (f1 p).kids cb (h:Int)).length (ints (Tr.iL (f1 p).kids cb (h:Int))):=by
  rw[Zl.out,show l1++(h:Int)::l2=l1++[(h:Int)]++l2 from by simp];have e:(l1++[(h:Int)]++l2).length=d+1+b:=by rw[List.length_append,List.length_append,XZ.out.1,XZ.out.2];rfl
  rw[e];exact o9.lower Zv
 obtain⟨_,fz,hcells,eF,eZ⟩:=jY.out.zi (sl:=⟨A9,d+1+b,c9⟩) (l':=Tr.iL (f1 p).kids cb (h:Int)) hpm (Below.refl _ W3) (ak Wd _) Nn (.inr fun k hk=>(o9.lt k hk).1);have hpc:=hcells p 5 hpm (by omega);rw[show (pR (f1 p))[5]?=some ((f1 p).k.v) from rfl] at hpc;obtain⟨V10,Wh⟩:∃ V,V9.setCell ⟨g,p*7+5,none⟩ (.slice A9 (d+1+b) c9)=V:=⟨_,rfl⟩
 rw[show (Tr.Sl.v ⟨A9,d+1+b,c9⟩)=.slice A9 (d+1+b) c9 from rfl,Wh] at eF eZ;have ZH:=(eF.rd hpm).1;have ZI:=((Nl.out _ Wd).rd hpm).1;obtain⟨k10,-,-,-,-,p10,-⟩:=eF.rd hhm;have aaS:=eF.fz (h*7+4);obtain⟨uZ,KQ⟩:=eF.put (j:=4) (v:=.int .i64 (p:Int)) hhm (by omega) (fun n=>{ n with pa:=p }) rfl ⟨rfl,rfl,rfl,rfl⟩;have bf:=zh (And.intro ((Zt.out.step jY.out eZ).step eF KQ) (And.intro uZ ((Zr.out.trans eZ).trans KQ)));clear eF eZ uZ KQ hcells o9 Nn g9 f9 o8 g8 f8 o7 hyb s2 Ig;refine hK.out _ _ (ZI) fun hHeld=>?_;clear hK K;(try simp only[pS]);refine bD [17,18] ?_;iterate 2 (refine iZ ?_;try simp only[pS])
 refine bE ?_;refine bL 19 fun K hK=>?_;go_simp;(try rw[Wh]);refine hK.out _ _ (ZH) fun hHeld=>?_;clear hK K;(try simp only[pS]);refine fB ?_;go_wp2_with fail;all_goals go_ret2
 all_goals
  refine⟨_,rfl,?_,_,bf.out.2.1,bf.out.2.2,?_,?_⟩
  ·rw[VZ.out];exact bf.out.1
  ·exact Nh HMG.out hhm HGH.out hpm HGP.out HPH.out
  ·intro jj;exact (vC ⟨rfl,rfl,rfl,rfl⟩ jj).trans ((vC ⟨rfl,rfl,rfl,rfl⟩ jj).trans (V5.out jj))
end
end Go.Proofs.YtnbaadpgbcklaaaGreatDoor
