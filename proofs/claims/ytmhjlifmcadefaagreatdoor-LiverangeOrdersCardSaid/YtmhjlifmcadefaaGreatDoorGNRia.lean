/- Part of a proof about trees. -/
import Derived.Test.YtmhjlifmcadefaaGreatDoorGNRsa
set_option linter.unusedVariables false
set_option linter.unusedSimpArgs false
set_option maxHeartbeats 8000000
set_option maxRecDepth 100000
namespace Go.Proofs.YtmhjlifmcadefaaGreatDoor
section
open Go.RowKit
theorem Po:(Tryz.prog.info? 147).map (fun i=>(i.zero,i.size,i.bytes))=some (some (.agg #[.int .i64 0,.int .i64 0,.int .i64 0,.int .i64 0,.int .i64 0,.int .i64 0,.string ⟨#[]⟩,.string ⟨#[]⟩,.bool false,.int .i64 0,.int .i64 0]),11,104):=by kernel_rfl
theorem MV.Gn {base M m b:Nat} {f:Nat→RS} {w:World} {vs v:Value} {l:List Tr.Rec} (h:MV base w M vs m f) (hr:jN b w v l):∀ k,v.ownBlock=some k→¬ aC M vs m f k:=by
 have ht:TR w b 147 11 v l.length (gP l):=TR.jP hr;rintro k hk (rfl | hx | ⟨i,hi,hx | hx⟩)
 ·exact ht.unlike h.var (by decide) hk
 ·exact dN ht h.row (by decide) k hx hk
 ·exact ht.ne (h.ar i hi) (by decide) k hk hx
 ·exact ht.ne (h.kr i hi) (by decide) k hk hx
theorem jN.step {base M m b:Nat} {f:Nat→RS} {w w':World} {vs v:Value} {l:List Tr.Rec} {F':Nat→Prop} (hr:jN b w v l) (h:MV base w M vs m f) (st:aB w w' (aC M vs m f) F'):jN b w' v l:=bY hr st.1 (h.Gn hr)
theorem MV.Gp {base M m b:Nat} {f:Nat→RS} {w w':World} {vs v:Value} {l:List Tr.Rec} (h:MV base w M vs m f) (hr:jN b w v l) (g:w.grownBy w' v.ownBlock):MV base w' M vs m f:=
 h.turns (S:=fun k=>v.ownBlock=some k) (.aU g (fun k hk=>hk)) (fun x hx e=>h.Gn hr x e hx)
theorem aB.Gq {M m b:Nat} {f:Nat→RS} {w0 w w':World} {vs v:Value} {l:List Tr.Rec} {F:Nat→Prop} (st:aB w0 w F (aC M vs m f)) (hr:jN b w v l) (hb:w0.heap.size≤b) (g:w.grownBy w' v.ownBlock):aB w0 w' F (aC M vs m f):=
 st.lH (S:=fun k=>v.ownBlock=some k) (.aU g (fun k hk=>hk)) (fun k hk=>Nat.le_trans hb (hr.lt k hk).1)
def qJ (a b:RS):Prop:=a.gone=b.gone∧a.kind=b.kind∧a.at'=b.at'∧a.data=b.data∧a.name=b.name
theorem qJ.trans {a b c:RS} (h:qJ a b) (k:qJ b c):qJ a c:=⟨h.1.trans k.1,h.2.1.trans k.2.1,h.2.2.1.trans k.2.2.1,h.2.2.2.1.trans k.2.2.2.1,h.2.2.2.2.trans k.2.2.2.2⟩
theorem vO {f:Nat→RS} {i:Nat} {u:RS→RS} (hu:qJ (u (f i)) (f i)) (j:Nat):qJ (aX f i u j) (f j):=by
 unfold aX;split
 ·rename_i e;rw[e];exact hu
 ·exact⟨rfl,rfl,rfl,rfl,rfl⟩
theorem Pp {m i p:Nat} {f:Nat→RS} {sl:Tr.Sl} {c:Int} (hi:i<m) (hg:(f i).gone=false) (hp:p<m) (hpg:(f p).gone=false) (hpi:p≠i):
  mg m (aX (aX f p fun n=>{ n with k:=sl,kids:=Tr.iD (f p).kids c (i:Int) }) i fun n=>{ n with pa:=p })=Tr.lu (mg m f) p i c:=by
 have hfun:(aX f p fun n=>{ n with k:=sl,kids:=Tr.iD (f p).kids c (i:Int) })=aX f p fun n=>{ n with k:=sl,kids:=Tr.iD n.kids c (i:Int) }:=by
  funext j;unfold aX;by_cases e:j=p
  ·subst e;simp
  ·simp[e]
 rw[hfun];exact Sc hi hg hp hpg hpi
def dz (a:Tr.G) (h:Int):Tr.G:=if Tr.dI a h = -1 then a else Tr.uh a h
def gK (a:Tr.G) (h c:Int):Int:=if c=h then xg (Tr.au a (Tr.dI a h)) (((Tr.au a (Tr.dI a h)).idxOf h:Nat)+1) else c
def jD (l:List Int) (p h c:Int):Tr.Rec:=
 let i:Int:=if c = -1 then (l.length:Int) else (l.idxOf c:Nat)
 ⟨1,p,h,xg l (i - 1),xg l i,i,⟨#[]⟩,⟨#[]⟩,false,0,0⟩
theorem Aw (l:List Int) (p h:Int) {n:Int} (hn:(l.length:Int)=n):jD l p h (-1)=⟨1,p,h,xg l (n - 1),xg l n,n,⟨#[]⟩,⟨#[]⟩,false,0,0⟩:=by
 subst hn;unfold jD;rw[if_pos rfl]
theorem DC (l:List Int) (p h:Int) {c n:Int} (hc:c ≠ -1) (hn:((l.idxOf c:Nat):Int)=n):jD l p h c=⟨1,p,h,xg l (n - 1),xg l n,n,⟨#[]⟩,⟨#[]⟩,false,0,0⟩:=by
 subst hn;unfold jD;rw[if_neg hc]
theorem M7 {l:List Int} {c h:Int} (hc:c = -1∨c∈l) (h0:(-1:Int)∉l):∃ l1 l2,l=l1++l2∧Tr.iD l c h=l1++h::l2∧((c = -1∧l2=[])∨(c ≠ -1∧l.idxOf c=l1.length)):=by
 rcases hc with rfl | hc
 ·exact⟨l,[],by simp,Tr.vE h0,.inl ⟨rfl,rfl⟩⟩
 ·have hne:c ≠ -1:=fun e=>h0 (e▸hc);obtain⟨l1,l2,rfl,hn⟩:∃ l1 l2,l=l1++c::l2∧c∉l1:=by
   clear h0 hne
   induction l with
   | nil=>cases hc
   | cons a r ih=>
    by_cases e:a=c
    ·exact⟨[],r,by rw[e];rfl,by simp⟩
    ·obtain⟨l1,l2,h1,h2⟩:=ih (by rcases List.mem_cons.1 hc with h3 | h3;exact absurd h3.symm e;exact h3);exact⟨a::l1,l2,by rw[h1];rfl,by simp;exact⟨fun e2=>e e2.symm,h2⟩⟩
  exact⟨l1,c::l2,rfl,Tr.uS hn,.inr ⟨hne,Tr.dU hn⟩⟩
theorem Pq {m i p:Nat} {f:Nat→RS} {sl:Tr.Sl} {c:Int} {A:Tr.G} (hA:mg m f=A) (hi:i<m) (hg:(f i).gone=false) (hp:p<m) (hpg:(f p).gone=false) (hpi:p≠i):
  mg m (aX (aX f p fun n=>{ n with k:=sl,kids:=Tr.iD (f p).kids c (i:Int) }) i fun n=>{ n with pa:=p })=Tr.lu A p i c:=by
 rw[←hA];exact Pp hi hg hp hpg hpi
theorem Gs (base M m:Nat) (vs:Value) (f:Nat→RS) (p h:Nat) (c:Int) (w:World) (H:MV base w M vs m f) (hw:Tr.WF (-1) (mg m f)) (hpm:p<m) (hpg:(f p).gone=false) (hhm:h<m) (wM:(f h).gone=false) (JK:(f 0).gone=false) (hm:m≤100000)
  (hch:jR m f p h=true) (hc:c = -1∨∃ j:Nat,c=(j:Int)∧j<m∧(f j).pa=(p:Int)) (hlim:(Tr.aS (mg m f) (p:Int)).length+Tr.gM (mg m f) (h:Int)≤128) (zX:p≠h) (hw1:Tr.WF (-1) (dz (mg m f) (h:Int))) (hcin:gK (mg m f) h c = -1∨gK (mg m f) h c∈Tr.au (dz (mg m f) (h:Int)) (p:Int))
  (L0:List Tr.Rec) (hL0:((f h).pa = -1∧L0=[])∨∃ q:Nat,(f h).pa=(q:Int)∧L0=[kK m f 2 h q]):
  Calls Tryz.prog 34 #[.pointer (some ⟨M,0,none⟩),.int .i64 (p:Int),.int .i64 (h:Int),.int .i64 c] w fun e w'=>∃ r,e=.returned (.tuple #[r,.int .i64 0])∧jN w.heap.size w' r (L0++[jD (Tr.au (dz (mg m f) (h:Int)) (p:Int)) p h (gK (mg m f) h c)])∧
   ∃ f2,MV base w' M vs m f2∧aB w w' (aC M vs m f) (aC M vs m f2)∧mg m f2=Tr.lu (dz (mg m f) (h:Int)) p h (gK (mg m f) h c)∧∀ j,qJ (f2 j) (f j):=by
 obtain⟨i0,hi0,hz0,hz1,hz2⟩:=info_parts lZ;obtain⟨j0,hj0,hy0,hy1,hy2⟩:=info_parts Po;obtain⟨A,c0,rfl⟩:=H.form;obtain⟨g,rfl,-⟩:=H.read hpm;obtain⟨dp,hdp⟩:=eX ((Tr.aS (mg m f) (p:Int)).length)
 obtain⟨ht,hht⟩:=eX (Tr.gM (mg m f) (h:Int))
 have sG:=zh (uT base M m _ f p h w H hw hpm hpg hhm JK hm);rw[hch] at sG;have Sd:=zh (Ay base M m _ f (p:Int) w H hw (.inr (by rw[jm hpm,hpg];rfl)) hm);have Gg:=zh (yu base M m _ f hw hm (h:Int) (by rw[jm hhm,wM];rfl) w H);rw[hdp] at Sd hlim;rw[hht] at Gg hlim;have p0:(0:Int)≤(p:Int):=by omega
 have p1:(p:Int)<(m:Int):=by omega
 have h0:(0:Int)≤(h:Int):=by omega
 have h1:(h:Int)<(m:Int):=by omega
 have YS:¬ (128:Int)<(dp:Int)+(ht:Int):=by omega
 have k0w:=(H.rd hpm).1;have hup:∀ q:Nat,(f h).pa=(q:Int)→q<m∧(f q).gone=false∧(f h).pa=(q:Int)∧q≠h∧(h:Int)∈(f q).kids:=by
  intro q hq;rcases hw.pa (aM hhm wM) with e | ⟨n,e,e5⟩
  ·exact absurd (show (f h).pa = -1 from e) (by omega)
  ·rw[show (jZ (f h)).pa=(q:Int) from hq] at e;obtain⟨q',e1,e2,e3,e6⟩:=jk e;obtain rfl:q=q':=by omega
   refine⟨e2,e3,hq,fun e4=>hw.iG (aM hhm wM) ?_,by rw[e6] at e5;exact e5⟩;show (f h).pa=_;rw[hq,e4]
 have Pv:=zh (fun (e0:c=(h:Int))=>show ∃ (aa n ac D:Nat) (a':Option Addr),aa=0∧w.cell? ⟨g,p*7+5,none⟩=some (.slice a' n ac)∧D<100000∧
   (∀ nq,Calls Tryz.prog 83 #[.pointer (some ⟨M,0,none⟩),.int .i64 (h:Int)] (w.drewN nq) fun e w'=>e=.returned (.int .i64 (D:Int))∧w'=w.drewN nq)∧
   (∀ nq,Calls Tryz.prog 82 #[.slice a' n ac,.int .i64 ((D:Int)+1)] (w.drewN nq) fun e w'=>e=.returned (.int .i64 (gK (mg m f) h c))∧w'=w.drewN nq) from by
  have hq:(f h).pa=(p:Int):=by
   rcases hc with e | ⟨j,e1,_,e3⟩
   ·omega
   ·have e:j=h:=by omega
    rw[e] at e3;exact e3
  have YT:=(hup p hq).2.2.2.2;have hle0:=eP hw hpm hpg;have aaq:=List.idxOf_lt_length_iff.2 YT;obtain⟨D0,hD0⟩:=eX ((f p).kids.idxOf (h:Int))
  rw[hD0] at aaq;have YU:jQ m f h=(D0:Int):=by unfold jQ;rw[if_neg (by omega),hq,Int.toNat_natCast,hD0]
  have hX:gK (mg m f) h c=xg (f p).kids ((D0:Int)+1):=by
   unfold gK;rw[if_pos e0,show Tr.dI (mg m f) (h:Int)=(p:Int) by rw[Tr.aO (aM hhm wM)];exact hq,show Tr.au (mg m f) (p:Int)=(f p).kids from Tr.aH (aM hpm hpg),hD0]
  obtain⟨-,-,-,-,-,-,x,-⟩:=H.rd hpm;refine⟨0,(f p).kids.length,(f p).k.c,D0,(f p).k.a,rfl,x,by omega,fun nq=>?_,fun nq=>?_⟩
  ·have:=uR base M m _ f h (w.drewN nq) (H.below (below_drewN _ w nq)) hw hhm wM hm;rw[YU] at this;exact this
  ·rw[hX];refine vN base (.slice (f p).k.a (f p).kids.length (f p).k.c) (f p).kids ((D0:Int)+1) (w.drewN nq) ?_ (by constructor<;>omega) (by omega);have:=(H.below (below_drewN _ w nq)).kr p hpm
   rw[show (f p).k.v=.slice (f p).k.a (f p).kids.length (f p).k.c by unfold Tr.Sl.v;rw[H.kn hpm]] at this;exact this)
 obtain⟨cb,hcb⟩:=eX (gK (mg m f) h c)
 have HCN:=zh (show c≠(h:Int)→cb=c from fun e=>by rw[←hcb];exact if_neg e);rw[hcb] at hcin Pv ⊢;have YV:=zh (show ¬ (0:Int)≤c∨∃ jc:Nat,c=(jc:Int)∧jc<m∧w.cell? ⟨g,jc*7+4,none⟩=some (.int .i64 (p:Int)) from by
  rcases hc with e | ⟨jc,e1,e2,e3⟩
  ·exact .inl (by omega)
  ·obtain⟨-,-,-,-,-,x,-⟩:=H.rd e2;rw[e3] at x
   exact .inr ⟨jc,e1,e2,x⟩)
 have HA:=zh (And.intro H (And.intro hw (And.intro hpg (And.intro wM (And.intro hw1 (And.intro hcin (And.intro zX (And.intro hL0 hup))))))));clear hc hcin hw1 zX wM hpg JK H hw hch hdp hht hlim hL0 hup hcb
 go_enter Tryz.func34,Tryz.ntmps34
 go_upto_region 1 with fail
 go_cut [33] from 13 (fun u wc=>u=.bool false∧wc=w)
 case first=>
  rcases YV.out with hn | ⟨jc,rfl,hjm,hjr⟩
  ·go_wp2_with fail;refine nO sG.out ?_;go_wp2_with fail;go_meet
   case rel=>exact⟨rfl,rfl⟩
  ·have abO:(0:Int)≤(jc:Int):=by omega
   have abP:(jc:Int)<(m:Int):=by omega
   go_wp2_with fail;refine nO sG.out ?_;go_wp2_with fail;go_meet
   case rel=>exact⟨rfl,rfl⟩
 case rest=>
 obtain⟨rfl,hwc⟩:=hcut;obtain rfl:=hwc.symm;clear sG YV;go_wp2_with fail;refine nO Sd.out ?_;go_wp2_with fail;refine nO Gg.out ?_;clear Sd Gg
 go_upto_if 44 with fail
 go_cut [3] from 13 (fun u wc=>u=.int .i64 cb∧Below w.heap.size w wc)
 case first=>
  by_cases hce:c=(h:Int)
  ·have qe:(c == (h:Int))=true:=by simp[hce]
   obtain⟨_,n0,ac0,D0,aa0,-,c5w,hD,HI,HT⟩:=Pv.out hce;have HI:=zh HI;have HT:=zh HT;have hs2:IntKind.i64.wrap ((D0:Int)+1)=(D0:Int)+1:=by rw[IntKind.wrap_i64];omega
   clear hce;go_wp2_with fail
   go_quiet (first | (go_at_call 83;exact Calls.quiet_of_same (HI.out _)) | (go_at_call 82;exact Calls.quiet_of_same (HT.out _)))
   go_wp2_with fail;go_meet
   case rel=>exact⟨rfl,below_drewN _ w nq⟩
  ·have qe:(c == (h:Int))=false:=cB hce;have hcc:=HCN.out hce;go_wp2_with fail;go_meet
   case rel=>exact⟨by rw[hcc],Below.refl _ _⟩
 case rest=>
 obtain⟨rfl,hwc⟩:=hcut;clear Pv HCN k0w;obtain⟨wb,hwb⟩:∃ x,x=wc:=⟨_,rfl⟩
 subst hwb;obtain⟨H,hw,hpg,wM,hw1,hcin,zX,hL0,hup⟩:=HA.out;have Hc:=H.below hwc;obtain⟨pa0,VR⟩:=eX ((f h).pa)
 obtain⟨k0w,-,-,-,-,hfr,-⟩:=Hc.rd hhm;rw[VR] at hfr;have Rz:=zh Hc;have HWC:=zh hwc;have VT:=zh VR;clear H hw hpg wM hw1 hcin zX hL0 hup Hc hwc VR
 go_upto_if 66 with fail
 go_cut [10] from 13 (fun u W=>∃ f1,MV base W M (.slice (some ⟨g,0,none⟩) m c0) m f1∧mg m f1=dz (mg m f) (h:Int)∧(∀ j,qJ (f1 j) (f j))∧jN w.heap.size W u L0∧aB w W (aC M (.slice (some ⟨g,0,none⟩) m c0) m f) (aC M (.slice (some ⟨g,0,none⟩) m c0) m f1))
 case first=>
  obtain⟨H,hw,hpg,wM,hw1,hcin,zX,hL0,hup⟩:=HA.out;rcases hL0 with ⟨hq,VU⟩ | ⟨q,hq,VU⟩
  ·have hn:¬ (0:Int)≤pa0:=by have:=VT.out;omega
   have hcut:mg m f=dz (mg m f) (h:Int):=by unfold dz;rw[Tr.aO (aM hhm wM)];exact (if_pos hq).symm
   have JL:=zh (And.intro Rz.out (And.intro hcut (aB.of_below (F:=aC M (.slice (some ⟨g,0,none⟩) m c0) m f) HWC.out)));have UD:=zh VU;clear H hw hpg wM hw1 hcin zX hup hq hcut VU;go_wp2_with fail;go_meet
   case rel=>exact⟨f,JL.out.1,JL.out.2.1,fun _=>⟨rfl,rfl,rfl,rfl,rfl⟩,by rw[UD.out];exact jN.nil _ _,JL.out.2.2⟩
  ·obtain rfl:pa0=(q:Int):=by have:=VT.out;omega
   have qq0:(0:Int)≤(q:Int):=by omega
   obtain⟨hqm,hqg,-,hqh,-⟩:=hup q hq;have hcut:dz (mg m f) (h:Int)=Tr.uh (mg m f) (h:Int):=by unfold dz;rw[Tr.aO (aM hhm wM)];exact if_neg (by show (f h).pa ≠ -1;omega)
   have MX:=zh (Gm base M m _ f h q wb Rz.out hw hhm wM hq hm);have YW:=zh (fun sl=>Pw (sl:=sl) hhm wM hqm hqg hq hqh);have UD:=zh (And.intro VU hcut);clear H hw hpg wM hw1 hcin zX hup hq hcut VU hqm hqg hqh;go_wp2_with fail;refine MX.out.mono ?_;rintro e W0 ⟨rfl,sl0,hm0,st0⟩;obtain⟨f1,hf1⟩:=eX ((aX (aX f q fun n=>{ n with k:=sl0,kids:=n.kids.erase (h:Int) }) h fun n=>{ n with pa := -1 }))
   rw[hf1] at hm0 st0;have HG:=zh (show mg m f1=dz (mg m f) (h:Int)∧∀ j,qJ (f1 j) (f j) from⟨by rw[←hf1,UD.out.2];exact YW.out sl0,fun j=>by rw[←hf1];exact (vO ⟨rfl,rfl,rfl,rfl,rfl⟩ j).trans (vO ⟨rfl,rfl,rfl,rfl,rfl⟩ j)⟩);obtain⟨r0,hr⟩:=eX (kK m f 2 h q)
   have nZ:=nP W0 r0 0 (Nat.zero_le _);obtain⟨Wb,hWb⟩:=eX (W0.alloc (.cells #[.int .i64 r0.kind,.int .i64 r0.target,.int .i64 r0.node,.int .i64 r0.prev,.int .i64 r0.next,.int .i64 r0.index,.string r0.name,.string r0.old,.bool r0.had,.int .i64 r0.count,.int .i64 r0.size] 147))
   rw[hWb] at nZ;have hbb:Below W0.heap.size W0 Wb:=fI hWb;have VW:=((aB.of_below (F:=aC M (.slice (some ⟨g,0,none⟩) m c0) m f) HWC.out).trans st0).trans (.of_below hbb);have hsb:w.heap.size≤Wb.heap.size:=VW.1.size;have XG:=zh (hm0.below hbb);have HSB:=zh VW;rw[hr] at UD ⊢;have aar:=UD;clear MX YW k0w hfr hm0 st0 hbb VW hr hf1 UD
   go_wp2_with (at_builtin;refine dQ rfl _ _ 93 rfl w.heap.size 0 147 j0 (.agg #[.int .i64 0,.int .i64 0,.int .i64 0,.int .i64 0,.int .i64 0,.int .i64 0,.string ⟨#[]⟩,.string ⟨#[]⟩,.bool false,.int .i64 0,.int .i64 0]) 11 104 Tryz.underlying93 hj0 hy0 hy1 hy2 rfl (by decide) _ 0 [] rfl (jN.nil w.heap.size _) _ 1 (gP [r0]) rfl nZ (Ac _) ?cm1 ?cm2 hsb ?_)
   case cm1=>unfold maxLen;omega
   case cm2=>omega
   intro v1 W1 o1 g1 OA;have JL:=zh (show _∧_∧_ from⟨XG.out.Gp (jN.nil w.heap.size _) g1,(show jN w.heap.size W1 v1 L0 by rw[aar.out.1];unfold jN;simpa using o1),HSB.out.Gq (jN.nil w.heap.size _) (Nat.le_refl _) g1⟩);obtain⟨Ao,co,rfl⟩:=aF (aG o1);clear o1 g1 OA nZ XG HSB hWb;go_wp2_with fail;go_meet
   case rel=>exact⟨f1,JL.out.1,HG.out.1,HG.out.2,JL.out.2.1,JL.out.2.2⟩
 case rest=>
 obtain⟨f1,hm1,VX,hgn,hro,hst⟩:=hcut;obtain⟨H,hw,hpg,wM,hw1,hcin,zX,hL0,hup⟩:=HA.out;have hR0:L0.length≤1:=by rcases hL0 with ⟨-,e⟩ | ⟨_,-,e⟩<;>rw[e]<;>simp
 have M8:(f1 p).gone=false:=(hgn p).1.trans hpg;have YX:(f1 h).gone=false:=(hgn h).1.trans wM;have Px:Tr.WF (-1) (mg m f1):=by rw[VX];exact hw1
 have YZ:=zh (show Tr.au (dz (mg m f) (h:Int)) (p:Int)=(f1 p).kids by rw[←VX];exact Tr.aH (aM hpm M8));rw[YZ.out] at hcin;have hnz:(-1:Int)∉(f1 p).kids:=Px.kQ (aM hpm M8);have hle:=eP Px hpm M8;obtain⟨l1,l2,hL,UF,hcl⟩:=M7 (h:=(h:Int)) hcin hnz;obtain⟨d,hd⟩:=eX (l1.length)
 obtain⟨b,hb⟩:=eX (l2.length)
 have hlen:(f1 p).kids.length=d+b:=by rw[hL,List.length_append,hd,hb]
 obtain⟨A5,hA5⟩:=eX ((f1 p).k.a)
 obtain⟨OD,VY⟩:=eX ((f1 p).k.c)
 have hkv:(f1 p).k.v=.slice A5 (d+b) OD:=by unfold Tr.Sl.v;rw[hm1.kn hpm,hlen,hA5,VY]
 obtain⟨kz,-,-,-,-,-,kc5,-⟩:=hm1.rd hpm;rw[hA5,hlen,VY] at kc5;have hcap:d+b≤OD:=by
  have hk:=hm1.kr p hpm;rw[hkv] at hk;rcases hk.2 with ⟨e,e2⟩ | ⟨_,_,_,_,e,_,_,e2,_⟩
  ·injection e;omega
  ·injection e with e3 e4 e5;rw[hlen] at e2;omega
 have R9:=zh (show jD (f1 p).kids p h cb=⟨1,p,h,xg (f1 p).kids ((d:Int) - 1),xg (f1 p).kids (d:Int),(d:Int),⟨#[]⟩,⟨#[]⟩,false,0,0⟩ from by
  rcases hcl with ⟨e,e2⟩ | ⟨hcn,hix⟩
  ·rw[e];exact Aw _ _ _ (by rw[hlen,←hb,e2];simp)
  ·exact DC _ _ _ hcn (by rw[hix,hd]))
 have HIM:=zh (show (¬ (0:Int)≤cb∧Hid (b=0))∨∃ j:Nat,cb=(j:Int)∧Calls Tryz.prog 83 #[.pointer (some ⟨M,0,none⟩),.int .i64 (j:Int)] wc fun e w'=>e=.returned (.int .i64 (d:Int))∧w'=wc from by
  rcases hcl with ⟨e,e2⟩ | ⟨hcn,hix⟩
  ·exact .inl ⟨by omega,zh (by rw[←hb,e2];rfl)⟩
  ·obtain⟨j,hcj,hjm,XH,hjp⟩:=Live.kid Px hpm M8 (hcin.resolve_left hcn);have:=uR base M m _ f1 j wc hm1 Px hjm XH hm;rw[show jQ m f1 j=(d:Int) by unfold jQ;rw[if_neg (by omega),hjp,Int.toNat_natCast,←hcj,hix,hd]] at this
   exact .inr ⟨j,hcj,this⟩)
 have Y0:=zh (fun (W:World) (hmv:MV base W M (.slice (some ⟨g,0,none⟩) m c0) m f1)=>show TR W base 3 1 (.slice A5 d OD) d (ints l1)∧TR W base 3 1 (.slice (if OD=d then A5 else A5.map fun x=>x.add d) b (OD - d)) b (ints l2) from by
  have hk:=hmv.kr p hpm;rw[hkv,hlen,hL] at hk;have a1:=hk.head (k:=d) (by omega);have a2:=hk.tail (k:=d) (by omega);rw[Nat.mul_one,Dy,List.take_left' hd] at a1;rw[Nat.mul_one,Dz,List.drop_left' hd,Nat.add_sub_cancel_left] at a2;rw[show tailV (.slice A5 (d+b) OD) d 1=.slice (if OD=d then A5 else A5.map fun x=>x.add d) b (OD - d) by unfold tailV;simp only[Nat.add_sub_cancel_left,Nat.mul_one]] at a2
  exact⟨a1,a2⟩)
 have Lm:=zh (fun (W:World) (hb:Below wc.heap.size wc W)=>show TR W base 3 1 (.slice A5 (d+b) OD) (d+b) (ints (f1 p).kids) from by
  have hk:=(hm1.below hb).kr p hpm
  rw[hkv,hlen] at hk;exact hk)
 have R8:=zh (show (f1 p).kids.length=(d+b) from hlen);have aas:=zh (show Tr.iD (f1 p).kids cb (h:Int)=l1++(h:Int)::l2 from UF);have HLL:=zh (show l1.length=d∧l2.length=b from⟨hd,hb⟩);have HGH:=zh YX;have HGP:=zh M8;have HPH:=zh zX;have HMG:=zh VX;have Y1:=zh hgn;have HST:=zh hst;have XI:=zh hm1;have HRO:=zh hro;have hdb:d+b≤100000:=by omega
 have d0:(0:Int)≤(d:Int):=by omega
 have hda:(d:Int)≤(OD:Int):=by omega
 have hdn:(d:Int)≤((d+b:Nat):Int):=by omega
 have abQ:(d:Int)≤(d:Int)+(b:Int):=by omega
 obtain⟨Ao,co,rfl⟩:=aF (aG hro);clear H hw hpg wM hw1 hcin zX hL0 hup M8 YX Px hnz hle hL UF hcl hd hb hlen hA5 VY hkv VX hgn hst hm1 hro HA Rz HWC VT k0w hfr
 go_upto_if 84 with fail
 go_cut [12] from 13 (fun u W=>u=.int .i64 (d:Int)∧W=wc)
 case first=>
  rcases HIM.out with ⟨hn,hb0⟩ | ⟨j,rfl,HI⟩
  ·go_wp2_with fail;go_meet
   case rel=>exact⟨by rw[hb0.out];rfl,rfl⟩
  ·have qj:(0:Int)≤(j:Int):=by omega
   have HI:=zh HI;go_wp2_with fail;refine nO HI.out ?_;go_wp2_with fail;go_meet
   case rel=>exact⟨rfl,rfl⟩
 case rest=>
 obtain⟨rfl,aat⟩:=hcut;obtain rfl:=aat.symm;clear HIM;have hm1:=XI.out;have hro:=HRO.out;have hA1:=vN base (.slice A5 (d+b) OD) (f1 p).kids ((d:Int) - 1) wc (by have:=Lm.out wc (Below.refl _ _);rw[R8.out];exact this) (by constructor<;>omega) (by rw[R8.out];omega);have hA2:=vN base (.slice A5 (d+b) OD) (f1 p).kids (d:Int) wc (by have:=Lm.out wc (Below.refl _ _);rw[R8.out];exact this) (by constructor<;>omega) (by rw[R8.out];omega);obtain⟨X1,hX1⟩:=eX (xg (f1 p).kids ((d:Int) - 1))
 obtain⟨X2,hX2⟩:=eX (xg (f1 p).kids (d:Int))
 have e1:=hX1;have e2:=hX2;unfold xg at e1 e2;rw[e1] at hA1;rw[e2] at hA2;have HA1:=zh hA1;have HA2:=zh hA2;clear hA1 hA2;have aau:=zh (show jD (f1 p).kids p h cb=⟨1,p,h,X1,X2,(d:Int),⟨#[]⟩,⟨#[]⟩,false,0,0⟩ by
  rw[R9.out,hX1,hX2])
 obtain⟨W2,hW2⟩:=eX (wc.alloc (.cells #[.int .i64 1,.int .i64 (p:Int),.int .i64 (h:Int),.int .i64 X1,.int .i64 X2,.int .i64 (d:Int),.string ⟨#[]⟩,.string ⟨#[]⟩,.bool false,.int .i64 0,.int .i64 0] 147))
 have eO:Below wc.heap.size wc W2:=fI hW2;have hrow2:jN 0 W2 (.slice (some ⟨wc.heap.size,0,none⟩) 1 1) [jD (f1 p).kids p h cb]:=by
  rw[aau.out,←hW2];exact nP wc ⟨1,p,h,X1,X2,(d:Int),⟨#[]⟩,⟨#[]⟩,false,0,0⟩ 0 (Nat.zero_le _)
 have hm2:=hm1.below eO;have VZ:=hro.below eO;have aav:w.heap.size≤W2.heap.size:=Nat.le_trans HST.out.1.size eO.size;have aaw:=zh (HST.out.trans (.of_below eO));have Py:=zh hm2;have Y2:=zh VZ;clear e1 e2 hX1 hX2 eO;go_wp2_with fail;refine nO HA1.out ?_;go_wp2_with fail;refine nO HA2.out ?_;clear HA1 HA2
 go_wp2_with (at_builtin;refine dQ rfl _ _ 93 rfl w.heap.size 0 147 j0 (.agg #[.int .i64 0,.int .i64 0,.int .i64 0,.int .i64 0,.int .i64 0,.int .i64 0,.string ⟨#[]⟩,.string ⟨#[]⟩,.bool false,.int .i64 0,.int .i64 0]) 11 104 Tryz.underlying93 hj0 hy0 hy1 hy2 rfl (by decide) _ L0.length (gP L0) rfl VZ _ 1 (gP [jD (f1 p).kids p h cb]) rfl hrow2 (Ac _) ?cB1 ?cB2 aav ?_)
 case cB1=>unfold maxLen;omega
 case cB2=>omega
 intro v3 W3 o3 g3 f3;have Ja:=Py.out.Gp Y2.out g3;have o3':jN w.heap.size W3 v3 (L0++[jD (f1 p).kids p h cb]):=by
  unfold jN;rw[List.length_append,lS];exact o3
 have aax:=zh (aaw.out.Gq Y2.out (Nat.le_refl _) g3);have aay:=zh o3';have qV:=zh Ja;obtain⟨A3,c3,rfl⟩:=aF (aG o3);have aaz:=bf W3.heap.size W3;have JM:Below W3.heap.size W3 W3.drew:=aaz;have Pz:=zh (fun (W:World) (hb:Below W3.heap.size W3 W)=>(Ja.below hb));have UG:=zh (fun (W:World) (hb:Below W3.heap.size W3 W)=>(Y0.out W (Ja.below hb)));have Lp:=zh ((Ja.below JM).rd hpm).1;have hgl:g<W3.heap.size:=(Ja.row.lt g rfl).2;have aaA:base≤W3.heap.size:=by have:=Ja.low;have:=Ja.var.lt;omega
 clear hm2 VZ hrow2 Ja o3 o3' g3 f3 hm1 hro hW2;go_wp2_with fail;refine wp_region_noPanic ?_;refine wp_region_held_drew (S:=(fun W=>W.cell? ⟨M,0,none⟩=some (.slice (some ⟨g,0,none⟩) m c0))) (by kernel_rfl) ?_ (fun ah=>?_)
 ·exact Lp.out
 refine bn [0,1,2,3,4,6,7,8,10,13,14,15] ?_;iterate 12 (refine jf ?_;try simp only[pS])
 refine bq ?_;refine jn5 (C:=fun (V:World) (A7:Option Addr) (c7 X Y:Nat)=>Below W3.heap.size W3 V∧TR V W3.heap.size 3 1 (.slice A7 d c7) d (ints l1)∧TR V W3.heap.size 3 1 (.slice (some ⟨X,0,none⟩) 1 1) 1 (ints [(h:Int)])) (T:=?T) (fun TAIL=>?_) ?_
 case refine_1=>
  refine zQ 5 11 (fun K hK=>?_) fun K hK=>?_
  ·
   obtain⟨V1,hV1⟩:=eX (W3.drew.alloc (.cells #[] 3))
   have hbn:Below W3.drew.heap.size W3.drew V1:=by rw[←hV1];exact (Below.refl _ W3.drew).alloc (Nat.le_refl _) _
   have vQ:Below W3.heap.size W3 V1:=JM.trans (hbn.mono JM.size);have e5:TR V1 W3.heap.size 3 1 (.slice (some ⟨W3.drew.heap.size,0,none⟩) 0 0) 0 []:=by rw[←hV1];exact (nK W3.drew 3 1).lower JM.size
   go_simp;(try rw[hV1]);refine hK.out _ _ (((Pz.out _ vQ).rd hpm).1) fun ah=>?_;clear hK K;(try simp only[pS]);refine zQ 9 11 (fun K hK=>?_) fun K hK=>?_
   ·
    refine aQ rfl _ _ 39 rfl W3.heap.size 3 i0 (.int .i64 0) 1 8 Tryz.underlying39 hi0 hz0 hz1 hz2 rfl (by decide) _ 0 [] rfl e5 _ d (ints l1) rfl (UG.out V1 vQ).1.1 (UG.out V1 vQ).1.source (eB _) ?aaB ?aaC vQ.size ?_
    case aaB=>unfold maxLen;omega
    case aaC=>omega
    intro v7 V2 o7 Ak f7;have g7:V1.grownBy V2 (Value.slice (some ⟨W3.drew.heap.size,0,none⟩) 0 0).ownBlock:=Ak;clear Ak;(try simp only[Nat.zero_add,List.nil_append] at o7);have bN:Below W3.heap.size W3 V2:=vQ.grown g7 vQ.size (fun jj hj=>(e5.lt jj hj).1);obtain⟨A7,c7,rfl⟩:=o7.form;refine hK.out _ _ (((Pz.out _ bN).rd hpm).1) fun ah=>?_;clear hK K;(try simp only[pS]);refine bG 11 fun K hK=>?_;obtain⟨V3,kL⟩:=eX (V2.alloc (.cells #[.int .i64 (h:Int)] 3))
    have AA:Below V2.heap.size V2 V3:=fI kL;have bP:Below W3.heap.size W3 V3:=bN.trans (AA.mono bN.size);have Lr:TR V3 W3.heap.size 3 1 (.slice (some ⟨V2.heap.size,0,none⟩) 1 1) 1 (ints [(h:Int)]):=by
     rw[←kL];exact (TR.jP (World.ownsRow_lit (base:=V2.heap.size) (e:=3) (size:=1) V2 #[.int .i64 (h:Int)] 1 (Nat.le_refl _) (by unfold maxLen;omega) rfl)).lower bN.size
    go_simp;(try rw[kL]);refine hK.out _ _ (((Pz.out _ bP).rd hpm).1) fun ah=>?_;clear hK K;(try simp only[pS]);have o7:=o7.below AA;obtain⟨X,hX⟩:=eX (V2.heap.size)
    obtain⟨Y,hY⟩:=eX (W3.heap.size)
    rw[hX,hY];exact TAIL.out _ _ _ X Y ⟨bP,o7,by rw[←hX];exact Lr⟩
   ·
    obtain⟨V2,hV2⟩:=eX (V1.alloc (.cells #[.int .i64 (h:Int)] 3))
    have AA:Below V1.heap.size V1 V2:=fI hV2;have bN:Below W3.heap.size W3 V2:=vQ.trans (AA.mono vQ.size);have Lr:TR V2 W3.heap.size 3 1 (.slice (some ⟨V1.heap.size,0,none⟩) 1 1) 1 (ints [(h:Int)]):=by
     rw[←hV2];exact (TR.jP (World.ownsRow_lit (base:=V1.heap.size) (e:=3) (size:=1) V1 #[.int .i64 (h:Int)] 1 (Nat.le_refl _) (by unfold maxLen;omega) rfl)).lower vQ.size
    go_simp;(try rw[hV2]);refine hK.out _ _ (((Pz.out _ bN).rd hpm).1) fun ah=>?_;clear hK K;(try simp only[pS]);have e5:=e5.below AA;refine bG 9 fun K hK=>?_;refine aQ rfl _ _ 39 rfl W3.heap.size 3 i0 (.int .i64 0) 1 8 Tryz.underlying39 hi0 hz0 hz1 hz2 rfl (by decide) _ 0 [] rfl e5 _ d (ints l1) rfl (UG.out V2 bN).1.1 (UG.out V2 bN).1.source (eB _) ?aaD ?aaE bN.size ?_
    case aaD=>unfold maxLen;omega
    case aaE=>omega
    intro v7 V3 o7 Ak f7;have g7:V2.grownBy V3 (Value.slice (some ⟨W3.drew.heap.size,0,none⟩) 0 0).ownBlock:=Ak;clear Ak;(try simp only[Nat.zero_add,List.nil_append] at o7);have bP:Below W3.heap.size W3 V3:=bN.grown g7 bN.size (fun jj hj=>(e5.lt jj hj).1);obtain⟨A7,c7,rfl⟩:=o7.form;have Lr:TR V3 W3.heap.size 3 1 _ 1 (ints [(h:Int)]):=Lr.kept g7 (.inr (fun e=>by have ee:V1.heap.size=W3.drew.heap.size:=(by simpa [Value.ownBlock] using e);rw[←hV1,World.size_alloc] at ee;omega));refine hK.out _ _ (((Pz.out _ bP).rd hpm).1) fun ah=>?_;clear hK K;(try simp only[pS]);obtain⟨X,hX⟩:=eX (V1.heap.size)
    obtain⟨Y,hY⟩:=eX (W3.heap.size)
    rw[hX,hY];exact TAIL.out _ _ _ X Y ⟨bP,o7,by rw[←hX];exact Lr⟩
  ·
   obtain⟨V1,hV1⟩:=eX (W3.drew.alloc (.cells #[.int .i64 (h:Int)] 3))
   have AA:Below W3.drew.heap.size W3.drew V1:=by rw[←hV1];exact (Below.refl _ W3.drew).alloc (Nat.le_refl _) _
   have vQ:Below W3.heap.size W3 V1:=JM.trans (AA.mono JM.size);have Lr:TR V1 W3.heap.size 3 1 (.slice (some ⟨W3.drew.heap.size,0,none⟩) 1 1) 1 (ints [(h:Int)]):=by
    rw[←hV1];exact (TR.jP (World.ownsRow_lit (base:=W3.drew.heap.size) (e:=3) (size:=1) W3.drew #[.int .i64 (h:Int)] 1 (Nat.le_refl _) (by unfold maxLen;omega) rfl)).lower JM.size
   go_simp;(try rw[hV1]);refine hK.out _ _ (((Pz.out _ vQ).rd hpm).1) fun ah=>?_;clear hK K;(try simp only[pS]);refine bG 5 fun K hK=>?_;obtain⟨V2,hV2⟩:=eX (V1.alloc (.cells #[] 3))
   have hbn:Below V1.heap.size V1 V2:=fI hV2;have bN:Below W3.heap.size W3 V2:=vQ.trans (hbn.mono vQ.size);have e5:TR V2 W3.heap.size 3 1 (.slice (some ⟨V1.heap.size,0,none⟩) 0 0) 0 []:=by rw[←hV2];exact (nK V1 3 1).lower vQ.size
   go_simp;(try rw[hV2]);refine hK.out _ _ (((Pz.out _ bN).rd hpm).1) fun ah=>?_;clear hK K;(try simp only[pS]);have Lr:=Lr.below hbn;refine bG 9 fun K hK=>?_;refine aQ rfl _ _ 39 rfl W3.heap.size 3 i0 (.int .i64 0) 1 8 Tryz.underlying39 hi0 hz0 hz1 hz2 rfl (by decide) _ 0 [] rfl e5 _ d (ints l1) rfl (UG.out V2 bN).1.1 (UG.out V2 bN).1.source (eB _) ?aaF ?aaG bN.size ?_
   case aaF=>unfold maxLen;omega
   case aaG=>omega
   intro v7 V3 o7 Ak f7;have g7:V2.grownBy V3 (Value.slice (some ⟨V1.heap.size,0,none⟩) 0 0).ownBlock:=Ak;clear Ak;(try simp only[Nat.zero_add,List.nil_append] at o7);have bP:Below W3.heap.size W3 V3:=bN.grown g7 bN.size (fun jj hj=>(e5.lt jj hj).1);obtain⟨A7,c7,rfl⟩:=o7.form;have Lr:TR V3 W3.heap.size 3 1 _ 1 (ints [(h:Int)]):=Lr.kept g7 (.inr (fun e=>by have ee:W3.drew.heap.size=V1.heap.size:=(by simpa [Value.ownBlock] using e);rw[←hV1,World.size_alloc] at ee;omega));refine hK.out _ _ (((Pz.out _ bP).rd hpm).1) fun ah=>?_;clear hK K;(try simp only[pS]);obtain⟨X,hX⟩:=eX (W3.heap.size)
   obtain⟨Y,hY⟩:=eX (V1.heap.size)
   rw[hX,hY];exact TAIL.out _ _ _ X Y ⟨bP,o7,by rw[←hX];exact Lr⟩
 intro V3 A7 c7 X Y ⟨bP,o7,Lr⟩;have ah:=((Pz.out _ bP).rd hpm).1;refine bG 12 fun K hK=>?_;have s11:=Lr.source;have l11:=Lr.1;refine aQ rfl _ _ 39 rfl W3.heap.size 3 i0 (.int .i64 0) 1 8 Tryz.underlying39 hi0 hz0 hz1 hz2 rfl (by decide) _ d (ints l1) rfl o7 _ 1 (ints [(h:Int)]) rfl l11 s11 (eB _) ?aaH ?aaI bP.size ?_
 case aaH=>unfold maxLen;omega
 case aaI=>omega
 intro v8 V8 o8 g8 f8;rw[←gD] at o8;have JN:Below W3.heap.size W3 V8:=bP.grown g8 bP.size (fun jj hj=>(o7.lt jj hj).1);obtain⟨A8,c8,rfl⟩:=o8.form;refine hK.out _ _ (((Pz.out _ JN).rd hpm).1) fun ah=>?_;clear hK K;(try simp only[pS]);refine bG 16 fun K hK=>?_;have hyb:=(UG.out V8 JN).2.1;have s2:=(UG.out V8 JN).2.source;refine aQ rfl _ _ 39 rfl W3.heap.size 3 i0 (.int .i64 0) 1 8 Tryz.underlying39 hi0 hz0 hz1 hz2 rfl (by decide) _ (d+1) (ints (l1++[(h:Int)])) rfl o8 _ b (ints l2) rfl hyb s2 (eB _) ?aaJ ?aaK JN.size ?_
 case aaJ=>unfold maxLen;omega
 case aaK=>omega
 intro v9 V9 o9 g9 f9;rw[←gD] at o9;have Y4:Below W3.heap.size W3 V9:=JN.grown g9 JN.size (fun jj hj=>(o8.lt jj hj).1);obtain⟨A9,c9,rfl⟩:=o9.form;have PD:TR V9 base 3 1 (Tr.Sl.v ⟨A9,d+1+b,c9⟩) (Tr.iD (f1 p).kids cb (h:Int)).length (ints (Tr.iD (f1 p).kids cb (h:Int))):=by
  rw[aas.out,show l1++(h:Int)::l2=l1++[(h:Int)]++l2 from by simp];have e:(l1++[(h:Int)]++l2).length=d+1+b:=by rw[List.length_append,List.length_append,HLL.out.1,HLL.out.2];rfl
  rw[e];exact o9.lower aaA
 obtain⟨_,fz,hcells,iC,iM⟩:=qV.out.Aq (sl:=⟨A9,d+1+b,c9⟩) (l':=Tr.iD (f1 p).kids cb (h:Int)) hpm (Below.refl _ W3) (ay Y4 _) PD (.inr fun k hk=>(o9.lt k hk).1);have hpc:=hcells p 5 hpm (by omega);rw[show (qO (f1 p))[5]?=some ((f1 p).k.v) from rfl] at hpc;obtain⟨V10,Y5⟩:=eX (V9.setCell ⟨g,p*7+5,none⟩ (.slice A9 (d+1+b) c9))
 rw[show (Tr.Sl.v ⟨A9,d+1+b,c9⟩)=.slice A9 (d+1+b) c9 from rfl,Y5] at iC iM;have aaL:=(iC.rd hpm).1;have Y6:=((Pz.out _ Y4).rd hpm).1;obtain⟨k10,-,-,-,-,p10,-⟩:=iC.rd hhm;have abR:=iC.fz (h*7+4);obtain⟨vG,M6⟩:=iC.put (j:=4) (v:=.int .i64 (p:Int)) hhm (by omega) (fun n=>{ n with pa:=p }) rfl ⟨rfl,rfl,rfl,rfl⟩;have bC:=zh (And.intro ((aay.out.step qV.out iM).step iC M6) (And.intro vG ((aax.out.trans iM).trans M6)));clear iC iM vG M6 hcells o9 PD g9 f9 o8 g8 f8 o7 hyb s2 JN;refine hK.out _ _ (Y6) fun ah=>?_;clear hK K;(try simp only[pS]);refine bn [17,18] ?_;iterate 2 (refine jf ?_;try simp only[pS])
 refine bq ?_;refine bG 19 fun K hK=>?_;go_simp;(try rw[Y5]);refine hK.out _ _ (aaL) fun ah=>?_;clear hK K;(try simp only[pS]);refine eY ?_;go_wp2_with fail;all_goals go_ret2
 all_goals
  refine⟨_,rfl,?_,_,bC.out.2.1,bC.out.2.2,?_,?_⟩
  ·rw[YZ.out];exact bC.out.1
  ·exact Pq HMG.out hhm HGH.out hpm HGP.out HPH.out
  ·intro jj;exact (vO ⟨rfl,rfl,rfl,rfl,rfl⟩ jj).trans ((vO ⟨rfl,rfl,rfl,rfl,rfl⟩ jj).trans (Y1.out jj))
end
end Go.Proofs.YtmhjlifmcadefaaGreatDoor
