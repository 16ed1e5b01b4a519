/- Part of a proof about trees. -/
import Derived.Test.YtjpbhkcjmdndjaaGreatDoorGNRsa
set_option linter.unusedVariables false
set_option linter.unusedSimpArgs false
set_option maxHeartbeats 8000000
set_option maxRecDepth 100000
namespace Go.Proofs.YtjpbhkcjmdndjaaGreatDoor
section
open Go.RowKit
theorem OI:(Tryz.prog.info? 114).map (fun i=>(i.zero,i.size,i.bytes))=some (some (.agg #[.int .i64 0,.int .i64 0,.int .i64 0,.int .i64 0,.int .i64 0,.int .i64 0,.string ⟨#[]⟩,.string ⟨#[]⟩,.bool false,.int .i64 0,.int .i64 0]),11,104):=by kernel_rfl
theorem MV.Gb {base M m b:Nat} {f:Nat→RS} {w:World} {vs v:Value} {l:List Tr.Rec} (h:MV base w M vs m f) (hr:jP b w v l):∀ k,v.ownBlock=some k→¬ aC M vs m f k:=by
 have ht:TR w b 114 11 v l.length (gY l):=TR.jQ hr;rintro k hk (rfl | hx | ⟨i,hi,hx | hx⟩)
 ·exact ht.unlike h.var (by decide) hk
 ·exact dR ht h.row (by decide) k hx hk
 ·exact ht.ne (h.ar i hi) (by decide) k hk hx
 ·exact ht.ne (h.kr i hi) (by decide) k hk hx
theorem jP.step {base M m b:Nat} {f:Nat→RS} {w w':World} {vs v:Value} {l:List Tr.Rec} {F':Nat→Prop} (hr:jP b w v l) (h:MV base w M vs m f) (st:aB w w' (aC M vs m f) F'):jP b w' v l:=bW hr st.1 (h.Gb hr)
theorem MV.Gc {base M m b:Nat} {f:Nat→RS} {w w':World} {vs v:Value} {l:List Tr.Rec} (h:MV base w M vs m f) (hr:jP b w v l) (g:w.grownBy w' v.ownBlock):MV base w' M vs m f:=
 h.turns (S:=fun k=>v.ownBlock=some k) (.aT g (fun k hk=>hk)) (fun x hx e=>h.Gb hr x e hx)
theorem aB.Gd {M m b:Nat} {f:Nat→RS} {w0 w w':World} {vs v:Value} {l:List Tr.Rec} {F:Nat→Prop} (st:aB w0 w F (aC M vs m f)) (hr:jP b w v l) (hb:w0.heap.size≤b) (g:w.grownBy w' v.ownBlock):aB w0 w' F (aC M vs m f):=
 st.lM (S:=fun k=>v.ownBlock=some k) (.aT g (fun k hk=>hk)) (fun k hk=>Nat.le_trans hb (hr.lt k hk).1)
def qR (a b:RS):Prop:=a.gone=b.gone∧a.kind=b.kind∧a.at'=b.at'∧a.data=b.data∧a.name=b.name
theorem qR.trans {a b c:RS} (h:qR a b) (k:qR b c):qR a c:=⟨h.1.trans k.1,h.2.1.trans k.2.1,h.2.2.1.trans k.2.2.1,h.2.2.2.1.trans k.2.2.2.1,h.2.2.2.2.trans k.2.2.2.2⟩
theorem vK {f:Nat→RS} {i:Nat} {u:RS→RS} (hu:qR (u (f i)) (f i)) (j:Nat):qR (aV f i u j) (f j):=by
 unfold aV;split
 ·rename_i e;rw[e];exact hu
 ·exact⟨rfl,rfl,rfl,rfl,rfl⟩
theorem OJ {m i p:Nat} {f:Nat→RS} {sl:Tr.Sl} {c:Int} (hi:i<m) (hg:(f i).gone=false) (hp:p<m) (hpg:(f p).gone=false) (hpi:p≠i):
  mg m (aV (aV f p fun n=>{ n with k:=sl,kids:=Tr.iw (f p).kids c (i:Int) }) i fun n=>{ n with pa:=p })=Tr.lI (mg m f) p i c:=by
 have hfun:(aV f p fun n=>{ n with k:=sl,kids:=Tr.iw (f p).kids c (i:Int) })=aV f p fun n=>{ n with k:=sl,kids:=Tr.iw n.kids c (i:Int) }:=by
  funext j;unfold aV;by_cases e:j=p
  ·subst e;simp
  ·simp[e]
 rw[hfun];exact Rn hi hg hp hpg hpi
def dz (a:Tr.G) (h:Int):Tr.G:=if Tr.dG a h = -1 then a else Tr.ug a h
def gP (a:Tr.G) (h c:Int):Int:=if c=h then xg (Tr.au a (Tr.dG a h)) (((Tr.au a (Tr.dG a h)).idxOf h:Nat)+1) else c
def jD (l:List Int) (p h c:Int):Tr.Rec:=
 let i:Int:=if c = -1 then (l.length:Int) else (l.idxOf c:Nat)
 ⟨1,p,h,xg l (i - 1),xg l i,i,⟨#[]⟩,⟨#[]⟩,false,0,0⟩
theorem zP (l:List Int) (p h:Int) {n:Int} (hn:(l.length:Int)=n):jD l p h (-1)=⟨1,p,h,xg l (n - 1),xg l n,n,⟨#[]⟩,⟨#[]⟩,false,0,0⟩:=by
 subst hn;unfold jD;rw[if_pos rfl]
theorem CO (l:List Int) (p h:Int) {c n:Int} (hc:c ≠ -1) (hn:((l.idxOf c:Nat):Int)=n):jD l p h c=⟨1,p,h,xg l (n - 1),xg l n,n,⟨#[]⟩,⟨#[]⟩,false,0,0⟩:=by
 subst hn;unfold jD;rw[if_neg hc]
theorem Mk {l:List Int} {c h:Int} (hc:c = -1∨c∈l) (h0:(-1:Int)∉l):∃ l1 l2,l=l1++l2∧Tr.iw l c h=l1++h::l2∧((c = -1∧l2=[])∨(c ≠ -1∧l.idxOf c=l1.length)):=by
 rcases hc with rfl | hc
 ·exact⟨l,[],by simp,Tr.vv h0,.inl ⟨rfl,rfl⟩⟩
 ·have hne:c ≠ -1:=fun e=>h0 (e▸hc);obtain⟨l1,l2,rfl,hn⟩:∃ l1 l2,l=l1++c::l2∧c∉l1:=by
   clear h0 hne
   induction l with
   | nil=>cases hc
   | cons a r ih=>
    by_cases e:a=c
    ·exact⟨[],r,by rw[e];rfl,by simp⟩
    ·obtain⟨l1,l2,h1,h2⟩:=ih (by rcases List.mem_cons.1 hc with h3 | h3;exact absurd h3.symm e;exact h3);exact⟨a::l1,l2,by rw[h1];rfl,by simp;exact⟨fun e2=>e e2.symm,h2⟩⟩
  exact⟨l1,c::l2,rfl,Tr.uP hn,.inr ⟨hne,Tr.dX hn⟩⟩
theorem OL {m i p:Nat} {f:Nat→RS} {sl:Tr.Sl} {c:Int} {A:Tr.G} (hA:mg m f=A) (hi:i<m) (hg:(f i).gone=false) (hp:p<m) (hpg:(f p).gone=false) (hpi:p≠i):
  mg m (aV (aV f p fun n=>{ n with k:=sl,kids:=Tr.iw (f p).kids c (i:Int) }) i fun n=>{ n with pa:=p })=Tr.lI A p i c:=by
 rw[←hA];exact OJ hi hg hp hpg hpi
theorem Gf (base M m:Nat) (vs:Value) (f:Nat→RS) (p h:Nat) (c:Int) (w:World) (H:MV base w M vs m f) (hw:Tr.WF (-1) (mg m f)) (hpm:p<m) (hpg:(f p).gone=false) (hhm:h<m) (uX:(f h).gone=false) (Jw:(f 0).gone=false) (hm:m≤100000)
  (hch:jS m f p h=true) (hc:c = -1∨∃ j:Nat,c=(j:Int)∧j<m∧(f j).pa=(p:Int)) (hlim:(Tr.aY (mg m f) (p:Int)).length+Tr.gF (mg m f) (h:Int)≤128) (wT:p≠h) (hw1:Tr.WF (-1) (dz (mg m f) (h:Int))) (hcin:gP (mg m f) h c = -1∨gP (mg m f) h c∈Tr.au (dz (mg m f) (h:Int)) (p:Int))
  (L0:List Tr.Rec) (hL0:((f h).pa = -1∧L0=[])∨∃ q:Nat,(f h).pa=(q:Int)∧L0=[kR m f 2 h q]):
  Calls Tryz.prog 23 #[.pointer (some ⟨M,0,none⟩),.int .i64 (p:Int),.int .i64 (h:Int),.int .i64 c] w fun e w'=>∃ r,e=.returned (.tuple #[r,.int .i64 0])∧jP w.heap.size w' r (L0++[jD (Tr.au (dz (mg m f) (h:Int)) (p:Int)) p h (gP (mg m f) h c)])∧
   ∃ f2,MV base w' M vs m f2∧aB w w' (aC M vs m f) (aC M vs m f2)∧mg m f2=Tr.lI (dz (mg m f) (h:Int)) p h (gP (mg m f) h c)∧∀ j,qR (f2 j) (f j):=by
 obtain⟨i0,hi0,hz0,hz1,hz2⟩:=info_parts rZ;obtain⟨j0,hj0,hy0,hy1,hy2⟩:=info_parts OI;obtain⟨A,c0,rfl⟩:=H.form;obtain⟨g,rfl,-⟩:=H.read hpm;obtain⟨dp,hdp⟩:=eX ((Tr.aY (mg m f) (p:Int)).length)
 obtain⟨ht,hht⟩:=eX (Tr.gF (mg m f) (h:Int))
 have qy:=zh (uQ base M m _ f p h w H hw hpm hpg hhm Jw hm);rw[hch] at qy;have Ro:=zh (zQ base M m _ f (p:Int) w H hw (.inr (by rw[eB hpm,hpg];rfl)) hm);have FW:=zh (yg base M m _ f hw hm (h:Int) (by rw[eB hhm,uX];rfl) w H);rw[hdp] at Ro hlim;rw[hht] at FW hlim;have p0:(0:Int)≤(p:Int):=by omega
 have p1:(p:Int)<(m:Int):=by omega
 have h0:(0:Int)≤(h:Int):=by omega
 have h1:(h:Int)<(m:Int):=by omega
 have Yc:¬ (128:Int)<(dp:Int)+(ht:Int):=by omega
 have Z4:=(H.rd hpm).1;have hup:∀ q:Nat,(f h).pa=(q:Int)→q<m∧(f q).gone=false∧(f h).pa=(q:Int)∧q≠h∧(h:Int)∈(f q).kids:=by
  intro q hq;rcases hw.pa (aP hhm uX) with e | ⟨n,e,e5⟩
  ·exact absurd (show (f h).pa = -1 from e) (by omega)
  ·rw[show (lH (f h)).pa=(q:Int) from hq] at e;obtain⟨q',e1,e2,e3,e6⟩:=kZ e;obtain rfl:q=q':=by omega
   refine⟨e2,e3,hq,fun e4=>hw.iO (aP hhm uX) ?_,by rw[e6] at e5;exact e5⟩;show (f h).pa=_;rw[hq,e4]
 have OM:=zh (fun (e0:c=(h:Int))=>show ∃ (aa n ac D:Nat) (a':Option Addr),aa=0∧w.cell? ⟨g,p*7+5,none⟩=some (.slice a' n ac)∧D<100000∧
   (∀ nq,Calls Tryz.prog 66 #[.pointer (some ⟨M,0,none⟩),.int .i64 (h:Int)] (w.drewN nq) fun e w'=>e=.returned (.int .i64 (D:Int))∧w'=w.drewN nq)∧
   (∀ nq,Calls Tryz.prog 65 #[.slice a' n ac,.int .i64 ((D:Int)+1)] (w.drewN nq) fun e w'=>e=.returned (.int .i64 (gP (mg m f) h c))∧w'=w.drewN nq) from by
  have hq:(f h).pa=(p:Int):=by
   rcases hc with e | ⟨j,e1,_,e3⟩
   ·omega
   ·have e:j=h:=by omega
    rw[e] at e3;exact e3
  have Yd:=(hup p hq).2.2.2.2;have hle0:=lS hw hpm hpg;have aau:=List.idxOf_lt_length_iff.2 Yd;obtain⟨D0,hD0⟩:=eX ((f p).kids.idxOf (h:Int))
  rw[hD0] at aau;have Ye:jR m f h=(D0:Int):=by unfold jR;rw[if_neg (by omega),hq,Int.toNat_natCast,hD0]
  have hX:gP (mg m f) h c=xg (f p).kids ((D0:Int)+1):=by
   unfold gP;rw[if_pos e0,show Tr.dG (mg m f) (h:Int)=(p:Int) by rw[Tr.aL (aP hhm uX)];exact hq,show Tr.au (mg m f) (p:Int)=(f p).kids from Tr.aH (aP hpm hpg),hD0]
  obtain⟨-,-,-,-,-,-,x,-⟩:=H.rd hpm;refine⟨0,(f p).kids.length,(f p).k.c,D0,(f p).k.a,rfl,x,by omega,fun nq=>?_,fun nq=>?_⟩
  ·have:=uO base M m _ f h (w.drewN nq) (H.below (below_drewN _ w nq)) hw hhm uX hm;rw[Ye] at this;exact this
  ·rw[hX];refine vJ base (.slice (f p).k.a (f p).kids.length (f p).k.c) (f p).kids ((D0:Int)+1) (w.drewN nq) ?_ (by constructor<;>omega) (by omega);have:=(H.below (below_drewN _ w nq)).kr p hpm
   rw[show (f p).k.v=.slice (f p).k.a (f p).kids.length (f p).k.c by unfold Tr.Sl.v;rw[H.kn hpm]] at this;exact this)
 obtain⟨cb,hcb⟩:=eX (gP (mg m f) h c)
 have ZM:=zh (show c≠(h:Int)→cb=c from fun e=>by rw[←hcb];exact if_neg e);rw[hcb] at hcin OM ⊢;have Yf:=zh (show ¬ (0:Int)≤c∨∃ jc:Nat,c=(jc:Int)∧jc<m∧w.cell? ⟨g,jc*7+4,none⟩=some (.int .i64 (p:Int)) from by
  rcases hc with e | ⟨jc,e1,e2,e3⟩
  ·exact .inl (by omega)
  ·obtain⟨-,-,-,-,-,x,-⟩:=H.rd e2;rw[e3] at x
   exact .inr ⟨jc,e1,e2,x⟩)
 have HA:=zh (And.intro H (And.intro hw (And.intro hpg (And.intro uX (And.intro hw1 (And.intro hcin (And.intro wT (And.intro hL0 hup))))))));clear hc hcin hw1 wT uX hpg Jw H hw hch hdp hht hlim hL0 hup hcb
 go_enter Tryz.func23,Tryz.ntmps23
 go_upto_region 1 with fail
 go_cut [33] from 13 (fun u wc=>u=.bool false∧wc=w)
 case first=>
  rcases Yf.out with hn | ⟨jc,rfl,hjm,hjr⟩
  ·go_wp2_with fail;refine nV qy.out ?_;go_wp2_with fail;go_meet
   case rel=>exact⟨rfl,rfl⟩
  ·have abQ:(0:Int)≤(jc:Int):=by omega
   have abR:(jc:Int)<(m:Int):=by omega
   go_wp2_with fail;refine nV qy.out ?_;go_wp2_with fail;go_meet
   case rel=>exact⟨rfl,rfl⟩
 case rest=>
 obtain⟨rfl,hwc⟩:=hcut;obtain rfl:=hwc.symm;clear qy Yf;go_wp2_with fail;refine nV Ro.out ?_;go_wp2_with fail;refine nV FW.out ?_;clear Ro FW
 go_upto_if 44 with fail
 go_cut [3] from 13 (fun u wc=>u=.int .i64 cb∧Below w.heap.size w wc)
 case first=>
  by_cases hce:c=(h:Int)
  ·have qe:(c == (h:Int))=true:=by simp[hce]
   obtain⟨_,n0,ac0,D0,aa0,-,c5w,hD,HI,HT⟩:=OM.out hce;have HI:=zh HI;have HT:=zh HT;have hs2:IntKind.i64.wrap ((D0:Int)+1)=(D0:Int)+1:=by rw[IntKind.wrap_i64];omega
   clear hce;go_wp2_with fail
   go_quiet (first | (go_at_call 66;exact Calls.quiet_of_same (HI.out _)) | (go_at_call 65;exact Calls.quiet_of_same (HT.out _)))
   go_wp2_with fail;go_meet
   case rel=>exact⟨rfl,below_drewN _ w nq⟩
  ·have qe:(c == (h:Int))=false:=bZ hce;have hcc:=ZM.out hce;go_wp2_with fail;go_meet
   case rel=>exact⟨by rw[hcc],Below.refl _ _⟩
 case rest=>
 obtain⟨rfl,hwc⟩:=hcut;clear OM ZM Z4;obtain⟨wb,hwb⟩:∃ x,x=wc:=⟨_,rfl⟩
 subst hwb;obtain⟨H,hw,hpg,uX,hw1,hcin,wT,hL0,hup⟩:=HA.out;have Hc:=H.below hwc;obtain⟨pa0,UW⟩:=eX ((f h).pa)
 obtain⟨Z4,-,-,-,-,hfr,-⟩:=Hc.rd hhm;rw[UW] at hfr;have QB:=zh Hc;have HWC:=zh hwc;have HPA:=zh UW;clear H hw hpg uX hw1 hcin wT hL0 hup Hc hwc UW
 go_upto_if 66 with fail
 go_cut [10] from 13 (fun u W=>∃ f1,MV base W M (.slice (some ⟨g,0,none⟩) m c0) m f1∧mg m f1=dz (mg m f) (h:Int)∧(∀ j,qR (f1 j) (f j))∧jP w.heap.size W u L0∧aB w W (aC M (.slice (some ⟨g,0,none⟩) m c0) m f) (aC M (.slice (some ⟨g,0,none⟩) m c0) m f1))
 case first=>
  obtain⟨H,hw,hpg,uX,hw1,hcin,wT,hL0,hup⟩:=HA.out;rcases hL0 with ⟨hq,UY⟩ | ⟨q,hq,UY⟩
  ·have hn:¬ (0:Int)≤pa0:=by have:=HPA.out;omega
   have hcut:mg m f=dz (mg m f) (h:Int):=by unfold dz;rw[Tr.aL (aP hhm uX)];exact (if_pos hq).symm
   have Jy:=zh (And.intro QB.out (And.intro hcut (aB.of_below (F:=aC M (.slice (some ⟨g,0,none⟩) m c0) m f) HWC.out)));have Tz:=zh UY;clear H hw hpg uX hw1 hcin wT hup hq hcut UY;go_wp2_with fail;go_meet
   case rel=>exact⟨f,Jy.out.1,Jy.out.2.1,fun _=>⟨rfl,rfl,rfl,rfl,rfl⟩,by rw[Tz.out];exact jP.nil _ _,Jy.out.2.2⟩
  ·obtain rfl:pa0=(q:Int):=by have:=HPA.out;omega
   have qq0:(0:Int)≤(q:Int):=by omega
   obtain⟨hqm,hqg,-,hqh,-⟩:=hup q hq;have hcut:dz (mg m f) (h:Int)=Tr.ug (mg m f) (h:Int):=by unfold dz;rw[Tr.aL (aP hhm uX)];exact if_neg (by show (f h).pa ≠ -1;omega)
   have Ma:=zh (Ga base M m _ f h q wb QB.out hw hhm uX hq hm);have Yg:=zh (fun sl=>OO (sl:=sl) hhm uX hqm hqg hq hqh);have Tz:=zh (And.intro UY hcut);clear H hw hpg uX hw1 hcin wT hup hq hcut UY hqm hqg hqh;go_wp2_with fail;refine Ma.out.mono ?_;rintro e W0 ⟨rfl,sl0,hm0,st0⟩;obtain⟨f1,hf1⟩:=eX ((aV (aV f q fun n=>{ n with k:=sl0,kids:=n.kids.erase (h:Int) }) h fun n=>{ n with pa := -1 }))
   rw[hf1] at hm0 st0;have HG:=zh (show mg m f1=dz (mg m f) (h:Int)∧∀ j,qR (f1 j) (f j) from⟨by rw[←hf1,Tz.out.2];exact Yg.out sl0,fun j=>by rw[←hf1];exact (vK ⟨rfl,rfl,rfl,rfl,rfl⟩ j).trans (vK ⟨rfl,rfl,rfl,rfl,rfl⟩ j)⟩);obtain⟨r0,hr⟩:=eX (kR m f 2 h q)
   have oF:=nW W0 r0 0 (Nat.zero_le _);obtain⟨Wb,hWb⟩:=eX (W0.alloc (.cells #[.int .i64 r0.kind,.int .i64 r0.target,.int .i64 r0.node,.int .i64 r0.prev,.int .i64 r0.next,.int .i64 r0.index,.string r0.name,.string r0.old,.bool r0.had,.int .i64 r0.count,.int .i64 r0.size] 114))
   rw[hWb] at oF;have hbb:Below W0.heap.size W0 Wb:=gU hWb;have UZ:=((aB.of_below (F:=aC M (.slice (some ⟨g,0,none⟩) m c0) m f) HWC.out).trans st0).trans (.of_below hbb);have hsb:w.heap.size≤Wb.heap.size:=UZ.1.size;have Z5:=zh (hm0.below hbb);have QE:=zh UZ;rw[hr] at Tz ⊢;have aav:=Tz;clear Ma Yg Z4 hfr hm0 st0 hbb UZ hr hf1 Tz
   go_wp2_with (at_builtin;refine dV rfl _ _ 70 rfl w.heap.size 0 114 j0 (.agg #[.int .i64 0,.int .i64 0,.int .i64 0,.int .i64 0,.int .i64 0,.int .i64 0,.string ⟨#[]⟩,.string ⟨#[]⟩,.bool false,.int .i64 0,.int .i64 0]) 11 104 Tryz.underlying70 hj0 hy0 hy1 hy2 rfl (by decide) _ 0 [] rfl (jP.nil w.heap.size _) _ 1 (gY [r0]) rfl oF (zB _) ?cm1 ?cm2 hsb ?_)
   case cm1=>unfold maxLen;omega
   case cm2=>omega
   intro v1 W1 o1 g1 NH;have Jy:=zh (show _∧_∧_ from⟨Z5.out.Gc (jP.nil w.heap.size _) g1,(show jP w.heap.size W1 v1 L0 by rw[aav.out.1];unfold jP;simpa using o1),QE.out.Gd (jP.nil w.heap.size _) (Nat.le_refl _) g1⟩);obtain⟨Ao,co,rfl⟩:=aF (aG o1);clear o1 g1 NH oF Z5 QE hWb;go_wp2_with fail;go_meet
   case rel=>exact⟨f1,Jy.out.1,HG.out.1,HG.out.2,Jy.out.2.1,Jy.out.2.2⟩
 case rest=>
 obtain⟨f1,hm1,U0,hgn,hro,hst⟩:=hcut;obtain⟨H,hw,hpg,uX,hw1,hcin,wT,hL0,hup⟩:=HA.out;have hR0:L0.length≤1:=by rcases hL0 with ⟨-,e⟩ | ⟨_,-,e⟩<;>rw[e]<;>simp
 have Ml:(f1 p).gone=false:=(hgn p).1.trans hpg;have Yh:(f1 h).gone=false:=(hgn h).1.trans uX;have OP:Tr.WF (-1) (mg m f1):=by rw[U0];exact hw1
 have Yi:=zh (show Tr.au (dz (mg m f) (h:Int)) (p:Int)=(f1 p).kids by rw[←U0];exact Tr.aH (aP hpm Ml));rw[Yi.out] at hcin;have hnz:(-1:Int)∉(f1 p).kids:=OP.lq (aP hpm Ml);have hle:=lS OP hpm Ml;obtain⟨l1,l2,hL,TB,hcl⟩:=Mk (h:=(h:Int)) hcin hnz;obtain⟨d,hd⟩:=eX (l1.length)
 obtain⟨b,hb⟩:=eX (l2.length)
 have hlen:(f1 p).kids.length=d+b:=by rw[hL,List.length_append,hd,hb]
 obtain⟨A5,hA5⟩:=eX ((f1 p).k.a)
 obtain⟨NQ,U3⟩:=eX ((f1 p).k.c)
 have hkv:(f1 p).k.v=.slice A5 (d+b) NQ:=by unfold Tr.Sl.v;rw[hm1.kn hpm,hlen,hA5,U3]
 obtain⟨kz,-,-,-,-,-,kc5,-⟩:=hm1.rd hpm;rw[hA5,hlen,U3] at kc5;have hcap:d+b≤NQ:=by
  have hk:=hm1.kr p hpm;rw[hkv] at hk;rcases hk.2 with ⟨e,e2⟩ | ⟨_,_,_,_,e,_,_,e2,_⟩
  ·injection e;omega
  ·injection e with e3 e4 e5;rw[hlen] at e2;omega
 have X8:=zh (show jD (f1 p).kids p h cb=⟨1,p,h,xg (f1 p).kids ((d:Int) - 1),xg (f1 p).kids (d:Int),(d:Int),⟨#[]⟩,⟨#[]⟩,false,0,0⟩ from by
  rcases hcl with ⟨e,e2⟩ | ⟨hcn,hix⟩
  ·rw[e];exact zP _ _ _ (by rw[hlen,←hb,e2];simp)
  ·exact CO _ _ _ hcn (by rw[hix,hd]))
 have HIM:=zh (show (¬ (0:Int)≤cb∧Hid (b=0))∨∃ j:Nat,cb=(j:Int)∧Calls Tryz.prog 66 #[.pointer (some ⟨M,0,none⟩),.int .i64 (j:Int)] wc fun e w'=>e=.returned (.int .i64 (d:Int))∧w'=wc from by
  rcases hcl with ⟨e,e2⟩ | ⟨hcn,hix⟩
  ·exact .inl ⟨by omega,zh (by rw[←hb,e2];rfl)⟩
  ·obtain⟨j,hcj,hjm,WG,hjp⟩:=Live.kid OP hpm Ml (hcin.resolve_left hcn);have:=uO base M m _ f1 j wc hm1 OP hjm WG hm;rw[show jR m f1 j=(d:Int) by unfold jR;rw[if_neg (by omega),hjp,Int.toNat_natCast,←hcj,hix,hd]] at this
   exact .inr ⟨j,hcj,this⟩)
 have Yj:=zh (fun (W:World) (hmv:MV base W M (.slice (some ⟨g,0,none⟩) m c0) m f1)=>show TR W base 3 1 (.slice A5 d NQ) d (ints l1)∧TR W base 3 1 (.slice (if NQ=d then A5 else A5.map fun x=>x.add d) b (NQ - d)) b (ints l2) from by
  have hk:=hmv.kr p hpm;rw[hkv,hlen,hL] at hk;have a1:=hk.head (k:=d) (by omega);have a2:=hk.tail (k:=d) (by omega);rw[Nat.mul_one,CJ,List.take_left' hd] at a1;rw[Nat.mul_one,CK,List.drop_left' hd,Nat.add_sub_cancel_left] at a2;rw[show tailV (.slice A5 (d+b) NQ) d 1=.slice (if NQ=d then A5 else A5.map fun x=>x.add d) b (NQ - d) by unfold tailV;simp only[Nat.add_sub_cancel_left,Nat.mul_one]] at a2
  exact⟨a1,a2⟩)
 have KT:=zh (fun (W:World) (hb:Below wc.heap.size wc W)=>show TR W base 3 1 (.slice A5 (d+b) NQ) (d+b) (ints (f1 p).kids) from by
  have hk:=(hm1.below hb).kr p hpm
  rw[hkv,hlen] at hk;exact hk)
 have Rl:=zh (show (f1 p).kids.length=(d+b) from hlen);have aaw:=zh (show Tr.iw (f1 p).kids cb (h:Int)=l1++(h:Int)::l2 from TB);have Z6:=zh (show l1.length=d∧l2.length=b from⟨hd,hb⟩);have HGH:=zh Yh;have HGP:=zh Ml;have HPH:=zh wT;have HMG:=zh U0;have Yk:=zh hgn;have HST:=zh hst;have WH:=zh hm1;have HRO:=zh hro;have hdb:d+b≤100000:=by omega
 have d0:(0:Int)≤(d:Int):=by omega
 have hda:(d:Int)≤(NQ:Int):=by omega
 have hdn:(d:Int)≤((d+b:Nat):Int):=by omega
 have abS:(d:Int)≤(d:Int)+(b:Int):=by omega
 obtain⟨Ao,co,rfl⟩:=aF (aG hro);clear H hw hpg uX hw1 hcin wT hL0 hup Ml Yh OP hnz hle hL TB hcl hd hb hlen hA5 U3 hkv U0 hgn hst hm1 hro HA QB HWC HPA Z4 hfr
 go_upto_if 84 with fail
 go_cut [12] from 13 (fun u W=>u=.int .i64 (d:Int)∧W=wc)
 case first=>
  rcases HIM.out with ⟨hn,hb0⟩ | ⟨j,rfl,HI⟩
  ·go_wp2_with fail;go_meet
   case rel=>exact⟨by rw[hb0.out];rfl,rfl⟩
  ·have qj:(0:Int)≤(j:Int):=by omega
   have HI:=zh HI;go_wp2_with fail;refine nV HI.out ?_;go_wp2_with fail;go_meet
   case rel=>exact⟨rfl,rfl⟩
 case rest=>
 obtain⟨rfl,aax⟩:=hcut;obtain rfl:=aax.symm;clear HIM;have hm1:=WH.out;have hro:=HRO.out;have hA1:=vJ base (.slice A5 (d+b) NQ) (f1 p).kids ((d:Int) - 1) wc (by have:=KT.out wc (Below.refl _ _);rw[Rl.out];exact this) (by constructor<;>omega) (by rw[Rl.out];omega);have hA2:=vJ base (.slice A5 (d+b) NQ) (f1 p).kids (d:Int) wc (by have:=KT.out wc (Below.refl _ _);rw[Rl.out];exact this) (by constructor<;>omega) (by rw[Rl.out];omega);obtain⟨X1,hX1⟩:=eX (xg (f1 p).kids ((d:Int) - 1))
 obtain⟨X2,hX2⟩:=eX (xg (f1 p).kids (d:Int))
 have e1:=hX1;have e2:=hX2;unfold xg at e1 e2;rw[e1] at hA1;rw[e2] at hA2;have HA1:=zh hA1;have HA2:=zh hA2;clear hA1 hA2;have aay:=zh (show jD (f1 p).kids p h cb=⟨1,p,h,X1,X2,(d:Int),⟨#[]⟩,⟨#[]⟩,false,0,0⟩ by
  rw[X8.out,hX1,hX2])
 obtain⟨W2,hW2⟩:=eX (wc.alloc (.cells #[.int .i64 1,.int .i64 (p:Int),.int .i64 (h:Int),.int .i64 X1,.int .i64 X2,.int .i64 (d:Int),.string ⟨#[]⟩,.string ⟨#[]⟩,.bool false,.int .i64 0,.int .i64 0] 114))
 have eG:Below wc.heap.size wc W2:=gU hW2;have hrow2:jP 0 W2 (.slice (some ⟨wc.heap.size,0,none⟩) 1 1) [jD (f1 p).kids p h cb]:=by
  rw[aay.out,←hW2];exact nW wc ⟨1,p,h,X1,X2,(d:Int),⟨#[]⟩,⟨#[]⟩,false,0,0⟩ 0 (Nat.zero_le _)
 have hm2:=hm1.below eG;have U4:=hro.below eG;have aaz:w.heap.size≤W2.heap.size:=Nat.le_trans HST.out.1.size eG.size;have aaA:=zh (HST.out.trans (.of_below eG));have OQ:=zh hm2;have Yl:=zh U4;clear e1 e2 hX1 hX2 eG;go_wp2_with fail;refine nV HA1.out ?_;go_wp2_with fail;refine nV HA2.out ?_;clear HA1 HA2
 go_wp2_with (at_builtin;refine dV rfl _ _ 70 rfl w.heap.size 0 114 j0 (.agg #[.int .i64 0,.int .i64 0,.int .i64 0,.int .i64 0,.int .i64 0,.int .i64 0,.string ⟨#[]⟩,.string ⟨#[]⟩,.bool false,.int .i64 0,.int .i64 0]) 11 104 Tryz.underlying70 hj0 hy0 hy1 hy2 rfl (by decide) _ L0.length (gY L0) rfl U4 _ 1 (gY [jD (f1 p).kids p h cb]) rfl hrow2 (zB _) ?cB1 ?cB2 aaz ?_)
 case cB1=>unfold maxLen;omega
 case cB2=>omega
 intro v3 W3 o3 g3 f3;have IG:=OQ.out.Gc Yl.out g3;have o3':jP w.heap.size W3 v3 (L0++[jD (f1 p).kids p h cb]):=by
  unfold jP;rw[List.length_append,lY];exact o3
 have aaB:=zh (aaA.out.Gd Yl.out (Nat.le_refl _) g3);have aaC:=zh o3';have rE:=zh IG;obtain⟨A3,c3,rfl⟩:=aF (aG o3);have aaD:=aZ W3.heap.size W3;have Jz:Below W3.heap.size W3 W3.drew:=aaD;have OU:=zh (fun (W:World) (hb:Below W3.heap.size W3 W)=>(IG.below hb));have TD:=zh (fun (W:World) (hb:Below W3.heap.size W3 W)=>(Yj.out W (IG.below hb)));have D6:=zh ((IG.below Jz).rd hpm).1;have hgl:g<W3.heap.size:=(IG.row.lt g rfl).2;have aaE:base≤W3.heap.size:=by have:=IG.low;have:=IG.var.lt;omega
 clear hm2 U4 hrow2 IG o3 o3' g3 f3 hm1 hro hW2;go_wp2_with fail;refine wp_region_noPanic ?_;refine wp_region_held_drew (S:=(fun W=>W.cell? ⟨M,0,none⟩=some (.slice (some ⟨g,0,none⟩) m c0))) (by kernel_rfl) ?_ (fun ah=>?_)
 ·exact D6.out
 refine bE [0,1,2,3,4,6,7,8,10,13,14,15] ?_;iterate 12 (refine jl ?_;try simp only[pS])
 refine bF ?_;refine jn5 (C:=fun (V:World) (A7:Option Addr) (c7 X Y:Nat)=>Below W3.heap.size W3 V∧TR V W3.heap.size 3 1 (.slice A7 d c7) d (ints l1)∧TR V W3.heap.size 3 1 (.slice (some ⟨X,0,none⟩) 1 1) 1 (ints [(h:Int)])) (T:=?T) (fun TAIL=>?_) ?_
 case refine_1=>
  refine zm 5 11 (fun K hK=>?_) fun K hK=>?_
  ·
   obtain⟨V1,hV1⟩:=eX (W3.drew.alloc (.cells #[] 3))
   have hbn:Below W3.drew.heap.size W3.drew V1:=by rw[←hV1];exact (Below.refl _ W3.drew).alloc (Nat.le_refl _) _
   have vM:Below W3.heap.size W3 V1:=Jz.trans (hbn.mono Jz.size);have e5:TR V1 W3.heap.size 3 1 (.slice (some ⟨W3.drew.heap.size,0,none⟩) 0 0) 0 []:=by rw[←hV1];exact (lQ W3.drew 3 1).lower Jz.size
   go_simp;(try rw[hV1]);refine hK.out _ _ (((OU.out _ vM).rd hpm).1) fun ah=>?_;clear hK K;(try simp only[pS]);refine zm 9 11 (fun K hK=>?_) fun K hK=>?_
   ·
    refine aJ rfl _ _ 31 rfl W3.heap.size 3 i0 (.int .i64 0) 1 8 Tryz.underlying31 hi0 hz0 hz1 hz2 rfl (by decide) _ 0 [] rfl e5 _ d (ints l1) rfl (TD.out V1 vM).1.1 (TD.out V1 vM).1.source (gH _) ?aaF ?aaG vM.size ?_
    case aaF=>unfold maxLen;omega
    case aaG=>omega
    intro v7 V2 o7 uw f7;have g7:V1.grownBy V2 (Value.slice (some ⟨W3.drew.heap.size,0,none⟩) 0 0).ownBlock:=uw;clear uw;(try simp only[Nat.zero_add,List.nil_append] at o7);have bK:Below W3.heap.size W3 V2:=vM.grown g7 vM.size (fun jj hj=>(e5.lt jj hj).1);obtain⟨A7,c7,rfl⟩:=o7.form;refine hK.out _ _ (((OU.out _ bK).rd hpm).1) fun ah=>?_;clear hK K;(try simp only[pS]);refine bO 11 fun K hK=>?_;obtain⟨V3,kT⟩:=eX (V2.alloc (.cells #[.int .i64 (h:Int)] 3))
    have zR:Below V2.heap.size V2 V3:=gU kT;have bP:Below W3.heap.size W3 V3:=bK.trans (zR.mono bK.size);have KW:TR V3 W3.heap.size 3 1 (.slice (some ⟨V2.heap.size,0,none⟩) 1 1) 1 (ints [(h:Int)]):=by
     rw[←kT];exact (TR.jQ (World.ownsRow_lit (base:=V2.heap.size) (e:=3) (size:=1) V2 #[.int .i64 (h:Int)] 1 (Nat.le_refl _) (by unfold maxLen;omega) rfl)).lower bK.size
    go_simp;(try rw[kT]);refine hK.out _ _ (((OU.out _ bP).rd hpm).1) fun ah=>?_;clear hK K;(try simp only[pS]);have o7:=o7.below zR;obtain⟨X,hX⟩:=eX (V2.heap.size)
    obtain⟨Y,hY⟩:=eX (W3.heap.size)
    rw[hX,hY];exact TAIL.out _ _ _ X Y ⟨bP,o7,by rw[←hX];exact KW⟩
   ·
    obtain⟨V2,hV2⟩:=eX (V1.alloc (.cells #[.int .i64 (h:Int)] 3))
    have zR:Below V1.heap.size V1 V2:=gU hV2;have bK:Below W3.heap.size W3 V2:=vM.trans (zR.mono vM.size);have KW:TR V2 W3.heap.size 3 1 (.slice (some ⟨V1.heap.size,0,none⟩) 1 1) 1 (ints [(h:Int)]):=by
     rw[←hV2];exact (TR.jQ (World.ownsRow_lit (base:=V1.heap.size) (e:=3) (size:=1) V1 #[.int .i64 (h:Int)] 1 (Nat.le_refl _) (by unfold maxLen;omega) rfl)).lower vM.size
    go_simp;(try rw[hV2]);refine hK.out _ _ (((OU.out _ bK).rd hpm).1) fun ah=>?_;clear hK K;(try simp only[pS]);have e5:=e5.below zR;refine bO 9 fun K hK=>?_;refine aJ rfl _ _ 31 rfl W3.heap.size 3 i0 (.int .i64 0) 1 8 Tryz.underlying31 hi0 hz0 hz1 hz2 rfl (by decide) _ 0 [] rfl e5 _ d (ints l1) rfl (TD.out V2 bK).1.1 (TD.out V2 bK).1.source (gH _) ?aaH ?aaI bK.size ?_
    case aaH=>unfold maxLen;omega
    case aaI=>omega
    intro v7 V3 o7 uw f7;have g7:V2.grownBy V3 (Value.slice (some ⟨W3.drew.heap.size,0,none⟩) 0 0).ownBlock:=uw;clear uw;(try simp only[Nat.zero_add,List.nil_append] at o7);have bP:Below W3.heap.size W3 V3:=bK.grown g7 bK.size (fun jj hj=>(e5.lt jj hj).1);obtain⟨A7,c7,rfl⟩:=o7.form;have KW:TR V3 W3.heap.size 3 1 _ 1 (ints [(h:Int)]):=KW.kept g7 (.inr (fun e=>by have ee:V1.heap.size=W3.drew.heap.size:=(by simpa [Value.ownBlock] using e);rw[←hV1,World.size_alloc] at ee;omega));refine hK.out _ _ (((OU.out _ bP).rd hpm).1) fun ah=>?_;clear hK K;(try simp only[pS]);obtain⟨X,hX⟩:=eX (V1.heap.size)
    obtain⟨Y,hY⟩:=eX (W3.heap.size)
    rw[hX,hY];exact TAIL.out _ _ _ X Y ⟨bP,o7,by rw[←hX];exact KW⟩
  ·
   obtain⟨V1,hV1⟩:=eX (W3.drew.alloc (.cells #[.int .i64 (h:Int)] 3))
   have zR:Below W3.drew.heap.size W3.drew V1:=by rw[←hV1];exact (Below.refl _ W3.drew).alloc (Nat.le_refl _) _
   have vM:Below W3.heap.size W3 V1:=Jz.trans (zR.mono Jz.size);have KW:TR V1 W3.heap.size 3 1 (.slice (some ⟨W3.drew.heap.size,0,none⟩) 1 1) 1 (ints [(h:Int)]):=by
    rw[←hV1];exact (TR.jQ (World.ownsRow_lit (base:=W3.drew.heap.size) (e:=3) (size:=1) W3.drew #[.int .i64 (h:Int)] 1 (Nat.le_refl _) (by unfold maxLen;omega) rfl)).lower Jz.size
   go_simp;(try rw[hV1]);refine hK.out _ _ (((OU.out _ vM).rd hpm).1) fun ah=>?_;clear hK K;(try simp only[pS]);refine bO 5 fun K hK=>?_;obtain⟨V2,hV2⟩:=eX (V1.alloc (.cells #[] 3))
   have hbn:Below V1.heap.size V1 V2:=gU hV2;have bK:Below W3.heap.size W3 V2:=vM.trans (hbn.mono vM.size);have e5:TR V2 W3.heap.size 3 1 (.slice (some ⟨V1.heap.size,0,none⟩) 0 0) 0 []:=by rw[←hV2];exact (lQ V1 3 1).lower vM.size
   go_simp;(try rw[hV2]);refine hK.out _ _ (((OU.out _ bK).rd hpm).1) fun ah=>?_;clear hK K;(try simp only[pS]);have KW:=KW.below hbn;refine bO 9 fun K hK=>?_;refine aJ rfl _ _ 31 rfl W3.heap.size 3 i0 (.int .i64 0) 1 8 Tryz.underlying31 hi0 hz0 hz1 hz2 rfl (by decide) _ 0 [] rfl e5 _ d (ints l1) rfl (TD.out V2 bK).1.1 (TD.out V2 bK).1.source (gH _) ?aaJ ?aaK bK.size ?_
   case aaJ=>unfold maxLen;omega
   case aaK=>omega
   intro v7 V3 o7 uw f7;have g7:V2.grownBy V3 (Value.slice (some ⟨V1.heap.size,0,none⟩) 0 0).ownBlock:=uw;clear uw;(try simp only[Nat.zero_add,List.nil_append] at o7);have bP:Below W3.heap.size W3 V3:=bK.grown g7 bK.size (fun jj hj=>(e5.lt jj hj).1);obtain⟨A7,c7,rfl⟩:=o7.form;have KW:TR V3 W3.heap.size 3 1 _ 1 (ints [(h:Int)]):=KW.kept g7 (.inr (fun e=>by have ee:W3.drew.heap.size=V1.heap.size:=(by simpa [Value.ownBlock] using e);rw[←hV1,World.size_alloc] at ee;omega));refine hK.out _ _ (((OU.out _ bP).rd hpm).1) fun ah=>?_;clear hK K;(try simp only[pS]);obtain⟨X,hX⟩:=eX (W3.heap.size)
   obtain⟨Y,hY⟩:=eX (V1.heap.size)
   rw[hX,hY];exact TAIL.out _ _ _ X Y ⟨bP,o7,by rw[←hX];exact KW⟩
 intro V3 A7 c7 X Y ⟨bP,o7,KW⟩;have ah:=((OU.out _ bP).rd hpm).1;refine bO 12 fun K hK=>?_;have s11:=KW.source;have l11:=KW.1;refine aJ rfl _ _ 31 rfl W3.heap.size 3 i0 (.int .i64 0) 1 8 Tryz.underlying31 hi0 hz0 hz1 hz2 rfl (by decide) _ d (ints l1) rfl o7 _ 1 (ints [(h:Int)]) rfl l11 s11 (gH _) ?aaL ?aaM bP.size ?_
 case aaL=>unfold maxLen;omega
 case aaM=>omega
 intro v8 V8 o8 g8 f8;rw[←iB] at o8;have JA:Below W3.heap.size W3 V8:=bP.grown g8 bP.size (fun jj hj=>(o7.lt jj hj).1);obtain⟨A8,c8,rfl⟩:=o8.form;refine hK.out _ _ (((OU.out _ JA).rd hpm).1) fun ah=>?_;clear hK K;(try simp only[pS]);refine bO 16 fun K hK=>?_;have hyb:=(TD.out V8 JA).2.1;have s2:=(TD.out V8 JA).2.source;refine aJ rfl _ _ 31 rfl W3.heap.size 3 i0 (.int .i64 0) 1 8 Tryz.underlying31 hi0 hz0 hz1 hz2 rfl (by decide) _ (d+1) (ints (l1++[(h:Int)])) rfl o8 _ b (ints l2) rfl hyb s2 (gH _) ?aaN ?aaO JA.size ?_
 case aaN=>unfold maxLen;omega
 case aaO=>omega
 intro v9 V9 o9 g9 f9;rw[←iB] at o9;have Yn:Below W3.heap.size W3 V9:=JA.grown g9 JA.size (fun jj hj=>(o8.lt jj hj).1);obtain⟨A9,c9,rfl⟩:=o9.form;have OV:TR V9 base 3 1 (Tr.Sl.v ⟨A9,d+1+b,c9⟩) (Tr.iw (f1 p).kids cb (h:Int)).length (ints (Tr.iw (f1 p).kids cb (h:Int))):=by
  rw[aaw.out,show l1++(h:Int)::l2=l1++[(h:Int)]++l2 from by simp];have e:(l1++[(h:Int)]++l2).length=d+1+b:=by rw[List.length_append,List.length_append,Z6.out.1,Z6.out.2];rfl
  rw[e];exact o9.lower aaE
 obtain⟨_,fz,hcells,eu,eO⟩:=rE.out.zN (sl:=⟨A9,d+1+b,c9⟩) (l':=Tr.iw (f1 p).kids cb (h:Int)) hpm (Below.refl _ W3) (ay Yn _) OV (.inr fun k hk=>(o9.lt k hk).1);have hpc:=hcells p 5 hpm (by omega);rw[show (p8 (f1 p))[5]?=some ((f1 p).k.v) from rfl] at hpc;obtain⟨V10,Yo⟩:=eX (V9.setCell ⟨g,p*7+5,none⟩ (.slice A9 (d+1+b) c9))
 rw[show (Tr.Sl.v ⟨A9,d+1+b,c9⟩)=.slice A9 (d+1+b) c9 from rfl,Yo] at eu eO;have aaP:=(eu.rd hpm).1;have Yp:=((OU.out _ Yn).rd hpm).1;obtain⟨k10,-,-,-,-,p10,-⟩:=eu.rd hhm;have abT:=eu.fz (h*7+4);obtain⟨vC,Mj⟩:=eu.put (j:=4) (v:=.int .i64 (p:Int)) hhm (by omega) (fun n=>{ n with pa:=p }) rfl ⟨rfl,rfl,rfl,rfl⟩;have bf:=zh (And.intro ((aaC.out.step rE.out eO).step eu Mj) (And.intro vC ((aaB.out.trans eO).trans Mj)));clear eu eO vC Mj hcells o9 OV g9 f9 o8 g8 f8 o7 hyb s2 JA;refine hK.out _ _ (Yp) fun ah=>?_;clear hK K;(try simp only[pS]);refine bE [17,18] ?_;iterate 2 (refine jl ?_;try simp only[pS])
 refine bF ?_;refine bO 19 fun K hK=>?_;go_simp;(try rw[Yo]);refine hK.out _ _ (aaP) fun ah=>?_;clear hK K;(try simp only[pS]);refine gQ ?_;go_wp2_with fail;all_goals go_ret2
 all_goals
  refine⟨_,rfl,?_,_,bf.out.2.1,bf.out.2.2,?_,?_⟩
  ·rw[Yi.out];exact bf.out.1
  ·exact OL HMG.out hhm HGH.out hpm HGP.out HPH.out
  ·intro jj;exact (vK ⟨rfl,rfl,rfl,rfl,rfl⟩ jj).trans ((vK ⟨rfl,rfl,rfl,rfl,rfl⟩ jj).trans (Yk.out jj))
end
end Go.Proofs.YtjpbhkcjmdndjaaGreatDoor
