/- Part of a proof about trees: NRia. -/
import Derived.Test.YtaigmpkcdjbpiaaGreatDoorGNRsa
set_option linter.unusedVariables false
set_option linter.unusedSimpArgs false
set_option linter.unusedSectionVars false
set_option maxHeartbeats 8000000
set_option maxRecDepth 100000
namespace Go.Proofs.YtaigmpkcdjbpiaaGreatDoor
section
open Go.RowKit
theorem recInfoR:(Tryz.prog.info? 137).map (fun i=>(i.zero,i.size,i.bytes))=some (some (.agg #[.int .i64 0,.int .i64 0,.int .i64 0,.int .i64 0,.int .i64 0,.int .i64 0,.string ⟨#[]⟩,.string ⟨#[]⟩,.bool false,.int .i64 0,.int .i64 0]),11,104):=by kernel_rfl
theorem MV.rr_apart {base M m b:Nat} {f:Nat→RS} {w:World} {vs v:Value} {l:List Tr.Rec} (h:MV base w M vs m f) (hr:RRow b w v l):∀ k,v.ownBlock=some k→¬ MFoot M vs m f k:=by
 have ht:TR w b 137 11 v l.length (rcells l):=TR.of_own hr;rintro k hk (rfl | hx | ⟨i,hi,hx | hx⟩)
 ·exact ht.unlike h.var (by decide) hk
 ·exact own_tr_ne ht h.row (by decide) k hx hk
 ·exact ht.ne (h.ar i hi) (by decide) k hk hx
 ·exact ht.ne (h.kr i hi) (by decide) k hk hx
theorem RRow.step {base M m b:Nat} {f:Nat→RS} {w w':World} {vs v:Value} {l:List Tr.Rec} {F':Nat→Prop} (hr:RRow b w v l) (h:MV base w M vs m f) (st:AStep w w' (MFoot M vs m f) F'):RRow b w' v l:=own_turns hr st.1 (h.rr_apart hr)
theorem MV.grown_rr {base M m b:Nat} {f:Nat→RS} {w w':World} {vs v:Value} {l:List Tr.Rec} (h:MV base w M vs m f) (hr:RRow b w v l) (g:w.grownBy w' v.ownBlock):MV base w' M vs m f:=
 h.turns (S:=fun k=>v.ownBlock=some k) (.of_grown g (fun k hk=>hk)) (fun x hx e=>h.rr_apart hr x e hx)
theorem AStep.rr_grown {M m b:Nat} {f:Nat→RS} {w0 w w':World} {vs v:Value} {l:List Tr.Rec} {F:Nat→Prop} (st:AStep w0 w F (MFoot M vs m f)) (hr:RRow b w v l) (hb:w0.heap.size≤b) (g:w.grownBy w' v.ownBlock):AStep w0 w' F (MFoot M vs m f):=
 st.rec_grown (S:=fun k=>v.ownBlock=some k) (.of_grown g (fun k hk=>hk)) (fun k hk=>Nat.le_trans hb (hr.lt k hk).1)
theorem gone_upd {f:Nat→RS} {i:Nat} {u:RS→RS} (hu:(u (f i)).gone=(f i).gone) (j:Nat):(updM f i u j).gone=(f j).gone:=by
 unfold updM;split
 ·rename_i e;rw[e];exact hu
 ·rfl
def Keep4 (a b:RS):Prop:=a.gone=b.gone∧a.kind=b.kind∧a.at'=b.at'∧a.data=b.data
theorem Keep4.trans {a b c:RS} (h:Keep4 a b) (k:Keep4 b c):Keep4 a c:=⟨h.1.trans k.1,h.2.1.trans k.2.1,h.2.2.1.trans k.2.2.1,h.2.2.2.trans k.2.2.2⟩
theorem keep_upd {f:Nat→RS} {i:Nat} {u:RS→RS} (hu:Keep4 (u (f i)) (f i)) (j:Nat):Keep4 (updM f i u j) (f j):=by
 unfold updM;split
 ·rename_i e;rw[e];exact hu
 ·exact⟨rfl,rfl,rfl,rfl⟩
theorem mg_link' {m i p:Nat} {f:Nat→RS} {sl:Tr.Sl} {c:Int} (hi:i<m) (hg:(f i).gone=false) (hp:p<m) (hpg:(f p).gone=false) (hpi:p≠i):
  mg m (updM (updM f p fun n=>{ n with k:=sl,kids:=Tr.insB (f p).kids c (i:Int) }) i fun n=>{ n with pa:=p })=Tr.linkA (mg m f) p i c:=by
 have hfun:(updM f p fun n=>{ n with k:=sl,kids:=Tr.insB (f p).kids c (i:Int) })=updM f p fun n=>{ n with k:=sl,kids:=Tr.insB n.kids c (i:Int) }:=by
  funext j;unfold updM;by_cases e:j=p
  ·subst e;simp
  ·simp[e]
 rw[hfun];exact mg_link hi hg hp hpg hpi
def cut1A (a:Tr.G) (h:Int):Tr.G:=if Tr.paOf a h = -1 then a else Tr.cutA a h
def insCA (a:Tr.G) (h c:Int):Int:=if c=h then atM (Tr.kidsOf a (Tr.paOf a h)) (((Tr.kidsOf a (Tr.paOf a h)).idxOf h:Nat)+1) else c
def insRec (l:List Int) (p h c:Int):Tr.Rec:=
 let i:Int:=if c = -1 then (l.length:Int) else (l.idxOf c:Nat)
 ⟨1,p,h,atM l (i - 1),atM l i,i,⟨#[]⟩,⟨#[]⟩,false,0,0⟩
theorem insRec_end (l:List Int) (p h:Int) {n:Int} (hn:(l.length:Int)=n):insRec l p h (-1)=⟨1,p,h,atM l (n - 1),atM l n,n,⟨#[]⟩,⟨#[]⟩,false,0,0⟩:=by
 subst hn;unfold insRec;rw[if_pos rfl]
theorem insRec_at (l:List Int) (p h:Int) {c n:Int} (hc:c ≠ -1) (hn:((l.idxOf c:Nat):Int)=n):insRec l p h c=⟨1,p,h,atM l (n - 1),atM l n,n,⟨#[]⟩,⟨#[]⟩,false,0,0⟩:=by
 subst hn;unfold insRec;rw[if_neg hc]
theorem ins_split {l:List Int} {c h:Int} (hc:c = -1∨c∈l) (h0:(-1:Int)∉l):∃ l1 l2,l=l1++l2∧Tr.insB l c h=l1++h::l2∧((c = -1∧l2=[])∨(c ≠ -1∧l.idxOf c=l1.length)):=by
 rcases hc with rfl | hc
 ·exact⟨l,[],by simp,Tr.insB_end h0,.inl ⟨rfl,rfl⟩⟩
 ·have hne:c ≠ -1:=fun e=>h0 (e▸hc);obtain⟨l1,l2,rfl,hn⟩:∃ l1 l2,l=l1++c::l2∧c∉l1:=by
   clear h0 hne
   induction l with
   | nil=>cases hc
   | cons a r ih=>
    by_cases e:a=c
    ·exact⟨[],r,by rw[e];rfl,by simp⟩
    ·obtain⟨l1,l2,h1,h2⟩:=ih (by rcases List.mem_cons.1 hc with h3 | h3;exact absurd h3.symm e;exact h3);exact⟨a::l1,l2,by rw[h1];rfl,by simp;exact⟨fun e2=>e e2.symm,h2⟩⟩
  exact⟨l1,c::l2,rfl,Tr.insB_split hn,.inr ⟨hne,Tr.idxOf_split hn⟩⟩
theorem TR.parts1 {w:World} {base g o d b cp:Nat} {e:TypeId} {l1 l2:List Int} (h:TR w base e 1 (.slice (some ⟨g,o,none⟩) (d+b) cp) (d+b) (ints (l1++l2))) (h1:l1.length=d) (h2:l2.length=b):
  TR w base e 1 (.slice (some ⟨g,o,none⟩) d cp) d (ints l1)∧TR w base e 1 (.slice (if cp=d then some ⟨g,o,none⟩ else some ⟨g,o+d,none⟩) b (cp - d)) b (ints l2):=by
 have a1:=h.head (k:=d) (by omega);have a2:=h.tail (k:=d) (by omega);rw[Nat.mul_one,ints_take,List.take_left' h1] at a1;rw[Nat.mul_one,ints_drop,List.drop_left' h1,Nat.add_sub_cancel_left] at a2;have et:tailV (.slice (some ⟨g,o,none⟩) (d+b) cp) d 1=.slice (if cp=d then some ⟨g,o,none⟩ else some ⟨g,o+d,none⟩) b (cp - d):=by
  unfold tailV;simp only[Option.map_some,Addr.add_lit,Nat.add_sub_cancel_left,Nat.mul_one]
 rw[et] at a2;exact⟨a1,a2⟩
theorem mg_link2 {m i p:Nat} {f:Nat→RS} {sl:Tr.Sl} {c:Int} {A:Tr.G} (hA:mg m f=A) (hi:i<m) (hg:(f i).gone=false) (hp:p<m) (hpg:(f p).gone=false) (hpi:p≠i):
  mg m (updM (updM f p fun n=>{ n with k:=sl,kids:=Tr.insB (f p).kids c (i:Int) }) i fun n=>{ n with pa:=p })=Tr.linkA A p i c:=by
 rw[←hA];exact mg_link' hi hg hp hpg hpi
theorem rinsert_all (base M m:Nat) (vs:Value) (f:Nat→RS) (p h:Nat) (c:Int) (w:World) (H:MV base w M vs m f) (hw:Tr.WF (-1) (mg m f)) (hpm:p<m) (hpg:(f p).gone=false) (hhm:h<m) (hhg:(f h).gone=false) (h0g:(f 0).gone=false) (hm:m≤100000)
  (hch:childM m f p h=true) (hc:c = -1∨∃ j:Nat,c=(j:Int)∧j<m∧(f j).pa=(p:Int)) (hlim:(Tr.upG (mg m f) (p:Int)).length+Tr.hgtG (mg m f) (h:Int)≤128) (hph:p≠h) (hw1:Tr.WF (-1) (cut1A (mg m f) (h:Int))) (hcin:insCA (mg m f) h c = -1∨insCA (mg m f) h c∈Tr.kidsOf (cut1A (mg m f) (h:Int)) (p:Int))
  (L0:List Tr.Rec) (hL0:((f h).pa = -1∧L0=[])∨∃ q:Nat,(f h).pa=(q:Int)∧L0=[placeM m f 2 h q]):
  Calls Tryz.prog 43 #[.pointer (some ⟨M,0,none⟩),.int .i64 (p:Int),.int .i64 (h:Int),.int .i64 c] w fun e w'=>∃ r,e=.returned (.tuple #[r,.int .i64 0])∧RRow w.heap.size w' r (L0++[insRec (Tr.kidsOf (cut1A (mg m f) (h:Int)) (p:Int)) p h (insCA (mg m f) h c)])∧
   ∃ f2,MV base w' M vs m f2∧AStep w w' (MFoot M vs m f) (MFoot M vs m f2)∧mg m f2=Tr.linkA (cut1A (mg m f) (h:Int)) p h (insCA (mg m f) h c)∧∀ j,Keep4 (f2 j) (f j):=by
 obtain⟨i0,hi0,hz0,hz1,hz2⟩:=info_parts intInfoR;obtain⟨j0,hj0,hy0,hy1,hy2⟩:=info_parts recInfoR;obtain⟨A,c0,rfl⟩:=H.form;obtain⟨g,rfl,-⟩:=H.read hpm;obtain⟨dp,hdp⟩:∃ dp,(Tr.upG (mg m f) (p:Int)).length=dp:=⟨_,rfl⟩
 obtain⟨ht,hht⟩:∃ ht,Tr.hgtG (mg m f) (h:Int)=ht:=⟨_,rfl⟩
 have HCH:=zh (rchild_any base M m _ f p h w H hw hpm hpg hhm h0g hm);rw[hch] at HCH;have HDP:=zh (rdepth_any base M m _ f (p:Int) w H hw (.inr (by rw[mg_isSome hpm,hpg];rfl)) hm);have HHT:=zh (rheight_any base M m _ f hw hm (h:Int) (by rw[mg_isSome hhm,hhg];rfl) w H);rw[hdp] at HDP hlim;rw[hht] at HHT hlim;have p0:(0:Int)≤(p:Int):=by omega
 have p1:(p:Int)<(m:Int):=by omega
 have h0:(0:Int)≤(h:Int):=by omega
 have h1:(h:Int)<(m:Int):=by omega
 have hlimI:¬ (128:Int)<(dp:Int)+(ht:Int):=by omega
 have k0w:=(H.rd hpm).1;have hup:∀ q:Nat,(f h).pa=(q:Int)→q<m∧(f q).gone=false∧(f h).pa=(q:Int)∧q≠h∧(h:Int)∈(f q).kids:=by
  intro q hq;rcases hw.pa (mg_at hhm hhg) with e | ⟨n,e,e5⟩
  ·exact absurd (show (f h).pa = -1 from e) (by omega)
  ·rw[show (rsG (f h)).pa=(q:Int) from hq] at e;obtain⟨q',e1,e2,e3,e6⟩:=mg_some e;obtain rfl:q=q':=by omega
   refine⟨e2,e3,hq,fun e4=>hw.not_self (mg_at hhm hhg) ?_,by rw[e6] at e5;exact e5⟩;show (f h).pa=_;rw[hq,e4]
 have HSELF:=zh (fun (e0:c=(h:Int))=>show ∃ (aa n ac D:Nat) (a':Option Addr),aa=0∧w.cell? ⟨g,p*7+5,none⟩=some (.slice a' n ac)∧D<100000∧
   (∀ nq,Calls Tryz.prog 51 #[.pointer (some ⟨M,0,none⟩),.int .i64 (h:Int)] (w.drewN nq) fun e w'=>e=.returned (.int .i64 (D:Int))∧w'=w.drewN nq)∧
   (∀ nq,Calls Tryz.prog 98 #[.slice a' n ac,.int .i64 ((D:Int)+1)] (w.drewN nq) fun e w'=>e=.returned (.int .i64 (insCA (mg m f) h c))∧w'=w.drewN nq) from by
  have hq:(f h).pa=(p:Int):=by
   rcases hc with e | ⟨j,e1,_,e3⟩
   ·omega
   ·have e:j=h:=by omega
    rw[e] at e3;exact e3
  have hmemh:=(hup p hq).2.2.2.2;have hle0:=mg_kids_le hw hpm hpg;have hixl:=List.idxOf_lt_length_iff.2 hmemh;obtain⟨D0,hD0⟩:∃ D0,(f p).kids.idxOf (h:Int)=D0:=⟨_,rfl⟩
  rw[hD0] at hixl;have hidx0:indexM m f h=(D0:Int):=by unfold indexM;rw[if_neg (by omega),hq,Int.toNat_natCast,hD0]
  have hX:insCA (mg m f) h c=atM (f p).kids ((D0:Int)+1):=by
   unfold insCA;rw[if_pos e0,show Tr.paOf (mg m f) (h:Int)=(p:Int) by rw[Tr.paOf_some (mg_at hhm hhg)];exact hq,show Tr.kidsOf (mg m f) (p:Int)=(f p).kids from Tr.kidsOf_some (mg_at hpm hpg),hD0]
  obtain⟨-,-,-,-,-,-,x,-⟩:=H.rd hpm;refine⟨0,(f p).kids.length,(f p).k.c,D0,(f p).k.a,rfl,x,by omega,fun nq=>?_,fun nq=>?_⟩
  ·have:=rindex_any base M m _ f h (w.drewN nq) (H.below (below_drewN _ w nq)) hw hhm hhg hm;rw[hidx0] at this;exact this
  ·rw[hX];refine rat_any base (.slice (f p).k.a (f p).kids.length (f p).k.c) (f p).kids ((D0:Int)+1) (w.drewN nq) ?_ (by constructor<;>omega) (by omega);have:=(H.below (below_drewN _ w nq)).kr p hpm
   rw[show (f p).k.v=.slice (f p).k.a (f p).kids.length (f p).k.c by unfold Tr.Sl.v;rw[H.kn hpm]] at this;exact this)
 obtain⟨cb,hcb⟩:∃ cb,insCA (mg m f) h c=cb:=⟨_,rfl⟩
 have HCN:=zh (show c≠(h:Int)→cb=c from fun e=>by rw[←hcb];exact if_neg e);rw[hcb] at hcin HSELF ⊢;have HCON:=zh (show ¬ (0:Int)≤c∨∃ jc:Nat,c=(jc:Int)∧jc<m∧w.cell? ⟨g,jc*7+4,none⟩=some (.int .i64 (p:Int)) from by
  rcases hc with e | ⟨jc,e1,e2,e3⟩
  ·exact .inl (by omega)
  ·obtain⟨-,-,-,-,-,x,-⟩:=H.rd e2;rw[e3] at x
   exact .inr ⟨jc,e1,e2,x⟩)
 have HA:=zh (And.intro H (And.intro hw (And.intro hpg (And.intro hhg (And.intro hw1 (And.intro hcin (And.intro hph (And.intro hL0 hup))))))));clear hc hcin hw1 hph hhg hpg h0g H hw hch hdp hht hlim hL0 hup hcb
 go_enter Tryz.func43,Tryz.ntmps43
 go_upto_region 1 with fail
 go_cut [33] from 13 (fun u wc=>u=.bool false∧wc=w)
 case first=>
  rcases HCON.out with hn | ⟨jc,rfl,hjm,hjr⟩
  ·go_wp2_with fail;refine sameC HCH.out ?_;go_wp2_with fail;go_meet
   case rel=>exact⟨rfl,rfl⟩
  ·have qjc0:(0:Int)≤(jc:Int):=by omega
   have qjc1:(jc:Int)<(m:Int):=by omega
   go_wp2_with fail;refine sameC HCH.out ?_;go_wp2_with fail;go_meet
   case rel=>exact⟨rfl,rfl⟩
 case rest=>
 obtain⟨rfl,hwc⟩:=hcut;obtain rfl:=hwc.symm;clear HCH HCON;go_wp2_with fail;refine sameC HDP.out ?_;go_wp2_with fail;refine sameC HHT.out ?_;clear HDP HHT
 go_upto_if 44 with fail
 go_cut [3] from 13 (fun u wc=>u=.int .i64 cb∧Below w.heap.size w wc)
 case first=>
  by_cases hce:c=(h:Int)
  ·have qe:(c == (h:Int))=true:=by simp[hce]
   obtain⟨_,n0,ac0,D0,aa0,-,c5w,hD,HI,HT⟩:=HSELF.out hce;have HI:=zh HI;have HT:=zh HT;have hs2:IntKind.i64.wrap ((D0:Int)+1)=(D0:Int)+1:=by rw[IntKind.wrap_i64];omega
   clear hce;go_wp2_with fail
   go_quiet (first | (go_at_call 51;exact Calls.quiet_of_same (HI.out _)) | (go_at_call 98;exact Calls.quiet_of_same (HT.out _)))
   go_wp2_with fail;go_meet
   case rel=>exact⟨rfl,below_drewN _ w nq⟩
  ·have qe:(c == (h:Int))=false:=beq_false' hce;have hcc:=HCN.out hce;go_wp2_with fail;go_meet
   case rel=>exact⟨by rw[hcc],Below.refl _ _⟩
 case rest=>
 obtain⟨rfl,hwc⟩:=hcut;clear HSELF HCN k0w;obtain⟨wb,hwb⟩:∃ x,x=wc:=⟨_,rfl⟩
 subst hwb;obtain⟨H,hw,hpg,hhg,hw1,hcin,hph,hL0,hup⟩:=HA.out;have Hc:=H.below hwc;obtain⟨pa0,hpa0⟩:∃ pa0,(f h).pa=pa0:=⟨_,rfl⟩
 obtain⟨k0w,-,-,-,-,hfr,-⟩:=Hc.rd hhm;rw[hpa0] at hfr;have HHc:=zh Hc;have HWC:=zh hwc;have HPA:=zh hpa0;clear H hw hpg hhg hw1 hcin hph hL0 hup Hc hwc hpa0
 go_upto_if 66 with fail
 go_cut [10] from 13 (fun u W=>∃ f1,MV base W M (.slice (some ⟨g,0,none⟩) m c0) m f1∧mg m f1=cut1A (mg m f) (h:Int)∧(∀ j,Keep4 (f1 j) (f j))∧RRow w.heap.size W u L0∧AStep w W (MFoot M (.slice (some ⟨g,0,none⟩) m c0) m f) (MFoot M (.slice (some ⟨g,0,none⟩) m c0) m f1))
 case first=>
  obtain⟨H,hw,hpg,hhg,hw1,hcin,hph,hL0,hup⟩:=HA.out;rcases hL0 with ⟨hq,hLe⟩ | ⟨q,hq,hLe⟩
  ·have hn:¬ (0:Int)≤pa0:=by have:=HPA.out;omega
   have hcut:mg m f=cut1A (mg m f) (h:Int):=by unfold cut1A;rw[Tr.paOf_some (mg_at hhm hhg)];exact (if_pos hq).symm
   have HREL:=zh (And.intro HHc.out (And.intro hcut (AStep.of_below (F:=MFoot M (.slice (some ⟨g,0,none⟩) m c0) m f) HWC.out)));have HLE:=zh hLe;clear H hw hpg hhg hw1 hcin hph hup hq hcut hLe;go_wp2_with fail;go_meet
   case rel=>exact⟨f,HREL.out.1,HREL.out.2.1,fun _=>⟨rfl,rfl,rfl,rfl⟩,by rw[HLE.out];exact RRow.nil _ _,HREL.out.2.2⟩
  ·obtain rfl:pa0=(q:Int):=by have:=HPA.out;omega
   have qq0:(0:Int)≤(q:Int):=by omega
   obtain⟨hqm,hqg,-,hqh,-⟩:=hup q hq;have hcut:cut1A (mg m f) (h:Int)=Tr.cutA (mg m f) (h:Int):=by unfold cut1A;rw[Tr.paOf_some (mg_at hhm hhg)];exact if_neg (by show (f h).pa ≠ -1;omega)
   have HCUT:=zh (rcut_any base M m _ f h q wb HHc.out hw hhm hhg hq hm);have HMGC:=zh (fun sl=>mg_cut (sl:=sl) hhm hhg hqm hqg hq hqh);have HLE:=zh (And.intro hLe hcut);clear H hw hpg hhg hw1 hcin hph hup hq hcut hLe hqm hqg hqh;go_wp2_with fail;refine HCUT.out.mono ?_;rintro e W0 ⟨rfl,sl0,hm0,st0⟩;obtain⟨f1,hf1⟩:∃ f1,(updM (updM f q fun n=>{ n with k:=sl0,kids:=n.kids.erase (h:Int) }) h fun n=>{ n with pa := -1 })=f1:=⟨_,rfl⟩
   rw[hf1] at hm0 st0;have HG:=zh (show mg m f1=cut1A (mg m f) (h:Int)∧∀ j,Keep4 (f1 j) (f j) from⟨by rw[←hf1,HLE.out.2];exact HMGC.out sl0,fun j=>by rw[←hf1];exact (keep_upd ⟨rfl,rfl,rfl,rfl⟩ j).trans (keep_upd ⟨rfl,rfl,rfl,rfl⟩ j)⟩);obtain⟨r0,hr⟩:∃ r0,placeM m f 2 h q=r0:=⟨_,rfl⟩
   have hrow0:=rrow_one W0 r0 0 (Nat.zero_le _);obtain⟨Wb,hWb⟩:∃ Wb,W0.alloc (.cells #[.int .i64 r0.kind,.int .i64 r0.target,.int .i64 r0.node,.int .i64 r0.prev,.int .i64 r0.next,.int .i64 r0.index,.string r0.name,.string r0.old,.bool r0.had,.int .i64 r0.count,.int .i64 r0.size] 137)=Wb:=⟨_,rfl⟩
   rw[hWb] at hrow0;have hbb:Below W0.heap.size W0 Wb:=bzA hWb;have hstb:=((AStep.of_below (F:=MFoot M (.slice (some ⟨g,0,none⟩) m c0) m f) HWC.out).trans st0).trans (.of_below hbb);have hsb:w.heap.size≤Wb.heap.size:=hstb.1.size;have HMB:=zh (hm0.below hbb);have HSB:=zh hstb;rw[hr] at HLE ⊢;have HLE2:=HLE;clear HCUT HMGC k0w hfr hm0 st0 hbb hstb hr hf1 HLE
   go_wp2_with (at_builtin;refine wpList_append_src rfl _ _ 89 rfl w.heap.size 0 137 j0 (.agg #[.int .i64 0,.int .i64 0,.int .i64 0,.int .i64 0,.int .i64 0,.int .i64 0,.string ⟨#[]⟩,.string ⟨#[]⟩,.bool false,.int .i64 0,.int .i64 0]) 11 104 Tryz.underlying89 hj0 hy0 hy1 hy2 rfl (by decide) _ 0 [] rfl (RRow.nil w.heap.size _) _ 1 (rcells [r0]) rfl hrow0 (rc_one _) ?cm1 ?cm2 hsb ?_)
   case cm1=>unfold maxLen;omega
   case cm2=>omega
   intro v1 W1 o1 g1 fr1;have HREL:=zh (show _∧_∧_ from⟨HMB.out.grown_rr (RRow.nil w.heap.size _) g1,(show RRow w.heap.size W1 v1 L0 by rw[HLE2.out.1];unfold RRow;simpa using o1),HSB.out.rr_grown (RRow.nil w.heap.size _) (Nat.le_refl _) g1⟩);obtain⟨Ao,co,rfl⟩:=own_slice (own_zero o1);clear o1 g1 fr1 hrow0 HMB HSB hWb;go_wp2_with fail;go_meet
   case rel=>exact⟨f1,HREL.out.1,HG.out.1,HG.out.2,HREL.out.2.1,HREL.out.2.2⟩
 case rest=>
 obtain⟨f1,hm1,hmg,hgn,hro,hst⟩:=hcut;obtain⟨H,hw,hpg,hhg,hw1,hcin,hph,hL0,hup⟩:=HA.out;have hR0:L0.length≤1:=by rcases hL0 with ⟨-,e⟩ | ⟨_,-,e⟩<;>rw[e]<;>simp
 have hg1p:(f1 p).gone=false:=(hgn p).1.trans hpg;have hg1h:(f1 h).gone=false:=(hgn h).1.trans hhg;have hwf1:Tr.WF (-1) (mg m f1):=by rw[hmg];exact hw1
 have HKL1:=zh (show Tr.kidsOf (cut1A (mg m f) (h:Int)) (p:Int)=(f1 p).kids by rw[←hmg];exact Tr.kidsOf_some (mg_at hpm hg1p));rw[HKL1.out] at hcin;have hnz:(-1:Int)∉(f1 p).kids:=hwf1.kid_not_zero (mg_at hpm hg1p);have hle:=mg_kids_le hwf1 hpm hg1p;obtain⟨l1,l2,hL,hinsB,hcl⟩:=ins_split (h:=(h:Int)) hcin hnz;obtain⟨d,hd⟩:∃ d,l1.length=d:=⟨_,rfl⟩
 obtain⟨b,hb⟩:∃ b,l2.length=b:=⟨_,rfl⟩
 have hlen:(f1 p).kids.length=d+b:=by rw[hL,List.length_append,hd,hb]
 obtain⟨A5,hA5⟩:∃ A5,(f1 p).k.a=A5:=⟨_,rfl⟩
 obtain⟨c5n,hc5n⟩:∃ c5n,(f1 p).k.c=c5n:=⟨_,rfl⟩
 have hkv:(f1 p).k.v=.slice A5 (d+b) c5n:=by unfold Tr.Sl.v;rw[hm1.kn hpm,hlen,hA5,hc5n]
 obtain⟨kz,-,-,-,-,-,kc5,-⟩:=hm1.rd hpm;rw[hA5,hlen,hc5n] at kc5;have hcap:d+b≤c5n:=by
  have hk:=hm1.kr p hpm;rw[hkv] at hk;rcases hk.2 with ⟨e,e2⟩ | ⟨_,_,_,_,e,_,_,e2,_⟩
  ·injection e;omega
  ·injection e with e3 e4 e5;rw[hlen] at e2;omega
 have HIX:=zh (show insRec (f1 p).kids p h cb=⟨1,p,h,atM (f1 p).kids ((d:Int) - 1),atM (f1 p).kids (d:Int),(d:Int),⟨#[]⟩,⟨#[]⟩,false,0,0⟩ from by
  rcases hcl with ⟨e,e2⟩ | ⟨hcn,hix⟩
  ·rw[e];exact insRec_end _ _ _ (by rw[hlen,←hb,e2];simp)
  ·exact insRec_at _ _ _ hcn (by rw[hix,hd]))
 have HIM:=zh (show (¬ (0:Int)≤cb∧Hid (b=0))∨∃ j:Nat,cb=(j:Int)∧Calls Tryz.prog 51 #[.pointer (some ⟨M,0,none⟩),.int .i64 (j:Int)] wc fun e w'=>e=.returned (.int .i64 (d:Int))∧w'=wc from by
  rcases hcl with ⟨e,e2⟩ | ⟨hcn,hix⟩
  ·exact .inl ⟨by omega,zh (by rw[←hb,e2];rfl)⟩
  ·obtain⟨j,hcj,hjm,hjg,hjp⟩:=Live.kid hwf1 hpm hg1p (hcin.resolve_left hcn);have:=rindex_any base M m _ f1 j wc hm1 hwf1 hjm hjg hm;rw[show indexM m f1 j=(d:Int) by unfold indexM;rw[if_neg (by omega),hjp,Int.toNat_natCast,←hcj,hix,hd]] at this
   exact .inr ⟨j,hcj,this⟩)
 have HPART:=zh (fun (W:World) (hmv:MV base W M (.slice (some ⟨g,0,none⟩) m c0) m f1)=>show TR W base 3 1 (.slice A5 d c5n) d (ints l1)∧TR W base 3 1 (.slice (if c5n=d then A5 else A5.map fun x=>x.add d) b (c5n - d)) b (ints l2) from by
  have hk:=hmv.kr p hpm;rw[hkv,hlen,hL] at hk;have a1:=hk.head (k:=d) (by omega);have a2:=hk.tail (k:=d) (by omega);rw[Nat.mul_one,ints_take,List.take_left' hd] at a1;rw[Nat.mul_one,ints_drop,List.drop_left' hd,Nat.add_sub_cancel_left] at a2;rw[show tailV (.slice A5 (d+b) c5n) d 1=.slice (if c5n=d then A5 else A5.map fun x=>x.add d) b (c5n - d) by unfold tailV;simp only[Nat.add_sub_cancel_left,Nat.mul_one]] at a2
  exact⟨a1,a2⟩)
 have HKD:=zh (fun (W:World) (hb:Below wc.heap.size wc W)=>show TR W base 3 1 (.slice A5 (d+b) c5n) (d+b) (ints (f1 p).kids) from by
  have hk:=(hm1.below hb).kr p hpm
  rw[hkv,hlen] at hk;exact hk)
 have HKL:=zh (show (f1 p).kids.length=(d+b) from hlen);have HINS:=zh (show Tr.insB (f1 p).kids cb (h:Int)=l1++(h:Int)::l2 from hinsB);have HLL:=zh (show l1.length=d∧l2.length=b from⟨hd,hb⟩);have HGH:=zh hg1h;have HGP:=zh hg1p;have HPH:=zh hph;have HMG:=zh hmg;have HGONE:=zh hgn;have HST:=zh hst;have HM1:=zh hm1;have HRO:=zh hro;have hdb:d+b≤100000:=by omega
 have d0:(0:Int)≤(d:Int):=by omega
 have hda:(d:Int)≤(c5n:Int):=by omega
 have hdn:(d:Int)≤((d+b:Nat):Int):=by omega
 have hdn2:(d:Int)≤(d:Int)+(b:Int):=by omega
 obtain⟨Ao,co,rfl⟩:=own_slice (own_zero hro);clear H hw hpg hhg hw1 hcin hph hL0 hup hg1p hg1h hwf1 hnz hle hL hinsB hcl hd hb hlen hA5 hc5n hkv hmg hgn hst hm1 hro HA HHc HWC HPA k0w hfr
 go_upto_if 84 with fail
 go_cut [12] from 13 (fun u W=>u=.int .i64 (d:Int)∧W=wc)
 case first=>
  rcases HIM.out with ⟨hn,hb0⟩ | ⟨j,rfl,HI⟩
  ·go_wp2_with fail;go_meet
   case rel=>exact⟨by rw[hb0.out];rfl,rfl⟩
  ·have qj:(0:Int)≤(j:Int):=by omega
   have HI:=zh HI;go_wp2_with fail;refine sameC HI.out ?_;go_wp2_with fail;go_meet
   case rel=>exact⟨rfl,rfl⟩
 case rest=>
 obtain⟨rfl,hwc2⟩:=hcut;obtain rfl:=hwc2.symm;clear HIM;have hm1:=HM1.out;have hro:=HRO.out;have hA1:=rat_any base (.slice A5 (d+b) c5n) (f1 p).kids ((d:Int) - 1) wc (by have:=HKD.out wc (Below.refl _ _);rw[HKL.out];exact this) (by constructor<;>omega) (by rw[HKL.out];omega);have hA2:=rat_any base (.slice A5 (d+b) c5n) (f1 p).kids (d:Int) wc (by have:=HKD.out wc (Below.refl _ _);rw[HKL.out];exact this) (by constructor<;>omega) (by rw[HKL.out];omega);obtain⟨X1,hX1⟩:∃ x,atM (f1 p).kids ((d:Int) - 1)=x:=⟨_,rfl⟩
 obtain⟨X2,hX2⟩:∃ x,atM (f1 p).kids (d:Int)=x:=⟨_,rfl⟩
 have e1:=hX1;have e2:=hX2;unfold atM at e1 e2;rw[e1] at hA1;rw[e2] at hA2;have HA1:=zh hA1;have HA2:=zh hA2;clear hA1 hA2;have HREC:=zh (show insRec (f1 p).kids p h cb=⟨1,p,h,X1,X2,(d:Int),⟨#[]⟩,⟨#[]⟩,false,0,0⟩ by
  rw[HIX.out,hX1,hX2])
 obtain⟨W2,hW2⟩:∃ W2,wc.alloc (.cells #[.int .i64 1,.int .i64 (p:Int),.int .i64 (h:Int),.int .i64 X1,.int .i64 X2,.int .i64 (d:Int),.string ⟨#[]⟩,.string ⟨#[]⟩,.bool false,.int .i64 0,.int .i64 0] 137)=W2:=⟨_,rfl⟩
 have hb12:Below wc.heap.size wc W2:=bzA hW2;have hrow2:RRow 0 W2 (.slice (some ⟨wc.heap.size,0,none⟩) 1 1) [insRec (f1 p).kids p h cb]:=by
  rw[HREC.out,←hW2];exact rrow_one wc ⟨1,p,h,X1,X2,(d:Int),⟨#[]⟩,⟨#[]⟩,false,0,0⟩ 0 (Nat.zero_le _)
 have hm2:=hm1.below hb12;have hro2:=hro.below hb12;have hsW2:w.heap.size≤W2.heap.size:=Nat.le_trans HST.out.1.size hb12.size;have HST2:=zh (HST.out.trans (.of_below hb12));have HMV2:=zh hm2;have HRO2:=zh hro2;clear e1 e2 hX1 hX2 hb12;go_wp2_with fail;refine sameC HA1.out ?_;go_wp2_with fail;refine sameC HA2.out ?_;clear HA1 HA2
 go_wp2_with (at_builtin;refine wpList_append_src rfl _ _ 89 rfl w.heap.size 0 137 j0 (.agg #[.int .i64 0,.int .i64 0,.int .i64 0,.int .i64 0,.int .i64 0,.int .i64 0,.string ⟨#[]⟩,.string ⟨#[]⟩,.bool false,.int .i64 0,.int .i64 0]) 11 104 Tryz.underlying89 hj0 hy0 hy1 hy2 rfl (by decide) _ L0.length (rcells L0) rfl hro2 _ 1 (rcells [insRec (f1 p).kids p h cb]) rfl hrow2 (rc_one _) ?cB1 ?cB2 hsW2 ?_)
 case cB1=>unfold maxLen;omega
 case cB2=>omega
 intro v3 W3 o3 g3 f3;have hm3:=HMV2.out.grown_rr HRO2.out g3;have o3':RRow w.heap.size W3 v3 (L0++[insRec (f1 p).kids p h cb]):=by
  unfold RRow;rw[List.length_append,rcells_append];exact o3
 have HST3:=zh (HST2.out.rr_grown HRO2.out (Nat.le_refl _) g3);have HRO3:=zh o3';have HMV3:=zh hm3;obtain⟨A3,c3,rfl⟩:=own_slice (own_zero o3);have hb3d:=below_drew1 W3.heap.size W3;have hbd3:Below W3.heap.size W3 W3.drew:=hb3d;have HK3:=zh (fun (W:World) (hb:Below W3.heap.size W3 W)=>(hm3.below hb));have HPP:=zh (fun (W:World) (hb:Below W3.heap.size W3 W)=>(HPART.out W (hm3.below hb)));have HS0:=zh ((hm3.below hbd3).rd hpm).1;have hgl:g<W3.heap.size:=(hm3.row.lt g rfl).2;have hMb3:base≤W3.heap.size:=by have:=hm3.low;have:=hm3.var.lt;omega
 clear hm2 hro2 hrow2 hm3 o3 o3' g3 f3 hm1 hro hW2;go_wp2_with fail;refine wp_region_noPanic ?_;refine wp_region_held_drew (S:=(fun W=>W.cell? ⟨M,0,none⟩=some (.slice (some ⟨g,0,none⟩) m c0))) (by kernel_rfl) ?_ (fun hHeld=>?_)
 ·exact HS0.out
 refine agE [0,1,2,3,4,6,7,8,10,13,14,15] ?_;iterate 12 (refine tkA ?_;try simp only[pS])
 refine agN ?_;refine jn5 (C:=fun (V:World) (A7:Option Addr) (c7 X Y:Nat)=>Below W3.heap.size W3 V∧TR V W3.heap.size 3 1 (.slice A7 d c7) d (ints l1)∧TR V W3.heap.size 3 1 (.slice (some ⟨X,0,none⟩) 1 1) 1 (ints [(h:Int)])) (T:=?T) (fun TAIL=>?_) ?_
 case refine_1=>
  refine wpAnyH_ready (rs:=[5,11]) (by kernel_rfl) (by simp) ?_;refine AllReadyH.cons rfl (fun K hK=>?_) (AllReadyH.cons rfl (fun K hK=>?_) AllReadyH.nil)
  ·
   obtain⟨V1,hV1⟩:∃ V,W3.drew.alloc (.cells #[] 3)=V:=⟨_,rfl⟩
   have hbn:Below W3.drew.heap.size W3.drew V1:=by rw[←hV1];exact (Below.refl _ W3.drew).alloc (Nat.le_refl _) _
   have hbV1:Below W3.heap.size W3 V1:=hbd3.trans (hbn.mono hbd3.size);have e5:TR V1 W3.heap.size 3 1 (.slice (some ⟨W3.drew.heap.size,0,none⟩) 0 0) 0 []:=by rw[←hV1];exact (empty_rowI W3.drew 3 1).lower hbd3.size
   go_simp;(try rw[hV1]);refine hK.out _ _ (((HK3.out _ hbV1).rd hpm).1) fun hHeld=>?_;clear hK K;(try simp only[pS]);refine wpAnyH_ready (rs:=[9,11]) (by kernel_rfl) (by simp) ?_;refine AllReadyH.cons rfl (fun K hK=>?_) (AllReadyH.cons rfl (fun K hK=>?_) AllReadyH.nil)
   ·
    refine step_append_tail rfl _ _ 31 rfl W3.heap.size 3 i0 (.int .i64 0) 1 8 Tryz.underlying31 hi0 hz0 hz1 hz2 rfl (by decide) _ 0 [] rfl e5 _ d (ints l1) rfl (HPP.out V1 hbV1).1.1 (HPP.out V1 hbV1).1.source (ints_one _) ?ca46 ?cb46 hbV1.size ?_
    case ca46=>unfold maxLen;omega
    case cb46=>omega
    intro v7 V2 o7 g7x f7;have g7:V1.grownBy V2 (Value.slice (some ⟨W3.drew.heap.size,0,none⟩) 0 0).ownBlock:=g7x;clear g7x;(try simp only[Nat.zero_add,List.nil_append] at o7);have hbV2:Below W3.heap.size W3 V2:=hbV1.grown g7 hbV1.size (fun jj hj=>(e5.lt jj hj).1);obtain⟨A7,c7,rfl⟩:=o7.form;refine hK.out _ _ (((HK3.out _ hbV2).rd hpm).1) fun hHeld=>?_;clear hK K;(try simp only[pS]);refine rd1 11 fun K hK=>?_;obtain⟨V3,hV3⟩:∃ V,V2.alloc (.cells #[.int .i64 (h:Int)] 3)=V:=⟨_,rfl⟩
    have hbn11:Below V2.heap.size V2 V3:=bzA hV3;have hbV3:Below W3.heap.size W3 V3:=hbV2.trans (hbn11.mono hbV2.size);have r11:TR V3 W3.heap.size 3 1 (.slice (some ⟨V2.heap.size,0,none⟩) 1 1) 1 (ints [(h:Int)]):=by
     rw[←hV3];exact (TR.of_own (World.ownsRow_lit (base:=V2.heap.size) (e:=3) (size:=1) V2 #[.int .i64 (h:Int)] 1 (Nat.le_refl _) (by unfold maxLen;omega) rfl)).lower hbV2.size
    go_simp;(try rw[hV3]);refine hK.out _ _ (((HK3.out _ hbV3).rd hpm).1) fun hHeld=>?_;clear hK K;(try simp only[pS]);have o7:=o7.below hbn11;obtain⟨X,hX⟩:∃ X,V2.heap.size=X:=⟨_,rfl⟩
    obtain⟨Y,hY⟩:∃ Y,W3.heap.size=Y:=⟨_,rfl⟩
    rw[hX,hY];exact TAIL.out _ _ _ X Y ⟨hbV3,o7,by rw[←hX];exact r11⟩
   ·
    obtain⟨V2,hV2⟩:∃ V,V1.alloc (.cells #[.int .i64 (h:Int)] 3)=V:=⟨_,rfl⟩
    have hbn11:Below V1.heap.size V1 V2:=bzA hV2;have hbV2:Below W3.heap.size W3 V2:=hbV1.trans (hbn11.mono hbV1.size);have r11:TR V2 W3.heap.size 3 1 (.slice (some ⟨V1.heap.size,0,none⟩) 1 1) 1 (ints [(h:Int)]):=by
     rw[←hV2];exact (TR.of_own (World.ownsRow_lit (base:=V1.heap.size) (e:=3) (size:=1) V1 #[.int .i64 (h:Int)] 1 (Nat.le_refl _) (by unfold maxLen;omega) rfl)).lower hbV1.size
    go_simp;(try rw[hV2]);refine hK.out _ _ (((HK3.out _ hbV2).rd hpm).1) fun hHeld=>?_;clear hK K;(try simp only[pS]);have e5:=e5.below hbn11;refine rd1 9 fun K hK=>?_;refine step_append_tail rfl _ _ 31 rfl W3.heap.size 3 i0 (.int .i64 0) 1 8 Tryz.underlying31 hi0 hz0 hz1 hz2 rfl (by decide) _ 0 [] rfl e5 _ d (ints l1) rfl (HPP.out V2 hbV2).1.1 (HPP.out V2 hbV2).1.source (ints_one _) ?ca49 ?cb49 hbV2.size ?_
    case ca49=>unfold maxLen;omega
    case cb49=>omega
    intro v7 V3 o7 g7x f7;have g7:V2.grownBy V3 (Value.slice (some ⟨W3.drew.heap.size,0,none⟩) 0 0).ownBlock:=g7x;clear g7x;(try simp only[Nat.zero_add,List.nil_append] at o7);have hbV3:Below W3.heap.size W3 V3:=hbV2.grown g7 hbV2.size (fun jj hj=>(e5.lt jj hj).1);obtain⟨A7,c7,rfl⟩:=o7.form;have r11:TR V3 W3.heap.size 3 1 _ 1 (ints [(h:Int)]):=r11.kept g7 (.inr (fun e=>by have ee:V1.heap.size=W3.drew.heap.size:=(by simpa [Value.ownBlock] using e);rw[←hV1,World.size_alloc] at ee;omega));refine hK.out _ _ (((HK3.out _ hbV3).rd hpm).1) fun hHeld=>?_;clear hK K;(try simp only[pS]);obtain⟨X,hX⟩:∃ X,V1.heap.size=X:=⟨_,rfl⟩
    obtain⟨Y,hY⟩:∃ Y,W3.heap.size=Y:=⟨_,rfl⟩
    rw[hX,hY];exact TAIL.out _ _ _ X Y ⟨hbV3,o7,by rw[←hX];exact r11⟩
  ·
   obtain⟨V1,hV1⟩:∃ V,W3.drew.alloc (.cells #[.int .i64 (h:Int)] 3)=V:=⟨_,rfl⟩
   have hbn11:Below W3.drew.heap.size W3.drew V1:=by rw[←hV1];exact (Below.refl _ W3.drew).alloc (Nat.le_refl _) _
   have hbV1:Below W3.heap.size W3 V1:=hbd3.trans (hbn11.mono hbd3.size);have r11:TR V1 W3.heap.size 3 1 (.slice (some ⟨W3.drew.heap.size,0,none⟩) 1 1) 1 (ints [(h:Int)]):=by
    rw[←hV1];exact (TR.of_own (World.ownsRow_lit (base:=W3.drew.heap.size) (e:=3) (size:=1) W3.drew #[.int .i64 (h:Int)] 1 (Nat.le_refl _) (by unfold maxLen;omega) rfl)).lower hbd3.size
   go_simp;(try rw[hV1]);refine hK.out _ _ (((HK3.out _ hbV1).rd hpm).1) fun hHeld=>?_;clear hK K;(try simp only[pS]);refine rd1 5 fun K hK=>?_;obtain⟨V2,hV2⟩:∃ V,V1.alloc (.cells #[] 3)=V:=⟨_,rfl⟩
   have hbn:Below V1.heap.size V1 V2:=bzA hV2;have hbV2:Below W3.heap.size W3 V2:=hbV1.trans (hbn.mono hbV1.size);have e5:TR V2 W3.heap.size 3 1 (.slice (some ⟨V1.heap.size,0,none⟩) 0 0) 0 []:=by rw[←hV2];exact (empty_rowI V1 3 1).lower hbV1.size
   go_simp;(try rw[hV2]);refine hK.out _ _ (((HK3.out _ hbV2).rd hpm).1) fun hHeld=>?_;clear hK K;(try simp only[pS]);have r11:=r11.below hbn;refine rd1 9 fun K hK=>?_;refine step_append_tail rfl _ _ 31 rfl W3.heap.size 3 i0 (.int .i64 0) 1 8 Tryz.underlying31 hi0 hz0 hz1 hz2 rfl (by decide) _ 0 [] rfl e5 _ d (ints l1) rfl (HPP.out V2 hbV2).1.1 (HPP.out V2 hbV2).1.source (ints_one _) ?ca52 ?cb52 hbV2.size ?_
   case ca52=>unfold maxLen;omega
   case cb52=>omega
   intro v7 V3 o7 g7x f7;have g7:V2.grownBy V3 (Value.slice (some ⟨V1.heap.size,0,none⟩) 0 0).ownBlock:=g7x;clear g7x;(try simp only[Nat.zero_add,List.nil_append] at o7);have hbV3:Below W3.heap.size W3 V3:=hbV2.grown g7 hbV2.size (fun jj hj=>(e5.lt jj hj).1);obtain⟨A7,c7,rfl⟩:=o7.form;have r11:TR V3 W3.heap.size 3 1 _ 1 (ints [(h:Int)]):=r11.kept g7 (.inr (fun e=>by have ee:W3.drew.heap.size=V1.heap.size:=(by simpa [Value.ownBlock] using e);rw[←hV1,World.size_alloc] at ee;omega));refine hK.out _ _ (((HK3.out _ hbV3).rd hpm).1) fun hHeld=>?_;clear hK K;(try simp only[pS]);obtain⟨X,hX⟩:∃ X,W3.heap.size=X:=⟨_,rfl⟩
   obtain⟨Y,hY⟩:∃ Y,V1.heap.size=Y:=⟨_,rfl⟩
   rw[hX,hY];exact TAIL.out _ _ _ X Y ⟨hbV3,o7,by rw[←hX];exact r11⟩
 intro V3 A7 c7 X Y ⟨hbV3,o7,r11⟩;have hHeld:=((HK3.out _ hbV3).rd hpm).1;refine rd1 12 fun K hK=>?_;have s11:=r11.source;have l11:=r11.1;refine step_append_tail rfl _ _ 31 rfl W3.heap.size 3 i0 (.int .i64 0) 1 8 Tryz.underlying31 hi0 hz0 hz1 hz2 rfl (by decide) _ d (ints l1) rfl o7 _ 1 (ints [(h:Int)]) rfl l11 s11 (ints_one _) ?ca47 ?cb47 hbV3.size ?_
 case ca47=>unfold maxLen;omega
 case cb47=>omega
 intro v8 V8 o8 g8 f8;rw[←ints_append] at o8;have hbV8:Below W3.heap.size W3 V8:=hbV3.grown g8 hbV3.size (fun jj hj=>(o7.lt jj hj).1);obtain⟨A8,c8,rfl⟩:=o8.form;refine hK.out _ _ (((HK3.out _ hbV8).rd hpm).1) fun hHeld=>?_;clear hK K;(try simp only[pS]);refine rd1 16 fun K hK=>?_;have hyb:=(HPP.out V8 hbV8).2.1;have s2:=(HPP.out V8 hbV8).2.source;refine step_append_tail rfl _ _ 31 rfl W3.heap.size 3 i0 (.int .i64 0) 1 8 Tryz.underlying31 hi0 hz0 hz1 hz2 rfl (by decide) _ (d+1) (ints (l1++[(h:Int)])) rfl o8 _ b (ints l2) rfl hyb s2 (ints_one _) ?ca48 ?cb48 hbV8.size ?_
 case ca48=>unfold maxLen;omega
 case cb48=>omega
 intro v9 V9 o9 g9 f9;rw[←ints_append] at o9;have hbV9:Below W3.heap.size W3 V9:=hbV8.grown g9 hbV8.size (fun jj hj=>(o8.lt jj hj).1);obtain⟨A9,c9,rfl⟩:=o9.form;have o9':TR V9 base 3 1 (Tr.Sl.v ⟨A9,d+1+b,c9⟩) (Tr.insB (f1 p).kids cb (h:Int)).length (ints (Tr.insB (f1 p).kids cb (h:Int))):=by
  rw[HINS.out,show l1++(h:Int)::l2=l1++[(h:Int)]++l2 from by simp];have e:(l1++[(h:Int)]++l2).length=d+1+b:=by rw[List.length_append,List.length_append,HLL.out.1,HLL.out.2];rfl
  rw[e];exact o9.lower hMb3
 obtain⟨_,fz,hcells,hm10,st10⟩:=HMV3.out.put_kids (sl:=⟨A9,d+1+b,c9⟩) (l':=Tr.insB (f1 p).kids cb (h:Int)) hpm (Below.refl _ W3) (gb_of_below hbV9 _) o9' (.inr fun k hk=>(o9.lt k hk).1);have hpc:=hcells p 5 hpm (by omega);rw[show (rsC (f1 p))[5]?=some ((f1 p).k.v) from rfl] at hpc;obtain⟨V10,hV10⟩:∃ V,V9.setCell ⟨g,p*7+5,none⟩ (.slice A9 (d+1+b) c9)=V:=⟨_,rfl⟩
 rw[show (Tr.Sl.v ⟨A9,d+1+b,c9⟩)=.slice A9 (d+1+b) c9 from rfl,hV10] at hm10 st10;have hS10:=(hm10.rd hpm).1;have hS9:=((HK3.out _ hbV9).rd hpm).1;obtain⟨k10,-,-,-,-,p10,-⟩:=hm10.rd hhm;have pf10:=hm10.fz (h*7+4);obtain⟨hm11,st11⟩:=hm10.put (j:=4) (v:=.int .i64 (p:Int)) hhm (by omega) (fun n=>{ n with pa:=p }) rfl ⟨rfl,rfl,rfl,rfl⟩;have HFIN:=zh (And.intro ((HRO3.out.step HMV3.out st10).step hm10 st11) (And.intro hm11 ((HST3.out.trans st10).trans st11)));clear hm10 st10 hm11 st11 hcells o9 o9' g9 f9 o8 g8 f8 o7 hyb s2 hbV8;refine hK.out _ _ (hS9) fun hHeld=>?_;clear hK K;(try simp only[pS]);refine agE [17,18] ?_;iterate 2 (refine tkA ?_;try simp only[pS])
 refine agN ?_;refine rd1 19 fun K hK=>?_;go_simp;(try rw[hV10]);refine hK.out _ _ (hS10) fun hHeld=>?_;clear hK K;(try simp only[pS]);refine dnH ?_;go_wp2_with fail;all_goals go_ret2
 all_goals
  refine⟨_,rfl,?_,_,HFIN.out.2.1,HFIN.out.2.2,?_,?_⟩
  ·rw[HKL1.out];exact HFIN.out.1
  ·exact mg_link2 HMG.out hhm HGH.out hpm HGP.out HPH.out
  ·intro jj;exact (keep_upd ⟨rfl,rfl,rfl,rfl⟩ jj).trans ((keep_upd ⟨rfl,rfl,rfl,rfl⟩ jj).trans (HGONE.out jj))
end
end Go.Proofs.YtaigmpkcdjbpiaaGreatDoor
