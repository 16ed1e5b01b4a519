/- Part of a proof about trees: NRg, NRf1, NRf2, NAtr, NElm, NIm3, NIm4, NNod, NKid, NRcl, NDee, NAwk. -/
import Derived.BigQuiet
import Derived.Deep.DrawnRows
import Derived.Deep.LoopGhost
import Derived.Deep.QuietTactic
import Derived.Deep.RegionHeld3
import Derived.Deep.RegionWith
import Derived.Lib.MinMax
import Derived.Lib.SliceRun
import Derived.Test.YtnbaadpgbcklaaaGreatDoorProg
import Derived.Test.YtnbaadpgbcklaaaGreatDoorGNIn4
import Derived.Test.YtnbaadpgbcklaaaGreatDoorGNRm2
set_option linter.unusedVariables false
set_option linter.unusedSimpArgs false
set_option linter.unusedSectionVars false
set_option maxHeartbeats 2000000
set_option maxRecDepth 100000
namespace Go.Proofs.YtnbaadpgbcklaaaGreatDoor
section
open Go Go.RowKit
def jX (x:RS):Tr.GN:=⟨x.kind,x.name,x.at',x.data,x.pa,x.kids⟩
def mg (m:Nat) (f:Nat→RS):Tr.G:=fun h=>if 0≤h∧h.toNat<m∧(f h.toNat).gone=false then some (jX (f h.toNat)) else none
section
variable {m:Nat} {f:Nat→RS}
theorem aQ {i:Nat} (hi:i<m) (hg:(f i).gone=false):mg m f (i:Int)=some (jX (f i)):=by
 unfold mg;rw[if_pos ⟨by omega,by simpa using hi,by simpa using hg⟩];simp
theorem Qm {i:Nat} (hg:(f i).gone=true):mg m f (i:Int)=none:=by
 unfold mg;rw[if_neg];rintro⟨_,_,h⟩;simp[hg] at h
theorem lQ {h:Int} {n:Tr.GN} (e:mg m f h=some n):∃ i:Nat,h=(i:Int)∧i<m∧(f i).gone=false∧n=jX (f i):=by
 unfold mg at e
 split at e
 ·rename_i hc;injection e with e;exact⟨h.toNat,by omega,hc.2.1,hc.2.2,e.symm⟩
 ·cases e
theorem jA {h:Int} (e:(mg m f h).isSome):∃ i:Nat,h=(i:Int)∧i<m∧(f i).gone=false∧mg m f h=some (jX (f i)):=by
 obtain⟨n,hn⟩:=Option.isSome_iff_exists.1 e;obtain⟨i,h1,h2,h3,h4⟩:=lQ hn;exact⟨i,h1,h2,h3,h4▸hn⟩
theorem lI {h:Int} (hh:h<0):mg m f h=none:=by
 unfold mg;rw[if_neg (by omega)]
theorem jR {i:Nat} (hi:i<m):(mg m f (i:Int)).isSome=!(f i).gone:=by
 cases e:(f i).gone with
 | true=>rw[Qm e];rfl
 | false=>rw[aQ hi e];rfl
def Live (m:Nat) (f:Nat→RS) (h:Int):Prop:=h = -1∨(mg m f h).isSome
theorem Live.pa (hw:Tr.WF (-1) (mg m f)) {i:Nat} (hi:i<m) (hg:(f i).gone=false):Live m f (f i).pa:=by
 rcases hw.pa (aQ hi hg) with h | ⟨p,h,_⟩
 ·exact .inl h
 ·exact .inr (by rw[show (f i).pa=(jX (f i)).pa from rfl,h];rfl)
theorem Live.kid (hw:Tr.WF (-1) (mg m f)) {i:Nat} (hi:i<m) (hg:(f i).gone=false) {k:Int} (hk:k∈(f i).kids):∃ j:Nat,k=(j:Int)∧j<m∧(f j).gone=false∧(f j).pa=(i:Int):=by
 obtain⟨n,h1,h2⟩:=hw.down _ _ k (aQ hi hg) hk;obtain⟨j,h3,h4,h5,h6⟩:=lQ h1;exact⟨j,h3,h4,h5,by rw[h6] at h2;exact h2⟩
theorem Live.up (hw:Tr.WF (-1) (mg m f)) {h:Int} {l:List Int} (u:Tr.Up (mg m f) h l) (hl:Live m f h):(h = -1∧l=[])∨∃ (i:Nat) (l':List Int),h=(i:Int)∧i<m∧(f i).gone=false∧l=h::l'∧Tr.Up (mg m f) (f i).pa l'∧Live m f (f i).pa:=by
 cases u with
 | out e=>
  rcases hl with h1 | h1
  ·exact .inl ⟨h1,rfl⟩
  ·rw[e] at h1;cases h1
 | @node _ n l' e u=>
  obtain⟨i,h1,h2,h3,h4⟩:=lQ e;refine .inr ⟨i,l',h1,h2,h3,rfl,?_,Live.pa hw h2 h3⟩;rw[h4] at u;exact u
end
def jl (m:Nat) (f:Nat→RS) (i:Nat):Int:=if (f i).pa<0 then -1 else ((f (f i).pa.toNat).kids.idxOf (i:Int):Nat)
end
section
open Go.RowKit
section
variable {base M m:Nat} {vs:Value} {f:Nat→RS} {w:World}
theorem MV.read {A:Option Addr} {c i:Nat} (h:MV base w M (.slice A m c) m f) (hi:i<m):∃ g,A=some ⟨g,0,none⟩∧w.cell? ⟨g,i*7,none⟩=some (.int .i64 (f i).kind)∧w.cell? ⟨g,i*7+1,none⟩=some (.string (f i).name)∧w.cell? ⟨g,i*7+2,none⟩=some (.slice (f i).a.a (f i).a.n (f i).a.c)∧w.cell? ⟨g,i*7+3,none⟩=some (.string (f i).data)∧w.cell? ⟨g,i*7+4,none⟩=some (.int .i64 (f i).pa)∧w.cell? ⟨g,i*7+5,none⟩=some (.slice (f i).k.a (f i).k.n (f i).k.c)∧w.cell? ⟨g,i*7+6,none⟩=some (.bool (f i).gone):=by
 obtain⟨g,rfl,_,_,_,hc⟩:=h.node (by omega);exact⟨g,rfl,(hc i 0 hi (by omega)).1,(hc i 1 hi (by omega)).1,(hc i 2 hi (by omega)).1,(hc i 3 hi (by omega)).1,(hc i 4 hi (by omega)).1,(hc i 5 hi (by omega)).1,(hc i 6 hi (by omega)).1⟩
theorem MV.kn (h:MV base w M vs m f) {i:Nat} (hi:i<m):(f i).k.n=(f i).kids.length:=by
 obtain⟨A,c,e⟩:=(h.kr i hi).form;unfold Tr.Sl.v at e;injection e
theorem MV.an (h:MV base w M vs m f) {i:Nat} (hi:i<m):(f i).a.n=(f i).at'.length:=by
 obtain⟨A,c,e⟩:=(h.ar i hi).form;unfold Tr.Sl.v at e;injection e
theorem MV.kid (h:MV base w M vs m f) {i j:Nat} (hi:i<m) {k:Int} (hj:(f i).kids[j]?=some k):∃ g o,(f i).k.a=some ⟨g,o,none⟩∧w.cell? ⟨g,o+j,none⟩=some (.int .i64 k):=by
 have hr:=h.kr i hi;have hlt:=(List.getElem?_eq_some_iff.1 hj).1;have e:(f i).k.v=.slice (f i).k.a (f i).kids.length (f i).k.c:=by unfold Tr.Sl.v;rw[h.kn hi]
 rw[e] at hr;obtain⟨g,o,hA,_,_,hc,_⟩:=hr.cells (by omega);exact⟨g,o,hA,hc j _ (by omega) (aY hj)⟩
end
theorem bW (base M m:Nat) (vs:Value) (f:Nat→RS) (i:Nat) (w:World) (h:MV base w M vs m f) (hi:i<m) (hm:m≤100000):
  Calls Tryz.prog 23 #[.pointer (some ⟨M,0,none⟩),.int .i64 (i:Int)] w fun e w'=>e=.returned (.bool (!(f i).gone))∧w'=w:=by
 obtain⟨A,c,rfl⟩:=h.form;obtain⟨k0,_⟩:=h.cell;obtain⟨g,rfl,_,_,_,_,_,_,c6⟩:=h.read hi;have q1:(0:Int)≤(i:Int):=by omega
 have q2:(i:Int)<(m:Int):=by omega
 clear h
 go_enter Tryz.func23,Tryz.ntmps23
 go_wp2_with fail
 go_ret
 exact⟨rfl,rfl⟩
theorem Bf (base M m:Nat) (vs:Value) (f:Nat→RS) (a b:Int) (w:World) (h:MV base w M vs m f) (hw:Tr.WF (-1) (mg m f)) (hb:Live m f b) (hm:m≤100000):
  Calls Tryz.prog 27 #[.pointer (some ⟨M,0,none⟩),.int .i64 a,.int .i64 b] w fun e w'=>e=.returned (.bool (decide (a∈Tr.dz (mg m f) b)))∧w'=w:=by
 obtain⟨A,c,rfl⟩:=h.form;have hu:=(hw.eO b).1;obtain⟨L,hL⟩:∃ L,Tr.dz (mg m f) b=L:=⟨_,rfl⟩
 rw[hL] at hu ⊢;clear hL;have HH:=zh h;have HW:=zh hw;have HU:=zh (And.intro hu hb);clear h hw hu hb
 go_enter Tryz.func27,Tryz.ntmps27
 go_wp2_with fail
 go_loopw [2] (fun v wr=>∃ (b':Int) (l1 l2:List Int),v=.int .i64 b'∧Hid (L=l1++l2)∧Hid (a∉l1)∧Hid (Tr.Up (mg m f) b' l2)∧Hid (Live m f b')∧wr=w) (fun v _=>(Tr.dz (mg m f) (intOf v)).length)
 case atStart=>exact⟨b,[],L,rfl,zh rfl,zh (by simp),zh HU.out.1,zh HU.out.2,rfl⟩
 case round=>
  obtain⟨b',l1,l2,rfl,H1,H2,H3,H4,rfl⟩:=hrel;rcases Live.up HW.out H3.out H4.out with ⟨e,e2⟩ | ⟨i,l',e,hi,hg,e2,hu',hl'⟩
  ·subst e;have hd:decide (a∈L)=false:=by rw[H1.out,e2,List.append_nil];exact decide_eq_false H2.out
   have HD:=zh hd;clear hd e2;go_wp2_with fail
   go_ret
   exact⟨fP HD.out.symm,rfl⟩
  ·subst e;obtain⟨k0,_⟩:=HH.out.cell;obtain⟨g,rfl,_,_,_,_,c4,_,_⟩:=HH.out.read hi;have q1:(0:Int)≤(i:Int):=by omega
   have q2:(i:Int)<(m:Int):=by omega
   by_cases ha:a=(i:Int)
   ·have ha2:(a == (i:Int))=true:=by simpa using ha
    have hd:decide (a∈L)=true:=by rw[H1.out,e2,ha];simp
    have HD:=zh hd;clear hd e2 hu' hl' ha;go_wp2_with fail
    go_ret
    exact⟨fP HD.out.symm,rfl⟩
   ·have ha2:(a == (i:Int))=false:=by simpa using ha
    have hm1:(Tr.dz (mg m f) (f i).pa).length<(Tr.dz (mg m f) (i:Int)).length:=by
     have h3:=H3.out;rw[HW.out.kL h3,HW.out.kL hu',e2];simp
    have HM:=zh hm1;have hr:L=(l1++[(i:Int)])++l'∧a∉l1++[(i:Int)]:=⟨by rw[H1.out,e2];simp,by simp;exact⟨H2.out,ha⟩⟩
    have HR:=zh hr;have WZ:=zh (And.intro hu' hl');clear hm1 hr hu' hl' e2 ha;go_wp2_with fail
    go_roundw
    case rel=>exact⟨(f i).pa,l1++[(i:Int)],l',rfl,zh HR.out.1,zh HR.out.2,zh WZ.out.1,zh WZ.out.2,trivial⟩
    case measure=>exact HM.out
theorem zo (base M m:Nat) (vs:Value) (f:Nat→RS) (b:Int) (w:World) (h:MV base w M vs m f) (hw:Tr.WF (-1) (mg m f)) (hb:Live m f b) (hm:m≤100000):
  Calls Tryz.prog 114 #[.pointer (some ⟨M,0,none⟩),.int .i64 b] w fun e w'=>e=.returned (.int .i64 ((Tr.dz (mg m f) b).length:Nat))∧w'=w:=by
 obtain⟨A,c,rfl⟩:=h.form;have hu:=(hw.eO b).1;have Oi:=(hw.eO b).2;obtain⟨L,hL⟩:∃ L,Tr.dz (mg m f) b=L:=⟨_,rfl⟩
 rw[hL] at hu Oi ⊢;clear hL;have HH:=zh h;have HW:=zh hw;have HU:=zh (And.intro hu hb);clear h hw hu hb
 go_enter Tryz.func114,Tryz.ntmps114
 go_wp2_with fail
 go_loopw [1,5] (fun v n wr=>∃ (b':Int) (l1 l2:List Int),v=.int .i64 b'∧n=.int .i64 (l1.length:Nat)∧Hid (L=l1++l2)∧Hid (Tr.Up (mg m f) b' l2)∧Hid (Live m f b')∧wr=w) (fun v _ _=>(Tr.dz (mg m f) (intOf v)).length)
 case atStart=>exact⟨b,[],L,rfl,rfl,zh rfl,zh HU.out.1,zh HU.out.2,rfl⟩
 case round=>
  obtain⟨b',l1,l2,rfl,rfl,H1,H3,H4,rfl⟩:=hrel;rcases Live.up HW.out H3.out H4.out with ⟨e,e2⟩ | ⟨i,l',e,hi,hg,e2,hu',hl'⟩
  ·subst e;have hd:(L.length:Int)=(l1.length:Nat):=by rw[H1.out,e2,List.append_nil]
   have HD:=zh hd;clear hd e2 Oi;go_wp2_with fail
   go_ret
   exact⟨kJ HD.out.symm,rfl⟩
  ·subst e;obtain⟨k0,_⟩:=HH.out.cell;obtain⟨g,rfl,_,_,_,_,c4,_,_⟩:=HH.out.read hi;have q1:(0:Int)≤(i:Int):=by omega
   have q2:(i:Int)<(m:Int):=by omega
   have q3:l1.length+1≤128:=by have:=congrArg List.length H1.out;rw[List.length_append,e2,List.length_cons] at this;omega
   have hm1:(Tr.dz (mg m f) (f i).pa).length<(Tr.dz (mg m f) (i:Int)).length:=by
    have h3:=H3.out;rw[HW.out.kL h3,HW.out.kL hu',e2];simp
   have HM:=zh hm1;have hr:L=(l1++[(i:Int)])++l':=by rw[H1.out,e2];simp
   have HR:=zh hr;have WZ:=zh (And.intro hu' hl');clear hm1 hr hu' hl' e2 Oi;go_wp2_with fail
   go_roundw
   case rel=>exact⟨(f i).pa,l1++[(i:Int)],l',rfl,by rw[List.length_append];rfl,zh HR.out,zh WZ.out.1,zh WZ.out.2,trivial⟩
   case measure=>exact HM.out
theorem qC (base M m:Nat) (vs:Value) (f:Nat→RS) (i:Nat) (w:World) (h:MV base w M vs m f) (hw:Tr.WF (-1) (mg m f)) (hi:i<m) (hg:(f i).gone=false) (hm:m≤100000):
  Calls Tryz.prog 95 #[.pointer (some ⟨M,0,none⟩),.int .i64 (i:Int)] w fun e w'=>e=.returned (.int .i64 (jl m f i))∧w'=w:=by
 obtain⟨A,c,rfl⟩:=h.form;have hl:=Live.pa hw hi hg;obtain⟨k0,_⟩:=h.cell;obtain⟨g,rfl,_,_,_,_,c4,_,_⟩:=h.read hi;have q1:(0:Int)≤(i:Int):=by omega
 have q2:(i:Int)<(m:Int):=by omega
 rcases hl with hp | hp
 ·have hr:jl m f i = -1:=by unfold jl;rw[if_pos (by omega)]
  rw[hr];rw[hp] at c4;clear h hr hw
  go_enter Tryz.func95,Tryz.ntmps95
  go_wp2_with fail
  go_ret
  exact⟨rfl,rfl⟩
 ·obtain⟨p,hp1,hp2,hp3,hp4⟩:=jA hp;have hmem:(i:Int)∈(f p).kids:=by
   rcases hw.pa (aQ hi hg) with h1 | ⟨n,h1,h2⟩
   ·exact absurd (show (f i).pa = -1 from h1) (by omega)
   ·rw[show (jX (f i)).pa=(p:Int) from hp1,aQ hp2 hp3] at h1;obtain rfl:=Option.some.inj h1;exact h2
  have hr:jl m f i=((f p).kids.idxOf (i:Int):Nat):=by unfold jl;rw[if_neg (by omega),hp1];rfl
  obtain⟨l1,l2,hL⟩:=List.append_of_mem hmem;have hnd:=hw.nodup _ _ (aQ hp2 hp3);have hno:(i:Int)∉l1:=by
   intro hx;have IZ:(f p).kids.Nodup:=hnd;rw[hL] at IZ;exact (List.nodup_append.1 IZ).2.2 _ hx _ (by simp) rfl
  rw[hr];have hix:(f p).kids.idxOf (i:Int)=l1.length:=by rw[hL,Tr.fq hno]
  rw[hix];rw[hp1] at c4;obtain⟨g2,e2,_,_,_,_,_,c5,_⟩:=h.read hp2;obtain rfl:g=g2:=by injection e2 with e2;injection e2
  have hkn:=h.kn hp2;have hlen:(f p).kids.length=l1.length+1+l2.length:=by rw[hL];simp;omega
  rw[hkn] at c5;have hkc:∀ j,j≤l1.length→∃ ga o,(f p).k.a=some ⟨ga,o,none⟩∧w.cell? ⟨ga,o+j,none⟩=some (.int .i64 ((f p).kids[j]?.getD 0)):=fun j hj=>by
   obtain⟨x,hx⟩:∃ x,(f p).kids[j]?=some x:=⟨(f p).kids[j]'(by omega),by simp⟩
   obtain⟨ga,o,e1,e2⟩:=h.kid hp2 hx;exact⟨ga,o,e1,by rw[hx];exact e2⟩
  obtain⟨ga,o,hA,_⟩:=hkc 0 (by omega);rw[hA] at c5;have hk2:∀ j,j<l1.length→∃ x,w.cell? ⟨ga,o+j,none⟩=some (.int .i64 x)∧(x == (i:Int))=false:=fun j hj=>by
   obtain⟨Te,o',e1,e2⟩:=hkc j (by omega);rw[hA] at e1;obtain⟨rfl,rfl⟩:ga=Te∧o=o':=by injection e1 with e1;injection e1 with a1 a2;exact⟨a1,a2⟩
   refine⟨_,e2,?_⟩;rw[hL,List.getElem?_append_left hj,List.getElem?_eq_getElem hj,Option.getD_some];exact beq_eq_false_iff_ne.2 fun e=>hno (e▸List.getElem_mem hj)
  have hk3:w.cell? ⟨ga,o+l1.length,none⟩=some (.int .i64 (i:Int)):=by
   obtain⟨Te,o',e1,e2⟩:=hkc l1.length (by omega);rw[hA] at e1;obtain⟨rfl,rfl⟩:ga=Te∧o=o':=by injection e1 with e1;injection e1 with a1 a2;exact⟨a1,a2⟩
   rw[e2,hL];simp
  obtain⟨n,hn⟩:∃ n,(f p).kids.length=n:=⟨_,rfl⟩
  obtain⟨d,hd⟩:∃ d,l1.length=d:=⟨_,rfl⟩
  rw[hn] at c5 hlen;rw[hd] at hlen hk2 hk3 ⊢;have p1:(0:Int)≤(p:Int):=by omega
  have p2:(p:Int)<(m:Int):=by omega
  have hdn:d<n:=by omega
  have hle:n≤100000:=by
   have:=(h.kr p hp2)
   rw[←hn];have h3:(f p).kids.length≤m:=by
    have hsub:∀ x∈(f p).kids.map Int.toNat,x<m:=fun x hx=>by
     obtain⟨y,hy,rfl⟩:=List.mem_map.1 hx;obtain⟨j,h4,h5,_⟩:=Live.kid hw hp2 hp3 hy;rw[h4];simpa using h5
    have Oj:((f p).kids.map Int.toNat).Nodup:=by
     have IZ:(f p).kids.Nodup:=hnd;rw[List.nodup_iff_pairwise_ne,List.pairwise_map];refine (List.pairwise_iff_forall_sublist.2 ?_);intro a b hab e;have ha:a∈(f p).kids:=hab.subset (by simp);have hb:b∈(f p).kids:=hab.subset (by simp);obtain⟨j,h4,_⟩:=Live.kid hw hp2 hp3 ha;obtain⟨j',h5,_⟩:=Live.kid hw hp2 hp3 hb;have:a=b:=by rw[h4,h5] at e ⊢;simp at e;rw[e]
     exact (List.pairwise_iff_forall_sublist.1 (List.nodup_iff_pairwise_ne.1 IZ)) hab this
    have:=pG m _ Oj hsub;simpa using this
   omega
  have HK:=zh hk2;clear h hw hr hkc hk2 hno hnd hmem hix hL hp hp4 hlen hn hd hA hkn
  go_enter Tryz.func95,Tryz.ntmps95
  go_wp2_with fail
  go_loopw [6] (fun v wr=>∃ j:Nat,v=.int .i64 (j:Int)∧j≤d∧wr=w) (fun v _=>d - (intOf v).toNat)
  case atStart=>exact⟨0,rfl,Nat.zero_le _,rfl⟩
  case round=>
   obtain⟨j,rfl,hj,rfl⟩:=hrel;have j1:(j:Int)<(n:Int):=by omega
   have j0:(0:Int)≤(j:Int):=by omega
   by_cases hjd:j=d
   ·subst hjd;go_wp2_with fail
    go_ret
    exact⟨rfl,rfl⟩
   ·obtain⟨x,hx,hxe⟩:=HK.out j (by omega);go_wp2_with fail
    go_roundw
    case rel=>exact⟨j+1,by go_num,by omega,trivial⟩
    case measure=>simp[intOf];omega
theorem vB (base:Nat) (v:Value) (l:List Int) (i:Int) (w:World) (h:TR w base 3 1 v l.length (ints l)) (hi:lU i) (hl:l.length≤100000):
  Calls Tryz.prog 116 #[v,.int .i64 i] w fun e w'=>e=.returned (.int .i64 (if i<0 then -1 else (l[i.toNat]?).getD (-1)))∧w'=w:=by
 obtain⟨A,c,rfl⟩:=h.form;by_cases h0:i<0
 ·rw[if_pos h0];clear h
  go_enter Tryz.func116,Tryz.ntmps116
  go_wp2_with fail
  go_ret
  exact⟨rfl,rfl⟩
 ·rw[if_neg h0];obtain⟨k,rfl⟩:∃ k:Nat,i=(k:Int):=⟨i.toNat,by omega⟩
  rw[Int.toNat_natCast];by_cases h1:k<l.length
  ·obtain⟨x,hx⟩:∃ x,l[k]?=some x:=⟨l[k],by simp⟩
   obtain⟨g,o,rfl,_,_,hc,_⟩:=h.cells (by omega);have hc':=hc k _ (by omega) (aY hx);rw[hx,Option.getD_some];obtain⟨n,hn⟩:∃ n,l.length=n:=⟨_,rfl⟩
   rw[hn] at h1 ⊢;have q1:(k:Int)<(n:Int):=by omega
   have q2:¬ (n:Int)≤(k:Int):=by omega
   clear h hc hx hn hl
   go_enter Tryz.func116,Tryz.ntmps116
   go_wp2_with fail
   go_ret
   exact⟨rfl,rfl⟩
  ·have hx:l[k]?=none:=by simp;omega
   rw[hx,Option.getD_none];obtain⟨n,hn⟩:∃ n,l.length=n:=⟨_,rfl⟩
   rw[hn] at h1 ⊢;have q2:(n:Int)≤(k:Int):=by omega
   clear h hx hn hl
   go_enter Tryz.func116,Tryz.ntmps116
   go_wp2_with fail
   go_ret
   exact⟨rfl,rfl⟩
end
section
open Go.RowKit
theorem lC {m:Nat} {f:Nat→RS} (hw:Tr.WF (-1) (mg m f)) {p:Nat} (hp:p<m) (hg:(f p).gone=false):(f p).kids.length≤m:=by
 have hsub:∀ x∈(f p).kids.map Int.toNat,x<m:=fun x hx=>by
  obtain⟨y,hy,rfl⟩:=List.mem_map.1 hx;obtain⟨j,h4,h5,_⟩:=Live.kid hw hp hg hy;rw[h4];simpa using h5
 have hnd:(f p).kids.Nodup:=hw.nodup _ _ (aQ hp hg);have Oj:((f p).kids.map Int.toNat).Nodup:=by
  rw[List.nodup_iff_pairwise_ne,List.pairwise_map];refine (List.pairwise_iff_forall_sublist.2 ?_);intro a b hab e;have ha:a∈(f p).kids:=hab.subset (by simp);have hb:b∈(f p).kids:=hab.subset (by simp);obtain⟨j,h4,_⟩:=Live.kid hw hp hg ha;obtain⟨j',h5,_⟩:=Live.kid hw hp hg hb;have:a=b:=by rw[h4,h5] at e ⊢;simp at e;rw[e]
  exact (List.pairwise_iff_forall_sublist.1 (List.nodup_iff_pairwise_ne.1 hnd)) hab this
 have:=pG m _ Oj hsub;simpa using this
theorem xO (base M m:Nat) (vs:Value) (f:Nat→RS) (hw:Tr.WF (-1) (mg m f)) (hm:m≤100000):∀ h,(mg m f h).isSome→∀ w,MV base w M vs m f→
  Calls Tryz.prog 115 #[.pointer (some ⟨M,0,none⟩),.int .i64 h] w fun e w'=>e=.returned (.int .i64 (Tr.gB (mg m f) h:Nat))∧w'=w:=by
 refine hw.induct ?_;intro h ih hs w H;obtain⟨i,rfl,hi,hg,W9⟩:=jA hs;have hle:=lC hw hi hg;obtain⟨A,c,rfl⟩:=H.form;have hr:Tr.gB (mg m f) (i:Int)=oQ (mg m f) (f i).kids+1:=hw.iF W9;have Ol:=hw.qz (i:Int);have hkn:=H.kn hi;obtain⟨n,hn⟩:∃ n,(f i).kids.length=n:=⟨_,rfl⟩
 rw[hn] at hkn hle;obtain⟨g0,rfl,-⟩:=H.read hi;have q1:(0:Int)≤(i:Int):=by omega
 have q2:(i:Int)<(m:Int):=by omega
 have HH:=zh H;have HI:=zh ih;have HR:=zh hr;have HB:=zh Ol;have HW:=zh hw;have HN:=zh hn;have Zc:=zh hkn;have hmono:∀ l l':List Int,oQ (mg m f) l≤oQ (mg m f) (l++l'):=fun l l'=>by
  unfold oQ;rw[List.map_append,List.foldl_append];exact (Tr.vL).1
 have ZN:=zh hmono;clear H ih hr Ol hw W9 hs hn hkn hmono
 go_enter Tryz.func115,Tryz.ntmps115
 go_wp2_with fail
 go_loopw [5,6] (fun v u wr=>∃ j:Nat,v=.int .i64 (oQ (mg m f) ((f i).kids.take j):Nat)∧u=.int .i64 (j:Int)∧j≤n∧wr=w) (fun _ u _=>n - (intOf u).toNat)
 case atStart=>exact⟨0,rfl,rfl,Nat.zero_le _,rfl⟩
 case round=>
  obtain⟨j,rfl,rfl,hj,rfl⟩:=hrel;have Ux:=HH.out;obtain⟨k0,_⟩:=Ux.cell;obtain⟨g,e0,_,_,_,_,_,c5,_⟩:=Ux.read hi;obtain rfl:g0=g:=by injection e0 with e0;injection e0
  rw[Zc.out] at c5;have hmx:oQ (mg m f) ((f i).kids.take j)≤129:=by
   have h1:=ZN.out ((f i).kids.take j) ((f i).kids.drop j);rw[List.take_append_drop] at h1;have:=HB.out;rw[HR.out] at this;omega
  have j0:(0:Int)≤(j:Int):=by omega
  by_cases hjn:j<n
  ·have j1:(j:Int)<(n:Int):=by omega
   obtain⟨k,hk⟩:∃ k,(f i).kids[j]?=some k:=⟨(f i).kids[j]'(by rw[HN.out];exact hjn),by simp⟩
   obtain⟨ga,o,hA,ck⟩:=Ux.kid hi hk;rw[hA] at c5;have hkm:k∈(f i).kids:=List.mem_of_getElem? hk;obtain⟨i',hki,hi',hg',_⟩:=Live.kid HW.out hi hg hkm;have hcall:=HI.out _ (aQ hi hg) k hkm (by rw[hki,jR hi',hg'];rfl) wr Ux;have htk:(f i).kids.take (j+1)=(f i).kids.take j++[k]:=by
    rw[List.take_add_one,hk];rfl
   have Qn:oQ (mg m f) ((f i).kids.take (j+1))=max (oQ (mg m f) ((f i).kids.take j)) (Tr.gB (mg m f) k):=by rw[htk,Co]
   have Xa:=HW.out.qz k;obtain⟨H1,hH1⟩:∃ x,Tr.gB (mg m f) k=x:=⟨_,rfl⟩
   obtain⟨H0,hH0⟩:∃ x,oQ (mg m f) ((f i).kids.take j)=x:=⟨_,rfl⟩
   rw[hH1] at hcall Qn Xa;rw[hH0] at hmx Qn ⊢;have HX:=zh Qn;have HC:=zh hcall;clear hcall Qn htk Ux hk hkm hki hH1 hH0 hA;go_wp2_with fail;refine HC.out.mono ?_;rintro e w2 ⟨rfl,hw2⟩;obtain rfl:=hw2.symm;clear HC;go_wp2_with fail
   go_roundw
   case rel=>exact⟨j+1,by rw[HX.out];first | rfl | (congr 1;omega) | (simp;omega),by go_num,by omega,trivial⟩
   case measure=>simp[intOf];omega
  ·have sJ:j=n:=by omega
   subst sJ;have htk:(f i).kids.take j=(f i).kids:=by rw[List.take_of_length_le];rw[HN.out];exact Nat.le_refl _
   have hR2:Tr.gB (mg m f) (i:Int)=oQ (mg m f) ((f i).kids.take j)+1:=by rw[htk];exact HR.out
   obtain⟨H0,hH0⟩:∃ x,oQ (mg m f) ((f i).kids.take j)=x:=⟨_,rfl⟩
   rw[hH0] at hmx hR2 ⊢;have HR2:=zh hR2;clear htk hR2 Ux hH0;go_wp2_with fail
   go_ret
   exact⟨kJ (by rw[HR2.out];omega),rfl⟩
def jK (m:Nat) (f:Nat→RS) (p h:Nat):Bool:=
 if h=0∨(h:Int)∈Tr.dz (mg m f) (p:Int) then false else if (f p).kind=2 then true else if p≠0∨(f h).kind=3 then false else !((f 0).kids.any fun k=>k != (h:Int) && (f k.toNat).kind == 2 && (f h).kind == 2)
theorem uJ (base M m:Nat) (vs:Value) (f:Nat→RS) (p h:Nat) (w:World) (H:MV base w M vs m f) (hw:Tr.WF (-1) (mg m f)) (hp:p<m) (hpg:(f p).gone=false) (hh:h<m) (Ib:(f 0).gone=false) (hm:m≤100000):
  Calls Tryz.prog 113 #[.pointer (some ⟨M,0,none⟩),.int .i64 (p:Int),.int .i64 (h:Int)] w fun e w'=>e=.returned (.bool (jK m f p h))∧w'=w:=by
 obtain⟨A,c,rfl⟩:=H.form;have hcon:=Bf base M m (.slice A m c) f (h:Int) (p:Int) w H hw (.inr (by rw[jR hp,hpg];rfl)) hm;obtain⟨k0,_⟩:=H.cell;obtain⟨g,rfl,cp,_⟩:=H.read hp;obtain⟨g2,e2,ch,_⟩:=H.read hh;obtain rfl:g=g2:=by injection e2 with e2;injection e2
 have p0:(0:Int)≤(p:Int):=by omega
 have p1:(p:Int)<(m:Int):=by omega
 have h0:(0:Int)≤(h:Int):=by omega
 have h1:(h:Int)<(m:Int):=by omega
 have m0:(0:Int)<(m:Int):=by omega
 obtain⟨r,hr⟩:∃ r,jK m f p h=r:=⟨_,rfl⟩
 have hr':=hr;unfold jK at hr';rw[hr];by_cases hz:h=0
 ·rw[if_pos (.inl hz)] at hr';subst hz hr';have hq:(((0:Nat):Int) == 0)=true:=rfl;clear H hw hcon hr
  go_enter Tryz.func113,Tryz.ntmps113
  go_wp2_with fail
  go_ret
  exact⟨rfl,rfl⟩
 ·have hq:((h:Int) == 0)=false:=by rw[beq_eq_false_iff_ne];omega
  by_cases hu:(h:Int)∈Tr.dz (mg m f) (p:Int)
  ·rw[if_pos (.inr hu)] at hr';rw[decide_eq_true hu] at hcon;subst hr';have HC:=zh hcon;clear H hw hcon hr hu hz
   go_enter Tryz.func113,Tryz.ntmps113
   go_wp2_with fail;refine HC.out.mono ?_;rintro e w2 ⟨rfl,hw2⟩;obtain rfl:=hw2.symm;go_wp2_with fail
   go_ret
   exact⟨rfl,rfl⟩
  ·rw[if_neg (fun x=>x.elim hz hu)] at hr';rw[decide_eq_false hu] at hcon;have HC:=zh hcon;clear hcon hu hz;by_cases hk2:(f p).kind=2
   ·rw[if_pos hk2] at hr';rw[hk2] at cp;subst hr';clear H hw hr hk2
    go_enter Tryz.func113,Tryz.ntmps113
    go_wp2_with fail;refine HC.out.mono ?_;rintro e w2 ⟨rfl,hw2⟩;obtain rfl:=hw2.symm;go_wp2_with fail
    go_ret
    exact⟨rfl,rfl⟩
   ·rw[if_neg hk2] at hr';obtain⟨kp,hkp⟩:∃ kp,(f p).kind=kp:=⟨_,rfl⟩
    rw[hkp] at cp hk2;have aaY:(kp == 2)=false:=by simpa using hk2
    by_cases hpz:p=0
    ·have hpq:((p:Int) != 0)=false:=by rw[hpz];rfl
     by_cases hk3:(f h).kind=3
     ·rw[if_pos (.inr hk3)] at hr';rw[hk3] at ch;subst hr';clear H hw hr hk2 hk3 hkp hpz
      go_enter Tryz.func113,Tryz.ntmps113
      go_wp2_with fail;refine HC.out.mono ?_;rintro e w2 ⟨rfl,hw2⟩;obtain rfl:=hw2.symm;go_wp2_with fail
      go_ret
      exact⟨rfl,rfl⟩
     ·rw[if_neg (fun x=>x.elim (fun e=>e hpz) hk3)] at hr';obtain⟨kh,hkh⟩:∃ kh,(f h).kind=kh:=⟨_,rfl⟩
      rw[hkh] at ch hk3 hr';have aaZ:(kh == 3)=false:=by simpa using hk3
      have hm0:0<m:=by omega
      obtain⟨g3,e3,_,_,_,_,_,c5,_⟩:=H.read hm0;obtain rfl:g=g3:=by injection e3 with e3;injection e3
      have hkn:=H.kn hm0;have hle:=lC hw hm0 Ib;obtain⟨n,hn⟩:∃ n,(f 0).kids.length=n:=⟨_,rfl⟩
      rw[hkn,hn] at c5;rw[hn] at hle;have c5':w.cell? ⟨g,5,none⟩=some (.slice (f 0).k.a n (f 0).k.c):=by have:=c5;rwa [Nat.zero_mul,Nat.zero_add] at this
      have HH:=zh H;have HW:=zh hw;have HR:=zh hr';have HN:=zh hn;have HG:=zh Ib;clear H hw hr hr' hn hk2 hk3 hkp hpz hkn c5 Ib
      go_enter Tryz.func113,Tryz.ntmps113
      go_wp2_with fail;refine HC.out.mono ?_;rintro e w2 ⟨rfl,hw2⟩;obtain rfl:=hw2.symm;go_wp2_with fail
      go_loopw [7,8] (fun v u wr=>∃ j:Nat,v=.int .i64 (j:Int)∧j≤n∧Hid (((f 0).kids.take j).any (fun k=>k != (h:Int) && (f k.toNat).kind == 2 && kh == 2)=false)∧wr=w) (fun v _ _=>n - (intOf v).toNat)
      case atStart=>exact⟨0,rfl,Nat.zero_le _,zh (by simp),rfl⟩
      case round=>
       obtain⟨j,rfl,hj,HT,rfl⟩:=hrel;have j0:(0:Int)≤(j:Int):=by omega
       by_cases hjn:j<n
       ·have j1:(j:Int)<(n:Int):=by omega
        obtain⟨k,hk⟩:∃ k,(f 0).kids[j]?=some k:=⟨(f 0).kids[j]'(by rw[HN.out];exact hjn),by simp⟩
        obtain⟨ga,o,hA,ck⟩:=HH.out.kid hm0 hk;rw[hA] at c5';obtain⟨i',hki,hi',_⟩:=Live.kid HW.out hm0 HG.out (List.mem_of_getElem? hk);subst hki;obtain⟨g4,e4,Xb,_⟩:=HH.out.read hi';obtain rfl:g=g4:=by injection e4 with e4;injection e4
        have i0:(0:Int)≤(i':Int):=by omega
        have i1:(i':Int)<(m:Int):=by omega
        have htk:∀ b,((i':Int) != (h:Int) && (f i').kind == 2 && kh == 2)=b→(((f 0).kids.take (j+1)).any fun k=>k != (h:Int) && (f k.toNat).kind == 2 && kh == 2)=b:=fun b e=>by
         rw[List.take_add_one,hk,List.any_append,HT.out];simpa using e
        have hfull:∀ l,(f 0).kids=(f 0).kids.take (j+1)++l→(((f 0).kids.take (j+1)).any fun k=>k != (h:Int) && (f k.toNat).kind == 2 && kh == 2)=true→r=false:=fun l e ht=>by
         rw[←HR.out,e,List.any_append,ht];rfl
        obtain⟨kk,hkk⟩:∃ x,(f i').kind=x:=⟨_,rfl⟩
        rw[hkk] at Xb htk;have Q5:=zh htk;have HF:=zh (hfull _ (List.take_append_drop (j+1) _).symm);clear hk hA htk hfull hkk;by_cases a1:(i':Int)=(h:Int)
        ·have b1:((i':Int) != (h:Int))=false:=by simpa using a1
         have JC:=zh (Q5.out false (by rw[b1];rfl));clear a1;go_wp2_with fail
         go_roundw
         case rel=>exact⟨j+1,by go_num,by omega,JC,trivial⟩
         case measure=>simp[intOf];omega
        ·have b1:((i':Int) != (h:Int))=true:=by simpa using a1
         by_cases a2:kk=2
         ·have b2:(kk == 2)=true:=by simpa using a2
          by_cases a3:kh=2
          ·have b3:(kh == 2)=true:=by simpa using a3
           have hrf:r=false:=HF.out (Q5.out true (by rw[b1,b2,b3];rfl));subst hrf;clear a1 a2 a3;go_wp2_with fail
           go_ret
           exact⟨rfl,rfl⟩
          ·have b3:(kh == 2)=false:=by simpa using a3
           have JC:=zh (Q5.out false (by rw[b3];simp));clear a1 a2 a3;go_wp2_with fail
           go_roundw
           case rel=>exact⟨j+1,by go_num,by omega,JC,trivial⟩
           case measure=>simp[intOf];omega
         ·have b2:(kk == 2)=false:=by simpa using a2
          have JC:=zh (Q5.out false (by rw[b2];simp));clear a1 a2;go_wp2_with fail
          go_roundw
          case rel=>exact⟨j+1,by go_num,by omega,JC,trivial⟩
          case measure=>simp[intOf];omega
       ·have sJ:j=n:=by omega
        subst sJ;have hrt:r=true:=by
         have h2:=HT.out;rw[List.take_of_length_le (by rw[HN.out];exact Nat.le_refl _)] at h2;rw[←HR.out,h2];rfl
        subst hrt;go_wp2_with fail
        go_ret
        exact⟨rfl,rfl⟩
    ·have hpq:((p:Int) != 0)=true:=by rw[bne_iff_ne];omega
     rw[if_pos (.inl hpz)] at hr';subst hr';clear H hw hr hk2 hkp hpz
     go_enter Tryz.func113,Tryz.ntmps113
     go_wp2_with fail;refine HC.out.mono ?_;rintro e w2 ⟨rfl,hw2⟩;obtain rfl:=hw2.symm;go_wp2_with fail
     go_ret
     exact⟨rfl,rfl⟩
end
section
open Go.RowKit
theorem su:(Tryz.prog.info? 95).map (fun i=>(i.zero,i.size,i.bytes))=some (some (.agg #[.string ⟨#[]⟩,.string ⟨#[]⟩]),2,32):=by kernel_rfl
abbrev AR (w:World) (base:Nat) (v:Value) (l:List (ByteArray×ByteArray)):Prop:=TR w base 95 2 v l.length (fM l)
def AT (w:World) (g:Tr.G) (av:Int→Tr.Sl):Prop:=∀ h n,g h=some n→AR w 0 (av h).v n.attrs
section
variable {base B n live:Nat} {b s root:Int} {vs vf:Value} {R:Int→Option Tr.Nd} {fr:List Nat} {w w1 w':World} {g g':Tr.G} {av dV:Int→Tr.Sl}
theorem TV.Om {b2 size m:Nat} {e:TypeId} {v:Value} {xs:List Value} (hM:TV base w B b s vs n R vf fr live root) (h:TR w b2 e size v m xs) (h1:e≠83) (h2:e≠158) (h3:e≠3):∀ k,v.ownBlock=some k→¬ aD B vs vf k:=by
 rintro k hk (rfl | hx | hx)
 ·exact h.unlike hM.var h1 hk
 ·exact dL h hM.row h2 k hx hk
 ·exact dL h hM.free h3 k hx hk
theorem TR.nK {b2 size m:Nat} {e:TypeId} {v:Value} {xs:List Value} {F':Nat→Prop} (h:TR w b2 e size v m xs) (hM:TV base w B b s vs n R vf fr live root) (st:ay w w' (aD B vs vf) F') (h1:e≠83) (h2:e≠158) (h3:e≠3):TR w' b2 e size v m xs:=
 h.turns st.1 (hM.Om h h1 h2 h3)
theorem AT.step {F':Nat→Prop} (h:AT w g av) (hM:TV base w B b s vs n R vf fr live root) (st:ay w w' (aD B vs vf) F'):AT w' g av:=
 fun x m e=>(h x m e).nK hM st (by decide) (by decide) (by decide)
theorem AT.below (h:AT w g av) (hb:Below w.heap.size w w'):AT w' g av:=fun x m e=>(h x m e).below hb
theorem AT.turns {S:Nat→Prop} (h:AT w g av) (ht:Turns S w w') (hn:∀ x m,g x=some m→∀ k,(av x).v.ownBlock=some k→¬ S k):AT w' g av:=fun x m e=>(h x m e).turns ht (hn x m e)
theorem AT.same (h:AT w g av) (hs:∀ x m',g' x=some m'→∃ m,g x=some m∧m.attrs=m'.attrs):AT w g' av:=fun x m' e=>by
 obtain⟨m,e1,e2⟩:=hs x m' e;rw[←e2];exact h x m e1
theorem AT.put {h:Int} {sl:Tr.Sl} {u:Tr.GN→Tr.GN} (ha:AT w g av) (hr:∀ m,g h=some m→AR w 0 sl.v (u m).attrs):AT w (Tr.dD g h u) (Tr.fC av h sl):=fun x m' e=>by
 unfold Tr.dD at e;by_cases hx:x=h
 ·subst hx;rw[if_pos rfl] at e;cases em:g x with
  | none=>rw[em] at e;cases e
  | some m=>rw[em] at e;obtain rfl:=Option.some.inj e;rw[Tr.kW];exact hr m em
 ·rw[if_neg hx] at e;rw[Tr.uU hx];exact ha x m' e
end
theorem qK (v:Value) (l:List (ByteArray×ByteArray)) (w:World) (h:AR w 0 v l) (hl:l.length≤1000):
  Calls Tryz.prog 66 #[v] w fun e w'=>∃ v',e=.returned v'∧AR w' w.heap.size v' l∧Below w.heap.size w w':=by
 obtain⟨i0,hi0,hz0,hz1,hz2⟩:=info_parts su;obtain⟨A,c,rfl⟩:=h.form;have hcmp:∀ (w:World) (a:Option Addr) (n c:Nat),(binOp .eql 40 (.slice a n c) (.slice none 0 0)).run Tryz.prog w=.ok (.bool a.isNone) w:=fun w a n c=>Lib.run_eql_slice_nil w _ _ a n c 0 0 Tryz.underlying40
 go_enter Tryz.func66,Tryz.ntmps66
 cases A with
 | none=>
  have hn:l.length=0:=by
   rcases h.addr with ⟨_,hx,_⟩ | ⟨g,off,hv⟩
   ·exact hx
   ·cases hv
  have hx:l=[]:=List.eq_nil_of_length_eq_zero hn;subst hx;clear hn h;go_wp2_with fail
  go_ret
  exact⟨_,rfl,TR.nil _ _ _ _,Below.refl _ w⟩
 | some a=>
  have e1:TR (w.alloc (.cells #[] 95)) w.heap.size 95 2 (.slice (some ⟨w.heap.size,0,none⟩) 0 0) 0 []:=by
   have h:=World.ownsRow_lit (base:=w.heap.size) (e:=95) (size:=2) w #[] 0 (Nat.le_refl _) (Nat.zero_le _) rfl;exact .jJ (by simpa using h)
  have hb1:=(Below.refl _ w).alloc (Nat.le_refl _) (.cells #[] 95);have s1:=(h.below hb1).source
  go_wp2_with (at_builtin;refine bK rfl _ _ 40 rfl w.heap.size 95 i0 (.agg #[.string ⟨#[]⟩,.string ⟨#[]⟩]) 2 32 Tryz.underlying40 hi0 hz0 hz1 hz2 rfl (by decide) _ 0 [] rfl e1 _ l.length (fM l) rfl (qG l) s1 (gN l) ?c3 ?c4 hb1.size ?_)
  case c3=>unfold maxLen;omega
  case c4=>omega
  intro v2 w2 o2 g2 _;have hb2:Below w.heap.size w w2:=hb1.grown g2 hb1.size (fun j hj=>by simp[Value.ownBlock] at hj;omega);(try simp only[Nat.zero_add,List.nil_append] at o2);go_wp2_with fail
  go_ret
  exact⟨_,rfl,o2,hb2⟩
theorem UQ {v:Value} {w:World} {base size n:Nat} {e:TypeId} {xs:List Value} (h:TR w base e size v n xs):∃ sl:Tr.Sl,v=sl.v∧sl.n=n:=by
 obtain⟨A,c,rfl⟩:=h.form;exact⟨⟨A,n,c⟩,rfl,rfl⟩
end
section
open Go.RowKit
def eX (g:Tr.G) (h:Int):Int:=match g h with | none=>6 | some n=>if n.kind=2 then 0 else 10
theorem iO (base B:Nat) (b s root h:Int) (live n:Nat) (g:Tr.G) (av:Int→Tr.Sl) (fr:List Nat) (vs vf:Value) (w:World) (hm:TV base w B b s vs n (Tr.raw g av) vf fr live root) (hS:Sound b s n (Tr.raw g av) fr live) (hh:lU h) (hk:∀ x m,g x=some m→m.kind≠0):
  Calls Tryz.prog 76 #[.pointer (some ⟨B,0,none⟩),.int .i64 h] w fun e w'=>e=.returned (.int .i64 (eX g h))∧Below w.heap.size w w':=by
 have hA:=jO base B b s root h live n _ fr vs vf w hm hS hh;cases eg:g h with
 | none=>
  rw[Tr.aV eg] at hA;have hr:eX g h=6:=by unfold eX;rw[eg]
  rw[hr]
  go_enter Tryz.func76,Tryz.ntmps76
  go_wp2_with fail;refine hA.mono ?_;rintro e w1 ⟨gb,o,rfl,hnp,hb⟩;have c0:w1.cell? ⟨gb,o,none⟩=some (.int .i64 0):=hnp.cells.1;clear hm hA hnp;go_wp2_with fail
  go_ret
  exact⟨rfl,hb⟩
 | some m=>
  rw[Tr.ah eg] at hA;have hk0:=hk h m eg;have q0:(m.kind == 0)=false:=cK hk0;by_cases hk2:m.kind=2
  ·have q2:(m.kind == 2)=true:=BM hk2;have hr:eX g h=0:=by unfold eX;rw[eg];exact if_pos hk2
   rw[hr]
   go_enter Tryz.func76,Tryz.ntmps76
   go_wp2_with fail;refine hA.mono ?_;rintro e w1 ⟨gb,o,rfl,hnp,hb⟩;have c0:w1.cell? ⟨gb,o,none⟩=some (.int .i64 m.kind):=hnp.cells.1;clear hm hA hnp hk2;go_wp2_with fail
   go_ret
   exact⟨rfl,hb⟩
  ·have q2:(m.kind == 2)=false:=cK hk2;have hr:eX g h=10:=by unfold eX;rw[eg];exact if_neg hk2
   rw[hr]
   go_enter Tryz.func76,Tryz.ntmps76
   go_wp2_with fail;refine hA.mono ?_;rintro e w1 ⟨gb,o,rfl,hnp,hb⟩;have c0:w1.cell? ⟨gb,o,none⟩=some (.int .i64 m.kind):=hnp.cells.1;clear hm hA hnp hk2;go_wp2_with fail
   go_ret
   exact⟨rfl,hb⟩
def oZ (l:List (ByteArray×ByteArray)) (nm:ByteArray):Nat:=l.findIdx fun p=>p.1.toList == nm.toList
def yg (l:List (ByteArray×ByteArray)) (nm:ByteArray):Int:=if oZ l nm<l.length then (oZ l nm:Nat) else -1
theorem Oo (l:List (ByteArray×ByteArray)) (nm:ByteArray):oZ l nm≤l.length:=List.findIdx_le_length
theorem Gm {l:List (ByteArray×ByteArray)} {nm:ByteArray} {k:Nat} {p:ByteArray×ByteArray} (hp:l[k]?=some p) (hk:k≤oZ l nm):((p.1.toList == nm.toList)=true→oZ l nm=k)∧((p.1.toList == nm.toList)=false→k+1≤oZ l nm):=by
 obtain⟨hlt,he⟩:=List.getElem?_eq_some_iff.1 hp;constructor
 ·intro h;have:oZ l nm≤k:=by
   refine Nat.le_of_not_lt fun hc=>?_;have:=List.not_of_lt_findIdx (p:=fun p:ByteArray×ByteArray=>p.1.toList == nm.toList) (xs:=l) hc;rw[he] at this;rw[h] at this;exact absurd this (by simp)
  omega
 ·intro h;by_cases e:k=oZ l nm
  ·exfalso;have hlt2:l.findIdx (fun p=>p.1.toList == nm.toList)<l.length:=by have e':k=l.findIdx (fun p=>p.1.toList == nm.toList):=e;omega
   have:=List.findIdx_getElem (p:=fun p:ByteArray×ByteArray=>p.1.toList == nm.toList) (xs:=l) (w:=hlt2);have e2:l[l.findIdx (fun p=>p.1.toList == nm.toList)]=p:=by
    have:l.findIdx (fun p=>p.1.toList == nm.toList)=k:=e.symm;simp only[this];exact he
   rw[e2] at this;rw[h] at this;cases this
  ·omega
theorem AR.at {w:World} {base:Nat} {A:Option Addr} {c n:Nat} {l:List (ByteArray×ByteArray)} (h:TR w base 95 2 (.slice A n c) l.length (fM l)) {k:Nat} {p:ByteArray×ByteArray} (hp:l[k]?=some p):
  ∃ g o,A=some ⟨g,o,none⟩∧n=l.length∧w.cell? ⟨g,o+k*2,none⟩=some (.string p.1)∧w.cell? ⟨g,o+k*2+1,none⟩=some (.string p.2):=by
 have hlt:=(List.getElem?_eq_some_iff.1 hp).1;obtain⟨A',c',e⟩:=h.form;injection e with e1 e2 e3;subst e1 e2 e3;obtain⟨g,o,hA,_,_,hc,_⟩:=h.cells (by omega);exact⟨g,o,hA,rfl,hc _ _ (by omega) (gH l k p hp).1,by rw[Nat.add_assoc];exact hc _ _ (by omega) (gH l k p hp).2⟩
theorem LD (a v nm:ByteArray) (nb:Nat) (w:World) (hb:w.cell? ⟨nb,0,none⟩=some (.string nm)) (hlt:nb<w.heap.size):
  Calls Tryz.prog 134 #[.agg #[.string a,.string v],.pointer (some ⟨nb,0,none⟩)] w fun e w'=>e=.returned (.bool (a.toList == nm.toList))∧Below w.heap.size w w':=by
 have hB:=(Below.refl _ w).alloc (Nat.le_refl _) (.cells #[.string a,.string v] 95);have c1:=hB.cell (p:=⟨nb,0,none⟩) hlt;rw[hb] at c1
 go_enter Tryz.func134,Tryz.ntmps134
 go_wp2_with fail
 go_ret
 exact⟨rfl,hB⟩
theorem LG (v:Value) (l:List (ByteArray×ByteArray)) (nm:ByteArray) (nb:Nat) (w:World) (h:AR w 0 v l) (hl:l.length≤1000) (hb:w.cell? ⟨nb,0,none⟩=some (.string nm)) (hlt:nb<w.heap.size):
  Calls Tryz.prog 133 #[v,.func (.func 134) #[] #[.pointer (some ⟨nb,0,none⟩)]] w fun e w'=>e=.returned (.int .i64 (yg l nm))∧Below w.heap.size w w':=by
 obtain⟨A,c,rfl⟩:=h.form;obtain⟨n,hn⟩:∃ n,l.length=n:=⟨_,rfl⟩
 have hle:=Oo l nm;have HH:=zh h;have HI:Hid (yg l nm=if oZ l nm<l.length then ((oZ l nm:Nat):Int) else -1):=zh rfl;rw[hn] at hl;have HN:=zh hn;rw[hn];clear h hn
 go_enter Tryz.func133,Tryz.ntmps133
 go_wp2_with fail
 go_loopw [8] (fun v wr=>∃ k:Nat,v=.int .i64 k∧k≤n∧Hid (k≤oZ l nm)∧Below w.heap.size w wr) (fun v _=>n - (intOf v).toNat)
 case atStart=>exact⟨0,rfl,Nat.zero_le _,zh (Nat.zero_le _),Below.refl _ _⟩
 case round=>
  obtain⟨k,rfl,hkn,H2,hbw⟩:=hrel;by_cases hk:k<n
  ·have q1:(k:Int)<(n:Int):=by omega
   have q0:(0:Int)≤(k:Int):=by omega
   obtain⟨p,hp⟩:∃ p,l[k]?=some p:=⟨l[k]'(by rw[HN.out];exact hk),by simp⟩
   obtain⟨g,o,rfl,_,c1,c2⟩:=AR.at (HH.out.below hbw) hp;have HS:=zh (Gm (nm:=nm) hp H2.out);have c3:=hbw.cell (p:=⟨nb,0,none⟩) hlt;rw[hb] at c3;have HC:=zh (LD p.1 p.2 nm nb wr c3 (Nat.lt_of_lt_of_le hlt hbw.size));clear hp;go_wp2_with fail;refine HC.out.mono ?_;rintro e w2 ⟨rfl,hb2⟩;have hb3:=hbw.trans (hb2.mono hbw.size);clear HC c1 c2 c3 hbw hb2;cases he:(p.1.toList == nm.toList) with
   | true=>
    have hr:yg l nm=(k:Int):=by rw[HI.out,HS.out.1 he,if_pos (by rw[HN.out];exact hk)]
    have HR:=zh hr;clear hr he;go_wp2_with fail
    go_ret
    exact⟨kJ HR.out.symm,hb3⟩
   | false=>
    have HR:=zh (HS.out.2 he);clear he;go_wp2_with fail
    go_roundw
    case rel=>exact⟨k+1,by go_num,by omega,zh HR.out,hb3⟩
    case measure=>simp[intOf];omega
  ·have hkn':k=n:=by omega
   subst hkn';have hr:yg l nm = -1:=by rw[HI.out,if_neg (by rw[HN.out];have:=H2.out;omega)]
   have HR:=zh hr;have q1:¬ (k:Int)<(k:Int):=by omega
   clear hr;go_wp2_with fail
   go_ret
   exact⟨kJ HR.out.symm,hbw⟩
theorem om (v:Value) (l:List (ByteArray×ByteArray)) (nm:ByteArray) (w:World) (h:AR w 0 v l) (hl:l.length≤1000):
  Calls Tryz.prog 77 #[v,.string nm] w fun e w'=>e=.returned (.int .i64 (yg l nm))∧Below w.heap.size w w':=by
 have hB:=(Below.refl _ w).alloc (Nat.le_refl _) (.cells #[.string nm] 9);have HC:=zh (LG v l nm w.heap.size (w.alloc (.cells #[.string nm] 9)) (h.below hB) hl ((Whole.new w #[.string nm] 9).cell 0) (by simp));clear h
 go_enter Tryz.func77,Tryz.ntmps77
 go_wp2_with fail;refine HC.out.mono ?_;rintro e w2 ⟨rfl,hb2⟩;have HB:=zh (hB.trans (hb2.mono hB.size));clear hB hb2 HC;go_wp2_with fail
 go_ret
 exact⟨rfl,HB.out⟩
end
section
open Go Go.RowKit
section
variable {m:Nat} {f:Nat→RS}
theorem aay {m m':Nat} {f f':Nat→RS} (hneg:∀ x:Int,x<0→mg m f x=mg m' f' x) (h:∀ i:Nat,mg m f i=mg m' f' i):mg m f=mg m' f':=by
 funext x;by_cases hx:x<0
 ·exact hneg x hx
 ·obtain⟨i,rfl⟩:=Int.eq_ofNat_of_zero_le (by omega:0≤x);exact h i
theorem jq (m:Nat) (f:Nat→RS) (i:Nat):mg m f (i:Int)=if i<m∧(f i).gone=false then some (jX (f i)) else none:=by
 unfold mg;by_cases h:i<m∧(f i).gone=false
 ·rw[if_pos ⟨by omega,by simpa using h.1,by simpa using h.2⟩,if_pos h];simp
 ·rw[if_neg h,if_neg];rintro⟨_,h1,h2⟩;exact h ⟨by simpa using h1,by simpa using h2⟩
theorem TN {i:Nat} (hi:i<m) (hg:(f i).gone=false) {u:RS→RS} {U:Tr.GN→Tr.GN} (hgo:(u (f i)).gone=false) (h:jX (u (f i))=U (jX (f i))):mg m (bg f i u)=Tr.dD (mg m f) i U:=by
 funext x;unfold Tr.dD;by_cases hx:x<0
 ·rw[if_neg (by omega),lI hx,lI hx]
 ·obtain⟨j,rfl⟩:=Int.eq_ofNat_of_zero_le (by omega:0≤x);rw[jq];by_cases e:j=i
  ·subst e;rw[if_pos rfl,jS,if_pos ⟨hi,hgo⟩,aQ hi hg,h];rfl
  ·rw[if_neg (c:=(j:Int)=(i:Int)) (by omega),jd e,←jq]
theorem Nj {i p:Nat} {sl:Tr.Sl} (hi:i<m) (hg:(f i).gone=false) (hp:p<m) (hpg:(f p).gone=false) (hpa:(f i).pa=(p:Int)) (hpi:p≠i):
  mg m (bg (bg f p fun n=>{ n with k:=sl,kids:=n.kids.erase (i:Int) }) i fun n=>{ n with pa := -1 })=Tr.tZ (mg m f) i:=by
 funext x;unfold Tr.tZ;by_cases hx:x<0
 ·rw[if_neg (by omega),lI hx]
  split
  ·rw[lI hx];rfl
  ·rw[lI hx]
 ·obtain⟨j,rfl⟩:=Int.eq_ofNat_of_zero_le (by omega:0≤x);have hpo:Tr.dI (mg m f) (i:Int)=(p:Int):=by rw[Tr.aP (aQ hi hg)];exact hpa
  rw[jq,hpo];by_cases e:j=i
  ·subst e;rw[if_pos (c:=(j:Int)=(j:Int)) rfl,jS,jd (fun e=>hpi e.symm),if_pos ⟨hi,hg⟩,aQ hi hg];rfl
  ·rw[if_neg (c:=(j:Int)=(i:Int)) (by omega),jd e];by_cases e2:j=p
   ·subst e2;rw[jS,if_pos ⟨hp,hpg⟩,if_pos rfl,aQ hp hpg];rfl
   ·rw[jd e2,if_neg (c:=(j:Int)=(p:Int)) (by omega),←jq]
theorem PG {i p:Nat} {sl:Tr.Sl} {c:Int} (hi:i<m) (hg:(f i).gone=false) (hp:p<m) (hpg:(f p).gone=false) (hpi:p≠i):
  mg m (bg (bg f p fun n=>{ n with k:=sl,kids:=Tr.iL n.kids c (i:Int) }) i fun n=>{ n with pa:=p })=Tr.kR (mg m f) p i c:=by
 funext x;unfold Tr.kR;by_cases hx:x<0
 ·rw[if_neg (by omega),lI hx,if_neg (by omega),lI hx]
 ·obtain⟨j,rfl⟩:=Int.eq_ofNat_of_zero_le (by omega:0≤x);rw[jq];by_cases e:j=i
  ·subst e;rw[if_pos (c:=(j:Int)=(j:Int)) rfl,jS,jd (fun e=>hpi e.symm),if_pos ⟨hi,hg⟩,aQ hi hg];rfl
  ·rw[if_neg (c:=(j:Int)=(i:Int)) (by omega),jd e];by_cases e2:j=p
   ·subst e2;rw[jS,if_pos ⟨hp,hpg⟩,if_pos rfl,aQ hp hpg];rfl
   ·rw[jd e2,if_neg (c:=(j:Int)=(p:Int)) (by omega),←jq]
theorem Qo {x:RS} (hx:x.gone=false):mg (m+1) (iw m f x)=Tr.dJ (mg m f) m (jX x):=by
 funext y;unfold Tr.dJ;by_cases hy:y<0
 ·rw[if_neg (by omega),lI hy,lI hy]
 ·obtain⟨j,rfl⟩:=Int.eq_ofNat_of_zero_le (by omega:0≤y);rw[jq];by_cases e:j=m
  ·subst e;rw[if_pos rfl,dU,if_pos ⟨by omega,hx⟩]
  ·rw[if_neg (c:=(j:Int)=(m:Int)) (by omega),jq];by_cases h:j<m
   ·rw[eG h];by_cases hg:(f j).gone=false
    ·rw[if_pos ⟨by omega,hg⟩,if_pos ⟨h,hg⟩]
    ·rw[if_neg (fun e=>hg e.2),if_neg (fun e=>hg e.2)]
   ·rw[if_neg (fun e=>by omega),if_neg (fun e=>h e.1)]
end
end
section
namespace Tr
open Go Go.RowKit
def oG (R:Int→Option Nd) (l:List Int):Int→Option Nd:=fun x=>if x∈l then none else R x
def iW (g:G) (h:Int):G:=fun x=>if x∈au g h then none else g x
theorem Ct (R:Int→Option Nd):oG R []=R:=by funext x;unfold oG;simp
theorem I4 (R:Int→Option Nd) (l:List Int) (h:Int):oG R (l++[h])=pI (oG R l) h none:=by
 funext x;unfold oG pI;dsimp only;by_cases e:x=h
 ·rw[if_pos e,if_pos (by rw[e];simp)]
 ·rw[if_neg e];by_cases hl:x∈l
  ·rw[if_pos hl,if_pos (by simp[hl])]
  ·rw[if_neg hl,if_neg (by simp[hl,e])]
theorem LH {R:Int→Option Nd} {l:List Int} {x:Int} (h:x∉l):oG R l x=R x:=if_neg h
section
variable {z:Int} {g:G} {h:Int} {n:GN}
theorem fT {x:Int} (hx:x∉au g h):iW g h x=g x:=if_neg hx
theorem Gn {x:Int} (hx:x∈au g h):iW g h x=none:=if_pos hx
theorem iX {x:Int} {m:GN} (e:iW g h x=some m):g x=some m∧x∉au g h:=by
 unfold iW at e
 split at e
 ·cases e
 ·rename_i hx;exact⟨e,hx⟩
theorem WF.yJ (w:WF z g) {x:Int} {m:GN} (e:g x=some m) (hx:x∉au g h):m.pa∉au g h:=fun hm=>by
 refine hx ((w.jC h x).2 ?_);rw[w.bQ e];exact List.mem_cons_of_mem _ ((w.jC h _).1 hm)
theorem WF.Gp (w:WF z g) (eh:g h=some n) (hp:n.pa=z) {x k:Int} {m:GN} (e:g x=some m) (hx:x∉au g h) (hk:k∈m.kids):k∉au g h:=fun hm=>by
 have h1:=(w.jC h k).1 hm;rw[w.jk e hk,List.mem_cons] at h1;rcases h1 with rfl | h1
 ·obtain⟨m',e1,e2⟩:=w.down x m _ e hk;rw[eh] at e1;obtain rfl:=Option.some.inj e1;rw[←e2,hp,w.zero] at e;cases e
 ·exact hx ((w.jC h x).2 h1)
theorem WF.Qp (w:WF z g) {x:Int} {l:List Int} (u:Up g x l) (hx:x∉au g h):Up (iW g h) x l:=by
 induction u with
 | out e=>exact .out ((fT hx).trans e)
 | node e u ih=>exact .node ((fT hx).trans e) (ih (w.yJ e hx))
theorem WF.drop (w:WF z g) (eh:g h=some n) (hp:n.pa=z):WF z (iW g h) where
 zero:=by rw[fT (w.wV h)];exact w.zero
 up x m e hm:=by
  obtain⟨e1,hx⟩:=iX e;obtain⟨p,h1,h2⟩:=w.up x m e1 hm;exact⟨p,(fT (w.yJ e1 hx)).trans h1,h2⟩
 down x m k e hk:=by
  obtain⟨e1,hx⟩:=iX e;obtain⟨p,h1,h2⟩:=w.down x m k e1 hk;exact⟨p,(fT (w.Gp eh hp e1 hx hk)).trans h1,h2⟩
 nodup x m e:=w.nodup x m (iX e).1
 chain x:=by
  by_cases hx:x∈au g h
  ·exact⟨[],.out (Gn hx),by simp⟩
  ·obtain⟨l,u,hl⟩:=w.chain x;exact⟨l,w.Qp u hx,hl⟩
theorem WF.Oq (w:WF z g) (hz:z=0) (eh:g h=some n) (hp:n.pa=z) (av:Int→Sl):oG (raw g av) (au g h)=raw (iW g h) av:=by
 funext x;unfold oG;by_cases hx:x∈au g h
 ·rw[if_pos hx,aV (Gn hx)]
 ·rw[if_neg hx];cases e:g x with
  | none=>rw[aV e,aV ((fT hx).trans e)]
  | some m=>
   rw[ah e,ah ((fT hx).trans e)];have hk:aj (iW g h) m.pa=aj g m.pa:=by unfold aj;rw[fT (w.yJ e hx)]
   unfold fF;rw[hk]
end
theorem Im.drop {ρ:Int→Int} {a g:G} (h:Im ρ a g) (w:WF 0 g) {i:Int} {n:GN} (ei:a i=some n) (hp:n.pa = -1):Im ρ (iW a i) (iW g (ρ i)):=by
 have wa:=h.pull w;have hwk:au g (ρ i)=(au a i).map ρ:=h.walk w i (bU ei);have hl:∀ k∈au a i,(a k).isSome:=fun k hk=>wa.nL hk;have hout:∀ x,(a x).isSome→x∉au a i→ρ x∉au g (ρ i):=fun x hx hn hm=>hn (by rw[hwk] at hm;exact (h.mem hl hx).1 hm);have hlive:∀ x,(iW a i x).isSome→(a x).isSome∧x∉au a i:=fun x hx=>by
  obtain⟨m,e⟩:=Option.isSome_iff_exists.1 hx;obtain⟨e1,e2⟩:=iX e;exact⟨bU e1,e2⟩
 refine⟨h.zero,fun x m e=>?_,fun y hy=>?_,fun x y hx hy e=>h.inj x y (hlive x hx).1 (hlive y hy).1 e,fun x hx=>h.nz x (hlive x hx).1,(fT (wa.wV i)).trans h.neg,fun x m e=>?_,fun x m e k hk=>?_⟩
 ·obtain⟨e1,e2⟩:=iX e;rw[fT (hout x (bU e1) e2)];exact h.node x m e1
 ·obtain⟨m,e⟩:=Option.isSome_iff_exists.1 hy;obtain⟨e1,e2⟩:=iX e;obtain⟨x,hx,rfl⟩:=h.dom y (bU e1);refine⟨x,?_,rfl⟩;rw[fT (fun hm=>e2 (by rw[hwk];exact List.mem_map.2 ⟨x,hm,rfl⟩))];exact hx
 ·obtain⟨e1,e2⟩:=iX e;rcases h.pa x m e1 with h1 | h1
  ·exact .inl h1
  ·exact .inr (by rw[fT (wa.yJ e1 e2)];exact h1)
 ·obtain⟨e1,e2⟩:=iX e;rw[fT (wa.Gp ei hp e1 e2 hk)];exact h.kids x m e1 k hk
end Tr
end
section
open Go.RowKit
abbrev ndW (d:Tr.Nd) (v:Value):Value:=.agg #[.int .i64 d.kind,.string d.name,v,.string d.data,.int .i64 d.pa,.int .i64 d.fi,.int .i64 d.la,.int .i64 d.pr,.int .i64 d.ne]
theorem sZ (base B:Nat) (b s root h:Int) (live n:Nat) (R:Int→Option Tr.Nd) (fr:List Nat) (vs vf:Value) (d:Tr.Nd) (l:List (ByteArray×ByteArray)) (w:World) (hM:TV base w B b s vs n R vf fr live root) (hS:Sound b s n R fr live) (hh:lU h) (hd:(R h).getD Tr.wD=d) (har:AR w 0 (.slice d.av.a d.av.n d.av.c) l) (hl:l.length≤1000):
  Calls Tryz.prog 15 #[.pointer (some ⟨B,0,none⟩),.int .i64 h] w fun e w'=>∃ v,e=.returned (.tuple #[ndW d v,.bool (R h).isSome])∧AR w' w.heap.size v l∧Below w.heap.size w w':=by
 obtain⟨w1,hw1⟩:∃ w1,w.alloc (.cells #[.int .i64 0,.string ⟨#[]⟩,.slice none 0 0,.string ⟨#[]⟩,.int .i64 0,.int .i64 0,.int .i64 0,.int .i64 0,.int .i64 0] 42)=w1:=⟨_,rfl⟩
 have hX1:Whole w1 w.heap.size #[.int .i64 0,.string ⟨#[]⟩,.slice none 0 0,.string ⟨#[]⟩,.int .i64 0,.int .i64 0,.int .i64 0,.int .i64 0,.int .i64 0] 42:=by rw[←hw1];exact Whole.new w _ _
 have hB1:Below w.heap.size w w1:=eP hw1;have hs1:w1.heap.size=w.heap.size+1:=by rw[←hw1];simp
 have hG:=MC base B b s root h live n R fr vs vf w1 (hM.below hB1) hS hh;rw[hd] at hG;have Xc:=har.below hB1;obtain⟨q,hq⟩:∃ q,(R h).isSome=q:=⟨_,rfl⟩
 rw[hq] at hG ⊢;clear hM hS har hd hq
 go_enter Tryz.func15,Tryz.ntmps15
 go_wp2_with fail;(try rw[hw1]);(try go_wp2_with fail);refine hG.mono ?_;rintro e w2 ⟨rfl,hb2⟩;have hX2:=hX1.below hb2 hX1.lt;have tY:=Xc.below hb2;have hB2:=hB1.trans (hb2.mono hB1.size);have hs2:=hb2.size;obtain⟨w3,hw3⟩:∃ w3,w2.alloc (.cells #[.int .i64 d.kind,.string d.name,.slice d.av.a d.av.n d.av.c,.string d.data,.int .i64 d.pa,.int .i64 d.fi,.int .i64 d.la,.int .i64 d.pr,.int .i64 d.ne] 42)=w3:=⟨_,rfl⟩
 have fQ:Whole w3 w2.heap.size #[.int .i64 d.kind,.string d.name,.slice d.av.a d.av.n d.av.c,.string d.data,.int .i64 d.pa,.int .i64 d.fi,.int .i64 d.la,.int .i64 d.pr,.int .i64 d.ne] 42:=by rw[←hw3];exact Whole.new w2 _ _
 have Ru:Below w2.heap.size w2 w3:=eP hw3;have rP:=Ru;have bq:=hX2.below rP hX2.lt;have Fp:=tY.below rP;have hs3:=rP.size;have hl3:=fQ.lt;have y0:w3.cell? ⟨w2.heap.size,0,none⟩=some (.int .i64 d.kind):=fQ.cell 0;have y1:w3.cell? ⟨w2.heap.size,1,none⟩=some (.string d.name):=fQ.cell 1;have y2:w3.cell? ⟨w2.heap.size,2,none⟩=some (.slice d.av.a d.av.n d.av.c):=fQ.cell 2;have y3:w3.cell? ⟨w2.heap.size,3,none⟩=some (.string d.data):=fQ.cell 3;have y4:w3.cell? ⟨w2.heap.size,4,none⟩=some (.int .i64 d.pa):=fQ.cell 4;have y5:w3.cell? ⟨w2.heap.size,5,none⟩=some (.int .i64 d.fi):=fQ.cell 5;have y6:w3.cell? ⟨w2.heap.size,6,none⟩=some (.int .i64 d.la):=fQ.cell 6;have y7:w3.cell? ⟨w2.heap.size,7,none⟩=some (.int .i64 d.pr):=fQ.cell 7;have y8:w3.cell? ⟨w2.heap.size,8,none⟩=some (.int .i64 d.ne):=fQ.cell 8;have HCL:=zh (qK _ l w3 Fp hl);have dW:=zh bq;have HY3:=zh fQ;have HB3:=zh (hB2.trans (rP.mono hB2.size));clear hG hX1 hX2 bq fQ Ru rP Xc tY Fp hB1 hB2 hb2;go_wp2_with fail;(try rw[hw3]);(try go_wp2_with fail);refine HCL.out.mono ?_;rintro e w4 ⟨v4,rfl,Dj,hb4⟩;obtain⟨A4,c4,rfl⟩:=Dj.form;have Dh:=HY3.out.below hb4 hl3;have f4:=Dh.free 2;have bI:=dW.out.below hb4 dW.out.lt;obtain⟨w5,eH⟩:∃ w5,w4.setCell ⟨w2.heap.size,2,none⟩ (.slice A4 l.length c4)=w5:=⟨_,rfl⟩
 have qB:Whole w5 w2.heap.size #[.int .i64 d.kind,.string d.name,.slice A4 l.length c4,.string d.data,.int .i64 d.pa,.int .i64 d.fi,.int .i64 d.la,.int .i64 d.pr,.int .i64 d.ne] 42:=by rw[←eH];exact Dh.put 2 _
 have dP:Whole w5 w.heap.size #[.int .i64 0,.string ⟨#[]⟩,.slice none 0 0,.string ⟨#[]⟩,.int .i64 0,.int .i64 0,.int .i64 0,.int .i64 0,.int .i64 0] 42:=by rw[←eH];exact bI.other (by show w.heap.size≠w2.heap.size;omega) _
 have g5:w4.grownBy w5 (some w2.heap.size):=by rw[←eH];exact aL (ak (Below.refl w4.heap.size w4) _) _ _
 have XH:w4.cell? ⟨w2.heap.size,0,none⟩=some (.int .i64 d.kind):=Dh.cell 0;have XI:w4.cell? ⟨w2.heap.size,1,none⟩=some (.string d.name):=Dh.cell 1;have XJ:w4.cell? ⟨w2.heap.size,2,none⟩=some (.slice d.av.a d.av.n d.av.c):=Dh.cell 2;have XK:w4.cell? ⟨w2.heap.size,3,none⟩=some (.string d.data):=Dh.cell 3;have XL:w4.cell? ⟨w2.heap.size,4,none⟩=some (.int .i64 d.pa):=Dh.cell 4;have XM:w4.cell? ⟨w2.heap.size,5,none⟩=some (.int .i64 d.fi):=Dh.cell 5;have XO:w4.cell? ⟨w2.heap.size,6,none⟩=some (.int .i64 d.la):=Dh.cell 6;have XP:w4.cell? ⟨w2.heap.size,7,none⟩=some (.int .i64 d.pr):=Dh.cell 7;have XQ:w4.cell? ⟨w2.heap.size,8,none⟩=some (.int .i64 d.ne):=Dh.cell 8;have t0:w5.cell? ⟨w2.heap.size,0,none⟩=some (.int .i64 d.kind):=qB.cell 0;have t1:w5.cell? ⟨w2.heap.size,1,none⟩=some (.string d.name):=qB.cell 1;have t2:w5.cell? ⟨w2.heap.size,2,none⟩=some (.slice A4 l.length c4):=qB.cell 2;have t3:w5.cell? ⟨w2.heap.size,3,none⟩=some (.string d.data):=qB.cell 3;have t4:w5.cell? ⟨w2.heap.size,4,none⟩=some (.int .i64 d.pa):=qB.cell 4;have t5:w5.cell? ⟨w2.heap.size,5,none⟩=some (.int .i64 d.fi):=qB.cell 5;have t6:w5.cell? ⟨w2.heap.size,6,none⟩=some (.int .i64 d.la):=qB.cell 6;have t7:w5.cell? ⟨w2.heap.size,7,none⟩=some (.int .i64 d.pr):=qB.cell 7;have t8:w5.cell? ⟨w2.heap.size,8,none⟩=some (.int .i64 d.ne):=qB.cell 8;have x0:w5.cell? ⟨w.heap.size,0,none⟩=some (.int .i64 0):=dP.cell 0;have z0:=dP.free 0;have x1:w5.cell? ⟨w.heap.size,1,none⟩=some (.string ⟨#[]⟩):=dP.cell 1;have z1:=dP.free 1;have x2:w5.cell? ⟨w.heap.size,2,none⟩=some (.slice none 0 0):=dP.cell 2;have z2:=dP.free 2;have x3:w5.cell? ⟨w.heap.size,3,none⟩=some (.string ⟨#[]⟩):=dP.cell 3;have z3:=dP.free 3;have x4:w5.cell? ⟨w.heap.size,4,none⟩=some (.int .i64 0):=dP.cell 4;have z4:=dP.free 4;have x5:w5.cell? ⟨w.heap.size,5,none⟩=some (.int .i64 0):=dP.cell 5;have z5:=dP.free 5;have x6:w5.cell? ⟨w.heap.size,6,none⟩=some (.int .i64 0):=dP.cell 6;have z6:=dP.free 6;have x7:w5.cell? ⟨w.heap.size,7,none⟩=some (.int .i64 0):=dP.cell 7;have z7:=dP.free 7;have x8:w5.cell? ⟨w.heap.size,8,none⟩=some (.int .i64 0):=dP.cell 8;have z8:=dP.free 8;obtain⟨w6,kQ,gI,g6⟩:=RQ dP (.int .i64 d.kind) (.string d.name) (.slice A4 l.length c4) (.string d.data) (.int .i64 d.pa) (.int .i64 d.fi) (.int .i64 d.la) (.int .i64 d.pr) (.int .i64 d.ne);have k0:w6.cell? ⟨w.heap.size,0,none⟩=some (.int .i64 d.kind):=gI.cell 0;have k1:w6.cell? ⟨w.heap.size,1,none⟩=some (.string d.name):=gI.cell 1;have k2:w6.cell? ⟨w.heap.size,2,none⟩=some (.slice A4 l.length c4):=gI.cell 2;have k3:w6.cell? ⟨w.heap.size,3,none⟩=some (.string d.data):=gI.cell 3;have k4:w6.cell? ⟨w.heap.size,4,none⟩=some (.int .i64 d.pa):=gI.cell 4;have k5:w6.cell? ⟨w.heap.size,5,none⟩=some (.int .i64 d.fi):=gI.cell 5;have k6:w6.cell? ⟨w.heap.size,6,none⟩=some (.int .i64 d.la):=gI.cell 6;have k7:w6.cell? ⟨w.heap.size,7,none⟩=some (.int .i64 d.pr):=gI.cell 7;have k8:w6.cell? ⟨w.heap.size,8,none⟩=some (.int .i64 d.ne):=gI.cell 8;have hs4:=hb4.size;have hs5:=g5.size;have Xd:AR w6 w.heap.size (.slice A4 l.length c4) l:=by
  have a5:=TR.kept Dj g5 (.inr fun e=>by have:=(TR.lt Dj _ e).1;omega);have a6:=TR.kept a5 g6 (.inr fun e=>by have:=(TR.lt Dj _ e).1;omega);exact TR.lower a6 (by omega)
 have hBE:Below w.heap.size w w6:=((HB3.out.trans (hb4.mono HB3.out.size)).grown g5 (by omega) (fun k hk=>by simp at hk;omega)).grown g6 (by omega) (fun k hk=>by simp at hk;omega);have HE:=zh (And.intro Xd hBE);clear HCL Dj hb4 Dh bI qB dP g5 g6 gI Xd hBE;go_wp2_with fail;(try rw[eH]);(try go_wp2_with fail);(try rw[kQ]);(try go_wp2_with fail);refine bodyPost_ret (v:=.tuple #[ndW d (.slice A4 l.length c4),.bool q]) ?_ rfl ⟨_,rfl,HE.out.1,HE.out.2⟩;simp[results,Tryz.f15,go_sem,k0,k1,k2,k3,k4,k5,k6,k7,k8]
end
section
open Go.RowKit Go.Shelf
theorem LJ (base B bt bh:Nat) (b s root h:Int) (live n:Nat) (g:Tr.G) (av:Int→Tr.Sl) (fr:List Nat) (vs vf:Value) (w:World) (hS:Sound b s n (Tr.raw g av) fr live) (hw:Tr.WF 0 g) (hh:lU h) (hL:LS base B bt bh b s h vs n (Tr.raw g av) vf fr live root w) (Gh:(Tr.aj g h).length≤100000):
  Calls Tryz.prog 67 #[.func (.func 129) #[] #[.pointer (some ⟨bt,0,none⟩),.pointer (some ⟨bh,0,none⟩)]] w fun e w'=>∃ v,e=.returned v∧w'.ownsRow w.heap.size 3 1 v (Tr.aj g h).length (ints (Tr.aj g h))∧Below w.heap.size w w':=by
 have hA:=Ls base B bt bh b s root h live n g av fr vs vf w hS hw hh hL Gh;clear hL hS
 go_enter Tryz.func67,Tryz.ntmps67
 go_wp2_with fail;refine hA.mono ?_;rintro e w1 ⟨v,rfl,ho,hb⟩;obtain⟨A,c,rfl⟩:=aF (aH ho);have HO:=zh (And.intro ho hb);clear ho hb hA;go_wp2_with fail
 go_ret
 exact⟨_,rfl,HO.out.1,HO.out.2⟩
theorem LK (base B:Nat) (b s root h:Int) (live n:Nat) (g:Tr.G) (av:Int→Tr.Sl) (fr:List Nat) (vs vf:Value) (w:World) (hM:TV base w B b s vs n (Tr.raw g av) vf fr live root) (hS:Sound b s n (Tr.raw g av) fr live) (hw:Tr.WF 0 g) (hh:lU h) (Gh:(Tr.aj g h).length≤100000):
  Calls Tryz.prog 67 #[.func (.func 129) #[] #[.pointer (some ⟨w.heap.size,0,none⟩),.pointer (some ⟨w.heap.size+1,0,none⟩)]] ((w.alloc (.cells #[.pointer (some ⟨B,0,none⟩)] 29)).alloc (.cells #[.int .i64 h] 3)) fun e w'=>∃ v,e=.returned v∧w'.ownsRow w.heap.size 3 1 v (Tr.aj g h).length (ints (Tr.aj g h))∧Below w.heap.size w w':=by
 refine (LJ base B w.heap.size (w.heap.size+1) b s root h live n g av fr vs vf _ hS hw hh (LS.made hM) Gh).mono ?_;rintro e w1 ⟨v,rfl,ho,hb⟩;have h2:w.heap.size≤((w.alloc (.cells #[.pointer (some ⟨B,0,none⟩)] 29)).alloc (.cells #[.int .i64 h] 3)).heap.size:=by simp only[World.size_alloc];omega
 exact⟨v,rfl,iV ho h2,(((Below.refl _ w).alloc (Nat.le_refl _) _).alloc (by simp only[World.size_alloc];omega) _).trans (hb.mono h2)⟩
theorem LM (base B bt bh:Nat) (b s root h:Int) (live n:Nat) (g:Tr.G) (av:Int→Tr.Sl) (fr:List Nat) (vs vf:Value) (w:World) (hS:Sound b s n (Tr.raw g av) fr live) (hw:Tr.WF 0 g) (hh:lU h) (hL:LS base B bt bh b s h vs n (Tr.raw g av) vf fr live root w) (Gh:(Tr.au g h).length≤100000):
  Calls Tryz.prog 67 #[.func (.func 87) #[] #[.pointer (some ⟨bt,0,none⟩),.pointer (some ⟨bh,0,none⟩)]] w fun e w'=>∃ v,e=.returned v∧w'.ownsRow w.heap.size 3 1 v (Tr.au g h).length (ints (Tr.au g h))∧Below w.heap.size w w':=by
 have hA:=Lu base B bt bh b s root h live n g av fr vs vf w hS hw hh hL Gh;clear hL hS
 go_enter Tryz.func67,Tryz.ntmps67
 go_wp2_with fail;refine hA.mono ?_;rintro e w1 ⟨v,rfl,ho,hb⟩;obtain⟨A,c,rfl⟩:=aF (aH ho);have HO:=zh (And.intro ho hb);clear ho hb hA;go_wp2_with fail
 go_ret
 exact⟨_,rfl,HO.out.1,HO.out.2⟩
theorem LP (base B:Nat) (b s root h:Int) (live n:Nat) (g:Tr.G) (av:Int→Tr.Sl) (fr:List Nat) (vs vf:Value) (w:World) (hM:TV base w B b s vs n (Tr.raw g av) vf fr live root) (hS:Sound b s n (Tr.raw g av) fr live) (hw:Tr.WF 0 g) (hh:lU h) (Gh:(Tr.au g h).length≤100000):
  Calls Tryz.prog 67 #[.func (.func 87) #[] #[.pointer (some ⟨w.heap.size,0,none⟩),.pointer (some ⟨w.heap.size+1,0,none⟩)]] ((w.alloc (.cells #[.pointer (some ⟨B,0,none⟩)] 29)).alloc (.cells #[.int .i64 h] 3)) fun e w'=>∃ v,e=.returned v∧w'.ownsRow w.heap.size 3 1 v (Tr.au g h).length (ints (Tr.au g h))∧Below w.heap.size w w':=by
 refine (LM base B w.heap.size (w.heap.size+1) b s root h live n g av fr vs vf _ hS hw hh (LS.made hM) Gh).mono ?_;rintro e w1 ⟨v,rfl,ho,hb⟩;have h2:w.heap.size≤((w.alloc (.cells #[.pointer (some ⟨B,0,none⟩)] 29)).alloc (.cells #[.int .i64 h] 3)).heap.size:=by simp only[World.size_alloc];omega
 exact⟨v,rfl,iV ho h2,(((Below.refl _ w).alloc (Nat.le_refl _) _).alloc (by simp only[World.size_alloc];omega) _).trans (hb.mono h2)⟩
theorem EX (base B:Nat) (b s root h:Int) (live n:Nat) (g:Tr.G) (av:Int→Tr.Sl) (fr:List Nat) (vs vf:Value) (w:World) (hM:TV base w B b s vs n (Tr.raw g av) vf fr live root) (hS:Sound b s n (Tr.raw g av) fr live) (hw:Tr.WF 0 g) (hh:lU h) (Gh:(Tr.aj g h).length≤100000):
  Calls Tryz.prog 16 #[.pointer (some ⟨B,0,none⟩),.int .i64 h] w fun e w'=>∃ v,e=.returned v∧w'.ownsRow w.heap.size 3 1 v (Tr.aj g h).length (ints (Tr.aj g h))∧Below w.heap.size w w':=by
 have hA:=tq B h w;have HC:=zh (LK base B b s root h live n g av fr vs vf w hM hS hw hh Gh);clear hM hS hw
 go_enter Tryz.func16,Tryz.ntmps16
 go_wp2_with fail;refine hA.mono ?_;rintro e w1 ⟨rfl,rfl⟩;clear hA;go_wp2_with fail;refine HC.out.mono ?_;rintro e w2 ⟨v,rfl,ho,hb⟩;obtain⟨A,c,rfl⟩:=aF (aH ho);have HO:=zh (And.intro ho hb);clear ho hb HC;go_wp2_with fail
 go_ret
 exact⟨_,rfl,HO.out.1,HO.out.2⟩
end
section
open Go.RowKit
def oM (m k:Nat):List Int:=(List.range' m k).map fun i:Nat=>(i:Int)
theorem pQ {m k:Nat} {z:Int}:z∈oM m k↔∃ i:Nat,z=(i:Int)∧m≤i∧i<m+k:=by
 unfold oM;rw[List.mem_map];constructor
 ·rintro⟨i,hi,rfl⟩;rw[List.mem_range'_1] at hi;exact⟨i,rfl,hi.1,hi.2⟩
 ·rintro⟨i,rfl,h1,h2⟩;exact⟨i,List.mem_range'_1.2 ⟨h1,h2⟩,rfl⟩
theorem I5 (m k:Nat):(oM m k).Nodup:=by
 unfold oM;have h:(List.range' m k).Nodup:=List.nodup_range';generalize List.range' m k=l at h
 induction l with
 | nil=>simp
 | cons a r ih=>
  rw[List.nodup_cons] at h;rw[List.map_cons,List.nodup_cons];refine⟨fun hm=>?_,ih h.2⟩;obtain⟨b,hb,e⟩:=List.mem_map.1 hm;have:b=a:=by omega
  exact h.1 (this▸hb)
theorem Ot (m k j:Nat):oM m (k+j)=oM m k++oM (m+k) j:=by
 unfold oM;rw[←List.map_append,List.range'_append_1]
theorem BP (m k:Nat):oM m (k+1)=(m:Int)::oM (m+1) k:=by
 unfold oM;rw[List.range'_succ,List.map_cons]
theorem FQ (m k:Nat):(oM m k).length=k:=by unfold oM;simp
def Full (a:Tr.G):Nat→Int→Prop
 | 0,_=>False
 | F+1,x=>∃ n,a x=some n∧∀ k∈n.kids,Full a F k
theorem Full.live {a:Tr.G}:∀ {F:Nat} {x:Int},Full a F x→(a x).isSome
 | 0,_,h=>h.elim
 | F+1,x,⟨n,e,_⟩=>by rw[e];rfl
theorem Full.all {a:Tr.G}:∀ (F:Nat) (x:Int),Full a F x→∀ z∈Tr.walk a F x,(a z).isSome∧∀ n,a z=some n→∀ k∈n.kids,(a k).isSome
 | 0,_,h=>h.elim
 | F+1,x,⟨n,e,hk⟩=>by
  rw[Tr.walk,e];intro z hz;rcases List.mem_cons.1 hz with rfl | hz
  ·exact⟨by rw[e];rfl,fun n' e' k hk'=>by rw[e] at e';obtain rfl:=Option.some.inj e';exact (hk k hk').live⟩
  ·obtain⟨k,hk1,hk2⟩:=List.mem_flatMap.1 hz;exact Full.all F k (hk k hk1) z hk2
theorem Full.same {a a':Tr.G}:∀ (F:Nat) (x:Int),Full a F x→(∀ z∈Tr.walk a F x,a' z=a z)→Full a' F x
 | 0,_,h,_=>h.elim
 | F+1,x,⟨n,e,hk⟩,h=>by
  have hx:x∈Tr.walk a (F+1) x:=by rw[Tr.walk,e];simp
  refine⟨n,by rw[h x hx];exact e,fun k hk'=>Full.same F k (hk k hk') fun z hz=>h z ?_⟩;rw[Tr.walk,e];exact List.mem_cons_of_mem _ (List.mem_flatMap.2 ⟨k,hk',hz⟩)
theorem Tr.WF.full {z:Int} {a:Tr.G} (w:Tr.WF z a):∀ (F:Nat) (x:Int),F+(Tr.dz a x).length=129→(a x).isSome→Full a F x
 | 0,x,h,_=>by have:=(w.eO x).2;omega
 | F+1,x,h,hx=>by
  obtain⟨n,e⟩:=Option.isSome_iff_exists.1 hx;refine⟨n,e,fun k hk=>w.full F k ?_ ?_⟩
  ·rw[w.jk e hk,List.length_cons];omega
  ·obtain⟨q,e1,_⟩:=w.down x n k e hk;rw[e1];rfl
def AX (a:Tr.G) (q c:Int):Tr.G:=fun z=>if z=q then (a z).map fun n=>{ n with kids:=n.kids++[c] } else a z
theorem Gq (a:Tr.G) (q c z:Int):(AX a q c z).isSome=(a z).isSome:=by
 unfold AX;split
 ·cases a z<;>rfl
 ·rfl
def Fv (m:Nat) (f f':Nat→RS) (q:Int) (c:Int):Prop:=(∀ i,i<m→(i:Int)≠q→f' i=f i)∧∀ i,i<m→(i:Int)=q→∃ sl,f' i={ f i with k:=sl,kids:=(f i).kids++[c] }
theorem Fv.tree {m k:Nat} {f f':Nat→RS} {q c:Int} (h:Fv m f f' q c):∀ z,z∉oM m k→mg (m+k) f' z=AX (mg m f) q c z:=by
 intro z hz;unfold AX;by_cases h0:z<0
 ·rw[lI h0,lI h0];split<;>rfl
 ·obtain⟨i,rfl⟩:=Int.eq_ofNat_of_zero_le (by omega:0≤z);show mg (m+k) f' (i:Int)=_;rw[jq,jq];by_cases hi:i<m
  ·by_cases hq:(i:Int)=q
   ·obtain⟨sl,e⟩:=h.2 i hi hq;rw[if_pos hq,e];by_cases hg:(f i).gone=false
    ·rw[if_pos ⟨by omega,hg⟩,if_pos ⟨hi,hg⟩];rfl
    ·rw[if_neg (fun h=>hg h.2),if_neg (fun h=>hg h.2)];rfl
   ·rw[if_neg hq,h.1 i hi hq];by_cases hg:(f i).gone=false
    ·rw[if_pos ⟨by omega,hg⟩,if_pos ⟨hi,hg⟩]
    ·rw[if_neg (fun h=>hg h.2),if_neg (fun h=>hg h.2)]
  ·have hk:¬ i<m+k:=fun h=>hz (pQ.2 ⟨i,rfl,by omega,h⟩);have e1:(if i<m∧(f i).gone=false then some (jX (f i)) else none)=none:=if_neg (fun h=>hi h.1);rw[if_neg (fun h:i<m+k∧(f' i).gone=false=>hk h.1),e1]
   split<;>rfl
theorem xU {m k:Nat} {f:Nat→RS} {z:Int} (h:z∈oM m k):mg m f z=none:=by
 obtain⟨i,rfl,h1,_⟩:=pQ.1 h;rw[jq,if_neg (fun h=>by omega)]
def XR (base M m:Nat) (vs:Value) (f:Nat→RS) (x q:Int) (F:Nat) (w:World) (e:Ending) (w':World):Prop:=
 ∃ (u vs':Value) (k:Nat) (f':Nat→RS),e=.returned u∧MV base w' M vs' (m+k) f'∧ay w w' (aB M vs m f) (aB M vs' (m+k) f')∧Fv m f f' q (m:Int)∧(∀ i,m≤i→i<m+k→(f' i).gone=false)∧
  Tr.Cp (mg m f) (mg (m+k) f') F x (m:Int) q (Tr.walk (mg m f) F x) (oM m k)
def Fw (base M m nb:Nat) (vs:Value) (f:Nat→RS) (x:Nat) (q:Int) (F:Nat) (w:World) (pre:List Int) (W:World):Prop:=
 ∃ (vs':Value) (k:Nat) (fj:Nat→RS) (ys l:List Int),MV base W M vs' (m+1+k) fj∧ay w W (aB M vs m f) (aB M vs' (m+1+k) fj)∧Fv m f fj q (m:Int)∧(∀ i,m≤i→i<m+1+k→(fj i).gone=false)∧
  Tr.uV (-1) (mg m f) (AX (mg m f) q (m:Int)) (jX (f x)) F (m:Int) q (mg (m+1+k) fj) pre ys l (oM (m+1) k)∧Whole W nb #[.int .i64 (f x).kind,.string (f x).name,.slice (f x).a.a (f x).at'.length (f x).a.c,.string (f x).data,.int .i64 (f x).pa,.slice (f x).k.a (f x).kids.length (f x).k.c,.bool (f x).gone] 67∧¬ aB M vs' (m+1+k) fj nb
section
variable {base M m nb:Nat} {vs:Value} {f:Nat→RS} {x:Nat} {q:Int} {F:Nat} {w W W':World} {pre:List Int}
theorem Fw.next (H:Fw base M m nb vs f x q F w pre W) (hx:x<m) (hF:Full (mg m f) (F+1) (x:Int)) (hxg:(f x).gone=false) (hq:q∉Tr.walk (mg m f) (F+1) (x:Int)) {kid:Int} (hk:kid∈(f x).kids) (hpre:pre++[kid] <+: (f x).kids)
  (hcap:m+(Tr.walk (mg m f) (F+1) (x:Int)).length≤100000) (hat:∀ i:Nat,(i:Int)∈Tr.walk (mg m f) (F+1) (x:Int)→(f i).at'.length≤1000) (hkl:(f x).kids.length≤100000)
  (IH:∀ (m:Nat) (vs:Value) (f:Nat→RS) (x q:Int) (w:World),MV base w M vs m f→Full (mg m f) F x→(q = -1∨∃ n,mg m f q=some n∧n.kids.length≤100000)→q∉Tr.walk (mg m f) F x→m+(Tr.walk (mg m f) F x).length≤100000→(∀ i:Nat,(i:Int)∈Tr.walk (mg m f) F x→(f i).at'.length≤1000)→
   Calls Tryz.prog 158 #[.pointer (some ⟨M,0,none⟩),.int .i64 x,.int .i64 q,.bool true] w (XR base M m vs f x q F w)):
  Calls Tryz.prog 158 #[.pointer (some ⟨M,0,none⟩),.int .i64 kid,.int .i64 (m:Int),.bool true] W fun e w'=>(∃ u,e=.returned u)∧Fw base M m nb vs f x q F w (pre++[kid]) w':=by
 obtain⟨vs',k,fj,ys,l,h1,h2,h3,h4,h5,h6,h7⟩:=H;obtain⟨nx,O4,VL⟩:=hF;have Xe:=O4;rw[aQ hx hxg] at Xe;obtain rfl:=Option.some.inj Xe;have X7:=VL kid hk;have Rv:∀ y∈(f x).kids,∀ z∈Tr.walk (mg m f) F y,z∈Tr.walk (mg m f) (F+1) (x:Int):=fun y hy z hz=>by
  rw[Tr.walk,O4];exact List.mem_cons_of_mem _ (List.mem_flatMap.2 ⟨y,hy,hz⟩)
 have hall:=Full.all F kid X7;have hne:∀ z∈Tr.walk (mg m f) F kid,z≠q:=fun z hz e=>hq (e▸Rv kid hk z hz);have hsame:∀ z∈Tr.walk (mg m f) F kid,mg (m+1+k) fj z=mg m f z:=fun z hz=>by
  have h0:=(hall z hz).1;rw[h5.old z (fun hm=>by rw[(h5.fresh z hm).1] at h0;cases h0)];unfold AX;rw[if_neg (hne z hz)]
 have hag:Tr.walk (mg (m+1+k) fj) F kid=Tr.walk (mg m f) F kid:=Tr.qy F kid hsame (fun z hz=>(hall z hz).2) X7.live;have hys:ys.length≤100000:=by
  have h8:=h5.cp.heads;have h9:=hpre.length_le;rw[List.length_append,List.length_singleton] at h9;omega
 have hml:l=pre.flatMap (Tr.walk (mg m f) F):=(h5.cp.flat (u:=Tr.walk (mg m f) F) (v:=Tr.walk (mg (m+1+k) fj) F) fun a b l' m' h=>Tr.Cp.walks F F h (Nat.le_refl _)).1.symm;have hlk:l.length=k:=by rw[h5.cp.len fun a b l' m' h=>Tr.Cp.len F h,FQ]
 have hcap2:m+1+k+(Tr.walk (mg (m+1+k) fj) F kid).length≤100000:=by
  rw[hag];obtain⟨rest,hr⟩:=hpre;have e1:(Tr.walk (mg m f) (F+1) (x:Int)).length=1+((f x).kids.flatMap (Tr.walk (mg m f) F)).length:=by rw[Tr.walk,O4];simp only[List.length_cons];rw[show (jX (f x)).kids=(f x).kids from rfl];omega
  rw[←hr,List.flatMap_append,List.flatMap_append,List.length_append,List.length_append,←hml,hlk] at e1;have e2:([kid].flatMap (Tr.walk (mg m f) F)).length=(Tr.walk (mg m f) F kid).length:=by simp
  omega
 refine (IH (m+1+k) vs' fj kid (m:Int) W h1 (Full.same F kid X7 hsame) (.inr ⟨_,h5.self,hys⟩) (fun hm=>?_) hcap2 (fun i hi=>?_)).mono ?_
 ·rw[hag] at hm;have:=(hall _ hm).1;rw[jq,if_neg (fun h=>by omega)] at this;cases this
 ·rw[hag] at hi;have hi0:=(hall _ hi).1;obtain⟨j,ej,hj,_⟩:=jA hi0;have:i=j:=by omega
  subst this;rw[h3.1 i hj (hne _ hi)];exact hat i (Rv kid hk _ hi)
 ·rintro e w' ⟨u,vs2,k2,f2,rfl,j1,j2,j3,j4,j5⟩;refine⟨⟨u,rfl⟩,vs2,k+k2,f2,ys++[((m+1+k:Nat):Int)],l++Tr.walk (mg m f) F kid,by rw[←Nat.add_assoc];exact j1,by rw[←Nat.add_assoc];exact h2.trans j2,?_,?_,?_,?_,?_⟩
  ·constructor
   ·intro i hi hiq;rw[j3.1 i (by omega) (by omega)];exact h3.1 i hi hiq
   ·intro i hi hiq;obtain⟨sl,e⟩:=h3.2 i hi hiq;exact⟨sl,by rw[j3.1 i (by omega) (by omega),e]⟩
  ·intro i h1 h2;by_cases hi:i<m+1+k
   ·by_cases him:i=m
    ·obtain⟨sl,e⟩:=j3.2 i hi (by omega);rw[e];exact h4 i h1 hi
    ·rw[j3.1 i hi (by omega)];exact h4 i h1 hi
   ·exact j4 i (by omega) (by omega)
  ·rw[Ot,←Nat.add_assoc];refine h5.step (fun z=>Gq _ _ _ z) (lk:=Tr.walk (mg (m+1+k) fj) F kid) (fun z hz=>⟨(hall z hz).1,?_⟩) j5 (I5 _ _) (fun z hz=>⟨xU hz,?_⟩) (fun z hz=>?_) X7.live (fun z hz=>(hall z hz).2)
   ·unfold AX;rw[if_neg (hne z hz)]
   ·obtain⟨i,rfl,_⟩:=pQ.1 hz;omega
   ·rw[j3.tree (k:=k2) z hz];unfold AX;by_cases e:z=(m:Int)
    ·rw[if_pos e,if_pos e,e]
    ·rw[if_neg e,if_neg e]
  ·have Xf:=h6.lt;exact h6.turns j2.1 h7
  ·intro hm;have Xf:=h6.lt;rw[←Nat.add_assoc] at hm;exact h7 (j2.2 nb Xf hm)
end
end
section
open Go.RowKit
theorem LQ (base B:Nat) (b s root p h:Int) (live n:Nat) (g:Tr.G) (fr:List Nat) (vs vf:Value) (c d l r:List Int) (ok:ByteArray→Prop) (w:World) (hm:TV base w B b s vs n (Tr.raw g wB) vf fr live root) (hS:Sound b s n (Tr.raw g wB) fr live) (D:Tr.Deep g root c d ok)
  (hp:Tr.Line g 0 (l++[p])) (hh:Tr.Line g 0 (h::r)) (hn:((l++[p])++h::r).Nodup) (hr:h≠root) (hlim:(l++[p]).length+(h::r).length≤128):
  Calls Tryz.prog 19 #[.pointer (some ⟨B,0,none⟩),.int .i64 p,.int .i64 h,.int .i64 0] w fun e w'=>∃ v,e=.returned (.tuple #[v,.int .i64 0])∧bO w.heap.size w' v [Tr.jH (Tr.bP g p h 0) 1 h]∧
   TV base w' B b s vs n (Tr.raw (Tr.bP g p h 0) wB) vf fr live root∧Sound b s n (Tr.raw (Tr.bP g p h 0) wB) fr live∧ay w w' (aD B vs vf) (aD B vs vf):=by
 obtain⟨h0,ip,ih,hpa,hnu,hlen,hw',hl',_⟩:=D.joined hp hh hn hr hlim;obtain⟨mp,ep⟩:=Option.isSome_iff_exists.1 ip;obtain⟨mh,eh⟩:=Option.isSome_iff_exists.1 ih;have H:rQ base B b s root p h 0 live n g wB fr vs vf mp mh w:=⟨hm,hS,D.wf,ep,eh,fun e=>absurd rfl e⟩
 have hi:=BK base B b s root p h 0 live n g wB fr vs vf mp mh w H (D.may hp eh hr) hnu (fun e=>absurd rfl e) (by rw[hlen];exact hlim);rw[Tr.LB hpa,Tr.LC h0,show Tr.fZ g h=[] from if_pos hpa,List.nil_append] at hi;have xG:h≠p:=fun e=>by rw[D.wf.bQ ep,e] at hnu;exact hnu (by simp)
 have hS':=qA hS D.wf eh (by rw[←Tr.aP eh];exact hpa) ep xG (c:=0) (.inl rfl);refine hi.mono ?_;rintro e w' ⟨v,he,hrr,h1,h2⟩;exact⟨v,he,hrr,h1,hS',h2⟩
def TP (nm:ByteArray):Prop:=nm.size≤20000∧Nm.elem nm=true
theorem Qq (base B:Nat) (b s root:Int) (live n:Nat) (g:Tr.G) (fr:List Nat) (vs vf:Value) (c d:List Int) (nm:ByteArray) (w:World) (hm:TV base w B b s vs n (Tr.raw g wB) vf fr live root) (hS:Sound b s n (Tr.raw g wB) fr live) (D:Tr.Deep g root c d TP) (hbase:base≤w.heap.size) (hn:n<100000) (hl:live<20000) (hok:TP nm) (hT:Lit w):
  Calls Tryz.prog 46 #[.pointer (some ⟨B,0,none⟩),.int .i64 2,.string nm,.string ⟨#[]⟩,.slice none 0 0] w fun e w'=>∃ (h:Int) (g':Tr.G) (vs' bN:Value) (n':Nat) (fr':List Nat),e=.returned (.tuple #[.int .i64 h,.int .i64 0])∧n'≤n+1∧h≠0∧h∉(root::c)++d∧
   TV base w' B b s vs' n' (Tr.raw g' wB) bN fr' (live+1) root∧Sound b s n' (Tr.raw g' wB) fr' (live+1)∧Tr.Deep g' root c d TP∧Tr.Line g' 0 [h]∧ay w w' (aD B vs vf) (aD B vs' bN):=by
 refine (Lx base B b s root live n g wB fr vs vf nm w hm hS D.wf hbase hn hl hok.1 hok.2 hT).mono ?_;rintro e w' ⟨h,vs',bN,n',fr',he,h1,h2,h3,h4,h5,_,h7⟩;rw[JZ] at h4 h5;obtain⟨k1,k2⟩:=D.add h2 h3 (nm:=nm) hok;exact⟨h,_,vs',bN,n',fr',he,h1,h3,D.not_mem h2,h4,h5,k1,k2,h7⟩
theorem Qr {base:Nat} {w:World} {v:Value} {r:Tr.Rec} (h:bO base w v [r]):∃ g c,v=.slice (some ⟨g,0,none⟩) 1 c∧w.cell? ⟨g,0,none⟩=some (.int .i64 r.kind):=by
 obtain⟨A,c,rfl⟩:=aF (aH h);obtain⟨g,rfl,_,hc⟩:=iY (aH h) (show 0<[r].length by simp);exact⟨g,c,rfl,hc 0 _ rfl⟩
theorem LU {a:UInt8} (h:a.toNat≤127) (r:List UInt8):bJ.rep (a::r)=a::bJ.rep r:=by
 have hs:bJ.size (a::r)=1:=bJ.gJ (.one a r h);rw[bJ.vO (by omega),hs];rfl
theorem Gs {c:UInt8} (h1:97≤c.toNat) (h2:c.toNat≤122) (h3:Nm.bad c=false):Nm.elem ⟨#[c]⟩=true:=by
 unfold Nm.elem;show (decide (97≤c.toNat) && decide (c.toNat≤122) && Nm.plain ⟨#[c]⟩)=true;rw[decide_eq_true h1,decide_eq_true h2];unfold Nm.plain;rw[show (⟨#[c]⟩:ByteArray).data.toList=[c] from rfl,LU (by omega),bJ.oD];simp[h3]
theorem Qs {c:UInt8} (h:Nm.elem ⟨#[c]⟩=true):TP ⟨#[c]⟩:=⟨by show 1≤20000;omega,h⟩
theorem aaz:TP ⟨#[112]⟩:=Qs (Gs (by decide) (by decide) (by decide))
theorem BJ (w:World) (hT:Lit w):
  Calls Tryz.prog 10 #[] w fun e w'=>e=.returned (.bool true)∧Below w.heap.size w w':=by
 go_enter Tryz.func10,Tryz.ntmps10
 go_wp2_with fail;refine (J3 0 0 w).mono ?_;rintro e w1 ⟨B,vs,vf,rfl,hm,hS,hw,hb1⟩;have hH:Ar.hdl 0 0 0≠0:=by have:=(ou (b:=0) (s:=0) (i:=0) (by omega)).1;intro e;rw[show ((0:Nat):Int)=0 from rfl,e] at this;omega
 obtain⟨root,hroot⟩:∃ root,Ar.hdl 0 0 0=root:=⟨_,rfl⟩
 rw[hroot] at hm hS hw hH;have D:Tr.Deep (Tr.dJ AA root p8) root [] [] TP:=Tr.Deep.start hH;obtain⟨g,hg⟩:∃ g,Tr.dJ AA root p8=g:=⟨_,rfl⟩
 rw[hg] at hm hS D;obtain⟨_,_,_,_,_,r5⟩:=hm.cells;have HMK:=zh (Qq w.heap.size B 0 0 root 1 1 g [] vs vf [] [] ⟨#[112]⟩ w1 hm hS D hb1.size (by omega) (by omega) aaz (hT.below hb1));have hlo:=fun k hk=>(hm.lt k hk).1;clear hS hw hroot hg;go_wp2_with fail;refine HMK.out.mono ?_;rintro e w2 ⟨h,g2,vs2,QN,n2,Xy,rfl,h1,h2,h3,hm2,hS2,D2,L2,hst⟩;have hb2:Below w.heap.size w w2:=hb1.trans (hst.1.below hb1.size hlo);obtain⟨_,_,_,_,_,r52⟩:=hm2.cells;have hlen1:(([]:List Int)++[root]).length+[h].length≤128:=by simp
 have hr:h≠root:=fun e=>h3 (by rw[e];simp);have HI:=zh (LQ w.heap.size B 0 0 root root h 2 n2 g2 Xy vs2 QN [] [] [] [] TP w2 hm2 hS2 D2 D2.main L2 (by simp[Ne.symm hr]) hr hlen1);have hlo2:=fun k hk=>(hm2.lt k hk).1;have hq:(h == 0)=false:=by simpa using h2
 have hq2:(h != 0)=true:=by simpa using h2
 clear hm hS2 D L2 r5 hlo D2 h3 hr HMK hst h2;go_wp2_with fail;refine HI.out.mono ?_;rintro e w3 ⟨v,rfl,hrr,_,_,Xg⟩;obtain⟨gr,cr,rfl,hk⟩:=Qr hrr;have hk1:w3.cell? ⟨gr,0,none⟩=some (.int .i64 1):=hk;have hb3:Below w.heap.size w w3:=hb2.trans (Xg.1.below hb2.size hlo2);clear HI hrr Xg hk;go_wp2_with fail
 go_ret
 exact⟨rfl,hb3⟩
end
end Go.Proofs.YtnbaadpgbcklaaaGreatDoor
