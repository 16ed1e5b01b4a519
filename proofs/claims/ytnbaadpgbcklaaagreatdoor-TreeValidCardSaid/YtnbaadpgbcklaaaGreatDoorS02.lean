/- Part of a proof about trees. -/
import Derived.BigQuiet
import Derived.Deep.DrawnRows
import Derived.Deep.LoopGhost
import Derived.Deep.QuietTactic
import Derived.Deep.RegionHeld3
import Derived.Deep.RegionWith
import Derived.Lib.MinMax
import Derived.Lib.SliceRun
import Derived.Test.YtnbaadpgbcklaaaGreatDoorProg
import Derived.Test.YtnbaadpgbcklaaaGreatDoorGNIn4
import Derived.Test.YtnbaadpgbcklaaaGreatDoorGNRm2
set_option linter.unusedVariables false
set_option linter.unusedSimpArgs false
set_option linter.unusedSectionVars false
set_option maxHeartbeats 2000000
set_option maxRecDepth 100000
namespace Go.Proofs.YtnbaadpgbcklaaaGreatDoor
section
open Go Go.RowKit
def jD (x:RS):Tr.GN:=⟨x.kind,x.name,x.at',x.data,x.pa,x.kids⟩
def mg (m:Nat) (f:Nat→RS):Tr.G:=fun h=>if 0≤h∧h.toNat<m∧(f h.toNat).gone=false then some (jD (f h.toNat)) else none
section
variable {m:Nat} {f:Nat→RS}
theorem aQ {i:Nat} (hi:i<m) (hg:(f i).gone=false):mg m f (i:Int)=some (jD (f i)):=by
 unfold mg;rw[if_pos ⟨by omega,by simpa using hi,by simpa using hg⟩];simp
theorem Ri {i:Nat} (hg:(f i).gone=true):mg m f (i:Int)=none:=by
 unfold mg;rw[if_neg];rintro⟨_,_,h⟩;simp[hg] at h
theorem kK {h:Int} {n:Tr.GN} (e:mg m f h=some n):∃ i:Nat,h=(i:Int)∧i<m∧(f i).gone=false∧n=jD (f i):=by
 unfold mg at e
 split at e
 ·rename_i hc;injection e with e;exact⟨h.toNat,by omega,hc.2.1,hc.2.2,e.symm⟩
 ·cases e
theorem jE {h:Int} (e:(mg m f h).isSome):∃ i:Nat,h=(i:Int)∧i<m∧(f i).gone=false∧mg m f h=some (jD (f i)):=by
 obtain⟨n,hn⟩:=Option.isSome_iff_exists.1 e;obtain⟨i,h1,h2,h3,h4⟩:=kK hn;exact⟨i,h1,h2,h3,h4▸hn⟩
theorem lN {h:Int} (hh:h<0):mg m f h=none:=by
 unfold mg;rw[if_neg (by omega)]
theorem jX {i:Nat} (hi:i<m):(mg m f (i:Int)).isSome=!(f i).gone:=by
 cases e:(f i).gone with
 | true=>rw[Ri e];rfl
 | false=>rw[aQ hi e];rfl
def Live (m:Nat) (f:Nat→RS) (h:Int):Prop:=h = -1∨(mg m f h).isSome
theorem Live.pa (hw:Tr.WF (-1) (mg m f)) {i:Nat} (hi:i<m) (hg:(f i).gone=false):Live m f (f i).pa:=by
 rcases hw.pa (aQ hi hg) with h | ⟨p,h,_⟩
 ·exact .inl h
 ·exact .inr (by rw[show (f i).pa=(jD (f i)).pa from rfl,h];rfl)
theorem Live.kid (hw:Tr.WF (-1) (mg m f)) {i:Nat} (hi:i<m) (hg:(f i).gone=false) {k:Int} (hk:k∈(f i).kids):∃ j:Nat,k=(j:Int)∧j<m∧(f j).gone=false∧(f j).pa=(i:Int):=by
 obtain⟨n,h1,h2⟩:=hw.down _ _ k (aQ hi hg) hk;obtain⟨j,h3,h4,h5,h6⟩:=kK h1;exact⟨j,h3,h4,h5,by rw[h6] at h2;exact h2⟩
theorem Live.up (hw:Tr.WF (-1) (mg m f)) {h:Int} {l:List Int} (u:Tr.Up (mg m f) h l) (hl:Live m f h):(h = -1∧l=[])∨∃ (i:Nat) (l':List Int),h=(i:Int)∧i<m∧(f i).gone=false∧l=h::l'∧Tr.Up (mg m f) (f i).pa l'∧Live m f (f i).pa:=by
 cases u with
 | out e=>
  rcases hl with h1 | h1
  ·exact .inl ⟨h1,rfl⟩
  ·rw[e] at h1;cases h1
 | @node _ n l' e u=>
  obtain⟨i,h1,h2,h3,h4⟩:=kK e;refine .inr ⟨i,l',h1,h2,h3,rfl,?_,Live.pa hw h2 h3⟩;rw[h4] at u;exact u
end
def jO (m:Nat) (f:Nat→RS) (i:Nat):Int:=if (f i).pa<0 then -1 else ((f (f i).pa.toNat).kids.idxOf (i:Int):Nat)
end
section
open Go.RowKit
section
variable {base M m:Nat} {vs:Value} {f:Nat→RS} {w:World}
theorem MV.read {A:Option Addr} {c i:Nat} (h:MV base w M (.slice A m c) m f) (hi:i<m):∃ g,A=some ⟨g,0,none⟩∧w.cell? ⟨g,i*7,none⟩=some (.int .i64 (f i).kind)∧w.cell? ⟨g,i*7+1,none⟩=some (.string (f i).name)∧w.cell? ⟨g,i*7+2,none⟩=some (.slice (f i).a.a (f i).a.n (f i).a.c)∧w.cell? ⟨g,i*7+3,none⟩=some (.string (f i).data)∧w.cell? ⟨g,i*7+4,none⟩=some (.int .i64 (f i).pa)∧w.cell? ⟨g,i*7+5,none⟩=some (.slice (f i).k.a (f i).k.n (f i).k.c)∧w.cell? ⟨g,i*7+6,none⟩=some (.bool (f i).gone):=by
 obtain⟨g,rfl,_,_,_,hc⟩:=h.node (by omega);exact⟨g,rfl,(hc i 0 hi (by omega)).1,(hc i 1 hi (by omega)).1,(hc i 2 hi (by omega)).1,(hc i 3 hi (by omega)).1,(hc i 4 hi (by omega)).1,(hc i 5 hi (by omega)).1,(hc i 6 hi (by omega)).1⟩
theorem MV.kn (h:MV base w M vs m f) {i:Nat} (hi:i<m):(f i).k.n=(f i).kids.length:=by
 obtain⟨A,c,e⟩:=(h.kr i hi).form;unfold Tr.Sl.v at e;injection e
theorem MV.an (h:MV base w M vs m f) {i:Nat} (hi:i<m):(f i).a.n=(f i).at'.length:=by
 obtain⟨A,c,e⟩:=(h.ar i hi).form;unfold Tr.Sl.v at e;injection e
theorem MV.kid (h:MV base w M vs m f) {i j:Nat} (hi:i<m) {k:Int} (hj:(f i).kids[j]?=some k):∃ g o,(f i).k.a=some ⟨g,o,none⟩∧w.cell? ⟨g,o+j,none⟩=some (.int .i64 k):=by
 have hr:=h.kr i hi;have hlt:=(List.getElem?_eq_some_iff.1 hj).1;have e:(f i).k.v=.slice (f i).k.a (f i).kids.length (f i).k.c:=by unfold Tr.Sl.v;rw[h.kn hi]
 rw[e] at hr;obtain⟨g,o,hA,_,_,hc,_⟩:=hr.cells (by omega);exact⟨g,o,hA,hc j _ (by omega) (dX hj)⟩
end
theorem dF (base M m:Nat) (vs:Value) (f:Nat→RS) (i:Nat) (w:World) (h:MV base w M vs m f) (hi:i<m) (hm:m≤100000):
  Calls Tryz.prog 23 #[.pointer (some ⟨M,0,none⟩),.int .i64 (i:Int)] w fun e w'=>e=.returned (.bool (!(f i).gone))∧w'=w:=by
 obtain⟨A,c,rfl⟩:=h.form;obtain⟨k0,_⟩:=h.cell;obtain⟨g,rfl,_,_,_,_,_,_,c6⟩:=h.read hi;have q1:(0:Int)≤(i:Int):=by omega
 have q2:(i:Int)<(m:Int):=by omega
 clear h
 go_enter Tryz.func23,Tryz.ntmps23
 go_wp2_with fail
 go_ret
 exact⟨rfl,rfl⟩
theorem BF (base M m:Nat) (vs:Value) (f:Nat→RS) (a b:Int) (w:World) (h:MV base w M vs m f) (hw:Tr.WF (-1) (mg m f)) (hb:Live m f b) (hm:m≤100000):
  Calls Tryz.prog 27 #[.pointer (some ⟨M,0,none⟩),.int .i64 a,.int .i64 b] w fun e w'=>e=.returned (.bool (decide (a∈Tr.dw (mg m f) b)))∧w'=w:=by
 obtain⟨A,c,rfl⟩:=h.form;have hu:=(hw.dY b).1;obtain⟨L,hL⟩:=eX (Tr.dw (mg m f) b)
 rw[hL] at hu ⊢;clear hL;have HH:=zh h;have HW:=zh hw;have HU:=zh (And.intro hu hb);clear h hw hu hb
 go_enter Tryz.func27,Tryz.ntmps27
 go_wp2_with fail
 go_loopw [2] (fun v wr=>∃ (b':Int) (l1 l2:List Int),v=.int .i64 b'∧Hid (L=l1++l2)∧Hid (a∉l1)∧Hid (Tr.Up (mg m f) b' l2)∧Hid (Live m f b')∧wr=w) (fun v _=>(Tr.dw (mg m f) (intOf v)).length)
 case atStart=>exact⟨b,[],L,rfl,zh rfl,zh (by simp),zh HU.out.1,zh HU.out.2,rfl⟩
 case round=>
  obtain⟨b',l1,l2,rfl,H1,H2,H3,H4,rfl⟩:=hrel;rcases Live.up HW.out H3.out H4.out with ⟨e,e2⟩ | ⟨i,l',e,hi,hg,e2,hu',hl'⟩
  ·subst e;have hd:decide (a∈L)=false:=by rw[H1.out,e2,List.append_nil];exact decide_eq_false H2.out
   have HD:=zh hd;clear hd e2;go_wp2_with fail
   go_ret
   exact⟨fE HD.out.symm,rfl⟩
  ·subst e;obtain⟨k0,_⟩:=HH.out.cell;obtain⟨g,rfl,_,_,_,_,c4,_,_⟩:=HH.out.read hi;have q1:(0:Int)≤(i:Int):=by omega
   have q2:(i:Int)<(m:Int):=by omega
   by_cases ha:a=(i:Int)
   ·have ha2:(a == (i:Int))=true:=by simpa using ha
    have hd:decide (a∈L)=true:=by rw[H1.out,e2,ha];simp
    have HD:=zh hd;clear hd e2 hu' hl' ha;go_wp2_with fail
    go_ret
    exact⟨fE HD.out.symm,rfl⟩
   ·have ha2:(a == (i:Int))=false:=by simpa using ha
    have hm1:(Tr.dw (mg m f) (f i).pa).length<(Tr.dw (mg m f) (i:Int)).length:=by
     have h3:=H3.out;rw[HW.out.kU h3,HW.out.kU hu',e2];simp
    have HM:=zh hm1;have hr:L=(l1++[(i:Int)])++l'∧a∉l1++[(i:Int)]:=⟨by rw[H1.out,e2];simp,by simp;exact⟨H2.out,ha⟩⟩
    have HR:=zh hr;have X3:=zh (And.intro hu' hl');clear hm1 hr hu' hl' e2 ha;go_wp2_with fail
    go_roundw
    case rel=>exact⟨(f i).pa,l1++[(i:Int)],l',rfl,zh HR.out.1,zh HR.out.2,zh X3.out.1,zh X3.out.2,trivial⟩
    case measure=>exact HM.out
theorem zC (base M m:Nat) (vs:Value) (f:Nat→RS) (b:Int) (w:World) (h:MV base w M vs m f) (hw:Tr.WF (-1) (mg m f)) (hb:Live m f b) (hm:m≤100000):
  Calls Tryz.prog 114 #[.pointer (some ⟨M,0,none⟩),.int .i64 b] w fun e w'=>e=.returned (.int .i64 ((Tr.dw (mg m f) b).length:Nat))∧w'=w:=by
 obtain⟨A,c,rfl⟩:=h.form;have hu:=(hw.dY b).1;have Ph:=(hw.dY b).2;obtain⟨L,hL⟩:=eX (Tr.dw (mg m f) b)
 rw[hL] at hu Ph ⊢;clear hL;have HH:=zh h;have HW:=zh hw;have HU:=zh (And.intro hu hb);clear h hw hu hb
 go_enter Tryz.func114,Tryz.ntmps114
 go_wp2_with fail
 go_loopw [1,5] (fun v n wr=>∃ (b':Int) (l1 l2:List Int),v=.int .i64 b'∧n=.int .i64 (l1.length:Nat)∧Hid (L=l1++l2)∧Hid (Tr.Up (mg m f) b' l2)∧Hid (Live m f b')∧wr=w) (fun v _ _=>(Tr.dw (mg m f) (intOf v)).length)
 case atStart=>exact⟨b,[],L,rfl,rfl,zh rfl,zh HU.out.1,zh HU.out.2,rfl⟩
 case round=>
  obtain⟨b',l1,l2,rfl,rfl,H1,H3,H4,rfl⟩:=hrel;rcases Live.up HW.out H3.out H4.out with ⟨e,e2⟩ | ⟨i,l',e,hi,hg,e2,hu',hl'⟩
  ·subst e;have hd:(L.length:Int)=(l1.length:Nat):=by rw[H1.out,e2,List.append_nil]
   have HD:=zh hd;clear hd e2 Ph;go_wp2_with fail
   go_ret
   exact⟨kR HD.out.symm,rfl⟩
  ·subst e;obtain⟨k0,_⟩:=HH.out.cell;obtain⟨g,rfl,_,_,_,_,c4,_,_⟩:=HH.out.read hi;have q1:(0:Int)≤(i:Int):=by omega
   have q2:(i:Int)<(m:Int):=by omega
   have q3:l1.length+1≤128:=by have:=congrArg List.length H1.out;rw[List.length_append,e2,List.length_cons] at this;omega
   have hm1:(Tr.dw (mg m f) (f i).pa).length<(Tr.dw (mg m f) (i:Int)).length:=by
    have h3:=H3.out;rw[HW.out.kU h3,HW.out.kU hu',e2];simp
   have HM:=zh hm1;have hr:L=(l1++[(i:Int)])++l':=by rw[H1.out,e2];simp
   have HR:=zh hr;have X3:=zh (And.intro hu' hl');clear hm1 hr hu' hl' e2 Ph;go_wp2_with fail
   go_roundw
   case rel=>exact⟨(f i).pa,l1++[(i:Int)],l',rfl,by rw[List.length_append];rfl,zh HR.out,zh X3.out.1,zh X3.out.2,trivial⟩
   case measure=>exact HM.out
theorem uE (base M m:Nat) (vs:Value) (f:Nat→RS) (i:Nat) (w:World) (h:MV base w M vs m f) (hw:Tr.WF (-1) (mg m f)) (hi:i<m) (hg:(f i).gone=false) (hm:m≤100000):
  Calls Tryz.prog 95 #[.pointer (some ⟨M,0,none⟩),.int .i64 (i:Int)] w fun e w'=>e=.returned (.int .i64 (jO m f i))∧w'=w:=by
 obtain⟨A,c,rfl⟩:=h.form;have hl:=Live.pa hw hi hg;obtain⟨k0,_⟩:=h.cell;obtain⟨g,rfl,_,_,_,_,c4,_,_⟩:=h.read hi;have q1:(0:Int)≤(i:Int):=by omega
 have q2:(i:Int)<(m:Int):=by omega
 rcases hl with hp | hp
 ·have hr:jO m f i = -1:=by unfold jO;rw[if_pos (by omega)]
  rw[hr];rw[hp] at c4;clear h hr hw
  go_enter Tryz.func95,Tryz.ntmps95
  go_wp2_with fail
  go_ret
  exact⟨rfl,rfl⟩
 ·obtain⟨p,hp1,hp2,hp3,hp4⟩:=jE hp;have hmem:(i:Int)∈(f p).kids:=by
   rcases hw.pa (aQ hi hg) with h1 | ⟨n,h1,h2⟩
   ·exact absurd (show (f i).pa = -1 from h1) (by omega)
   ·rw[show (jD (f i)).pa=(p:Int) from hp1,aQ hp2 hp3] at h1;obtain rfl:=Option.some.inj h1;exact h2
  have hr:jO m f i=((f p).kids.idxOf (i:Int):Nat):=by unfold jO;rw[if_neg (by omega),hp1];rfl
  obtain⟨l1,l2,hL⟩:=List.append_of_mem hmem;have hnd:=hw.nodup _ _ (aQ hp2 hp3);have hno:(i:Int)∉l1:=by
   intro hx;have Jz:(f p).kids.Nodup:=hnd;rw[hL] at Jz;exact (List.nodup_append.1 Jz).2.2 _ hx _ (by simp) rfl
  rw[hr];have hix:(f p).kids.idxOf (i:Int)=l1.length:=by rw[hL,Tr.dW hno]
  rw[hix];rw[hp1] at c4;obtain⟨g2,e2,_,_,_,_,_,c5,_⟩:=h.read hp2;obtain rfl:g=g2:=by injection e2 with e2;injection e2
  have hkn:=h.kn hp2;have hlen:(f p).kids.length=l1.length+1+l2.length:=by rw[hL];simp;omega
  rw[hkn] at c5;have hkc:∀ j,j≤l1.length→∃ ga o,(f p).k.a=some ⟨ga,o,none⟩∧w.cell? ⟨ga,o+j,none⟩=some (.int .i64 ((f p).kids[j]?.getD 0)):=fun j hj=>by
   obtain⟨x,hx⟩:∃ x,(f p).kids[j]?=some x:=⟨(f p).kids[j]'(by omega),by simp⟩
   obtain⟨ga,o,e1,e2⟩:=h.kid hp2 hx;exact⟨ga,o,e1,by rw[hx];exact e2⟩
  obtain⟨ga,o,hA,_⟩:=hkc 0 (by omega);rw[hA] at c5;have hk2:∀ j,j<l1.length→∃ x,w.cell? ⟨ga,o+j,none⟩=some (.int .i64 x)∧(x == (i:Int))=false:=fun j hj=>by
   obtain⟨Uj,o',e1,e2⟩:=hkc j (by omega);rw[hA] at e1;obtain⟨rfl,rfl⟩:ga=Uj∧o=o':=by injection e1 with e1;injection e1 with a1 a2;exact⟨a1,a2⟩
   refine⟨_,e2,?_⟩;rw[hL,List.getElem?_append_left hj,List.getElem?_eq_getElem hj,Option.getD_some];exact beq_eq_false_iff_ne.2 fun e=>hno (e▸List.getElem_mem hj)
  have hk3:w.cell? ⟨ga,o+l1.length,none⟩=some (.int .i64 (i:Int)):=by
   obtain⟨Uj,o',e1,e2⟩:=hkc l1.length (by omega);rw[hA] at e1;obtain⟨rfl,rfl⟩:ga=Uj∧o=o':=by injection e1 with e1;injection e1 with a1 a2;exact⟨a1,a2⟩
   rw[e2,hL];simp
  obtain⟨n,hn⟩:=eX ((f p).kids.length)
  obtain⟨d,hd⟩:=eX (l1.length)
  rw[hn] at c5 hlen;rw[hd] at hlen hk2 hk3 ⊢;have p1:(0:Int)≤(p:Int):=by omega
  have p2:(p:Int)<(m:Int):=by omega
  have hdn:d<n:=by omega
  have hle:n≤100000:=by
   have:=(h.kr p hp2)
   rw[←hn];have h3:(f p).kids.length≤m:=by
    have hsub:∀ x∈(f p).kids.map Int.toNat,x<m:=fun x hx=>by
     obtain⟨y,hy,rfl⟩:=List.mem_map.1 hx;obtain⟨j,h4,h5,_⟩:=Live.kid hw hp2 hp3 hy;rw[h4];simpa using h5
    have Pj:((f p).kids.map Int.toNat).Nodup:=by
     have Jz:(f p).kids.Nodup:=hnd;rw[List.nodup_iff_pairwise_ne,List.pairwise_map];refine (List.pairwise_iff_forall_sublist.2 ?_);intro a b hab e;have ha:a∈(f p).kids:=hab.subset (by simp);have hb:b∈(f p).kids:=hab.subset (by simp);obtain⟨j,h4,_⟩:=Live.kid hw hp2 hp3 ha;obtain⟨j',h5,_⟩:=Live.kid hw hp2 hp3 hb;have:a=b:=by rw[h4,h5] at e ⊢;simp at e;rw[e]
     exact (List.pairwise_iff_forall_sublist.1 (List.nodup_iff_pairwise_ne.1 Jz)) hab this
    have:=pI m _ Pj hsub;simpa using this
   omega
  have HK:=zh hk2;clear h hw hr hkc hk2 hno hnd hmem hix hL hp hp4 hlen hn hd hA hkn
  go_enter Tryz.func95,Tryz.ntmps95
  go_wp2_with fail
  go_loopw [6] (fun v wr=>∃ j:Nat,v=.int .i64 (j:Int)∧j≤d∧wr=w) (fun v _=>d - (intOf v).toNat)
  case atStart=>exact⟨0,rfl,Nat.zero_le _,rfl⟩
  case round=>
   obtain⟨j,rfl,hj,rfl⟩:=hrel;have j1:(j:Int)<(n:Int):=by omega
   have j0:(0:Int)≤(j:Int):=by omega
   by_cases hjd:j=d
   ·subst hjd;go_wp2_with fail
    go_ret
    exact⟨rfl,rfl⟩
   ·obtain⟨x,hx,hxe⟩:=HK.out j (by omega);go_wp2_with fail
    go_roundw
    case rel=>exact⟨j+1,by go_num,by omega,trivial⟩
    case measure=>simp[intOf];omega
theorem vk (base:Nat) (v:Value) (l:List Int) (i:Int) (w:World) (h:TR w base 3 1 v l.length (ints l)) (hi:lQ i) (hl:l.length≤100000):
  Calls Tryz.prog 116 #[v,.int .i64 i] w fun e w'=>e=.returned (.int .i64 (if i<0 then -1 else (l[i.toNat]?).getD (-1)))∧w'=w:=by
 obtain⟨A,c,rfl⟩:=h.form;by_cases h0:i<0
 ·rw[if_pos h0];clear h
  go_enter Tryz.func116,Tryz.ntmps116
  go_wp2_with fail
  go_ret
  exact⟨rfl,rfl⟩
 ·rw[if_neg h0];obtain⟨k,rfl⟩:∃ k:Nat,i=(k:Int):=⟨i.toNat,by omega⟩
  rw[Int.toNat_natCast];by_cases h1:k<l.length
  ·obtain⟨x,hx⟩:∃ x,l[k]?=some x:=⟨l[k],by simp⟩
   obtain⟨g,o,rfl,_,_,hc,_⟩:=h.cells (by omega);have hc':=hc k _ (by omega) (dX hx);rw[hx,Option.getD_some];obtain⟨n,hn⟩:=eX (l.length)
   rw[hn] at h1 ⊢;have q1:(k:Int)<(n:Int):=by omega
   have q2:¬ (n:Int)≤(k:Int):=by omega
   clear h hc hx hn hl
   go_enter Tryz.func116,Tryz.ntmps116
   go_wp2_with fail
   go_ret
   exact⟨rfl,rfl⟩
  ·have hx:l[k]?=none:=by simp;omega
   rw[hx,Option.getD_none];obtain⟨n,hn⟩:=eX (l.length)
   rw[hn] at h1 ⊢;have q2:(n:Int)≤(k:Int):=by omega
   clear h hx hn hl
   go_enter Tryz.func116,Tryz.ntmps116
   go_wp2_with fail
   go_ret
   exact⟨rfl,rfl⟩
end
section
open Go.RowKit
theorem lI {m:Nat} {f:Nat→RS} (hw:Tr.WF (-1) (mg m f)) {p:Nat} (hp:p<m) (hg:(f p).gone=false):(f p).kids.length≤m:=by
 have hsub:∀ x∈(f p).kids.map Int.toNat,x<m:=fun x hx=>by
  obtain⟨y,hy,rfl⟩:=List.mem_map.1 hx;obtain⟨j,h4,h5,_⟩:=Live.kid hw hp hg hy;rw[h4];simpa using h5
 have hnd:(f p).kids.Nodup:=hw.nodup _ _ (aQ hp hg);have Pj:((f p).kids.map Int.toNat).Nodup:=by
  rw[List.nodup_iff_pairwise_ne,List.pairwise_map];refine (List.pairwise_iff_forall_sublist.2 ?_);intro a b hab e;have ha:a∈(f p).kids:=hab.subset (by simp);have hb:b∈(f p).kids:=hab.subset (by simp);obtain⟨j,h4,_⟩:=Live.kid hw hp hg ha;obtain⟨j',h5,_⟩:=Live.kid hw hp hg hb;have:a=b:=by rw[h4,h5] at e ⊢;simp at e;rw[e]
  exact (List.pairwise_iff_forall_sublist.1 (List.nodup_iff_pairwise_ne.1 hnd)) hab this
 have:=pI m _ Pj hsub;simpa using this
theorem xL (base M m:Nat) (vs:Value) (f:Nat→RS) (hw:Tr.WF (-1) (mg m f)) (hm:m≤100000):∀ h,(mg m f h).isSome→∀ w,MV base w M vs m f→
  Calls Tryz.prog 115 #[.pointer (some ⟨M,0,none⟩),.int .i64 h] w fun e w'=>e=.returned (.int .i64 (Tr.gu (mg m f) h:Nat))∧w'=w:=by
 refine hw.induct ?_;intro h ih hs w H;obtain⟨i,rfl,hi,hg,X4⟩:=jE hs;have hle:=lI hw hi hg;obtain⟨A,c,rfl⟩:=H.form;have hr:Tr.gu (mg m f) (i:Int)=oN (mg m f) (f i).kids+1:=hw.iK X4;have IC:=hw.qw (i:Int);have hkn:=H.kn hi;obtain⟨n,hn⟩:=eX ((f i).kids.length)
 rw[hn] at hkn hle;obtain⟨g0,rfl,-⟩:=H.read hi;have q1:(0:Int)≤(i:Int):=by omega
 have q2:(i:Int)<(m:Int):=by omega
 have HH:=zh H;have HI:=zh ih;have HR:=zh hr;have HB:=zh IC;have HW:=zh hw;have HN:=zh hn;have HKN:=zh hkn;have hmono:∀ l l':List Int,oN (mg m f) l≤oN (mg m f) (l++l'):=fun l l'=>by
  unfold oN;rw[List.map_append,List.foldl_append];exact (Tr.vK).1
 have HMO:=zh hmono;clear H ih hr IC hw X4 hs hn hkn hmono
 go_enter Tryz.func115,Tryz.ntmps115
 go_wp2_with fail
 go_loopw [5,6] (fun v u wr=>∃ j:Nat,v=.int .i64 (oN (mg m f) ((f i).kids.take j):Nat)∧u=.int .i64 (j:Int)∧j≤n∧wr=w) (fun _ u _=>n - (intOf u).toNat)
 case atStart=>exact⟨0,rfl,rfl,Nat.zero_le _,rfl⟩
 case round=>
  obtain⟨j,rfl,rfl,hj,rfl⟩:=hrel;have Vu:=HH.out;obtain⟨k0,_⟩:=Vu.cell;obtain⟨g,e0,_,_,_,_,_,c5,_⟩:=Vu.read hi;obtain rfl:g0=g:=by injection e0 with e0;injection e0
  rw[HKN.out] at c5;have hmx:oN (mg m f) ((f i).kids.take j)≤129:=by
   have h1:=HMO.out ((f i).kids.take j) ((f i).kids.drop j);rw[List.take_append_drop] at h1;have:=HB.out;rw[HR.out] at this;omega
  have j0:(0:Int)≤(j:Int):=by omega
  by_cases hjn:j<n
  ·have j1:(j:Int)<(n:Int):=by omega
   obtain⟨k,hk⟩:∃ k,(f i).kids[j]?=some k:=⟨(f i).kids[j]'(by rw[HN.out];exact hjn),by simp⟩
   obtain⟨ga,o,hA,ck⟩:=Vu.kid hi hk;rw[hA] at c5;have hkm:k∈(f i).kids:=List.mem_of_getElem? hk;obtain⟨i',hki,hi',hg',_⟩:=Live.kid HW.out hi hg hkm;have hcall:=HI.out _ (aQ hi hg) k hkm (by rw[hki,jX hi',hg'];rfl) wr Vu;have htk:(f i).kids.take (j+1)=(f i).kids.take j++[k]:=by
    rw[List.take_add_one,hk];rfl
   have Rj:oN (mg m f) ((f i).kids.take (j+1))=max (oN (mg m f) ((f i).kids.take j)) (Tr.gu (mg m f) k):=by rw[htk,CX]
   have X5:=HW.out.qw k;obtain⟨H1,hH1⟩:=eX (Tr.gu (mg m f) k)
   obtain⟨H0,hH0⟩:=eX (oN (mg m f) ((f i).kids.take j))
   rw[hH1] at hcall Rj X5;rw[hH0] at hmx Rj ⊢;have HX:=zh Rj;have HC:=zh hcall;clear hcall Rj htk Vu hk hkm hki hH1 hH0 hA;go_wp2_with fail;refine HC.out.mono ?_;rintro e w2 ⟨rfl,hw2⟩;obtain rfl:=hw2.symm;clear HC;go_wp2_with fail
   go_roundw
   case rel=>exact⟨j+1,by rw[HX.out];first | rfl | (congr 1;omega) | (simp;omega),by go_num,by omega,trivial⟩
   case measure=>simp[intOf];omega
  ·have sI:j=n:=by omega
   subst sI;have htk:(f i).kids.take j=(f i).kids:=by rw[List.take_of_length_le];rw[HN.out];exact Nat.le_refl _
   have hR2:Tr.gu (mg m f) (i:Int)=oN (mg m f) ((f i).kids.take j)+1:=by rw[htk];exact HR.out
   obtain⟨H0,hH0⟩:=eX (oN (mg m f) ((f i).kids.take j))
   rw[hH0] at hmx hR2 ⊢;have HR2:=zh hR2;clear htk hR2 Vu hH0;go_wp2_with fail
   go_ret
   exact⟨kR (by rw[HR2.out];omega),rfl⟩
def jP (m:Nat) (f:Nat→RS) (p h:Nat):Bool:=
 if h=0∨(h:Int)∈Tr.dw (mg m f) (p:Int) then false else if (f p).kind=2 then true else if p≠0∨(f h).kind=3 then false else !((f 0).kids.any fun k=>k != (h:Int) && (f k.toNat).kind == 2 && (f h).kind == 2)
theorem uG (base M m:Nat) (vs:Value) (f:Nat→RS) (p h:Nat) (w:World) (H:MV base w M vs m f) (hw:Tr.WF (-1) (mg m f)) (hp:p<m) (hpg:(f p).gone=false) (hh:h<m) (I4:(f 0).gone=false) (hm:m≤100000):
  Calls Tryz.prog 113 #[.pointer (some ⟨M,0,none⟩),.int .i64 (p:Int),.int .i64 (h:Int)] w fun e w'=>e=.returned (.bool (jP m f p h))∧w'=w:=by
 obtain⟨A,c,rfl⟩:=H.form;have hcon:=BF base M m (.slice A m c) f (h:Int) (p:Int) w H hw (.inr (by rw[jX hp,hpg];rfl)) hm;obtain⟨k0,_⟩:=H.cell;obtain⟨g,rfl,cp,_⟩:=H.read hp;obtain⟨g2,e2,ch,_⟩:=H.read hh;obtain rfl:g=g2:=by injection e2 with e2;injection e2
 have p0:(0:Int)≤(p:Int):=by omega
 have p1:(p:Int)<(m:Int):=by omega
 have h0:(0:Int)≤(h:Int):=by omega
 have h1:(h:Int)<(m:Int):=by omega
 have m0:(0:Int)<(m:Int):=by omega
 obtain⟨r,hr⟩:=eX (jP m f p h)
 have hr':=hr;unfold jP at hr';rw[hr];by_cases hz:h=0
 ·rw[if_pos (.inl hz)] at hr';subst hz hr';have hq:(((0:Nat):Int) == 0)=true:=rfl;clear H hw hcon hr
  go_enter Tryz.func113,Tryz.ntmps113
  go_wp2_with fail
  go_ret
  exact⟨rfl,rfl⟩
 ·have hq:((h:Int) == 0)=false:=by rw[beq_eq_false_iff_ne];omega
  by_cases hu:(h:Int)∈Tr.dw (mg m f) (p:Int)
  ·rw[if_pos (.inr hu)] at hr';rw[decide_eq_true hu] at hcon;subst hr';have HC:=zh hcon;clear H hw hcon hr hu hz
   go_enter Tryz.func113,Tryz.ntmps113
   go_wp2_with fail;refine HC.out.mono ?_;rintro e w2 ⟨rfl,hw2⟩;obtain rfl:=hw2.symm;go_wp2_with fail
   go_ret
   exact⟨rfl,rfl⟩
  ·rw[if_neg (fun x=>x.elim hz hu)] at hr';rw[decide_eq_false hu] at hcon;have HC:=zh hcon;clear hcon hu hz;by_cases hk2:(f p).kind=2
   ·rw[if_pos hk2] at hr';rw[hk2] at cp;subst hr';clear H hw hr hk2
    go_enter Tryz.func113,Tryz.ntmps113
    go_wp2_with fail;refine HC.out.mono ?_;rintro e w2 ⟨rfl,hw2⟩;obtain rfl:=hw2.symm;go_wp2_with fail
    go_ret
    exact⟨rfl,rfl⟩
   ·rw[if_neg hk2] at hr';obtain⟨kp,hkp⟩:=eX ((f p).kind)
    rw[hkp] at cp hk2;have abL:(kp == 2)=false:=by simpa using hk2
    by_cases hpz:p=0
    ·have hpq:((p:Int) != 0)=false:=by rw[hpz];rfl
     by_cases hk3:(f h).kind=3
     ·rw[if_pos (.inr hk3)] at hr';rw[hk3] at ch;subst hr';clear H hw hr hk2 hk3 hkp hpz
      go_enter Tryz.func113,Tryz.ntmps113
      go_wp2_with fail;refine HC.out.mono ?_;rintro e w2 ⟨rfl,hw2⟩;obtain rfl:=hw2.symm;go_wp2_with fail
      go_ret
      exact⟨rfl,rfl⟩
     ·rw[if_neg (fun x=>x.elim (fun e=>e hpz) hk3)] at hr';obtain⟨kh,hkh⟩:=eX ((f h).kind)
      rw[hkh] at ch hk3 hr';have abM:(kh == 3)=false:=by simpa using hk3
      have hm0:0<m:=by omega
      obtain⟨g3,e3,_,_,_,_,_,c5,_⟩:=H.read hm0;obtain rfl:g=g3:=by injection e3 with e3;injection e3
      have hkn:=H.kn hm0;have hle:=lI hw hm0 I4;obtain⟨n,hn⟩:=eX ((f 0).kids.length)
      rw[hkn,hn] at c5;rw[hn] at hle;have c5':w.cell? ⟨g,5,none⟩=some (.slice (f 0).k.a n (f 0).k.c):=by have:=c5;rwa [Nat.zero_mul,Nat.zero_add] at this
      have HH:=zh H;have HW:=zh hw;have HR:=zh hr';have HN:=zh hn;have HG:=zh I4;clear H hw hr hr' hn hk2 hk3 hkp hpz hkn c5 I4
      go_enter Tryz.func113,Tryz.ntmps113
      go_wp2_with fail;refine HC.out.mono ?_;rintro e w2 ⟨rfl,hw2⟩;obtain rfl:=hw2.symm;go_wp2_with fail
      go_loopw [7,8] (fun v u wr=>∃ j:Nat,v=.int .i64 (j:Int)∧j≤n∧Hid (((f 0).kids.take j).any (fun k=>k != (h:Int) && (f k.toNat).kind == 2 && kh == 2)=false)∧wr=w) (fun v _ _=>n - (intOf v).toNat)
      case atStart=>exact⟨0,rfl,Nat.zero_le _,zh (by simp),rfl⟩
      case round=>
       obtain⟨j,rfl,hj,HT,rfl⟩:=hrel;have j0:(0:Int)≤(j:Int):=by omega
       by_cases hjn:j<n
       ·have j1:(j:Int)<(n:Int):=by omega
        obtain⟨k,hk⟩:∃ k,(f 0).kids[j]?=some k:=⟨(f 0).kids[j]'(by rw[HN.out];exact hjn),by simp⟩
        obtain⟨ga,o,hA,ck⟩:=HH.out.kid hm0 hk;rw[hA] at c5';obtain⟨i',hki,hi',_⟩:=Live.kid HW.out hm0 HG.out (List.mem_of_getElem? hk);subst hki;obtain⟨g4,e4,X6,_⟩:=HH.out.read hi';obtain rfl:g=g4:=by injection e4 with e4;injection e4
        have i0:(0:Int)≤(i':Int):=by omega
        have i1:(i':Int)<(m:Int):=by omega
        have htk:∀ b,((i':Int) != (h:Int) && (f i').kind == 2 && kh == 2)=b→(((f 0).kids.take (j+1)).any fun k=>k != (h:Int) && (f k.toNat).kind == 2 && kh == 2)=b:=fun b e=>by
         rw[List.take_add_one,hk,List.any_append,HT.out];simpa using e
        have hfull:∀ l,(f 0).kids=(f 0).kids.take (j+1)++l→(((f 0).kids.take (j+1)).any fun k=>k != (h:Int) && (f k.toNat).kind == 2 && kh == 2)=true→r=false:=fun l e ht=>by
         rw[←HR.out,e,List.any_append,ht];rfl
        obtain⟨kk,hkk⟩:=eX ((f i').kind)
        rw[hkk] at X6 htk;have R8:=zh htk;have HF:=zh (hfull _ (List.take_append_drop (j+1) _).symm);clear hk hA htk hfull hkk;by_cases a1:(i':Int)=(h:Int)
        ·have b1:((i':Int) != (h:Int))=false:=by simpa using a1
         have Kc:=zh (R8.out false (by rw[b1];rfl));clear a1;go_wp2_with fail
         go_roundw
         case rel=>exact⟨j+1,by go_num,by omega,Kc,trivial⟩
         case measure=>simp[intOf];omega
        ·have b1:((i':Int) != (h:Int))=true:=by simpa using a1
         by_cases a2:kk=2
         ·have b2:(kk == 2)=true:=by simpa using a2
          by_cases a3:kh=2
          ·have b3:(kh == 2)=true:=by simpa using a3
           have hrf:r=false:=HF.out (R8.out true (by rw[b1,b2,b3];rfl));subst hrf;clear a1 a2 a3;go_wp2_with fail
           go_ret
           exact⟨rfl,rfl⟩
          ·have b3:(kh == 2)=false:=by simpa using a3
           have Kc:=zh (R8.out false (by rw[b3];simp));clear a1 a2 a3;go_wp2_with fail
           go_roundw
           case rel=>exact⟨j+1,by go_num,by omega,Kc,trivial⟩
           case measure=>simp[intOf];omega
         ·have b2:(kk == 2)=false:=by simpa using a2
          have Kc:=zh (R8.out false (by rw[b2];simp));clear a1 a2;go_wp2_with fail
          go_roundw
          case rel=>exact⟨j+1,by go_num,by omega,Kc,trivial⟩
          case measure=>simp[intOf];omega
       ·have sI:j=n:=by omega
        subst sI;have hrt:r=true:=by
         have h2:=HT.out;rw[List.take_of_length_le (by rw[HN.out];exact Nat.le_refl _)] at h2;rw[←HR.out,h2];rfl
        subst hrt;go_wp2_with fail
        go_ret
        exact⟨rfl,rfl⟩
    ·have hpq:((p:Int) != 0)=true:=by rw[bne_iff_ne];omega
     rw[if_pos (.inl hpz)] at hr';subst hr';clear H hw hr hk2 hkp hpz
     go_enter Tryz.func113,Tryz.ntmps113
     go_wp2_with fail;refine HC.out.mono ?_;rintro e w2 ⟨rfl,hw2⟩;obtain rfl:=hw2.symm;go_wp2_with fail
     go_ret
     exact⟨rfl,rfl⟩
end
section
open Go.RowKit
theorem rZ:(Tryz.prog.info? 95).map (fun i=>(i.zero,i.size,i.bytes))=some (some (.agg #[.string ⟨#[]⟩,.string ⟨#[]⟩]),2,32):=by kernel_rfl
abbrev AR (w:World) (base:Nat) (v:Value) (l:List (ByteArray×ByteArray)):Prop:=TR w base 95 2 v l.length (fF l)
def AT (w:World) (g:Tr.G) (av:Int→Tr.Sl):Prop:=∀ h n,g h=some n→AR w 0 (av h).v n.attrs
section
variable {base B n live:Nat} {b s root:Int} {vs vf:Value} {R:Int→Option Tr.Nd} {fr:List Nat} {w w1 w':World} {g g':Tr.G} {av iL:Int→Tr.Sl}
theorem TV.Pk {b2 size m:Nat} {e:TypeId} {v:Value} {xs:List Value} (hM:TV base w B b s vs n R vf fr live root) (h:TR w b2 e size v m xs) (h1:e≠83) (h2:e≠158) (h3:e≠3):∀ k,v.ownBlock=some k→¬ aD B vs vf k:=by
 rintro k hk (rfl | hx | hx)
 ·exact h.unlike hM.var h1 hk
 ·exact dM h hM.row h2 k hx hk
 ·exact dM h hM.free h3 k hx hk
theorem TR.nD {b2 size m:Nat} {e:TypeId} {v:Value} {xs:List Value} {F':Nat→Prop} (h:TR w b2 e size v m xs) (hM:TV base w B b s vs n R vf fr live root) (st:aB w w' (aD B vs vf) F') (h1:e≠83) (h2:e≠158) (h3:e≠3):TR w' b2 e size v m xs:=
 h.turns st.1 (hM.Pk h h1 h2 h3)
theorem AT.step {F':Nat→Prop} (h:AT w g av) (hM:TV base w B b s vs n R vf fr live root) (st:aB w w' (aD B vs vf) F'):AT w' g av:=
 fun x m e=>(h x m e).nD hM st (by decide) (by decide) (by decide)
theorem AT.below (h:AT w g av) (hb:Below w.heap.size w w'):AT w' g av:=fun x m e=>(h x m e).below hb
theorem AT.turns {S:Nat→Prop} (h:AT w g av) (ht:Turns S w w') (hn:∀ x m,g x=some m→∀ k,(av x).v.ownBlock=some k→¬ S k):AT w' g av:=fun x m e=>(h x m e).turns ht (hn x m e)
theorem AT.same (h:AT w g av) (hs:∀ x m',g' x=some m'→∃ m,g x=some m∧m.attrs=m'.attrs):AT w g' av:=fun x m' e=>by
 obtain⟨m,e1,e2⟩:=hs x m' e;rw[←e2];exact h x m e1
theorem AT.put {h:Int} {sl:Tr.Sl} {u:Tr.GN→Tr.GN} (ha:AT w g av) (hr:∀ m,g h=some m→AR w 0 sl.v (u m).attrs):AT w (Tr.cB g h u) (Tr.eT av h sl):=fun x m' e=>by
 unfold Tr.cB at e;by_cases hx:x=h
 ·subst hx;rw[if_pos rfl] at e;cases em:g x with
  | none=>rw[em] at e;cases e
  | some m=>rw[em] at e;obtain rfl:=Option.some.inj e;rw[Tr.lF];exact hr m em
 ·rw[if_neg hx] at e;rw[Tr.uQ hx];exact ha x m' e
end
theorem qF (v:Value) (l:List (ByteArray×ByteArray)) (w:World) (h:AR w 0 v l) (hl:l.length≤1000):
  Calls Tryz.prog 66 #[v] w fun e w'=>∃ v',e=.returned v'∧AR w' w.heap.size v' l∧Below w.heap.size w w':=by
 obtain⟨i0,hi0,hz0,hz1,hz2⟩:=info_parts rZ;obtain⟨A,c,rfl⟩:=h.form;have hcmp:∀ (w:World) (a:Option Addr) (n c:Nat),(binOp .eql 40 (.slice a n c) (.slice none 0 0)).run Tryz.prog w=.ok (.bool a.isNone) w:=fun w a n c=>Lib.run_eql_slice_nil w _ _ a n c 0 0 Tryz.underlying40
 go_enter Tryz.func66,Tryz.ntmps66
 cases A with
 | none=>
  have hn:l.length=0:=by
   rcases h.addr with ⟨_,hx,_⟩ | ⟨g,off,hv⟩
   ·exact hx
   ·cases hv
  have hx:l=[]:=List.eq_nil_of_length_eq_zero hn;subst hx;clear hn h;go_wp2_with fail
  go_ret
  exact⟨_,rfl,TR.nil _ _ _ _,Below.refl _ w⟩
 | some a=>
  have e1:TR (w.alloc (.cells #[] 95)) w.heap.size 95 2 (.slice (some ⟨w.heap.size,0,none⟩) 0 0) 0 []:=by
   have h:=World.ownsRow_lit (base:=w.heap.size) (e:=95) (size:=2) w #[] 0 (Nat.le_refl _) (Nat.zero_le _) rfl;exact .jN (by simpa using h)
  have hb1:=(Below.refl _ w).alloc (Nat.le_refl _) (.cells #[] 95);have s1:=(h.below hb1).source
  go_wp2_with (at_builtin;refine dK rfl _ _ 40 rfl w.heap.size 95 i0 (.agg #[.string ⟨#[]⟩,.string ⟨#[]⟩]) 2 32 Tryz.underlying40 hi0 hz0 hz1 hz2 rfl (by decide) _ 0 [] rfl e1 _ l.length (fF l) rfl (qB l) s1 (gN l) ?c3 ?c4 hb1.size ?_)
  case c3=>unfold maxLen;omega
  case c4=>omega
  intro v2 w2 o2 g2 _;have hb2:Below w.heap.size w w2:=hb1.grown g2 hb1.size (fun j hj=>by simp[Value.ownBlock] at hj;omega);(try simp only[Nat.zero_add,List.nil_append] at o2);go_wp2_with fail
  go_ret
  exact⟨_,rfl,o2,hb2⟩
theorem VO {v:Value} {w:World} {base size n:Nat} {e:TypeId} {xs:List Value} (h:TR w base e size v n xs):∃ sl:Tr.Sl,v=sl.v∧sl.n=n:=by
 obtain⟨A,c,rfl⟩:=h.form;exact⟨⟨A,n,c⟩,rfl,rfl⟩
end
section
open Go.RowKit
def fC (g:Tr.G) (h:Int):Int:=match g h with | none=>6 | some n=>if n.kind=2 then 0 else 10
theorem iW (base B:Nat) (b s root h:Int) (live n:Nat) (g:Tr.G) (av:Int→Tr.Sl) (fr:List Nat) (vs vf:Value) (w:World) (hm:TV base w B b s vs n (Tr.raw g av) vf fr live root) (hS:Sound b s n (Tr.raw g av) fr live) (hh:lQ h) (hk:∀ x m,g x=some m→m.kind≠0):
  Calls Tryz.prog 76 #[.pointer (some ⟨B,0,none⟩),.int .i64 h] w fun e w'=>e=.returned (.int .i64 (fC g h))∧Below w.heap.size w w':=by
 have hA:=iD base B b s root h live n _ fr vs vf w hm hS hh;cases eg:g h with
 | none=>
  rw[Tr.bB eg] at hA;have hr:fC g h=6:=by unfold fC;rw[eg]
  rw[hr]
  go_enter Tryz.func76,Tryz.ntmps76
  go_wp2_with fail;refine hA.mono ?_;rintro e w1 ⟨gb,o,rfl,hnp,hb⟩;have c0:w1.cell? ⟨gb,o,none⟩=some (.int .i64 0):=hnp.cells.1;clear hm hA hnp;go_wp2_with fail
  go_ret
  exact⟨rfl,hb⟩
 | some m=>
  rw[Tr.aj eg] at hA;have hk0:=hk h m eg;have q0:(m.kind == 0)=false:=bY hk0;by_cases hk2:m.kind=2
  ·have q2:(m.kind == 2)=true:=Ci hk2;have hr:fC g h=0:=by unfold fC;rw[eg];exact if_pos hk2
   rw[hr]
   go_enter Tryz.func76,Tryz.ntmps76
   go_wp2_with fail;refine hA.mono ?_;rintro e w1 ⟨gb,o,rfl,hnp,hb⟩;have c0:w1.cell? ⟨gb,o,none⟩=some (.int .i64 m.kind):=hnp.cells.1;clear hm hA hnp hk2;go_wp2_with fail
   go_ret
   exact⟨rfl,hb⟩
  ·have q2:(m.kind == 2)=false:=bY hk2;have hr:fC g h=10:=by unfold fC;rw[eg];exact if_neg hk2
   rw[hr]
   go_enter Tryz.func76,Tryz.ntmps76
   go_wp2_with fail;refine hA.mono ?_;rintro e w1 ⟨gb,o,rfl,hnp,hb⟩;have c0:w1.cell? ⟨gb,o,none⟩=some (.int .i64 m.kind):=hnp.cells.1;clear hm hA hnp hk2;go_wp2_with fail
   go_ret
   exact⟨rfl,hb⟩
def oV (l:List (ByteArray×ByteArray)) (nm:ByteArray):Nat:=l.findIdx fun p=>p.1.toList == nm.toList
def yc (l:List (ByteArray×ByteArray)) (nm:ByteArray):Int:=if oV l nm<l.length then (oV l nm:Nat) else -1
theorem Pm (l:List (ByteArray×ByteArray)) (nm:ByteArray):oV l nm≤l.length:=List.findIdx_le_length
theorem Gx {l:List (ByteArray×ByteArray)} {nm:ByteArray} {k:Nat} {p:ByteArray×ByteArray} (hp:l[k]?=some p) (hk:k≤oV l nm):((p.1.toList == nm.toList)=true→oV l nm=k)∧((p.1.toList == nm.toList)=false→k+1≤oV l nm):=by
 obtain⟨hlt,he⟩:=List.getElem?_eq_some_iff.1 hp;constructor
 ·intro h;have:oV l nm≤k:=by
   refine Nat.le_of_not_lt fun hc=>?_;have:=List.not_of_lt_findIdx (p:=fun p:ByteArray×ByteArray=>p.1.toList == nm.toList) (xs:=l) hc;rw[he] at this;rw[h] at this;exact absurd this (by simp)
  omega
 ·intro h;by_cases e:k=oV l nm
  ·exfalso;have hlt2:l.findIdx (fun p=>p.1.toList == nm.toList)<l.length:=by have e':k=l.findIdx (fun p=>p.1.toList == nm.toList):=e;omega
   have:=List.findIdx_getElem (p:=fun p:ByteArray×ByteArray=>p.1.toList == nm.toList) (xs:=l) (w:=hlt2);have e2:l[l.findIdx (fun p=>p.1.toList == nm.toList)]=p:=by
    have:l.findIdx (fun p=>p.1.toList == nm.toList)=k:=e.symm;simp only[this];exact he
   rw[e2] at this;rw[h] at this;cases this
  ·omega
theorem AR.at {w:World} {base:Nat} {A:Option Addr} {c n:Nat} {l:List (ByteArray×ByteArray)} (h:TR w base 95 2 (.slice A n c) l.length (fF l)) {k:Nat} {p:ByteArray×ByteArray} (hp:l[k]?=some p):
  ∃ g o,A=some ⟨g,o,none⟩∧n=l.length∧w.cell? ⟨g,o+k*2,none⟩=some (.string p.1)∧w.cell? ⟨g,o+k*2+1,none⟩=some (.string p.2):=by
 have hlt:=(List.getElem?_eq_some_iff.1 hp).1;obtain⟨A',c',e⟩:=h.form;injection e with e1 e2 e3;subst e1 e2 e3;obtain⟨g,o,hA,_,_,hc,_⟩:=h.cells (by omega);exact⟨g,o,hA,rfl,hc _ _ (by omega) (je l k p hp).1,by rw[Nat.add_assoc];exact hc _ _ (by omega) (je l k p hp).2⟩
theorem MH (a v nm:ByteArray) (nb:Nat) (w:World) (hb:w.cell? ⟨nb,0,none⟩=some (.string nm)) (hlt:nb<w.heap.size):
  Calls Tryz.prog 134 #[.agg #[.string a,.string v],.pointer (some ⟨nb,0,none⟩)] w fun e w'=>e=.returned (.bool (a.toList == nm.toList))∧Below w.heap.size w w':=by
 have hB:=(Below.refl _ w).alloc (Nat.le_refl _) (.cells #[.string a,.string v] 95);have c1:=hB.cell (p:=⟨nb,0,none⟩) hlt;rw[hb] at c1
 go_enter Tryz.func134,Tryz.ntmps134
 go_wp2_with fail
 go_ret
 exact⟨rfl,hB⟩
theorem MI (v:Value) (l:List (ByteArray×ByteArray)) (nm:ByteArray) (nb:Nat) (w:World) (h:AR w 0 v l) (hl:l.length≤1000) (hb:w.cell? ⟨nb,0,none⟩=some (.string nm)) (hlt:nb<w.heap.size):
  Calls Tryz.prog 133 #[v,.func (.func 134) #[] #[.pointer (some ⟨nb,0,none⟩)]] w fun e w'=>e=.returned (.int .i64 (yc l nm))∧Below w.heap.size w w':=by
 obtain⟨A,c,rfl⟩:=h.form;obtain⟨n,hn⟩:=eX (l.length)
 have hle:=Pm l nm;have HH:=zh h;have HI:Hid (yc l nm=if oV l nm<l.length then ((oV l nm:Nat):Int) else -1):=zh rfl;rw[hn] at hl;have HN:=zh hn;rw[hn];clear h hn
 go_enter Tryz.func133,Tryz.ntmps133
 go_wp2_with fail
 go_loopw [8] (fun v wr=>∃ k:Nat,v=.int .i64 k∧k≤n∧Hid (k≤oV l nm)∧Below w.heap.size w wr) (fun v _=>n - (intOf v).toNat)
 case atStart=>exact⟨0,rfl,Nat.zero_le _,zh (Nat.zero_le _),Below.refl _ _⟩
 case round=>
  obtain⟨k,rfl,hkn,H2,hbw⟩:=hrel;by_cases hk:k<n
  ·have q1:(k:Int)<(n:Int):=by omega
   have q0:(0:Int)≤(k:Int):=by omega
   obtain⟨p,hp⟩:∃ p,l[k]?=some p:=⟨l[k]'(by rw[HN.out];exact hk),by simp⟩
   obtain⟨g,o,rfl,_,c1,c2⟩:=AR.at (HH.out.below hbw) hp;have HS:=zh (Gx (nm:=nm) hp H2.out);have c3:=hbw.cell (p:=⟨nb,0,none⟩) hlt;rw[hb] at c3;have HC:=zh (MH p.1 p.2 nm nb wr c3 (Nat.lt_of_lt_of_le hlt hbw.size));clear hp;go_wp2_with fail;refine HC.out.mono ?_;rintro e w2 ⟨rfl,hb2⟩;have hb3:=hbw.trans (hb2.mono hbw.size);clear HC c1 c2 c3 hbw hb2;cases he:(p.1.toList == nm.toList) with
   | true=>
    have hr:yc l nm=(k:Int):=by rw[HI.out,HS.out.1 he,if_pos (by rw[HN.out];exact hk)]
    have HR:=zh hr;clear hr he;go_wp2_with fail
    go_ret
    exact⟨kR HR.out.symm,hb3⟩
   | false=>
    have HR:=zh (HS.out.2 he);clear he;go_wp2_with fail
    go_roundw
    case rel=>exact⟨k+1,by go_num,by omega,zh HR.out,hb3⟩
    case measure=>simp[intOf];omega
  ·have hkn':k=n:=by omega
   subst hkn';have hr:yc l nm = -1:=by rw[HI.out,if_neg (by rw[HN.out];have:=H2.out;omega)]
   have HR:=zh hr;have q1:¬ (k:Int)<(k:Int):=by omega
   clear hr;go_wp2_with fail
   go_ret
   exact⟨kR HR.out.symm,hbw⟩
theorem nY (v:Value) (l:List (ByteArray×ByteArray)) (nm:ByteArray) (w:World) (h:AR w 0 v l) (hl:l.length≤1000):
  Calls Tryz.prog 77 #[v,.string nm] w fun e w'=>e=.returned (.int .i64 (yc l nm))∧Below w.heap.size w w':=by
 have hB:=(Below.refl _ w).alloc (Nat.le_refl _) (.cells #[.string nm] 9);have HC:=zh (MI v l nm w.heap.size (w.alloc (.cells #[.string nm] 9)) (h.below hB) hl ((Whole.new w #[.string nm] 9).cell 0) (by simp));clear h
 go_enter Tryz.func77,Tryz.ntmps77
 go_wp2_with fail;refine HC.out.mono ?_;rintro e w2 ⟨rfl,hb2⟩;have HB:=zh (hB.trans (hb2.mono hB.size));clear hB hb2 HC;go_wp2_with fail
 go_ret
 exact⟨rfl,HB.out⟩
end
section
open Go Go.RowKit
section
variable {m:Nat} {f:Nat→RS}
theorem aa8 {m m':Nat} {f f':Nat→RS} (hneg:∀ x:Int,x<0→mg m f x=mg m' f' x) (h:∀ i:Nat,mg m f i=mg m' f' i):mg m f=mg m' f':=by
 funext x;by_cases hx:x<0
 ·exact hneg x hx
 ·obtain⟨i,rfl⟩:=Int.eq_ofNat_of_zero_le (by omega:0≤x);exact h i
theorem jv (m:Nat) (f:Nat→RS) (i:Nat):mg m f (i:Int)=if i<m∧(f i).gone=false then some (jD (f i)) else none:=by
 unfold mg;by_cases h:i<m∧(f i).gone=false
 ·rw[if_pos ⟨by omega,by simpa using h.1,by simpa using h.2⟩,if_pos h];simp
 ·rw[if_neg h,if_neg];rintro⟨_,h1,h2⟩;exact h ⟨by simpa using h1,by simpa using h2⟩
theorem UO {i:Nat} (hi:i<m) (hg:(f i).gone=false) {u:RS→RS} {U:Tr.GN→Tr.GN} (hgo:(u (f i)).gone=false) (h:jD (u (f i))=U (jD (f i))):mg m (aV f i u)=Tr.cB (mg m f) i U:=by
 funext x;unfold Tr.cB;by_cases hx:x<0
 ·rw[if_neg (by omega),lN hx,lN hx]
 ·obtain⟨j,rfl⟩:=Int.eq_ofNat_of_zero_le (by omega:0≤x);rw[jv];by_cases e:j=i
  ·subst e;rw[if_pos rfl,jY,if_pos ⟨hi,hgo⟩,aQ hi hg,h];rfl
  ·rw[if_neg (c:=(j:Int)=(i:Int)) (by omega),iR e,←jv]
theorem Od {i p:Nat} {sl:Tr.Sl} (hi:i<m) (hg:(f i).gone=false) (hp:p<m) (hpg:(f p).gone=false) (hpa:(f i).pa=(p:Int)) (hpi:p≠i):
  mg m (aV (aV f p fun n=>{ n with k:=sl,kids:=n.kids.erase (i:Int) }) i fun n=>{ n with pa := -1 })=Tr.tV (mg m f) i:=by
 funext x;unfold Tr.tV;by_cases hx:x<0
 ·rw[if_neg (by omega),lN hx]
  split
  ·rw[lN hx];rfl
  ·rw[lN hx]
 ·obtain⟨j,rfl⟩:=Int.eq_ofNat_of_zero_le (by omega:0≤x);have hpo:Tr.cO (mg m f) (i:Int)=(p:Int):=by rw[Tr.aM (aQ hi hg)];exact hpa
  rw[jv,hpo];by_cases e:j=i
  ·subst e;rw[if_pos (c:=(j:Int)=(j:Int)) rfl,jY,iR (fun e=>hpi e.symm),if_pos ⟨hi,hg⟩,aQ hi hg];rfl
  ·rw[if_neg (c:=(j:Int)=(i:Int)) (by omega),iR e];by_cases e2:j=p
   ·subst e2;rw[jY,if_pos ⟨hp,hpg⟩,if_pos rfl,aQ hp hpg];rfl
   ·rw[iR e2,if_neg (c:=(j:Int)=(p:Int)) (by omega),←jv]
theorem Qy {i p:Nat} {sl:Tr.Sl} {c:Int} (hi:i<m) (hg:(f i).gone=false) (hp:p<m) (hpg:(f p).gone=false) (hpi:p≠i):
  mg m (aV (aV f p fun n=>{ n with k:=sl,kids:=Tr.gW n.kids c (i:Int) }) i fun n=>{ n with pa:=p })=Tr.lq (mg m f) p i c:=by
 funext x;unfold Tr.lq;by_cases hx:x<0
 ·rw[if_neg (by omega),lN hx,if_neg (by omega),lN hx]
 ·obtain⟨j,rfl⟩:=Int.eq_ofNat_of_zero_le (by omega:0≤x);rw[jv];by_cases e:j=i
  ·subst e;rw[if_pos (c:=(j:Int)=(j:Int)) rfl,jY,iR (fun e=>hpi e.symm),if_pos ⟨hi,hg⟩,aQ hi hg];rfl
  ·rw[if_neg (c:=(j:Int)=(i:Int)) (by omega),iR e];by_cases e2:j=p
   ·subst e2;rw[jY,if_pos ⟨hp,hpg⟩,if_pos rfl,aQ hp hpg];rfl
   ·rw[iR e2,if_neg (c:=(j:Int)=(p:Int)) (by omega),←jv]
theorem Rk {x:RS} (hx:x.gone=false):mg (m+1) (iq m f x)=Tr.dI (mg m f) m (jD x):=by
 funext y;unfold Tr.dI;by_cases hy:y<0
 ·rw[if_neg (by omega),lN hy,lN hy]
 ·obtain⟨j,rfl⟩:=Int.eq_ofNat_of_zero_le (by omega:0≤y);rw[jv];by_cases e:j=m
  ·subst e;rw[if_pos rfl,dL,if_pos ⟨by omega,hx⟩]
  ·rw[if_neg (c:=(j:Int)=(m:Int)) (by omega),jv];by_cases h:j<m
   ·rw[eD h];by_cases hg:(f j).gone=false
    ·rw[if_pos ⟨by omega,hg⟩,if_pos ⟨h,hg⟩]
    ·rw[if_neg (fun e=>hg e.2),if_neg (fun e=>hg e.2)]
   ·rw[if_neg (fun e=>by omega),if_neg (fun e=>h e.1)]
end
end
section
namespace Tr
open Go Go.RowKit
def oC (R:Int→Option Nd) (l:List Int):Int→Option Nd:=fun x=>if x∈l then none else R x
def iy (g:G) (h:Int):G:=fun x=>if x∈ay g h then none else g x
theorem C8 (R:Int→Option Nd):oC R []=R:=by funext x;unfold oC;simp
theorem JA (R:Int→Option Nd) (l:List Int) (h:Int):oC R (l++[h])=pJ (oC R l) h none:=by
 funext x;unfold oC pJ;dsimp only;by_cases e:x=h
 ·rw[if_pos e,if_pos (by rw[e];simp)]
 ·rw[if_neg e];by_cases hl:x∈l
  ·rw[if_pos hl,if_pos (by simp[hl])]
  ·rw[if_neg hl,if_neg (by simp[hl,e])]
theorem MJ {R:Int→Option Nd} {l:List Int} {x:Int} (h:x∉l):oC R l x=R x:=if_neg h
section
variable {z:Int} {g:G} {h:Int} {n:GN}
theorem fH {x:Int} (hx:x∉ay g h):iy g h x=g x:=if_neg hx
theorem Gy {x:Int} (hx:x∈ay g h):iy g h x=none:=if_pos hx
theorem jd {x:Int} {m:GN} (e:iy g h x=some m):g x=some m∧x∉ay g h:=by
 unfold iy at e
 split at e
 ·cases e
 ·rename_i hx;exact⟨e,hx⟩
theorem WF.yP (w:WF z g) {x:Int} {m:GN} (e:g x=some m) (hx:x∉ay g h):m.pa∉ay g h:=fun hm=>by
 refine hx ((w.iH h x).2 ?_);rw[w.bJ e];exact List.mem_cons_of_mem _ ((w.iH h _).1 hm)
theorem WF.Gz (w:WF z g) (eh:g h=some n) (hp:n.pa=z) {x k:Int} {m:GN} (e:g x=some m) (hx:x∉ay g h) (hk:k∈m.kids):k∉ay g h:=fun hm=>by
 have h1:=(w.iH h k).1 hm;rw[w.jq e hk,List.mem_cons] at h1;rcases h1 with rfl | h1
 ·obtain⟨m',e1,e2⟩:=w.down x m _ e hk;rw[eh] at e1;obtain rfl:=Option.some.inj e1;rw[←e2,hp,w.zero] at e;cases e
 ·exact hx ((w.iH h x).2 h1)
theorem WF.Rl (w:WF z g) {x:Int} {l:List Int} (u:Up g x l) (hx:x∉ay g h):Up (iy g h) x l:=by
 induction u with
 | out e=>exact .out ((fH hx).trans e)
 | node e u ih=>exact .node ((fH hx).trans e) (ih (w.yP e hx))
theorem WF.drop (w:WF z g) (eh:g h=some n) (hp:n.pa=z):WF z (iy g h) where
 zero:=by rw[fH (w.wU h)];exact w.zero
 up x m e hm:=by
  obtain⟨e1,hx⟩:=jd e;obtain⟨p,h1,h2⟩:=w.up x m e1 hm;exact⟨p,(fH (w.yP e1 hx)).trans h1,h2⟩
 down x m k e hk:=by
  obtain⟨e1,hx⟩:=jd e;obtain⟨p,h1,h2⟩:=w.down x m k e1 hk;exact⟨p,(fH (w.Gz eh hp e1 hx hk)).trans h1,h2⟩
 nodup x m e:=w.nodup x m (jd e).1
 chain x:=by
  by_cases hx:x∈ay g h
  ·exact⟨[],.out (Gy hx),by simp⟩
  ·obtain⟨l,u,hl⟩:=w.chain x;exact⟨l,w.Rl u hx,hl⟩
theorem WF.Pn (w:WF z g) (hz:z=0) (eh:g h=some n) (hp:n.pa=z) (av:Int→Sl):oC (raw g av) (ay g h)=raw (iy g h) av:=by
 funext x;unfold oC;by_cases hx:x∈ay g h
 ·rw[if_pos hx,bB (Gy hx)]
 ·rw[if_neg hx];cases e:g x with
  | none=>rw[bB e,bB ((fH hx).trans e)]
  | some m=>
   rw[aj e,aj ((fH hx).trans e)];have hk:ak (iy g h) m.pa=ak g m.pa:=by unfold ak;rw[fH (w.yP e hx)]
   unfold bU;rw[hk]
end
theorem Im.drop {ρ:Int→Int} {a g:G} (h:Im ρ a g) (w:WF 0 g) {i:Int} {n:GN} (ei:a i=some n) (hp:n.pa = -1):Im ρ (iy a i) (iy g (ρ i)):=by
 have wa:=h.pull w;have hwk:ay g (ρ i)=(ay a i).map ρ:=h.walk w i (bP ei);have hl:∀ k∈ay a i,(a k).isSome:=fun k hk=>wa.nE hk;have hout:∀ x,(a x).isSome→x∉ay a i→ρ x∉ay g (ρ i):=fun x hx hn hm=>hn (by rw[hwk] at hm;exact (h.mem hl hx).1 hm);have hlive:∀ x,(iy a i x).isSome→(a x).isSome∧x∉ay a i:=fun x hx=>by
  obtain⟨m,e⟩:=Option.isSome_iff_exists.1 hx;obtain⟨e1,e2⟩:=jd e;exact⟨bP e1,e2⟩
 refine⟨h.zero,fun x m e=>?_,fun y hy=>?_,fun x y hx hy e=>h.inj x y (hlive x hx).1 (hlive y hy).1 e,fun x hx=>h.nz x (hlive x hx).1,(fH (wa.wU i)).trans h.neg,fun x m e=>?_,fun x m e k hk=>?_⟩
 ·obtain⟨e1,e2⟩:=jd e;rw[fH (hout x (bP e1) e2)];exact h.node x m e1
 ·obtain⟨m,e⟩:=Option.isSome_iff_exists.1 hy;obtain⟨e1,e2⟩:=jd e;obtain⟨x,hx,rfl⟩:=h.dom y (bP e1);refine⟨x,?_,rfl⟩;rw[fH (fun hm=>e2 (by rw[hwk];exact List.mem_map.2 ⟨x,hm,rfl⟩))];exact hx
 ·obtain⟨e1,e2⟩:=jd e;rcases h.pa x m e1 with h1 | h1
  ·exact .inl h1
  ·exact .inr (by rw[fH (wa.yP e1 e2)];exact h1)
 ·obtain⟨e1,e2⟩:=jd e;rw[fH (wa.Gz ei hp e1 e2 hk)];exact h.kids x m e1 k hk
end Tr
end
section
open Go.RowKit
abbrev ndW (d:Tr.Nd) (v:Value):Value:=.agg #[.int .i64 d.kind,.string d.name,v,.string d.data,.int .i64 d.pa,.int .i64 d.fi,.int .i64 d.la,.int .i64 d.pr,.int .i64 d.ne]
theorem sU (base B:Nat) (b s root h:Int) (live n:Nat) (R:Int→Option Tr.Nd) (fr:List Nat) (vs vf:Value) (d:Tr.Nd) (l:List (ByteArray×ByteArray)) (w:World) (hM:TV base w B b s vs n R vf fr live root) (hS:Sound b s n R fr live) (hh:lQ h) (hd:(R h).getD Tr.yD=d) (har:AR w 0 (.slice d.av.a d.av.n d.av.c) l) (hl:l.length≤1000):
  Calls Tryz.prog 15 #[.pointer (some ⟨B,0,none⟩),.int .i64 h] w fun e w'=>∃ v,e=.returned (.tuple #[ndW d v,.bool (R h).isSome])∧AR w' w.heap.size v l∧Below w.heap.size w w':=by
 obtain⟨w1,hw1⟩:=eX (w.alloc (.cells #[.int .i64 0,.string ⟨#[]⟩,.slice none 0 0,.string ⟨#[]⟩,.int .i64 0,.int .i64 0,.int .i64 0,.int .i64 0,.int .i64 0] 42))
 have hX1:Whole w1 w.heap.size #[.int .i64 0,.string ⟨#[]⟩,.slice none 0 0,.string ⟨#[]⟩,.int .i64 0,.int .i64 0,.int .i64 0,.int .i64 0,.int .i64 0] 42:=by rw[←hw1];exact Whole.new w _ _
 have hB1:Below w.heap.size w w1:=gP hw1;have hs1:w1.heap.size=w.heap.size+1:=by rw[←hw1];simp
 have hG:=Ny base B b s root h live n R fr vs vf w1 (hM.below hB1) hS hh;rw[hd] at hG;have X7:=har.below hB1;obtain⟨q,hq⟩:=eX ((R h).isSome)
 rw[hq] at hG ⊢;clear hM hS har hd hq
 go_enter Tryz.func15,Tryz.ntmps15
 go_wp2_with fail;(try rw[hw1]);(try go_wp2_with fail);refine hG.mono ?_;rintro e w2 ⟨rfl,hb2⟩;have hX2:=hX1.below hb2 hX1.lt;have tT:=X7.below hb2;have hB2:=hB1.trans (hb2.mono hB1.size);have hs2:=hb2.size;obtain⟨w3,hw3⟩:=eX (w2.alloc (.cells #[.int .i64 d.kind,.string d.name,.slice d.av.a d.av.n d.av.c,.string d.data,.int .i64 d.pa,.int .i64 d.fi,.int .i64 d.la,.int .i64 d.pr,.int .i64 d.ne] 42))
 have fG:Whole w3 w2.heap.size #[.int .i64 d.kind,.string d.name,.slice d.av.a d.av.n d.av.c,.string d.data,.int .i64 d.pa,.int .i64 d.fi,.int .i64 d.la,.int .i64 d.pr,.int .i64 d.ne] 42:=by rw[←hw3];exact Whole.new w2 _ _
 have SF:Below w2.heap.size w2 w3:=gP hw3;have rJ:=SF;have aR:=hX2.below rJ hX2.lt;have Fy:=tT.below rJ;have hs3:=rJ.size;have hl3:=fG.lt;have y0:w3.cell? ⟨w2.heap.size,0,none⟩=some (.int .i64 d.kind):=fG.cell 0;have y1:w3.cell? ⟨w2.heap.size,1,none⟩=some (.string d.name):=fG.cell 1;have y2:w3.cell? ⟨w2.heap.size,2,none⟩=some (.slice d.av.a d.av.n d.av.c):=fG.cell 2;have y3:w3.cell? ⟨w2.heap.size,3,none⟩=some (.string d.data):=fG.cell 3;have y4:w3.cell? ⟨w2.heap.size,4,none⟩=some (.int .i64 d.pa):=fG.cell 4;have y5:w3.cell? ⟨w2.heap.size,5,none⟩=some (.int .i64 d.fi):=fG.cell 5;have y6:w3.cell? ⟨w2.heap.size,6,none⟩=some (.int .i64 d.la):=fG.cell 6;have y7:w3.cell? ⟨w2.heap.size,7,none⟩=some (.int .i64 d.pr):=fG.cell 7;have y8:w3.cell? ⟨w2.heap.size,8,none⟩=some (.int .i64 d.ne):=fG.cell 8;have HCL:=zh (qF _ l w3 Fy hl);have eU:=zh aR;have HY3:=zh fG;have HB3:=zh (hB2.trans (rJ.mono hB2.size));clear hG hX1 hX2 aR fG SF rJ X7 tT Fy hB1 hB2 hb2;go_wp2_with fail;(try rw[hw3]);(try go_wp2_with fail);refine HCL.out.mono ?_;rintro e w4 ⟨v4,rfl,DI,hb4⟩;obtain⟨A4,c4,rfl⟩:=DI.form;have wM:=HY3.out.below hb4 hl3;have f4:=wM.free 2;have bg:=eU.out.below hb4 eU.out.lt;obtain⟨w5,fU⟩:=eX (w4.setCell ⟨w2.heap.size,2,none⟩ (.slice A4 l.length c4))
 have sG:Whole w5 w2.heap.size #[.int .i64 d.kind,.string d.name,.slice A4 l.length c4,.string d.data,.int .i64 d.pa,.int .i64 d.fi,.int .i64 d.la,.int .i64 d.pr,.int .i64 d.ne] 42:=by rw[←fU];exact wM.put 2 _
 have dR:Whole w5 w.heap.size #[.int .i64 0,.string ⟨#[]⟩,.slice none 0 0,.string ⟨#[]⟩,.int .i64 0,.int .i64 0,.int .i64 0,.int .i64 0,.int .i64 0] 42:=by rw[←fU];exact bg.other (by show w.heap.size≠w2.heap.size;omega) _
 have g5:w4.grownBy w5 (some w2.heap.size):=by rw[←fU];exact aK (au (Below.refl w4.heap.size w4) _) _ _
 have YG:w4.cell? ⟨w2.heap.size,0,none⟩=some (.int .i64 d.kind):=wM.cell 0;have YH:w4.cell? ⟨w2.heap.size,1,none⟩=some (.string d.name):=wM.cell 1;have YI:w4.cell? ⟨w2.heap.size,2,none⟩=some (.slice d.av.a d.av.n d.av.c):=wM.cell 2;have YJ:w4.cell? ⟨w2.heap.size,3,none⟩=some (.string d.data):=wM.cell 3;have YK:w4.cell? ⟨w2.heap.size,4,none⟩=some (.int .i64 d.pa):=wM.cell 4;have YL:w4.cell? ⟨w2.heap.size,5,none⟩=some (.int .i64 d.fi):=wM.cell 5;have YM:w4.cell? ⟨w2.heap.size,6,none⟩=some (.int .i64 d.la):=wM.cell 6;have YN:w4.cell? ⟨w2.heap.size,7,none⟩=some (.int .i64 d.pr):=wM.cell 7;have YO:w4.cell? ⟨w2.heap.size,8,none⟩=some (.int .i64 d.ne):=wM.cell 8;have t0:w5.cell? ⟨w2.heap.size,0,none⟩=some (.int .i64 d.kind):=sG.cell 0;have t1:w5.cell? ⟨w2.heap.size,1,none⟩=some (.string d.name):=sG.cell 1;have t2:w5.cell? ⟨w2.heap.size,2,none⟩=some (.slice A4 l.length c4):=sG.cell 2;have t3:w5.cell? ⟨w2.heap.size,3,none⟩=some (.string d.data):=sG.cell 3;have t4:w5.cell? ⟨w2.heap.size,4,none⟩=some (.int .i64 d.pa):=sG.cell 4;have t5:w5.cell? ⟨w2.heap.size,5,none⟩=some (.int .i64 d.fi):=sG.cell 5;have t6:w5.cell? ⟨w2.heap.size,6,none⟩=some (.int .i64 d.la):=sG.cell 6;have t7:w5.cell? ⟨w2.heap.size,7,none⟩=some (.int .i64 d.pr):=sG.cell 7;have t8:w5.cell? ⟨w2.heap.size,8,none⟩=some (.int .i64 d.ne):=sG.cell 8;have x0:w5.cell? ⟨w.heap.size,0,none⟩=some (.int .i64 0):=dR.cell 0;have z0:=dR.free 0;have x1:w5.cell? ⟨w.heap.size,1,none⟩=some (.string ⟨#[]⟩):=dR.cell 1;have z1:=dR.free 1;have x2:w5.cell? ⟨w.heap.size,2,none⟩=some (.slice none 0 0):=dR.cell 2;have z2:=dR.free 2;have x3:w5.cell? ⟨w.heap.size,3,none⟩=some (.string ⟨#[]⟩):=dR.cell 3;have z3:=dR.free 3;have x4:w5.cell? ⟨w.heap.size,4,none⟩=some (.int .i64 0):=dR.cell 4;have z4:=dR.free 4;have x5:w5.cell? ⟨w.heap.size,5,none⟩=some (.int .i64 0):=dR.cell 5;have z5:=dR.free 5;have x6:w5.cell? ⟨w.heap.size,6,none⟩=some (.int .i64 0):=dR.cell 6;have z6:=dR.free 6;have x7:w5.cell? ⟨w.heap.size,7,none⟩=some (.int .i64 0):=dR.cell 7;have z7:=dR.free 7;have x8:w5.cell? ⟨w.heap.size,8,none⟩=some (.int .i64 0):=dR.cell 8;have z8:=dR.free 8;obtain⟨w6,kZ,fQ,g6⟩:=Tg dR (.int .i64 d.kind) (.string d.name) (.slice A4 l.length c4) (.string d.data) (.int .i64 d.pa) (.int .i64 d.fi) (.int .i64 d.la) (.int .i64 d.pr) (.int .i64 d.ne);have k0:w6.cell? ⟨w.heap.size,0,none⟩=some (.int .i64 d.kind):=fQ.cell 0;have k1:w6.cell? ⟨w.heap.size,1,none⟩=some (.string d.name):=fQ.cell 1;have k2:w6.cell? ⟨w.heap.size,2,none⟩=some (.slice A4 l.length c4):=fQ.cell 2;have k3:w6.cell? ⟨w.heap.size,3,none⟩=some (.string d.data):=fQ.cell 3;have k4:w6.cell? ⟨w.heap.size,4,none⟩=some (.int .i64 d.pa):=fQ.cell 4;have k5:w6.cell? ⟨w.heap.size,5,none⟩=some (.int .i64 d.fi):=fQ.cell 5;have k6:w6.cell? ⟨w.heap.size,6,none⟩=some (.int .i64 d.la):=fQ.cell 6;have k7:w6.cell? ⟨w.heap.size,7,none⟩=some (.int .i64 d.pr):=fQ.cell 7;have k8:w6.cell? ⟨w.heap.size,8,none⟩=some (.int .i64 d.ne):=fQ.cell 8;have hs4:=hb4.size;have hs5:=g5.size;have X8:AR w6 w.heap.size (.slice A4 l.length c4) l:=by
  have a5:=TR.kept DI g5 (.inr fun e=>by have:=(TR.lt DI _ e).1;omega);have a6:=TR.kept a5 g6 (.inr fun e=>by have:=(TR.lt DI _ e).1;omega);exact TR.lower a6 (by omega)
 have hBE:Below w.heap.size w w6:=((HB3.out.trans (hb4.mono HB3.out.size)).grown g5 (by omega) (fun k hk=>by simp at hk;omega)).grown g6 (by omega) (fun k hk=>by simp at hk;omega);have HE:=zh (And.intro X8 hBE);clear HCL DI hb4 wM bg sG dR g5 g6 fQ X8 hBE;go_wp2_with fail;(try rw[fU]);(try go_wp2_with fail);(try rw[kZ]);(try go_wp2_with fail);refine bodyPost_ret (v:=.tuple #[ndW d (.slice A4 l.length c4),.bool q]) ?_ rfl ⟨_,rfl,HE.out.1,HE.out.2⟩;simp[results,Tryz.f15,go_sem,k0,k1,k2,k3,k4,k5,k6,k7,k8]
end
section
namespace Tr
open Go Go.RowKit
def KJ (g:G) (n:GN):Prop:=(n.kind=2∨n.kind=1∨n.kids=[])∧(n.kind=2→∀ k∈n.kids,kindOf g k≠1)∧(n.kind=1→(∀ k∈n.kids,kindOf g k=4∨kindOf g k=2)∧∀ k1∈n.kids,∀ k2∈n.kids,kindOf g k1=2→kindOf g k2=2→k1=k2)
def yC (g:G):Prop:=∀ p n,g p=some n→KJ g n
theorem KJ.sub {g g':G} {n n':GN} (h:KJ g n) (hk:n'.kind=n.kind) (hs:∀ k∈n'.kids,k∈n.kids∧kindOf g' k=kindOf g k):KJ g' n':=by
 obtain⟨h1,h2,h3⟩:=h;refine⟨?_,fun e k hk'=>?_,fun e=>⟨fun k hk'=>?_,fun k1 hk1 k2 hk2 e1 e2=>?_⟩⟩
 ·rw[hk];rcases h1 with h1 | h1 | h1
  ·exact .inl h1
  ·exact .inr (.inl h1)
  ·refine .inr (.inr ?_);cases e:n'.kids with
   | nil=>rfl
   | cons a r=>have:=(hs a (by rw[e];simp)).1;rw[h1] at this;cases this
 ·rw[(hs k hk').2];exact h2 (hk▸e) k (hs k hk').1
 ·rw[(hs k hk').2];exact (h3 (hk▸e)).1 k (hs k hk').1
 ·rw[(hs k1 hk1).2] at e1;rw[(hs k2 hk2).2] at e2;exact (h3 (hk▸e)).2 k1 (hs k1 hk1).1 k2 (hs k2 hk2).1 e1 e2
theorem yC.sub {g g':G} (h:yC g) (hs:∀ p n',g' p=some n'→∃ n,g p=some n∧n'.kind=n.kind∧∀ k∈n'.kids,k∈n.kids) (hk:∀ p n',g' p=some n'→∀ k∈n'.kids,kindOf g' k=kindOf g k):yC g':=fun p n' e=>by
 obtain⟨n,e1,e2,e3⟩:=hs p n' e;exact (h p n e1).sub e2 fun k hk'=>⟨e3 k hk',hk p n' e k hk'⟩
theorem yC.acc {g:G} (h:yC g) (w:WF 0 g) {x:Int} {m:GN} (e:g x=some m) (hp:m.pa≠0) (h1:m.kind=1→m.pa=0):dG g m.pa x=true:=by
 obtain⟨p,ep,hx⟩:=w.up x m e hp;obtain⟨a1,a2,a3⟩:=h _ p ep;have kx:=dz e;unfold dG;rw[dz ep];rcases a1 with a1 | a1 | a1
 ·rw[if_pos a1,kx];simp only[bne_iff_ne,ne_eq];exact fun e1=>hp (h1 e1)
 ·rw[if_neg (by omega),if_pos a1];rcases (a3 a1).1 x hx with b | b
  ·simp[b]
  ·have:jC g m.pa x=false:=by
    unfold jC;rw[aJ ep,List.any_eq_false];intro k hk;simp only[Bool.and_eq_true,bne_iff_ne,ne_eq,beq_iff_eq,not_and];exact fun hne hk2=>hne ((a3 a1).2 k hk x hx hk2 b)
   simp[b,this]
 ·rw[a1] at hx;cases hx
theorem GA {g:G} {h:Int} {U:GN→GN} (hU:∀ n,g h=some n→(U n).kind=n.kind) (k:Int):kindOf (cB g h U) k=kindOf g k:=by
 unfold kindOf cB;by_cases e:k=h
 ·subst e;rw[if_pos rfl];cases e1:g k with
  | none=>rfl
  | some n=>exact hU n e1
 ·rw[if_neg e]
theorem yC.put {g:G} {h:Int} {U:GN→GN} (H:yC g) (hU:∀ n,g h=some n→(U n).kind=n.kind∧(U n).kids=n.kids):yC (cB g h U):=by
 refine H.sub (fun p n' e=>?_) fun p n' _ k _=>GA (fun n e=>(hU n e).1) k;unfold cB at e
 split at e
 ·rename_i e1;subst e1;cases e2:g p with
  | none=>rw[e2] at e;cases e
  | some n=>rw[e2] at e;obtain rfl:=Option.some.inj e;exact⟨n,rfl,(hU n e2).1,fun k hk=>by rw[(hU n e2).2] at hk;exact hk⟩
 ·exact⟨n',e,rfl,fun k hk=>hk⟩
theorem xY {g:G} {h:Int} (k:Int):kindOf (iV g h) k=kindOf g k:=by
 unfold kindOf iV;by_cases e:k=h
 ·subst e;rw[if_pos rfl];cases g k<;>rfl
 ·rw[if_neg e];by_cases e1:k=cO g h
  ·rw[if_pos e1];cases g k<;>rfl
  ·rw[if_neg e1]
theorem C9 {g:G} {h p:Int} {n':GN} (e:iV g h p=some n'):∃ n,g p=some n∧n'.kind=n.kind∧(∀ k∈n'.kids,k∈n.kids)∧n'.name=n.name∧n'.attrs=n.attrs:=by
 unfold iV at e
 split at e
 ·rename_i e1;subst e1;cases e2:g p with
  | none=>rw[e2] at e;cases e
  | some n=>rw[e2] at e;obtain rfl:=Option.some.inj e;exact⟨n,rfl,rfl,fun k hk=>hk,rfl,rfl⟩
 ·split at e
  ·cases e2:g p with
   | none=>rw[e2] at e;cases e
   | some n=>rw[e2] at e;obtain rfl:=Option.some.inj e;exact⟨n,rfl,rfl,fun k hk=>List.mem_of_mem_erase hk,rfl,rfl⟩
  ·exact⟨n',e,rfl,fun k hk=>hk,rfl,rfl⟩
theorem yC.cut {g:G} (H:yC g) (h:Int):yC (dB g h):=by
 unfold dB
 split
 ·exact H
 ·exact H.sub (fun p n' e=>by obtain⟨n,a,b,c,_⟩:=C9 e;exact⟨n,a,b,c⟩) fun p n' _ k _=>xY k
theorem GD {g:G} {h:Int} (k:Int):kindOf (dB g h) k=kindOf g k:=by
 unfold dB;split
 ·rfl
 ·exact xY k
theorem kW {g:G} {p h b:Int} (k:Int):kindOf (bn g p h b) k=kindOf g k:=by
 unfold kindOf bn;by_cases e:k=h
 ·subst e;rw[if_pos rfl];cases g k<;>rfl
 ·rw[if_neg e];by_cases e1:k=p
  ·subst e1;rw[if_pos rfl];cases g k<;>rfl
  ·rw[if_neg e1]
theorem vT {l:List Int} {b x k:Int} (h:k∈gW l b x):k=x∨k∈l:=by
 induction l with
 | nil=>simp[gW] at h;exact .inl h
 | cons a r ih=>
  unfold gW at h
  split at h
  ·rcases List.mem_cons.1 h with h | h
   ·exact .inl h
   ·exact .inr h
  ·rcases List.mem_cons.1 h with h | h
   ·exact .inr (by simp[h])
   ·rcases ih h with h | h
    ·exact .inl h
    ·exact .inr (List.mem_cons_of_mem _ h)
theorem yC.link {g g1:G} {p h b:Int} (H:yC g1) (ha:dG g p h=true) (hk:∀ k,kindOf g1 k=kindOf g k) (hs:∀ n1,g1 p=some n1→∃ n,g p=some n∧∀ k∈n1.kids,k∈n.kids) (KE:∀ nh,g1 h=some nh→p=h→False):yC (bn g1 p h b):=by
 intro x n' e;by_cases hxh:x=h
 ·subst hxh;unfold bn at e;rw[if_pos rfl] at e;cases e1:g1 x with
  | none=>rw[e1] at e;cases e
  | some n=>
   rw[e1] at e;obtain rfl:=Option.some.inj e;exact (H x n e1).sub rfl fun k hk=>⟨hk,kW k⟩
 ·by_cases hxp:x=p
  ·subst hxp;unfold bn at e;rw[if_neg hxh,if_pos rfl] at e;cases e1:g1 x with
   | none=>rw[e1] at e;cases e
   | some n=>
    rw[e1] at e;obtain rfl:=Option.some.inj e;obtain⟨a1,a2,a3⟩:=H x n e1;obtain⟨no,eo,hso⟩:=hs n e1;have kx:kindOf g x=n.kind:=by rw[←hk,dz e1]
    unfold dG at ha;rw[kx] at ha;refine⟨?_,fun e2 k hk2=>?_,fun e2=>⟨fun k hk2=>?_,fun k1 hk1 k2 hk2 f1 f2=>?_⟩⟩
    ·show n.kind=2∨n.kind=1∨_;by_cases c2:n.kind=2
     ·exact .inl c2
     ·rw[if_neg c2] at ha;by_cases c1:n.kind=1
      ·exact .inr (.inl c1)
      ·rw[if_neg c1] at ha;cases ha
    ·have c2:n.kind=2:=e2;rw[if_pos c2] at ha;rw[kW];rcases vT hk2 with rfl | hk2
     ·rw[hk];simpa using ha
     ·exact a2 c2 k hk2
    ·have c1:n.kind=1:=e2;rw[if_neg (by omega),if_pos c1] at ha;rw[kW];rcases vT hk2 with rfl | hk2
     ·rw[hk];simp only[Bool.or_eq_true,beq_iff_eq,Bool.and_eq_true] at ha;rcases ha with ha | ha
      ·exact .inl ha
      ·exact .inr ha.1
     ·exact (a3 c1).1 k hk2
    ·have c1:n.kind=1:=e2;rw[if_neg (by omega),if_pos c1] at ha;rw[kW,hk] at f1 f2;have hot:kindOf g h=2→∀ k∈n.kids,kindOf g k=2→k=h:=fun h2 k hkk hk2=>by
      simp only[h2,Bool.or_eq_true,beq_iff_eq,Bool.and_eq_true,Bool.not_eq_true'] at ha;have ho:jC g x h=false:=by rcases ha with ha | ha;exact absurd ha (by decide);exact ha.2
      unfold jC at ho;rw[aJ eo,List.any_eq_false] at ho;have:=ho k (hso k hkk);simp only[Bool.and_eq_true,bne_iff_ne,ne_eq,beq_iff_eq,not_and] at this;exact Classical.byContradiction fun hne=>this hne hk2
     rcases vT hk1 with g1' | g1'<;>rcases vT hk2 with g2' | g2'
     ·rw[g1',g2']
     ·rw[g1'] at f1 ⊢;exact (hot f1 k2 g2' f2).symm
     ·rw[g2'] at f2 ⊢;exact hot f2 k1 g1' f1
     ·exact (a3 c1).2 k1 g1' k2 g2' (by rw[hk];exact f1) (by rw[hk];exact f2)
  ·have:bn g1 p h b x=g1 x:=by unfold bn;rw[if_neg hxh,if_neg hxp]
   rw[this] at e;exact (H x n' e).sub rfl fun k hk=>⟨hk,kW k⟩
theorem yC.drop {g:G} (H:yC g) (w:WF 0 g) (h:Int) (hd:∀ n,g h=some n→n.pa=0):yC (iy g h):=by
 intro p n e;unfold iy at e
 split at e
 ·cases e
 ·rename_i hp;refine (H p n e).sub rfl fun k hk=>⟨hk,?_⟩
  have hkw:k∉ay g h:=fun hw=>by
   obtain⟨m,em,hpa⟩:=w.down p n k e hk;have h1:=(w.iH h k).1 hw;rw[w.bJ em] at h1;rcases List.mem_cons.1 h1 with h1 | h1
   ·subst h1;have h2:=hd m em;rw[hpa] at h2;rw[h2,w.zero] at e;cases e
   ·rw[hpa] at h1;exact hp ((w.iH h p).2 h1)
  unfold kindOf iy;rw[if_neg hkw]
theorem yC.add {g:G} (H:yC g) (w:WF 0 g) {h:Int} {m:GN} (hn:g h=none) (hm:m.kids=[]):yC (dI g h m):=by
 intro p n e;by_cases hp:p=h
 ·subst hp;rw[bL] at e;obtain rfl:=Option.some.inj e;have hno:∀ k,k∈m.kids→False:=fun k hk=>by rw[hm] at hk;cases hk
  exact⟨Or.inr (Or.inr hm),fun _ k hk=>(hno k hk).elim,fun _=>⟨fun k hk=>(hno k hk).elim,fun k hk=>(hno k hk).elim⟩⟩
 ·rw[bQ hp] at e;refine (H p n e).sub rfl fun k hk=>⟨hk,?_⟩
  obtain⟨q,eq,_⟩:=w.down p n k e hk;have hkh:k≠h:=fun e1=>by rw[e1,hn] at eq;cases eq
  unfold kindOf;rw[bQ hkh]
theorem qZ.Rm {P:Int→Int→List Int→List Int→Prop} {xs ys l m:List Int} (h:qZ P xs ys l m) (e:xs=[]):ys=[]:=by
 cases h with
 | nil=>rfl
 | cons _ _=>cases e
theorem Cp.kid {g g':G}:∀ (f:Nat) {x y q:Int} {lx ly:List Int},Cp g g' f x y q lx ly→∀ z∈ly,∃ x' n n',x'∈lx∧g x'=some n∧g' z=some n'∧n'.kind=n.kind∧n'.name=n.name∧n'.attrs=n.attrs∧(n.kids=[]→n'.kids=[])∧∀ k∈n'.kids,∃ x2∈lx,kindOf g' k=kindOf g x2
 | 0,_,_,_,_,_,h,_,_=>h.elim
 | f+1,x,y,q,lx,ly,h,z,hz=>by
  obtain⟨n,ys,l,m,e1,e2,h3,rfl,rfl⟩:=h;have heads:∀ {xs ys l m:List Int},qZ (fun a b l m=>Cp g g' f a b y l m) xs ys l m→∀ k∈ys,∃ x2∈l,kindOf g' k=kindOf g x2:=by
   intro xs ys l m h
   induction h with
   | nil=>intro k hk;cases hk
   | @cons a b xs ys l1 m1 l m h1 h2 ih=>
    intro k hk;rcases List.mem_cons.1 hk with rfl | hk
    ·cases f with
     | zero=>exact h1.elim
     | succ f=>
      obtain⟨n2,ys2,l2,m2,k1,k2,k3,rfl,rfl⟩:=h1;exact⟨a,by simp,by rw[dz k1,dz k2]⟩
    ·obtain⟨x2,hx2,e⟩:=ih k hk;exact⟨x2,List.mem_append_right _ hx2,e⟩
  have rest:∀ {xs ys l m:List Int},qZ (fun a b l m=>Cp g g' f a b y l m) xs ys l m→∀ z∈m,∃ x' n n',x'∈l∧g x'=some n∧g' z=some n'∧n'.kind=n.kind∧n'.name=n.name∧n'.attrs=n.attrs∧(n.kids=[]→n'.kids=[])∧∀ k∈n'.kids,∃ x2∈l,kindOf g' k=kindOf g x2:=by
   intro xs ys l m h
   induction h with
   | nil=>intro z hz;cases hz
   | cons h1 h2 ih=>
    intro z hz;rcases List.mem_append.1 hz with hz | hz
    ·obtain⟨x',n,n',a1,a2,a3,a4,a4',Po,a5,a6⟩:=Cp.kid f h1 z hz;exact⟨x',n,n',List.mem_append_left _ a1,a2,a3,a4,a4',Po,a5,fun k hk=>by obtain⟨x2,b1,b2⟩:=a6 k hk;exact⟨x2,List.mem_append_left _ b1,b2⟩⟩
    ·obtain⟨x',n,n',a1,a2,a3,a4,a4',Po,a5,a6⟩:=ih z hz;exact⟨x',n,n',List.mem_append_right _ a1,a2,a3,a4,a4',Po,a5,fun k hk=>by obtain⟨x2,b1,b2⟩:=a6 k hk;exact⟨x2,List.mem_append_right _ b1,b2⟩⟩
  rcases List.mem_cons.1 hz with rfl | hz
  ·exact⟨x,n,_,by simp,e1,e2,rfl,rfl,rfl,fun e=>h3.Rm e,fun k hk=>by obtain⟨x2,b1,b2⟩:=heads h3 k hk;exact⟨x2,List.mem_cons_of_mem _ b1,b2⟩⟩
  ·obtain⟨x',n2,n',a1,a2,a3,a4,a4',Po,a5,a6⟩:=rest h3 z hz;exact⟨x',n2,n',List.mem_cons_of_mem _ a1,a2,a3,a4,a4',Po,a5,fun k hk=>by obtain⟨x2,b1,b2⟩:=a6 k hk;exact⟨x2,List.mem_cons_of_mem _ b1,b2⟩⟩
theorem yC.copy {g g':G} {F:Nat} {x d q:Int} {la ds:List Int} (H:yC g) (w:WF 0 g) (hcp:Cp g g' F x d q la ds) (h1:∀ z∈la,kindOf g z≠1) (hfr:∀ z∈ds,g z=none) (hold:∀ z,z∉ds→g' z=g z):yC g':=by
 intro p n e;by_cases hp:p∈ds
 ·obtain⟨x',n0,n',a1,a2,a3,a4,_,_,a5,a6⟩:=Cp.kid F hcp p hp;rw[a3] at e;obtain rfl:=Option.some.inj e;have hk1:n0.kind≠1:=by rw[←dz a2];exact h1 x' a1
  refine⟨?_,fun _ k hk=>?_,fun e1=>absurd (a4▸e1) hk1⟩
  ·rcases (H x' n0 a2).1 with b | b | b
   ·exact .inl (by rw[a4];exact b)
   ·exact absurd b hk1
   ·exact .inr (.inr (a5 b))
  ·obtain⟨x2,b1,b2⟩:=a6 k hk;rw[b2];exact h1 x2 b1
 ·rw[hold p hp] at e;refine (H p n e).sub rfl fun k hk=>⟨hk,?_⟩
  obtain⟨m,em,_⟩:=w.down p n k e hk;have:k∉ds:=fun hk2=>by rw[hfr k hk2] at em;cases em
  unfold kindOf;rw[hold k this]
end Tr
end
section
open Go.RowKit Go.Shelf
theorem MK (base B bt bh:Nat) (b s root h:Int) (live n:Nat) (g:Tr.G) (av:Int→Tr.Sl) (fr:List Nat) (vs vf:Value) (w:World) (hS:Sound b s n (Tr.raw g av) fr live) (hw:Tr.WF 0 g) (hh:lQ h) (hL:LS base B bt bh b s h vs n (Tr.raw g av) vf fr live root w) (ED:(Tr.ak g h).length≤100000):
  Calls Tryz.prog 67 #[.func (.func 129) #[] #[.pointer (some ⟨bt,0,none⟩),.pointer (some ⟨bh,0,none⟩)]] w fun e w'=>∃ v,e=.returned v∧w'.ownsRow w.heap.size 3 1 v (Tr.ak g h).length (ints (Tr.ak g h))∧Below w.heap.size w w':=by
 have hA:=Mx base B bt bh b s root h live n g av fr vs vf w hS hw hh hL ED;clear hL hS
 go_enter Tryz.func67,Tryz.ntmps67
 go_wp2_with fail;refine hA.mono ?_;rintro e w1 ⟨v,rfl,ho,hb⟩;obtain⟨A,c,rfl⟩:=aG (aH ho);have HO:=zh (And.intro ho hb);clear ho hb hA;go_wp2_with fail
 go_ret
 exact⟨_,rfl,HO.out.1,HO.out.2⟩
theorem ML (base B:Nat) (b s root h:Int) (live n:Nat) (g:Tr.G) (av:Int→Tr.Sl) (fr:List Nat) (vs vf:Value) (w:World) (hM:TV base w B b s vs n (Tr.raw g av) vf fr live root) (hS:Sound b s n (Tr.raw g av) fr live) (hw:Tr.WF 0 g) (hh:lQ h) (ED:(Tr.ak g h).length≤100000):
  Calls Tryz.prog 67 #[.func (.func 129) #[] #[.pointer (some ⟨w.heap.size,0,none⟩),.pointer (some ⟨w.heap.size+1,0,none⟩)]] ((w.alloc (.cells #[.pointer (some ⟨B,0,none⟩)] 29)).alloc (.cells #[.int .i64 h] 3)) fun e w'=>∃ v,e=.returned v∧w'.ownsRow w.heap.size 3 1 v (Tr.ak g h).length (ints (Tr.ak g h))∧Below w.heap.size w w':=by
 refine (MK base B w.heap.size (w.heap.size+1) b s root h live n g av fr vs vf _ hS hw hh (LS.made hM) ED).mono ?_;rintro e w1 ⟨v,rfl,ho,hb⟩;have h2:w.heap.size≤((w.alloc (.cells #[.pointer (some ⟨B,0,none⟩)] 29)).alloc (.cells #[.int .i64 h] 3)).heap.size:=by simp only[World.size_alloc];omega
 exact⟨v,rfl,iZ ho h2,(((Below.refl _ w).alloc (Nat.le_refl _) _).alloc (by simp only[World.size_alloc];omega) _).trans (hb.mono h2)⟩
theorem MN (base B bt bh:Nat) (b s root h:Int) (live n:Nat) (g:Tr.G) (av:Int→Tr.Sl) (fr:List Nat) (vs vf:Value) (w:World) (hS:Sound b s n (Tr.raw g av) fr live) (hw:Tr.WF 0 g) (hh:lQ h) (hL:LS base B bt bh b s h vs n (Tr.raw g av) vf fr live root w) (ED:(Tr.ay g h).length≤100000):
  Calls Tryz.prog 67 #[.func (.func 87) #[] #[.pointer (some ⟨bt,0,none⟩),.pointer (some ⟨bh,0,none⟩)]] w fun e w'=>∃ v,e=.returned v∧w'.ownsRow w.heap.size 3 1 v (Tr.ay g h).length (ints (Tr.ay g h))∧Below w.heap.size w w':=by
 have hA:=MB base B bt bh b s root h live n g av fr vs vf w hS hw hh hL ED;clear hL hS
 go_enter Tryz.func67,Tryz.ntmps67
 go_wp2_with fail;refine hA.mono ?_;rintro e w1 ⟨v,rfl,ho,hb⟩;obtain⟨A,c,rfl⟩:=aG (aH ho);have HO:=zh (And.intro ho hb);clear ho hb hA;go_wp2_with fail
 go_ret
 exact⟨_,rfl,HO.out.1,HO.out.2⟩
theorem MO (base B:Nat) (b s root h:Int) (live n:Nat) (g:Tr.G) (av:Int→Tr.Sl) (fr:List Nat) (vs vf:Value) (w:World) (hM:TV base w B b s vs n (Tr.raw g av) vf fr live root) (hS:Sound b s n (Tr.raw g av) fr live) (hw:Tr.WF 0 g) (hh:lQ h) (ED:(Tr.ay g h).length≤100000):
  Calls Tryz.prog 67 #[.func (.func 87) #[] #[.pointer (some ⟨w.heap.size,0,none⟩),.pointer (some ⟨w.heap.size+1,0,none⟩)]] ((w.alloc (.cells #[.pointer (some ⟨B,0,none⟩)] 29)).alloc (.cells #[.int .i64 h] 3)) fun e w'=>∃ v,e=.returned v∧w'.ownsRow w.heap.size 3 1 v (Tr.ay g h).length (ints (Tr.ay g h))∧Below w.heap.size w w':=by
 refine (MN base B w.heap.size (w.heap.size+1) b s root h live n g av fr vs vf _ hS hw hh (LS.made hM) ED).mono ?_;rintro e w1 ⟨v,rfl,ho,hb⟩;have h2:w.heap.size≤((w.alloc (.cells #[.pointer (some ⟨B,0,none⟩)] 29)).alloc (.cells #[.int .i64 h] 3)).heap.size:=by simp only[World.size_alloc];omega
 exact⟨v,rfl,iZ ho h2,(((Below.refl _ w).alloc (Nat.le_refl _) _).alloc (by simp only[World.size_alloc];omega) _).trans (hb.mono h2)⟩
theorem OB (base B:Nat) (b s root h:Int) (live n:Nat) (g:Tr.G) (av:Int→Tr.Sl) (fr:List Nat) (vs vf:Value) (w:World) (hM:TV base w B b s vs n (Tr.raw g av) vf fr live root) (hS:Sound b s n (Tr.raw g av) fr live) (hw:Tr.WF 0 g) (hh:lQ h) (ED:(Tr.ak g h).length≤100000):
  Calls Tryz.prog 16 #[.pointer (some ⟨B,0,none⟩),.int .i64 h] w fun e w'=>∃ v,e=.returned v∧w'.ownsRow w.heap.size 3 1 v (Tr.ak g h).length (ints (Tr.ak g h))∧Below w.heap.size w w':=by
 have hA:=pK B h w;have HC:=zh (ML base B b s root h live n g av fr vs vf w hM hS hw hh ED);clear hM hS hw
 go_enter Tryz.func16,Tryz.ntmps16
 go_wp2_with fail;refine hA.mono ?_;rintro e w1 ⟨rfl,rfl⟩;clear hA;go_wp2_with fail;refine HC.out.mono ?_;rintro e w2 ⟨v,rfl,ho,hb⟩;obtain⟨A,c,rfl⟩:=aG (aH ho);have HO:=zh (And.intro ho hb);clear ho hb HC;go_wp2_with fail
 go_ret
 exact⟨_,rfl,HO.out.1,HO.out.2⟩
end
section
open Go.RowKit
def oJ (m k:Nat):List Int:=(List.range' m k).map fun i:Nat=>(i:Int)
theorem nK {m k:Nat} {z:Int}:z∈oJ m k↔∃ i:Nat,z=(i:Int)∧m≤i∧i<m+k:=by
 unfold oJ;rw[List.mem_map];constructor
 ·rintro⟨i,hi,rfl⟩;rw[List.mem_range'_1] at hi;exact⟨i,rfl,hi.1,hi.2⟩
 ·rintro⟨i,rfl,h1,h2⟩;exact⟨i,List.mem_range'_1.2 ⟨h1,h2⟩,rfl⟩
theorem JB (m k:Nat):(oJ m k).Nodup:=by
 unfold oJ;have h:(List.range' m k).Nodup:=List.nodup_range';generalize List.range' m k=l at h
 induction l with
 | nil=>simp
 | cons a r ih=>
  rw[List.nodup_cons] at h;rw[List.map_cons,List.nodup_cons];refine⟨fun hm=>?_,ih h.2⟩;obtain⟨b,hb,e⟩:=List.mem_map.1 hm;have:b=a:=by omega
  exact h.1 (this▸hb)
theorem Pp (m k j:Nat):oJ m (k+j)=oJ m k++oJ (m+k) j:=by
 unfold oJ;rw[←List.map_append,List.range'_append_1]
theorem Cn (m k:Nat):oJ m (k+1)=(m:Int)::oJ (m+1) k:=by
 unfold oJ;rw[List.range'_succ,List.map_cons]
theorem FY (m k:Nat):(oJ m k).length=k:=by unfold oJ;simp
def Full (a:Tr.G):Nat→Int→Prop
 | 0,_=>False
 | F+1,x=>∃ n,a x=some n∧∀ k∈n.kids,Full a F k
theorem Full.live {a:Tr.G}:∀ {F:Nat} {x:Int},Full a F x→(a x).isSome
 | 0,_,h=>h.elim
 | F+1,x,⟨n,e,_⟩=>by rw[e];rfl
theorem Full.all {a:Tr.G}:∀ (F:Nat) (x:Int),Full a F x→∀ z∈Tr.walk a F x,(a z).isSome∧∀ n,a z=some n→∀ k∈n.kids,(a k).isSome
 | 0,_,h=>h.elim
 | F+1,x,⟨n,e,hk⟩=>by
  rw[Tr.walk,e];intro z hz;rcases List.mem_cons.1 hz with rfl | hz
  ·exact⟨by rw[e];rfl,fun n' e' k hk'=>by rw[e] at e';obtain rfl:=Option.some.inj e';exact (hk k hk').live⟩
  ·obtain⟨k,hk1,hk2⟩:=List.mem_flatMap.1 hz;exact Full.all F k (hk k hk1) z hk2
theorem Full.same {a a':Tr.G}:∀ (F:Nat) (x:Int),Full a F x→(∀ z∈Tr.walk a F x,a' z=a z)→Full a' F x
 | 0,_,h,_=>h.elim
 | F+1,x,⟨n,e,hk⟩,h=>by
  have hx:x∈Tr.walk a (F+1) x:=by rw[Tr.walk,e];simp
  refine⟨n,by rw[h x hx];exact e,fun k hk'=>Full.same F k (hk k hk') fun z hz=>h z ?_⟩;rw[Tr.walk,e];exact List.mem_cons_of_mem _ (List.mem_flatMap.2 ⟨k,hk',hz⟩)
theorem Tr.WF.full {z:Int} {a:Tr.G} (w:Tr.WF z a):∀ (F:Nat) (x:Int),F+(Tr.dw a x).length=129→(a x).isSome→Full a F x
 | 0,x,h,_=>by have:=(w.dY x).2;omega
 | F+1,x,h,hx=>by
  obtain⟨n,e⟩:=Option.isSome_iff_exists.1 hx;refine⟨n,e,fun k hk=>w.full F k ?_ ?_⟩
  ·rw[w.jq e hk,List.length_cons];omega
  ·obtain⟨q,e1,_⟩:=w.down x n k e hk;rw[e1];rfl
def Bq (a:Tr.G) (q c:Int):Tr.G:=fun z=>if z=q then (a z).map fun n=>{ n with kids:=n.kids++[c] } else a z
theorem GH (a:Tr.G) (q c z:Int):(Bq a q c z).isSome=(a z).isSome:=by
 unfold Bq;split
 ·cases a z<;>rfl
 ·rfl
def FB (m:Nat) (f f':Nat→RS) (q:Int) (c:Int):Prop:=(∀ i,i<m→(i:Int)≠q→f' i=f i)∧∀ i,i<m→(i:Int)=q→∃ sl,f' i={ f i with k:=sl,kids:=(f i).kids++[c] }
theorem FB.tree {m k:Nat} {f f':Nat→RS} {q c:Int} (h:FB m f f' q c):∀ z,z∉oJ m k→mg (m+k) f' z=Bq (mg m f) q c z:=by
 intro z hz;unfold Bq;by_cases h0:z<0
 ·rw[lN h0,lN h0];split<;>rfl
 ·obtain⟨i,rfl⟩:=Int.eq_ofNat_of_zero_le (by omega:0≤z);show mg (m+k) f' (i:Int)=_;rw[jv,jv];by_cases hi:i<m
  ·by_cases hq:(i:Int)=q
   ·obtain⟨sl,e⟩:=h.2 i hi hq;rw[if_pos hq,e];by_cases hg:(f i).gone=false
    ·rw[if_pos ⟨by omega,hg⟩,if_pos ⟨hi,hg⟩];rfl
    ·rw[if_neg (fun h=>hg h.2),if_neg (fun h=>hg h.2)];rfl
   ·rw[if_neg hq,h.1 i hi hq];by_cases hg:(f i).gone=false
    ·rw[if_pos ⟨by omega,hg⟩,if_pos ⟨hi,hg⟩]
    ·rw[if_neg (fun h=>hg h.2),if_neg (fun h=>hg h.2)]
  ·have hk:¬ i<m+k:=fun h=>hz (nK.2 ⟨i,rfl,by omega,h⟩);have e1:(if i<m∧(f i).gone=false then some (jD (f i)) else none)=none:=if_neg (fun h=>hi h.1);rw[if_neg (fun h:i<m+k∧(f' i).gone=false=>hk h.1),e1]
   split<;>rfl
theorem xR {m k:Nat} {f:Nat→RS} {z:Int} (h:z∈oJ m k):mg m f z=none:=by
 obtain⟨i,rfl,h1,_⟩:=nK.1 h;rw[jv,if_neg (fun h=>by omega)]
def YP (base M m:Nat) (vs:Value) (f:Nat→RS) (x q:Int) (F:Nat) (w:World) (e:Ending) (w':World):Prop:=
 ∃ (u vs':Value) (k:Nat) (f':Nat→RS),e=.returned u∧MV base w' M vs' (m+k) f'∧aB w w' (aC M vs m f) (aC M vs' (m+k) f')∧FB m f f' q (m:Int)∧(∀ i,m≤i→i<m+k→(f' i).gone=false)∧
  Tr.Cp (mg m f) (mg (m+k) f') F x (m:Int) q (Tr.walk (mg m f) F x) (oJ m k)
def FC (base M m nb:Nat) (vs:Value) (f:Nat→RS) (x:Nat) (q:Int) (F:Nat) (w:World) (pre:List Int) (W:World):Prop:=
 ∃ (vs':Value) (k:Nat) (fj:Nat→RS) (ys l:List Int),MV base W M vs' (m+1+k) fj∧aB w W (aC M vs m f) (aC M vs' (m+1+k) fj)∧FB m f fj q (m:Int)∧(∀ i,m≤i→i<m+1+k→(fj i).gone=false)∧
  Tr.uR (-1) (mg m f) (Bq (mg m f) q (m:Int)) (jD (f x)) F (m:Int) q (mg (m+1+k) fj) pre ys l (oJ (m+1) k)∧Whole W nb #[.int .i64 (f x).kind,.string (f x).name,.slice (f x).a.a (f x).at'.length (f x).a.c,.string (f x).data,.int .i64 (f x).pa,.slice (f x).k.a (f x).kids.length (f x).k.c,.bool (f x).gone] 67∧¬ aC M vs' (m+1+k) fj nb
section
variable {base M m nb:Nat} {vs:Value} {f:Nat→RS} {x:Nat} {q:Int} {F:Nat} {w W W':World} {pre:List Int}
theorem FC.next (H:FC base M m nb vs f x q F w pre W) (hx:x<m) (hF:Full (mg m f) (F+1) (x:Int)) (hxg:(f x).gone=false) (hq:q∉Tr.walk (mg m f) (F+1) (x:Int)) {kid:Int} (hk:kid∈(f x).kids) (hpre:pre++[kid] <+: (f x).kids)
  (hcap:m+(Tr.walk (mg m f) (F+1) (x:Int)).length≤100000) (hat:∀ i:Nat,(i:Int)∈Tr.walk (mg m f) (F+1) (x:Int)→(f i).at'.length≤1000) (hkl:(f x).kids.length≤100000)
  (IH:∀ (m:Nat) (vs:Value) (f:Nat→RS) (x q:Int) (w:World),MV base w M vs m f→Full (mg m f) F x→(q = -1∨∃ n,mg m f q=some n∧n.kids.length≤100000)→q∉Tr.walk (mg m f) F x→m+(Tr.walk (mg m f) F x).length≤100000→(∀ i:Nat,(i:Int)∈Tr.walk (mg m f) F x→(f i).at'.length≤1000)→
   Calls Tryz.prog 158 #[.pointer (some ⟨M,0,none⟩),.int .i64 x,.int .i64 q,.bool true] w (YP base M m vs f x q F w)):
  Calls Tryz.prog 158 #[.pointer (some ⟨M,0,none⟩),.int .i64 kid,.int .i64 (m:Int),.bool true] W fun e w'=>(∃ u,e=.returned u)∧FC base M m nb vs f x q F w (pre++[kid]) w':=by
 obtain⟨vs',k,fj,ys,l,h1,h2,h3,h4,h5,h6,h7⟩:=H;obtain⟨nx,Qe,WM⟩:=hF;have X9:=Qe;rw[aQ hx hxg] at X9;obtain rfl:=Option.some.inj X9;have Y6:=WM kid hk;have SG:∀ y∈(f x).kids,∀ z∈Tr.walk (mg m f) F y,z∈Tr.walk (mg m f) (F+1) (x:Int):=fun y hy z hz=>by
  rw[Tr.walk,Qe];exact List.mem_cons_of_mem _ (List.mem_flatMap.2 ⟨y,hy,hz⟩)
 have hall:=Full.all F kid Y6;have hne:∀ z∈Tr.walk (mg m f) F kid,z≠q:=fun z hz e=>hq (e▸SG kid hk z hz);have hsame:∀ z∈Tr.walk (mg m f) F kid,mg (m+1+k) fj z=mg m f z:=fun z hz=>by
  have h0:=(hall z hz).1;rw[h5.old z (fun hm=>by rw[(h5.fresh z hm).1] at h0;cases h0)];unfold Bq;rw[if_neg (hne z hz)]
 have hag:Tr.walk (mg (m+1+k) fj) F kid=Tr.walk (mg m f) F kid:=Tr.qp F kid hsame (fun z hz=>(hall z hz).2) Y6.live;have hys:ys.length≤100000:=by
  have h8:=h5.cp.heads;have h9:=hpre.length_le;rw[List.length_append,List.length_singleton] at h9;omega
 have hml:l=pre.flatMap (Tr.walk (mg m f) F):=(h5.cp.flat (u:=Tr.walk (mg m f) F) (v:=Tr.walk (mg (m+1+k) fj) F) fun a b l' m' h=>Tr.Cp.walks F F h (Nat.le_refl _)).1.symm;have hlk:l.length=k:=by rw[h5.cp.len fun a b l' m' h=>Tr.Cp.len F h,FY]
 have hcap2:m+1+k+(Tr.walk (mg (m+1+k) fj) F kid).length≤100000:=by
  rw[hag];obtain⟨rest,hr⟩:=hpre;have e1:(Tr.walk (mg m f) (F+1) (x:Int)).length=1+((f x).kids.flatMap (Tr.walk (mg m f) F)).length:=by rw[Tr.walk,Qe];simp only[List.length_cons];rw[show (jD (f x)).kids=(f x).kids from rfl];omega
  rw[←hr,List.flatMap_append,List.flatMap_append,List.length_append,List.length_append,←hml,hlk] at e1;have e2:([kid].flatMap (Tr.walk (mg m f) F)).length=(Tr.walk (mg m f) F kid).length:=by simp
  omega
 refine (IH (m+1+k) vs' fj kid (m:Int) W h1 (Full.same F kid Y6 hsame) (.inr ⟨_,h5.self,hys⟩) (fun hm=>?_) hcap2 (fun i hi=>?_)).mono ?_
 ·rw[hag] at hm;have:=(hall _ hm).1;rw[jv,if_neg (fun h=>by omega)] at this;cases this
 ·rw[hag] at hi;have hi0:=(hall _ hi).1;obtain⟨j,ej,hj,_⟩:=jE hi0;have:i=j:=by omega
  subst this;rw[h3.1 i hj (hne _ hi)];exact hat i (SG kid hk _ hi)
 ·rintro e w' ⟨u,vs2,k2,f2,rfl,j1,j2,j3,j4,j5⟩;refine⟨⟨u,rfl⟩,vs2,k+k2,f2,ys++[((m+1+k:Nat):Int)],l++Tr.walk (mg m f) F kid,by rw[←Nat.add_assoc];exact j1,by rw[←Nat.add_assoc];exact h2.trans j2,?_,?_,?_,?_,?_⟩
  ·constructor
   ·intro i hi hiq;rw[j3.1 i (by omega) (by omega)];exact h3.1 i hi hiq
   ·intro i hi hiq;obtain⟨sl,e⟩:=h3.2 i hi hiq;exact⟨sl,by rw[j3.1 i (by omega) (by omega),e]⟩
  ·intro i h1 h2;by_cases hi:i<m+1+k
   ·by_cases him:i=m
    ·obtain⟨sl,e⟩:=j3.2 i hi (by omega);rw[e];exact h4 i h1 hi
    ·rw[j3.1 i hi (by omega)];exact h4 i h1 hi
   ·exact j4 i (by omega) (by omega)
  ·rw[Pp,←Nat.add_assoc];refine h5.step (fun z=>GH _ _ _ z) (lk:=Tr.walk (mg (m+1+k) fj) F kid) (fun z hz=>⟨(hall z hz).1,?_⟩) j5 (JB _ _) (fun z hz=>⟨xR hz,?_⟩) (fun z hz=>?_) Y6.live (fun z hz=>(hall z hz).2)
   ·unfold Bq;rw[if_neg (hne z hz)]
   ·obtain⟨i,rfl,_⟩:=nK.1 hz;omega
   ·rw[j3.tree (k:=k2) z hz];unfold Bq;by_cases e:z=(m:Int)
    ·rw[if_pos e,if_pos e,e]
    ·rw[if_neg e,if_neg e]
  ·have Ya:=h6.lt;exact h6.turns j2.1 h7
  ·intro hm;have Ya:=h6.lt;rw[←Nat.add_assoc] at hm;exact h7 (j2.2 nb Ya hm)
end
end
end Go.Proofs.YtnbaadpgbcklaaaGreatDoor
