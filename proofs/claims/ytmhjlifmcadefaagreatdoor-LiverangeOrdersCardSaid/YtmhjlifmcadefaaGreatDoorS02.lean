/- Part of a proof about trees. -/
import Derived.BigQuiet
import Derived.Deep.CutBlock
import Derived.Deep.DeepCutAuto
import Derived.Deep.DrawnRows
import Derived.Deep.LoopGhost
import Derived.Deep.QuietTactic
import Derived.Deep.RegionHeld3
import Derived.Deep.RegionWith
import Derived.Lib.MinMax
import Derived.Lib.OwnBridge
import Derived.Lib.SliceRun
import Derived.Test.YtmhjlifmcadefaaGreatDoorProg
import Derived.Test.YtmhjlifmcadefaaGreatDoorGNIn4
import Derived.Test.YtmhjlifmcadefaaGreatDoorGNRm2
import Derived.Test.YtmhjlifmcadefaaGreatDoorGShRev
set_option linter.unusedVariables false
set_option linter.unusedSimpArgs false
set_option linter.unusedSectionVars false
set_option maxHeartbeats 4000000
set_option maxRecDepth 100000
namespace Go.Proofs.YtmhjlifmcadefaaGreatDoor
section
open Go Go.RowKit
def jZ (x:RS):Tr.GN:=⟨x.kind,x.name,x.at',x.data,x.pa,x.kids⟩
def mg (m:Nat) (f:Nat→RS):Tr.G:=fun h=>if 0≤h∧h.toNat<m∧(f h.toNat).gone=false then some (jZ (f h.toNat)) else none
section
variable {m:Nat} {f:Nat→RS}
theorem aM {i:Nat} (hi:i<m) (hg:(f i).gone=false):mg m f (i:Int)=some (jZ (f i)):=by
 unfold mg;rw[if_pos ⟨by omega,by simpa using hi,by simpa using hg⟩];simp
theorem Tq {i:Nat} (hg:(f i).gone=true):mg m f (i:Int)=none:=by
 unfold mg;rw[if_neg];rintro⟨_,_,h⟩;simp[hg] at h
theorem jk {h:Int} {n:Tr.GN} (e:mg m f h=some n):∃ i:Nat,h=(i:Int)∧i<m∧(f i).gone=false∧n=jZ (f i):=by
 unfold mg at e
 split at e
 ·rename_i hc;injection e with e;exact⟨h.toNat,by omega,hc.2.1,hc.2.2,e.symm⟩
 ·cases e
theorem jv {h:Int} (e:(mg m f h).isSome):∃ i:Nat,h=(i:Int)∧i<m∧(f i).gone=false∧mg m f h=some (jZ (f i)):=by
 obtain⟨n,hn⟩:=Option.isSome_iff_exists.1 e;obtain⟨i,h1,h2,h3,h4⟩:=jk hn;exact⟨i,h1,h2,h3,h4▸hn⟩
theorem lQ {h:Int} (hh:h<0):mg m f h=none:=by
 unfold mg;rw[if_neg (by omega)]
theorem jm {i:Nat} (hi:i<m):(mg m f (i:Int)).isSome=!(f i).gone:=by
 cases e:(f i).gone with
 | true=>rw[Tq e];rfl
 | false=>rw[aM hi e];rfl
def Live (m:Nat) (f:Nat→RS) (h:Int):Prop:=h = -1∨(mg m f h).isSome
theorem Live.pa (hw:Tr.WF (-1) (mg m f)) {i:Nat} (hi:i<m) (hg:(f i).gone=false):Live m f (f i).pa:=by
 rcases hw.pa (aM hi hg) with h | ⟨p,h,_⟩
 ·exact .inl h
 ·exact .inr (by rw[show (f i).pa=(jZ (f i)).pa from rfl,h];rfl)
theorem Live.kid (hw:Tr.WF (-1) (mg m f)) {i:Nat} (hi:i<m) (hg:(f i).gone=false) {k:Int} (hk:k∈(f i).kids):∃ j:Nat,k=(j:Int)∧j<m∧(f j).gone=false∧(f j).pa=(i:Int):=by
 obtain⟨n,h1,h2⟩:=hw.down _ _ k (aM hi hg) hk;obtain⟨j,h3,h4,h5,h6⟩:=jk h1;exact⟨j,h3,h4,h5,by rw[h6] at h2;exact h2⟩
theorem Live.up (hw:Tr.WF (-1) (mg m f)) {h:Int} {l:List Int} (u:Tr.Up (mg m f) h l) (hl:Live m f h):(h = -1∧l=[])∨∃ (i:Nat) (l':List Int),h=(i:Int)∧i<m∧(f i).gone=false∧l=h::l'∧Tr.Up (mg m f) (f i).pa l'∧Live m f (f i).pa:=by
 cases u with
 | out e=>
  rcases hl with h1 | h1
  ·exact .inl ⟨h1,rfl⟩
  ·rw[e] at h1;cases h1
 | @node _ n l' e u=>
  obtain⟨i,h1,h2,h3,h4⟩:=jk e;refine .inr ⟨i,l',h1,h2,h3,rfl,?_,Live.pa hw h2 h3⟩;rw[h4] at u;exact u
end
def jQ (m:Nat) (f:Nat→RS) (i:Nat):Int:=if (f i).pa<0 then -1 else ((f (f i).pa.toNat).kids.idxOf (i:Int):Nat)
end
section
open Go.RowKit
section
variable {base M m:Nat} {vs:Value} {f:Nat→RS} {w:World}
theorem MV.read {A:Option Addr} {c i:Nat} (h:MV base w M (.slice A m c) m f) (hi:i<m):∃ g,A=some ⟨g,0,none⟩∧w.cell? ⟨g,i*7,none⟩=some (.int .i64 (f i).kind)∧w.cell? ⟨g,i*7+1,none⟩=some (.string (f i).name)∧w.cell? ⟨g,i*7+2,none⟩=some (.slice (f i).a.a (f i).a.n (f i).a.c)∧w.cell? ⟨g,i*7+3,none⟩=some (.string (f i).data)∧w.cell? ⟨g,i*7+4,none⟩=some (.int .i64 (f i).pa)∧w.cell? ⟨g,i*7+5,none⟩=some (.slice (f i).k.a (f i).k.n (f i).k.c)∧w.cell? ⟨g,i*7+6,none⟩=some (.bool (f i).gone):=by
 obtain⟨g,rfl,_,_,_,hc⟩:=h.node (by omega);exact⟨g,rfl,(hc i 0 hi (by omega)).1,(hc i 1 hi (by omega)).1,(hc i 2 hi (by omega)).1,(hc i 3 hi (by omega)).1,(hc i 4 hi (by omega)).1,(hc i 5 hi (by omega)).1,(hc i 6 hi (by omega)).1⟩
theorem MV.kn (h:MV base w M vs m f) {i:Nat} (hi:i<m):(f i).k.n=(f i).kids.length:=by
 obtain⟨A,c,e⟩:=(h.kr i hi).form;unfold Tr.Sl.v at e;injection e
theorem MV.an (h:MV base w M vs m f) {i:Nat} (hi:i<m):(f i).a.n=(f i).at'.length:=by
 obtain⟨A,c,e⟩:=(h.ar i hi).form;unfold Tr.Sl.v at e;injection e
theorem MV.kid (h:MV base w M vs m f) {i j:Nat} (hi:i<m) {k:Int} (hj:(f i).kids[j]?=some k):∃ g o,(f i).k.a=some ⟨g,o,none⟩∧w.cell? ⟨g,o+j,none⟩=some (.int .i64 k):=by
 have hr:=h.kr i hi;have hlt:=(List.getElem?_eq_some_iff.1 hj).1;have e:(f i).k.v=.slice (f i).k.a (f i).kids.length (f i).k.c:=by unfold Tr.Sl.v;rw[h.kn hi]
 rw[e] at hr;obtain⟨g,o,hA,_,_,hc,_⟩:=hr.cells (by omega);exact⟨g,o,hA,hc j _ (by omega) (eu hj)⟩
end
theorem bX (base M m:Nat) (vs:Value) (f:Nat→RS) (i:Nat) (w:World) (h:MV base w M vs m f) (hi:i<m) (hm:m≤100000):
  Calls Tryz.prog 9 #[.pointer (some ⟨M,0,none⟩),.int .i64 (i:Int)] w fun e w'=>e=.returned (.bool (!(f i).gone))∧w'=w:=by
 obtain⟨A,c,rfl⟩:=h.form;obtain⟨k0,_⟩:=h.cell;obtain⟨g,rfl,_,_,_,_,_,_,c6⟩:=h.read hi;have q1:(0:Int)≤(i:Int):=by omega
 have q2:(i:Int)<(m:Int):=by omega
 clear h
 go_enter Tryz.func9,Tryz.ntmps9
 go_wp2_with fail
 go_ret
 exact⟨rfl,rfl⟩
theorem CG (base M m:Nat) (vs:Value) (f:Nat→RS) (a b:Int) (w:World) (h:MV base w M vs m f) (hw:Tr.WF (-1) (mg m f)) (hb:Live m f b) (hm:m≤100000):
  Calls Tryz.prog 122 #[.pointer (some ⟨M,0,none⟩),.int .i64 a,.int .i64 b] w fun e w'=>e=.returned (.bool (decide (a∈Tr.aS (mg m f) b)))∧w'=w:=by
 obtain⟨A,c,rfl⟩:=h.form;have hu:=(hw.cu b).1;obtain⟨L,hL⟩:=eX (Tr.aS (mg m f) b)
 rw[hL] at hu ⊢;clear hL;have HH:=zh h;have HW:=zh hw;have HU:=zh (And.intro hu hb);clear h hw hu hb
 go_enter Tryz.func122,Tryz.ntmps122
 go_wp2_with fail
 go_loopw [2] (fun v wr=>∃ (b':Int) (l1 l2:List Int),v=.int .i64 b'∧Hid (L=l1++l2)∧Hid (a∉l1)∧Hid (Tr.Up (mg m f) b' l2)∧Hid (Live m f b')∧wr=w) (fun v _=>(Tr.aS (mg m f) (intOf v)).length)
 case atStart=>exact⟨b,[],L,rfl,zh rfl,zh (by simp),zh HU.out.1,zh HU.out.2,rfl⟩
 case round=>
  obtain⟨b',l1,l2,rfl,H1,H2,H3,H4,rfl⟩:=hrel;rcases Live.up HW.out H3.out H4.out with ⟨e,e2⟩ | ⟨i,l',e,hi,hg,e2,hu',hl'⟩
  ·subst e;have hd:decide (a∈L)=false:=by rw[H1.out,e2,List.append_nil];exact decide_eq_false H2.out
   have HD:=zh hd;clear hd e2;go_wp2_with fail
   go_ret
   exact⟨gQ HD.out.symm,rfl⟩
  ·subst e;obtain⟨k0,_⟩:=HH.out.cell;obtain⟨g,rfl,_,_,_,_,c4,_,_⟩:=HH.out.read hi;have q1:(0:Int)≤(i:Int):=by omega
   have q2:(i:Int)<(m:Int):=by omega
   by_cases ha:a=(i:Int)
   ·have ha2:(a == (i:Int))=true:=by simpa using ha
    have hd:decide (a∈L)=true:=by rw[H1.out,e2,ha];simp
    have HD:=zh hd;clear hd e2 hu' hl' ha;go_wp2_with fail
    go_ret
    exact⟨gQ HD.out.symm,rfl⟩
   ·have ha2:(a == (i:Int))=false:=by simpa using ha
    have hm1:(Tr.aS (mg m f) (f i).pa).length<(Tr.aS (mg m f) (i:Int)).length:=by
     have h3:=H3.out;rw[HW.out.gU h3,HW.out.gU hu',e2];simp
    have HM:=zh hm1;have hr:L=(l1++[(i:Int)])++l'∧a∉l1++[(i:Int)]:=⟨by rw[H1.out,e2];simp,by simp;exact⟨H2.out,ha⟩⟩
    have HR:=zh hr;have U6:=zh (And.intro hu' hl');clear hm1 hr hu' hl' e2 ha;go_wp2_with fail
    go_roundw
    case rel=>exact⟨(f i).pa,l1++[(i:Int)],l',rfl,zh HR.out.1,zh HR.out.2,zh U6.out.1,zh U6.out.2,trivial⟩
    case measure=>exact HM.out
theorem Ay (base M m:Nat) (vs:Value) (f:Nat→RS) (b:Int) (w:World) (h:MV base w M vs m f) (hw:Tr.WF (-1) (mg m f)) (hb:Live m f b) (hm:m≤100000):
  Calls Tryz.prog 80 #[.pointer (some ⟨M,0,none⟩),.int .i64 b] w fun e w'=>e=.returned (.int .i64 ((Tr.aS (mg m f) b).length:Nat))∧w'=w:=by
 obtain⟨A,c,rfl⟩:=h.form;have hu:=(hw.cu b).1;have Qz:=(hw.cu b).2;obtain⟨L,hL⟩:=eX (Tr.aS (mg m f) b)
 rw[hL] at hu Qz ⊢;clear hL;have HH:=zh h;have HW:=zh hw;have HU:=zh (And.intro hu hb);clear h hw hu hb
 go_enter Tryz.func80,Tryz.ntmps80
 go_wp2_with fail
 go_loopw [1,5] (fun v n wr=>∃ (b':Int) (l1 l2:List Int),v=.int .i64 b'∧n=.int .i64 (l1.length:Nat)∧Hid (L=l1++l2)∧Hid (Tr.Up (mg m f) b' l2)∧Hid (Live m f b')∧wr=w) (fun v _ _=>(Tr.aS (mg m f) (intOf v)).length)
 case atStart=>exact⟨b,[],L,rfl,rfl,zh rfl,zh HU.out.1,zh HU.out.2,rfl⟩
 case round=>
  obtain⟨b',l1,l2,rfl,rfl,H1,H3,H4,rfl⟩:=hrel;rcases Live.up HW.out H3.out H4.out with ⟨e,e2⟩ | ⟨i,l',e,hi,hg,e2,hu',hl'⟩
  ·subst e;have hd:(L.length:Int)=(l1.length:Nat):=by rw[H1.out,e2,List.append_nil]
   have HD:=zh hd;clear hd e2 Qz;go_wp2_with fail
   go_ret
   exact⟨kD HD.out.symm,rfl⟩
  ·subst e;obtain⟨k0,_⟩:=HH.out.cell;obtain⟨g,rfl,_,_,_,_,c4,_,_⟩:=HH.out.read hi;have q1:(0:Int)≤(i:Int):=by omega
   have q2:(i:Int)<(m:Int):=by omega
   have q3:l1.length+1≤128:=by have:=congrArg List.length H1.out;rw[List.length_append,e2,List.length_cons] at this;omega
   have hm1:(Tr.aS (mg m f) (f i).pa).length<(Tr.aS (mg m f) (i:Int)).length:=by
    have h3:=H3.out;rw[HW.out.gU h3,HW.out.gU hu',e2];simp
   have HM:=zh hm1;have hr:L=(l1++[(i:Int)])++l':=by rw[H1.out,e2];simp
   have HR:=zh hr;have U6:=zh (And.intro hu' hl');clear hm1 hr hu' hl' e2 Qz;go_wp2_with fail
   go_roundw
   case rel=>exact⟨(f i).pa,l1++[(i:Int)],l',rfl,by rw[List.length_append];rfl,zh HR.out,zh U6.out.1,zh U6.out.2,trivial⟩
   case measure=>exact HM.out
theorem uR (base M m:Nat) (vs:Value) (f:Nat→RS) (i:Nat) (w:World) (h:MV base w M vs m f) (hw:Tr.WF (-1) (mg m f)) (hi:i<m) (hg:(f i).gone=false) (hm:m≤100000):
  Calls Tryz.prog 83 #[.pointer (some ⟨M,0,none⟩),.int .i64 (i:Int)] w fun e w'=>e=.returned (.int .i64 (jQ m f i))∧w'=w:=by
 obtain⟨A,c,rfl⟩:=h.form;have hl:=Live.pa hw hi hg;obtain⟨k0,_⟩:=h.cell;obtain⟨g,rfl,_,_,_,_,c4,_,_⟩:=h.read hi;have q1:(0:Int)≤(i:Int):=by omega
 have q2:(i:Int)<(m:Int):=by omega
 rcases hl with hp | hp
 ·have hr:jQ m f i = -1:=by unfold jQ;rw[if_pos (by omega)]
  rw[hr];rw[hp] at c4;clear h hr hw
  go_enter Tryz.func83,Tryz.ntmps83
  go_wp2_with fail
  go_ret
  exact⟨rfl,rfl⟩
 ·obtain⟨p,hp1,hp2,hp3,hp4⟩:=jv hp;have hmem:(i:Int)∈(f p).kids:=by
   rcases hw.pa (aM hi hg) with h1 | ⟨n,h1,h2⟩
   ·exact absurd (show (f i).pa = -1 from h1) (by omega)
   ·rw[show (jZ (f i)).pa=(p:Int) from hp1,aM hp2 hp3] at h1;obtain rfl:=Option.some.inj h1;exact h2
  have hr:jQ m f i=((f p).kids.idxOf (i:Int):Nat):=by unfold jQ;rw[if_neg (by omega),hp1];rfl
  obtain⟨l1,l2,hL⟩:=List.append_of_mem hmem;have hnd:=hw.nodup _ _ (aM hp2 hp3);have hno:(i:Int)∉l1:=by
   intro hx;have Kq:(f p).kids.Nodup:=hnd;rw[hL] at Kq;exact (List.nodup_append.1 Kq).2.2 _ hx _ (by simp) rfl
  rw[hr];have hix:(f p).kids.idxOf (i:Int)=l1.length:=by rw[hL,Tr.dU hno]
  rw[hix];rw[hp1] at c4;obtain⟨g2,e2,_,_,_,_,_,c5,_⟩:=h.read hp2;obtain rfl:g=g2:=by injection e2 with e2;injection e2
  have hkn:=h.kn hp2;have hlen:(f p).kids.length=l1.length+1+l2.length:=by rw[hL];simp;omega
  rw[hkn] at c5;have hkc:∀ j,j≤l1.length→∃ ga o,(f p).k.a=some ⟨ga,o,none⟩∧w.cell? ⟨ga,o+j,none⟩=some (.int .i64 ((f p).kids[j]?.getD 0)):=fun j hj=>by
   obtain⟨x,hx⟩:∃ x,(f p).kids[j]?=some x:=⟨(f p).kids[j]'(by omega),by simp⟩
   obtain⟨ga,o,e1,e2⟩:=h.kid hp2 hx;exact⟨ga,o,e1,by rw[hx];exact e2⟩
  obtain⟨ga,o,hA,_⟩:=hkc 0 (by omega);rw[hA] at c5;have hk2:∀ j,j<l1.length→∃ x,w.cell? ⟨ga,o+j,none⟩=some (.int .i64 x)∧(x == (i:Int))=false:=fun j hj=>by
   obtain⟨Ws,o',e1,e2⟩:=hkc j (by omega);rw[hA] at e1;obtain⟨rfl,rfl⟩:ga=Ws∧o=o':=by injection e1 with e1;injection e1 with a1 a2;exact⟨a1,a2⟩
   refine⟨_,e2,?_⟩;rw[hL,List.getElem?_append_left hj,List.getElem?_eq_getElem hj,Option.getD_some];exact beq_eq_false_iff_ne.2 fun e=>hno (e▸List.getElem_mem hj)
  have hk3:w.cell? ⟨ga,o+l1.length,none⟩=some (.int .i64 (i:Int)):=by
   obtain⟨Ws,o',e1,e2⟩:=hkc l1.length (by omega);rw[hA] at e1;obtain⟨rfl,rfl⟩:ga=Ws∧o=o':=by injection e1 with e1;injection e1 with a1 a2;exact⟨a1,a2⟩
   rw[e2,hL];simp
  obtain⟨n,hn⟩:=eX ((f p).kids.length)
  obtain⟨d,hd⟩:=eX (l1.length)
  rw[hn] at c5 hlen;rw[hd] at hlen hk2 hk3 ⊢;have p1:(0:Int)≤(p:Int):=by omega
  have p2:(p:Int)<(m:Int):=by omega
  have hdn:d<n:=by omega
  have hle:n≤100000:=by
   have:=(h.kr p hp2)
   rw[←hn];have h3:(f p).kids.length≤m:=by
    have hsub:∀ x∈(f p).kids.map Int.toNat,x<m:=fun x hx=>by
     obtain⟨y,hy,rfl⟩:=List.mem_map.1 hx;obtain⟨j,h4,h5,_⟩:=Live.kid hw hp2 hp3 hy;rw[h4];simpa using h5
    have QA:((f p).kids.map Int.toNat).Nodup:=by
     have Kq:(f p).kids.Nodup:=hnd;rw[List.nodup_iff_pairwise_ne,List.pairwise_map];refine (List.pairwise_iff_forall_sublist.2 ?_);intro a b hab e;have ha:a∈(f p).kids:=hab.subset (by simp);have hb:b∈(f p).kids:=hab.subset (by simp);obtain⟨j,h4,_⟩:=Live.kid hw hp2 hp3 ha;obtain⟨j',h5,_⟩:=Live.kid hw hp2 hp3 hb;have:a=b:=by rw[h4,h5] at e ⊢;simp at e;rw[e]
     exact (List.pairwise_iff_forall_sublist.1 (List.nodup_iff_pairwise_ne.1 Kq)) hab this
    have:=pI m _ QA hsub;simpa using this
   omega
  have HK:=zh hk2;clear h hw hr hkc hk2 hno hnd hmem hix hL hp hp4 hlen hn hd hA hkn
  go_enter Tryz.func83,Tryz.ntmps83
  go_wp2_with fail
  go_loopw [6] (fun v wr=>∃ j:Nat,v=.int .i64 (j:Int)∧j≤d∧wr=w) (fun v _=>d - (intOf v).toNat)
  case atStart=>exact⟨0,rfl,Nat.zero_le _,rfl⟩
  case round=>
   obtain⟨j,rfl,hj,rfl⟩:=hrel;have j1:(j:Int)<(n:Int):=by omega
   have j0:(0:Int)≤(j:Int):=by omega
   by_cases hjd:j=d
   ·subst hjd;go_wp2_with fail
    go_ret
    exact⟨rfl,rfl⟩
   ·obtain⟨x,hx,hxe⟩:=HK.out j (by omega);go_wp2_with fail
    go_roundw
    case rel=>exact⟨j+1,by go_num,by omega,trivial⟩
    case measure=>simp[intOf];omega
theorem vN (base:Nat) (v:Value) (l:List Int) (i:Int) (w:World) (h:TR w base 3 1 v l.length (ints l)) (hi:gI i) (hl:l.length≤100000):
  Calls Tryz.prog 82 #[v,.int .i64 i] w fun e w'=>e=.returned (.int .i64 (if i<0 then -1 else (l[i.toNat]?).getD (-1)))∧w'=w:=by
 obtain⟨A,c,rfl⟩:=h.form;by_cases h0:i<0
 ·rw[if_pos h0];clear h
  go_enter Tryz.func82,Tryz.ntmps82
  go_wp2_with fail
  go_ret
  exact⟨rfl,rfl⟩
 ·rw[if_neg h0];obtain⟨k,rfl⟩:∃ k:Nat,i=(k:Int):=⟨i.toNat,by omega⟩
  rw[Int.toNat_natCast];by_cases h1:k<l.length
  ·obtain⟨x,hx⟩:∃ x,l[k]?=some x:=⟨l[k],by simp⟩
   obtain⟨g,o,rfl,_,_,hc,_⟩:=h.cells (by omega);have hc':=hc k _ (by omega) (eu hx);rw[hx,Option.getD_some];obtain⟨n,hn⟩:=eX (l.length)
   rw[hn] at h1 ⊢;have q1:(k:Int)<(n:Int):=by omega
   have q2:¬ (n:Int)≤(k:Int):=by omega
   clear h hc hx hn hl
   go_enter Tryz.func82,Tryz.ntmps82
   go_wp2_with fail
   go_ret
   exact⟨rfl,rfl⟩
  ·have hx:l[k]?=none:=by simp;omega
   rw[hx,Option.getD_none];obtain⟨n,hn⟩:=eX (l.length)
   rw[hn] at h1 ⊢;have q2:(n:Int)≤(k:Int):=by omega
   clear h hx hn hl
   go_enter Tryz.func82,Tryz.ntmps82
   go_wp2_with fail
   go_ret
   exact⟨rfl,rfl⟩
end
section
open Go.RowKit
theorem eP {m:Nat} {f:Nat→RS} (hw:Tr.WF (-1) (mg m f)) {p:Nat} (hp:p<m) (hg:(f p).gone=false):(f p).kids.length≤m:=by
 have hsub:∀ x∈(f p).kids.map Int.toNat,x<m:=fun x hx=>by
  obtain⟨y,hy,rfl⟩:=List.mem_map.1 hx;obtain⟨j,h4,h5,_⟩:=Live.kid hw hp hg hy;rw[h4];simpa using h5
 have hnd:(f p).kids.Nodup:=hw.nodup _ _ (aM hp hg);have QA:((f p).kids.map Int.toNat).Nodup:=by
  rw[List.nodup_iff_pairwise_ne,List.pairwise_map];refine (List.pairwise_iff_forall_sublist.2 ?_);intro a b hab e;have ha:a∈(f p).kids:=hab.subset (by simp);have hb:b∈(f p).kids:=hab.subset (by simp);obtain⟨j,h4,_⟩:=Live.kid hw hp hg ha;obtain⟨j',h5,_⟩:=Live.kid hw hp hg hb;have:a=b:=by rw[h4,h5] at e ⊢;simp at e;rw[e]
  exact (List.pairwise_iff_forall_sublist.1 (List.nodup_iff_pairwise_ne.1 hnd)) hab this
 have:=pI m _ QA hsub;simpa using this
theorem yu (base M m:Nat) (vs:Value) (f:Nat→RS) (hw:Tr.WF (-1) (mg m f)) (hm:m≤100000):∀ h,(mg m f h).isSome→∀ w,MV base w M vs m f→
  Calls Tryz.prog 81 #[.pointer (some ⟨M,0,none⟩),.int .i64 h] w fun e w'=>e=.returned (.int .i64 (Tr.gM (mg m f) h:Nat))∧w'=w:=by
 refine hw.induct ?_;intro h ih hs w H;obtain⟨i,rfl,hi,hg,U7⟩:=jv hs;have hle:=eP hw hi hg;obtain⟨A,c,rfl⟩:=H.form;have hr:Tr.gM (mg m f) (i:Int)=oQ (mg m f) (f i).kids+1:=hw.kE U7;have QB:=hw.qz (i:Int);have hkn:=H.kn hi;obtain⟨n,hn⟩:=eX ((f i).kids.length)
 rw[hn] at hkn hle;obtain⟨g0,rfl,-⟩:=H.read hi;have q1:(0:Int)≤(i:Int):=by omega
 have q2:(i:Int)<(m:Int):=by omega
 have HH:=zh H;have HI:=zh ih;have HR:=zh hr;have HB:=zh QB;have HW:=zh hw;have HN:=zh hn;have HKN:=zh hkn;have hmono:∀ l l':List Int,oQ (mg m f) l≤oQ (mg m f) (l++l'):=fun l l'=>by
  unfold oQ;rw[List.map_append,List.foldl_append];exact (Tr.wm).1
 have HMO:=zh hmono;clear H ih hr QB hw U7 hs hn hkn hmono
 go_enter Tryz.func81,Tryz.ntmps81
 go_wp2_with fail
 go_loopw [5,6] (fun v u wr=>∃ j:Nat,v=.int .i64 (oQ (mg m f) ((f i).kids.take j):Nat)∧u=.int .i64 (j:Int)∧j≤n∧wr=w) (fun _ u _=>n - (intOf u).toNat)
 case atStart=>exact⟨0,rfl,rfl,Nat.zero_le _,rfl⟩
 case round=>
  obtain⟨j,rfl,rfl,hj,rfl⟩:=hrel;have XR:=HH.out;obtain⟨k0,_⟩:=XR.cell;obtain⟨g,e0,_,_,_,_,_,c5,_⟩:=XR.read hi;obtain rfl:g0=g:=by injection e0 with e0;injection e0
  rw[HKN.out] at c5;have hmx:oQ (mg m f) ((f i).kids.take j)≤129:=by
   have h1:=HMO.out ((f i).kids.take j) ((f i).kids.drop j);rw[List.take_append_drop] at h1;have:=HB.out;rw[HR.out] at this;omega
  have j0:(0:Int)≤(j:Int):=by omega
  by_cases hjn:j<n
  ·have j1:(j:Int)<(n:Int):=by omega
   obtain⟨k,hk⟩:∃ k,(f i).kids[j]?=some k:=⟨(f i).kids[j]'(by rw[HN.out];exact hjn),by simp⟩
   obtain⟨ga,o,hA,ck⟩:=XR.kid hi hk;rw[hA] at c5;have hkm:k∈(f i).kids:=List.mem_of_getElem? hk;obtain⟨i',hki,hi',hg',_⟩:=Live.kid HW.out hi hg hkm;have hcall:=HI.out _ (aM hi hg) k hkm (by rw[hki,jm hi',hg'];rfl) wr XR;have htk:(f i).kids.take (j+1)=(f i).kids.take j++[k]:=by
    rw[List.take_add_one,hk];rfl
   have Tt:oQ (mg m f) ((f i).kids.take (j+1))=max (oQ (mg m f) ((f i).kids.take j)) (Tr.gM (mg m f) k):=by rw[htk,D8]
   have ZP:=HW.out.qz k;obtain⟨H1,hH1⟩:=eX (Tr.gM (mg m f) k)
   obtain⟨H0,hH0⟩:=eX (oQ (mg m f) ((f i).kids.take j))
   rw[hH1] at hcall Tt ZP;rw[hH0] at hmx Tt ⊢;have HX:=zh Tt;have HC:=zh hcall;clear hcall Tt htk XR hk hkm hki hH1 hH0 hA;go_wp2_with fail;refine HC.out.mono ?_;rintro e w2 ⟨rfl,hw2⟩;obtain rfl:=hw2.symm;clear HC;go_wp2_with fail
   go_roundw
   case rel=>exact⟨j+1,by rw[HX.out];first | rfl | (congr 1;omega) | (simp;omega),by go_num,by omega,trivial⟩
   case measure=>simp[intOf];omega
  ·have rX:j=n:=by omega
   subst rX;have htk:(f i).kids.take j=(f i).kids:=by rw[List.take_of_length_le];rw[HN.out];exact Nat.le_refl _
   have hR2:Tr.gM (mg m f) (i:Int)=oQ (mg m f) ((f i).kids.take j)+1:=by rw[htk];exact HR.out
   obtain⟨H0,hH0⟩:=eX (oQ (mg m f) ((f i).kids.take j))
   rw[hH0] at hmx hR2 ⊢;have HR2:=zh hR2;clear htk hR2 XR hH0;go_wp2_with fail
   go_ret
   exact⟨kD (by rw[HR2.out];omega),rfl⟩
def jR (m:Nat) (f:Nat→RS) (p h:Nat):Bool:=
 if h=0∨(h:Int)∈Tr.aS (mg m f) (p:Int) then false else if (f p).kind=2 then true else if p≠0∨(f h).kind=3 then false else !((f 0).kids.any fun k=>k != (h:Int) && (f k.toNat).kind == 2 && (f h).kind == 2)
theorem uT (base M m:Nat) (vs:Value) (f:Nat→RS) (p h:Nat) (w:World) (H:MV base w M vs m f) (hw:Tr.WF (-1) (mg m f)) (hp:p<m) (hpg:(f p).gone=false) (hh:h<m) (JK:(f 0).gone=false) (hm:m≤100000):
  Calls Tryz.prog 79 #[.pointer (some ⟨M,0,none⟩),.int .i64 (p:Int),.int .i64 (h:Int)] w fun e w'=>e=.returned (.bool (jR m f p h))∧w'=w:=by
 obtain⟨A,c,rfl⟩:=H.form;have hcon:=CG base M m (.slice A m c) f (h:Int) (p:Int) w H hw (.inr (by rw[jm hp,hpg];rfl)) hm;obtain⟨k0,_⟩:=H.cell;obtain⟨g,rfl,cp,_⟩:=H.read hp;obtain⟨g2,e2,ch,_⟩:=H.read hh;obtain rfl:g=g2:=by injection e2 with e2;injection e2
 have p0:(0:Int)≤(p:Int):=by omega
 have p1:(p:Int)<(m:Int):=by omega
 have h0:(0:Int)≤(h:Int):=by omega
 have h1:(h:Int)<(m:Int):=by omega
 have m0:(0:Int)<(m:Int):=by omega
 obtain⟨r,hr⟩:=eX (jR m f p h)
 have hr':=hr;unfold jR at hr';rw[hr];by_cases hz:h=0
 ·rw[if_pos (.inl hz)] at hr';subst hz hr';have hq:(((0:Nat):Int) == 0)=true:=rfl;clear H hw hcon hr
  go_enter Tryz.func79,Tryz.ntmps79
  go_wp2_with fail
  go_ret
  exact⟨rfl,rfl⟩
 ·have hq:((h:Int) == 0)=false:=by rw[beq_eq_false_iff_ne];omega
  by_cases hu:(h:Int)∈Tr.aS (mg m f) (p:Int)
  ·rw[if_pos (.inr hu)] at hr';rw[decide_eq_true hu] at hcon;subst hr';have HC:=zh hcon;clear H hw hcon hr hu hz
   go_enter Tryz.func79,Tryz.ntmps79
   go_wp2_with fail;refine HC.out.mono ?_;rintro e w2 ⟨rfl,hw2⟩;obtain rfl:=hw2.symm;go_wp2_with fail
   go_ret
   exact⟨rfl,rfl⟩
  ·rw[if_neg (fun x=>x.elim hz hu)] at hr';rw[decide_eq_false hu] at hcon;have HC:=zh hcon;clear hcon hu hz;by_cases hk2:(f p).kind=2
   ·rw[if_pos hk2] at hr';rw[hk2] at cp;subst hr';clear H hw hr hk2
    go_enter Tryz.func79,Tryz.ntmps79
    go_wp2_with fail;refine HC.out.mono ?_;rintro e w2 ⟨rfl,hw2⟩;obtain rfl:=hw2.symm;go_wp2_with fail
    go_ret
    exact⟨rfl,rfl⟩
   ·rw[if_neg hk2] at hr';obtain⟨kp,hkp⟩:=eX ((f p).kind)
    rw[hkp] at cp hk2;have abY:(kp == 2)=false:=by simpa using hk2
    by_cases hpz:p=0
    ·have hpq:((p:Int) != 0)=false:=by rw[hpz];rfl
     by_cases hk3:(f h).kind=3
     ·rw[if_pos (.inr hk3)] at hr';rw[hk3] at ch;subst hr';clear H hw hr hk2 hk3 hkp hpz
      go_enter Tryz.func79,Tryz.ntmps79
      go_wp2_with fail;refine HC.out.mono ?_;rintro e w2 ⟨rfl,hw2⟩;obtain rfl:=hw2.symm;go_wp2_with fail
      go_ret
      exact⟨rfl,rfl⟩
     ·rw[if_neg (fun x=>x.elim (fun e=>e hpz) hk3)] at hr';obtain⟨kh,hkh⟩:=eX ((f h).kind)
      rw[hkh] at ch hk3 hr';have abZ:(kh == 3)=false:=by simpa using hk3
      have hm0:0<m:=by omega
      obtain⟨g3,e3,_,_,_,_,_,c5,_⟩:=H.read hm0;obtain rfl:g=g3:=by injection e3 with e3;injection e3
      have hkn:=H.kn hm0;have hle:=eP hw hm0 JK;obtain⟨n,hn⟩:=eX ((f 0).kids.length)
      rw[hkn,hn] at c5;rw[hn] at hle;have c5':w.cell? ⟨g,5,none⟩=some (.slice (f 0).k.a n (f 0).k.c):=by have:=c5;rwa [Nat.zero_mul,Nat.zero_add] at this
      have HH:=zh H;have HW:=zh hw;have HR:=zh hr';have HN:=zh hn;have HG:=zh JK;clear H hw hr hr' hn hk2 hk3 hkp hpz hkn c5 JK
      go_enter Tryz.func79,Tryz.ntmps79
      go_wp2_with fail;refine HC.out.mono ?_;rintro e w2 ⟨rfl,hw2⟩;obtain rfl:=hw2.symm;go_wp2_with fail
      go_loopw [7,8] (fun v u wr=>∃ j:Nat,v=.int .i64 (j:Int)∧j≤n∧Hid (((f 0).kids.take j).any (fun k=>k != (h:Int) && (f k.toNat).kind == 2 && kh == 2)=false)∧wr=w) (fun v _ _=>n - (intOf v).toNat)
      case atStart=>exact⟨0,rfl,Nat.zero_le _,zh (by simp),rfl⟩
      case round=>
       obtain⟨j,rfl,hj,HT,rfl⟩:=hrel;have j0:(0:Int)≤(j:Int):=by omega
       by_cases hjn:j<n
       ·have j1:(j:Int)<(n:Int):=by omega
        obtain⟨k,hk⟩:∃ k,(f 0).kids[j]?=some k:=⟨(f 0).kids[j]'(by rw[HN.out];exact hjn),by simp⟩
        obtain⟨ga,o,hA,ck⟩:=HH.out.kid hm0 hk;rw[hA] at c5';obtain⟨i',hki,hi',_⟩:=Live.kid HW.out hm0 HG.out (List.mem_of_getElem? hk);subst hki;obtain⟨g4,e4,ZQ,_⟩:=HH.out.read hi';obtain rfl:g=g4:=by injection e4 with e4;injection e4
        have i0:(0:Int)≤(i':Int):=by omega
        have i1:(i':Int)<(m:Int):=by omega
        have htk:∀ b,((i':Int) != (h:Int) && (f i').kind == 2 && kh == 2)=b→(((f 0).kids.take (j+1)).any fun k=>k != (h:Int) && (f k.toNat).kind == 2 && kh == 2)=b:=fun b e=>by
         rw[List.take_add_one,hk,List.any_append,HT.out];simpa using e
        have hfull:∀ l,(f 0).kids=(f 0).kids.take (j+1)++l→(((f 0).kids.take (j+1)).any fun k=>k != (h:Int) && (f k.toNat).kind == 2 && kh == 2)=true→r=false:=fun l e ht=>by
         rw[←HR.out,e,List.any_append,ht];rfl
        obtain⟨kk,hkk⟩:=eX ((f i').kind)
        rw[hkk] at ZQ htk;have UA:=zh htk;have HF:=zh (hfull _ (List.take_append_drop (j+1) _).symm);clear hk hA htk hfull hkk;by_cases a1:(i':Int)=(h:Int)
        ·have b1:((i':Int) != (h:Int))=false:=by simpa using a1
         have Lj:=zh (UA.out false (by rw[b1];rfl));clear a1;go_wp2_with fail
         go_roundw
         case rel=>exact⟨j+1,by go_num,by omega,Lj,trivial⟩
         case measure=>simp[intOf];omega
        ·have b1:((i':Int) != (h:Int))=true:=by simpa using a1
         by_cases a2:kk=2
         ·have b2:(kk == 2)=true:=by simpa using a2
          by_cases a3:kh=2
          ·have b3:(kh == 2)=true:=by simpa using a3
           have hrf:r=false:=HF.out (UA.out true (by rw[b1,b2,b3];rfl));subst hrf;clear a1 a2 a3;go_wp2_with fail
           go_ret
           exact⟨rfl,rfl⟩
          ·have b3:(kh == 2)=false:=by simpa using a3
           have Lj:=zh (UA.out false (by rw[b3];simp));clear a1 a2 a3;go_wp2_with fail
           go_roundw
           case rel=>exact⟨j+1,by go_num,by omega,Lj,trivial⟩
           case measure=>simp[intOf];omega
         ·have b2:(kk == 2)=false:=by simpa using a2
          have Lj:=zh (UA.out false (by rw[b2];simp));clear a1 a2;go_wp2_with fail
          go_roundw
          case rel=>exact⟨j+1,by go_num,by omega,Lj,trivial⟩
          case measure=>simp[intOf];omega
       ·have rX:j=n:=by omega
        subst rX;have hrt:r=true:=by
         have h2:=HT.out;rw[List.take_of_length_le (by rw[HN.out];exact Nat.le_refl _)] at h2;rw[←HR.out,h2];rfl
        subst hrt;go_wp2_with fail
        go_ret
        exact⟨rfl,rfl⟩
    ·have hpq:((p:Int) != 0)=true:=by rw[bne_iff_ne];omega
     rw[if_pos (.inl hpz)] at hr';subst hr';clear H hw hr hk2 hkp hpz
     go_enter Tryz.func79,Tryz.ntmps79
     go_wp2_with fail;refine HC.out.mono ?_;rintro e w2 ⟨rfl,hw2⟩;obtain rfl:=hw2.symm;go_wp2_with fail
     go_ret
     exact⟨rfl,rfl⟩
end
section
open Go.RowKit
theorem rO:(Tryz.prog.info? 95).map (fun i=>(i.zero,i.size,i.bytes))=some (some (.agg #[.string ⟨#[]⟩,.string ⟨#[]⟩]),2,32):=by kernel_rfl
abbrev AR (w:World) (base:Nat) (v:Value) (l:List (ByteArray×ByteArray)):Prop:=TR w base 95 2 v l.length (fP l)
def AT (w:World) (g:Tr.G) (av:Int→Tr.Sl):Prop:=∀ h n,g h=some n→AR w 0 (av h).v n.attrs
section
variable {base B n live:Nat} {b s root:Int} {vs vf:Value} {R:Int→Option Tr.Nd} {fr:List Nat} {w w1 w':World} {g g':Tr.G} {av iK:Int→Tr.Sl}
theorem TV.QC {b2 size m:Nat} {e:TypeId} {v:Value} {xs:List Value} (hM:TV base w B b s vs n R vf fr live root) (h:TR w b2 e size v m xs) (h1:e≠58) (h2:e≠130) (h3:e≠3):∀ k,v.ownBlock=some k→¬ aD B vs vf k:=by
 rintro k hk (rfl | hx | hx)
 ·exact h.unlike hM.var h1 hk
 ·exact dN h hM.row h2 k hx hk
 ·exact dN h hM.free h3 k hx hk
theorem TR.nJ {b2 size m:Nat} {e:TypeId} {v:Value} {xs:List Value} {F':Nat→Prop} (h:TR w b2 e size v m xs) (hM:TV base w B b s vs n R vf fr live root) (st:aB w w' (aD B vs vf) F') (h1:e≠58) (h2:e≠130) (h3:e≠3):TR w' b2 e size v m xs:=
 h.turns st.1 (hM.QC h h1 h2 h3)
theorem AT.step {F':Nat→Prop} (h:AT w g av) (hM:TV base w B b s vs n R vf fr live root) (st:aB w w' (aD B vs vf) F'):AT w' g av:=
 fun x m e=>(h x m e).nJ hM st (by decide) (by decide) (by decide)
theorem AT.below (h:AT w g av) (hb:Below w.heap.size w w'):AT w' g av:=fun x m e=>(h x m e).below hb
theorem AT.turns {S:Nat→Prop} (h:AT w g av) (ht:Turns S w w') (hn:∀ x m,g x=some m→∀ k,(av x).v.ownBlock=some k→¬ S k):AT w' g av:=fun x m e=>(h x m e).turns ht (hn x m e)
theorem AT.same (h:AT w g av) (hs:∀ x m',g' x=some m'→∃ m,g x=some m∧m.attrs=m'.attrs):AT w g' av:=fun x m' e=>by
 obtain⟨m,e1,e2⟩:=hs x m' e;rw[←e2];exact h x m e1
theorem AT.put {h:Int} {sl:Tr.Sl} {u:Tr.GN→Tr.GN} (ha:AT w g av) (hr:∀ m,g h=some m→AR w 0 sl.v (u m).attrs):AT w (Tr.cK g h u) (Tr.fq av h sl):=fun x m' e=>by
 unfold Tr.cK at e;by_cases hx:x=h
 ·subst hx;rw[if_pos rfl] at e;cases em:g x with
  | none=>rw[em] at e;cases e
  | some m=>rw[em] at e;obtain rfl:=Option.some.inj e;rw[Tr.lG];exact hr m em
 ·rw[if_neg hx] at e;rw[Tr.vC hx];exact ha x m' e
end
theorem qF (v:Value) (l:List (ByteArray×ByteArray)) (w:World) (h:AR w 0 v l) (hl:l.length≤1000):
  Calls Tryz.prog 87 #[v] w fun e w'=>∃ v',e=.returned v'∧AR w' w.heap.size v' l∧Below w.heap.size w w':=by
 obtain⟨i0,hi0,hz0,hz1,hz2⟩:=info_parts rO;obtain⟨A,c,rfl⟩:=h.form;have hcmp:∀ (w:World) (a:Option Addr) (n c:Nat),(binOp .eql 80 (.slice a n c) (.slice none 0 0)).run Tryz.prog w=.ok (.bool a.isNone) w:=fun w a n c=>Lib.run_eql_slice_nil w _ _ a n c 0 0 Tryz.underlying80
 go_enter Tryz.func87,Tryz.ntmps87
 cases A with
 | none=>
  have hn:l.length=0:=by
   rcases h.addr with ⟨_,hx,_⟩ | ⟨g,off,hv⟩
   ·exact hx
   ·cases hv
  have hx:l=[]:=List.eq_nil_of_length_eq_zero hn;subst hx;clear hn h;go_wp2_with fail
  go_ret
  exact⟨_,rfl,TR.nil _ _ _ _,Below.refl _ w⟩
 | some a=>
  have e1:TR (w.alloc (.cells #[] 95)) w.heap.size 95 2 (.slice (some ⟨w.heap.size,0,none⟩) 0 0) 0 []:=by
   have h:=World.ownsRow_lit (base:=w.heap.size) (e:=95) (size:=2) w #[] 0 (Nat.le_refl _) (Nat.zero_le _) rfl;exact .jP (by simpa using h)
  have hb1:=(Below.refl _ w).alloc (Nat.le_refl _) (.cells #[] 95);have s1:=(h.below hb1).source
  go_wp2_with (at_builtin;refine bA rfl _ _ 80 rfl w.heap.size 95 i0 (.agg #[.string ⟨#[]⟩,.string ⟨#[]⟩]) 2 32 Tryz.underlying80 hi0 hz0 hz1 hz2 rfl (by decide) _ 0 [] rfl e1 _ l.length (fP l) rfl (zm l) s1 (jl l) ?c3 ?c4 hb1.size ?_)
  case c3=>unfold maxLen;omega
  case c4=>omega
  intro v2 w2 o2 g2 _;have hb2:Below w.heap.size w w2:=hb1.grown g2 hb1.size (fun j hj=>by simp[Value.ownBlock] at hj;omega);(try simp only[Nat.zero_add,List.nil_append] at o2);go_wp2_with fail
  go_ret
  exact⟨_,rfl,o2,hb2⟩
theorem Yc {v:Value} {w:World} {base size n:Nat} {e:TypeId} {xs:List Value} (h:TR w base e size v n xs):∃ sl:Tr.Sl,v=sl.v∧sl.n=n:=by
 obtain⟨A,c,rfl⟩:=h.form;exact⟨⟨A,n,c⟩,rfl,rfl⟩
end
section
open Go.RowKit
def fD (g:Tr.G) (h:Int):Int:=match g h with | none=>6 | some n=>if n.kind=2 then 0 else 10
theorem iV (base B:Nat) (b s root h:Int) (live n:Nat) (g:Tr.G) (av:Int→Tr.Sl) (fr:List Nat) (vs vf:Value) (w:World) (hm:TV base w B b s vs n (Tr.raw g av) vf fr live root) (hS:Sound b s n (Tr.raw g av) fr live) (hh:gI h) (hk:∀ x m,g x=some m→m.kind≠0):
  Calls Tryz.prog 85 #[.pointer (some ⟨B,0,none⟩),.int .i64 h] w fun e w'=>e=.returned (.int .i64 (fD g h))∧Below w.heap.size w w':=by
 have hA:=jX base B b s root h live n _ fr vs vf w hm hS hh;cases eg:g h with
 | none=>
  rw[Tr.bF eg] at hA;have hr:fD g h=6:=by unfold fD;rw[eg]
  rw[hr]
  go_enter Tryz.func85,Tryz.ntmps85
  go_wp2_with fail;refine hA.mono ?_;rintro e w1 ⟨gb,o,rfl,hnp,hb⟩;have c0:w1.cell? ⟨gb,o,none⟩=some (.int .i64 0):=hnp.cells.1;clear hm hA hnp;go_wp2_with fail
  go_ret
  exact⟨rfl,hb⟩
 | some m=>
  rw[Tr.aj eg] at hA;have hk0:=hk h m eg;have q0:(m.kind == 0)=false:=cB hk0;by_cases hk2:m.kind=2
  ·have q2:(m.kind == 2)=true:=Dv hk2;have hr:fD g h=0:=by unfold fD;rw[eg];exact if_pos hk2
   rw[hr]
   go_enter Tryz.func85,Tryz.ntmps85
   go_wp2_with fail;refine hA.mono ?_;rintro e w1 ⟨gb,o,rfl,hnp,hb⟩;have c0:w1.cell? ⟨gb,o,none⟩=some (.int .i64 m.kind):=hnp.cells.1;clear hm hA hnp hk2;go_wp2_with fail
   go_ret
   exact⟨rfl,hb⟩
  ·have q2:(m.kind == 2)=false:=cB hk2;have hr:fD g h=10:=by unfold fD;rw[eg];exact if_neg hk2
   rw[hr]
   go_enter Tryz.func85,Tryz.ntmps85
   go_wp2_with fail;refine hA.mono ?_;rintro e w1 ⟨gb,o,rfl,hnp,hb⟩;have c0:w1.cell? ⟨gb,o,none⟩=some (.int .i64 m.kind):=hnp.cells.1;clear hm hA hnp hk2;go_wp2_with fail
   go_ret
   exact⟨rfl,hb⟩
def oZ (l:List (ByteArray×ByteArray)) (nm:ByteArray):Nat:=l.findIdx fun p=>p.1.toList == nm.toList
def yO (l:List (ByteArray×ByteArray)) (nm:ByteArray):Int:=if oZ l nm<l.length then (oZ l nm:Nat) else -1
theorem QD (l:List (ByteArray×ByteArray)) (nm:ByteArray):oZ l nm≤l.length:=List.findIdx_le_length
theorem Ib {l:List (ByteArray×ByteArray)} {nm:ByteArray} {k:Nat} {p:ByteArray×ByteArray} (hp:l[k]?=some p) (hk:k≤oZ l nm):((p.1.toList == nm.toList)=true→oZ l nm=k)∧((p.1.toList == nm.toList)=false→k+1≤oZ l nm):=by
 obtain⟨hlt,he⟩:=List.getElem?_eq_some_iff.1 hp;constructor
 ·intro h;have:oZ l nm≤k:=by
   refine Nat.le_of_not_lt fun hc=>?_;have:=List.not_of_lt_findIdx (p:=fun p:ByteArray×ByteArray=>p.1.toList == nm.toList) (xs:=l) hc;rw[he] at this;rw[h] at this;exact absurd this (by simp)
  omega
 ·intro h;by_cases e:k=oZ l nm
  ·exfalso;have hlt2:l.findIdx (fun p=>p.1.toList == nm.toList)<l.length:=by have e':k=l.findIdx (fun p=>p.1.toList == nm.toList):=e;omega
   have:=List.findIdx_getElem (p:=fun p:ByteArray×ByteArray=>p.1.toList == nm.toList) (xs:=l) (w:=hlt2);have e2:l[l.findIdx (fun p=>p.1.toList == nm.toList)]=p:=by
    have:l.findIdx (fun p=>p.1.toList == nm.toList)=k:=e.symm;simp only[this];exact he
   rw[e2] at this;rw[h] at this;cases this
  ·omega
theorem AR.at {w:World} {base:Nat} {A:Option Addr} {c n:Nat} {l:List (ByteArray×ByteArray)} (h:TR w base 95 2 (.slice A n c) l.length (fP l)) {k:Nat} {p:ByteArray×ByteArray} (hp:l[k]?=some p):
  ∃ g o,A=some ⟨g,o,none⟩∧n=l.length∧w.cell? ⟨g,o+k*2,none⟩=some (.string p.1)∧w.cell? ⟨g,o+k*2+1,none⟩=some (.string p.2):=by
 have hlt:=(List.getElem?_eq_some_iff.1 hp).1;obtain⟨A',c',e⟩:=h.form;injection e with e1 e2 e3;subst e1 e2 e3;obtain⟨g,o,hA,_,_,hc,_⟩:=h.cells (by omega);exact⟨g,o,hA,rfl,hc _ _ (by omega) (ji l k p hp).1,by rw[Nat.add_assoc];exact hc _ _ (by omega) (ji l k p hp).2⟩
theorem NT (a v nm:ByteArray) (nb:Nat) (w:World) (hb:w.cell? ⟨nb,0,none⟩=some (.string nm)) (hlt:nb<w.heap.size):
  Calls Tryz.prog 125 #[.agg #[.string a,.string v],.pointer (some ⟨nb,0,none⟩)] w fun e w'=>e=.returned (.bool (a.toList == nm.toList))∧Below w.heap.size w w':=by
 have hB:=(Below.refl _ w).alloc (Nat.le_refl _) (.cells #[.string a,.string v] 95);have c1:=hB.cell (p:=⟨nb,0,none⟩) hlt;rw[hb] at c1
 go_enter Tryz.func125,Tryz.ntmps125
 go_wp2_with fail
 go_ret
 exact⟨rfl,hB⟩
theorem NU (v:Value) (l:List (ByteArray×ByteArray)) (nm:ByteArray) (nb:Nat) (w:World) (h:AR w 0 v l) (hl:l.length≤1000) (hb:w.cell? ⟨nb,0,none⟩=some (.string nm)) (hlt:nb<w.heap.size):
  Calls Tryz.prog 124 #[v,.func (.func 125) #[] #[.pointer (some ⟨nb,0,none⟩)]] w fun e w'=>e=.returned (.int .i64 (yO l nm))∧Below w.heap.size w w':=by
 obtain⟨A,c,rfl⟩:=h.form;obtain⟨n,hn⟩:=eX (l.length)
 have hle:=QD l nm;have HH:=zh h;have HI:Hid (yO l nm=if oZ l nm<l.length then ((oZ l nm:Nat):Int) else -1):=zh rfl;rw[hn] at hl;have HN:=zh hn;rw[hn];clear h hn
 go_enter Tryz.func124,Tryz.ntmps124
 go_wp2_with fail
 go_loopw [8] (fun v wr=>∃ k:Nat,v=.int .i64 k∧k≤n∧Hid (k≤oZ l nm)∧Below w.heap.size w wr) (fun v _=>n - (intOf v).toNat)
 case atStart=>exact⟨0,rfl,Nat.zero_le _,zh (Nat.zero_le _),Below.refl _ _⟩
 case round=>
  obtain⟨k,rfl,hkn,H2,hbw⟩:=hrel;by_cases hk:k<n
  ·have q1:(k:Int)<(n:Int):=by omega
   have q0:(0:Int)≤(k:Int):=by omega
   obtain⟨p,hp⟩:∃ p,l[k]?=some p:=⟨l[k]'(by rw[HN.out];exact hk),by simp⟩
   obtain⟨g,o,rfl,_,c1,c2⟩:=AR.at (HH.out.below hbw) hp;have HS:=zh (Ib (nm:=nm) hp H2.out);have c3:=hbw.cell (p:=⟨nb,0,none⟩) hlt;rw[hb] at c3;have HC:=zh (NT p.1 p.2 nm nb wr c3 (Nat.lt_of_lt_of_le hlt hbw.size));clear hp;go_wp2_with fail;refine HC.out.mono ?_;rintro e w2 ⟨rfl,hb2⟩;have hb3:=hbw.trans (hb2.mono hbw.size);clear HC c1 c2 c3 hbw hb2;cases he:(p.1.toList == nm.toList) with
   | true=>
    have hr:yO l nm=(k:Int):=by rw[HI.out,HS.out.1 he,if_pos (by rw[HN.out];exact hk)]
    have HR:=zh hr;clear hr he;go_wp2_with fail
    go_ret
    exact⟨kD HR.out.symm,hb3⟩
   | false=>
    have HR:=zh (HS.out.2 he);clear he;go_wp2_with fail
    go_roundw
    case rel=>exact⟨k+1,by go_num,by omega,zh HR.out,hb3⟩
    case measure=>simp[intOf];omega
  ·have hkn':k=n:=by omega
   subst hkn';have hr:yO l nm = -1:=by rw[HI.out,if_neg (by rw[HN.out];have:=H2.out;omega)]
   have HR:=zh hr;have q1:¬ (k:Int)<(k:Int):=by omega
   clear hr;go_wp2_with fail
   go_ret
   exact⟨kD HR.out.symm,hbw⟩
theorem nY (v:Value) (l:List (ByteArray×ByteArray)) (nm:ByteArray) (w:World) (h:AR w 0 v l) (hl:l.length≤1000):
  Calls Tryz.prog 88 #[v,.string nm] w fun e w'=>e=.returned (.int .i64 (yO l nm))∧Below w.heap.size w w':=by
 have hB:=(Below.refl _ w).alloc (Nat.le_refl _) (.cells #[.string nm] 9);have HC:=zh (NU v l nm w.heap.size (w.alloc (.cells #[.string nm] 9)) (h.below hB) hl ((Whole.new w #[.string nm] 9).cell 0) (by simp));clear h
 go_enter Tryz.func88,Tryz.ntmps88
 go_wp2_with fail;refine HC.out.mono ?_;rintro e w2 ⟨rfl,hb2⟩;have HB:=zh (hB.trans (hb2.mono hB.size));clear hB hb2 HC;go_wp2_with fail
 go_ret
 exact⟨rfl,HB.out⟩
end
section
open Go Go.RowKit
section
variable {m:Nat} {f:Nat→RS}
theorem abq {m m':Nat} {f f':Nat→RS} (hneg:∀ x:Int,x<0→mg m f x=mg m' f' x) (h:∀ i:Nat,mg m f i=mg m' f' i):mg m f=mg m' f':=by
 funext x;by_cases hx:x<0
 ·exact hneg x hx
 ·obtain⟨i,rfl⟩:=Int.eq_ofNat_of_zero_le (by omega:0≤x);exact h i
theorem jH (m:Nat) (f:Nat→RS) (i:Nat):mg m f (i:Int)=if i<m∧(f i).gone=false then some (jZ (f i)) else none:=by
 unfold mg;by_cases h:i<m∧(f i).gone=false
 ·rw[if_pos ⟨by omega,by simpa using h.1,by simpa using h.2⟩,if_pos h];simp
 ·rw[if_neg h,if_neg];rintro⟨_,h1,h2⟩;exact h ⟨by simpa using h1,by simpa using h2⟩
theorem Xa {i:Nat} (hi:i<m) (hg:(f i).gone=false) {u:RS→RS} {U:Tr.GN→Tr.GN} (hgo:(u (f i)).gone=false) (h:jZ (u (f i))=U (jZ (f i))):mg m (aX f i u)=Tr.cK (mg m f) i U:=by
 funext x;unfold Tr.cK;by_cases hx:x<0
 ·rw[if_neg (by omega),lQ hx,lQ hx]
 ·obtain⟨j,rfl⟩:=Int.eq_ofNat_of_zero_le (by omega:0≤x);rw[jH];by_cases e:j=i
  ·subst e;rw[if_pos rfl,ku,if_pos ⟨hi,hgo⟩,aM hi hg,h];rfl
  ·rw[if_neg (c:=(j:Int)=(i:Int)) (by omega),iP e,←jH]
theorem Pw {i p:Nat} {sl:Tr.Sl} (hi:i<m) (hg:(f i).gone=false) (hp:p<m) (hpg:(f p).gone=false) (hpa:(f i).pa=(p:Int)) (hpi:p≠i):
  mg m (aX (aX f p fun n=>{ n with k:=sl,kids:=n.kids.erase (i:Int) }) i fun n=>{ n with pa := -1 })=Tr.uh (mg m f) i:=by
 funext x;unfold Tr.uh;by_cases hx:x<0
 ·rw[if_neg (by omega),lQ hx]
  split
  ·rw[lQ hx];rfl
  ·rw[lQ hx]
 ·obtain⟨j,rfl⟩:=Int.eq_ofNat_of_zero_le (by omega:0≤x);have hpo:Tr.dI (mg m f) (i:Int)=(p:Int):=by rw[Tr.aO (aM hi hg)];exact hpa
  rw[jH,hpo];by_cases e:j=i
  ·subst e;rw[if_pos (c:=(j:Int)=(j:Int)) rfl,ku,iP (fun e=>hpi e.symm),if_pos ⟨hi,hg⟩,aM hi hg];rfl
  ·rw[if_neg (c:=(j:Int)=(i:Int)) (by omega),iP e];by_cases e2:j=p
   ·subst e2;rw[ku,if_pos ⟨hp,hpg⟩,if_pos rfl,aM hp hpg];rfl
   ·rw[iP e2,if_neg (c:=(j:Int)=(p:Int)) (by omega),←jH]
theorem Sc {i p:Nat} {sl:Tr.Sl} {c:Int} (hi:i<m) (hg:(f i).gone=false) (hp:p<m) (hpg:(f p).gone=false) (hpi:p≠i):
  mg m (aX (aX f p fun n=>{ n with k:=sl,kids:=Tr.iD n.kids c (i:Int) }) i fun n=>{ n with pa:=p })=Tr.lu (mg m f) p i c:=by
 funext x;unfold Tr.lu;by_cases hx:x<0
 ·rw[if_neg (by omega),lQ hx,if_neg (by omega),lQ hx]
 ·obtain⟨j,rfl⟩:=Int.eq_ofNat_of_zero_le (by omega:0≤x);rw[jH];by_cases e:j=i
  ·subst e;rw[if_pos (c:=(j:Int)=(j:Int)) rfl,ku,iP (fun e=>hpi e.symm),if_pos ⟨hi,hg⟩,aM hi hg];rfl
  ·rw[if_neg (c:=(j:Int)=(i:Int)) (by omega),iP e];by_cases e2:j=p
   ·subst e2;rw[ku,if_pos ⟨hp,hpg⟩,if_pos rfl,aM hp hpg];rfl
   ·rw[iP e2,if_neg (c:=(j:Int)=(p:Int)) (by omega),←jH]
theorem Tv {x:RS} (hx:x.gone=false):mg (m+1) (gZ m f x)=Tr.dK (mg m f) m (jZ x):=by
 funext y;unfold Tr.dK;by_cases hy:y<0
 ·rw[if_neg (by omega),lQ hy,lQ hy]
 ·obtain⟨j,rfl⟩:=Int.eq_ofNat_of_zero_le (by omega:0≤y);rw[jH];by_cases e:j=m
  ·subst e;rw[if_pos rfl,dO,if_pos ⟨by omega,hx⟩]
  ·rw[if_neg (c:=(j:Int)=(m:Int)) (by omega),jH];by_cases h:j<m
   ·rw[dY h];by_cases hg:(f j).gone=false
    ·rw[if_pos ⟨by omega,hg⟩,if_pos ⟨h,hg⟩]
    ·rw[if_neg (fun e=>hg e.2),if_neg (fun e=>hg e.2)]
   ·rw[if_neg (fun e=>by omega),if_neg (fun e=>h e.1)]
end
end
section
namespace Tr
open Go Go.RowKit
def oD (R:Int→Option Nd) (l:List Int):Int→Option Nd:=fun x=>if x∈l then none else R x
def iw (g:G) (h:Int):G:=fun x=>if x∈ak g h then none else g x
theorem Ec (R:Int→Option Nd):oD R []=R:=by funext x;unfold oD;simp
theorem Kr (R:Int→Option Nd) (l:List Int) (h:Int):oD R (l++[h])=pJ (oD R l) h none:=by
 funext x;unfold oD pJ;dsimp only;by_cases e:x=h
 ·rw[if_pos e,if_pos (by rw[e];simp)]
 ·rw[if_neg e];by_cases hl:x∈l
  ·rw[if_pos hl,if_pos (by simp[hl])]
  ·rw[if_neg hl,if_neg (by simp[hl,e])]
theorem NV {R:Int→Option Nd} {l:List Int} {x:Int} (h:x∉l):oD R l x=R x:=if_neg h
section
variable {z:Int} {g:G} {h:Int} {n:GN}
theorem fH {x:Int} (hx:x∉ak g h):iw g h x=g x:=if_neg hx
theorem Ic {x:Int} (hx:x∈ak g h):iw g h x=none:=if_pos hx
theorem jd {x:Int} {m:GN} (e:iw g h x=some m):g x=some m∧x∉ak g h:=by
 unfold iw at e
 split at e
 ·cases e
 ·rename_i hx;exact⟨e,hx⟩
theorem WF.zH (w:WF z g) {x:Int} {m:GN} (e:g x=some m) (hx:x∉ak g h):m.pa∉ak g h:=fun hm=>by
 refine hx ((w.eH h x).2 ?_);rw[w.aT e];exact List.mem_cons_of_mem _ ((w.eH h _).1 hm)
theorem WF.Ie (w:WF z g) (eh:g h=some n) (hp:n.pa=z) {x k:Int} {m:GN} (e:g x=some m) (hx:x∉ak g h) (hk:k∈m.kids):k∉ak g h:=fun hm=>by
 have h1:=(w.eH h k).1 hm;rw[w.jC e hk,List.mem_cons] at h1;rcases h1 with rfl | h1
 ·obtain⟨m',e1,e2⟩:=w.down x m _ e hk;rw[eh] at e1;obtain rfl:=Option.some.inj e1;rw[←e2,hp,w.zero] at e;cases e
 ·exact hx ((w.eH h x).2 h1)
theorem WF.Tw (w:WF z g) {x:Int} {l:List Int} (u:Up g x l) (hx:x∉ak g h):Up (iw g h) x l:=by
 induction u with
 | out e=>exact .out ((fH hx).trans e)
 | node e u ih=>exact .node ((fH hx).trans e) (ih (w.zH e hx))
theorem WF.drop (w:WF z g) (eh:g h=some n) (hp:n.pa=z):WF z (iw g h) where
 zero:=by rw[fH (w.xB h)];exact w.zero
 up x m e hm:=by
  obtain⟨e1,hx⟩:=jd e;obtain⟨p,h1,h2⟩:=w.up x m e1 hm;exact⟨p,(fH (w.zH e1 hx)).trans h1,h2⟩
 down x m k e hk:=by
  obtain⟨e1,hx⟩:=jd e;obtain⟨p,h1,h2⟩:=w.down x m k e1 hk;exact⟨p,(fH (w.Ie eh hp e1 hx hk)).trans h1,h2⟩
 nodup x m e:=w.nodup x m (jd e).1
 chain x:=by
  by_cases hx:x∈ak g h
  ·exact⟨[],.out (Ic hx),by simp⟩
  ·obtain⟨l,u,hl⟩:=w.chain x;exact⟨l,w.Tw u hx,hl⟩
theorem WF.QE (w:WF z g) (hz:z=0) (eh:g h=some n) (hp:n.pa=z) (av:Int→Sl):oD (raw g av) (ak g h)=raw (iw g h) av:=by
 funext x;unfold oD;by_cases hx:x∈ak g h
 ·rw[if_pos hx,bF (Ic hx)]
 ·rw[if_neg hx];cases e:g x with
  | none=>rw[bF e,bF ((fH hx).trans e)]
  | some m=>
   rw[aj e,aj ((fH hx).trans e)];have hk:au (iw g h) m.pa=au g m.pa:=by unfold au;rw[fH (w.zH e hx)]
   unfold dW;rw[hk]
end
theorem Im.drop {ρ:Int→Int} {a g:G} (h:Im ρ a g) (w:WF 0 g) {i:Int} {n:GN} (ei:a i=some n) (hp:n.pa = -1):Im ρ (iw a i) (iw g (ρ i)):=by
 have wa:=h.pull w;have hwk:ak g (ρ i)=(ak a i).map ρ:=h.walk w i (bS ei);have hl:∀ k∈ak a i,(a k).isSome:=fun k hk=>wa.lY hk;have hout:∀ x,(a x).isSome→x∉ak a i→ρ x∉ak g (ρ i):=fun x hx hn hm=>hn (by rw[hwk] at hm;exact (h.mem hl hx).1 hm);have hlive:∀ x,(iw a i x).isSome→(a x).isSome∧x∉ak a i:=fun x hx=>by
  obtain⟨m,e⟩:=Option.isSome_iff_exists.1 hx;obtain⟨e1,e2⟩:=jd e;exact⟨bS e1,e2⟩
 refine⟨h.zero,fun x m e=>?_,fun y hy=>?_,fun x y hx hy e=>h.inj x y (hlive x hx).1 (hlive y hy).1 e,fun x hx=>h.nz x (hlive x hx).1,(fH (wa.xB i)).trans h.neg,fun x m e=>?_,fun x m e k hk=>?_⟩
 ·obtain⟨e1,e2⟩:=jd e;rw[fH (hout x (bS e1) e2)];exact h.node x m e1
 ·obtain⟨m,e⟩:=Option.isSome_iff_exists.1 hy;obtain⟨e1,e2⟩:=jd e;obtain⟨x,hx,rfl⟩:=h.dom y (bS e1);refine⟨x,?_,rfl⟩;rw[fH (fun hm=>e2 (by rw[hwk];exact List.mem_map.2 ⟨x,hm,rfl⟩))];exact hx
 ·obtain⟨e1,e2⟩:=jd e;rcases h.pa x m e1 with h1 | h1
  ·exact .inl h1
  ·exact .inr (by rw[fH (wa.zH e1 e2)];exact h1)
 ·obtain⟨e1,e2⟩:=jd e;rw[fH (wa.Ie ei hp e1 e2 hk)];exact h.kids x m e1 k hk
end Tr
end
section
open Go.RowKit
abbrev ndW (d:Tr.Nd) (v:Value):Value:=.agg #[.int .i64 d.kind,.string d.name,v,.string d.data,.int .i64 d.pa,.int .i64 d.fi,.int .i64 d.la,.int .i64 d.pr,.int .i64 d.ne]
theorem sO (base B:Nat) (b s root h:Int) (live n:Nat) (R:Int→Option Tr.Nd) (fr:List Nat) (vs vf:Value) (d:Tr.Nd) (l:List (ByteArray×ByteArray)) (w:World) (hM:TV base w B b s vs n R vf fr live root) (hS:Sound b s n R fr live) (hh:gI h) (hd:(R h).getD Tr.yX=d) (har:AR w 0 (.slice d.av.a d.av.n d.av.c) l) (hl:l.length≤1000):
  Calls Tryz.prog 48 #[.pointer (some ⟨B,0,none⟩),.int .i64 h] w fun e w'=>∃ v,e=.returned (.tuple #[ndW d v,.bool (R h).isSome])∧AR w' w.heap.size v l∧Below w.heap.size w w':=by
 obtain⟨w1,hw1⟩:=eX (w.alloc (.cells #[.int .i64 0,.string ⟨#[]⟩,.slice none 0 0,.string ⟨#[]⟩,.int .i64 0,.int .i64 0,.int .i64 0,.int .i64 0,.int .i64 0] 82))
 have hX1:Whole w1 w.heap.size #[.int .i64 0,.string ⟨#[]⟩,.slice none 0 0,.string ⟨#[]⟩,.int .i64 0,.int .i64 0,.int .i64 0,.int .i64 0,.int .i64 0] 82:=by rw[←hw1];exact Whole.new w _ _
 have hB1:Below w.heap.size w w1:=fI hw1;have hs1:w1.heap.size=w.heap.size+1:=by rw[←hw1];simp
 have hG:=OV base B b s root h live n R fr vs vf w1 (hM.below hB1) hS hh;rw[hd] at hG;have ZR:=har.below hB1;obtain⟨q,hq⟩:=eX ((R h).isSome)
 rw[hq] at hG ⊢;clear hM hS har hd hq
 go_enter Tryz.func48,Tryz.ntmps48
 go_wp2_with fail;(try rw[hw1]);(try go_wp2_with fail);refine hG.mono ?_;rintro e w2 ⟨rfl,hb2⟩;have hX2:=hX1.below hb2 hX1.lt;have ug:=ZR.below hb2;have hB2:=hB1.trans (hb2.mono hB1.size);have hs2:=hb2.size;obtain⟨w3,hw3⟩:=eX (w2.alloc (.cells #[.int .i64 d.kind,.string d.name,.slice d.av.a d.av.n d.av.c,.string d.data,.int .i64 d.pa,.int .i64 d.fi,.int .i64 d.la,.int .i64 d.pr,.int .i64 d.ne] 82))
 have fG:Whole w3 w2.heap.size #[.int .i64 d.kind,.string d.name,.slice d.av.a d.av.n d.av.c,.string d.data,.int .i64 d.pa,.int .i64 d.fi,.int .i64 d.la,.int .i64 d.pr,.int .i64 d.ne] 82:=by rw[←hw3];exact Whole.new w2 _ _
 have U8:Below w2.heap.size w2 w3:=fI hw3;have rD:=U8;have aW:=hX2.below rD hX2.lt;have Gh:=ug.below rD;have hs3:=rD.size;have hl3:=fG.lt;have y0:w3.cell? ⟨w2.heap.size,0,none⟩=some (.int .i64 d.kind):=fG.cell 0;have y1:w3.cell? ⟨w2.heap.size,1,none⟩=some (.string d.name):=fG.cell 1;have y2:w3.cell? ⟨w2.heap.size,2,none⟩=some (.slice d.av.a d.av.n d.av.c):=fG.cell 2;have y3:w3.cell? ⟨w2.heap.size,3,none⟩=some (.string d.data):=fG.cell 3;have y4:w3.cell? ⟨w2.heap.size,4,none⟩=some (.int .i64 d.pa):=fG.cell 4;have y5:w3.cell? ⟨w2.heap.size,5,none⟩=some (.int .i64 d.fi):=fG.cell 5;have y6:w3.cell? ⟨w2.heap.size,6,none⟩=some (.int .i64 d.la):=fG.cell 6;have y7:w3.cell? ⟨w2.heap.size,7,none⟩=some (.int .i64 d.pr):=fG.cell 7;have y8:w3.cell? ⟨w2.heap.size,8,none⟩=some (.int .i64 d.ne):=fG.cell 8;have HCL:=zh (qF _ l w3 Gh hl);have eU:=zh aW;have HY3:=zh fG;have HB3:=zh (hB2.trans (rD.mono hB2.size));clear hG hX1 hX2 aW fG U8 rD ZR ug Gh hB1 hB2 hb2;go_wp2_with fail;(try rw[hw3]);(try go_wp2_with fail);refine HCL.out.mono ?_;rintro e w4 ⟨v4,rfl,EL,hb4⟩;obtain⟨A4,c4,rfl⟩:=EL.form;have EK:=HY3.out.below hb4 hl3;have f4:=EK.free 2;have bI:=eU.out.below hb4 eU.out.lt;obtain⟨w5,fE⟩:=eX (w4.setCell ⟨w2.heap.size,2,none⟩ (.slice A4 l.length c4))
 have rV:Whole w5 w2.heap.size #[.int .i64 d.kind,.string d.name,.slice A4 l.length c4,.string d.data,.int .i64 d.pa,.int .i64 d.fi,.int .i64 d.la,.int .i64 d.pr,.int .i64 d.ne] 82:=by rw[←fE];exact EK.put 2 _
 have dM:Whole w5 w.heap.size #[.int .i64 0,.string ⟨#[]⟩,.slice none 0 0,.string ⟨#[]⟩,.int .i64 0,.int .i64 0,.int .i64 0,.int .i64 0,.int .i64 0] 82:=by rw[←fE];exact bI.other (by show w.heap.size≠w2.heap.size;omega) _
 have g5:w4.grownBy w5 (some w2.heap.size):=by rw[←fE];exact aJ (ay (Below.refl w4.heap.size w4) _) _ _
 have ce0:w4.cell? ⟨w2.heap.size,0,none⟩=some (.int .i64 d.kind):=EK.cell 0;have ce1:w4.cell? ⟨w2.heap.size,1,none⟩=some (.string d.name):=EK.cell 1;have ce2:w4.cell? ⟨w2.heap.size,2,none⟩=some (.slice d.av.a d.av.n d.av.c):=EK.cell 2;have ce3:w4.cell? ⟨w2.heap.size,3,none⟩=some (.string d.data):=EK.cell 3;have ce4:w4.cell? ⟨w2.heap.size,4,none⟩=some (.int .i64 d.pa):=EK.cell 4;have ce5:w4.cell? ⟨w2.heap.size,5,none⟩=some (.int .i64 d.fi):=EK.cell 5;have ce6:w4.cell? ⟨w2.heap.size,6,none⟩=some (.int .i64 d.la):=EK.cell 6;have ce7:w4.cell? ⟨w2.heap.size,7,none⟩=some (.int .i64 d.pr):=EK.cell 7;have ce8:w4.cell? ⟨w2.heap.size,8,none⟩=some (.int .i64 d.ne):=EK.cell 8;have t0:w5.cell? ⟨w2.heap.size,0,none⟩=some (.int .i64 d.kind):=rV.cell 0;have t1:w5.cell? ⟨w2.heap.size,1,none⟩=some (.string d.name):=rV.cell 1;have t2:w5.cell? ⟨w2.heap.size,2,none⟩=some (.slice A4 l.length c4):=rV.cell 2;have t3:w5.cell? ⟨w2.heap.size,3,none⟩=some (.string d.data):=rV.cell 3;have t4:w5.cell? ⟨w2.heap.size,4,none⟩=some (.int .i64 d.pa):=rV.cell 4;have t5:w5.cell? ⟨w2.heap.size,5,none⟩=some (.int .i64 d.fi):=rV.cell 5;have t6:w5.cell? ⟨w2.heap.size,6,none⟩=some (.int .i64 d.la):=rV.cell 6;have t7:w5.cell? ⟨w2.heap.size,7,none⟩=some (.int .i64 d.pr):=rV.cell 7;have t8:w5.cell? ⟨w2.heap.size,8,none⟩=some (.int .i64 d.ne):=rV.cell 8;have x0:w5.cell? ⟨w.heap.size,0,none⟩=some (.int .i64 0):=dM.cell 0;have z0:=dM.free 0;have x1:w5.cell? ⟨w.heap.size,1,none⟩=some (.string ⟨#[]⟩):=dM.cell 1;have z1:=dM.free 1;have x2:w5.cell? ⟨w.heap.size,2,none⟩=some (.slice none 0 0):=dM.cell 2;have z2:=dM.free 2;have x3:w5.cell? ⟨w.heap.size,3,none⟩=some (.string ⟨#[]⟩):=dM.cell 3;have z3:=dM.free 3;have x4:w5.cell? ⟨w.heap.size,4,none⟩=some (.int .i64 0):=dM.cell 4;have z4:=dM.free 4;have x5:w5.cell? ⟨w.heap.size,5,none⟩=some (.int .i64 0):=dM.cell 5;have z5:=dM.free 5;have x6:w5.cell? ⟨w.heap.size,6,none⟩=some (.int .i64 0):=dM.cell 6;have z6:=dM.free 6;have x7:w5.cell? ⟨w.heap.size,7,none⟩=some (.int .i64 0):=dM.cell 7;have z7:=dM.free 7;have x8:w5.cell? ⟨w.heap.size,8,none⟩=some (.int .i64 0):=dM.cell 8;have z8:=dM.free 8;obtain⟨w6,kZ,gL,g6⟩:=Vs dM (.int .i64 d.kind) (.string d.name) (.slice A4 l.length c4) (.string d.data) (.int .i64 d.pa) (.int .i64 d.fi) (.int .i64 d.la) (.int .i64 d.pr) (.int .i64 d.ne);have k0:w6.cell? ⟨w.heap.size,0,none⟩=some (.int .i64 d.kind):=gL.cell 0;have k1:w6.cell? ⟨w.heap.size,1,none⟩=some (.string d.name):=gL.cell 1;have k2:w6.cell? ⟨w.heap.size,2,none⟩=some (.slice A4 l.length c4):=gL.cell 2;have k3:w6.cell? ⟨w.heap.size,3,none⟩=some (.string d.data):=gL.cell 3;have k4:w6.cell? ⟨w.heap.size,4,none⟩=some (.int .i64 d.pa):=gL.cell 4;have k5:w6.cell? ⟨w.heap.size,5,none⟩=some (.int .i64 d.fi):=gL.cell 5;have k6:w6.cell? ⟨w.heap.size,6,none⟩=some (.int .i64 d.la):=gL.cell 6;have k7:w6.cell? ⟨w.heap.size,7,none⟩=some (.int .i64 d.pr):=gL.cell 7;have k8:w6.cell? ⟨w.heap.size,8,none⟩=some (.int .i64 d.ne):=gL.cell 8;have hs4:=hb4.size;have hs5:=g5.size;have ZT:AR w6 w.heap.size (.slice A4 l.length c4) l:=by
  have a5:=TR.kept EL g5 (.inr fun e=>by have:=(TR.lt EL _ e).1;omega);have a6:=TR.kept a5 g6 (.inr fun e=>by have:=(TR.lt EL _ e).1;omega);exact TR.lower a6 (by omega)
 have hBE:Below w.heap.size w w6:=((HB3.out.trans (hb4.mono HB3.out.size)).grown g5 (by omega) (fun k hk=>by simp at hk;omega)).grown g6 (by omega) (fun k hk=>by simp at hk;omega);have HE:=zh (And.intro ZT hBE);clear HCL EL hb4 EK bI rV dM g5 g6 gL ZT hBE;go_wp2_with fail;(try rw[fE]);(try go_wp2_with fail);(try rw[kZ]);(try go_wp2_with fail);refine bodyPost_ret (v:=.tuple #[ndW d (.slice A4 l.length c4),.bool q]) ?_ rfl ⟨_,rfl,HE.out.1,HE.out.2⟩;simp[results,Tryz.f48,go_sem,k0,k1,k2,k3,k4,k5,k6,k7,k8]
end
section
namespace Tr
open Go Go.RowKit
def Mc (g:G) (n:GN):Prop:=(n.kind=2∨n.kind=1∨n.kids=[])∧(n.kind=2→∀ k∈n.kids,kindOf g k≠1)∧(n.kind=1→(∀ k∈n.kids,kindOf g k=4∨kindOf g k=2)∧∀ k1∈n.kids,∀ k2∈n.kids,kindOf g k1=2→kindOf g k2=2→k1=k2)
def yV (g:G):Prop:=∀ p n,g p=some n→Mc g n
theorem Mc.sub {g g':G} {n n':GN} (h:Mc g n) (hk:n'.kind=n.kind) (hs:∀ k∈n'.kids,k∈n.kids∧kindOf g' k=kindOf g k):Mc g' n':=by
 obtain⟨h1,h2,h3⟩:=h;refine⟨?_,fun e k hk'=>?_,fun e=>⟨fun k hk'=>?_,fun k1 hk1 k2 hk2 e1 e2=>?_⟩⟩
 ·rw[hk];rcases h1 with h1 | h1 | h1
  ·exact .inl h1
  ·exact .inr (.inl h1)
  ·refine .inr (.inr ?_);cases e:n'.kids with
   | nil=>rfl
   | cons a r=>have:=(hs a (by rw[e];simp)).1;rw[h1] at this;cases this
 ·rw[(hs k hk').2];exact h2 (hk▸e) k (hs k hk').1
 ·rw[(hs k hk').2];exact (h3 (hk▸e)).1 k (hs k hk').1
 ·rw[(hs k1 hk1).2] at e1;rw[(hs k2 hk2).2] at e2;exact (h3 (hk▸e)).2 k1 (hs k1 hk1).1 k2 (hs k2 hk2).1 e1 e2
theorem yV.sub {g g':G} (h:yV g) (hs:∀ p n',g' p=some n'→∃ n,g p=some n∧n'.kind=n.kind∧∀ k∈n'.kids,k∈n.kids) (hk:∀ p n',g' p=some n'→∀ k∈n'.kids,kindOf g' k=kindOf g k):yV g':=fun p n' e=>by
 obtain⟨n,e1,e2,e3⟩:=hs p n' e;exact (h p n e1).sub e2 fun k hk'=>⟨e3 k hk',hk p n' e k hk'⟩
theorem yV.acc {g:G} (h:yV g) (w:WF 0 g) {x:Int} {m:GN} (e:g x=some m) (hp:m.pa≠0) (h1:m.kind=1→m.pa=0):eF g m.pa x=true:=by
 obtain⟨p,ep,hx⟩:=w.up x m e hp;obtain⟨a1,a2,a3⟩:=h _ p ep;have kx:=eG e;unfold eF;rw[eG ep];rcases a1 with a1 | a1 | a1
 ·rw[if_pos a1,kx];simp only[bne_iff_ne,ne_eq];exact fun e1=>hp (h1 e1)
 ·rw[if_neg (by omega),if_pos a1];rcases (a3 a1).1 x hx with b | b
  ·simp[b]
  ·have:kU g m.pa x=false:=by
    unfold kU;rw[aH ep,List.any_eq_false];intro k hk;simp only[Bool.and_eq_true,bne_iff_ne,ne_eq,beq_iff_eq,not_and];exact fun hne hk2=>hne ((a3 a1).2 k hk x hx hk2 b)
   simp[b,this]
 ·rw[a1] at hx;cases hx
theorem Ig {g:G} {h:Int} {U:GN→GN} (hU:∀ n,g h=some n→(U n).kind=n.kind) (k:Int):kindOf (cK g h U) k=kindOf g k:=by
 unfold kindOf cK;by_cases e:k=h
 ·subst e;rw[if_pos rfl];cases e1:g k with
  | none=>rfl
  | some n=>exact hU n e1
 ·rw[if_neg e]
theorem yV.put {g:G} {h:Int} {U:GN→GN} (H:yV g) (hU:∀ n,g h=some n→(U n).kind=n.kind∧(U n).kids=n.kids):yV (cK g h U):=by
 refine H.sub (fun p n' e=>?_) fun p n' _ k _=>Ig (fun n e=>(hU n e).1) k;unfold cK at e
 split at e
 ·rename_i e1;subst e1;cases e2:g p with
  | none=>rw[e2] at e;cases e
  | some n=>rw[e2] at e;obtain rfl:=Option.some.inj e;exact⟨n,rfl,(hU n e2).1,fun k hk=>by rw[(hU n e2).2] at hk;exact hk⟩
 ·exact⟨n',e,rfl,fun k hk=>hk⟩
theorem yK {g:G} {h:Int} (k:Int):kindOf (iU g h) k=kindOf g k:=by
 unfold kindOf iU;by_cases e:k=h
 ·subst e;rw[if_pos rfl];cases g k<;>rfl
 ·rw[if_neg e];by_cases e1:k=dI g h
  ·rw[if_pos e1];cases g k<;>rfl
  ·rw[if_neg e1]
theorem Ed {g:G} {h p:Int} {n':GN} (e:iU g h p=some n'):∃ n,g p=some n∧n'.kind=n.kind∧(∀ k∈n'.kids,k∈n.kids)∧n'.name=n.name∧n'.attrs=n.attrs:=by
 unfold iU at e
 split at e
 ·rename_i e1;subst e1;cases e2:g p with
  | none=>rw[e2] at e;cases e
  | some n=>rw[e2] at e;obtain rfl:=Option.some.inj e;exact⟨n,rfl,rfl,fun k hk=>hk,rfl,rfl⟩
 ·split at e
  ·cases e2:g p with
   | none=>rw[e2] at e;cases e
   | some n=>rw[e2] at e;obtain rfl:=Option.some.inj e;exact⟨n,rfl,rfl,fun k hk=>List.mem_of_mem_erase hk,rfl,rfl⟩
  ·exact⟨n',e,rfl,fun k hk=>hk,rfl,rfl⟩
theorem yV.cut {g:G} (H:yV g) (h:Int):yV (dG g h):=by
 unfold dG
 split
 ·exact H
 ·exact H.sub (fun p n' e=>by obtain⟨n,a,b,c,_⟩:=Ed e;exact⟨n,a,b,c⟩) fun p n' _ k _=>yK k
theorem Ih {g:G} {h:Int} (k:Int):kindOf (dG g h) k=kindOf g k:=by
 unfold dG;split
 ·rfl
 ·exact yK k
theorem kW {g:G} {p h b:Int} (k:Int):kindOf (bO g p h b) k=kindOf g k:=by
 unfold kindOf bO;by_cases e:k=h
 ·subst e;rw[if_pos rfl];cases g k<;>rfl
 ·rw[if_neg e];by_cases e1:k=p
  ·subst e1;rw[if_pos rfl];cases g k<;>rfl
  ·rw[if_neg e1]
theorem wG {l:List Int} {b x k:Int} (h:k∈iD l b x):k=x∨k∈l:=by
 induction l with
 | nil=>simp[iD] at h;exact .inl h
 | cons a r ih=>
  unfold iD at h
  split at h
  ·rcases List.mem_cons.1 h with h | h
   ·exact .inl h
   ·exact .inr h
  ·rcases List.mem_cons.1 h with h | h
   ·exact .inr (by simp[h])
   ·rcases ih h with h | h
    ·exact .inl h
    ·exact .inr (List.mem_cons_of_mem _ h)
theorem yV.link {g g1:G} {p h b:Int} (H:yV g1) (ha:eF g p h=true) (hk:∀ k,kindOf g1 k=kindOf g k) (hs:∀ n1,g1 p=some n1→∃ n,g p=some n∧∀ k∈n1.kids,k∈n.kids) (L9:∀ nh,g1 h=some nh→p=h→False):yV (bO g1 p h b):=by
 intro x n' e;by_cases hxh:x=h
 ·subst hxh;unfold bO at e;rw[if_pos rfl] at e;cases e1:g1 x with
  | none=>rw[e1] at e;cases e
  | some n=>
   rw[e1] at e;obtain rfl:=Option.some.inj e;exact (H x n e1).sub rfl fun k hk=>⟨hk,kW k⟩
 ·by_cases hxp:x=p
  ·subst hxp;unfold bO at e;rw[if_neg hxh,if_pos rfl] at e;cases e1:g1 x with
   | none=>rw[e1] at e;cases e
   | some n=>
    rw[e1] at e;obtain rfl:=Option.some.inj e;obtain⟨a1,a2,a3⟩:=H x n e1;obtain⟨no,eo,hso⟩:=hs n e1;have kx:kindOf g x=n.kind:=by rw[←hk,eG e1]
    unfold eF at ha;rw[kx] at ha;refine⟨?_,fun e2 k hk2=>?_,fun e2=>⟨fun k hk2=>?_,fun k1 hk1 k2 hk2 f1 f2=>?_⟩⟩
    ·show n.kind=2∨n.kind=1∨_;by_cases c2:n.kind=2
     ·exact .inl c2
     ·rw[if_neg c2] at ha;by_cases c1:n.kind=1
      ·exact .inr (.inl c1)
      ·rw[if_neg c1] at ha;cases ha
    ·have c2:n.kind=2:=e2;rw[if_pos c2] at ha;rw[kW];rcases wG hk2 with rfl | hk2
     ·rw[hk];simpa using ha
     ·exact a2 c2 k hk2
    ·have c1:n.kind=1:=e2;rw[if_neg (by omega),if_pos c1] at ha;rw[kW];rcases wG hk2 with rfl | hk2
     ·rw[hk];simp only[Bool.or_eq_true,beq_iff_eq,Bool.and_eq_true] at ha;rcases ha with ha | ha
      ·exact .inl ha
      ·exact .inr ha.1
     ·exact (a3 c1).1 k hk2
    ·have c1:n.kind=1:=e2;rw[if_neg (by omega),if_pos c1] at ha;rw[kW,hk] at f1 f2;have hot:kindOf g h=2→∀ k∈n.kids,kindOf g k=2→k=h:=fun h2 k hkk hk2=>by
      simp only[h2,Bool.or_eq_true,beq_iff_eq,Bool.and_eq_true,Bool.not_eq_true'] at ha;have ho:kU g x h=false:=by rcases ha with ha | ha;exact absurd ha (by decide);exact ha.2
      unfold kU at ho;rw[aH eo,List.any_eq_false] at ho;have:=ho k (hso k hkk);simp only[Bool.and_eq_true,bne_iff_ne,ne_eq,beq_iff_eq,not_and] at this;exact Classical.byContradiction fun hne=>this hne hk2
     rcases wG hk1 with g1' | g1'<;>rcases wG hk2 with g2' | g2'
     ·rw[g1',g2']
     ·rw[g1'] at f1 ⊢;exact (hot f1 k2 g2' f2).symm
     ·rw[g2'] at f2 ⊢;exact hot f2 k1 g1' f1
     ·exact (a3 c1).2 k1 g1' k2 g2' (by rw[hk];exact f1) (by rw[hk];exact f2)
  ·have:bO g1 p h b x=g1 x:=by unfold bO;rw[if_neg hxh,if_neg hxp]
   rw[this] at e;exact (H x n' e).sub rfl fun k hk=>⟨hk,kW k⟩
theorem yV.drop {g:G} (H:yV g) (w:WF 0 g) (h:Int) (hd:∀ n,g h=some n→n.pa=0):yV (iw g h):=by
 intro p n e;unfold iw at e
 split at e
 ·cases e
 ·rename_i hp;refine (H p n e).sub rfl fun k hk=>⟨hk,?_⟩
  have hkw:k∉ak g h:=fun hw=>by
   obtain⟨m,em,hpa⟩:=w.down p n k e hk;have h1:=(w.eH h k).1 hw;rw[w.aT em] at h1;rcases List.mem_cons.1 h1 with h1 | h1
   ·subst h1;have h2:=hd m em;rw[hpa] at h2;rw[h2,w.zero] at e;cases e
   ·rw[hpa] at h1;exact hp ((w.eH h p).2 h1)
  unfold kindOf iw;rw[if_neg hkw]
theorem yV.add {g:G} (H:yV g) (w:WF 0 g) {h:Int} {m:GN} (hn:g h=none) (hm:m.kids=[]):yV (dK g h m):=by
 intro p n e;by_cases hp:p=h
 ·subst hp;rw[bQ] at e;obtain rfl:=Option.some.inj e;have hno:∀ k,k∈m.kids→False:=fun k hk=>by rw[hm] at hk;cases hk
  exact⟨Or.inr (Or.inr hm),fun _ k hk=>(hno k hk).elim,fun _=>⟨fun k hk=>(hno k hk).elim,fun k hk=>(hno k hk).elim⟩⟩
 ·rw[bZ hp] at e;refine (H p n e).sub rfl fun k hk=>⟨hk,?_⟩
  obtain⟨q,eq,_⟩:=w.down p n k e hk;have hkh:k≠h:=fun e1=>by rw[e1,hn] at eq;cases eq
  unfold kindOf;rw[bZ hkh]
theorem qR.Tx {P:Int→Int→List Int→List Int→Prop} {xs ys l m:List Int} (h:qR P xs ys l m) (e:xs=[]):ys=[]:=by
 cases h with
 | nil=>rfl
 | cons _ _=>cases e
theorem Cp.kid {g g':G}:∀ (f:Nat) {x y q:Int} {lx ly:List Int},Cp g g' f x y q lx ly→∀ z∈ly,∃ x' n n',x'∈lx∧g x'=some n∧g' z=some n'∧n'.kind=n.kind∧n'.name=n.name∧n'.attrs=n.attrs∧(n.kids=[]→n'.kids=[])∧∀ k∈n'.kids,∃ x2∈lx,kindOf g' k=kindOf g x2
 | 0,_,_,_,_,_,h,_,_=>h.elim
 | f+1,x,y,q,lx,ly,h,z,hz=>by
  obtain⟨n,ys,l,m,e1,e2,h3,rfl,rfl⟩:=h;have heads:∀ {xs ys l m:List Int},qR (fun a b l m=>Cp g g' f a b y l m) xs ys l m→∀ k∈ys,∃ x2∈l,kindOf g' k=kindOf g x2:=by
   intro xs ys l m h
   induction h with
   | nil=>intro k hk;cases hk
   | @cons a b xs ys l1 m1 l m h1 h2 ih=>
    intro k hk;rcases List.mem_cons.1 hk with rfl | hk
    ·cases f with
     | zero=>exact h1.elim
     | succ f=>
      obtain⟨n2,ys2,l2,m2,k1,k2,k3,rfl,rfl⟩:=h1;exact⟨a,by simp,by rw[eG k1,eG k2]⟩
    ·obtain⟨x2,hx2,e⟩:=ih k hk;exact⟨x2,List.mem_append_right _ hx2,e⟩
  have rest:∀ {xs ys l m:List Int},qR (fun a b l m=>Cp g g' f a b y l m) xs ys l m→∀ z∈m,∃ x' n n',x'∈l∧g x'=some n∧g' z=some n'∧n'.kind=n.kind∧n'.name=n.name∧n'.attrs=n.attrs∧(n.kids=[]→n'.kids=[])∧∀ k∈n'.kids,∃ x2∈l,kindOf g' k=kindOf g x2:=by
   intro xs ys l m h
   induction h with
   | nil=>intro z hz;cases hz
   | cons h1 h2 ih=>
    intro z hz;rcases List.mem_append.1 hz with hz | hz
    ·obtain⟨x',n,n',a1,a2,a3,a4,a4',QF,a5,a6⟩:=Cp.kid f h1 z hz;exact⟨x',n,n',List.mem_append_left _ a1,a2,a3,a4,a4',QF,a5,fun k hk=>by obtain⟨x2,b1,b2⟩:=a6 k hk;exact⟨x2,List.mem_append_left _ b1,b2⟩⟩
    ·obtain⟨x',n,n',a1,a2,a3,a4,a4',QF,a5,a6⟩:=ih z hz;exact⟨x',n,n',List.mem_append_right _ a1,a2,a3,a4,a4',QF,a5,fun k hk=>by obtain⟨x2,b1,b2⟩:=a6 k hk;exact⟨x2,List.mem_append_right _ b1,b2⟩⟩
  rcases List.mem_cons.1 hz with rfl | hz
  ·exact⟨x,n,_,by simp,e1,e2,rfl,rfl,rfl,fun e=>h3.Tx e,fun k hk=>by obtain⟨x2,b1,b2⟩:=heads h3 k hk;exact⟨x2,List.mem_cons_of_mem _ b1,b2⟩⟩
  ·obtain⟨x',n2,n',a1,a2,a3,a4,a4',QF,a5,a6⟩:=rest h3 z hz;exact⟨x',n2,n',List.mem_cons_of_mem _ a1,a2,a3,a4,a4',QF,a5,fun k hk=>by obtain⟨x2,b1,b2⟩:=a6 k hk;exact⟨x2,List.mem_cons_of_mem _ b1,b2⟩⟩
theorem yV.copy {g g':G} {F:Nat} {x d q:Int} {la ds:List Int} (H:yV g) (w:WF 0 g) (hcp:Cp g g' F x d q la ds) (h1:∀ z∈la,kindOf g z≠1) (hfr:∀ z∈ds,g z=none) (hold:∀ z,z∉ds→g' z=g z):yV g':=by
 intro p n e;by_cases hp:p∈ds
 ·obtain⟨x',n0,n',a1,a2,a3,a4,_,_,a5,a6⟩:=Cp.kid F hcp p hp;rw[a3] at e;obtain rfl:=Option.some.inj e;have hk1:n0.kind≠1:=by rw[←eG a2];exact h1 x' a1
  refine⟨?_,fun _ k hk=>?_,fun e1=>absurd (a4▸e1) hk1⟩
  ·rcases (H x' n0 a2).1 with b | b | b
   ·exact .inl (by rw[a4];exact b)
   ·exact absurd b hk1
   ·exact .inr (.inr (a5 b))
  ·obtain⟨x2,b1,b2⟩:=a6 k hk;rw[b2];exact h1 x2 b1
 ·rw[hold p hp] at e;refine (H p n e).sub rfl fun k hk=>⟨hk,?_⟩
  obtain⟨m,em,_⟩:=w.down p n k e hk;have:k∉ds:=fun hk2=>by rw[hfr k hk2] at em;cases em
  unfold kindOf;rw[hold k this]
end Tr
end
section
open Go.RowKit Go.Shelf
theorem NW (base B bt bh:Nat) (b s root h:Int) (live n:Nat) (g:Tr.G) (av:Int→Tr.Sl) (fr:List Nat) (vs vf:Value) (w:World) (hS:Sound b s n (Tr.raw g av) fr live) (hw:Tr.WF 0 g) (hh:gI h) (hL:LS base B bt bh b s h vs n (Tr.raw g av) vf fr live root w) (zG:(Tr.au g h).length≤100000):
  Calls Tryz.prog 96 #[.func (.func 137) #[] #[.pointer (some ⟨bt,0,none⟩),.pointer (some ⟨bh,0,none⟩)]] w fun e w'=>∃ v,e=.returned v∧w'.ownsRow w.heap.size 3 1 v (Tr.au g h).length (ints (Tr.au g h))∧Below w.heap.size w w':=by
 have hA:=NQ base B bt bh b s root h live n g av fr vs vf w hS hw hh hL zG;clear hL hS
 go_enter Tryz.func96,Tryz.ntmps96
 go_wp2_with fail;refine hA.mono ?_;rintro e w1 ⟨v,rfl,ho,hb⟩;obtain⟨A,c,rfl⟩:=aF (aG ho);have HO:=zh (And.intro ho hb);clear ho hb hA;go_wp2_with fail
 go_ret
 exact⟨_,rfl,HO.out.1,HO.out.2⟩
theorem NY (base B:Nat) (b s root h:Int) (live n:Nat) (g:Tr.G) (av:Int→Tr.Sl) (fr:List Nat) (vs vf:Value) (w:World) (hM:TV base w B b s vs n (Tr.raw g av) vf fr live root) (hS:Sound b s n (Tr.raw g av) fr live) (hw:Tr.WF 0 g) (hh:gI h) (zG:(Tr.au g h).length≤100000):
  Calls Tryz.prog 96 #[.func (.func 137) #[] #[.pointer (some ⟨w.heap.size,0,none⟩),.pointer (some ⟨w.heap.size+1,0,none⟩)]] ((w.alloc (.cells #[.pointer (some ⟨B,0,none⟩)] 37)).alloc (.cells #[.int .i64 h] 3)) fun e w'=>∃ v,e=.returned v∧w'.ownsRow w.heap.size 3 1 v (Tr.au g h).length (ints (Tr.au g h))∧Below w.heap.size w w':=by
 refine (NW base B w.heap.size (w.heap.size+1) b s root h live n g av fr vs vf _ hS hw hh (LS.made hM) zG).mono ?_;rintro e w1 ⟨v,rfl,ho,hb⟩;have h2:w.heap.size≤((w.alloc (.cells #[.pointer (some ⟨B,0,none⟩)] 37)).alloc (.cells #[.int .i64 h] 3)).heap.size:=by simp only[World.size_alloc];omega
 exact⟨v,rfl,eT ho h2,(((Below.refl _ w).alloc (Nat.le_refl _) _).alloc (by simp only[World.size_alloc];omega) _).trans (hb.mono h2)⟩
theorem NZ (base B bt bh:Nat) (b s root h:Int) (live n:Nat) (g:Tr.G) (av:Int→Tr.Sl) (fr:List Nat) (vs vf:Value) (w:World) (hS:Sound b s n (Tr.raw g av) fr live) (hw:Tr.WF 0 g) (hh:gI h) (hL:LS base B bt bh b s h vs n (Tr.raw g av) vf fr live root w) (zG:(Tr.ak g h).length≤100000):
  Calls Tryz.prog 96 #[.func (.func 130) #[] #[.pointer (some ⟨bt,0,none⟩),.pointer (some ⟨bh,0,none⟩)]] w fun e w'=>∃ v,e=.returned v∧w'.ownsRow w.heap.size 3 1 v (Tr.ak g h).length (ints (Tr.ak g h))∧Below w.heap.size w w':=by
 have hA:=NR base B bt bh b s root h live n g av fr vs vf w hS hw hh hL zG;clear hL hS
 go_enter Tryz.func96,Tryz.ntmps96
 go_wp2_with fail;refine hA.mono ?_;rintro e w1 ⟨v,rfl,ho,hb⟩;obtain⟨A,c,rfl⟩:=aF (aG ho);have HO:=zh (And.intro ho hb);clear ho hb hA;go_wp2_with fail
 go_ret
 exact⟨_,rfl,HO.out.1,HO.out.2⟩
theorem N7 (base B:Nat) (b s root h:Int) (live n:Nat) (g:Tr.G) (av:Int→Tr.Sl) (fr:List Nat) (vs vf:Value) (w:World) (hM:TV base w B b s vs n (Tr.raw g av) vf fr live root) (hS:Sound b s n (Tr.raw g av) fr live) (hw:Tr.WF 0 g) (hh:gI h) (zG:(Tr.ak g h).length≤100000):
  Calls Tryz.prog 96 #[.func (.func 130) #[] #[.pointer (some ⟨w.heap.size,0,none⟩),.pointer (some ⟨w.heap.size+1,0,none⟩)]] ((w.alloc (.cells #[.pointer (some ⟨B,0,none⟩)] 37)).alloc (.cells #[.int .i64 h] 3)) fun e w'=>∃ v,e=.returned v∧w'.ownsRow w.heap.size 3 1 v (Tr.ak g h).length (ints (Tr.ak g h))∧Below w.heap.size w w':=by
 refine (NZ base B w.heap.size (w.heap.size+1) b s root h live n g av fr vs vf _ hS hw hh (LS.made hM) zG).mono ?_;rintro e w1 ⟨v,rfl,ho,hb⟩;have h2:w.heap.size≤((w.alloc (.cells #[.pointer (some ⟨B,0,none⟩)] 37)).alloc (.cells #[.int .i64 h] 3)).heap.size:=by simp only[World.size_alloc];omega
 exact⟨v,rfl,eT ho h2,(((Below.refl _ w).alloc (Nat.le_refl _) _).alloc (by simp only[World.size_alloc];omega) _).trans (hb.mono h2)⟩
theorem P9 (base B:Nat) (b s root h:Int) (live n:Nat) (g:Tr.G) (av:Int→Tr.Sl) (fr:List Nat) (vs vf:Value) (w:World) (hM:TV base w B b s vs n (Tr.raw g av) vf fr live root) (hS:Sound b s n (Tr.raw g av) fr live) (hw:Tr.WF 0 g) (hh:gI h) (zG:(Tr.au g h).length≤100000):
  Calls Tryz.prog 49 #[.pointer (some ⟨B,0,none⟩),.int .i64 h] w fun e w'=>∃ v,e=.returned v∧w'.ownsRow w.heap.size 3 1 v (Tr.au g h).length (ints (Tr.au g h))∧Below w.heap.size w w':=by
 have hA:=sS B h w;have HC:=zh (NY base B b s root h live n g av fr vs vf w hM hS hw hh zG);clear hM hS hw
 go_enter Tryz.func49,Tryz.ntmps49
 go_wp2_with fail;refine hA.mono ?_;rintro e w1 ⟨rfl,rfl⟩;clear hA;go_wp2_with fail;refine HC.out.mono ?_;rintro e w2 ⟨v,rfl,ho,hb⟩;obtain⟨A,c,rfl⟩:=aF (aG ho);have HO:=zh (And.intro ho hb);clear ho hb HC;go_wp2_with fail
 go_ret
 exact⟨_,rfl,HO.out.1,HO.out.2⟩
end
section
open Go.RowKit
def oN (m k:Nat):List Int:=(List.range' m k).map fun i:Nat=>(i:Int)
theorem nQ {m k:Nat} {z:Int}:z∈oN m k↔∃ i:Nat,z=(i:Int)∧m≤i∧i<m+k:=by
 unfold oN;rw[List.mem_map];constructor
 ·rintro⟨i,hi,rfl⟩;rw[List.mem_range'_1] at hi;exact⟨i,rfl,hi.1,hi.2⟩
 ·rintro⟨i,rfl,h1,h2⟩;exact⟨i,List.mem_range'_1.2 ⟨h1,h2⟩,rfl⟩
theorem Kt (m k:Nat):(oN m k).Nodup:=by
 unfold oN;have h:(List.range' m k).Nodup:=List.nodup_range';generalize List.range' m k=l at h
 induction l with
 | nil=>simp
 | cons a r ih=>
  rw[List.nodup_cons] at h;rw[List.map_cons,List.nodup_cons];refine⟨fun hm=>?_,ih h.2⟩;obtain⟨b,hb,e⟩:=List.mem_map.1 hm;have:b=a:=by omega
  exact h.1 (this▸hb)
theorem QG (m k j:Nat):oN m (k+j)=oN m k++oN (m+k) j:=by
 unfold oN;rw[←List.map_append,List.range'_append_1]
theorem DK (m k:Nat):oN m (k+1)=(m:Int)::oN (m+1) k:=by
 unfold oN;rw[List.range'_succ,List.map_cons]
theorem GJ (m k:Nat):(oN m k).length=k:=by unfold oN;simp
def Full (a:Tr.G):Nat→Int→Prop
 | 0,_=>False
 | F+1,x=>∃ n,a x=some n∧∀ k∈n.kids,Full a F k
theorem Full.live {a:Tr.G}:∀ {F:Nat} {x:Int},Full a F x→(a x).isSome
 | 0,_,h=>h.elim
 | F+1,x,⟨n,e,_⟩=>by rw[e];rfl
theorem Full.all {a:Tr.G}:∀ (F:Nat) (x:Int),Full a F x→∀ z∈Tr.walk a F x,(a z).isSome∧∀ n,a z=some n→∀ k∈n.kids,(a k).isSome
 | 0,_,h=>h.elim
 | F+1,x,⟨n,e,hk⟩=>by
  rw[Tr.walk,e];intro z hz;rcases List.mem_cons.1 hz with rfl | hz
  ·exact⟨by rw[e];rfl,fun n' e' k hk'=>by rw[e] at e';obtain rfl:=Option.some.inj e';exact (hk k hk').live⟩
  ·obtain⟨k,hk1,hk2⟩:=List.mem_flatMap.1 hz;exact Full.all F k (hk k hk1) z hk2
theorem Full.same {a a':Tr.G}:∀ (F:Nat) (x:Int),Full a F x→(∀ z∈Tr.walk a F x,a' z=a z)→Full a' F x
 | 0,_,h,_=>h.elim
 | F+1,x,⟨n,e,hk⟩,h=>by
  have hx:x∈Tr.walk a (F+1) x:=by rw[Tr.walk,e];simp
  refine⟨n,by rw[h x hx];exact e,fun k hk'=>Full.same F k (hk k hk') fun z hz=>h z ?_⟩;rw[Tr.walk,e];exact List.mem_cons_of_mem _ (List.mem_flatMap.2 ⟨k,hk',hz⟩)
theorem Tr.WF.full {z:Int} {a:Tr.G} (w:Tr.WF z a):∀ (F:Nat) (x:Int),F+(Tr.aS a x).length=129→(a x).isSome→Full a F x
 | 0,x,h,_=>by have:=(w.cu x).2;omega
 | F+1,x,h,hx=>by
  obtain⟨n,e⟩:=Option.isSome_iff_exists.1 hx;refine⟨n,e,fun k hk=>w.full F k ?_ ?_⟩
  ·rw[w.jC e hk,List.length_cons];omega
  ·obtain⟨q,e1,_⟩:=w.down x n k e hk;rw[e1];rfl
def Cr (a:Tr.G) (q c:Int):Tr.G:=fun z=>if z=q then (a z).map fun n=>{ n with kids:=n.kids++[c] } else a z
theorem Ii (a:Tr.G) (q c z:Int):(Cr a q c z).isSome=(a z).isSome:=by
 unfold Cr;split
 ·cases a z<;>rfl
 ·rfl
def Gz (m:Nat) (f f':Nat→RS) (q:Int) (c:Int):Prop:=(∀ i,i<m→(i:Int)≠q→f' i=f i)∧∀ i,i<m→(i:Int)=q→∃ sl,f' i={ f i with k:=sl,kids:=(f i).kids++[c] }
theorem Gz.tree {m k:Nat} {f f':Nat→RS} {q c:Int} (h:Gz m f f' q c):∀ z,z∉oN m k→mg (m+k) f' z=Cr (mg m f) q c z:=by
 intro z hz;unfold Cr;by_cases h0:z<0
 ·rw[lQ h0,lQ h0];split<;>rfl
 ·obtain⟨i,rfl⟩:=Int.eq_ofNat_of_zero_le (by omega:0≤z);show mg (m+k) f' (i:Int)=_;rw[jH,jH];by_cases hi:i<m
  ·by_cases hq:(i:Int)=q
   ·obtain⟨sl,e⟩:=h.2 i hi hq;rw[if_pos hq,e];by_cases hg:(f i).gone=false
    ·rw[if_pos ⟨by omega,hg⟩,if_pos ⟨hi,hg⟩];rfl
    ·rw[if_neg (fun h=>hg h.2),if_neg (fun h=>hg h.2)];rfl
   ·rw[if_neg hq,h.1 i hi hq];by_cases hg:(f i).gone=false
    ·rw[if_pos ⟨by omega,hg⟩,if_pos ⟨hi,hg⟩]
    ·rw[if_neg (fun h=>hg h.2),if_neg (fun h=>hg h.2)]
  ·have hk:¬ i<m+k:=fun h=>hz (nQ.2 ⟨i,rfl,by omega,h⟩);have e1:(if i<m∧(f i).gone=false then some (jZ (f i)) else none)=none:=if_neg (fun h=>hi h.1);rw[if_neg (fun h:i<m+k∧(f' i).gone=false=>hk h.1),e1]
   split<;>rfl
theorem yC {m k:Nat} {f:Nat→RS} {z:Int} (h:z∈oN m k):mg m f z=none:=by
 obtain⟨i,rfl,h1,_⟩:=nQ.1 h;rw[jH,if_neg (fun h=>by omega)]
def YJ (base M m:Nat) (vs:Value) (f:Nat→RS) (x q:Int) (F:Nat) (w:World) (e:Ending) (w':World):Prop:=
 ∃ (u vs':Value) (k:Nat) (f':Nat→RS),e=.returned u∧MV base w' M vs' (m+k) f'∧aB w w' (aC M vs m f) (aC M vs' (m+k) f')∧Gz m f f' q (m:Int)∧(∀ i,m≤i→i<m+k→(f' i).gone=false)∧
  Tr.Cp (mg m f) (mg (m+k) f') F x (m:Int) q (Tr.walk (mg m f) F x) (oN m k)
def Gl (base M m nb:Nat) (vs:Value) (f:Nat→RS) (x:Nat) (q:Int) (F:Nat) (w:World) (pre:List Int) (W:World):Prop:=
 ∃ (vs':Value) (k:Nat) (fj:Nat→RS) (ys l:List Int),MV base W M vs' (m+1+k) fj∧aB w W (aC M vs m f) (aC M vs' (m+1+k) fj)∧Gz m f fj q (m:Int)∧(∀ i,m≤i→i<m+1+k→(fj i).gone=false)∧
  Tr.vD (-1) (mg m f) (Cr (mg m f) q (m:Int)) (jZ (f x)) F (m:Int) q (mg (m+1+k) fj) pre ys l (oN (m+1) k)∧Whole W nb #[.int .i64 (f x).kind,.string (f x).name,.slice (f x).a.a (f x).at'.length (f x).a.c,.string (f x).data,.int .i64 (f x).pa,.slice (f x).k.a (f x).kids.length (f x).k.c,.bool (f x).gone] 75∧¬ aC M vs' (m+1+k) fj nb
section
variable {base M m nb:Nat} {vs:Value} {f:Nat→RS} {x:Nat} {q:Int} {F:Nat} {w W W':World} {pre:List Int}
theorem Gl.next (H:Gl base M m nb vs f x q F w pre W) (hx:x<m) (hF:Full (mg m f) (F+1) (x:Int)) (hxg:(f x).gone=false) (hq:q∉Tr.walk (mg m f) (F+1) (x:Int)) {kid:Int} (hk:kid∈(f x).kids) (hpre:pre++[kid] <+: (f x).kids)
  (hcap:m+(Tr.walk (mg m f) (F+1) (x:Int)).length≤100000) (hat:∀ i:Nat,(i:Int)∈Tr.walk (mg m f) (F+1) (x:Int)→(f i).at'.length≤1000) (hkl:(f x).kids.length≤100000)
  (IH:∀ (m:Nat) (vs:Value) (f:Nat→RS) (x q:Int) (w:World),MV base w M vs m f→Full (mg m f) F x→(q = -1∨∃ n,mg m f q=some n∧n.kids.length≤100000)→q∉Tr.walk (mg m f) F x→m+(Tr.walk (mg m f) F x).length≤100000→(∀ i:Nat,(i:Int)∈Tr.walk (mg m f) F x→(f i).at'.length≤1000)→
   Calls Tryz.prog 129 #[.pointer (some ⟨M,0,none⟩),.int .i64 x,.int .i64 q,.bool true] w (YJ base M m vs f x q F w)):
  Calls Tryz.prog 129 #[.pointer (some ⟨M,0,none⟩),.int .i64 kid,.int .i64 (m:Int),.bool true] W fun e w'=>(∃ u,e=.returned u)∧Gl base M m nb vs f x q F w (pre++[kid]) w':=by
 obtain⟨vs',k,fj,ys,l,h1,h2,h3,h4,h5,h6,h7⟩:=H;obtain⟨nx,OC,YK⟩:=hF;have ZU:=OC;rw[aM hx hxg] at ZU;obtain rfl:=Option.some.inj ZU;have hkF:=YK kid hk;have U9:∀ y∈(f x).kids,∀ z∈Tr.walk (mg m f) F y,z∈Tr.walk (mg m f) (F+1) (x:Int):=fun y hy z hz=>by
  rw[Tr.walk,OC];exact List.mem_cons_of_mem _ (List.mem_flatMap.2 ⟨y,hy,hz⟩)
 have hall:=Full.all F kid hkF;have hne:∀ z∈Tr.walk (mg m f) F kid,z≠q:=fun z hz e=>hq (e▸U9 kid hk z hz);have hsame:∀ z∈Tr.walk (mg m f) F kid,mg (m+1+k) fj z=mg m f z:=fun z hz=>by
  have h0:=(hall z hz).1;rw[h5.old z (fun hm=>by rw[(h5.fresh z hm).1] at h0;cases h0)];unfold Cr;rw[if_neg (hne z hz)]
 have hag:Tr.walk (mg (m+1+k) fj) F kid=Tr.walk (mg m f) F kid:=Tr.qy F kid hsame (fun z hz=>(hall z hz).2) hkF.live;have hys:ys.length≤100000:=by
  have h8:=h5.cp.heads;have h9:=hpre.length_le;rw[List.length_append,List.length_singleton] at h9;omega
 have hml:l=pre.flatMap (Tr.walk (mg m f) F):=(h5.cp.flat (u:=Tr.walk (mg m f) F) (v:=Tr.walk (mg (m+1+k) fj) F) fun a b l' m' h=>Tr.Cp.walks F F h (Nat.le_refl _)).1.symm;have hlk:l.length=k:=by rw[h5.cp.len fun a b l' m' h=>Tr.Cp.len F h,GJ]
 have hcap2:m+1+k+(Tr.walk (mg (m+1+k) fj) F kid).length≤100000:=by
  rw[hag];obtain⟨rest,hr⟩:=hpre;have e1:(Tr.walk (mg m f) (F+1) (x:Int)).length=1+((f x).kids.flatMap (Tr.walk (mg m f) F)).length:=by rw[Tr.walk,OC];simp only[List.length_cons];rw[show (jZ (f x)).kids=(f x).kids from rfl];omega
  rw[←hr,List.flatMap_append,List.flatMap_append,List.length_append,List.length_append,←hml,hlk] at e1;have e2:([kid].flatMap (Tr.walk (mg m f) F)).length=(Tr.walk (mg m f) F kid).length:=by simp
  omega
 refine (IH (m+1+k) vs' fj kid (m:Int) W h1 (Full.same F kid hkF hsame) (.inr ⟨_,h5.self,hys⟩) (fun hm=>?_) hcap2 (fun i hi=>?_)).mono ?_
 ·rw[hag] at hm;have:=(hall _ hm).1;rw[jH,if_neg (fun h=>by omega)] at this;cases this
 ·rw[hag] at hi;have hi0:=(hall _ hi).1;obtain⟨j,ej,hj,_⟩:=jv hi0;have:i=j:=by omega
  subst this;rw[h3.1 i hj (hne _ hi)];exact hat i (U9 kid hk _ hi)
 ·rintro e w' ⟨u,vs2,k2,f2,rfl,j1,j2,j3,j4,j5⟩;refine⟨⟨u,rfl⟩,vs2,k+k2,f2,ys++[((m+1+k:Nat):Int)],l++Tr.walk (mg m f) F kid,by rw[←Nat.add_assoc];exact j1,by rw[←Nat.add_assoc];exact h2.trans j2,?_,?_,?_,?_,?_⟩
  ·constructor
   ·intro i hi hiq;rw[j3.1 i (by omega) (by omega)];exact h3.1 i hi hiq
   ·intro i hi hiq;obtain⟨sl,e⟩:=h3.2 i hi hiq;exact⟨sl,by rw[j3.1 i (by omega) (by omega),e]⟩
  ·intro i h1 h2;by_cases hi:i<m+1+k
   ·by_cases him:i=m
    ·obtain⟨sl,e⟩:=j3.2 i hi (by omega);rw[e];exact h4 i h1 hi
    ·rw[j3.1 i hi (by omega)];exact h4 i h1 hi
   ·exact j4 i (by omega) (by omega)
  ·rw[QG,←Nat.add_assoc];refine h5.step (fun z=>Ii _ _ _ z) (lk:=Tr.walk (mg (m+1+k) fj) F kid) (fun z hz=>⟨(hall z hz).1,?_⟩) j5 (Kt _ _) (fun z hz=>⟨yC hz,?_⟩) (fun z hz=>?_) hkF.live (fun z hz=>(hall z hz).2)
   ·unfold Cr;rw[if_neg (hne z hz)]
   ·obtain⟨i,rfl,_⟩:=nQ.1 hz;omega
   ·rw[j3.tree (k:=k2) z hz];unfold Cr;by_cases e:z=(m:Int)
    ·rw[if_pos e,if_pos e,e]
    ·rw[if_neg e,if_neg e]
  ·have ZV:=h6.lt;exact h6.turns j2.1 h7
  ·intro hm;have ZV:=h6.lt;rw[←Nat.add_assoc] at hm;exact h7 (j2.2 nb ZV hm)
end
end
section
open Go.RowKit Go.Shelf
attribute [local go_sem] Oper.semAt_some
theorem Tz (base B bt bh:Nat) (b s root h:Int) (live n:Nat) (g:Tr.G) (av:Int→Tr.Sl) (fr:List Nat) (vs vf:Value) (w:World) (hS:Sound b s n (Tr.raw g av) fr live) (hw:Tr.WF 0 g) (hh:gI h) (hL:LS base B bt bh b s h vs n (Tr.raw g av) vf fr live root w) (zG:(Tr.aS g h).length≤100000):
  Calls Tryz.prog 132 #[.slice none 0 0,.func (.func 103) #[] #[.pointer (some ⟨bh,0,none⟩),.pointer (some ⟨bt,0,none⟩)]] w fun e w'=>∃ v,e=.returned v∧w'.ownsRow w.heap.size 3 1 v (Tr.aS g h).length (ints (Tr.aS g h))∧Below w.heap.size w w':=by
 obtain⟨i0,hi,hz0,hz1,hz2⟩:=info_parts vo;have hlt:=hL.tree.lt;have H9:=hL.bt.lt;have Ia:=hL.bh.lt;obtain⟨w1,hw1⟩:=eX (w.alloc (.cells #[.slice none 0 0] 39))
 have hz1':w1.heap.size=w.heap.size+1:=by rw[←hw1];simp
 have hb1:Below w.heap.size w w1:=fI hw1;have hX1:Boxed w1 w.heap.size 39 (.slice none 0 0):=by rw[←hw1];exact Boxed.new w _ _
 have hL1:=hL.below hb1;have hseq:=Fu hS hw hh 7 (by omega) w1 hL1;have hm1:¬ aD B vs vf w.heap.size:=fun hk=>by have:=(hlt _ hk).2;omega
 have HL:=zh hL1;clear hL hL1;refine (callsIn_wide (n:=8)).1 ?_;refine callsIn_of_wp_marks Tryz.func132 rfl trivial ?_ rfl;simp only[Tryz.ntmps132,pT,Nat.reduceAdd,Nat.reduceSub]
 gi_wp2_with fail
 (try rw[hw1]);(try gi_wp2_with fail);refine wpIn_rangeFunc_ownF (w:=w1) rfl (by decide) (gf:=103) (lb:=#[.pointer (some ⟨bh,0,none⟩),.pointer (some ⟨bt,0,none⟩)]) rfl trivial (enters_of Tryz.func103 (by kernel_rfl) rfl) hseq LS.qW (LS.uq _) (Below.refl _ _) (fun _=>rfl)
  (fun pre W=>(∃ v,Boxed W w.heap.size 39 v∧W.ownsRow (w.heap.size+1) 3 1 v pre.length (ints (pre.map (·.1))))∧LS base B bt bh b s h vs n (Tr.raw g av) vf fr live root W∧Below w.heap.size w W) (fun _ _ _=>False)
  ?hI ?hIx ⟨⟨_,hX1,World.ownsRow_nil _ _ _ _⟩,HL.out,hb1⟩ (fun x=>{ tmps:=#[.slice none 0 0,.func (.func 103) #[] #[.pointer (some ⟨bh,0,none⟩),.pointer (some ⟨bt,0,none⟩)],.pointer (some ⟨w.heap.size,0,none⟩),undef,.slice none 0 0,.int .i64 x.1,.func (.func 103) #[] #[.pointer (some ⟨bh,0,none⟩),.pointer (some ⟨bt,0,none⟩)],.int .i64 x.1,undef,undef,undef,undef,undef],defers:=[] }) ?assign ?body ?done ?stop
 case hI=>
  rintro pre W W' row ⟨⟨v,h1,h2⟩,h3,h4⟩ hg hr;refine⟨⟨v,h1.kept hg (fun e'=>?_),h2.kept hg ?_⟩,h3.others hg (fun r e=>(hr r e).2),h4.grown hg h4.size (fun r e=>by have:=(hr r e).1;omega)⟩
  ·obtain⟨o,ho,hc⟩:=(hr _ e'.symm).2;rw[show W.heap[w.heap.size]?=_ from h1] at ho;cases ho;cases hc
  ·rcases h2.2 with ⟨rfl,_⟩ | ⟨g,cap,cur,rfl,_,hgb,_⟩
   ·exact .inl rfl
   ·refine .inr fun e'=>?_;obtain⟨o,ho,hc⟩:=(hr g (by rw[←e'];rfl)).2;rw[hgb] at ho;cases ho;cases hc
 case hIx=>intro c pre W W' row h _ _;exact h
 case assign=>
  intro l x W K hK
  gi_wp2
  first | exact hK | simpa using hK
 case body=>
  rintro l pre x W ⟨⟨v,hv,hrow⟩,mo,hBW⟩ hlen;obtain⟨Av,cv,rfl⟩:=aF (aG hrow);have hc:=hv.cell;have hfz:=hv.frozen;have hpl:pre.length≤100000:=by omega
  have hsz:w.heap.size+1≤W.heap.size:=hv.lt;have hrow':=hrow.alloc (.cells #[.int .i64 x.1] 3);have ZO:=zh mo;have uo:=zh hBW;have HV:=zh hv;have AB:=zh hrow;clear mo hBW hrow
  gi_wp2_with (gi_at_builtin;refine wpListIn_append_own _ rfl _ _ 39 rfl (w.heap.size+1) 3 i0 (.int .i64 0) 1 8 Tryz.underlying39 hi hz0 hz1 hz2 rfl (by decide) _ _ _ rfl hrow' ⟨W.heap.size,0,none⟩ 1 1 [.int .i64 x.1] rfl rfl (jh _ _ _) (by simp[Value.oneCell']) ?c1 ?c2 ?c3 ?_)
  case c1=>unfold maxLen;omega
  case c2=>omega
  case c3=>rw[World.size_alloc];omega
  intro v2 w2 o2 g2 _;have hmap:ints pre.unattach++[.int .i64 x.1]=ints ((pre++[x]).map (·.1)):=by rw[List.map_append];exact xJ _ _
  rw[hmap] at o2;obtain⟨A2,c2,rfl⟩:=aF (aG o2);have nZ:=eT AB.out (Nat.le_succ w.heap.size);obtain⟨q1,q2,_,q4,q5⟩:=Boxed.appended HV.out (by decide) nZ (by omega) (Nat.le_refl _) (eT o2 (Nat.le_succ w.heap.size)) g2;have q3:=o2.kept (grownBy_setCell' w2 w.heap.size (.slice A2 (pre.length+1) c2)) (.inr (q1.not_row (by decide) o2).symm);have qc:=q1.cell;have qf:=q1.frozen;have HL2:=zh (LS.xI ZO.out q5 hlt H9 Ia);have HK:Hid (LS base B bt bh b s h vs n (Tr.raw g av) vf fr live root W→LS base B bt bh b s h vs n (Tr.raw g av) vf fr live root (w2.setCell ⟨w.heap.size,0,none⟩ (.slice A2 (pre.length+1) c2))):=zh (fun H=>LS.xI H q5 hlt H9 Ia);have HB2:=zh (uo.out.trans q5);have Q2:=zh q2;have Q3:=zh q3;have Q4:=zh q4;clear q2 q3 q4 q5 q1 nZ o2 g2
  gi_wp2_with fail
  exact⟨Q4.out,HK.out,⟨_,Q2.out,by rw[List.length_append];exact Q3.out⟩,HL2.out,HB2.out⟩
 case done=>
  rintro D xs W hD rfl ⟨⟨v,hv,hrow⟩,mo,hBW⟩ hK;obtain⟨Av,cv,rfl⟩:=aF (aG hrow);rw[List.length_attach] at hv;have hc:=hv.cell;have hr2:W.ownsRow w.heap.size 3 1 (.slice Av (Tr.aS g h).length cv) (Tr.aS g h).length (ints (Tr.aS g h)):=by
   rw[List.length_attach,List.attach_map_subtype_val] at hrow;exact eT hrow (by omega)
  have HB:=zh (And.intro (ownsRow_putObj hr2 (.deferred none) hK rfl) (hBW.trans (belowK_b (w:=w) (Nat.le_refl _) W D _ (.deferred none) (by omega) hK rfl rfl)));clear hrow hr2 mo hBW hv
  gi_wp2_with fail
  refine⟨by simp,.inl ⟨_,_,rfl,run_takeDeferred hK,?_⟩⟩;exact⟨_,results_tmp rfl _ _ _,.slice Av (Tr.aS g h).length cv,rfl,HB.out.1,HB.out.2⟩
 case stop=>
  rintro D c pre W _ _ h _;exact h.elim
theorem TA (base B bt bh:Nat) (b s root h:Int) (live n:Nat) (g:Tr.G) (av:Int→Tr.Sl) (fr:List Nat) (vs vf:Value) (w:World) (hS:Sound b s n (Tr.raw g av) fr live) (hw:Tr.WF 0 g) (hh:gI h) (hL:LS base B bt bh b s h vs n (Tr.raw g av) vf fr live root w) (zG:(Tr.aS g h).length≤100000):
  Calls Tryz.prog 96 #[.func (.func 103) #[] #[.pointer (some ⟨bh,0,none⟩),.pointer (some ⟨bt,0,none⟩)]] w fun e w'=>∃ v,e=.returned v∧w'.ownsRow w.heap.size 3 1 v (Tr.aS g h).length (ints (Tr.aS g h))∧Below w.heap.size w w':=by
 have hA:=Tz base B bt bh b s root h live n g av fr vs vf w hS hw hh hL zG;clear hL hS
 go_enter Tryz.func96,Tryz.ntmps96
 go_wp2_with fail;refine hA.mono ?_;rintro e w1 ⟨v,rfl,ho,hb⟩;obtain⟨A,c,rfl⟩:=aF (aG ho);have HO:=zh (And.intro ho hb);clear ho hb hA;go_wp2_with fail
 go_ret
 exact⟨_,rfl,HO.out.1,HO.out.2⟩
theorem TB (base B:Nat) (b s root h:Int) (live n:Nat) (g:Tr.G) (av:Int→Tr.Sl) (fr:List Nat) (vs vf:Value) (w:World) (hM:TV base w B b s vs n (Tr.raw g av) vf fr live root) (hS:Sound b s n (Tr.raw g av) fr live) (hw:Tr.WF 0 g) (hh:gI h) (zG:(Tr.aS g h).length≤100000):
  Calls Tryz.prog 96 #[.func (.func 103) #[] #[.pointer (some ⟨w.heap.size+1,0,none⟩),.pointer (some ⟨w.heap.size,0,none⟩)]] ((w.alloc (.cells #[.pointer (some ⟨B,0,none⟩)] 37)).alloc (.cells #[.int .i64 h] 3)) fun e w'=>∃ v,e=.returned v∧w'.ownsRow w.heap.size 3 1 v (Tr.aS g h).length (ints (Tr.aS g h))∧Below w.heap.size w w':=by
 refine (TA base B w.heap.size (w.heap.size+1) b s root h live n g av fr vs vf _ hS hw hh (LS.made hM) zG).mono ?_;rintro e w1 ⟨v,rfl,ho,hb⟩;have h2:w.heap.size≤((w.alloc (.cells #[.pointer (some ⟨B,0,none⟩)] 37)).alloc (.cells #[.int .i64 h] 3)).heap.size:=by simp only[World.size_alloc];omega
 exact⟨v,rfl,eT ho h2,(((Below.refl _ w).alloc (Nat.le_refl _) _).alloc (by simp only[World.size_alloc];omega) _).trans (hb.mono h2)⟩
theorem Md (base B:Nat) (b s root h:Int) (live n:Nat) (g:Tr.G) (av:Int→Tr.Sl) (fr:List Nat) (vs vf:Value) (w:World) (hM:TV base w B b s vs n (Tr.raw g av) vf fr live root) (hS:Sound b s n (Tr.raw g av) fr live) (hw:Tr.WF 0 g) (hh:gI h):
  Calls Tryz.prog 105 #[.pointer (some ⟨B,0,none⟩),.int .i64 h] w fun e w'=>∃ v,e=.returned v∧w'.ownsRow w.heap.size 3 1 v (Tr.aS g h).length (ints (Tr.aS g h).reverse)∧Below w.heap.size w w':=by
 have zG:=(hw.cu h).2;have hA:=zD B h w;have HC:=zh (TB base B b s root h live n g av fr vs vf w hM hS hw hh (by omega));clear hM hS hw
 go_enter Tryz.func105,Tryz.ntmps105
 go_wp2_with fail;refine hA.mono ?_;rintro e w1 ⟨rfl,rfl⟩;clear hA;go_wp2_with fail;refine HC.out.mono ?_;rintro e w2 ⟨v,rfl,ho,hb⟩;by_cases hv:v=.slice none 0 0
 ·subst hv;have hl0:Tr.aS g h=[]:=by
   rcases ho.2 with ⟨_,hx⟩ | ⟨_,_,_,e0,_⟩
   ·simpa [ints] using hx
   ·cases e0
  have X:=zh (And.intro ho hb);have hrev:=Any.slices_Reverse_int_empty Tryz.LC none 0 w2;clear ho hb HC;go_wp2_with fail;refine hrev.mono ?_;rintro e w3 ⟨rfl,rfl⟩;clear hrev;go_wp2_with fail
  go_ret
  refine⟨_,rfl,?_,X.out.2⟩;have:=X.out.1;rw[hl0] at this ⊢;exact this
 ·obtain⟨A,c,rfl,hbg,hgl,_,hcm,_,hH⟩:=Lib.holds_of_ownsRow ho hv;have hrev:=Any.slices_Reverse_int Tryz.LC A 0 c (Tr.aS g h) w2 hH (by omega);have X:=zh (And.intro ho (And.intro hb hbg));clear ho hb HC hH;go_wp2_with fail;refine hrev.mono ?_;rintro e w3 ⟨rfl,q,rfl⟩;clear hrev;go_wp2_with fail
  go_ret
  have h1:=Lib.ownsRow_putRow (q:=q) (ys:=(Tr.aS g h).reverse) X.out.1 (by simp) (Nat.le_refl _);rw[List.take_of_length_le (by simp)] at h1;exact⟨_,rfl,h1,Lib.below_putRow X.out.2.1 X.out.2.2⟩
end
section
open Go.RowKit Go.Shelf
attribute [local go_sem] Oper.semAt_some
def rY (I:Int→Int):List Int→List Int→Int
 | x::xs,y::ys=>if x=y then rY I xs ys else ou (I x) (I y)
 | xs,ys=>ou xs.length ys.length
def SL (w:World) (v:Value) (l:List Int):Prop:=∃ a c,v=.slice a l.length c∧l.length≤c∧c≤maxLen∧(l=[]∨∃ g o,a=some ⟨g,o,none⟩∧∀ j x,l[j]?=some x→w.cell? ⟨g,o+j,none⟩=some (.int .i64 x))
def ZW:Value→Nat | .slice _ n _=>n | _=>0
theorem SL.own {w:World} {base:Nat} {v:Value} {l:List Int} (h:w.ownsRow base 3 1 v l.length (ints l)):SL w v l:=by
 have h0:=h;rcases h.2 with ⟨rfl,h1⟩ | ⟨g,cap,cur,rfl,hb,hg,hn,hm,hs,ht⟩
 ·refine⟨none,0,by rw[h1],by omega,by unfold maxLen;omega,.inl (List.length_eq_zero_iff.1 h1)⟩
 ·refine⟨_,cap,rfl,hn,hm,.inr ⟨g,0,rfl,fun j x hj=>?_⟩⟩;have hjl:j<l.length:=(List.getElem?_eq_some_iff.1 hj).1;have e1:(cur.toList.take (l.length*1))[j]?=(ints l)[j]?:=by rw[ht]
  rw[List.getElem?_take,if_pos (by omega),Array.getElem?_toList] at e1;simp only[World.cell?,hg,Nat.zero_add,Option.isSome_none,Bool.false_eq_true,if_false];rw[e1];simp[ints,hj]
theorem SL.below {w w':World} {v:Value} {l:List Int} (h:SL w v l) (hb:Below w.heap.size w w'):SL w' v l:=by
 obtain⟨a,c,e,h1,h2,h3⟩:=h;refine⟨a,c,e,h1,h2,h3.imp id ?_⟩;rintro⟨g,o,ea,hc⟩;refine⟨g,o,ea,fun j x hj=>?_⟩;have h0:=hc j x hj;have hg:g<w.heap.size:=by
  rcases Nat.lt_or_ge g w.heap.size with h' | h'
  ·exact h'
  ·simp[World.cell?,Array.getElem?_eq_none h'] at h0
 simpa [World.cell?,hb.block g hg] using h0
theorem SL.cons {w:World} {v:Value} {x:Int} {l:List Int} (h:SL w v (x::l)):∃ g o n c,v=.slice (some ⟨g,o,none⟩) n c∧l.length+1=n∧w.cell? ⟨g,o,none⟩=some (.int .i64 x)∧n≤c∧c≤maxLen∧SL w (.slice (if c=1 then some ⟨g,o,none⟩ else some ⟨g,o+1,none⟩) (n - 1) (c - 1)) l:=by
 obtain⟨a,c,e,h1,h2,h3⟩:=h;rcases h3 with h3 | ⟨g,o,rfl,hc⟩
 ·cases h3
 ·rw[List.length_cons] at h1 e;refine⟨g,o,_,c,e,rfl,hc 0 x rfl,h1,h2,_,c - 1,rfl,by omega,by omega,?_⟩;by_cases h5:c=1
  ·exact .inl (List.length_eq_zero_iff.1 (by omega))
  ·refine .inr ⟨g,o+1,by rw[if_neg h5],fun j y hj=>?_⟩;have:=hc (j+1) y (by simpa using hj)
   rwa [Nat.add_assoc,Nat.add_comm 1 j]
theorem Me {w w':World} {b o:Nat} {v:Value} (h:w.cell? ⟨b,o,none⟩=some v) (hb:Below w.heap.size w w'):w'.cell? ⟨b,o,none⟩=some v:=by
 have hg:b<w.heap.size:=by
  rcases Nat.lt_or_ge b w.heap.size with h' | h'
  ·exact h'
  ·simp[World.cell?,Array.getElem?_eq_none h'] at h
 simpa [World.cell?,hb.block b hg] using h
theorem Ij (I:Int→Int) (l:List Int):rY I [] l=ou 0 l.length:=by unfold rY;rfl
theorem Ee (I:Int→Int) (l:List Int):rY I l []=ou l.length 0:=by cases l<;>rfl
theorem SG (base B:Nat) (b s root x y:Int) (live n:Nat) (g:Tr.G) (av:Int→Tr.Sl) (fr:List Nat) (vs vf:Value) (w:World) (hM:TV base w B b s vs n (Tr.raw g av) vf fr live root) (hS:Sound b s n (Tr.raw g av) fr live) (hw:Tr.WF 0 g) (hx:gI x) (hy:gI y) (hne:Tr.dF (Tr.aS g x)≠0) (heq:Tr.dF (Tr.aS g x)=Tr.dF (Tr.aS g y)):
  Calls Tryz.prog 56 #[.pointer (some ⟨B,0,none⟩),.int .i64 x,.int .i64 y] w fun e w'=>e=.returned (.tuple #[.int .i64 (rY (Tr.dR g) (Tr.aS g x).reverse (Tr.aS g y).reverse),.int .i64 0])∧Below w.heap.size w w':=by
 obtain⟨T,hT⟩:=eX (Tr.dF (Tr.aS g x))
 have h1:=tO base B b s root x live n g av fr vs vf w hM hS hw hx;rw[hT] at h1 hne heq;have hq:(T == 0)=false:=by simpa using hne
 have hq2:(T != T)=false:=by simp
 have HM:=zh hM;have HS:=zh hS;have HE:=zh heq;clear hM hS heq hT
 go_enter Tryz.func56,Tryz.ntmps56
 go_wp2_with fail;refine h1.mono ?_;rintro e w1 ⟨rfl,hb1⟩;clear h1;have XI:=zh (HM.out.below hb1);have HB1:=zh hb1;have h2:=tO base B b s root y live n g av fr vs vf w1 XI.out HS.out hw hy;rw[←HE.out] at h2;clear hb1;go_wp2_with fail;refine h2.mono ?_;rintro e w2 ⟨rfl,hb2⟩;clear h2;have WC:=zh (XI.out.below hb2);have HB2:=zh (HB1.out.trans (hb2.mono HB1.out.size));have h3:=Md base B b s root x live n g av fr vs vf w2 WC.out HS.out hw hx;clear hb2;go_wp2_with fail;refine h3.mono ?_;rintro e w3 ⟨v3,rfl,ho3,hb3⟩;clear h3;have Vr:=zh (WC.out.below hb3);have HB3:=zh (HB2.out.trans (hb3.mono HB2.out.size));have h4:=Md base B b s root y live n g av fr vs vf w3 Vr.out HS.out hw hy;have HO3:=zh ho3;obtain⟨A3,c3,rfl⟩:=aF (aG ho3);clear hb3 ho3;go_wp2_with fail;refine h4.mono ?_;rintro e w4 ⟨v4,rfl,ho4,hb4⟩;clear h4;have Te:=zh (Vr.out.below hb4);have jy:=zh (HB3.out.trans (hb4.mono HB3.out.size));have uM:=zh (SL.below (SL.own (l:=(Tr.aS g x).reverse) (by rw[List.length_reverse];exact HO3.out)) hb4);have uP:=zh (SL.own (l:=(Tr.aS g y).reverse) (by rw[List.length_reverse];exact ho4));obtain⟨A4,c4,rfl⟩:=aF (aG ho4);clear hb4 ho4;go_wp2_with fail
 go_loopw [9,10] (fun xv yv wr=>Below w.heap.size w wr∧TV base wr B b s vs n (Tr.raw g av) vf fr live root∧∃ lx ly,SL wr xv lx∧SL wr yv ly∧rY (Tr.dR g) (Tr.aS g x).reverse (Tr.aS g y).reverse=rY (Tr.dR g) lx ly∧∀ z,z∈lx∨z∈ly→gI z) (fun xv _ _=>ZW xv)
 case atStart=>exact⟨jy.out,Te.out,_,_,uM.out,uP.out,rfl,fun z hz=>(bH HS.out (h:=z) (by rw[aK];rcases hz with hz | hz;exact (hw.cu x).1.mem (List.mem_reverse.1 hz);exact (hw.cu y).1.mem (List.mem_reverse.1 hz))).1⟩
 case round=>
  obtain⟨hbr,hmr,lx,ly,hX,hY,hC,hI⟩:=hrel;have HC:=zh hC;have Cj:=zh hX;have HYY:=zh hY;have LM:=zh hbr;have HMR:=zh hmr;have HI:=zh hI;clear hC uM uP HO3 hbr hmr hI;cases lx with
  | nil=>
   obtain⟨xa,xc,rfl,_⟩:=hX;obtain⟨ya,yc,rfl,_⟩:=hY;have HV:=zh (HC.out.trans (Ij _ _));have hd:decide ((0:Int)<((0:Nat):Int))=false:=by simp
   have hz:((((0:Nat):Int)) == 0)=true:=by simp
   simp only[List.length_nil];clear Cj HYY HI;go_wp2_with fail
   go_quiet (fail)
   go_wp2_with fail;refine (ow _ _ _).mono ?_;rintro e w5 ⟨rfl,rfl⟩;go_wp2_with fail;go_ret2;exact⟨by simp[HV.out],LM.out.trans ⟨rfl,rfl,rfl,Nat.le_refl _,fun _ _=>rfl⟩⟩
  | cons x0 lx=>
   obtain⟨gx,ox,nx,cx,rfl,hnx,hcx,hlx,hmx,hSx⟩:=hX.cons;have XB:=zh hSx;have hzx:((nx:Int) == 0)=false:=by simp;omega
   have h0x:(0:Int)<(nx:Int):=by omega
   have abr:0<nx:=by omega
   have h1x:1≤nx:=abr;cases ly with
   | nil=>
    obtain⟨ya,yc,rfl,_⟩:=hY;have HV:=zh (HC.out.trans ((Ee _ _).trans (by rw[List.length_cons,hnx])):_=ou nx 0);have hd2:decide ((0:Int)<((0:Nat):Int))=false:=by simp
    have hz:((((0:Nat):Int)) == 0)=true:=by simp
    simp only[List.length_nil];clear Cj HYY HI XB hSx hX;go_wp2_with fail
    go_quiet (fail)
    go_wp2_with fail;refine (ow _ _ _).mono ?_;rintro e w5 ⟨rfl,rfl⟩;go_wp2_with fail;go_ret2;exact⟨by simp[HV.out],LM.out.trans ⟨rfl,rfl,rfl,Nat.le_refl _,fun _ _=>rfl⟩⟩
   | cons y0 ly=>
    obtain⟨gy,oy,ny,cy,rfl,hny,hcy,hly,hmy,hSy⟩:=hY.cons;have HSY:=zh hSy;have hzy:((ny:Int) == 0)=false:=by simp;omega
    have h0y:(0:Int)<(ny:Int):=by omega
    have abt:0<ny:=by omega
    have h1y:1≤ny:=abt;clear hX hY hSx hSy;by_cases hxy:x0=y0
    ·subst hxy;have hqq:(x0 == x0)=true:=by simp
     have hcc:rY (Tr.dR g) (x0::lx) (x0::ly)=rY (Tr.dR g) lx ly:=by rw[rY,if_pos rfl]
     have HV:=zh (HC.out.trans hcc);clear hcc;go_wp2_with fail
     go_quiet (fail)
     go_wp2_with fail
     go_quiet (fail)
     go_wp2_with fail
     go_roundw
     case rel=>
      have hbq:∀ q q',Below wr.heap.size wr ((wr.drewN q).drewN q'):=fun q q'=>⟨rfl,rfl,rfl,Nat.le_refl _,fun _ _=>rfl⟩
      exact⟨LM.out.trans ((hbq _ _).mono LM.out.size),HMR.out.below (hbq _ _),lx,ly,XB.out.below (hbq _ _),HSY.out.below (hbq _ _),HV.out,fun z hz=>HI.out z (hz.imp (List.mem_cons_of_mem _) (List.mem_cons_of_mem _))⟩
     case measure=>
      show nx - 1<nx;omega
    ·have hqq:(x0 == y0)=false:=by simpa using hxy
     have hcc:rY (Tr.dR g) (x0::lx) (y0::ly)=ou (Tr.dR g x0) (Tr.dR g y0):=by rw[rY,if_neg hxy]
     have HV:=zh (HC.out.trans hcc);clear hcc;go_wp2_with fail
     go_quiet (fail)
     go_wp2_with fail;have hix:=HI.out x0 (.inl (List.mem_cons_self ..));have RF:=HI.out y0 (.inr (List.mem_cons_self ..));obtain⟨ix,hxi⟩:=eX (Tr.dR g x0)
     obtain⟨iy,hyi⟩:=eX (Tr.dR g y0)
     have hq:∀ q,Below wr.heap.size wr (wr.drewN q):=fun q=>⟨rfl,rfl,rfl,Nat.le_refl _,fun _ _=>rfl⟩
     have hsS:∀ W W',(W.cell? ⟨gx,ox,none⟩=some (.int .i64 x0)∧W.cell? ⟨gy,oy,none⟩=some (.int .i64 y0)∧Below wr.heap.size wr W)→Below W.heap.size W W'→(W'.cell? ⟨gx,ox,none⟩=some (.int .i64 x0)∧W'.cell? ⟨gy,oy,none⟩=some (.int .i64 y0)∧Below wr.heap.size wr W'):=fun W W' h hb=>⟨Me h.1 hb,Me h.2.1 hb,h.2.2.trans (hb.mono h.2.2.size)⟩
     have hs1:∀ W:World,(W.cell? ⟨gx,ox,none⟩=some (.int .i64 x0)∧W.cell? ⟨gy,oy,none⟩=some (.int .i64 y0)∧Below wr.heap.size wr W)→Calls Tryz.prog 54 #[.pointer (some ⟨B,0,none⟩),.int .i64 x0] W fun e w'=>e=.returned (.int .i64 ix)∧(w'.cell? ⟨gx,ox,none⟩=some (.int .i64 x0)∧w'.cell? ⟨gy,oy,none⟩=some (.int .i64 y0)∧Below wr.heap.size wr w'):=fun W h=>(tJ base B b s root x0 live n g av fr vs vf W (HMR.out.below h.2.2) HS.out hw hix).mono fun _ _ ⟨e1,e2⟩=>⟨by rw[←hxi];exact e1,hsS _ _ h e2⟩
     have hs2:∀ W:World,(W.cell? ⟨gx,ox,none⟩=some (.int .i64 x0)∧W.cell? ⟨gy,oy,none⟩=some (.int .i64 y0)∧Below wr.heap.size wr W)→Calls Tryz.prog 54 #[.pointer (some ⟨B,0,none⟩),.int .i64 y0] W fun e w'=>e=.returned (.int .i64 iy)∧(w'.cell? ⟨gx,ox,none⟩=some (.int .i64 x0)∧w'.cell? ⟨gy,oy,none⟩=some (.int .i64 y0)∧Below wr.heap.size wr w'):=fun W h=>(tJ base B b s root y0 live n g av fr vs vf W (HMR.out.below h.2.2) HS.out hw RF).mono fun _ _ ⟨e1,e2⟩=>⟨by rw[←hyi];exact e1,hsS _ _ h e2⟩
     have hs0:wr.cell? ⟨gx,ox,none⟩=some (.int .i64 x0)∧wr.cell? ⟨gy,oy,none⟩=some (.int .i64 y0)∧Below wr.heap.size wr wr:=⟨hcx,hcy,Below.refl _ _⟩
     have TD:∀ q,(wr.drewN q).cell? ⟨gx,ox,none⟩=some (.int .i64 x0)∧(wr.drewN q).cell? ⟨gy,oy,none⟩=some (.int .i64 y0)∧Below wr.heap.size wr (wr.drewN q):=fun q=>hsS _ _ hs0 (hq q);have Xb:∀ q,(wr.drewN q).drew.cell? ⟨gx,ox,none⟩=some (.int .i64 x0)∧(wr.drewN q).drew.cell? ⟨gy,oy,none⟩=some (.int .i64 y0)∧Below wr.heap.size wr (wr.drewN q).drew:=fun q=>hsS _ _ (TD q) ⟨rfl,rfl,rfl,Nat.le_refl _,fun _ _=>rfl⟩;rw[hxi,hyi] at HV;clear hcx hcy
     go_region_held3 (fun W=>W.cell? ⟨gx,ox,none⟩=some (.int .i64 x0)∧W.cell? ⟨gy,oy,none⟩=some (.int .i64 y0)∧Below wr.heap.size wr W) (first | assumption | exact Xb _ | exact TD _ | exact hs0)
      (first | (go_at_call_of 54 (Value.int IntKind.i64 x0);refine (hs1 _ ?_).mono ?_;(first | assumption | exact Xb _ | exact TD _);rintro e w9 ⟨rfl,Y6⟩) | (go_at_call_of 54 (Value.int IntKind.i64 y0);refine (hs2 _ ?_).mono ?_;(first | assumption | exact Xb _ | exact TD _);rintro e w9 ⟨rfl,Y6⟩) | (go_at_call 53;refine (ow _ _ _).mono ?_;rintro e w9 ⟨rfl,rfl⟩))
     rename_i hS2;go_wp2_with fail;go_ret2;exact⟨by simp[HV.out],LM.out.trans (hS2.2.2.mono LM.out.size)⟩
end
section
theorem mM {x y:Int} (h:x<y):ou x y = -1:=by unfold ou;rw[if_pos h]
theorem mO {x y:Int} (h:y<x):ou x y=1:=by unfold ou;rw[if_neg (by omega),if_pos h]
theorem p9 (x:Int):ou x x=0:=by unfold ou;rw[if_neg (by omega),if_neg (by omega)]
theorem Mf (x y k:Int):ou (x+k) (y+k)=ou x y:=by
 rcases Int.lt_trichotomy x y with h | h | h
 ·rw[mM h,mM (by omega)]
 ·rw[h,p9,p9]
 ·rw[mO h,mO (by omega)]
theorem qb {c x:Int} {l:List Int} (h:x≠c):(c::l).idxOf x=l.idxOf x+1:=by
 have:(c == x)=false:=by simpa using fun e=>h e.symm
 rw[List.idxOf_cons,this];rfl
theorem tQ {F:Int→List Int} {l1 l2:List Int} {k x:Int} (hd:((l1++k::l2).flatMap F).Nodup) (hx:x∈F k):x∉l1.flatMap F:=by
 rw[List.flatMap_append,List.flatMap_cons,List.nodup_append] at hd;exact fun h=>hd.2.2 x h x (List.mem_append_left _ hx) rfl
theorem BH {F:Int→List Int} {l1 l2:List Int} {k x:Int} (hx:x∈F k) (hn:x∉l1.flatMap F):((l1++k::l2).flatMap F).idxOf x=(F k).idxOf x+(l1.flatMap F).length:=by
 rw[List.flatMap_append,List.idxOf_append,if_neg hn,List.flatMap_cons,List.idxOf_append,if_pos hx]
theorem TF {F:Int→List Int} {l1 l2:List Int} {k y:Int} (hk:y∉F k) (hn:y∉l1.flatMap F):(F k).length+(l1.flatMap F).length≤((l1++k::l2).flatMap F).idxOf y:=by
 rw[List.flatMap_append,List.idxOf_append,if_neg hn,List.flatMap_cons,List.idxOf_append,if_neg hk];omega
theorem tT {F:Int→List Int} {l1 l2:List Int} {k1 k2 x y:Int} (hd:((l1++k1::l2).flatMap F).Nodup) (h2:k2∈l2) (hx:x∈F k1) (hy:y∈F k2):((l1++k1::l2).flatMap F).idxOf x<((l1++k1::l2).flatMap F).idxOf y:=by
 rw[List.flatMap_append,List.flatMap_cons,List.nodup_append] at hd;obtain⟨_,hd2,hd3⟩:=hd;rw[List.nodup_append] at hd2;have hy2:y∈l2.flatMap F:=List.mem_flatMap.2 ⟨k2,h2,hy⟩;have a1:x∉l1.flatMap F:=fun h=>hd3 x h x (List.mem_append_left _ hx) rfl;have a2:y∉l1.flatMap F:=fun h=>hd3 y h y (List.mem_append_right _ hy2) rfl;have a3:y∉F k1:=fun h=>hd2.2.2 y h y hy2 rfl;have b1:=BH (l2:=l2) hx a1;have b2:=TF (l2:=l2) a3 a2;have b3:=List.idxOf_lt_length_iff.2 hx;omega
theorem Mg {l1 l2:List Int} {k1 k2:Int} (hd:(l1++k1::l2).Nodup) (h2:k2∈l2):(l1++k1::l2).idxOf k1<(l1++k1::l2).idxOf k2:=by
 have hf:∀ l:List Int,l.flatMap (fun k=>[k])=l:=fun l=>by induction l with | nil=>rfl | cons a r ih=>rw[List.flatMap_cons,ih];rfl
 have:=tT (F:=fun k=>[k]) (x:=k1) (y:=k2) (l1:=l1) (l2:=l2) (k1:=k1) (k2:=k2) (by rw[hf];exact hd) h2 (by simp) (by simp)
 rwa [hf] at this
section
variable {g:Tr.G}
theorem Fx (w:Tr.WF 0 g) {c k x:Int} {n:Tr.GN} {a:List Int} (e:g c=some n) (h:Tr.aS g x=a++k::Tr.aS g c):k∈n.kids∧Tr.aS g k=k::Tr.aS g c∧x∈Tr.ak g k:=by
 have u:=(w.cu x).1;rw[h] at u;have u2:=u.suffix a;have hk:=w.gU u2;have u3:=u2;rw[w.aT e] at u3;obtain⟨m,hm1,hm2⟩:=u3.parent;have hz:c≠0:=fun e'=>by rw[e',w.zero] at e;cases e
 obtain⟨p,hp1,hp2⟩:=w.up k m hm1 (by rw[hm2];exact hz);rw[hm2,e] at hp1;obtain rfl:=Option.some.inj hp1;exact⟨hp2,hk,(w.eH k x).2 (by rw[h];simp)⟩
theorem xK (w:Tr.WF 0 g) {c k:Int} {n:Tr.GN} (e:g c=some n) (hk:k∈n.kids):Tr.dR g k=(n.kids.idxOf k:Nat):=by
 obtain⟨m,e1,e2⟩:=w.dL (h:=c) (k:=k) (by rw[Tr.aH e];exact hk);have hz:c≠0:=fun e'=>by rw[e',w.zero] at e;cases e
 unfold Tr.dR;rw[e1];simp only[e2,if_neg hz,Tr.aH e]
theorem QH (w:Tr.WF 0 g):∀ c x y a b,Tr.aS g x=a++Tr.aS g c→Tr.aS g y=b++Tr.aS g c→x∈Tr.ak g c→y∈Tr.ak g c→rY (Tr.dR g) a.reverse b.reverse=ou ((Tr.ak g c).idxOf x:Nat) ((Tr.ak g c).idxOf y:Nat):=by
 refine w.induct fun c ih=>fun x y a b hx hy mx my=>?_;cases e:g c with
 | none=>rw[Tr.jU e] at mx;cases mx
 | some n=>
  have hkn:n.kids.Nodup:=by have:=w.jr c;rwa [Tr.aH e] at this
  have hnd:=w.jV c;have hself:∀ v,Tr.aS g v=[]++Tr.aS g c→v=c:=fun v hv=>by
   have u:=(w.cu v).1;rw[List.nil_append,w.aT e] at hv;rw[hv] at u;cases u with
   | node _ _=>rfl
  have hlen:∀ v (l:List Int),Tr.aS g v=l++Tr.aS g c→l≠[]→v≠c:=fun v l hv hl hvc=>by
   rw[hvc] at hv;have:=congrArg List.length hv;rw[List.length_append] at this;exact hl (List.length_eq_zero_iff.1 (by omega))
  rw[w.bR e] at mx my hnd ⊢;rcases List.eq_nil_or_concat a with rfl | ⟨a',k1,rfl⟩
  ·obtain rfl:=hself x hx;rw[List.reverse_nil,Ij,List.length_reverse];by_cases hb:b=[]
   ·subst hb;obtain rfl:=hself y hy;simp[p9]
   ·have hyc:=hlen y b hy hb;have hbl:0<b.length:=List.length_pos_iff.2 hb;rw[mM (by omega),List.idxOf_cons_self,qb hyc,mM (by omega)]
  ·rw[List.concat_eq_append] at hx ⊢;have hx1:Tr.aS g x=a'++k1::Tr.aS g c:=by rw[hx];simp
   obtain⟨hk1,hu1,QI⟩:=Fx w e hx1;have hxc:=hlen x _ hx (by simp);have hra:(a'++[k1]).reverse=k1::a'.reverse:=by simp
   rw[hra];rcases List.eq_nil_or_concat b with rfl | ⟨b',k2,rfl⟩
   ·obtain rfl:=hself y hy;rw[List.reverse_nil,Ee,List.length_cons,mO (by omega),List.idxOf_cons_self,qb hxc,mO (by omega)]
   ·rw[List.concat_eq_append] at hy ⊢;have hy1:Tr.aS g y=b'++k2::Tr.aS g c:=by rw[hy];simp
    obtain⟨hk2,hu2,QJ⟩:=Fx w e hy1;have hyc:=hlen y _ hy (by simp);have hrb:(b'++[k2]).reverse=k2::b'.reverse:=by simp
    rw[hrb,qb hxc,qb hyc,Int.natCast_add,Int.natCast_add,Mf];have hnf:=(List.nodup_cons.1 hnd).2;have hi1:=xK w e hk1;have hi2:=xK w e hk2;obtain⟨l1,l2,el⟩:=List.append_of_mem hk1;by_cases hkk:k1=k2
    ·subst hkk;rw[rY,if_pos rfl,ih n e k1 hk1 x y a' b' (by rw[hu1];exact hx1) (by rw[hu1];exact hy1) QI QJ];rw[el] at hnf ⊢;rw[BH QI (tQ hnf QI),BH QJ (tQ hnf QJ),Int.natCast_add,Int.natCast_add,Mf]
    ·rw[rY,if_neg hkk,hi1,hi2];have hm:k2∈l1∨k2∈l2:=by
      rw[el] at hk2;rcases List.mem_append.1 hk2 with h | h
      ·exact .inl h
      ·rcases List.mem_cons.1 h with h | h
       ·exact absurd h.symm hkk
       ·exact .inr h
     rcases hm with hm | hm
     ·obtain⟨m1,m2,em⟩:=List.append_of_mem hm;have ek:n.kids=m1++k2::(m2++k1::l2):=by rw[el,em];simp
      rw[ek] at hnf hkn ⊢;have q1:=Mg (k2:=k1) hkn (by simp);have q2:=tT (k2:=k1) hnf (by simp) QJ QI;rw[mO (by omega),mO (by omega)]
     ·rw[el] at hnf hkn ⊢;have q1:=Mg (k2:=k2) hkn hm;have q2:=tT (k2:=k2) hnf hm QI QJ;rw[mM (by omega),mM (by omega)]
theorem J4 (w:Tr.WF 0 g) {x t:Int} (h:Tr.dF (Tr.aS g x)=t) (hne:Tr.aS g x≠[]):∃ a,Tr.aS g x=a++Tr.aS g t∧Tr.aS g t=[t]∧x∈Tr.ak g t:=by
 rcases List.eq_nil_or_concat (Tr.aS g x) with h0 | ⟨a,k,h0⟩
 ·exact absurd h0 hne
 ·rw[List.concat_eq_append] at h0;rw[h0,Tr.l7] at h;subst h;have u:=(w.cu x).1;rw[h0] at u;have h1:=w.gU (u.suffix a);exact⟨a,by rw[h1];exact h0,h1,(w.eH k x).2 (by rw[h0];simp)⟩
theorem SH (w:Tr.WF 0 g) {x y t:Int} (ht:t≠0) (hx:Tr.dF (Tr.aS g x)=t) (hy:Tr.dF (Tr.aS g y)=t):rY (Tr.dR g) (Tr.aS g x).reverse (Tr.aS g y).reverse=ou ((Tr.ak g t).idxOf x:Nat) ((Tr.ak g t).idxOf y:Nat):=by
 obtain⟨a,e1,e2,m1⟩:=J4 w hx (fun e=>ht (by rw[←hx,e];rfl));obtain⟨b,f1,_,m2⟩:=J4 w hy (fun e=>ht (by rw[←hy,e];rfl));rw[←QH w t x y a b e1 f1 m1 m2,e1,f1,e2];have h1:∀ l:List Int,(l++[t]).reverse=t::l.reverse:=fun l=>by simp
 rw[h1,h1,rY,if_pos rfl]
end
end
section
namespace Lv
open Tr
abbrev Pt:=Int×Int
def iE (F:Int→List Pt) (h:Int):Nat→List Int→List Pt
 | i,[]=>[(h,(i:Int))]
 | i,k::r=>(h,(i:Int))::(F k++iE F h (i+1) r)
def BI (P:ByteArray→Nat) (g:G):Nat→Int→List Pt
 | 0,_=>[]
 | f+1,h=>match g h with | none=>[] | some n=>if 2<n.kind then (List.range (P n.data+1)).map (fun i:Nat=>(h,(i:Int))) else iE (BI P g f) h 0 n.kids
def cO (P:ByteArray→Nat) (g:G) (h:Int):List Pt:=BI P g 129 h
def qK (P:ByteArray→Nat) (n:GN):Nat:=if 2<n.kind then P n.data else n.kids.length
theorem BJ {F F':Int→List Pt} {h:Int}:∀ {i:Nat} {l:List Int},(∀ k∈l,F k=F' k)→iE F h i l=iE F' h i l:=by
 intro i l
 induction l generalizing i with
 | nil=>intro _;rfl
 | cons k r ih=>intro hk;rw[iE,iE,hk k (List.mem_cons_self ..),ih fun j hj=>hk j (List.mem_cons_of_mem _ hj)]
theorem rZ (F:Int→List Pt) (h:Int):∀ (i:Nat) (l1:List Int) (k:Int) (l2:List Int),∃ A,iE F h i (l1++k::l2)=A++(h,((i+l1.length:Nat):Int))::(F k++iE F h (i+l1.length+1) l2)∧(∀ j:Nat,i≤j→j≤i+l1.length→(h,(j:Int))∈A++[(h,((i+l1.length:Nat):Int))])∧∀ k'∈l1,∀ p∈F k',p∈A:=by
 intro i l1
 induction l1 generalizing i with
 | nil=>
  intro k l2;refine⟨[],rfl,fun j h1 h2=>?_,fun k' hk=>by cases hk⟩;have:j=i:=by simpa using Nat.le_antisymm h2 h1
  rw[this];simp
 | cons a r ih=>
  intro k l2;obtain⟨A,e,h1,h2⟩:=ih (i+1) k l2;refine⟨(h,(i:Int))::(F a++A),?_,fun j hj1 hj2=>?_,fun k' hk p hp=>?_⟩
  ·rw[List.cons_append,iE,e,List.length_cons,show i+(r.length+1)=i+1+r.length by omega];simp
  ·by_cases e2:j=i
   ·rw[e2];simp
   ·have:=h1 j (by omega) (by rw[List.length_cons] at hj2;omega);rw[List.length_cons,show i+(r.length+1)=i+1+r.length by omega];simp only[List.cons_append,List.append_assoc,List.mem_cons,List.mem_append] at this ⊢;rcases this with h | h
    ·exact .inr (.inr (.inl h))
    ·exact .inr (.inr (.inr h))
  ·rcases List.mem_cons.1 hk with rfl | hk
   ·simp[hp]
   ·have:=h2 k' hk p hp;simp[this]
theorem BK (F:Int→List Pt) (h:Int):∀ (l:List Int) (i j:Nat),i≤j→j≤i+l.length→(h,(j:Int))∈iE F h i l:=by
 intro l
 induction l with
 | nil=>intro i j h1 h2;have:j=i:=(by simpa using Nat.le_antisymm h2 h1);rw[this];simp[iE]
 | cons k r ih=>
  intro i j h1 h2;rw[iE];by_cases e:j=i
  ·rw[e];simp
  ·have:=ih (i+1) j (by omega) (by rw[List.length_cons] at h2;omega);simp[this]
theorem BL {F:Int→List Pt} {h:Int} {p:Pt}:∀ {l:List Int} {i:Nat},p∈iE F h i l→(p.1=h∧(i:Int)≤p.2∧p.2≤(i+l.length:Nat))∨∃ k∈l,p∈F k:=by
 intro l
 induction l with
 | nil=>intro i hp;rw[iE] at hp;obtain rfl:=List.mem_singleton.1 hp;exact .inl ⟨rfl,Int.le_refl _,by simp⟩
 | cons k r ih=>
  intro i hp;rw[iE] at hp;rcases List.mem_cons.1 hp with rfl | hp
  ·exact .inl ⟨rfl,Int.le_refl _,by simp only[List.length_cons];omega⟩
  ·rcases List.mem_append.1 hp with hp | hp
   ·exact .inr ⟨k,List.mem_cons_self ..,hp⟩
   ·rcases ih hp with ⟨h1,h2,h3⟩ | ⟨k',hk,hp⟩
    ·exact .inl ⟨h1,by omega,by rw[List.length_cons];omega⟩
    ·exact .inr ⟨k',List.mem_cons_of_mem _ hk,hp⟩
theorem sj {α:Type} {p q:α} {A B:List α} (hp:p∈A) (hq:q∈B):[p,q].Sublist (A++B):=(List.singleton_sublist.2 hp).append (List.singleton_sublist.2 hq)
theorem QK {F:Int→List Pt} {h:Int} {i:Nat} {l1 l2:List Int} {k1 k2:Int} {p q:Pt} (h2:k2∈l2) (hp:p∈F k1) (hq:q∈F k2):[p,q].Sublist (iE F h i (l1++k1::l2)):=by
 obtain⟨A,e,-,-⟩:=rZ F h i l1 k1 l2;rw[e];refine List.Sublist.trans ?_ (List.sublist_append_right _ _);refine List.Sublist.trans ?_ (List.sublist_cons_self _ _);refine sj hp ?_;obtain⟨m1,m2,rfl⟩:=List.append_of_mem h2;obtain⟨A',e',-,-⟩:=rZ F h (i+l1.length+1) m1 k2 m2;rw[e'];simp[hq]
theorem Mh {F:Int→List Pt} {h:Int} {i:Nat} {l:List Int} {k:Int} (hk:k∈l):(F k).Sublist (iE F h i l):=by
 obtain⟨l1,l2,rfl⟩:=List.append_of_mem hk;obtain⟨A,e,-,-⟩:=rZ F h i l1 k l2;rw[e];refine List.Sublist.trans ?_ (List.sublist_append_right _ _);refine List.Sublist.trans ?_ (List.sublist_cons_self _ _);exact List.sublist_append_left _ _
theorem QL {F:Int→List Pt} {h:Int} {i j:Nat} {l1 l2:List Int} {k:Int} {p:Pt} (hp:p∈F k) (h1:i≤j) (h2:j≤i+l1.length):[(h,(j:Int)),p].Sublist (iE F h i (l1++k::l2)):=by
 obtain⟨A,e,h3,-⟩:=rZ F h i l1 k l2;rw[e,show A++(h,((i+l1.length:Nat):Int))::(F k++iE F h (i+l1.length+1) l2)=(A++[(h,((i+l1.length:Nat):Int))])++(F k++iE F h (i+l1.length+1) l2) by simp];exact sj (h3 j h1 h2) (List.mem_append_left _ hp)
theorem N8 {F:Int→List Pt} {h:Int} {i j:Nat} {l1 l2:List Int} {k:Int} {p:Pt} (hp:p∈F k) (h1:i+l1.length<j) (h2:j≤i+(l1++k::l2).length):[p,(h,(j:Int))].Sublist (iE F h i (l1++k::l2)):=by
 obtain⟨A,e,-,-⟩:=rZ F h i l1 k l2;rw[e];refine List.Sublist.trans ?_ (List.sublist_append_right _ _);refine List.Sublist.trans ?_ (List.sublist_cons_self _ _);refine sj hp (BK F h l2 _ j (by omega) ?_);rw[List.length_append,List.length_cons] at h2;omega
theorem QM (F:Int→List Pt) (h:Int):∀ (l:List Int) (i j j':Nat),i≤j→j<j'→j'≤i+l.length→[(h,(j:Int)),(h,(j':Int))].Sublist (iE F h i l):=by
 intro l
 induction l with
 | nil=>intro i j j' h1 h2 h3;rw[List.length_nil] at h3;omega
 | cons k r ih=>
  intro i j j' h1 h2 h3;rw[List.length_cons] at h3;rw[iE];by_cases e:j=i
  ·rw[e,show (h,(i:Int))::(F k++iE F h (i+1) r)=[(h,(i:Int))]++(F k++iE F h (i+1) r) from rfl];exact sj (by simp) (List.mem_append_right _ (BK F h r _ j' (by omega) (by omega)))
  ·refine List.Sublist.trans (ih (i+1) j j' (by omega) h2 (by omega)) ?_;exact (List.sublist_append_right _ _).trans (List.sublist_cons_self _ _)
theorem Ku {F:Int→List Pt} {h:Int}:∀ {l:List Int} {i:Nat},(∀ k∈l,(F k).Nodup)→(∀ k∈l,∀ p∈F k,p.1≠h)→l.Pairwise (fun a b=>∀ p∈F a,p∉F b)→(iE F h i l).Nodup:=by
 intro l
 induction l with
 | nil=>intro i _ _ _;rw[iE];simp
 | cons k r ih=>
  intro i h1 h2 h3;rw[List.pairwise_cons] at h3;rw[iE,List.nodup_cons,List.nodup_append];refine⟨fun hm=>?_,h1 k (List.mem_cons_self ..),ih (fun j hj=>h1 j (List.mem_cons_of_mem _ hj)) (fun j hj=>h2 j (List.mem_cons_of_mem _ hj)) h3.2,fun p hp q hq e=>?_⟩
  ·rcases List.mem_append.1 hm with hm | hm
   ·exact h2 k (List.mem_cons_self ..) _ hm rfl
   ·rcases BL hm with ⟨-,h4,-⟩ | ⟨k',hk,hp⟩
    ·simp only at h4;omega
    ·exact h2 k' (List.mem_cons_of_mem _ hk) _ hp rfl
  ·subst e;rcases BL hq with ⟨h4,-,-⟩ | ⟨k',hk,hp'⟩
   ·exact h2 k (List.mem_cons_self ..) _ hp h4
   ·exact h3.1 k' hk _ hp hp'
section
variable {P:ByteArray→Nat} {g:G} {z:Int}
theorem N9 (w:WF z g):∀ f h,129≤f+(aS g h).length→BI P g (f+1) h=BI P g f h:=by
 intro f
 induction f with
 | zero=>intro h hf;have:=(w.cu h).2;omega
 | succ f ih=>
  intro h hf;rw[BI,BI];cases e:g h with
  | none=>rfl
  | some n=>
   simp only
   split
   ·rfl
   ·refine BJ fun k hk=>ih k ?_;obtain⟨q,e1,e2⟩:=w.down h n k e hk;rw[w.aT e1,e2,List.length_cons];omega
theorem xL {h:Int} (e:g h=none):cO P g h=[]:=by
 show BI P g (128+1) h=_;rw[BI,e]
theorem gq (w:WF z g) {h:Int} {n:GN} (e:g h=some n):cO P g h=if 2<n.kind then (List.range (P n.data+1)).map (fun i:Nat=>(h,(i:Int))) else iE (cO P g) h 0 n.kids:=by
 show BI P g (128+1) h=_;rw[BI,e];simp only
 split
 ·rfl
 ·refine BJ fun k hk=>?_;show _=BI P g (128+1) k;refine (N9 w 128 k ?_).symm;obtain⟨q,e1,e2⟩:=w.down h n k e hk;rw[w.aT e1,e2,w.aT e,List.length_cons,List.length_cons];omega
def Leaf (g:G):Prop:=∀ h n,g h=some n→2<n.kind→n.kids=[]
theorem wH (w:WF z g):∀ h,∀ p∈cO P g h,p.1∈ak g h:=by
 refine w.induct fun h ih=>fun p hp=>?_;cases e:g h with
 | none=>rw[xL e] at hp;cases hp
 | some n=>
  rw[gq w e] at hp;rw[w.bR e]
  split at hp
  ·obtain⟨i,-,rfl⟩:=List.mem_map.1 hp;exact List.mem_cons_self ..
  ·rcases BL hp with ⟨h1,-,-⟩ | ⟨k,hk,h1⟩
   ·rw[h1];exact List.mem_cons_self ..
   ·exact List.mem_cons_of_mem _ (List.mem_flatMap.2 ⟨k,hk,ih n e k hk p h1⟩)
theorem tV (w:WF z g) {h:Int} {n:GN} (e:g h=some n) {i:Nat} (hi:i≤qK P n):(h,(i:Int))∈cO P g h:=by
 rw[gq w e];unfold qK at hi
 split
 ·rename_i h2;rw[if_pos h2] at hi;exact List.mem_map.2 ⟨i,List.mem_range.2 (by omega),rfl⟩
 ·rename_i h2;rw[if_neg h2] at hi;exact BK _ _ _ _ _ (Nat.zero_le _) (by omega)
theorem nu (w:WF z g) (hl:Leaf g):∀ h,∀ x∈ak g h,(cO P g x).Sublist (cO P g h):=by
 refine w.induct fun h ih=>fun x hx=>?_;cases e:g h with
 | none=>rw[jU e] at hx;cases hx
 | some n=>
  rw[w.bR e] at hx;rcases List.mem_cons.1 hx with rfl | hx
  ·exact List.Sublist.refl _
  ·obtain⟨k,hk,hx⟩:=List.mem_flatMap.1 hx;refine (ih n e k hk x hx).trans ?_;rw[gq w e,if_neg (fun h2=>by rw[hl h n e h2] at hk;cases hk)];exact Mh hk
theorem tY (w:WF z g):∀ h,(cO P g h).Nodup:=by
 refine w.induct fun h ih=>?_;cases e:g h with
 | none=>rw[xL e];exact List.nodup_nil
 | some n=>
  have hnd:=w.jV h;rw[w.bR e,List.nodup_cons] at hnd;rw[gq w e]
  split
  ·refine List.Pairwise.map (R:=fun a b:Nat=>a≠b) _ (fun i j (hij:i≠j) e2=>hij ?_) List.nodup_range;injection e2 with _ e3;exact Int.ofNat.inj e3
  ·refine Ku (fun k hk=>ih n e k hk) (fun k hk p hp he=>hnd.1 (List.mem_flatMap.2 ⟨k,hk,he▸wH w k p hp⟩)) ?_;have hd:=(List.pairwise_flatMap.1 hnd.2).2;exact hd.imp fun hab p hp hq=>hab _ (wH w _ p hp) _ (wH w _ p hq) rfl
theorem zI {p q:Pt} {l:List Pt} (hd:l.Nodup) (h:[p,q].Sublist l):l.idxOf p<l.idxOf q:=by
 obtain⟨r1,r2,rfl,hp,hq⟩:=List.cons_sublist_iff.1 h;have hq2:=List.singleton_sublist.1 hq;have hn:q∉r1:=fun hm=>(List.nodup_append.1 hd).2.2 _ hm _ hq2 rfl;rw[List.idxOf_append,List.idxOf_append,if_pos hp,if_neg hn];have:=List.idxOf_lt_length_of_mem hp;omega
theorem Ik (w:WF z g) (hl:Leaf g) {t x:Int} {n:GN} {i j:Nat} (hx:x∈ak g t) (e:g x=some n) (hij:i<j) (hj:j≤qK P n):(cO P g t).idxOf (x,(i:Int))<(cO P g t).idxOf (x,(j:Int)):=by
 refine zI (tY w t) (List.Sublist.trans ?_ (nu w hl t x hx));rw[gq w e];unfold qK at hj
 split
 ·rename_i h2;rw[if_pos h2] at hj;have key:∀ m i j:Nat,i<j→j<m→[(x,(i:Int)),(x,(j:Int))].Sublist ((List.range m).map fun i:Nat=>(x,(i:Int))):=by
   intro m
   induction m with
   | zero=>intro i j _ h;omega
   | succ m ih=>
    intro i j h1 h3;rw[List.range_succ,List.map_append];by_cases e3:j=m
    ·rw[e3];exact sj (List.mem_map.2 ⟨i,List.mem_range.2 (by omega),rfl⟩) (by simp)
    ·exact (ih i j h1 (by omega)).trans (List.sublist_append_left _ _)
  exact key _ i j hij (by omega)
 ·rename_i h2;rw[if_neg h2] at hj;exact QM _ _ _ _ _ _ (Nat.zero_le _) hij (by omega)
theorem TG (w:WF z g) (hl:Leaf g) {t x y c:Int} {n m:GN} {i j:Nat} {l1 l2:List Int} (hy:y∈ak g t) (e:g y=some n) (ek:n.kids=l1++c::l2) (hx:x∈ak g c) (ex:g x=some m) (hi:i≤qK P m) (hj:j≤l1.length):(cO P g t).idxOf (y,(j:Int))<(cO P g t).idxOf (x,(i:Int)):=by
 refine zI (tY w t) (List.Sublist.trans ?_ (nu w hl t y hy));rw[gq w e,if_neg (fun h2=>by rw[hl y n e h2] at ek;simp at ek),ek];exact QL ((nu w hl c x hx).subset (tV w ex hi)) (Nat.zero_le _) (by omega)
theorem QN (w:WF z g) (hl:Leaf g) {t x y c:Int} {n m:GN} {i j:Nat} {l1 l2:List Int} (hy:y∈ak g t) (e:g y=some n) (ek:n.kids=l1++c::l2) (hx:x∈ak g c) (ex:g x=some m) (hi:i≤qK P m) (hj:l1.length<j) (hj2:j≤n.kids.length):(cO P g t).idxOf (x,(i:Int))<(cO P g t).idxOf (y,(j:Int)):=by
 refine zI (tY w t) (List.Sublist.trans ?_ (nu w hl t y hy));rw[gq w e,if_neg (fun h2=>by rw[hl y n e h2] at ek;simp at ek)];rw[ek] at hj2 ⊢;exact N8 ((nu w hl c x hx).subset (tV w ex hi)) (by omega) (by omega)
theorem TH (w:WF z g) (hl:Leaf g):∀ t x y,x∈ak g t→y∈ak g t→x∉aS g y→y∉aS g x→(ak g t).idxOf x<(ak g t).idxOf y→∀ p∈cO P g x,∀ q∈cO P g y,[p,q].Sublist (cO P g t):=by
 refine w.induct fun t ih=>fun x y hx hy nx ny hlt p hp q hq=>?_;cases e:g t with
 | none=>rw[jU e] at hx;cases hx
 | some n=>
  have hxt:x≠t:=fun e2=>nx (e2▸(w.eH t y).1 hy);have U5:y≠t:=fun e2=>ny (e2▸(w.eH t x).1 hx);have hnd:=w.jV t;rw[w.bR e] at hx hy hlt hnd;rw[qb hxt,qb U5] at hlt;have hnf:=(List.nodup_cons.1 hnd).2;obtain⟨k1,hk1,hx1⟩:=List.mem_flatMap.1 ((List.mem_cons.1 hx).resolve_left hxt);obtain⟨k2,hk2,hy2⟩:=List.mem_flatMap.1 ((List.mem_cons.1 hy).resolve_left U5);have hkd:¬ 2<n.kind:=fun h2=>by rw[hl t n e h2] at hk1;cases hk1
  obtain⟨l1,l2,el⟩:=List.append_of_mem hk1;rw[gq w e,if_neg hkd];by_cases hkk:k1=k2
  ·subst hkk;rw[el] at hlt hnf;rw[BH hx1 (tQ hnf hx1),BH hy2 (tQ hnf hy2)] at hlt;exact (ih n e k1 hk1 x y hx1 hy2 nx ny (by omega) p hp q hq).trans (Mh hk1)
  ·have hm:k2∈l1∨k2∈l2:=by
    rw[el] at hk2;rcases List.mem_append.1 hk2 with h | h
    ·exact .inl h
    ·exact .inr ((List.mem_cons.1 h).resolve_left (Ne.symm hkk))
   rcases hm with hm | hm
   ·obtain⟨m1,m2,em⟩:=List.append_of_mem hm;have ek:n.kids=m1++k2::(m2++k1::l2):=by rw[el,em];simp
    rw[ek] at hnf hlt;have q2:=tT (k2:=k1) hnf (by simp) hy2 hx1;omega
   ·rw[el];exact QK hm ((nu w hl k1 x hx1).subset hp) ((nu w hl k2 y hy2).subset hq)
theorem Mi (w:WF z g) (hl:Leaf g) {t x y:Int} {n m:GN} {i j:Nat} (hx:x∈ak g t) (hy:y∈ak g t) (nx:x∉aS g y) (ny:y∉aS g x) (hlt:(ak g t).idxOf x<(ak g t).idxOf y) (ex:g x=some n) (ey:g y=some m) (hi:i≤qK P n) (hj:j≤qK P m):(cO P g t).idxOf (x,(i:Int))<(cO P g t).idxOf (y,(j:Int)):=
 zI (tY w t) (TH w hl t x y hx hy nx ny hlt _ (tV w ex hi) _ (tV w ey hj))
end
end Lv
end
section
open Go.RowKit Go.Shelf
attribute [local go_sem] Oper.semAt_some
def cont (g:Tr.G) (l:List Int):List UInt8:=l.flatMap fun k=>match g k with | some m=>if m.kind=3 then m.data.data.toList else [] | none=>[]
end
section
section
variable {ρ:Int→Int} {a g:Tr.G}
theorem QO (h:Tr.Im ρ a g) (w:Tr.WF 0 g) {x:Int} (hx:(a x).isSome):∃ t l,Tr.aS a x=l++[t]∧Tr.dF (Tr.aS a x)=t∧Tr.aS a t=[t]∧(a t).isSome∧Tr.dF (Tr.aS g (ρ x))=ρ t∧x∈Tr.ak a t:=by
 obtain⟨n,e⟩:=Option.isSome_iff_exists.1 hx;have hne:Tr.aS a x≠[]:=by rw[(h.pull w).aT e];simp
 rcases List.eq_nil_or_concat (Tr.aS a x) with h0 | ⟨l,t,h0⟩
 ·exact absurd h0 hne
 ·rw[List.concat_eq_append] at h0;have u:=((h.pull w).cu x).1;rw[h0] at u;have h1:=(h.pull w).gU (u.suffix l);refine⟨t,l,h0,by rw[h0,Tr.l7],h1,h.LY w (x:=x) (by rw[h0];simp),?_,((h.pull w).eH t x).2 (by rw[h0];simp)⟩;rw[h.up w (.inr hx),h0,List.map_append,List.map_cons,List.map_nil,Tr.l7]
end
end
section
namespace Lv
open Tr
theorem QS {F F':Int→List Pt} {ρ:Int→Int} {h:Int}:∀ {l:List Int} {i:Nat},(∀ k∈l,(F k).map (fun p=>(ρ p.1,p.2))=F' (ρ k))→(iE F h i l).map (fun p=>(ρ p.1,p.2))=iE F' (ρ h) i (l.map ρ):=by
 intro l
 induction l with
 | nil=>intro i _;rfl
 | cons k r ih=>
  intro i hk;rw[iE,List.map_cons,List.map_append,hk k (List.mem_cons_self ..),ih fun j hj=>hk j (List.mem_cons_of_mem _ hj)];rfl
section
variable {P:ByteArray→Nat} {ρ:Int→Int} {a g:G}
theorem QT (h:Im ρ a g) (w:WF 0 g):∀ x,(a x).isSome→(cO P a x).map (fun p=>(ρ p.1,p.2))=cO P g (ρ x):=by
 have w1:=h.pull w;refine w1.induct fun x ih=>fun hx=>?_;obtain⟨n,e⟩:=Option.isSome_iff_exists.1 hx;have e2:=h.node x n e;rw[gq w1 e,gq w e2];show _=if 2<n.kind then (List.range (P n.data+1)).map (fun i:Nat=>(ρ x,(i:Int))) else iE (cO P g) (ρ x) 0 (n.kids.map ρ)
 split
 ·rw[List.map_map];rfl
 ·refine QS fun k hk=>ih n e k hk ?_;obtain⟨q,e3,-⟩:=w1.down x n k e hk;rw[e3];rfl
theorem QU (h:Im ρ a g) (hl:Leaf g):Leaf a:=fun x n e h2=>by
 have:=hl (ρ x) _ (h.node x n e) h2;exact List.map_eq_nil_iff.1 this
theorem Mj (h:Im ρ a g) (w:WF 0 g) {t x:Int} {i:Int} (ht:(a t).isSome) (hx:(a x).isSome):(cO P g (ρ t)).idxOf (ρ x,i)=(cO P a t).idxOf (x,i):=by
 rw[←QT h w t ht];have key:∀ l:List Pt,(∀ p∈l,(a p.1).isSome)→(l.map fun p=>(ρ p.1,p.2)).idxOf (ρ x,i)=l.idxOf (x,i):=by
  intro l
  induction l with
  | nil=>intro _;rfl
  | cons p r ih=>
   intro hl;have hp:=hl p (List.mem_cons_self ..);rw[List.map_cons,List.idxOf_cons,List.idxOf_cons,ih fun q hq=>hl q (List.mem_cons_of_mem _ hq)];have:((ρ p.1,p.2) == (ρ x,i))=(p == (x,i)):=by
    by_cases e:p=(x,i)
    ·rw[e,beq_self_eq_true,beq_self_eq_true]
    ·have:(ρ p.1,p.2)≠(ρ x,i):=fun e2=>by
      injection e2 with e3 e4;exact e (Prod.ext (h.inj _ _ hp hx e3) e4)
     rw[beq_eq_false_iff_ne.2 this,beq_eq_false_iff_ne.2 e]
   rw[this]
 exact key _ fun p hp=>(h.pull w).lY (wH (h.pull w) t p hp)
end
section
variable {P:ByteArray→Nat} {g:G}
theorem J5 (w:WF 0 g) {x y:Int} {n:GN} (e:g y=some n) (h:y∈aS g x) (hn:x≠y):∃ a c l1 l2,aS g x=a++c::aS g y∧n.kids=l1++c::l2∧x∈ak g c∧dR g c=(l1.length:Nat):=by
 obtain⟨b,r,hb⟩:=List.append_of_mem h;have u:=(w.cu x).1;rw[hb] at u;have hy:=w.gU (u.suffix b);rw[←hy] at hb;rcases List.eq_nil_or_concat b with rfl | ⟨a,c,rfl⟩
 ·have u2:=(w.cu x).1;rw[hb,List.nil_append,w.aT e] at u2;cases u2 with
  | node _ _=>exact absurd rfl hn
 ·rw[List.concat_eq_append,List.append_assoc] at hb;obtain⟨hk,-,hx⟩:=Fx w e hb;have hnd:n.kids.Nodup:=by have:=w.jr y;rwa [aH e] at this
  obtain⟨l1,l2,el⟩:=List.append_of_mem hk;refine⟨a,c,l1,l2,hb,el,hx,?_⟩;rw[xK w e hk];have hc:c∉l1:=fun hm=>by
   rw[el] at hnd;exact (List.nodup_append.1 hnd).2.2 _ hm _ (List.mem_cons_self ..) rfl
  rw[el,dU hc]
theorem SF (x y:Int) : -ou x y=ou y x:=by unfold ou;split<;>split<;>(try split)<;>omega
theorem Wy (w:WF 0 g) (hl:Leaf g) {t x y c:Int} {n m:GN} {i j:Nat} {l1 l2:List Int} (hy:y∈ak g t) (e:g y=some n) (ek:n.kids=l1++c::l2) (hx:x∈ak g c) (hc:dR g c=(l1.length:Nat)) (ex:g x=some m) (hi:i≤qK P m) (hj:j≤qK P n):ou ((cO P g t).idxOf (y,(j:Int)):Nat) ((cO P g t).idxOf (x,(i:Int)):Nat)=if (j:Int)≤dR g c then -1 else 1:=by
 have hk:¬ 2<n.kind:=fun h2=>by rw[hl y n e h2] at ek;simp at ek
 unfold qK at hj;rw[if_neg hk] at hj;rw[hc]
 split
 ·have:=TG (P:=P) w hl hy e ek hx ex hi (j:=j) (by omega);rw[mM (by omega)]
 ·have:=QN (P:=P) w hl hy e ek hx ex hi (j:=j) (by omega) hj;rw[mO (by omega)]
theorem Ni (w:WF 0 g) (hl:Leaf g) {t x y:Int} {n m:GN} {i j:Nat} (hx:x∈ak g t) (hy:y∈ak g t) (nx:x∉aS g y) (ny:y∉aS g x) (ex:g x=some n) (ey:g y=some m) (hi:i≤qK P n) (hj:j≤qK P m):ou ((cO P g t).idxOf (x,(i:Int)):Nat) ((cO P g t).idxOf (y,(j:Int)):Nat)=ou ((ak g t).idxOf x:Nat) ((ak g t).idxOf y:Nat):=by
 have hne:x≠y:=fun e=>nx (by rw[←e,w.aT ex];simp);have h1:(ak g t).idxOf x≠(ak g t).idxOf y:=fun e=>hne (by
  have e1:=List.getElem_idxOf (List.idxOf_lt_length_of_mem hx);have e2:=List.getElem_idxOf (List.idxOf_lt_length_of_mem hy);rw[←e1,←e2]
  congr 1)
 rcases Nat.lt_or_gt_of_ne h1 with h | h
 ·have:=Mi (P:=P) w hl hx hy nx ny h ex ey hi hj;rw[mM (by omega),mM (by omega)]
 ·have:=Mi (P:=P) w hl hy hx ny nx h ey ex hj hi;rw[mO (by omega),mO (by omega)]
theorem P8 (w:WF 0 g) (hl:Leaf g) {t x:Int} {n:GN} {i j:Nat} (hx:x∈ak g t) (e:g x=some n) (hi:i≤qK P n) (hj:j≤qK P n):ou ((cO P g t).idxOf (x,(i:Int)):Nat) ((cO P g t).idxOf (x,(j:Int)):Nat)=ou i j:=by
 rcases Nat.lt_trichotomy i j with h | h | h
 ·have:=Ik (P:=P) w hl hx e h hj;rw[mM (by omega),mM (by omega)]
 ·subst h;rw[p9,p9]
 ·have:=Ik (P:=P) w hl hx e h hi;rw[mO (by omega),mO (by omega)]
end
end Lv
end
section
open Go.RowKit
theorem xw {b s:Int} {n live:Nat} {g:Tr.G} {av:Int→Tr.Sl} {fr:List Nat} (hS:Sound b s n (Tr.raw g av) fr live) {k:Int} (h:(g k).isSome):gI k:=(bH hS (h:=k) (by rw[aK];exact h)).1
theorem J6 (base B:Nat) (b s root h0 y c:Int) (live n:Nat) (g:Tr.G) (av:Int→Tr.Sl) (fr:List Nat) (vs vf:Value) (w:World) (hM:TV base w B b s vs n (Tr.raw g av) vf fr live root) (hS:Sound b s n (Tr.raw g av) fr live) (hw:Tr.WF 0 g) (hA:AT w g av) (hal:∀ k m,g k=some m→m.attrs.length≤1000) (hy:gI y) (a:List Int) (hup:Tr.aS g h0=a++c::Tr.aS g y) (hys:(g y).isSome):
  Calls Tryz.prog 55 #[.pointer (some ⟨B,0,none⟩),.int .i64 h0,.int .i64 y] w fun e w'=>e=.returned (.int .i64 c)∧Below w.heap.size w w':=by
 have HM:=zh (fun (W:World) (hb:Below w.heap.size w W)=>And.intro (hM.below hb) (hA.below hb));have HS:=zh (And.intro hS (And.intro hw (And.intro hal hys)));clear hM hA hal hS hw
 go_enter Tryz.func55,Tryz.ntmps55
 go_wp2_with fail
 go_loopw [1] (fun u wr=>∃ (h:Int) (l:List Int),u=.int .i64 h∧Tr.aS g h=l++c::Tr.aS g y∧Hid (Below w.heap.size w wr)) (fun u _=>(Tr.aS g (intOf u)).length)
 case atStart=>exact⟨h0,a,rfl,hup,zh (Below.refl _ _)⟩
 case round=>
  obtain⟨wo,hwo⟩:∃ wo:World,wo=wr:=⟨_,rfl⟩
  subst hwo;obtain⟨h,l,rfl,hu,HB⟩:=hrel;obtain⟨hS,hw,hal,hys⟩:=HS.out;obtain⟨m,eh⟩:∃ m,g h=some m:=by
   cases e:g h with
   | some m=>exact⟨m,rfl⟩
   | none=>rw[hw.jI e] at hu;simp at hu
  obtain⟨hTV,hAT⟩:=HM.out wo HB.out;have abu:gI h:=xw hS (by rw[eh];rfl);have hN:=sO base B b s root h live n (Tr.raw g av) fr vs vf (Tr.dW g av h m) m.attrs wo hTV hS abu (by rw[Tr.aj eh];rfl) (hAT h m eh) (hal h m eh);rw[show (Tr.raw g av h).isSome=true by rw[aK,eh];rfl] at hN;obtain⟨D,hD⟩:=eX (Tr.dW g av h m)
  have hpa:D.pa=m.pa:=by rw[←hD];rfl
  rw[hD] at hN;obtain⟨p,hp⟩:=eX (m.pa)
  rw[hp] at hpa;have Xc:=hw.aT eh;rw[hp] at Xc;have HN:=zh hN;have hi:m.attrs.length≤1000:=hal h m eh;have hcase:(l=[]∧h=c∧p=y)∨∃ l',Tr.aS g p=l'++c::Tr.aS g y∧p∉Tr.aS g y∧(Tr.aS g p).length<(Tr.aS g h).length:=by
   rw[Xc] at hu ⊢;cases l with
   | nil=>
    rw[List.nil_append] at hu;injection hu with e1 e2;refine .inl ⟨rfl,e1,?_⟩;have h3:Tr.fs (Tr.aS g p)=p:=zF hw p (by rw[e2];intro e;obtain⟨q,eq⟩:=Option.isSome_iff_exists.1 hys;rw[hw.aT eq] at e;cases e);have h4:Tr.fs (Tr.aS g y)=y:=zF hw y (by intro e;obtain⟨q,eq⟩:=Option.isSome_iff_exists.1 hys;rw[hw.aT eq] at e;cases e);rw[←h3,e2,h4]
   | cons q l'=>
    rw[List.cons_append] at hu;injection hu with e1 e2;refine .inr ⟨l',e2,fun hm=>?_,by simp⟩;have hnd:=hw.Bd p;have h3:Tr.fs (Tr.aS g p)=p:=zF hw p (by rw[e2];simp);rw[e2] at hnd h3;cases l' with
    | nil=>
     have:c=p:=h3;rw[List.nil_append,List.nodup_cons] at hnd;rw[this] at hnd;exact hnd.1 hm
    | cons z l''=>
     have:z=p:=h3;rw[List.cons_append,List.nodup_cons] at hnd;rw[this] at hnd;exact hnd.1 (by simp[hm])
  have HCT:=zh (fun (W:World) (hb:Below w.heap.size w W)=>fA base B b s root p y live n g av fr vs vf W (HM.out W hb).1 hS hw hy);have hp0:p≠0:=fun e=>by
   rcases hcase with ⟨-,-,e2⟩ | ⟨l',e2,-,-⟩
   ·rw[←e2,e,hw.zero] at hys;cases hys
   ·rw[e,hw.jI hw.zero] at e2;simp at e2
  have hq:(p == 0)=false:=by simpa using hp0
  have HC:=zh hcase;have HU:=zh hu;clear hN hTV hAT Xc hcase hp0 hal hw hS hys eh hu hD hp;go_wp2_with fail;refine HN.out.mono ?_;rintro e w2 ⟨v,rfl,har,hb2⟩;obtain⟨Av,cv,rfl⟩:=har.form;have HB2:=zh (HB.out.trans (hb2.mono HB.out.size));obtain⟨w3,hw3⟩:=eX (w2.alloc (.cells #[.int .i64 D.kind,.string D.name,.slice Av m.attrs.length cv,.string D.data,.int .i64 D.pa,.int .i64 D.fi,.int .i64 D.la,.int .i64 D.pr,.int .i64 D.ne] 82))
  have aW:Whole w3 w2.heap.size #[.int .i64 D.kind,.string D.name,.slice Av m.attrs.length cv,.string D.data,.int .i64 D.pa,.int .i64 D.fi,.int .i64 D.la,.int .i64 D.pr,.int .i64 D.ne] 82:=by rw[←hw3];exact Whole.new _ _ _
  have HB3:Hid (Below w.heap.size w w3):=zh (by rw[←hw3];exact HB2.out.alloc HB2.out.size _);have q4:w3.cell? ⟨w2.heap.size,4,none⟩=some (.int .i64 p):=by rw[←hpa];exact aW.cell 4
  have HW3:=zh hw3;clear hw3 har hb2 HN aW hpa
  go_upto_region 2 with fail
  rw[HW3.out];obtain⟨r,hr⟩:=eX (decide (p∈Tr.aS g y))
  rw[hr] at HCT;have HR:=zh hr;clear hr;go_wp2_with fail;refine (HCT.out w3 HB3.out).mono ?_;rintro e w4 ⟨rfl,hb4⟩;have jy:=zh (HB3.out.trans (hb4.mono HB3.out.size));have q4':w4.cell? ⟨w2.heap.size,4,none⟩=some (.int .i64 p):=(hb4.cell (p:=⟨w2.heap.size,4,none⟩) (World.block_lt_of_cell? w3 _ q4)).trans q4;clear hb4 HCT;cases r with
  | true=>
   have hch:h=c:=by
    rcases HC.out with ⟨-,e1,-⟩ | ⟨l',-,e2,-⟩
    ·exact e1
    ·exact absurd (of_decide_eq_true HR.out) e2
   subst hch;go_wp2_with fail
   go_ret
   exact⟨rfl,jy.out⟩
  | false=>
   have hx:∃ l',Tr.aS g p=l'++c::Tr.aS g y∧(Tr.aS g p).length<(Tr.aS g h).length:=by
    rcases HC.out with ⟨-,-,e1⟩ | ⟨l',e1,-,e2⟩
    ·exact absurd (by rw[e1,HS.out.2.1.aT (Option.some_get HS.out.2.2.2).symm];simp) (of_decide_eq_false HR.out)
    ·exact⟨l',e1,e2⟩
   have HX:=zh hx;clear hx;go_wp2_with fail
   go_roundw
   case rel=>exact⟨p,HX.out.choose,rfl,HX.out.choose_spec.1,jy⟩
   case measure=>
    have:=HX.out.choose_spec.2;simpa [intOf] using this
theorem AU (base M m:Nat) (vs:Value) (f:Nat→RS) (b:Int) (w:World) (h:MV base w M vs m f) (hw:Tr.WF (-1) (mg m f)) (hb:Live m f b) (hb0:0≤b) (hm:m≤100000):
  Calls Tryz.prog 10 #[.pointer (some ⟨M,0,none⟩),.int .i64 b] w fun e w'=>e=.returned (.int .i64 (Tr.dF (Tr.aS (mg m f) b)))∧w'=w:=by
 obtain⟨A,c,rfl⟩:=h.form;have hu:=(hw.cu b).1;obtain⟨L,hL⟩:=eX (Tr.aS (mg m f) b)
 rw[hL] at hu ⊢;clear hL;have HH:=zh h;have HW:=zh hw;have HU:=zh (And.intro hu hb);clear h hw hu hb
 go_enter Tryz.func10,Tryz.ntmps10
 go_wp2_with fail
 go_loopw [1] (fun v wr=>∃ (b':Int) (l1 l2:List Int),v=.int .i64 b'∧Hid (L=l1++l2)∧0≤b'∧Hid (Tr.Up (mg m f) b' l2)∧Hid (Live m f b')∧wr=w) (fun v _=>(Tr.aS (mg m f) (intOf v)).length)
 case atStart=>exact⟨b,[],L,rfl,zh rfl,hb0,zh HU.out.1,zh HU.out.2,rfl⟩
 case round=>
  obtain⟨b',l1,l2,rfl,H1,h2,H3,H4,rfl⟩:=hrel;rcases Live.up HW.out H3.out H4.out with ⟨e,e2⟩ | ⟨i,l',e,hi,hg,e2,hu',hl'⟩
  ·omega
  ·subst e;obtain⟨k0,_⟩:=HH.out.cell;obtain⟨g,rfl,_,_,_,_,c4,_,_⟩:=HH.out.read hi;have q1:(0:Int)≤(i:Int):=by omega
   have q2:(i:Int)<(m:Int):=by omega
   obtain⟨pa,hpa⟩:=eX ((f i).pa)
   rw[hpa] at c4 hu' hl';by_cases hp:(0:Int)≤pa
   ·have hd:decide ((0:Int)≤pa)=true:=by simpa using hp
    have hm1:(Tr.aS (mg m f) pa).length<(Tr.aS (mg m f) (i:Int)).length:=by
     have h3:=H3.out;rw[HW.out.gU h3,HW.out.gU hu',e2];simp
    have HM:=zh hm1;have HR:=zh (show L=(l1++[(i:Int)])++l' by rw[H1.out,e2];simp);have U6:=zh (And.intro hu' hl');clear hm1 hu' hl' e2 hpa;go_wp2_with fail
    go_roundw
    case rel=>exact⟨pa,l1++[(i:Int)],l',rfl,HR,hp,zh U6.out.1,zh U6.out.2,trivial⟩
    case measure=>exact HM.out
   ·have hd:decide ((0:Int)≤pa)=false:=by simpa using hp
    have hl0:l'=[]:=by
     rcases Live.up HW.out hu' hl' with ⟨_,e3⟩ | ⟨j,_,e3,_⟩
     ·exact e3
     ·omega
    have hT:Tr.dF L=(i:Int):=by rw[H1.out,e2,hl0];exact Tr.l7 _ _
    have HT:=zh hT;clear hT e2 hu' hl' hl0 hpa;go_wp2_with fail
    go_ret
    exact⟨kD HT.out.symm,rfl⟩
end
end Go.Proofs.YtmhjlifmcadefaaGreatDoor
