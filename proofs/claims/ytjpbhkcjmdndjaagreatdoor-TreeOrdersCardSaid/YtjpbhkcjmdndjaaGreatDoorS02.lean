/- Part of a proof about trees. -/
import Derived.BigQuiet
import Derived.Deep.DrawnRows
import Derived.Deep.LoopGhost
import Derived.Deep.QuietTactic
import Derived.Deep.RegionHeld3
import Derived.Deep.RegionWith
import Derived.Lib.MinMax
import Derived.Lib.OwnBridge
import Derived.Lib.SliceRun
import Derived.Test.YtjpbhkcjmdndjaaGreatDoorProg
import Derived.Test.YtjpbhkcjmdndjaaGreatDoorGNIn4
import Derived.Test.YtjpbhkcjmdndjaaGreatDoorGNRm2
import Derived.Test.YtjpbhkcjmdndjaaGreatDoorGShRev
import Derived.Test.YtjpbhkcjmdndjaaGreatDoorGShWst
set_option linter.unusedVariables false
set_option linter.unusedSimpArgs false
set_option linter.unusedSectionVars false
set_option maxHeartbeats 4000000
set_option maxRecDepth 100000
namespace Go.Proofs.YtjpbhkcjmdndjaaGreatDoor
section
open Go Go.RowKit
def lH (x:RS):Tr.GN:=⟨x.kind,x.name,x.at',x.data,x.pa,x.kids⟩
def mg (m:Nat) (f:Nat→RS):Tr.G:=fun h=>if 0≤h∧h.toNat<m∧(f h.toNat).gone=false then some (lH (f h.toNat)) else none
section
variable {m:Nat} {f:Nat→RS}
theorem aP {i:Nat} (hi:i<m) (hg:(f i).gone=false):mg m f (i:Int)=some (lH (f i)):=by
 unfold mg;rw[if_pos ⟨by omega,by simpa using hi,by simpa using hg⟩];simp
theorem R5 {i:Nat} (hg:(f i).gone=true):mg m f (i:Int)=none:=by
 unfold mg;rw[if_neg];rintro⟨_,_,h⟩;simp[hg] at h
theorem kZ {h:Int} {n:Tr.GN} (e:mg m f h=some n):∃ i:Nat,h=(i:Int)∧i<m∧(f i).gone=false∧n=lH (f i):=by
 unfold mg at e
 split at e
 ·rename_i hc;injection e with e;exact⟨h.toNat,by omega,hc.2.1,hc.2.2,e.symm⟩
 ·cases e
theorem jq {h:Int} (e:(mg m f h).isSome):∃ i:Nat,h=(i:Int)∧i<m∧(f i).gone=false∧mg m f h=some (lH (f i)):=by
 obtain⟨n,hn⟩:=Option.isSome_iff_exists.1 e;obtain⟨i,h1,h2,h3,h4⟩:=kZ hn;exact⟨i,h1,h2,h3,h4▸hn⟩
theorem lX {h:Int} (hh:h<0):mg m f h=none:=by
 unfold mg;rw[if_neg (by omega)]
theorem eB {i:Nat} (hi:i<m):(mg m f (i:Int)).isSome=!(f i).gone:=by
 cases e:(f i).gone with
 | true=>rw[R5 e];rfl
 | false=>rw[aP hi e];rfl
def Live (m:Nat) (f:Nat→RS) (h:Int):Prop:=h = -1∨(mg m f h).isSome
theorem Live.pa (hw:Tr.WF (-1) (mg m f)) {i:Nat} (hi:i<m) (hg:(f i).gone=false):Live m f (f i).pa:=by
 rcases hw.pa (aP hi hg) with h | ⟨p,h,_⟩
 ·exact .inl h
 ·exact .inr (by rw[show (f i).pa=(lH (f i)).pa from rfl,h];rfl)
theorem Live.kid (hw:Tr.WF (-1) (mg m f)) {i:Nat} (hi:i<m) (hg:(f i).gone=false) {k:Int} (hk:k∈(f i).kids):∃ j:Nat,k=(j:Int)∧j<m∧(f j).gone=false∧(f j).pa=(i:Int):=by
 obtain⟨n,h1,h2⟩:=hw.down _ _ k (aP hi hg) hk;obtain⟨j,h3,h4,h5,h6⟩:=kZ h1;exact⟨j,h3,h4,h5,by rw[h6] at h2;exact h2⟩
theorem Live.up (hw:Tr.WF (-1) (mg m f)) {h:Int} {l:List Int} (u:Tr.Up (mg m f) h l) (hl:Live m f h):(h = -1∧l=[])∨∃ (i:Nat) (l':List Int),h=(i:Int)∧i<m∧(f i).gone=false∧l=h::l'∧Tr.Up (mg m f) (f i).pa l'∧Live m f (f i).pa:=by
 cases u with
 | out e=>
  rcases hl with h1 | h1
  ·exact .inl ⟨h1,rfl⟩
  ·rw[e] at h1;cases h1
 | @node _ n l' e u=>
  obtain⟨i,h1,h2,h3,h4⟩:=kZ e;refine .inr ⟨i,l',h1,h2,h3,rfl,?_,Live.pa hw h2 h3⟩;rw[h4] at u;exact u
end
def jR (m:Nat) (f:Nat→RS) (i:Nat):Int:=if (f i).pa<0 then -1 else ((f (f i).pa.toNat).kids.idxOf (i:Int):Nat)
end
section
open Go.RowKit
section
variable {base M m:Nat} {vs:Value} {f:Nat→RS} {w:World}
theorem MV.read {A:Option Addr} {c i:Nat} (h:MV base w M (.slice A m c) m f) (hi:i<m):∃ g,A=some ⟨g,0,none⟩∧w.cell? ⟨g,i*7,none⟩=some (.int .i64 (f i).kind)∧w.cell? ⟨g,i*7+1,none⟩=some (.string (f i).name)∧w.cell? ⟨g,i*7+2,none⟩=some (.slice (f i).a.a (f i).a.n (f i).a.c)∧w.cell? ⟨g,i*7+3,none⟩=some (.string (f i).data)∧w.cell? ⟨g,i*7+4,none⟩=some (.int .i64 (f i).pa)∧w.cell? ⟨g,i*7+5,none⟩=some (.slice (f i).k.a (f i).k.n (f i).k.c)∧w.cell? ⟨g,i*7+6,none⟩=some (.bool (f i).gone):=by
 obtain⟨g,rfl,_,_,_,hc⟩:=h.node (by omega);exact⟨g,rfl,(hc i 0 hi (by omega)).1,(hc i 1 hi (by omega)).1,(hc i 2 hi (by omega)).1,(hc i 3 hi (by omega)).1,(hc i 4 hi (by omega)).1,(hc i 5 hi (by omega)).1,(hc i 6 hi (by omega)).1⟩
theorem MV.kn (h:MV base w M vs m f) {i:Nat} (hi:i<m):(f i).k.n=(f i).kids.length:=by
 obtain⟨A,c,e⟩:=(h.kr i hi).form;unfold Tr.Sl.v at e;injection e
theorem MV.an (h:MV base w M vs m f) {i:Nat} (hi:i<m):(f i).a.n=(f i).at'.length:=by
 obtain⟨A,c,e⟩:=(h.ar i hi).form;unfold Tr.Sl.v at e;injection e
theorem MV.kid (h:MV base w M vs m f) {i j:Nat} (hi:i<m) {k:Int} (hj:(f i).kids[j]?=some k):∃ g o,(f i).k.a=some ⟨g,o,none⟩∧w.cell? ⟨g,o+j,none⟩=some (.int .i64 k):=by
 have hr:=h.kr i hi;have hlt:=(List.getElem?_eq_some_iff.1 hj).1;have e:(f i).k.v=.slice (f i).k.a (f i).kids.length (f i).k.c:=by unfold Tr.Sl.v;rw[h.kn hi]
 rw[e] at hr;obtain⟨g,o,hA,_,_,hc,_⟩:=hr.cells (by omega);exact⟨g,o,hA,hc j _ (by omega) (dP hj)⟩
end
theorem bX (base M m:Nat) (vs:Value) (f:Nat→RS) (i:Nat) (w:World) (h:MV base w M vs m f) (hi:i<m) (hm:m≤100000):
  Calls Tryz.prog 9 #[.pointer (some ⟨M,0,none⟩),.int .i64 (i:Int)] w fun e w'=>e=.returned (.bool (!(f i).gone))∧w'=w:=by
 obtain⟨A,c,rfl⟩:=h.form;obtain⟨k0,_⟩:=h.cell;obtain⟨g,rfl,_,_,_,_,_,_,c6⟩:=h.read hi;have q1:(0:Int)≤(i:Int):=by omega
 have q2:(i:Int)<(m:Int):=by omega
 clear h
 go_enter Tryz.func9,Tryz.ntmps9
 go_wp2_with fail
 go_ret
 exact⟨rfl,rfl⟩
theorem uq (base M m:Nat) (vs:Value) (f:Nat→RS) (a b:Int) (w:World) (h:MV base w M vs m f) (hw:Tr.WF (-1) (mg m f)) (hb:Live m f b) (hm:m≤100000):
  Calls Tryz.prog 11 #[.pointer (some ⟨M,0,none⟩),.int .i64 a,.int .i64 b] w fun e w'=>e=.returned (.bool (decide (a∈Tr.aY (mg m f) b)))∧w'=w:=by
 obtain⟨A,c,rfl⟩:=h.form;have hu:=(hw.bY b).1;obtain⟨L,hL⟩:=eX (Tr.aY (mg m f) b)
 rw[hL] at hu ⊢;clear hL;have HH:=zh h;have HW:=zh hw;have HU:=zh (And.intro hu hb);clear h hw hu hb
 go_enter Tryz.func11,Tryz.ntmps11
 go_wp2_with fail
 go_loopw [2] (fun v wr=>∃ (b':Int) (l1 l2:List Int),v=.int .i64 b'∧Hid (L=l1++l2)∧Hid (a∉l1)∧Hid (Tr.Up (mg m f) b' l2)∧Hid (Live m f b')∧wr=w) (fun v _=>(Tr.aY (mg m f) (intOf v)).length)
 case atStart=>exact⟨b,[],L,rfl,zh rfl,zh (by simp),zh HU.out.1,zh HU.out.2,rfl⟩
 case round=>
  obtain⟨b',l1,l2,rfl,H1,H2,H3,H4,rfl⟩:=hrel;rcases Live.up HW.out H3.out H4.out with ⟨e,e2⟩ | ⟨i,l',e,hi,hg,e2,hu',hl'⟩
  ·subst e;have hd:decide (a∈L)=false:=by rw[H1.out,e2,List.append_nil];exact decide_eq_false H2.out
   have HD:=zh hd;clear hd e2;go_wp2_with fail
   go_ret
   exact⟨fI HD.out.symm,rfl⟩
  ·subst e;obtain⟨k0,_⟩:=HH.out.cell;obtain⟨g,rfl,_,_,_,_,c4,_,_⟩:=HH.out.read hi;have q1:(0:Int)≤(i:Int):=by omega
   have q2:(i:Int)<(m:Int):=by omega
   by_cases ha:a=(i:Int)
   ·have ha2:(a == (i:Int))=true:=by simpa using ha
    have hd:decide (a∈L)=true:=by rw[H1.out,e2,ha];simp
    have HD:=zh hd;clear hd e2 hu' hl' ha;go_wp2_with fail
    go_ret
    exact⟨fI HD.out.symm,rfl⟩
   ·have ha2:(a == (i:Int))=false:=by simpa using ha
    have hm1:(Tr.aY (mg m f) (f i).pa).length<(Tr.aY (mg m f) (i:Int)).length:=by
     have h3:=H3.out;rw[HW.out.iq h3,HW.out.iq hu',e2];simp
    have HM:=zh hm1;have hr:L=(l1++[(i:Int)])++l'∧a∉l1++[(i:Int)]:=⟨by rw[H1.out,e2];simp,by simp;exact⟨H2.out,ha⟩⟩
    have HR:=zh hr;have T9:=zh (And.intro hu' hl');clear hm1 hr hu' hl' e2 ha;go_wp2_with fail
    go_roundw
    case rel=>exact⟨(f i).pa,l1++[(i:Int)],l',rfl,zh HR.out.1,zh HR.out.2,zh T9.out.1,zh T9.out.2,trivial⟩
    case measure=>exact HM.out
theorem zQ (base M m:Nat) (vs:Value) (f:Nat→RS) (b:Int) (w:World) (h:MV base w M vs m f) (hw:Tr.WF (-1) (mg m f)) (hb:Live m f b) (hm:m≤100000):
  Calls Tryz.prog 63 #[.pointer (some ⟨M,0,none⟩),.int .i64 b] w fun e w'=>e=.returned (.int .i64 ((Tr.aY (mg m f) b).length:Nat))∧w'=w:=by
 obtain⟨A,c,rfl⟩:=h.form;have hu:=(hw.bY b).1;have PO:=(hw.bY b).2;obtain⟨L,hL⟩:=eX (Tr.aY (mg m f) b)
 rw[hL] at hu PO ⊢;clear hL;have HH:=zh h;have HW:=zh hw;have HU:=zh (And.intro hu hb);clear h hw hu hb
 go_enter Tryz.func63,Tryz.ntmps63
 go_wp2_with fail
 go_loopw [1,5] (fun v n wr=>∃ (b':Int) (l1 l2:List Int),v=.int .i64 b'∧n=.int .i64 (l1.length:Nat)∧Hid (L=l1++l2)∧Hid (Tr.Up (mg m f) b' l2)∧Hid (Live m f b')∧wr=w) (fun v _ _=>(Tr.aY (mg m f) (intOf v)).length)
 case atStart=>exact⟨b,[],L,rfl,rfl,zh rfl,zh HU.out.1,zh HU.out.2,rfl⟩
 case round=>
  obtain⟨b',l1,l2,rfl,rfl,H1,H3,H4,rfl⟩:=hrel;rcases Live.up HW.out H3.out H4.out with ⟨e,e2⟩ | ⟨i,l',e,hi,hg,e2,hu',hl'⟩
  ·subst e;have hd:(L.length:Int)=(l1.length:Nat):=by rw[H1.out,e2,List.append_nil]
   have HD:=zh hd;clear hd e2 PO;go_wp2_with fail
   go_ret
   exact⟨kD HD.out.symm,rfl⟩
  ·subst e;obtain⟨k0,_⟩:=HH.out.cell;obtain⟨g,rfl,_,_,_,_,c4,_,_⟩:=HH.out.read hi;have q1:(0:Int)≤(i:Int):=by omega
   have q2:(i:Int)<(m:Int):=by omega
   have q3:l1.length+1≤128:=by have:=congrArg List.length H1.out;rw[List.length_append,e2,List.length_cons] at this;omega
   have hm1:(Tr.aY (mg m f) (f i).pa).length<(Tr.aY (mg m f) (i:Int)).length:=by
    have h3:=H3.out;rw[HW.out.iq h3,HW.out.iq hu',e2];simp
   have HM:=zh hm1;have hr:L=(l1++[(i:Int)])++l':=by rw[H1.out,e2];simp
   have HR:=zh hr;have T9:=zh (And.intro hu' hl');clear hm1 hr hu' hl' e2 PO;go_wp2_with fail
   go_roundw
   case rel=>exact⟨(f i).pa,l1++[(i:Int)],l',rfl,by rw[List.length_append];rfl,zh HR.out,zh T9.out.1,zh T9.out.2,trivial⟩
   case measure=>exact HM.out
theorem uO (base M m:Nat) (vs:Value) (f:Nat→RS) (i:Nat) (w:World) (h:MV base w M vs m f) (hw:Tr.WF (-1) (mg m f)) (hi:i<m) (hg:(f i).gone=false) (hm:m≤100000):
  Calls Tryz.prog 66 #[.pointer (some ⟨M,0,none⟩),.int .i64 (i:Int)] w fun e w'=>e=.returned (.int .i64 (jR m f i))∧w'=w:=by
 obtain⟨A,c,rfl⟩:=h.form;have hl:=Live.pa hw hi hg;obtain⟨k0,_⟩:=h.cell;obtain⟨g,rfl,_,_,_,_,c4,_,_⟩:=h.read hi;have q1:(0:Int)≤(i:Int):=by omega
 have q2:(i:Int)<(m:Int):=by omega
 rcases hl with hp | hp
 ·have hr:jR m f i = -1:=by unfold jR;rw[if_pos (by omega)]
  rw[hr];rw[hp] at c4;clear h hr hw
  go_enter Tryz.func66,Tryz.ntmps66
  go_wp2_with fail
  go_ret
  exact⟨rfl,rfl⟩
 ·obtain⟨p,hp1,hp2,hp3,hp4⟩:=jq hp;have hmem:(i:Int)∈(f p).kids:=by
   rcases hw.pa (aP hi hg) with h1 | ⟨n,h1,h2⟩
   ·exact absurd (show (f i).pa = -1 from h1) (by omega)
   ·rw[show (lH (f i)).pa=(p:Int) from hp1,aP hp2 hp3] at h1;obtain rfl:=Option.some.inj h1;exact h2
  have hr:jR m f i=((f p).kids.idxOf (i:Int):Nat):=by unfold jR;rw[if_neg (by omega),hp1];rfl
  obtain⟨l1,l2,hL⟩:=List.append_of_mem hmem;have hnd:=hw.nodup _ _ (aP hp2 hp3);have hno:(i:Int)∉l1:=by
   intro hx;have J5:(f p).kids.Nodup:=hnd;rw[hL] at J5;exact (List.nodup_append.1 J5).2.2 _ hx _ (by simp) rfl
  rw[hr];have hix:(f p).kids.idxOf (i:Int)=l1.length:=by rw[hL,Tr.dX hno]
  rw[hix];rw[hp1] at c4;obtain⟨g2,e2,_,_,_,_,_,c5,_⟩:=h.read hp2;obtain rfl:g=g2:=by injection e2 with e2;injection e2
  have hkn:=h.kn hp2;have hlen:(f p).kids.length=l1.length+1+l2.length:=by rw[hL];simp;omega
  rw[hkn] at c5;have hkc:∀ j,j≤l1.length→∃ ga o,(f p).k.a=some ⟨ga,o,none⟩∧w.cell? ⟨ga,o+j,none⟩=some (.int .i64 ((f p).kids[j]?.getD 0)):=fun j hj=>by
   obtain⟨x,hx⟩:∃ x,(f p).kids[j]?=some x:=⟨(f p).kids[j]'(by omega),by simp⟩
   obtain⟨ga,o,e1,e2⟩:=h.kid hp2 hx;exact⟨ga,o,e1,by rw[hx];exact e2⟩
  obtain⟨ga,o,hA,_⟩:=hkc 0 (by omega);rw[hA] at c5;have hk2:∀ j,j<l1.length→∃ x,w.cell? ⟨ga,o+j,none⟩=some (.int .i64 x)∧(x == (i:Int))=false:=fun j hj=>by
   obtain⟨Vh,o',e1,e2⟩:=hkc j (by omega);rw[hA] at e1;obtain⟨rfl,rfl⟩:ga=Vh∧o=o':=by injection e1 with e1;injection e1 with a1 a2;exact⟨a1,a2⟩
   refine⟨_,e2,?_⟩;rw[hL,List.getElem?_append_left hj,List.getElem?_eq_getElem hj,Option.getD_some];exact beq_eq_false_iff_ne.2 fun e=>hno (e▸List.getElem_mem hj)
  have hk3:w.cell? ⟨ga,o+l1.length,none⟩=some (.int .i64 (i:Int)):=by
   obtain⟨Vh,o',e1,e2⟩:=hkc l1.length (by omega);rw[hA] at e1;obtain⟨rfl,rfl⟩:ga=Vh∧o=o':=by injection e1 with e1;injection e1 with a1 a2;exact⟨a1,a2⟩
   rw[e2,hL];simp
  obtain⟨n,hn⟩:=eX ((f p).kids.length)
  obtain⟨d,hd⟩:=eX (l1.length)
  rw[hn] at c5 hlen;rw[hd] at hlen hk2 hk3 ⊢;have p1:(0:Int)≤(p:Int):=by omega
  have p2:(p:Int)<(m:Int):=by omega
  have hdn:d<n:=by omega
  have hle:n≤100000:=by
   have:=(h.kr p hp2)
   rw[←hn];have h3:(f p).kids.length≤m:=by
    have hsub:∀ x∈(f p).kids.map Int.toNat,x<m:=fun x hx=>by
     obtain⟨y,hy,rfl⟩:=List.mem_map.1 hx;obtain⟨j,h4,h5,_⟩:=Live.kid hw hp2 hp3 hy;rw[h4];simpa using h5
    have PS:((f p).kids.map Int.toNat).Nodup:=by
     have J5:(f p).kids.Nodup:=hnd;rw[List.nodup_iff_pairwise_ne,List.pairwise_map];refine (List.pairwise_iff_forall_sublist.2 ?_);intro a b hab e;have ha:a∈(f p).kids:=hab.subset (by simp);have hb:b∈(f p).kids:=hab.subset (by simp);obtain⟨j,h4,_⟩:=Live.kid hw hp2 hp3 ha;obtain⟨j',h5,_⟩:=Live.kid hw hp2 hp3 hb;have:a=b:=by rw[h4,h5] at e ⊢;simp at e;rw[e]
     exact (List.pairwise_iff_forall_sublist.1 (List.nodup_iff_pairwise_ne.1 J5)) hab this
    have:=pV m _ PS hsub;simpa using this
   omega
  have HK:=zh hk2;clear h hw hr hkc hk2 hno hnd hmem hix hL hp hp4 hlen hn hd hA hkn
  go_enter Tryz.func66,Tryz.ntmps66
  go_wp2_with fail
  go_loopw [6] (fun v wr=>∃ j:Nat,v=.int .i64 (j:Int)∧j≤d∧wr=w) (fun v _=>d - (intOf v).toNat)
  case atStart=>exact⟨0,rfl,Nat.zero_le _,rfl⟩
  case round=>
   obtain⟨j,rfl,hj,rfl⟩:=hrel;have j1:(j:Int)<(n:Int):=by omega
   have j0:(0:Int)≤(j:Int):=by omega
   by_cases hjd:j=d
   ·subst hjd;go_wp2_with fail
    go_ret
    exact⟨rfl,rfl⟩
   ·obtain⟨x,hx,hxe⟩:=HK.out j (by omega);go_wp2_with fail
    go_roundw
    case rel=>exact⟨j+1,by go_num,by omega,trivial⟩
    case measure=>simp[intOf];omega
theorem vJ (base:Nat) (v:Value) (l:List Int) (i:Int) (w:World) (h:TR w base 3 1 v l.length (ints l)) (hi:kM i) (hl:l.length≤100000):
  Calls Tryz.prog 65 #[v,.int .i64 i] w fun e w'=>e=.returned (.int .i64 (if i<0 then -1 else (l[i.toNat]?).getD (-1)))∧w'=w:=by
 obtain⟨A,c,rfl⟩:=h.form;by_cases h0:i<0
 ·rw[if_pos h0];clear h
  go_enter Tryz.func65,Tryz.ntmps65
  go_wp2_with fail
  go_ret
  exact⟨rfl,rfl⟩
 ·rw[if_neg h0];obtain⟨k,rfl⟩:∃ k:Nat,i=(k:Int):=⟨i.toNat,by omega⟩
  rw[Int.toNat_natCast];by_cases h1:k<l.length
  ·obtain⟨x,hx⟩:∃ x,l[k]?=some x:=⟨l[k],by simp⟩
   obtain⟨g,o,rfl,_,_,hc,_⟩:=h.cells (by omega);have hc':=hc k _ (by omega) (dP hx);rw[hx,Option.getD_some];obtain⟨n,hn⟩:=eX (l.length)
   rw[hn] at h1 ⊢;have q1:(k:Int)<(n:Int):=by omega
   have q2:¬ (n:Int)≤(k:Int):=by omega
   clear h hc hx hn hl
   go_enter Tryz.func65,Tryz.ntmps65
   go_wp2_with fail
   go_ret
   exact⟨rfl,rfl⟩
  ·have hx:l[k]?=none:=by simp;omega
   rw[hx,Option.getD_none];obtain⟨n,hn⟩:=eX (l.length)
   rw[hn] at h1 ⊢;have q2:(n:Int)≤(k:Int):=by omega
   clear h hx hn hl
   go_enter Tryz.func65,Tryz.ntmps65
   go_wp2_with fail
   go_ret
   exact⟨rfl,rfl⟩
end
section
open Go.RowKit
theorem lS {m:Nat} {f:Nat→RS} (hw:Tr.WF (-1) (mg m f)) {p:Nat} (hp:p<m) (hg:(f p).gone=false):(f p).kids.length≤m:=by
 have hsub:∀ x∈(f p).kids.map Int.toNat,x<m:=fun x hx=>by
  obtain⟨y,hy,rfl⟩:=List.mem_map.1 hx;obtain⟨j,h4,h5,_⟩:=Live.kid hw hp hg hy;rw[h4];simpa using h5
 have hnd:(f p).kids.Nodup:=hw.nodup _ _ (aP hp hg);have PS:((f p).kids.map Int.toNat).Nodup:=by
  rw[List.nodup_iff_pairwise_ne,List.pairwise_map];refine (List.pairwise_iff_forall_sublist.2 ?_);intro a b hab e;have ha:a∈(f p).kids:=hab.subset (by simp);have hb:b∈(f p).kids:=hab.subset (by simp);obtain⟨j,h4,_⟩:=Live.kid hw hp hg ha;obtain⟨j',h5,_⟩:=Live.kid hw hp hg hb;have:a=b:=by rw[h4,h5] at e ⊢;simp at e;rw[e]
  exact (List.pairwise_iff_forall_sublist.1 (List.nodup_iff_pairwise_ne.1 hnd)) hab this
 have:=pV m _ PS hsub;simpa using this
theorem yg (base M m:Nat) (vs:Value) (f:Nat→RS) (hw:Tr.WF (-1) (mg m f)) (hm:m≤100000):∀ h,(mg m f h).isSome→∀ w,MV base w M vs m f→
  Calls Tryz.prog 64 #[.pointer (some ⟨M,0,none⟩),.int .i64 h] w fun e w'=>e=.returned (.int .i64 (Tr.gF (mg m f) h:Nat))∧w'=w:=by
 refine hw.induct ?_;intro h ih hs w H;obtain⟨i,rfl,hi,hg,Y2⟩:=jq hs;have hle:=lS hw hi hg;obtain⟨A,c,rfl⟩:=H.form;have hr:Tr.gF (mg m f) (i:Int)=oZ (mg m f) (f i).kids+1:=hw.iQ Y2;have PU:=hw.qC (i:Int);have hkn:=H.kn hi;obtain⟨n,hn⟩:=eX ((f i).kids.length)
 rw[hn] at hkn hle;obtain⟨g0,rfl,-⟩:=H.read hi;have q1:(0:Int)≤(i:Int):=by omega
 have q2:(i:Int)<(m:Int):=by omega
 have HH:=zh H;have HI:=zh ih;have HR:=zh hr;have HB:=zh PU;have HW:=zh hw;have HN:=zh hn;have X3:=zh hkn;have hmono:∀ l l':List Int,oZ (mg m f) l≤oZ (mg m f) (l++l'):=fun l l'=>by
  unfold oZ;rw[List.map_append,List.foldl_append];exact (Tr.vX).1
 have HMO:=zh hmono;clear H ih hr PU hw Y2 hs hn hkn hmono
 go_enter Tryz.func64,Tryz.ntmps64
 go_wp2_with fail
 go_loopw [5,6] (fun v u wr=>∃ j:Nat,v=.int .i64 (oZ (mg m f) ((f i).kids.take j):Nat)∧u=.int .i64 (j:Int)∧j≤n∧wr=w) (fun _ u _=>n - (intOf u).toNat)
 case atStart=>exact⟨0,rfl,rfl,Nat.zero_le _,rfl⟩
 case round=>
  obtain⟨j,rfl,rfl,hj,rfl⟩:=hrel;have WR:=HH.out;obtain⟨k0,_⟩:=WR.cell;obtain⟨g,e0,_,_,_,_,_,c5,_⟩:=WR.read hi;obtain rfl:g0=g:=by injection e0 with e0;injection e0
  rw[X3.out] at c5;have hmx:oZ (mg m f) ((f i).kids.take j)≤129:=by
   have h1:=HMO.out ((f i).kids.take j) ((f i).kids.drop j);rw[List.take_append_drop] at h1;have:=HB.out;rw[HR.out] at this;omega
  have j0:(0:Int)≤(j:Int):=by omega
  by_cases hjn:j<n
  ·have j1:(j:Int)<(n:Int):=by omega
   obtain⟨k,hk⟩:∃ k,(f i).kids[j]?=some k:=⟨(f i).kids[j]'(by rw[HN.out];exact hjn),by simp⟩
   obtain⟨ga,o,hA,ck⟩:=WR.kid hi hk;rw[hA] at c5;have hkm:k∈(f i).kids:=List.mem_of_getElem? hk;obtain⟨i',hki,hi',hg',_⟩:=Live.kid HW.out hi hg hkm;have hcall:=HI.out _ (aP hi hg) k hkm (by rw[hki,eB hi',hg'];rfl) wr WR;have htk:(f i).kids.take (j+1)=(f i).kids.take j++[k]:=by
    rw[List.take_add_one,hk];rfl
   have R6:oZ (mg m f) ((f i).kids.take (j+1))=max (oZ (mg m f) ((f i).kids.take j)) (Tr.gF (mg m f) k):=by rw[htk,Df]
   have Y3:=HW.out.qC k;obtain⟨H1,hH1⟩:=eX (Tr.gF (mg m f) k)
   obtain⟨H0,hH0⟩:=eX (oZ (mg m f) ((f i).kids.take j))
   rw[hH1] at hcall R6 Y3;rw[hH0] at hmx R6 ⊢;have HX:=zh R6;have HC:=zh hcall;clear hcall R6 htk WR hk hkm hki hH1 hH0 hA;go_wp2_with fail;refine HC.out.mono ?_;rintro e w2 ⟨rfl,hw2⟩;obtain rfl:=hw2.symm;clear HC;go_wp2_with fail
   go_roundw
   case rel=>exact⟨j+1,by rw[HX.out];first | rfl | (congr 1;omega) | (simp;omega),by go_num,by omega,trivial⟩
   case measure=>simp[intOf];omega
  ·have sQ:j=n:=by omega
   subst sQ;have htk:(f i).kids.take j=(f i).kids:=by rw[List.take_of_length_le];rw[HN.out];exact Nat.le_refl _
   have hR2:Tr.gF (mg m f) (i:Int)=oZ (mg m f) ((f i).kids.take j)+1:=by rw[htk];exact HR.out
   obtain⟨H0,hH0⟩:=eX (oZ (mg m f) ((f i).kids.take j))
   rw[hH0] at hmx hR2 ⊢;have HR2:=zh hR2;clear htk hR2 WR hH0;go_wp2_with fail
   go_ret
   exact⟨kD (by rw[HR2.out];omega),rfl⟩
def jS (m:Nat) (f:Nat→RS) (p h:Nat):Bool:=
 if h=0∨(h:Int)∈Tr.aY (mg m f) (p:Int) then false else if (f p).kind=2 then true else if p≠0∨(f h).kind=3 then false else !((f 0).kids.any fun k=>k != (h:Int) && (f k.toNat).kind == 2 && (f h).kind == 2)
theorem uQ (base M m:Nat) (vs:Value) (f:Nat→RS) (p h:Nat) (w:World) (H:MV base w M vs m f) (hw:Tr.WF (-1) (mg m f)) (hp:p<m) (hpg:(f p).gone=false) (hh:h<m) (Jw:(f 0).gone=false) (hm:m≤100000):
  Calls Tryz.prog 62 #[.pointer (some ⟨M,0,none⟩),.int .i64 (p:Int),.int .i64 (h:Int)] w fun e w'=>e=.returned (.bool (jS m f p h))∧w'=w:=by
 obtain⟨A,c,rfl⟩:=H.form;have hcon:=uq base M m (.slice A m c) f (h:Int) (p:Int) w H hw (.inr (by rw[eB hp,hpg];rfl)) hm;obtain⟨k0,_⟩:=H.cell;obtain⟨g,rfl,cp,_⟩:=H.read hp;obtain⟨g2,e2,ch,_⟩:=H.read hh;obtain rfl:g=g2:=by injection e2 with e2;injection e2
 have p0:(0:Int)≤(p:Int):=by omega
 have p1:(p:Int)<(m:Int):=by omega
 have h0:(0:Int)≤(h:Int):=by omega
 have h1:(h:Int)<(m:Int):=by omega
 have m0:(0:Int)<(m:Int):=by omega
 obtain⟨r,hr⟩:=eX (jS m f p h)
 have hr':=hr;unfold jS at hr';rw[hr];by_cases hz:h=0
 ·rw[if_pos (.inl hz)] at hr';subst hz hr';have hq:(((0:Nat):Int) == 0)=true:=rfl;clear H hw hcon hr
  go_enter Tryz.func62,Tryz.ntmps62
  go_wp2_with fail
  go_ret
  exact⟨rfl,rfl⟩
 ·have hq:((h:Int) == 0)=false:=by rw[beq_eq_false_iff_ne];omega
  by_cases hu:(h:Int)∈Tr.aY (mg m f) (p:Int)
  ·rw[if_pos (.inr hu)] at hr';rw[decide_eq_true hu] at hcon;subst hr';have HC:=zh hcon;clear H hw hcon hr hu hz
   go_enter Tryz.func62,Tryz.ntmps62
   go_wp2_with fail;refine HC.out.mono ?_;rintro e w2 ⟨rfl,hw2⟩;obtain rfl:=hw2.symm;go_wp2_with fail
   go_ret
   exact⟨rfl,rfl⟩
  ·rw[if_neg (fun x=>x.elim hz hu)] at hr';rw[decide_eq_false hu] at hcon;have HC:=zh hcon;clear hcon hu hz;by_cases hk2:(f p).kind=2
   ·rw[if_pos hk2] at hr';rw[hk2] at cp;subst hr';clear H hw hr hk2
    go_enter Tryz.func62,Tryz.ntmps62
    go_wp2_with fail;refine HC.out.mono ?_;rintro e w2 ⟨rfl,hw2⟩;obtain rfl:=hw2.symm;go_wp2_with fail
    go_ret
    exact⟨rfl,rfl⟩
   ·rw[if_neg hk2] at hr';obtain⟨kp,hkp⟩:=eX ((f p).kind)
    rw[hkp] at cp hk2;have abZ:(kp == 2)=false:=by simpa using hk2
    by_cases hpz:p=0
    ·have hpq:((p:Int) != 0)=false:=by rw[hpz];rfl
     by_cases hk3:(f h).kind=3
     ·rw[if_pos (.inr hk3)] at hr';rw[hk3] at ch;subst hr';clear H hw hr hk2 hk3 hkp hpz
      go_enter Tryz.func62,Tryz.ntmps62
      go_wp2_with fail;refine HC.out.mono ?_;rintro e w2 ⟨rfl,hw2⟩;obtain rfl:=hw2.symm;go_wp2_with fail
      go_ret
      exact⟨rfl,rfl⟩
     ·rw[if_neg (fun x=>x.elim (fun e=>e hpz) hk3)] at hr';obtain⟨kh,hkh⟩:=eX ((f h).kind)
      rw[hkh] at ch hk3 hr';have ab0:(kh == 3)=false:=by simpa using hk3
      have hm0:0<m:=by omega
      obtain⟨g3,e3,_,_,_,_,_,c5,_⟩:=H.read hm0;obtain rfl:g=g3:=by injection e3 with e3;injection e3
      have hkn:=H.kn hm0;have hle:=lS hw hm0 Jw;obtain⟨n,hn⟩:=eX ((f 0).kids.length)
      rw[hkn,hn] at c5;rw[hn] at hle;have c5':w.cell? ⟨g,5,none⟩=some (.slice (f 0).k.a n (f 0).k.c):=by have:=c5;rwa [Nat.zero_mul,Nat.zero_add] at this
      have HH:=zh H;have HW:=zh hw;have HR:=zh hr';have HN:=zh hn;have HG:=zh Jw;clear H hw hr hr' hn hk2 hk3 hkp hpz hkn c5 Jw
      go_enter Tryz.func62,Tryz.ntmps62
      go_wp2_with fail;refine HC.out.mono ?_;rintro e w2 ⟨rfl,hw2⟩;obtain rfl:=hw2.symm;go_wp2_with fail
      go_loopw [7,8] (fun v u wr=>∃ j:Nat,v=.int .i64 (j:Int)∧j≤n∧Hid (((f 0).kids.take j).any (fun k=>k != (h:Int) && (f k.toNat).kind == 2 && kh == 2)=false)∧wr=w) (fun v _ _=>n - (intOf v).toNat)
      case atStart=>exact⟨0,rfl,Nat.zero_le _,zh (by simp),rfl⟩
      case round=>
       obtain⟨j,rfl,hj,HT,rfl⟩:=hrel;have j0:(0:Int)≤(j:Int):=by omega
       by_cases hjn:j<n
       ·have j1:(j:Int)<(n:Int):=by omega
        obtain⟨k,hk⟩:∃ k,(f 0).kids[j]?=some k:=⟨(f 0).kids[j]'(by rw[HN.out];exact hjn),by simp⟩
        obtain⟨ga,o,hA,ck⟩:=HH.out.kid hm0 hk;rw[hA] at c5';obtain⟨i',hki,hi',_⟩:=Live.kid HW.out hm0 HG.out (List.mem_of_getElem? hk);subst hki;obtain⟨g4,e4,Y4,_⟩:=HH.out.read hi';obtain rfl:g=g4:=by injection e4 with e4;injection e4
        have i0:(0:Int)≤(i':Int):=by omega
        have i1:(i':Int)<(m:Int):=by omega
        have htk:∀ b,((i':Int) != (h:Int) && (f i').kind == 2 && kh == 2)=b→(((f 0).kids.take (j+1)).any fun k=>k != (h:Int) && (f k.toNat).kind == 2 && kh == 2)=b:=fun b e=>by
         rw[List.take_add_one,hk,List.any_append,HT.out];simpa using e
        have hfull:∀ l,(f 0).kids=(f 0).kids.take (j+1)++l→(((f 0).kids.take (j+1)).any fun k=>k != (h:Int) && (f k.toNat).kind == 2 && kh == 2)=true→r=false:=fun l e ht=>by
         rw[←HR.out,e,List.any_append,ht];rfl
        obtain⟨kk,hkk⟩:=eX ((f i').kind)
        rw[hkk] at Y4 htk;have Tw:=zh htk;have HF:=zh (hfull _ (List.take_append_drop (j+1) _).symm);clear hk hA htk hfull hkk;by_cases a1:(i':Int)=(h:Int)
        ·have b1:((i':Int) != (h:Int))=false:=by simpa using a1
         have IE:=zh (Tw.out false (by rw[b1];rfl));clear a1;go_wp2_with fail
         go_roundw
         case rel=>exact⟨j+1,by go_num,by omega,IE,trivial⟩
         case measure=>simp[intOf];omega
        ·have b1:((i':Int) != (h:Int))=true:=by simpa using a1
         by_cases a2:kk=2
         ·have b2:(kk == 2)=true:=by simpa using a2
          by_cases a3:kh=2
          ·have b3:(kh == 2)=true:=by simpa using a3
           have hrf:r=false:=HF.out (Tw.out true (by rw[b1,b2,b3];rfl));subst hrf;clear a1 a2 a3;go_wp2_with fail
           go_ret
           exact⟨rfl,rfl⟩
          ·have b3:(kh == 2)=false:=by simpa using a3
           have IE:=zh (Tw.out false (by rw[b3];simp));clear a1 a2 a3;go_wp2_with fail
           go_roundw
           case rel=>exact⟨j+1,by go_num,by omega,IE,trivial⟩
           case measure=>simp[intOf];omega
         ·have b2:(kk == 2)=false:=by simpa using a2
          have IE:=zh (Tw.out false (by rw[b2];simp));clear a1 a2;go_wp2_with fail
          go_roundw
          case rel=>exact⟨j+1,by go_num,by omega,IE,trivial⟩
          case measure=>simp[intOf];omega
       ·have sQ:j=n:=by omega
        subst sQ;have hrt:r=true:=by
         have h2:=HT.out;rw[List.take_of_length_le (by rw[HN.out];exact Nat.le_refl _)] at h2;rw[←HR.out,h2];rfl
        subst hrt;go_wp2_with fail
        go_ret
        exact⟨rfl,rfl⟩
    ·have hpq:((p:Int) != 0)=true:=by rw[bne_iff_ne];omega
     rw[if_pos (.inl hpz)] at hr';subst hr';clear H hw hr hk2 hkp hpz
     go_enter Tryz.func62,Tryz.ntmps62
     go_wp2_with fail;refine HC.out.mono ?_;rintro e w2 ⟨rfl,hw2⟩;obtain rfl:=hw2.symm;go_wp2_with fail
     go_ret
     exact⟨rfl,rfl⟩
end
section
open Go.RowKit
theorem sD:(Tryz.prog.info? 73).map (fun i=>(i.zero,i.size,i.bytes))=some (some (.agg #[.string ⟨#[]⟩,.string ⟨#[]⟩]),2,32):=by kernel_rfl
abbrev AR (w:World) (base:Nat) (v:Value) (l:List (ByteArray×ByteArray)):Prop:=TR w base 73 2 v l.length (fJ l)
def AT (w:World) (g:Tr.G) (av:Int→Tr.Sl):Prop:=∀ h n,g h=some n→AR w 0 (av h).v n.attrs
section
variable {base B n live:Nat} {b s root:Int} {vs vf:Value} {R:Int→Option Tr.Nd} {fr:List Nat} {w w1 w':World} {g g':Tr.G} {av iR:Int→Tr.Sl}
theorem TV.PV {b2 size m:Nat} {e:TypeId} {v:Value} {xs:List Value} (hM:TV base w B b s vs n R vf fr live root) (h:TR w b2 e size v m xs) (h1:e≠66) (h2:e≠131) (h3:e≠3):∀ k,v.ownBlock=some k→¬ aD B vs vf k:=by
 rintro k hk (rfl | hx | hx)
 ·exact h.unlike hM.var h1 hk
 ·exact dR h hM.row h2 k hx hk
 ·exact dR h hM.free h3 k hx hk
theorem TR.nQ {b2 size m:Nat} {e:TypeId} {v:Value} {xs:List Value} {F':Nat→Prop} (h:TR w b2 e size v m xs) (hM:TV base w B b s vs n R vf fr live root) (st:aB w w' (aD B vs vf) F') (h1:e≠66) (h2:e≠131) (h3:e≠3):TR w' b2 e size v m xs:=
 h.turns st.1 (hM.PV h h1 h2 h3)
theorem AT.step {F':Nat→Prop} (h:AT w g av) (hM:TV base w B b s vs n R vf fr live root) (st:aB w w' (aD B vs vf) F'):AT w' g av:=
 fun x m e=>(h x m e).nQ hM st (by decide) (by decide) (by decide)
theorem AT.below (h:AT w g av) (hb:Below w.heap.size w w'):AT w' g av:=fun x m e=>(h x m e).below hb
theorem AT.turns {S:Nat→Prop} (h:AT w g av) (ht:Turns S w w') (hn:∀ x m,g x=some m→∀ k,(av x).v.ownBlock=some k→¬ S k):AT w' g av:=fun x m e=>(h x m e).turns ht (hn x m e)
theorem AT.same (h:AT w g av) (hs:∀ x m',g' x=some m'→∃ m,g x=some m∧m.attrs=m'.attrs):AT w g' av:=fun x m' e=>by
 obtain⟨m,e1,e2⟩:=hs x m' e;rw[←e2];exact h x m e1
theorem AT.put {h:Int} {sl:Tr.Sl} {u:Tr.GN→Tr.GN} (ha:AT w g av) (hr:∀ m,g h=some m→AR w 0 sl.v (u m).attrs):AT w (Tr.cO g h u) (Tr.eZ av h sl):=fun x m' e=>by
 unfold Tr.cO at e;by_cases hx:x=h
 ·subst hx;rw[if_pos rfl] at e;cases em:g x with
  | none=>rw[em] at e;cases e
  | some m=>rw[em] at e;obtain rfl:=Option.some.inj e;rw[Tr.lK];exact hr m em
 ·rw[if_neg hx] at e;rw[Tr.vk hx];exact ha x m' e
end
theorem qK (v:Value) (l:List (ByteArray×ByteArray)) (w:World) (h:AR w 0 v l) (hl:l.length≤1000):
  Calls Tryz.prog 70 #[v] w fun e w'=>∃ v',e=.returned v'∧AR w' w.heap.size v' l∧Below w.heap.size w w':=by
 obtain⟨i0,hi0,hz0,hz1,hz2⟩:=info_parts sD;obtain⟨A,c,rfl⟩:=h.form;have hcmp:∀ (w:World) (a:Option Addr) (n c:Nat),(binOp .eql 71 (.slice a n c) (.slice none 0 0)).run Tryz.prog w=.ok (.bool a.isNone) w:=fun w a n c=>Lib.run_eql_slice_nil w _ _ a n c 0 0 Tryz.underlying71
 go_enter Tryz.func70,Tryz.ntmps70
 cases A with
 | none=>
  have hn:l.length=0:=by
   rcases h.addr with ⟨_,hx,_⟩ | ⟨g,off,hv⟩
   ·exact hx
   ·cases hv
  have hx:l=[]:=List.eq_nil_of_length_eq_zero hn;subst hx;clear hn h;go_wp2_with fail
  go_ret
  exact⟨_,rfl,TR.nil _ _ _ _,Below.refl _ w⟩
 | some a=>
  have e1:TR (w.alloc (.cells #[] 73)) w.heap.size 73 2 (.slice (some ⟨w.heap.size,0,none⟩) 0 0) 0 []:=by
   have h:=World.ownsRow_lit (base:=w.heap.size) (e:=73) (size:=2) w #[] 0 (Nat.le_refl _) (Nat.zero_le _) rfl;exact .jQ (by simpa using h)
  have hb1:=(Below.refl _ w).alloc (Nat.le_refl _) (.cells #[] 73);have s1:=(h.below hb1).source
  go_wp2_with (at_builtin;refine dM rfl _ _ 71 rfl w.heap.size 73 i0 (.agg #[.string ⟨#[]⟩,.string ⟨#[]⟩]) 2 32 Tryz.underlying71 hi0 hz0 hz1 hz2 rfl (by decide) _ 0 [] rfl e1 _ l.length (fJ l) rfl (qG l) s1 (gV l) ?c3 ?c4 hb1.size ?_)
  case c3=>unfold maxLen;omega
  case c4=>omega
  intro v2 w2 o2 g2 _;have hb2:Below w.heap.size w w2:=hb1.grown g2 hb1.size (fun j hj=>by simp[Value.ownBlock] at hj;omega);(try simp only[Nat.zero_add,List.nil_append] at o2);go_wp2_with fail
  go_ret
  exact⟨_,rfl,o2,hb2⟩
theorem Xg {v:Value} {w:World} {base size n:Nat} {e:TypeId} {xs:List Value} (h:TR w base e size v n xs):∃ sl:Tr.Sl,v=sl.v∧sl.n=n:=by
 obtain⟨A,c,rfl⟩:=h.form;exact⟨⟨A,n,c⟩,rfl,rfl⟩
end
section
open Go.RowKit
def fH (g:Tr.G) (h:Int):Int:=match g h with | none=>6 | some n=>if n.kind=2 then 0 else 10
theorem jd (base B:Nat) (b s root h:Int) (live n:Nat) (g:Tr.G) (av:Int→Tr.Sl) (fr:List Nat) (vs vf:Value) (w:World) (hm:TV base w B b s vs n (Tr.raw g av) vf fr live root) (hS:Sound b s n (Tr.raw g av) fr live) (hh:kM h) (hk:∀ x m,g x=some m→m.kind≠0):
  Calls Tryz.prog 68 #[.pointer (some ⟨B,0,none⟩),.int .i64 h] w fun e w'=>e=.returned (.int .i64 (fH g h))∧Below w.heap.size w w':=by
 have hA:=jW base B b s root h live n _ fr vs vf w hm hS hh;cases eg:g h with
 | none=>
  rw[Tr.bG eg] at hA;have hr:fH g h=6:=by unfold fH;rw[eg]
  rw[hr]
  go_enter Tryz.func68,Tryz.ntmps68
  go_wp2_with fail;refine hA.mono ?_;rintro e w1 ⟨gb,o,rfl,hnp,hb⟩;have c0:w1.cell? ⟨gb,o,none⟩=some (.int .i64 0):=hnp.cells.1;clear hm hA hnp;go_wp2_with fail
  go_ret
  exact⟨rfl,hb⟩
 | some m=>
  rw[Tr.aj eg] at hA;have hk0:=hk h m eg;have q0:(m.kind == 0)=false:=bZ hk0;by_cases hk2:m.kind=2
  ·have q2:(m.kind == 2)=true:=Cw hk2;have hr:fH g h=0:=by unfold fH;rw[eg];exact if_pos hk2
   rw[hr]
   go_enter Tryz.func68,Tryz.ntmps68
   go_wp2_with fail;refine hA.mono ?_;rintro e w1 ⟨gb,o,rfl,hnp,hb⟩;have c0:w1.cell? ⟨gb,o,none⟩=some (.int .i64 m.kind):=hnp.cells.1;clear hm hA hnp hk2;go_wp2_with fail
   go_ret
   exact⟨rfl,hb⟩
  ·have q2:(m.kind == 2)=false:=bZ hk2;have hr:fH g h=10:=by unfold fH;rw[eg];exact if_neg hk2
   rw[hr]
   go_enter Tryz.func68,Tryz.ntmps68
   go_wp2_with fail;refine hA.mono ?_;rintro e w1 ⟨gb,o,rfl,hnp,hb⟩;have c0:w1.cell? ⟨gb,o,none⟩=some (.int .i64 m.kind):=hnp.cells.1;clear hm hA hnp hk2;go_wp2_with fail
   go_ret
   exact⟨rfl,hb⟩
def pG (l:List (ByteArray×ByteArray)) (nm:ByteArray):Nat:=l.findIdx fun p=>p.1.toList == nm.toList
def yI (l:List (ByteArray×ByteArray)) (nm:ByteArray):Int:=if pG l nm<l.length then (pG l nm:Nat) else -1
theorem PW (l:List (ByteArray×ByteArray)) (nm:ByteArray):pG l nm≤l.length:=List.findIdx_le_length
theorem Hl {l:List (ByteArray×ByteArray)} {nm:ByteArray} {k:Nat} {p:ByteArray×ByteArray} (hp:l[k]?=some p) (hk:k≤pG l nm):((p.1.toList == nm.toList)=true→pG l nm=k)∧((p.1.toList == nm.toList)=false→k+1≤pG l nm):=by
 obtain⟨hlt,he⟩:=List.getElem?_eq_some_iff.1 hp;constructor
 ·intro h;have:pG l nm≤k:=by
   refine Nat.le_of_not_lt fun hc=>?_;have:=List.not_of_lt_findIdx (p:=fun p:ByteArray×ByteArray=>p.1.toList == nm.toList) (xs:=l) hc;rw[he] at this;rw[h] at this;exact absurd this (by simp)
  omega
 ·intro h;by_cases e:k=pG l nm
  ·exfalso;have hlt2:l.findIdx (fun p=>p.1.toList == nm.toList)<l.length:=by have e':k=l.findIdx (fun p=>p.1.toList == nm.toList):=e;omega
   have:=List.findIdx_getElem (p:=fun p:ByteArray×ByteArray=>p.1.toList == nm.toList) (xs:=l) (w:=hlt2);have e2:l[l.findIdx (fun p=>p.1.toList == nm.toList)]=p:=by
    have:l.findIdx (fun p=>p.1.toList == nm.toList)=k:=e.symm;simp only[this];exact he
   rw[e2] at this;rw[h] at this;cases this
  ·omega
theorem AR.at {w:World} {base:Nat} {A:Option Addr} {c n:Nat} {l:List (ByteArray×ByteArray)} (h:TR w base 73 2 (.slice A n c) l.length (fJ l)) {k:Nat} {p:ByteArray×ByteArray} (hp:l[k]?=some p):
  ∃ g o,A=some ⟨g,o,none⟩∧n=l.length∧w.cell? ⟨g,o+k*2,none⟩=some (.string p.1)∧w.cell? ⟨g,o+k*2+1,none⟩=some (.string p.2):=by
 have hlt:=(List.getElem?_eq_some_iff.1 hp).1;obtain⟨A',c',e⟩:=h.form;injection e with e1 e2 e3;subst e1 e2 e3;obtain⟨g,o,hA,_,_,hc,_⟩:=h.cells (by omega);exact⟨g,o,hA,rfl,hc _ _ (by omega) (jk l k p hp).1,by rw[Nat.add_assoc];exact hc _ _ (by omega) (jk l k p hp).2⟩
theorem Nc (a v nm:ByteArray) (nb:Nat) (w:World) (hb:w.cell? ⟨nb,0,none⟩=some (.string nm)) (hlt:nb<w.heap.size):
  Calls Tryz.prog 102 #[.agg #[.string a,.string v],.pointer (some ⟨nb,0,none⟩)] w fun e w'=>e=.returned (.bool (a.toList == nm.toList))∧Below w.heap.size w w':=by
 have hB:=(Below.refl _ w).alloc (Nat.le_refl _) (.cells #[.string a,.string v] 73);have c1:=hB.cell (p:=⟨nb,0,none⟩) hlt;rw[hb] at c1
 go_enter Tryz.func102,Tryz.ntmps102
 go_wp2_with fail
 go_ret
 exact⟨rfl,hB⟩
theorem Nf (v:Value) (l:List (ByteArray×ByteArray)) (nm:ByteArray) (nb:Nat) (w:World) (h:AR w 0 v l) (hl:l.length≤1000) (hb:w.cell? ⟨nb,0,none⟩=some (.string nm)) (hlt:nb<w.heap.size):
  Calls Tryz.prog 101 #[v,.func (.func 102) #[] #[.pointer (some ⟨nb,0,none⟩)]] w fun e w'=>e=.returned (.int .i64 (yI l nm))∧Below w.heap.size w w':=by
 obtain⟨A,c,rfl⟩:=h.form;obtain⟨n,hn⟩:=eX (l.length)
 have hle:=PW l nm;have HH:=zh h;have HI:Hid (yI l nm=if pG l nm<l.length then ((pG l nm:Nat):Int) else -1):=zh rfl;rw[hn] at hl;have HN:=zh hn;rw[hn];clear h hn
 go_enter Tryz.func101,Tryz.ntmps101
 go_wp2_with fail
 go_loopw [8] (fun v wr=>∃ k:Nat,v=.int .i64 k∧k≤n∧Hid (k≤pG l nm)∧Below w.heap.size w wr) (fun v _=>n - (intOf v).toNat)
 case atStart=>exact⟨0,rfl,Nat.zero_le _,zh (Nat.zero_le _),Below.refl _ _⟩
 case round=>
  obtain⟨k,rfl,hkn,H2,hbw⟩:=hrel;by_cases hk:k<n
  ·have q1:(k:Int)<(n:Int):=by omega
   have q0:(0:Int)≤(k:Int):=by omega
   obtain⟨p,hp⟩:∃ p,l[k]?=some p:=⟨l[k]'(by rw[HN.out];exact hk),by simp⟩
   obtain⟨g,o,rfl,_,c1,c2⟩:=AR.at (HH.out.below hbw) hp;have HS:=zh (Hl (nm:=nm) hp H2.out);have c3:=hbw.cell (p:=⟨nb,0,none⟩) hlt;rw[hb] at c3;have HC:=zh (Nc p.1 p.2 nm nb wr c3 (Nat.lt_of_lt_of_le hlt hbw.size));clear hp;go_wp2_with fail;refine HC.out.mono ?_;rintro e w2 ⟨rfl,hb2⟩;have hb3:=hbw.trans (hb2.mono hbw.size);clear HC c1 c2 c3 hbw hb2;cases he:(p.1.toList == nm.toList) with
   | true=>
    have hr:yI l nm=(k:Int):=by rw[HI.out,HS.out.1 he,if_pos (by rw[HN.out];exact hk)]
    have HR:=zh hr;clear hr he;go_wp2_with fail
    go_ret
    exact⟨kD HR.out.symm,hb3⟩
   | false=>
    have HR:=zh (HS.out.2 he);clear he;go_wp2_with fail
    go_roundw
    case rel=>exact⟨k+1,by go_num,by omega,zh HR.out,hb3⟩
    case measure=>simp[intOf];omega
  ·have hkn':k=n:=by omega
   subst hkn';have hr:yI l nm = -1:=by rw[HI.out,if_neg (by rw[HN.out];have:=H2.out;omega)]
   have HR:=zh hr;have q1:¬ (k:Int)<(k:Int):=by omega
   clear hr;go_wp2_with fail
   go_ret
   exact⟨kD HR.out.symm,hbw⟩
theorem oC (v:Value) (l:List (ByteArray×ByteArray)) (nm:ByteArray) (w:World) (h:AR w 0 v l) (hl:l.length≤1000):
  Calls Tryz.prog 71 #[v,.string nm] w fun e w'=>e=.returned (.int .i64 (yI l nm))∧Below w.heap.size w w':=by
 have hB:=(Below.refl _ w).alloc (Nat.le_refl _) (.cells #[.string nm] 9);have HC:=zh (Nf v l nm w.heap.size (w.alloc (.cells #[.string nm] 9)) (h.below hB) hl ((Whole.new w #[.string nm] 9).cell 0) (by simp));clear h
 go_enter Tryz.func71,Tryz.ntmps71
 go_wp2_with fail;refine HC.out.mono ?_;rintro e w2 ⟨rfl,hb2⟩;have HB:=zh (hB.trans (hb2.mono hB.size));clear hB hb2 HC;go_wp2_with fail
 go_ret
 exact⟨rfl,HB.out⟩
end
section
open Go Go.RowKit
section
variable {m:Nat} {f:Nat→RS}
theorem abr {m m':Nat} {f f':Nat→RS} (hneg:∀ x:Int,x<0→mg m f x=mg m' f' x) (h:∀ i:Nat,mg m f i=mg m' f' i):mg m f=mg m' f':=by
 funext x;by_cases hx:x<0
 ·exact hneg x hx
 ·obtain⟨i,rfl⟩:=Int.eq_ofNat_of_zero_le (by omega:0≤x);exact h i
theorem jC (m:Nat) (f:Nat→RS) (i:Nat):mg m f (i:Int)=if i<m∧(f i).gone=false then some (lH (f i)) else none:=by
 unfold mg;by_cases h:i<m∧(f i).gone=false
 ·rw[if_pos ⟨by omega,by simpa using h.1,by simpa using h.2⟩,if_pos h];simp
 ·rw[if_neg h,if_neg];rintro⟨_,h1,h2⟩;exact h ⟨by simpa using h1,by simpa using h2⟩
theorem VN {i:Nat} (hi:i<m) (hg:(f i).gone=false) {u:RS→RS} {U:Tr.GN→Tr.GN} (hgo:(u (f i)).gone=false) (h:lH (u (f i))=U (lH (f i))):mg m (aV f i u)=Tr.cO (mg m f) i U:=by
 funext x;unfold Tr.cO;by_cases hx:x<0
 ·rw[if_neg (by omega),lX hx,lX hx]
 ·obtain⟨j,rfl⟩:=Int.eq_ofNat_of_zero_le (by omega:0≤x);rw[jC];by_cases e:j=i
  ·subst e;rw[if_pos rfl,ku,if_pos ⟨hi,hgo⟩,aP hi hg,h];rfl
  ·rw[if_neg (c:=(j:Int)=(i:Int)) (by omega),iW e,←jC]
theorem OO {i p:Nat} {sl:Tr.Sl} (hi:i<m) (hg:(f i).gone=false) (hp:p<m) (hpg:(f p).gone=false) (hpa:(f i).pa=(p:Int)) (hpi:p≠i):
  mg m (aV (aV f p fun n=>{ n with k:=sl,kids:=n.kids.erase (i:Int) }) i fun n=>{ n with pa := -1 })=Tr.ug (mg m f) i:=by
 funext x;unfold Tr.ug;by_cases hx:x<0
 ·rw[if_neg (by omega),lX hx]
  split
  ·rw[lX hx];rfl
  ·rw[lX hx]
 ·obtain⟨j,rfl⟩:=Int.eq_ofNat_of_zero_le (by omega:0≤x);have hpo:Tr.dG (mg m f) (i:Int)=(p:Int):=by rw[Tr.aL (aP hi hg)];exact hpa
  rw[jC,hpo];by_cases e:j=i
  ·subst e;rw[if_pos (c:=(j:Int)=(j:Int)) rfl,ku,iW (fun e=>hpi e.symm),if_pos ⟨hi,hg⟩,aP hi hg];rfl
  ·rw[if_neg (c:=(j:Int)=(i:Int)) (by omega),iW e];by_cases e2:j=p
   ·subst e2;rw[ku,if_pos ⟨hp,hpg⟩,if_pos rfl,aP hp hpg];rfl
   ·rw[iW e2,if_neg (c:=(j:Int)=(p:Int)) (by omega),←jC]
theorem Rn {i p:Nat} {sl:Tr.Sl} {c:Int} (hi:i<m) (hg:(f i).gone=false) (hp:p<m) (hpg:(f p).gone=false) (hpi:p≠i):
  mg m (aV (aV f p fun n=>{ n with k:=sl,kids:=Tr.iw n.kids c (i:Int) }) i fun n=>{ n with pa:=p })=Tr.lI (mg m f) p i c:=by
 funext x;unfold Tr.lI;by_cases hx:x<0
 ·rw[if_neg (by omega),lX hx,if_neg (by omega),lX hx]
 ·obtain⟨j,rfl⟩:=Int.eq_ofNat_of_zero_le (by omega:0≤x);rw[jC];by_cases e:j=i
  ·subst e;rw[if_pos (c:=(j:Int)=(j:Int)) rfl,ku,iW (fun e=>hpi e.symm),if_pos ⟨hi,hg⟩,aP hi hg];rfl
  ·rw[if_neg (c:=(j:Int)=(i:Int)) (by omega),iW e];by_cases e2:j=p
   ·subst e2;rw[ku,if_pos ⟨hp,hpg⟩,if_pos rfl,aP hp hpg];rfl
   ·rw[iW e2,if_neg (c:=(j:Int)=(p:Int)) (by omega),←jC]
theorem R7 {x:RS} (hx:x.gone=false):mg (m+1) (iD m f x)=Tr.dI (mg m f) m (lH x):=by
 funext y;unfold Tr.dI;by_cases hy:y<0
 ·rw[if_neg (by omega),lX hy,lX hy]
 ·obtain⟨j,rfl⟩:=Int.eq_ofNat_of_zero_le (by omega:0≤y);rw[jC];by_cases e:j=m
  ·subst e;rw[if_pos rfl,dQ,if_pos ⟨by omega,hx⟩]
  ·rw[if_neg (c:=(j:Int)=(m:Int)) (by omega),jC];by_cases h:j<m
   ·rw[eD h];by_cases hg:(f j).gone=false
    ·rw[if_pos ⟨by omega,hg⟩,if_pos ⟨h,hg⟩]
    ·rw[if_neg (fun e=>hg e.2),if_neg (fun e=>hg e.2)]
   ·rw[if_neg (fun e=>by omega),if_neg (fun e=>h e.1)]
end
end
section
namespace Tr
open Go Go.RowKit
def oL (R:Int→Option Nd) (l:List Int):Int→Option Nd:=fun x=>if x∈l then none else R x
def iG (g:G) (h:Int):G:=fun x=>if x∈ak g h then none else g x
theorem Dj (R:Int→Option Nd):oL R []=R:=by funext x;unfold oL;simp
theorem J6 (R:Int→Option Nd) (l:List Int) (h:Int):oL R (l++[h])=pW (oL R l) h none:=by
 funext x;unfold oL pW;dsimp only;by_cases e:x=h
 ·rw[if_pos e,if_pos (by rw[e];simp)]
 ·rw[if_neg e];by_cases hl:x∈l
  ·rw[if_pos hl,if_pos (by simp[hl])]
  ·rw[if_neg hl,if_neg (by simp[hl,e])]
theorem Ng {R:Int→Option Nd} {l:List Int} {x:Int} (h:x∉l):oL R l x=R x:=if_neg h
section
variable {z:Int} {g:G} {h:Int} {n:GN}
theorem fP {x:Int} (hx:x∉ak g h):iG g h x=g x:=if_neg hx
theorem Ho {x:Int} (hx:x∈ak g h):iG g h x=none:=if_pos hx
theorem jg {x:Int} {m:GN} (e:iG g h x=some m):g x=some m∧x∉ak g h:=by
 unfold iG at e
 split at e
 ·cases e
 ·rename_i hx;exact⟨e,hx⟩
theorem WF.zf (w:WF z g) {x:Int} {m:GN} (e:g x=some m) (hx:x∉ak g h):m.pa∉ak g h:=fun hm=>by
 refine hx ((w.fE h x).2 ?_);rw[w.bC e];exact List.mem_cons_of_mem _ ((w.fE h _).1 hm)
theorem WF.Hq (w:WF z g) (eh:g h=some n) (hp:n.pa=z) {x k:Int} {m:GN} (e:g x=some m) (hx:x∉ak g h) (hk:k∈m.kids):k∉ak g h:=fun hm=>by
 have h1:=(w.fE h k).1 hm;rw[w.jA e hk,List.mem_cons] at h1;rcases h1 with rfl | h1
 ·obtain⟨m',e1,e2⟩:=w.down x m _ e hk;rw[eh] at e1;obtain rfl:=Option.some.inj e1;rw[←e2,hp,w.zero] at e;cases e
 ·exact hx ((w.fE h x).2 h1)
theorem WF.R8 (w:WF z g) {x:Int} {l:List Int} (u:Up g x l) (hx:x∉ak g h):Up (iG g h) x l:=by
 induction u with
 | out e=>exact .out ((fP hx).trans e)
 | node e u ih=>exact .node ((fP hx).trans e) (ih (w.zf e hx))
theorem WF.drop (w:WF z g) (eh:g h=some n) (hp:n.pa=z):WF z (iG g h) where
 zero:=by rw[fP (w.xw h)];exact w.zero
 up x m e hm:=by
  obtain⟨e1,hx⟩:=jg e;obtain⟨p,h1,h2⟩:=w.up x m e1 hm;exact⟨p,(fP (w.zf e1 hx)).trans h1,h2⟩
 down x m k e hk:=by
  obtain⟨e1,hx⟩:=jg e;obtain⟨p,h1,h2⟩:=w.down x m k e1 hk;exact⟨p,(fP (w.Hq eh hp e1 hx hk)).trans h1,h2⟩
 nodup x m e:=w.nodup x m (jg e).1
 chain x:=by
  by_cases hx:x∈ak g h
  ·exact⟨[],.out (Ho hx),by simp⟩
  ·obtain⟨l,u,hl⟩:=w.chain x;exact⟨l,w.R8 u hx,hl⟩
theorem WF.PX (w:WF z g) (hz:z=0) (eh:g h=some n) (hp:n.pa=z) (av:Int→Sl):oL (raw g av) (ak g h)=raw (iG g h) av:=by
 funext x;unfold oL;by_cases hx:x∈ak g h
 ·rw[if_pos hx,bG (Ho hx)]
 ·rw[if_neg hx];cases e:g x with
  | none=>rw[bG e,bG ((fP hx).trans e)]
  | some m=>
   rw[aj e,aj ((fP hx).trans e)];have hk:au (iG g h) m.pa=au g m.pa:=by unfold au;rw[fP (w.zf e hx)]
   unfold fA;rw[hk]
end
theorem Im.drop {ρ:Int→Int} {a g:G} (h:Im ρ a g) (w:WF 0 g) {i:Int} {n:GN} (ei:a i=some n) (hp:n.pa = -1):Im ρ (iG a i) (iG g (ρ i)):=by
 have wa:=h.pull w;have hwk:ak g (ρ i)=(ak a i).map ρ:=h.walk w i (bR ei);have hl:∀ k∈ak a i,(a k).isSome:=fun k hk=>wa.jI hk;have hout:∀ x,(a x).isSome→x∉ak a i→ρ x∉ak g (ρ i):=fun x hx hn hm=>hn (by rw[hwk] at hm;exact (h.mem hl hx).1 hm);have hlive:∀ x,(iG a i x).isSome→(a x).isSome∧x∉ak a i:=fun x hx=>by
  obtain⟨m,e⟩:=Option.isSome_iff_exists.1 hx;obtain⟨e1,e2⟩:=jg e;exact⟨bR e1,e2⟩
 refine⟨h.zero,fun x m e=>?_,fun y hy=>?_,fun x y hx hy e=>h.inj x y (hlive x hx).1 (hlive y hy).1 e,fun x hx=>h.nz x (hlive x hx).1,(fP (wa.xw i)).trans h.neg,fun x m e=>?_,fun x m e k hk=>?_⟩
 ·obtain⟨e1,e2⟩:=jg e;rw[fP (hout x (bR e1) e2)];exact h.node x m e1
 ·obtain⟨m,e⟩:=Option.isSome_iff_exists.1 hy;obtain⟨e1,e2⟩:=jg e;obtain⟨x,hx,rfl⟩:=h.dom y (bR e1);refine⟨x,?_,rfl⟩;rw[fP (fun hm=>e2 (by rw[hwk];exact List.mem_map.2 ⟨x,hm,rfl⟩))];exact hx
 ·obtain⟨e1,e2⟩:=jg e;rcases h.pa x m e1 with h1 | h1
  ·exact .inl h1
  ·exact .inr (by rw[fP (wa.zf e1 e2)];exact h1)
 ·obtain⟨e1,e2⟩:=jg e;rw[fP (wa.Hq ei hp e1 e2 hk)];exact h.kids x m e1 k hk
end Tr
end
section
open Go.RowKit
abbrev ndW (d:Tr.Nd) (v:Value):Value:=.agg #[.int .i64 d.kind,.string d.name,v,.string d.data,.int .i64 d.pa,.int .i64 d.fi,.int .i64 d.la,.int .i64 d.pr,.int .i64 d.ne]
theorem Ct (base B:Nat) (b s root h:Int) (live n:Nat) (R:Int→Option Tr.Nd) (fr:List Nat) (vs vf:Value) (d:Tr.Nd) (l:List (ByteArray×ByteArray)) (w:World) (hM:TV base w B b s vs n R vf fr live root) (hS:Sound b s n R fr live) (hh:kM h) (hd:(R h).getD Tr.Bl=d) (har:AR w 0 (.slice d.av.a d.av.n d.av.c) l) (hl:l.length≤1000):
  Calls Tryz.prog 122 #[.pointer (some ⟨B,0,none⟩),.int .i64 h] w fun e w'=>∃ v,e=.returned (.tuple #[ndW d v,.bool (R h).isSome])∧AR w' w.heap.size v l∧Below w.heap.size w w':=by
 obtain⟨w1,hw1⟩:=eX (w.alloc (.cells #[.int .i64 0,.string ⟨#[]⟩,.slice none 0 0,.string ⟨#[]⟩,.int .i64 0,.int .i64 0,.int .i64 0,.int .i64 0,.int .i64 0] 97))
 have hX1:Whole w1 w.heap.size #[.int .i64 0,.string ⟨#[]⟩,.slice none 0 0,.string ⟨#[]⟩,.int .i64 0,.int .i64 0,.int .i64 0,.int .i64 0,.int .i64 0] 97:=by rw[←hw1];exact Whole.new w _ _
 have hB1:Below w.heap.size w w1:=gU hw1;have hs1:w1.heap.size=w.heap.size+1:=by rw[←hw1];simp
 have hG:=N9 base B b s root h live n R fr vs vf w1 (hM.below hB1) hS hh;rw[hd] at hG;have Y5:=har.below hB1;obtain⟨q,hq⟩:=eX ((R h).isSome)
 rw[hq] at hG ⊢;clear hM hS har hd hq
 go_enter Tryz.func122,Tryz.ntmps122
 go_wp2_with fail;(try rw[hw1]);(try go_wp2_with fail);refine hG.mono ?_;rintro e w2 ⟨rfl,hb2⟩;have hX2:=hX1.below hb2 hX1.lt;have uf:=Y5.below hb2;have hB2:=hB1.trans (hb2.mono hB1.size);have hs2:=hb2.size;obtain⟨w3,hw3⟩:=eX (w2.alloc (.cells #[.int .i64 d.kind,.string d.name,.slice d.av.a d.av.n d.av.c,.string d.data,.int .i64 d.pa,.int .i64 d.fi,.int .i64 d.la,.int .i64 d.pr,.int .i64 d.ne] 97))
 have fM:Whole w3 w2.heap.size #[.int .i64 d.kind,.string d.name,.slice d.av.a d.av.n d.av.c,.string d.data,.int .i64 d.pa,.int .i64 d.fi,.int .i64 d.la,.int .i64 d.pr,.int .i64 d.ne] 97:=by rw[←hw3];exact Whole.new w2 _ _
 have Ua:Below w2.heap.size w2 w3:=gU hw3;have rQ:=Ua;have bJ:=hX2.below rQ hX2.lt;have F3:=uf.below rQ;have hs3:=rQ.size;have hl3:=fM.lt;have y0:w3.cell? ⟨w2.heap.size,0,none⟩=some (.int .i64 d.kind):=fM.cell 0;have y1:w3.cell? ⟨w2.heap.size,1,none⟩=some (.string d.name):=fM.cell 1;have y2:w3.cell? ⟨w2.heap.size,2,none⟩=some (.slice d.av.a d.av.n d.av.c):=fM.cell 2;have y3:w3.cell? ⟨w2.heap.size,3,none⟩=some (.string d.data):=fM.cell 3;have y4:w3.cell? ⟨w2.heap.size,4,none⟩=some (.int .i64 d.pa):=fM.cell 4;have y5:w3.cell? ⟨w2.heap.size,5,none⟩=some (.int .i64 d.fi):=fM.cell 5;have y6:w3.cell? ⟨w2.heap.size,6,none⟩=some (.int .i64 d.la):=fM.cell 6;have y7:w3.cell? ⟨w2.heap.size,7,none⟩=some (.int .i64 d.pr):=fM.cell 7;have y8:w3.cell? ⟨w2.heap.size,8,none⟩=some (.int .i64 d.ne):=fM.cell 8;have HCL:=zh (qK _ l w3 F3 hl);have fu:=zh bJ;have HY3:=zh fM;have HB3:=zh (hB2.trans (rQ.mono hB2.size));clear hG hX1 hX2 bJ fM Ua rQ Y5 uf F3 hB1 hB2 hb2;go_wp2_with fail;(try rw[hw3]);(try go_wp2_with fail);refine HCL.out.mono ?_;rintro e w4 ⟨v4,rfl,D7,hb4⟩;obtain⟨A4,c4,rfl⟩:=D7.form;have DX:=HY3.out.below hb4 hl3;have f4:=DX.free 2;have bB:=fu.out.below hb4 fu.out.lt;obtain⟨w5,fT⟩:=eX (w4.setCell ⟨w2.heap.size,2,none⟩ (.slice A4 l.length c4))
 have sK:Whole w5 w2.heap.size #[.int .i64 d.kind,.string d.name,.slice A4 l.length c4,.string d.data,.int .i64 d.pa,.int .i64 d.fi,.int .i64 d.la,.int .i64 d.pr,.int .i64 d.ne] 97:=by rw[←fT];exact DX.put 2 _
 have dU:Whole w5 w.heap.size #[.int .i64 0,.string ⟨#[]⟩,.slice none 0 0,.string ⟨#[]⟩,.int .i64 0,.int .i64 0,.int .i64 0,.int .i64 0,.int .i64 0] 97:=by rw[←fT];exact bB.other (by show w.heap.size≠w2.heap.size;omega) _
 have g5:w4.grownBy w5 (some w2.heap.size):=by rw[←fT];exact aO (ay (Below.refl w4.heap.size w4) _) _ _
 have ZN:w4.cell? ⟨w2.heap.size,0,none⟩=some (.int .i64 d.kind):=DX.cell 0;have ZO:w4.cell? ⟨w2.heap.size,1,none⟩=some (.string d.name):=DX.cell 1;have ZP:w4.cell? ⟨w2.heap.size,2,none⟩=some (.slice d.av.a d.av.n d.av.c):=DX.cell 2;have ZQ:w4.cell? ⟨w2.heap.size,3,none⟩=some (.string d.data):=DX.cell 3;have ZR:w4.cell? ⟨w2.heap.size,4,none⟩=some (.int .i64 d.pa):=DX.cell 4;have ZT:w4.cell? ⟨w2.heap.size,5,none⟩=some (.int .i64 d.fi):=DX.cell 5;have ZU:w4.cell? ⟨w2.heap.size,6,none⟩=some (.int .i64 d.la):=DX.cell 6;have ZV:w4.cell? ⟨w2.heap.size,7,none⟩=some (.int .i64 d.pr):=DX.cell 7;have ZW:w4.cell? ⟨w2.heap.size,8,none⟩=some (.int .i64 d.ne):=DX.cell 8;have t0:w5.cell? ⟨w2.heap.size,0,none⟩=some (.int .i64 d.kind):=sK.cell 0;have t1:w5.cell? ⟨w2.heap.size,1,none⟩=some (.string d.name):=sK.cell 1;have t2:w5.cell? ⟨w2.heap.size,2,none⟩=some (.slice A4 l.length c4):=sK.cell 2;have t3:w5.cell? ⟨w2.heap.size,3,none⟩=some (.string d.data):=sK.cell 3;have t4:w5.cell? ⟨w2.heap.size,4,none⟩=some (.int .i64 d.pa):=sK.cell 4;have t5:w5.cell? ⟨w2.heap.size,5,none⟩=some (.int .i64 d.fi):=sK.cell 5;have t6:w5.cell? ⟨w2.heap.size,6,none⟩=some (.int .i64 d.la):=sK.cell 6;have t7:w5.cell? ⟨w2.heap.size,7,none⟩=some (.int .i64 d.pr):=sK.cell 7;have t8:w5.cell? ⟨w2.heap.size,8,none⟩=some (.int .i64 d.ne):=sK.cell 8;have x0:w5.cell? ⟨w.heap.size,0,none⟩=some (.int .i64 0):=dU.cell 0;have z0:=dU.free 0;have x1:w5.cell? ⟨w.heap.size,1,none⟩=some (.string ⟨#[]⟩):=dU.cell 1;have z1:=dU.free 1;have x2:w5.cell? ⟨w.heap.size,2,none⟩=some (.slice none 0 0):=dU.cell 2;have z2:=dU.free 2;have x3:w5.cell? ⟨w.heap.size,3,none⟩=some (.string ⟨#[]⟩):=dU.cell 3;have z3:=dU.free 3;have x4:w5.cell? ⟨w.heap.size,4,none⟩=some (.int .i64 0):=dU.cell 4;have z4:=dU.free 4;have x5:w5.cell? ⟨w.heap.size,5,none⟩=some (.int .i64 0):=dU.cell 5;have z5:=dU.free 5;have x6:w5.cell? ⟨w.heap.size,6,none⟩=some (.int .i64 0):=dU.cell 6;have z6:=dU.free 6;have x7:w5.cell? ⟨w.heap.size,7,none⟩=some (.int .i64 0):=dU.cell 7;have z7:=dU.free 7;have x8:w5.cell? ⟨w.heap.size,8,none⟩=some (.int .i64 0):=dU.cell 8;have z8:=dU.free 8;obtain⟨w6,jM,gI,g6⟩:=Ur dU (.int .i64 d.kind) (.string d.name) (.slice A4 l.length c4) (.string d.data) (.int .i64 d.pa) (.int .i64 d.fi) (.int .i64 d.la) (.int .i64 d.pr) (.int .i64 d.ne);have k0:w6.cell? ⟨w.heap.size,0,none⟩=some (.int .i64 d.kind):=gI.cell 0;have k1:w6.cell? ⟨w.heap.size,1,none⟩=some (.string d.name):=gI.cell 1;have k2:w6.cell? ⟨w.heap.size,2,none⟩=some (.slice A4 l.length c4):=gI.cell 2;have k3:w6.cell? ⟨w.heap.size,3,none⟩=some (.string d.data):=gI.cell 3;have k4:w6.cell? ⟨w.heap.size,4,none⟩=some (.int .i64 d.pa):=gI.cell 4;have k5:w6.cell? ⟨w.heap.size,5,none⟩=some (.int .i64 d.fi):=gI.cell 5;have k6:w6.cell? ⟨w.heap.size,6,none⟩=some (.int .i64 d.la):=gI.cell 6;have k7:w6.cell? ⟨w.heap.size,7,none⟩=some (.int .i64 d.pr):=gI.cell 7;have k8:w6.cell? ⟨w.heap.size,8,none⟩=some (.int .i64 d.ne):=gI.cell 8;have hs4:=hb4.size;have hs5:=g5.size;have Y6:AR w6 w.heap.size (.slice A4 l.length c4) l:=by
  have a5:=TR.kept D7 g5 (.inr fun e=>by have:=(TR.lt D7 _ e).1;omega);have a6:=TR.kept a5 g6 (.inr fun e=>by have:=(TR.lt D7 _ e).1;omega);exact TR.lower a6 (by omega)
 have hBE:Below w.heap.size w w6:=((HB3.out.trans (hb4.mono HB3.out.size)).grown g5 (by omega) (fun k hk=>by simp at hk;omega)).grown g6 (by omega) (fun k hk=>by simp at hk;omega);have HE:=zh (And.intro Y6 hBE);clear HCL D7 hb4 DX bB sK dU g5 g6 gI Y6 hBE;go_wp2_with fail;(try rw[fT]);(try go_wp2_with fail);(try rw[jM]);(try go_wp2_with fail);refine bodyPost_ret (v:=.tuple #[ndW d (.slice A4 l.length c4),.bool q]) ?_ rfl ⟨_,rfl,HE.out.1,HE.out.2⟩;simp[results,Tryz.f122,go_sem,k0,k1,k2,k3,k4,k5,k6,k7,k8]
end
section
namespace Tr
open Go Go.RowKit
def Li (g:G) (n:GN):Prop:=(n.kind=2∨n.kind=1∨n.kids=[])∧(n.kind=2→∀ k∈n.kids,kindOf g k≠1)∧(n.kind=1→(∀ k∈n.kids,kindOf g k=4∨kindOf g k=2)∧∀ k1∈n.kids,∀ k2∈n.kids,kindOf g k1=2→kindOf g k2=2→k1=k2)
def yO (g:G):Prop:=∀ p n,g p=some n→Li g n
theorem Li.sub {g g':G} {n n':GN} (h:Li g n) (hk:n'.kind=n.kind) (hs:∀ k∈n'.kids,k∈n.kids∧kindOf g' k=kindOf g k):Li g' n':=by
 obtain⟨h1,h2,h3⟩:=h;refine⟨?_,fun e k hk'=>?_,fun e=>⟨fun k hk'=>?_,fun k1 hk1 k2 hk2 e1 e2=>?_⟩⟩
 ·rw[hk];rcases h1 with h1 | h1 | h1
  ·exact .inl h1
  ·exact .inr (.inl h1)
  ·refine .inr (.inr ?_);cases e:n'.kids with
   | nil=>rfl
   | cons a r=>have:=(hs a (by rw[e];simp)).1;rw[h1] at this;cases this
 ·rw[(hs k hk').2];exact h2 (hk▸e) k (hs k hk').1
 ·rw[(hs k hk').2];exact (h3 (hk▸e)).1 k (hs k hk').1
 ·rw[(hs k1 hk1).2] at e1;rw[(hs k2 hk2).2] at e2;exact (h3 (hk▸e)).2 k1 (hs k1 hk1).1 k2 (hs k2 hk2).1 e1 e2
theorem yO.sub {g g':G} (h:yO g) (hs:∀ p n',g' p=some n'→∃ n,g p=some n∧n'.kind=n.kind∧∀ k∈n'.kids,k∈n.kids) (hk:∀ p n',g' p=some n'→∀ k∈n'.kids,kindOf g' k=kindOf g k):yO g':=fun p n' e=>by
 obtain⟨n,e1,e2,e3⟩:=hs p n' e;exact (h p n e1).sub e2 fun k hk'=>⟨e3 k hk',hk p n' e k hk'⟩
theorem yO.acc {g:G} (h:yO g) (w:WF 0 g) {x:Int} {m:GN} (e:g x=some m) (hp:m.pa≠0) (h1:m.kind=1→m.pa=0):dW g m.pa x=true:=by
 obtain⟨p,ep,hx⟩:=w.up x m e hp;obtain⟨a1,a2,a3⟩:=h _ p ep;have kx:=dA e;unfold dW;rw[dA ep];rcases a1 with a1 | a1 | a1
 ·rw[if_pos a1,kx];simp only[bne_iff_ne,ne_eq];exact fun e1=>hp (h1 e1)
 ·rw[if_neg (by omega),if_pos a1];rcases (a3 a1).1 x hx with b | b
  ·simp[b]
  ·have:jH g m.pa x=false:=by
    unfold jH;rw[aH ep,List.any_eq_false];intro k hk;simp only[Bool.and_eq_true,bne_iff_ne,ne_eq,beq_iff_eq,not_and];exact fun hne hk2=>hne ((a3 a1).2 k hk x hx hk2 b)
   simp[b,this]
 ·rw[a1] at hx;cases hx
theorem Hr {g:G} {h:Int} {U:GN→GN} (hU:∀ n,g h=some n→(U n).kind=n.kind) (k:Int):kindOf (cO g h U) k=kindOf g k:=by
 unfold kindOf cO;by_cases e:k=h
 ·subst e;rw[if_pos rfl];cases e1:g k with
  | none=>rfl
  | some n=>exact hU n e1
 ·rw[if_neg e]
theorem yO.put {g:G} {h:Int} {U:GN→GN} (H:yO g) (hU:∀ n,g h=some n→(U n).kind=n.kind∧(U n).kids=n.kids):yO (cO g h U):=by
 refine H.sub (fun p n' e=>?_) fun p n' _ k _=>Hr (fun n e=>(hU n e).1) k;unfold cO at e
 split at e
 ·rename_i e1;subst e1;cases e2:g p with
  | none=>rw[e2] at e;cases e
  | some n=>rw[e2] at e;obtain rfl:=Option.some.inj e;exact⟨n,rfl,(hU n e2).1,fun k hk=>by rw[(hU n e2).2] at hk;exact hk⟩
 ·exact⟨n',e,rfl,fun k hk=>hk⟩
theorem yF {g:G} {h:Int} (k:Int):kindOf (iZ g h) k=kindOf g k:=by
 unfold kindOf iZ;by_cases e:k=h
 ·subst e;rw[if_pos rfl];cases g k<;>rfl
 ·rw[if_neg e];by_cases e1:k=dG g h
  ·rw[if_pos e1];cases g k<;>rfl
  ·rw[if_neg e1]
theorem Dk {g:G} {h p:Int} {n':GN} (e:iZ g h p=some n'):∃ n,g p=some n∧n'.kind=n.kind∧(∀ k∈n'.kids,k∈n.kids)∧n'.name=n.name∧n'.attrs=n.attrs:=by
 unfold iZ at e
 split at e
 ·rename_i e1;subst e1;cases e2:g p with
  | none=>rw[e2] at e;cases e
  | some n=>rw[e2] at e;obtain rfl:=Option.some.inj e;exact⟨n,rfl,rfl,fun k hk=>hk,rfl,rfl⟩
 ·split at e
  ·cases e2:g p with
   | none=>rw[e2] at e;cases e
   | some n=>rw[e2] at e;obtain rfl:=Option.some.inj e;exact⟨n,rfl,rfl,fun k hk=>List.mem_of_mem_erase hk,rfl,rfl⟩
  ·exact⟨n',e,rfl,fun k hk=>hk,rfl,rfl⟩
theorem yO.cut {g:G} (H:yO g) (h:Int):yO (dD g h):=by
 unfold dD
 split
 ·exact H
 ·exact H.sub (fun p n' e=>by obtain⟨n,a,b,c,_⟩:=Dk e;exact⟨n,a,b,c⟩) fun p n' _ k _=>yF k
theorem Ht {g:G} {h:Int} (k:Int):kindOf (dD g h) k=kindOf g k:=by
 unfold dD;split
 ·rfl
 ·exact yF k
theorem lG {g:G} {p h b:Int} (k:Int):kindOf (bg g p h b) k=kindOf g k:=by
 unfold kindOf bg;by_cases e:k=h
 ·subst e;rw[if_pos rfl];cases g k<;>rfl
 ·rw[if_neg e];by_cases e1:k=p
  ·subst e1;rw[if_pos rfl];cases g k<;>rfl
  ·rw[if_neg e1]
theorem wE {l:List Int} {b x k:Int} (h:k∈iw l b x):k=x∨k∈l:=by
 induction l with
 | nil=>simp[iw] at h;exact .inl h
 | cons a r ih=>
  unfold iw at h
  split at h
  ·rcases List.mem_cons.1 h with h | h
   ·exact .inl h
   ·exact .inr h
  ·rcases List.mem_cons.1 h with h | h
   ·exact .inr (by simp[h])
   ·rcases ih h with h | h
    ·exact .inl h
    ·exact .inr (List.mem_cons_of_mem _ h)
theorem yO.link {g g1:G} {p h b:Int} (H:yO g1) (ha:dW g p h=true) (hk:∀ k,kindOf g1 k=kindOf g k) (hs:∀ n1,g1 p=some n1→∃ n,g p=some n∧∀ k∈n1.kids,k∈n.kids) (Lf:∀ nh,g1 h=some nh→p=h→False):yO (bg g1 p h b):=by
 intro x n' e;by_cases hxh:x=h
 ·subst hxh;unfold bg at e;rw[if_pos rfl] at e;cases e1:g1 x with
  | none=>rw[e1] at e;cases e
  | some n=>
   rw[e1] at e;obtain rfl:=Option.some.inj e;exact (H x n e1).sub rfl fun k hk=>⟨hk,lG k⟩
 ·by_cases hxp:x=p
  ·subst hxp;unfold bg at e;rw[if_neg hxh,if_pos rfl] at e;cases e1:g1 x with
   | none=>rw[e1] at e;cases e
   | some n=>
    rw[e1] at e;obtain rfl:=Option.some.inj e;obtain⟨a1,a2,a3⟩:=H x n e1;obtain⟨no,eo,hso⟩:=hs n e1;have kx:kindOf g x=n.kind:=by rw[←hk,dA e1]
    unfold dW at ha;rw[kx] at ha;refine⟨?_,fun e2 k hk2=>?_,fun e2=>⟨fun k hk2=>?_,fun k1 hk1 k2 hk2 f1 f2=>?_⟩⟩
    ·show n.kind=2∨n.kind=1∨_;by_cases c2:n.kind=2
     ·exact .inl c2
     ·rw[if_neg c2] at ha;by_cases c1:n.kind=1
      ·exact .inr (.inl c1)
      ·rw[if_neg c1] at ha;cases ha
    ·have c2:n.kind=2:=e2;rw[if_pos c2] at ha;rw[lG];rcases wE hk2 with rfl | hk2
     ·rw[hk];simpa using ha
     ·exact a2 c2 k hk2
    ·have c1:n.kind=1:=e2;rw[if_neg (by omega),if_pos c1] at ha;rw[lG];rcases wE hk2 with rfl | hk2
     ·rw[hk];simp only[Bool.or_eq_true,beq_iff_eq,Bool.and_eq_true] at ha;rcases ha with ha | ha
      ·exact .inl ha
      ·exact .inr ha.1
     ·exact (a3 c1).1 k hk2
    ·have c1:n.kind=1:=e2;rw[if_neg (by omega),if_pos c1] at ha;rw[lG,hk] at f1 f2;have hot:kindOf g h=2→∀ k∈n.kids,kindOf g k=2→k=h:=fun h2 k hkk hk2=>by
      simp only[h2,Bool.or_eq_true,beq_iff_eq,Bool.and_eq_true,Bool.not_eq_true'] at ha;have ho:jH g x h=false:=by rcases ha with ha | ha;exact absurd ha (by decide);exact ha.2
      unfold jH at ho;rw[aH eo,List.any_eq_false] at ho;have:=ho k (hso k hkk);simp only[Bool.and_eq_true,bne_iff_ne,ne_eq,beq_iff_eq,not_and] at this;exact Classical.byContradiction fun hne=>this hne hk2
     rcases wE hk1 with g1' | g1'<;>rcases wE hk2 with g2' | g2'
     ·rw[g1',g2']
     ·rw[g1'] at f1 ⊢;exact (hot f1 k2 g2' f2).symm
     ·rw[g2'] at f2 ⊢;exact hot f2 k1 g1' f1
     ·exact (a3 c1).2 k1 g1' k2 g2' (by rw[hk];exact f1) (by rw[hk];exact f2)
  ·have:bg g1 p h b x=g1 x:=by unfold bg;rw[if_neg hxh,if_neg hxp]
   rw[this] at e;exact (H x n' e).sub rfl fun k hk=>⟨hk,lG k⟩
theorem yO.drop {g:G} (H:yO g) (w:WF 0 g) (h:Int) (hd:∀ n,g h=some n→n.pa=0):yO (iG g h):=by
 intro p n e;unfold iG at e
 split at e
 ·cases e
 ·rename_i hp;refine (H p n e).sub rfl fun k hk=>⟨hk,?_⟩
  have hkw:k∉ak g h:=fun hw=>by
   obtain⟨m,em,hpa⟩:=w.down p n k e hk;have h1:=(w.fE h k).1 hw;rw[w.bC em] at h1;rcases List.mem_cons.1 h1 with h1 | h1
   ·subst h1;have h2:=hd m em;rw[hpa] at h2;rw[h2,w.zero] at e;cases e
   ·rw[hpa] at h1;exact hp ((w.fE h p).2 h1)
  unfold kindOf iG;rw[if_neg hkw]
theorem yO.add {g:G} (H:yO g) (w:WF 0 g) {h:Int} {m:GN} (hn:g h=none) (hm:m.kids=[]):yO (dI g h m):=by
 intro p n e;by_cases hp:p=h
 ·subst hp;rw[bL] at e;obtain rfl:=Option.some.inj e;have hno:∀ k,k∈m.kids→False:=fun k hk=>by rw[hm] at hk;cases hk
  exact⟨Or.inr (Or.inr hm),fun _ k hk=>(hno k hk).elim,fun _=>⟨fun k hk=>(hno k hk).elim,fun k hk=>(hno k hk).elim⟩⟩
 ·rw[bS hp] at e;refine (H p n e).sub rfl fun k hk=>⟨hk,?_⟩
  obtain⟨q,eq,_⟩:=w.down p n k e hk;have hkh:k≠h:=fun e1=>by rw[e1,hn] at eq;cases eq
  unfold kindOf;rw[bS hkh]
theorem rC.R9 {P:Int→Int→List Int→List Int→Prop} {xs ys l m:List Int} (h:rC P xs ys l m) (e:xs=[]):ys=[]:=by
 cases h with
 | nil=>rfl
 | cons _ _=>cases e
theorem Cp.kid {g g':G}:∀ (f:Nat) {x y q:Int} {lx ly:List Int},Cp g g' f x y q lx ly→∀ z∈ly,∃ x' n n',x'∈lx∧g x'=some n∧g' z=some n'∧n'.kind=n.kind∧n'.name=n.name∧n'.attrs=n.attrs∧(n.kids=[]→n'.kids=[])∧∀ k∈n'.kids,∃ x2∈lx,kindOf g' k=kindOf g x2
 | 0,_,_,_,_,_,h,_,_=>h.elim
 | f+1,x,y,q,lx,ly,h,z,hz=>by
  obtain⟨n,ys,l,m,e1,e2,h3,rfl,rfl⟩:=h;have heads:∀ {xs ys l m:List Int},rC (fun a b l m=>Cp g g' f a b y l m) xs ys l m→∀ k∈ys,∃ x2∈l,kindOf g' k=kindOf g x2:=by
   intro xs ys l m h
   induction h with
   | nil=>intro k hk;cases hk
   | @cons a b xs ys l1 m1 l m h1 h2 ih=>
    intro k hk;rcases List.mem_cons.1 hk with rfl | hk
    ·cases f with
     | zero=>exact h1.elim
     | succ f=>
      obtain⟨n2,ys2,l2,m2,k1,k2,k3,rfl,rfl⟩:=h1;exact⟨a,by simp,by rw[dA k1,dA k2]⟩
    ·obtain⟨x2,hx2,e⟩:=ih k hk;exact⟨x2,List.mem_append_right _ hx2,e⟩
  have rest:∀ {xs ys l m:List Int},rC (fun a b l m=>Cp g g' f a b y l m) xs ys l m→∀ z∈m,∃ x' n n',x'∈l∧g x'=some n∧g' z=some n'∧n'.kind=n.kind∧n'.name=n.name∧n'.attrs=n.attrs∧(n.kids=[]→n'.kids=[])∧∀ k∈n'.kids,∃ x2∈l,kindOf g' k=kindOf g x2:=by
   intro xs ys l m h
   induction h with
   | nil=>intro z hz;cases hz
   | cons h1 h2 ih=>
    intro z hz;rcases List.mem_append.1 hz with hz | hz
    ·obtain⟨x',n,n',a1,a2,a3,a4,a4',PY,a5,a6⟩:=Cp.kid f h1 z hz;exact⟨x',n,n',List.mem_append_left _ a1,a2,a3,a4,a4',PY,a5,fun k hk=>by obtain⟨x2,b1,b2⟩:=a6 k hk;exact⟨x2,List.mem_append_left _ b1,b2⟩⟩
    ·obtain⟨x',n,n',a1,a2,a3,a4,a4',PY,a5,a6⟩:=ih z hz;exact⟨x',n,n',List.mem_append_right _ a1,a2,a3,a4,a4',PY,a5,fun k hk=>by obtain⟨x2,b1,b2⟩:=a6 k hk;exact⟨x2,List.mem_append_right _ b1,b2⟩⟩
  rcases List.mem_cons.1 hz with rfl | hz
  ·exact⟨x,n,_,by simp,e1,e2,rfl,rfl,rfl,fun e=>h3.R9 e,fun k hk=>by obtain⟨x2,b1,b2⟩:=heads h3 k hk;exact⟨x2,List.mem_cons_of_mem _ b1,b2⟩⟩
  ·obtain⟨x',n2,n',a1,a2,a3,a4,a4',PY,a5,a6⟩:=rest h3 z hz;exact⟨x',n2,n',List.mem_cons_of_mem _ a1,a2,a3,a4,a4',PY,a5,fun k hk=>by obtain⟨x2,b1,b2⟩:=a6 k hk;exact⟨x2,List.mem_cons_of_mem _ b1,b2⟩⟩
theorem yO.copy {g g':G} {F:Nat} {x d q:Int} {la ds:List Int} (H:yO g) (w:WF 0 g) (hcp:Cp g g' F x d q la ds) (h1:∀ z∈la,kindOf g z≠1) (hfr:∀ z∈ds,g z=none) (hold:∀ z,z∉ds→g' z=g z):yO g':=by
 intro p n e;by_cases hp:p∈ds
 ·obtain⟨x',n0,n',a1,a2,a3,a4,_,_,a5,a6⟩:=Cp.kid F hcp p hp;rw[a3] at e;obtain rfl:=Option.some.inj e;have hk1:n0.kind≠1:=by rw[←dA a2];exact h1 x' a1
  refine⟨?_,fun _ k hk=>?_,fun e1=>absurd (a4▸e1) hk1⟩
  ·rcases (H x' n0 a2).1 with b | b | b
   ·exact .inl (by rw[a4];exact b)
   ·exact absurd b hk1
   ·exact .inr (.inr (a5 b))
  ·obtain⟨x2,b1,b2⟩:=a6 k hk;rw[b2];exact h1 x2 b1
 ·rw[hold p hp] at e;refine (H p n e).sub rfl fun k hk=>⟨hk,?_⟩
  obtain⟨m,em,_⟩:=w.down p n k e hk;have:k∉ds:=fun hk2=>by rw[hfr k hk2] at em;cases em
  unfold kindOf;rw[hold k this]
end Tr
end
section
open Go.RowKit Go.Shelf
theorem Nh (base B bt bh:Nat) (b s root h:Int) (live n:Nat) (g:Tr.G) (av:Int→Tr.Sl) (fr:List Nat) (vs vf:Value) (w:World) (hS:Sound b s n (Tr.raw g av) fr live) (hw:Tr.WF 0 g) (hh:kM h) (hL:LS base B bt bh b s h vs n (Tr.raw g av) vf fr live root w) (AQ:(Tr.au g h).length≤100000):
  Calls Tryz.prog 80 #[.func (.func 116) #[] #[.pointer (some ⟨bt,0,none⟩),.pointer (some ⟨bh,0,none⟩)]] w fun e w'=>∃ v,e=.returned v∧w'.ownsRow w.heap.size 3 1 v (Tr.au g h).length (ints (Tr.au g h))∧Below w.heap.size w w':=by
 have hA:=M6 base B bt bh b s root h live n g av fr vs vf w hS hw hh hL AQ;clear hL hS
 go_enter Tryz.func80,Tryz.ntmps80
 go_wp2_with fail;refine hA.mono ?_;rintro e w1 ⟨v,rfl,ho,hb⟩;obtain⟨A,c,rfl⟩:=aF (aG ho);have HO:=zh (And.intro ho hb);clear ho hb hA;go_wp2_with fail
 go_ret
 exact⟨_,rfl,HO.out.1,HO.out.2⟩
theorem WS (base B:Nat) (b s root h:Int) (live n:Nat) (g:Tr.G) (av:Int→Tr.Sl) (fr:List Nat) (vs vf:Value) (w:World) (hM:TV base w B b s vs n (Tr.raw g av) vf fr live root) (hS:Sound b s n (Tr.raw g av) fr live) (hw:Tr.WF 0 g) (hh:kM h) (AQ:(Tr.au g h).length≤100000):
  Calls Tryz.prog 80 #[.func (.func 116) #[] #[.pointer (some ⟨w.heap.size,0,none⟩),.pointer (some ⟨w.heap.size+1,0,none⟩)]] ((w.alloc (.cells #[.pointer (some ⟨B,0,none⟩)] 29)).alloc (.cells #[.int .i64 h] 3)) fun e w'=>∃ v,e=.returned v∧w'.ownsRow w.heap.size 3 1 v (Tr.au g h).length (ints (Tr.au g h))∧Below w.heap.size w w':=by
 refine (Nh base B w.heap.size (w.heap.size+1) b s root h live n g av fr vs vf _ hS hw hh (LS.made hM) AQ).mono ?_;rintro e w1 ⟨v,rfl,ho,hb⟩;have h2:w.heap.size≤((w.alloc (.cells #[.pointer (some ⟨B,0,none⟩)] 29)).alloc (.cells #[.int .i64 h] 3)).heap.size:=by simp only[World.size_alloc];omega
 exact⟨v,rfl,fq ho h2,(((Below.refl _ w).alloc (Nat.le_refl _) _).alloc (by simp only[World.size_alloc];omega) _).trans (hb.mono h2)⟩
theorem Ni (base B bt bh:Nat) (b s root h:Int) (live n:Nat) (g:Tr.G) (av:Int→Tr.Sl) (fr:List Nat) (vs vf:Value) (w:World) (hS:Sound b s n (Tr.raw g av) fr live) (hw:Tr.WF 0 g) (hh:kM h) (hL:LS base B bt bh b s h vs n (Tr.raw g av) vf fr live root w) (AQ:(Tr.ak g h).length≤100000):
  Calls Tryz.prog 80 #[.func (.func 40) #[] #[.pointer (some ⟨bt,0,none⟩),.pointer (some ⟨bh,0,none⟩)]] w fun e w'=>∃ v,e=.returned v∧w'.ownsRow w.heap.size 3 1 v (Tr.ak g h).length (ints (Tr.ak g h))∧Below w.heap.size w w':=by
 have hA:=M7 base B bt bh b s root h live n g av fr vs vf w hS hw hh hL AQ;clear hL hS
 go_enter Tryz.func80,Tryz.ntmps80
 go_wp2_with fail;refine hA.mono ?_;rintro e w1 ⟨v,rfl,ho,hb⟩;obtain⟨A,c,rfl⟩:=aF (aG ho);have HO:=zh (And.intro ho hb);clear ho hb hA;go_wp2_with fail
 go_ret
 exact⟨_,rfl,HO.out.1,HO.out.2⟩
theorem Nj (base B:Nat) (b s root h:Int) (live n:Nat) (g:Tr.G) (av:Int→Tr.Sl) (fr:List Nat) (vs vf:Value) (w:World) (hM:TV base w B b s vs n (Tr.raw g av) vf fr live root) (hS:Sound b s n (Tr.raw g av) fr live) (hw:Tr.WF 0 g) (hh:kM h) (AQ:(Tr.ak g h).length≤100000):
  Calls Tryz.prog 80 #[.func (.func 40) #[] #[.pointer (some ⟨w.heap.size,0,none⟩),.pointer (some ⟨w.heap.size+1,0,none⟩)]] ((w.alloc (.cells #[.pointer (some ⟨B,0,none⟩)] 29)).alloc (.cells #[.int .i64 h] 3)) fun e w'=>∃ v,e=.returned v∧w'.ownsRow w.heap.size 3 1 v (Tr.ak g h).length (ints (Tr.ak g h))∧Below w.heap.size w w':=by
 refine (Ni base B w.heap.size (w.heap.size+1) b s root h live n g av fr vs vf _ hS hw hh (LS.made hM) AQ).mono ?_;rintro e w1 ⟨v,rfl,ho,hb⟩;have h2:w.heap.size≤((w.alloc (.cells #[.pointer (some ⟨B,0,none⟩)] 29)).alloc (.cells #[.int .i64 h] 3)).heap.size:=by simp only[World.size_alloc];omega
 exact⟨v,rfl,fq ho h2,(((Below.refl _ w).alloc (Nat.le_refl _) _).alloc (by simp only[World.size_alloc];omega) _).trans (hb.mono h2)⟩
end
section
open Go.RowKit
def oU (m k:Nat):List Int:=(List.range' m k).map fun i:Nat=>(i:Int)
theorem nS {m k:Nat} {z:Int}:z∈oU m k↔∃ i:Nat,z=(i:Int)∧m≤i∧i<m+k:=by
 unfold oU;rw[List.mem_map];constructor
 ·rintro⟨i,hi,rfl⟩;rw[List.mem_range'_1] at hi;exact⟨i,rfl,hi.1,hi.2⟩
 ·rintro⟨i,rfl,h1,h2⟩;exact⟨i,List.mem_range'_1.2 ⟨h1,h2⟩,rfl⟩
theorem J7 (m k:Nat):(oU m k).Nodup:=by
 unfold oU;have h:(List.range' m k).Nodup:=List.nodup_range';generalize List.range' m k=l at h
 induction l with
 | nil=>simp
 | cons a r ih=>
  rw[List.nodup_cons] at h;rw[List.map_cons,List.nodup_cons];refine⟨fun hm=>?_,ih h.2⟩;obtain⟨b,hb,e⟩:=List.mem_map.1 hm;have:b=a:=by omega
  exact h.1 (this▸hb)
theorem PZ (m k j:Nat):oU m (k+j)=oU m k++oU (m+k) j:=by
 unfold oU;rw[←List.map_append,List.range'_append_1]
theorem CF (m k:Nat):oU m (k+1)=(m:Int)::oU (m+1) k:=by
 unfold oU;rw[List.range'_succ,List.map_cons]
theorem Gt (m k:Nat):(oU m k).length=k:=by unfold oU;simp
def Full (a:Tr.G):Nat→Int→Prop
 | 0,_=>False
 | F+1,x=>∃ n,a x=some n∧∀ k∈n.kids,Full a F k
theorem Full.live {a:Tr.G}:∀ {F:Nat} {x:Int},Full a F x→(a x).isSome
 | 0,_,h=>h.elim
 | F+1,x,⟨n,e,_⟩=>by rw[e];rfl
theorem Full.all {a:Tr.G}:∀ (F:Nat) (x:Int),Full a F x→∀ z∈Tr.walk a F x,(a z).isSome∧∀ n,a z=some n→∀ k∈n.kids,(a k).isSome
 | 0,_,h=>h.elim
 | F+1,x,⟨n,e,hk⟩=>by
  rw[Tr.walk,e];intro z hz;rcases List.mem_cons.1 hz with rfl | hz
  ·exact⟨by rw[e];rfl,fun n' e' k hk'=>by rw[e] at e';obtain rfl:=Option.some.inj e';exact (hk k hk').live⟩
  ·obtain⟨k,hk1,hk2⟩:=List.mem_flatMap.1 hz;exact Full.all F k (hk k hk1) z hk2
theorem Full.same {a a':Tr.G}:∀ (F:Nat) (x:Int),Full a F x→(∀ z∈Tr.walk a F x,a' z=a z)→Full a' F x
 | 0,_,h,_=>h.elim
 | F+1,x,⟨n,e,hk⟩,h=>by
  have hx:x∈Tr.walk a (F+1) x:=by rw[Tr.walk,e];simp
  refine⟨n,by rw[h x hx];exact e,fun k hk'=>Full.same F k (hk k hk') fun z hz=>h z ?_⟩;rw[Tr.walk,e];exact List.mem_cons_of_mem _ (List.mem_flatMap.2 ⟨k,hk',hz⟩)
theorem Tr.WF.full {z:Int} {a:Tr.G} (w:Tr.WF z a):∀ (F:Nat) (x:Int),F+(Tr.aY a x).length=129→(a x).isSome→Full a F x
 | 0,x,h,_=>by have:=(w.bY x).2;omega
 | F+1,x,h,hx=>by
  obtain⟨n,e⟩:=Option.isSome_iff_exists.1 hx;refine⟨n,e,fun k hk=>w.full F k ?_ ?_⟩
  ·rw[w.jA e hk,List.length_cons];omega
  ·obtain⟨q,e1,_⟩:=w.down x n k e hk;rw[e1];rfl
def BI (a:Tr.G) (q c:Int):Tr.G:=fun z=>if z=q then (a z).map fun n=>{ n with kids:=n.kids++[c] } else a z
theorem Hu (a:Tr.G) (q c z:Int):(BI a q c z).isSome=(a z).isSome:=by
 unfold BI;split
 ·cases a z<;>rfl
 ·rfl
def F6 (m:Nat) (f f':Nat→RS) (q:Int) (c:Int):Prop:=(∀ i,i<m→(i:Int)≠q→f' i=f i)∧∀ i,i<m→(i:Int)=q→∃ sl,f' i={ f i with k:=sl,kids:=(f i).kids++[c] }
theorem F6.tree {m k:Nat} {f f':Nat→RS} {q c:Int} (h:F6 m f f' q c):∀ z,z∉oU m k→mg (m+k) f' z=BI (mg m f) q c z:=by
 intro z hz;unfold BI;by_cases h0:z<0
 ·rw[lX h0,lX h0];split<;>rfl
 ·obtain⟨i,rfl⟩:=Int.eq_ofNat_of_zero_le (by omega:0≤z);show mg (m+k) f' (i:Int)=_;rw[jC,jC];by_cases hi:i<m
  ·by_cases hq:(i:Int)=q
   ·obtain⟨sl,e⟩:=h.2 i hi hq;rw[if_pos hq,e];by_cases hg:(f i).gone=false
    ·rw[if_pos ⟨by omega,hg⟩,if_pos ⟨hi,hg⟩];rfl
    ·rw[if_neg (fun h=>hg h.2),if_neg (fun h=>hg h.2)];rfl
   ·rw[if_neg hq,h.1 i hi hq];by_cases hg:(f i).gone=false
    ·rw[if_pos ⟨by omega,hg⟩,if_pos ⟨hi,hg⟩]
    ·rw[if_neg (fun h=>hg h.2),if_neg (fun h=>hg h.2)]
  ·have hk:¬ i<m+k:=fun h=>hz (nS.2 ⟨i,rfl,by omega,h⟩);have e1:(if i<m∧(f i).gone=false then some (lH (f i)) else none)=none:=if_neg (fun h=>hi h.1);rw[if_neg (fun h:i<m+k∧(f' i).gone=false=>hk h.1),e1]
   split<;>rfl
theorem yw {m k:Nat} {f:Nat→RS} {z:Int} (h:z∈oU m k):mg m f z=none:=by
 obtain⟨i,rfl,h1,_⟩:=nS.1 h;rw[jC,if_neg (fun h=>by omega)]
def ZX (base M m:Nat) (vs:Value) (f:Nat→RS) (x q:Int) (F:Nat) (w:World) (e:Ending) (w':World):Prop:=
 ∃ (u vs':Value) (k:Nat) (f':Nat→RS),e=.returned u∧MV base w' M vs' (m+k) f'∧aB w w' (aC M vs m f) (aC M vs' (m+k) f')∧F6 m f f' q (m:Int)∧(∀ i,m≤i→i<m+k→(f' i).gone=false)∧
  Tr.Cp (mg m f) (mg (m+k) f') F x (m:Int) q (Tr.walk (mg m f) F x) (oU m k)
def F7 (base M m nb:Nat) (vs:Value) (f:Nat→RS) (x:Nat) (q:Int) (F:Nat) (w:World) (pre:List Int) (W:World):Prop:=
 ∃ (vs':Value) (k:Nat) (fj:Nat→RS) (ys l:List Int),MV base W M vs' (m+1+k) fj∧aB w W (aC M vs m f) (aC M vs' (m+1+k) fj)∧F6 m f fj q (m:Int)∧(∀ i,m≤i→i<m+1+k→(fj i).gone=false)∧
  Tr.vo (-1) (mg m f) (BI (mg m f) q (m:Int)) (lH (f x)) F (m:Int) q (mg (m+1+k) fj) pre ys l (oU (m+1) k)∧Whole W nb #[.int .i64 (f x).kind,.string (f x).name,.slice (f x).a.a (f x).at'.length (f x).a.c,.string (f x).data,.int .i64 (f x).pa,.slice (f x).k.a (f x).kids.length (f x).k.c,.bool (f x).gone] 52∧¬ aC M vs' (m+1+k) fj nb
section
variable {base M m nb:Nat} {vs:Value} {f:Nat→RS} {x:Nat} {q:Int} {F:Nat} {w W W':World} {pre:List Int}
theorem F7.next (H:F7 base M m nb vs f x q F w pre W) (hx:x<m) (hF:Full (mg m f) (F+1) (x:Int)) (hxg:(f x).gone=false) (hq:q∉Tr.walk (mg m f) (F+1) (x:Int)) {kid:Int} (hk:kid∈(f x).kids) (hpre:pre++[kid] <+: (f x).kids)
  (hcap:m+(Tr.walk (mg m f) (F+1) (x:Int)).length≤100000) (hat:∀ i:Nat,(i:Int)∈Tr.walk (mg m f) (F+1) (x:Int)→(f i).at'.length≤1000) (hkl:(f x).kids.length≤100000)
  (IH:∀ (m:Nat) (vs:Value) (f:Nat→RS) (x q:Int) (w:World),MV base w M vs m f→Full (mg m f) F x→(q = -1∨∃ n,mg m f q=some n∧n.kids.length≤100000)→q∉Tr.walk (mg m f) F x→m+(Tr.walk (mg m f) F x).length≤100000→(∀ i:Nat,(i:Int)∈Tr.walk (mg m f) F x→(f i).at'.length≤1000)→
   Calls Tryz.prog 107 #[.pointer (some ⟨M,0,none⟩),.int .i64 x,.int .i64 q,.bool true] w (ZX base M m vs f x q F w)):
  Calls Tryz.prog 107 #[.pointer (some ⟨M,0,none⟩),.int .i64 kid,.int .i64 (m:Int),.bool true] W fun e w'=>(∃ u,e=.returned u)∧F7 base M m nb vs f x q F w (pre++[kid]) w':=by
 obtain⟨vs',k,fj,ys,l,h1,h2,h3,h4,h5,h6,h7⟩:=H;obtain⟨nx,QG,X6⟩:=hF;have Y7:=QG;rw[aP hx hxg] at Y7;obtain rfl:=Option.some.inj Y7;have hkF:=X6 kid hk;have Ub:∀ y∈(f x).kids,∀ z∈Tr.walk (mg m f) F y,z∈Tr.walk (mg m f) (F+1) (x:Int):=fun y hy z hz=>by
  rw[Tr.walk,QG];exact List.mem_cons_of_mem _ (List.mem_flatMap.2 ⟨y,hy,hz⟩)
 have hall:=Full.all F kid hkF;have hne:∀ z∈Tr.walk (mg m f) F kid,z≠q:=fun z hz e=>hq (e▸Ub kid hk z hz);have hsame:∀ z∈Tr.walk (mg m f) F kid,mg (m+1+k) fj z=mg m f z:=fun z hz=>by
  have h0:=(hall z hz).1;rw[h5.old z (fun hm=>by rw[(h5.fresh z hm).1] at h0;cases h0)];unfold BI;rw[if_neg (hne z hz)]
 have hag:Tr.walk (mg (m+1+k) fj) F kid=Tr.walk (mg m f) F kid:=Tr.qB F kid hsame (fun z hz=>(hall z hz).2) hkF.live;have hys:ys.length≤100000:=by
  have h8:=h5.cp.heads;have h9:=hpre.length_le;rw[List.length_append,List.length_singleton] at h9;omega
 have hml:l=pre.flatMap (Tr.walk (mg m f) F):=(h5.cp.flat (u:=Tr.walk (mg m f) F) (v:=Tr.walk (mg (m+1+k) fj) F) fun a b l' m' h=>Tr.Cp.walks F F h (Nat.le_refl _)).1.symm;have hlk:l.length=k:=by rw[h5.cp.len fun a b l' m' h=>Tr.Cp.len F h,Gt]
 have hcap2:m+1+k+(Tr.walk (mg (m+1+k) fj) F kid).length≤100000:=by
  rw[hag];obtain⟨rest,hr⟩:=hpre;have e1:(Tr.walk (mg m f) (F+1) (x:Int)).length=1+((f x).kids.flatMap (Tr.walk (mg m f) F)).length:=by rw[Tr.walk,QG];simp only[List.length_cons];rw[show (lH (f x)).kids=(f x).kids from rfl];omega
  rw[←hr,List.flatMap_append,List.flatMap_append,List.length_append,List.length_append,←hml,hlk] at e1;have e2:([kid].flatMap (Tr.walk (mg m f) F)).length=(Tr.walk (mg m f) F kid).length:=by simp
  omega
 refine (IH (m+1+k) vs' fj kid (m:Int) W h1 (Full.same F kid hkF hsame) (.inr ⟨_,h5.self,hys⟩) (fun hm=>?_) hcap2 (fun i hi=>?_)).mono ?_
 ·rw[hag] at hm;have:=(hall _ hm).1;rw[jC,if_neg (fun h=>by omega)] at this;cases this
 ·rw[hag] at hi;have hi0:=(hall _ hi).1;obtain⟨j,ej,hj,_⟩:=jq hi0;have:i=j:=by omega
  subst this;rw[h3.1 i hj (hne _ hi)];exact hat i (Ub kid hk _ hi)
 ·rintro e w' ⟨u,vs2,k2,f2,rfl,j1,j2,j3,j4,j5⟩;refine⟨⟨u,rfl⟩,vs2,k+k2,f2,ys++[((m+1+k:Nat):Int)],l++Tr.walk (mg m f) F kid,by rw[←Nat.add_assoc];exact j1,by rw[←Nat.add_assoc];exact h2.trans j2,?_,?_,?_,?_,?_⟩
  ·constructor
   ·intro i hi hiq;rw[j3.1 i (by omega) (by omega)];exact h3.1 i hi hiq
   ·intro i hi hiq;obtain⟨sl,e⟩:=h3.2 i hi hiq;exact⟨sl,by rw[j3.1 i (by omega) (by omega),e]⟩
  ·intro i h1 h2;by_cases hi:i<m+1+k
   ·by_cases him:i=m
    ·obtain⟨sl,e⟩:=j3.2 i hi (by omega);rw[e];exact h4 i h1 hi
    ·rw[j3.1 i hi (by omega)];exact h4 i h1 hi
   ·exact j4 i (by omega) (by omega)
  ·rw[PZ,←Nat.add_assoc];refine h5.step (fun z=>Hu _ _ _ z) (lk:=Tr.walk (mg (m+1+k) fj) F kid) (fun z hz=>⟨(hall z hz).1,?_⟩) j5 (J7 _ _) (fun z hz=>⟨yw hz,?_⟩) (fun z hz=>?_) hkF.live (fun z hz=>(hall z hz).2)
   ·unfold BI;rw[if_neg (hne z hz)]
   ·obtain⟨i,rfl,_⟩:=nS.1 hz;omega
   ·rw[j3.tree (k:=k2) z hz];unfold BI;by_cases e:z=(m:Int)
    ·rw[if_pos e,if_pos e,e]
    ·rw[if_neg e,if_neg e]
  ·have Y8:=h6.lt;exact h6.turns j2.1 h7
  ·intro hm;have Y8:=h6.lt;rw[←Nat.add_assoc] at hm;exact h7 (j2.2 nb Y8 hm)
end
end
section
open Go.RowKit
theorem Nk (base B:Nat) (b s root p h:Int) (live n:Nat) (g:Tr.G) (fr:List Nat) (vs vf:Value) (c d l r:List Int) (ok:ByteArray→Prop) (w:World) (hm:TV base w B b s vs n (Tr.raw g wM) vf fr live root) (hS:Sound b s n (Tr.raw g wM) fr live) (D:Tr.Deep g root c d ok)
  (hp:Tr.Line g 0 (l++[p])) (hh:Tr.Line g 0 (h::r)) (hn:((l++[p])++h::r).Nodup) (hr:h≠root) (hlim:(l++[p]).length+(h::r).length≤128):
  Calls Tryz.prog 19 #[.pointer (some ⟨B,0,none⟩),.int .i64 p,.int .i64 h,.int .i64 0] w fun e w'=>∃ v,e=.returned (.tuple #[v,.int .i64 0])∧bH w.heap.size w' v [Tr.jO (Tr.bg g p h 0) 1 h]∧
   TV base w' B b s vs n (Tr.raw (Tr.bg g p h 0) wM) vf fr live root∧Sound b s n (Tr.raw (Tr.bg g p h 0) wM) fr live∧aB w w' (aD B vs vf) (aD B vs vf):=by
 obtain⟨h0,ip,ih,hpa,hnu,hlen,hw',hl',_⟩:=D.joined hp hh hn hr hlim;obtain⟨mp,ep⟩:=Option.isSome_iff_exists.1 ip;obtain⟨mh,eh⟩:=Option.isSome_iff_exists.1 ih;have H:rR base B b s root p h 0 live n g wM fr vs vf mp mh w:=⟨hm,hS,D.wf,ep,eh,fun e=>absurd rfl e⟩
 have hi:=Cu base B b s root p h 0 live n g wM fr vs vf mp mh w H (D.may hp eh hr) hnu (fun e=>absurd rfl e) (by rw[hlen];exact hlim);rw[Tr.Na hpa,Tr.Nb h0,show Tr.fU g h=[] from if_pos hpa,List.nil_append] at hi;have wT:h≠p:=fun e=>by rw[D.wf.bC ep,e] at hnu;exact hnu (by simp)
 have hS':=qD hS D.wf eh (by rw[←Tr.aL eh];exact hpa) ep wT (c:=0) (.inl rfl);refine hi.mono ?_;rintro e w' ⟨v,he,hrr,h1,h2⟩;exact⟨v,he,hrr,h1,hS',h2⟩
def VO (nm:ByteArray):Prop:=nm.size≤20000∧Nm.elem nm=true
theorem Sb (base B:Nat) (b s root:Int) (live n:Nat) (g:Tr.G) (fr:List Nat) (vs vf:Value) (c d:List Int) (nm:ByteArray) (w:World) (hm:TV base w B b s vs n (Tr.raw g wM) vf fr live root) (hS:Sound b s n (Tr.raw g wM) fr live) (D:Tr.Deep g root c d VO) (hbase:base≤w.heap.size) (hn:n<100000) (hl:live<20000) (hok:VO nm) (hT:Lit w):
  Calls Tryz.prog 18 #[.pointer (some ⟨B,0,none⟩),.int .i64 2,.string nm,.string ⟨#[]⟩,.slice none 0 0] w fun e w'=>∃ (h:Int) (g':Tr.G) (vs' bV:Value) (n':Nat) (fr':List Nat),e=.returned (.tuple #[.int .i64 h,.int .i64 0])∧n'≤n+1∧h≠0∧h∉(root::c)++d∧
   TV base w' B b s vs' n' (Tr.raw g' wM) bV fr' (live+1) root∧Sound b s n' (Tr.raw g' wM) fr' (live+1)∧Tr.Deep g' root c d VO∧Tr.Line g' 0 [h]∧aB w w' (aD B vs vf) (aD B vs' bV):=by
 refine (M8 base B b s root live n g wM fr vs vf nm w hm hS D.wf hbase hn hl hok.1 hok.2 hT).mono ?_;rintro e w' ⟨h,vs',bV,n',fr',he,h1,h2,h3,h4,h5,_,h7⟩;rw[Lg] at h4 h5;obtain⟨k1,k2⟩:=D.add h2 h3 (nm:=nm) hok;exact⟨h,_,vs',bV,n',fr',he,h1,h3,D.not_mem h2,h4,h5,k1,k2,h7⟩
theorem Sc {base:Nat} {w:World} {v:Value} {r:Tr.Rec} (h:bH base w v [r]):∃ g c,v=.slice (some ⟨g,0,none⟩) 1 c∧w.cell? ⟨g,0,none⟩=some (.int .i64 r.kind):=by
 obtain⟨A,c,rfl⟩:=aF (aG h);obtain⟨g,rfl,_,hc⟩:=jX (aG h) (show 0<[r].length by simp);exact⟨g,c,rfl,hc 0 _ rfl⟩
theorem Nl {a:UInt8} (h:a.toNat≤127) (r:List UInt8):bD.rep (a::r)=a::bD.rep r:=by
 have hs:bD.size (a::r)=1:=bD.gL (.one a r h);rw[bD.wh (by omega),hs];rfl
theorem Hw {c:UInt8} (h1:97≤c.toNat) (h2:c.toNat≤122) (h3:Nm.bad c=false):Nm.elem ⟨#[c]⟩=true:=by
 unfold Nm.elem;show (decide (97≤c.toNat) && decide (c.toNat≤122) && Nm.plain ⟨#[c]⟩)=true;rw[decide_eq_true h1,decide_eq_true h2];unfold Nm.plain;rw[show (⟨#[c]⟩:ByteArray).data.toList=[c] from rfl,Nl (by omega),bD.oJ];simp[h3]
theorem Sd {c:UInt8} (h:Nm.elem ⟨#[c]⟩=true):VO ⟨#[c]⟩:=⟨by show 1≤20000;omega,h⟩
theorem abt:VO ⟨#[112]⟩:=Sd (Hw (by decide) (by decide) (by decide))
theorem Cy (w:World) (hT:Lit w):
  Calls Tryz.prog 4 #[] w fun e w'=>e=.returned (.bool true)∧Below w.heap.size w w':=by
 go_enter Tryz.func4,Tryz.ntmps4
 go_wp2_with fail;refine (Lh 0 0 w).mono ?_;rintro e w1 ⟨B,vs,vf,rfl,hm,hS,hw,hb1⟩;have hH:Ar.hdl 0 0 0≠0:=by have:=(oD (b:=0) (s:=0) (i:=0) (by omega)).1;intro e;rw[show ((0:Nat):Int)=0 from rfl,e] at this;omega
 obtain⟨root,hroot⟩:=eX (Ar.hdl 0 0 0)
 rw[hroot] at hm hS hw hH;have D:Tr.Deep (Tr.dI Bu root pz) root [] [] VO:=Tr.Deep.start hH;obtain⟨g,hg⟩:=eX (Tr.dI Bu root pz)
 rw[hg] at hm hS D;obtain⟨_,_,_,_,_,r5⟩:=hm.cells;have HMK:=zh (Sb w.heap.size B 0 0 root 1 1 g [] vs vf [] [] ⟨#[112]⟩ w1 hm hS D hb1.size (by omega) (by omega) abt (hT.below hb1));have hlo:=fun k hk=>(hm.lt k hk).1;clear hS hw hroot hg;go_wp2_with fail;refine HMK.out.mono ?_;rintro e w2 ⟨h,g2,vs2,Td,n2,Zy,rfl,h1,h2,h3,hm2,hS2,D2,L2,hst⟩;have hb2:Below w.heap.size w w2:=hb1.trans (hst.1.below hb1.size hlo);obtain⟨_,_,_,_,_,r52⟩:=hm2.cells;have hlen1:(([]:List Int)++[root]).length+[h].length≤128:=by simp
 have hr:h≠root:=fun e=>h3 (by rw[e];simp);have HI:=zh (Nk w.heap.size B 0 0 root root h 2 n2 g2 Zy vs2 Td [] [] [] [] VO w2 hm2 hS2 D2 D2.main L2 (by simp[Ne.symm hr]) hr hlen1);have hlo2:=fun k hk=>(hm2.lt k hk).1;have hq:(h == 0)=false:=by simpa using h2
 have hq2:(h != 0)=true:=by simpa using h2
 clear hm hS2 D L2 r5 hlo D2 h3 hr HMK hst h2;go_wp2_with fail;refine HI.out.mono ?_;rintro e w3 ⟨v,rfl,hrr,_,_,Y9⟩;obtain⟨gr,cr,rfl,hk⟩:=Sc hrr;have hk1:w3.cell? ⟨gr,0,none⟩=some (.int .i64 1):=hk;have hb3:Below w.heap.size w w3:=hb2.trans (Y9.1.below hb2.size hlo2);clear HI hrr Y9 hk;go_wp2_with fail
 go_ret
 exact⟨rfl,hb3⟩
end
section
open Go.RowKit Go.Shelf
attribute [local go_sem] Oper.semAt_some
theorem Sg (base B bt bh:Nat) (b s root h:Int) (live n:Nat) (g:Tr.G) (av:Int→Tr.Sl) (fr:List Nat) (vs vf:Value) (w:World) (hS:Sound b s n (Tr.raw g av) fr live) (hw:Tr.WF 0 g) (hh:kM h) (hL:LS base B bt bh b s h vs n (Tr.raw g av) vf fr live root w) (AQ:(Tr.aY g h).length≤100000):
  Calls Tryz.prog 108 #[.slice none 0 0,.func (.func 84) #[] #[.pointer (some ⟨bh,0,none⟩),.pointer (some ⟨bt,0,none⟩)]] w fun e w'=>∃ v,e=.returned v∧w'.ownsRow w.heap.size 3 1 v (Tr.aY g h).length (ints (Tr.aY g h))∧Below w.heap.size w w':=by
 obtain⟨i0,hi,hz0,hz1,hz2⟩:=info_parts uZ;have hlt:=hL.tree.lt;have He:=hL.bt.lt;have Hf:=hL.bh.lt;obtain⟨w1,hw1⟩:=eX (w.alloc (.cells #[.slice none 0 0] 31))
 have hz1':w1.heap.size=w.heap.size+1:=by rw[←hw1];simp
 have hb1:Below w.heap.size w w1:=gU hw1;have hX1:Boxed w1 w.heap.size 31 (.slice none 0 0):=by rw[←hw1];exact Boxed.new w _ _
 have hL1:=hL.below hb1;have hseq:=EF hS hw hh 7 (by omega) w1 hL1;have hm1:¬ aD B vs vf w.heap.size:=fun hk=>by have:=(hlt _ hk).2;omega
 have HL:=zh hL1;clear hL hL1;refine (callsIn_wide (n:=8)).1 ?_;refine callsIn_of_wp_marks Tryz.func108 rfl trivial ?_ rfl;simp only[Tryz.ntmps108,pT,Nat.reduceAdd,Nat.reduceSub]
 gi_wp2_with fail
 (try rw[hw1]);(try gi_wp2_with fail);refine wpIn_rangeFunc_ownF (w:=w1) rfl (by decide) (gf:=84) (lb:=#[.pointer (some ⟨bh,0,none⟩),.pointer (some ⟨bt,0,none⟩)]) rfl trivial (enters_of Tryz.func84 (by kernel_rfl) rfl) hseq LS.pJ (LS.qP _) (Below.refl _ _) (fun _=>rfl)
  (fun pre W=>(∃ v,Boxed W w.heap.size 31 v∧W.ownsRow (w.heap.size+1) 3 1 v pre.length (ints (pre.map (·.1))))∧LS base B bt bh b s h vs n (Tr.raw g av) vf fr live root W∧Below w.heap.size w W) (fun _ _ _=>False)
  ?hI ?hIx ⟨⟨_,hX1,World.ownsRow_nil _ _ _ _⟩,HL.out,hb1⟩ (fun x=>{ tmps:=#[.slice none 0 0,.func (.func 84) #[] #[.pointer (some ⟨bh,0,none⟩),.pointer (some ⟨bt,0,none⟩)],.pointer (some ⟨w.heap.size,0,none⟩),undef,.slice none 0 0,.int .i64 x.1,.func (.func 84) #[] #[.pointer (some ⟨bh,0,none⟩),.pointer (some ⟨bt,0,none⟩)],.int .i64 x.1,undef,undef,undef,undef,undef],defers:=[] }) ?assign ?body ?done ?stop
 case hI=>
  rintro pre W W' row ⟨⟨v,h1,h2⟩,h3,h4⟩ hg hr;refine⟨⟨v,h1.kept hg (fun e'=>?_),h2.kept hg ?_⟩,h3.others hg (fun r e=>(hr r e).2),h4.grown hg h4.size (fun r e=>by have:=(hr r e).1;omega)⟩
  ·obtain⟨o,ho,hc⟩:=(hr _ e'.symm).2;rw[show W.heap[w.heap.size]?=_ from h1] at ho;cases ho;cases hc
  ·rcases h2.2 with ⟨rfl,_⟩ | ⟨g,cap,cur,rfl,_,hgb,_⟩
   ·exact .inl rfl
   ·refine .inr fun e'=>?_;obtain⟨o,ho,hc⟩:=(hr g (by rw[←e'];rfl)).2;rw[hgb] at ho;cases ho;cases hc
 case hIx=>intro c pre W W' row h _ _;exact h
 case assign=>
  intro l x W K hK
  gi_wp2
  first | exact hK | simpa using hK
 case body=>
  rintro l pre x W ⟨⟨v,hv,hrow⟩,kJ,hBW⟩ hlen;obtain⟨Av,cv,rfl⟩:=aF (aG hrow);have hc:=hv.cell;have hfz:=hv.frozen;have hpl:pre.length≤100000:=by omega
  have hsz:w.heap.size+1≤W.heap.size:=hv.lt;have hrow':=hrow.alloc (.cells #[.int .i64 x.1] 3);have Y0:=zh kJ;have Bn:=zh hBW;have HV:=zh hv;have zS:=zh hrow;clear kJ hBW hrow
  gi_wp2_with (gi_at_builtin;refine wpListIn_append_own _ rfl _ _ 31 rfl (w.heap.size+1) 3 i0 (.int .i64 0) 1 8 Tryz.underlying31 hi hz0 hz1 hz2 rfl (by decide) _ _ _ rfl hrow' ⟨W.heap.size,0,none⟩ 1 1 [.int .i64 x.1] rfl rfl (ji _ _ _) (by simp[Value.oneCell']) ?c1 ?c2 ?c3 ?_)
  case c1=>unfold maxLen;omega
  case c2=>omega
  case c3=>rw[World.size_alloc];omega
  intro v2 w2 o2 g2 _;have hmap:ints pre.unattach++[.int .i64 x.1]=ints ((pre++[x]).map (·.1)):=by rw[List.map_append];exact xI _ _
  rw[hmap] at o2;obtain⟨A2,c2,rfl⟩:=aF (aG o2);have oF:=fq zS.out (Nat.le_succ w.heap.size);obtain⟨q1,q2,_,q4,q5⟩:=Boxed.appended HV.out (by decide) oF (by omega) (Nat.le_refl _) (fq o2 (Nat.le_succ w.heap.size)) g2;have q3:=o2.kept (grownBy_setCell' w2 w.heap.size (.slice A2 (pre.length+1) c2)) (.inr (q1.not_row (by decide) o2).symm);have qc:=q1.cell;have qf:=q1.frozen;have HL2:=zh (LS.xH Y0.out q5 hlt He Hf);have HK:Hid (LS base B bt bh b s h vs n (Tr.raw g av) vf fr live root W→LS base B bt bh b s h vs n (Tr.raw g av) vf fr live root (w2.setCell ⟨w.heap.size,0,none⟩ (.slice A2 (pre.length+1) c2))):=zh (fun H=>LS.xH H q5 hlt He Hf);have HB2:=zh (Bn.out.trans q5);have Q2:=zh q2;have Q3:=zh q3;have Q4:=zh q4;clear q2 q3 q4 q5 q1 oF o2 g2
  gi_wp2_with fail
  exact⟨Q4.out,HK.out,⟨_,Q2.out,by rw[List.length_append];exact Q3.out⟩,HL2.out,HB2.out⟩
 case done=>
  rintro D xs W hD rfl ⟨⟨v,hv,hrow⟩,kJ,hBW⟩ hK;obtain⟨Av,cv,rfl⟩:=aF (aG hrow);rw[List.length_attach] at hv;have hc:=hv.cell;have hr2:W.ownsRow w.heap.size 3 1 (.slice Av (Tr.aY g h).length cv) (Tr.aY g h).length (ints (Tr.aY g h)):=by
   rw[List.length_attach,List.attach_map_subtype_val] at hrow;exact fq hrow (by omega)
  have HB:=zh (And.intro (ownsRow_putObj hr2 (.deferred none) hK rfl) (hBW.trans (belowK_b (w:=w) (Nat.le_refl _) W D _ (.deferred none) (by omega) hK rfl rfl)));clear hrow hr2 kJ hBW hv
  gi_wp2_with fail
  refine⟨by simp,.inl ⟨_,_,rfl,run_takeDeferred hK,?_⟩⟩;exact⟨_,results_tmp rfl _ _ _,.slice Av (Tr.aY g h).length cv,rfl,HB.out.1,HB.out.2⟩
 case stop=>
  rintro D c pre W _ _ h _;exact h.elim
theorem Si (base B bt bh:Nat) (b s root h:Int) (live n:Nat) (g:Tr.G) (av:Int→Tr.Sl) (fr:List Nat) (vs vf:Value) (w:World) (hS:Sound b s n (Tr.raw g av) fr live) (hw:Tr.WF 0 g) (hh:kM h) (hL:LS base B bt bh b s h vs n (Tr.raw g av) vf fr live root w) (AQ:(Tr.aY g h).length≤100000):
  Calls Tryz.prog 80 #[.func (.func 84) #[] #[.pointer (some ⟨bh,0,none⟩),.pointer (some ⟨bt,0,none⟩)]] w fun e w'=>∃ v,e=.returned v∧w'.ownsRow w.heap.size 3 1 v (Tr.aY g h).length (ints (Tr.aY g h))∧Below w.heap.size w w':=by
 have hA:=Sg base B bt bh b s root h live n g av fr vs vf w hS hw hh hL AQ;clear hL hS
 go_enter Tryz.func80,Tryz.ntmps80
 go_wp2_with fail;refine hA.mono ?_;rintro e w1 ⟨v,rfl,ho,hb⟩;obtain⟨A,c,rfl⟩:=aF (aG ho);have HO:=zh (And.intro ho hb);clear ho hb hA;go_wp2_with fail
 go_ret
 exact⟨_,rfl,HO.out.1,HO.out.2⟩
theorem Sj (base B:Nat) (b s root h:Int) (live n:Nat) (g:Tr.G) (av:Int→Tr.Sl) (fr:List Nat) (vs vf:Value) (w:World) (hM:TV base w B b s vs n (Tr.raw g av) vf fr live root) (hS:Sound b s n (Tr.raw g av) fr live) (hw:Tr.WF 0 g) (hh:kM h) (AQ:(Tr.aY g h).length≤100000):
  Calls Tryz.prog 80 #[.func (.func 84) #[] #[.pointer (some ⟨w.heap.size+1,0,none⟩),.pointer (some ⟨w.heap.size,0,none⟩)]] ((w.alloc (.cells #[.pointer (some ⟨B,0,none⟩)] 29)).alloc (.cells #[.int .i64 h] 3)) fun e w'=>∃ v,e=.returned v∧w'.ownsRow w.heap.size 3 1 v (Tr.aY g h).length (ints (Tr.aY g h))∧Below w.heap.size w w':=by
 refine (Si base B w.heap.size (w.heap.size+1) b s root h live n g av fr vs vf _ hS hw hh (LS.made hM) AQ).mono ?_;rintro e w1 ⟨v,rfl,ho,hb⟩;have h2:w.heap.size≤((w.alloc (.cells #[.pointer (some ⟨B,0,none⟩)] 29)).alloc (.cells #[.int .i64 h] 3)).heap.size:=by simp only[World.size_alloc];omega
 exact⟨v,rfl,fq ho h2,(((Below.refl _ w).alloc (Nat.le_refl _) _).alloc (by simp only[World.size_alloc];omega) _).trans (hb.mono h2)⟩
theorem Lj (base B:Nat) (b s root h:Int) (live n:Nat) (g:Tr.G) (av:Int→Tr.Sl) (fr:List Nat) (vs vf:Value) (w:World) (hM:TV base w B b s vs n (Tr.raw g av) vf fr live root) (hS:Sound b s n (Tr.raw g av) fr live) (hw:Tr.WF 0 g) (hh:kM h):
  Calls Tryz.prog 36 #[.pointer (some ⟨B,0,none⟩),.int .i64 h] w fun e w'=>∃ v,e=.returned v∧w'.ownsRow w.heap.size 3 1 v (Tr.aY g h).length (ints (Tr.aY g h).reverse)∧Below w.heap.size w w':=by
 have AQ:=(hw.bY h).2;have hA:=ze B h w;have HC:=zh (Sj base B b s root h live n g av fr vs vf w hM hS hw hh (by omega));clear hM hS hw
 go_enter Tryz.func36,Tryz.ntmps36
 go_wp2_with fail;refine hA.mono ?_;rintro e w1 ⟨rfl,rfl⟩;clear hA;go_wp2_with fail;refine HC.out.mono ?_;rintro e w2 ⟨v,rfl,ho,hb⟩;by_cases hv:v=.slice none 0 0
 ·subst hv;have hl0:Tr.aY g h=[]:=by
   rcases ho.2 with ⟨_,hx⟩ | ⟨_,_,_,e0,_⟩
   ·simpa [ints] using hx
   ·cases e0
  have X:=zh (And.intro ho hb);have hrev:=Any.slices_Reverse_int_empty Tryz.K6 none 0 w2;clear ho hb HC;go_wp2_with fail;refine hrev.mono ?_;rintro e w3 ⟨rfl,rfl⟩;clear hrev;go_wp2_with fail
  go_ret
  refine⟨_,rfl,?_,X.out.2⟩;have:=X.out.1;rw[hl0] at this ⊢;exact this
 ·obtain⟨A,c,rfl,hbg,hgl,_,hcm,_,hH⟩:=Lib.holds_of_ownsRow ho hv;have hrev:=Any.slices_Reverse_int Tryz.K6 A 0 c (Tr.aY g h) w2 hH (by omega);have X:=zh (And.intro ho (And.intro hb hbg));clear ho hb HC hH;go_wp2_with fail;refine hrev.mono ?_;rintro e w3 ⟨rfl,q,rfl⟩;clear hrev;go_wp2_with fail
  go_ret
  have h1:=Lib.ownsRow_putRow (q:=q) (ys:=(Tr.aY g h).reverse) X.out.1 (by simp) (Nat.le_refl _);rw[List.take_of_length_le (by simp)] at h1;exact⟨_,rfl,h1,Lib.below_putRow X.out.2.1 X.out.2.2⟩
end
section
open Go.RowKit Go.Shelf
attribute [local go_sem] Oper.semAt_some
def rz (I:Int→Int):List Int→List Int→Int
 | x::xs,y::ys=>if x=y then rz I xs ys else AZ (I x) (I y)
 | xs,ys=>AZ xs.length ys.length
def SL (w:World) (v:Value) (l:List Int):Prop:=∃ a c,v=.slice a l.length c∧l.length≤c∧c≤maxLen∧(l=[]∨∃ g o,a=some ⟨g,o,none⟩∧∀ j x,l[j]?=some x→w.cell? ⟨g,o+j,none⟩=some (.int .i64 x))
def Za:Value→Nat | .slice _ n _=>n | _=>0
theorem SL.own {w:World} {base:Nat} {v:Value} {l:List Int} (h:w.ownsRow base 3 1 v l.length (ints l)):SL w v l:=by
 have h0:=h;rcases h.2 with ⟨rfl,h1⟩ | ⟨g,cap,cur,rfl,hb,hg,hn,hm,hs,ht⟩
 ·refine⟨none,0,by rw[h1],by omega,by unfold maxLen;omega,.inl (List.length_eq_zero_iff.1 h1)⟩
 ·refine⟨_,cap,rfl,hn,hm,.inr ⟨g,0,rfl,fun j x hj=>?_⟩⟩;have hjl:j<l.length:=(List.getElem?_eq_some_iff.1 hj).1;have e1:(cur.toList.take (l.length*1))[j]?=(ints l)[j]?:=by rw[ht]
  rw[List.getElem?_take,if_pos (by omega),Array.getElem?_toList] at e1;simp only[World.cell?,hg,Nat.zero_add,Option.isSome_none,Bool.false_eq_true,if_false];rw[e1];simp[ints,hj]
theorem SL.below {w w':World} {v:Value} {l:List Int} (h:SL w v l) (hb:Below w.heap.size w w'):SL w' v l:=by
 obtain⟨a,c,e,h1,h2,h3⟩:=h;refine⟨a,c,e,h1,h2,h3.imp id ?_⟩;rintro⟨g,o,ea,hc⟩;refine⟨g,o,ea,fun j x hj=>?_⟩;have h0:=hc j x hj;have hg:g<w.heap.size:=by
  rcases Nat.lt_or_ge g w.heap.size with h' | h'
  ·exact h'
  ·simp[World.cell?,Array.getElem?_eq_none h'] at h0
 simpa [World.cell?,hb.block g hg] using h0
theorem SL.cons {w:World} {v:Value} {x:Int} {l:List Int} (h:SL w v (x::l)):∃ g o n c,v=.slice (some ⟨g,o,none⟩) n c∧l.length+1=n∧w.cell? ⟨g,o,none⟩=some (.int .i64 x)∧n≤c∧c≤maxLen∧SL w (.slice (if c=1 then some ⟨g,o,none⟩ else some ⟨g,o+1,none⟩) (n - 1) (c - 1)) l:=by
 obtain⟨a,c,e,h1,h2,h3⟩:=h;rcases h3 with h3 | ⟨g,o,rfl,hc⟩
 ·cases h3
 ·rw[List.length_cons] at h1 e;refine⟨g,o,_,c,e,rfl,hc 0 x rfl,h1,h2,_,c - 1,rfl,by omega,by omega,?_⟩;by_cases h5:c=1
  ·exact .inl (List.length_eq_zero_iff.1 (by omega))
  ·refine .inr ⟨g,o+1,by rw[if_neg h5],fun j y hj=>?_⟩;have:=hc (j+1) y (by simpa using hj)
   rwa [Nat.add_assoc,Nat.add_comm 1 j]
theorem nC {w w':World} {b o:Nat} {v:Value} (h:w.cell? ⟨b,o,none⟩=some v) (hb:Below w.heap.size w w'):w'.cell? ⟨b,o,none⟩=some v:=by
 have hg:b<w.heap.size:=by
  rcases Nat.lt_or_ge b w.heap.size with h' | h'
  ·exact h'
  ·simp[World.cell?,Array.getElem?_eq_none h'] at h
 simpa [World.cell?,hb.block b hg] using h
theorem Hy (I:Int→Int) (l:List Int):rz I [] l=AZ 0 l.length:=by unfold rz;rfl
theorem Dl (I:Int→Int) (l:List Int):rz I l []=AZ l.length 0:=by cases l<;>rfl
theorem Sk (base B:Nat) (b s root x y:Int) (live n:Nat) (g:Tr.G) (av:Int→Tr.Sl) (fr:List Nat) (vs vf:Value) (w:World) (hM:TV base w B b s vs n (Tr.raw g av) vf fr live root) (hS:Sound b s n (Tr.raw g av) fr live) (hw:Tr.WF 0 g) (hx:kM x) (hy:kM y) (hne:Tr.dN (Tr.aY g x)≠0) (heq:Tr.dN (Tr.aY g x)=Tr.dN (Tr.aY g y)):
  Calls Tryz.prog 8 #[.pointer (some ⟨B,0,none⟩),.int .i64 x,.int .i64 y] w fun e w'=>e=.returned (.tuple #[.int .i64 (rz (Tr.eF g) (Tr.aY g x).reverse (Tr.aY g y).reverse),.int .i64 0])∧Below w.heap.size w w':=by
 obtain⟨T,hT⟩:=eX (Tr.dN (Tr.aY g x))
 have h1:=vF base B b s root x live n g av fr vs vf w hM hS hw hx;rw[hT] at h1 hne heq;have hq:(T == 0)=false:=by simpa using hne
 have hq2:(T != T)=false:=by simp
 have HM:=zh hM;have HS:=zh hS;have HE:=zh heq;clear hM hS heq hT
 go_enter Tryz.func8,Tryz.ntmps8
 go_wp2_with fail;refine h1.mono ?_;rintro e w1 ⟨rfl,hb1⟩;clear h1;have WH:=zh (HM.out.below hb1);have HB1:=zh hb1;have h2:=vF base B b s root y live n g av fr vs vf w1 WH.out HS.out hw hy;rw[←HE.out] at h2;clear hb1;go_wp2_with fail;refine h2.mono ?_;rintro e w2 ⟨rfl,hb2⟩;clear h2;have HM2:=zh (WH.out.below hb2);have HB2:=zh (HB1.out.trans (hb2.mono HB1.out.size));have h3:=Lj base B b s root x live n g av fr vs vf w2 HM2.out HS.out hw hx;clear hb2;go_wp2_with fail;refine h3.mono ?_;rintro e w3 ⟨v3,rfl,ho3,hb3⟩;clear h3;have Uo:=zh (HM2.out.below hb3);have HB3:=zh (HB2.out.trans (hb3.mono HB2.out.size));have h4:=Lj base B b s root y live n g av fr vs vf w3 Uo.out HS.out hw hy;have HO3:=zh ho3;obtain⟨A3,c3,rfl⟩:=aF (aG ho3);clear hb3 ho3;go_wp2_with fail;refine h4.mono ?_;rintro e w4 ⟨v4,rfl,ho4,hb4⟩;clear h4;have RQ:=zh (Uo.out.below hb4);have ow:=zh (HB3.out.trans (hb4.mono HB3.out.size));have uH:=zh (SL.below (SL.own (l:=(Tr.aY g x).reverse) (by rw[List.length_reverse];exact HO3.out)) hb4);have uJ:=zh (SL.own (l:=(Tr.aY g y).reverse) (by rw[List.length_reverse];exact ho4));obtain⟨A4,c4,rfl⟩:=aF (aG ho4);clear hb4 ho4;go_wp2_with fail
 go_loopw [9,10] (fun xv yv wr=>Below w.heap.size w wr∧TV base wr B b s vs n (Tr.raw g av) vf fr live root∧∃ lx ly,SL wr xv lx∧SL wr yv ly∧rz (Tr.eF g) (Tr.aY g x).reverse (Tr.aY g y).reverse=rz (Tr.eF g) lx ly∧∀ z,z∈lx∨z∈ly→kM z) (fun xv _ _=>Za xv)
 case atStart=>exact⟨ow.out,RQ.out,_,_,uH.out,uJ.out,rfl,fun z hz=>(bN HS.out (h:=z) (by rw[aM];rcases hz with hz | hz;exact (hw.bY x).1.mem (List.mem_reverse.1 hz);exact (hw.bY y).1.mem (List.mem_reverse.1 hz))).1⟩
 case round=>
  obtain⟨hbr,hmr,lx,ly,hX,hY,hC,hI⟩:=hrel;have HC:=zh hC;have Tf:=zh hX;have HYY:=zh hY;have QD:=zh hbr;have HMR:=zh hmr;have HI:=zh hI;clear hC uH uJ HO3 hbr hmr hI;cases lx with
  | nil=>
   obtain⟨xa,xc,rfl,_⟩:=hX;obtain⟨ya,yc,rfl,_⟩:=hY;have HV:=zh (HC.out.trans (Hy _ _));have hd:decide ((0:Int)<((0:Nat):Int))=false:=by simp
   have hz:((((0:Nat):Int)) == 0)=true:=by simp
   simp only[List.length_nil];clear Tf HYY HI;go_wp2_with fail
   go_quiet (fail)
   go_wp2_with fail;refine (sO _ _ _).mono ?_;rintro e w5 ⟨rfl,rfl⟩;go_wp2_with fail;go_ret2;exact⟨by simp[HV.out],QD.out.trans ⟨rfl,rfl,rfl,Nat.le_refl _,fun _ _=>rfl⟩⟩
  | cons x0 lx=>
   obtain⟨gx,ox,nx,cx,rfl,hnx,hcx,hlx,hmx,hSx⟩:=hX.cons;have Wo:=zh hSx;have hzx:((nx:Int) == 0)=false:=by simp;omega
   have h0x:(0:Int)<(nx:Int):=by omega
   have abu:0<nx:=by omega
   have h1x:1≤nx:=abu;cases ly with
   | nil=>
    obtain⟨ya,yc,rfl,_⟩:=hY;have HV:=zh (HC.out.trans ((Dl _ _).trans (by rw[List.length_cons,hnx])):_=AZ nx 0);have hd2:decide ((0:Int)<((0:Nat):Int))=false:=by simp
    have hz:((((0:Nat):Int)) == 0)=true:=by simp
    simp only[List.length_nil];clear Tf HYY HI Wo hSx hX;go_wp2_with fail
    go_quiet (fail)
    go_wp2_with fail;refine (sO _ _ _).mono ?_;rintro e w5 ⟨rfl,rfl⟩;go_wp2_with fail;go_ret2;exact⟨by simp[HV.out],QD.out.trans ⟨rfl,rfl,rfl,Nat.le_refl _,fun _ _=>rfl⟩⟩
   | cons y0 ly=>
    obtain⟨gy,oy,ny,cy,rfl,hny,hcy,hly,hmy,hSy⟩:=hY.cons;have HSY:=zh hSy;have hzy:((ny:Int) == 0)=false:=by simp;omega
    have h0y:(0:Int)<(ny:Int):=by omega
    have abv:0<ny:=by omega
    have h1y:1≤ny:=abv;clear hX hY hSx hSy;by_cases hxy:x0=y0
    ·subst hxy;have hqq:(x0 == x0)=true:=by simp
     have hcc:rz (Tr.eF g) (x0::lx) (x0::ly)=rz (Tr.eF g) lx ly:=by rw[rz,if_pos rfl]
     have HV:=zh (HC.out.trans hcc);clear hcc;go_wp2_with fail
     go_quiet (fail)
     go_wp2_with fail
     go_quiet (fail)
     go_wp2_with fail
     go_roundw
     case rel=>
      have hbq:∀ q q',Below wr.heap.size wr ((wr.drewN q).drewN q'):=fun q q'=>⟨rfl,rfl,rfl,Nat.le_refl _,fun _ _=>rfl⟩
      exact⟨QD.out.trans ((hbq _ _).mono QD.out.size),HMR.out.below (hbq _ _),lx,ly,Wo.out.below (hbq _ _),HSY.out.below (hbq _ _),HV.out,fun z hz=>HI.out z (hz.imp (List.mem_cons_of_mem _) (List.mem_cons_of_mem _))⟩
     case measure=>
      show nx - 1<nx;omega
    ·have hqq:(x0 == y0)=false:=by simpa using hxy
     have hcc:rz (Tr.eF g) (x0::lx) (y0::ly)=AZ (Tr.eF g x0) (Tr.eF g y0):=by rw[rz,if_neg hxy]
     have HV:=zh (HC.out.trans hcc);clear hcc;go_wp2_with fail
     go_quiet (fail)
     go_wp2_with fail;have hix:=HI.out x0 (.inl (List.mem_cons_self ..));have hiy:=HI.out y0 (.inr (List.mem_cons_self ..));obtain⟨ix,hxi⟩:=eX (Tr.eF g x0)
     obtain⟨iy,hyi⟩:=eX (Tr.eF g y0)
     have hq:∀ q,Below wr.heap.size wr (wr.drewN q):=fun q=>⟨rfl,rfl,rfl,Nat.le_refl _,fun _ _=>rfl⟩
     have hsS:∀ W W',(W.cell? ⟨gx,ox,none⟩=some (.int .i64 x0)∧W.cell? ⟨gy,oy,none⟩=some (.int .i64 y0)∧Below wr.heap.size wr W)→Below W.heap.size W W'→(W'.cell? ⟨gx,ox,none⟩=some (.int .i64 x0)∧W'.cell? ⟨gy,oy,none⟩=some (.int .i64 y0)∧Below wr.heap.size wr W'):=fun W W' h hb=>⟨nC h.1 hb,nC h.2.1 hb,h.2.2.trans (hb.mono h.2.2.size)⟩
     have hs1:∀ W:World,(W.cell? ⟨gx,ox,none⟩=some (.int .i64 x0)∧W.cell? ⟨gy,oy,none⟩=some (.int .i64 y0)∧Below wr.heap.size wr W)→Calls Tryz.prog 38 #[.pointer (some ⟨B,0,none⟩),.int .i64 x0] W fun e w'=>e=.returned (.int .i64 ix)∧(w'.cell? ⟨gx,ox,none⟩=some (.int .i64 x0)∧w'.cell? ⟨gy,oy,none⟩=some (.int .i64 y0)∧Below wr.heap.size wr w'):=fun W h=>(xD base B b s root x0 live n g av fr vs vf W (HMR.out.below h.2.2) HS.out hw hix).mono fun _ _ ⟨e1,e2⟩=>⟨by rw[←hxi];exact e1,hsS _ _ h e2⟩
     have hs2:∀ W:World,(W.cell? ⟨gx,ox,none⟩=some (.int .i64 x0)∧W.cell? ⟨gy,oy,none⟩=some (.int .i64 y0)∧Below wr.heap.size wr W)→Calls Tryz.prog 38 #[.pointer (some ⟨B,0,none⟩),.int .i64 y0] W fun e w'=>e=.returned (.int .i64 iy)∧(w'.cell? ⟨gx,ox,none⟩=some (.int .i64 x0)∧w'.cell? ⟨gy,oy,none⟩=some (.int .i64 y0)∧Below wr.heap.size wr w'):=fun W h=>(xD base B b s root y0 live n g av fr vs vf W (HMR.out.below h.2.2) HS.out hw hiy).mono fun _ _ ⟨e1,e2⟩=>⟨by rw[←hyi];exact e1,hsS _ _ h e2⟩
     have hs0:wr.cell? ⟨gx,ox,none⟩=some (.int .i64 x0)∧wr.cell? ⟨gy,oy,none⟩=some (.int .i64 y0)∧Below wr.heap.size wr wr:=⟨hcx,hcy,Below.refl _ _⟩
     have Sm:∀ q,(wr.drewN q).cell? ⟨gx,ox,none⟩=some (.int .i64 x0)∧(wr.drewN q).cell? ⟨gy,oy,none⟩=some (.int .i64 y0)∧Below wr.heap.size wr (wr.drewN q):=fun q=>hsS _ _ hs0 (hq q);have VP:∀ q,(wr.drewN q).drew.cell? ⟨gx,ox,none⟩=some (.int .i64 x0)∧(wr.drewN q).drew.cell? ⟨gy,oy,none⟩=some (.int .i64 y0)∧Below wr.heap.size wr (wr.drewN q).drew:=fun q=>hsS _ _ (Sm q) ⟨rfl,rfl,rfl,Nat.le_refl _,fun _ _=>rfl⟩;rw[hxi,hyi] at HV;clear hcx hcy
     go_region_held3 (fun W=>W.cell? ⟨gx,ox,none⟩=some (.int .i64 x0)∧W.cell? ⟨gy,oy,none⟩=some (.int .i64 y0)∧Below wr.heap.size wr W) (first | assumption | exact VP _ | exact Sm _ | exact hs0)
      (first | (go_at_call_of 38 (Value.int IntKind.i64 x0);refine (hs1 _ ?_).mono ?_;(first | assumption | exact VP _ | exact Sm _);rintro e w9 ⟨rfl,Yp⟩) | (go_at_call_of 38 (Value.int IntKind.i64 y0);refine (hs2 _ ?_).mono ?_;(first | assumption | exact VP _ | exact Sm _);rintro e w9 ⟨rfl,Yp⟩) | (go_at_call 37;refine (sO _ _ _).mono ?_;rintro e w9 ⟨rfl,rfl⟩))
     rename_i hS2;go_wp2_with fail;go_ret2;exact⟨by simp[HV.out],QD.out.trans (hS2.2.2.mono QD.out.size)⟩
theorem P5 (base B:Nat) (b s root x y:Int) (live n:Nat) (g:Tr.G) (av:Int→Tr.Sl) (fr:List Nat) (vs vf:Value) (w:World) (hM:TV base w B b s vs n (Tr.raw g av) vf fr live root) (hS:Sound b s n (Tr.raw g av) fr live) (hw:Tr.WF 0 g) (hx:kM x) (hy:kM y) (hne:Tr.dN (Tr.aY g x)=0∨Tr.dN (Tr.aY g x)≠Tr.dN (Tr.aY g y)):
  Calls Tryz.prog 8 #[.pointer (some ⟨B,0,none⟩),.int .i64 x,.int .i64 y] w fun e w'=>e=.returned (.tuple #[.int .i64 0,.int .i64 6])∧Below w.heap.size w w':=by
 have h1:=vF base B b s root x live n g av fr vs vf w hM hS hw hx;by_cases hz:Tr.dN (Tr.aY g x)=0
 ·rw[hz] at h1;clear hM hS hne hz
  go_enter Tryz.func8,Tryz.ntmps8
  go_wp2_with fail;refine h1.mono ?_;rintro e w1 ⟨rfl,hb1⟩;clear h1;go_wp2_with fail;go_ret2;exact⟨by simp,hb1⟩
 ·have hd:=hne.resolve_left hz;obtain⟨T,hT⟩:=eX (Tr.dN (Tr.aY g x))
  obtain⟨U,hU⟩:=eX (Tr.dN (Tr.aY g y))
  rw[hT] at h1 hz hd;rw[hU] at hd;have hq:(T == 0)=false:=by simpa using hz
  have hq2:(T != U)=true:=by simpa using hd
  have HM:=zh hM;have HS:=zh hS;have HU:=zh hU;clear hM hS hne hT hU
  go_enter Tryz.func8,Tryz.ntmps8
  go_wp2_with fail;refine h1.mono ?_;rintro e w1 ⟨rfl,hb1⟩;clear h1;have h2:=vF base B b s root y live n g av fr vs vf w1 (HM.out.below hb1) HS.out hw hy;rw[HU.out] at h2;have HB1:=zh hb1;clear hb1;go_wp2_with fail;refine h2.mono ?_;rintro e w2 ⟨rfl,hb2⟩;clear h2;have HB2:=zh (HB1.out.trans (hb2.mono HB1.out.size));clear hb2;go_wp2_with fail;go_ret2;exact⟨by simp,HB2.out⟩
end
section
theorem uL {x y:Int} (h:x<y):AZ x y = -1:=by unfold AZ;rw[if_pos h]
theorem uM {x y:Int} (h:y<x):AZ x y=1:=by unfold AZ;rw[if_neg (by omega),if_pos h]
theorem vG (x:Int):AZ x x=0:=by unfold AZ;rw[if_neg (by omega),if_neg (by omega)]
theorem Ll (x y k:Int):AZ (x+k) (y+k)=AZ x y:=by
 rcases Int.lt_trichotomy x y with h | h | h
 ·rw[uL h,uL (by omega)]
 ·rw[h,vG,vG]
 ·rw[uM h,uM (by omega)]
theorem wF {c x:Int} {l:List Int} (h:x≠c):(c::l).idxOf x=l.idxOf x+1:=by
 have:(c == x)=false:=by simpa using fun e=>h e.symm
 rw[List.idxOf_cons,this];rfl
theorem Dm {F:Int→List Int} {l1 l2:List Int} {k x:Int} (hd:((l1++k::l2).flatMap F).Nodup) (hx:x∈F k):x∉l1.flatMap F:=by
 rw[List.flatMap_append,List.flatMap_cons,List.nodup_append] at hd;exact fun h=>hd.2.2 x h x (List.mem_append_left _ hx) rfl
theorem J8 {F:Int→List Int} {l1 l2:List Int} {k x:Int} (hx:x∈F k) (hn:x∉l1.flatMap F):((l1++k::l2).flatMap F).idxOf x=(F k).idxOf x+(l1.flatMap F).length:=by
 rw[List.flatMap_append,List.idxOf_append,if_neg hn,List.flatMap_cons,List.idxOf_append,if_pos hx]
theorem Sn {F:Int→List Int} {l1 l2:List Int} {k y:Int} (hk:y∉F k) (hn:y∉l1.flatMap F):(F k).length+(l1.flatMap F).length≤((l1++k::l2).flatMap F).idxOf y:=by
 rw[List.flatMap_append,List.idxOf_append,if_neg hn,List.flatMap_cons,List.idxOf_append,if_neg hk];omega
theorem xJ {F:Int→List Int} {l1 l2:List Int} {k1 k2 x y:Int} (hd:((l1++k1::l2).flatMap F).Nodup) (h2:k2∈l2) (hx:x∈F k1) (hy:y∈F k2):((l1++k1::l2).flatMap F).idxOf x<((l1++k1::l2).flatMap F).idxOf y:=by
 rw[List.flatMap_append,List.flatMap_cons,List.nodup_append] at hd;obtain⟨_,hd2,hd3⟩:=hd;rw[List.nodup_append] at hd2;have hy2:y∈l2.flatMap F:=List.mem_flatMap.2 ⟨k2,h2,hy⟩;have a1:x∉l1.flatMap F:=fun h=>hd3 x h x (List.mem_append_left _ hx) rfl;have a2:y∉l1.flatMap F:=fun h=>hd3 y h y (List.mem_append_right _ hy2) rfl;have a3:y∉F k1:=fun h=>hd2.2.2 y h y hy2 rfl;have b1:=J8 (l2:=l2) hx a1;have b2:=Sn (l2:=l2) a3 a2;have b3:=List.idxOf_lt_length_iff.2 hx;omega
theorem Lm {l1 l2:List Int} {k1 k2:Int} (hd:(l1++k1::l2).Nodup) (h2:k2∈l2):(l1++k1::l2).idxOf k1<(l1++k1::l2).idxOf k2:=by
 have hf:∀ l:List Int,l.flatMap (fun k=>[k])=l:=fun l=>by induction l with | nil=>rfl | cons a r ih=>rw[List.flatMap_cons,ih];rfl
 have:=xJ (F:=fun k=>[k]) (x:=k1) (y:=k2) (l1:=l1) (l2:=l2) (k1:=k1) (k2:=k2) (by rw[hf];exact hd) h2 (by simp) (by simp)
 rwa [hf] at this
section
variable {g:Tr.G}
theorem Lp (w:Tr.WF 0 g) {c k x:Int} {n:Tr.GN} {a:List Int} (e:g c=some n) (h:Tr.aY g x=a++k::Tr.aY g c):k∈n.kids∧Tr.aY g k=k::Tr.aY g c∧x∈Tr.ak g k:=by
 have u:=(w.bY x).1;rw[h] at u;have u2:=u.suffix a;have hk:=w.iq u2;have u3:=u2;rw[w.bC e] at u3;obtain⟨m,hm1,hm2⟩:=u3.parent;have hz:c≠0:=fun e'=>by rw[e',w.zero] at e;cases e
 obtain⟨p,hp1,hp2⟩:=w.up k m hm1 (by rw[hm2];exact hz);rw[hm2,e] at hp1;obtain rfl:=Option.some.inj hp1;exact⟨hp2,hk,(w.fE k x).2 (by rw[h];simp)⟩
theorem Dn (w:Tr.WF 0 g) {c k:Int} {n:Tr.GN} (e:g c=some n) (hk:k∈n.kids):Tr.eF g k=(n.kids.idxOf k:Nat):=by
 obtain⟨m,e1,e2⟩:=w.dO (h:=c) (k:=k) (by rw[Tr.aH e];exact hk);have hz:c≠0:=fun e'=>by rw[e',w.zero] at e;cases e
 unfold Tr.eF;rw[e1];simp only[e2,if_neg hz,Tr.aH e]
theorem P6 (w:Tr.WF 0 g):∀ c x y a b,Tr.aY g x=a++Tr.aY g c→Tr.aY g y=b++Tr.aY g c→x∈Tr.ak g c→y∈Tr.ak g c→rz (Tr.eF g) a.reverse b.reverse=AZ ((Tr.ak g c).idxOf x:Nat) ((Tr.ak g c).idxOf y:Nat):=by
 refine w.induct fun c ih=>fun x y a b hx hy mx my=>?_;cases e:g c with
 | none=>rw[Tr.nY e] at mx;cases mx
 | some n=>
  have hkn:n.kids.Nodup:=by have:=w.lD c;rwa [Tr.aH e] at this
  have hnd:=w.lN c;have hself:∀ v,Tr.aY g v=[]++Tr.aY g c→v=c:=fun v hv=>by
   have u:=(w.bY v).1;rw[List.nil_append,w.bC e] at hv;rw[hv] at u;cases u with
   | node _ _=>rfl
  have hlen:∀ v (l:List Int),Tr.aY g v=l++Tr.aY g c→l≠[]→v≠c:=fun v l hv hl hvc=>by
   rw[hvc] at hv;have:=congrArg List.length hv;rw[List.length_append] at this;exact hl (List.length_eq_zero_iff.1 (by omega))
  rw[w.dx e] at mx my hnd ⊢;rcases List.eq_nil_or_concat a with rfl | ⟨a',k1,rfl⟩
  ·obtain rfl:=hself x hx;rw[List.reverse_nil,Hy,List.length_reverse];by_cases hb:b=[]
   ·subst hb;obtain rfl:=hself y hy;simp[vG]
   ·have hyc:=hlen y b hy hb;have hbl:0<b.length:=List.length_pos_iff.2 hb;rw[uL (by omega),List.idxOf_cons_self,wF hyc,uL (by omega)]
  ·rw[List.concat_eq_append] at hx ⊢;have hx1:Tr.aY g x=a'++k1::Tr.aY g c:=by rw[hx];simp
   obtain⟨hk1,hu1,P7⟩:=Lp w e hx1;have hxc:=hlen x _ hx (by simp);have hra:(a'++[k1]).reverse=k1::a'.reverse:=by simp
   rw[hra];rcases List.eq_nil_or_concat b with rfl | ⟨b',k2,rfl⟩
   ·obtain rfl:=hself y hy;rw[List.reverse_nil,Dl,List.length_cons,uM (by omega),List.idxOf_cons_self,wF hxc,uM (by omega)]
   ·rw[List.concat_eq_append] at hy ⊢;have hy1:Tr.aY g y=b'++k2::Tr.aY g c:=by rw[hy];simp
    obtain⟨hk2,hu2,P8⟩:=Lp w e hy1;have hyc:=hlen y _ hy (by simp);have hrb:(b'++[k2]).reverse=k2::b'.reverse:=by simp
    rw[hrb,wF hxc,wF hyc,Int.natCast_add,Int.natCast_add,Ll];have hnf:=(List.nodup_cons.1 hnd).2;have hi1:=Dn w e hk1;have hi2:=Dn w e hk2;obtain⟨l1,l2,el⟩:=List.append_of_mem hk1;by_cases hkk:k1=k2
    ·subst hkk;rw[rz,if_pos rfl,ih n e k1 hk1 x y a' b' (by rw[hu1];exact hx1) (by rw[hu1];exact hy1) P7 P8];rw[el] at hnf ⊢;rw[J8 P7 (Dm hnf P7),J8 P8 (Dm hnf P8),Int.natCast_add,Int.natCast_add,Ll]
    ·rw[rz,if_neg hkk,hi1,hi2];have hm:k2∈l1∨k2∈l2:=by
      rw[el] at hk2;rcases List.mem_append.1 hk2 with h | h
      ·exact .inl h
      ·rcases List.mem_cons.1 h with h | h
       ·exact absurd h.symm hkk
       ·exact .inr h
     rcases hm with hm | hm
     ·obtain⟨m1,m2,em⟩:=List.append_of_mem hm;have ek:n.kids=m1++k2::(m2++k1::l2):=by rw[el,em];simp
      rw[ek] at hnf hkn ⊢;have q1:=Lm (k2:=k1) hkn (by simp);have q2:=xJ (k2:=k1) hnf (by simp) P8 P7;rw[uM (by omega),uM (by omega)]
     ·rw[el] at hnf hkn ⊢;have q1:=Lm (k2:=k2) hkn hm;have q2:=xJ (k2:=k2) hnf hm P7 P8;rw[uL (by omega),uL (by omega)]
theorem P9 (w:Tr.WF 0 g) {x t:Int} (h:Tr.dN (Tr.aY g x)=t) (hne:Tr.aY g x≠[]):∃ a,Tr.aY g x=a++Tr.aY g t∧Tr.aY g t=[t]∧x∈Tr.ak g t:=by
 rcases List.eq_nil_or_concat (Tr.aY g x) with h0 | ⟨a,k,h0⟩
 ·exact absurd h0 hne
 ·rw[List.concat_eq_append] at h0;rw[h0,Tr.lC] at h;subst h;have u:=(w.bY x).1;rw[h0] at u;have h1:=w.iq (u.suffix a);exact⟨a,by rw[h1];exact h0,h1,(w.fE k x).2 (by rw[h0];simp)⟩
theorem Sq (w:Tr.WF 0 g) {x y t:Int} (ht:t≠0) (hx:Tr.dN (Tr.aY g x)=t) (hy:Tr.dN (Tr.aY g y)=t):rz (Tr.eF g) (Tr.aY g x).reverse (Tr.aY g y).reverse=AZ ((Tr.ak g t).idxOf x:Nat) ((Tr.ak g t).idxOf y:Nat):=by
 obtain⟨a,e1,e2,m1⟩:=P9 w hx (fun e=>ht (by rw[←hx,e];rfl));obtain⟨b,f1,_,m2⟩:=P9 w hy (fun e=>ht (by rw[←hy,e];rfl));rw[←P6 w t x y a b e1 f1 m1 m2,e1,f1,e2];have h1:∀ l:List Int,(l++[t]).reverse=t::l.reverse:=fun l=>by simp
 rw[h1,h1,rz,if_pos rfl]
end
end
section
open Go.RowKit Go.Shelf
attribute [local go_sem] Oper.semAt_some
def cont (g:Tr.G) (l:List Int):List UInt8:=l.flatMap fun k=>match g k with | some m=>if m.kind=3 then m.data.data.toList else [] | none=>[]
theorem CB {g:Tr.G} {l:List Int} {k:Int} {m:Tr.GN} (e:g k=some m) (h:m.kind=3):cont g (l++[k])=cont g l++m.data.data.toList:=by
 simp[cont,e,h]
theorem zG {g:Tr.G} {l:List Int} {k:Int} {m:Tr.GN} (e:g k=some m) (h:m.kind≠3):cont g (l++[k])=cont g l:=by
 simp[cont,e,h]
theorem Qa {g:Tr.G} {M:Nat} (hd:∀ k m,g k=some m→m.data.size≤M) (l:List Int):(cont g l).length≤l.length*M:=by
 induction l with
 | nil=>simp[cont]
 | cons k r ih=>
  have h1:cont g (k::r)=(match g k with | some m=>if m.kind=3 then m.data.data.toList else [] | none=>[])++cont g r:=by simp[cont]
  have h2:(match g k with | some m=>if m.kind=3 then m.data.data.toList else [] | none=>[]:List UInt8).length≤M:=by
   cases e:g k with
   | none=>simp
   | some m=>
    have:=hd k m e;have hs:m.data.data.toList.length=m.data.size:=rfl;dsimp only
    split
    ·omega
    ·simp
  rw[h1,List.length_append,List.length_cons,Nat.succ_mul];omega
theorem LS.wrote {base B bt bh bq m:Nat} {b s root h:Int} {vs vf:Value} {n:Nat} {R:Int→Option Tr.Nd} {fr:List Nat} {live:Nat} {W W':World} (H:LS base B bt bh b s h vs n R vf fr live root W) (hb:Below m W W') (hF:∀ k,aD B vs vf k→k<m) (ho:Lib.OthersKept 5 (some bq) W W') (h1:bt≠bq) (h2:bh≠bq):LS base B bt bh b s h vs n R vf fr live root W':=by
 refine⟨H.tree.turns (S:=fun k=>m≤k) ⟨hb.os,hb.tape,hb.output,hb.size,fun k _ hn=>hb.block k (Nat.lt_of_not_le hn)⟩ (fun k hk e=>absurd (hF k hk) (Nat.not_lt.2 e)),?_,?_⟩
 ·exact ho bt _ H.bt (fun e=>h1 (Option.some.inj e)) (fun c fz e=>by injection e with _ e2 _;exact absurd e2 (by decide))
 ·exact ho bh _ H.bh (fun e=>h2 (Option.some.inj e)) (fun c fz e=>by injection e with _ e2 _;exact absurd e2 (by decide))
theorem FZ (base B:Nat) (b s root h:Int) (live n:Nat) (g:Tr.G) (av:Int→Tr.Sl) (fr:List Nat) (vs vf:Value) (w:World) (hm:TV base w B b s vs n (Tr.raw g av) vf fr live root) (hS:Sound b s n (Tr.raw g av) fr live) (hw:Tr.WF 0 g) (hh:kM h) (AQ:(Tr.ak g h).length≤100000) (hdt:∀ k m,g k=some m→m.data.size≤100000):
  Calls Tryz.prog 16 #[.pointer (some ⟨B,0,none⟩),.int .i64 h] w fun e w'=>e=.returned (.string ⟨(cont g (Tr.ak g h)).toArray⟩)∧Below w.heap.size w w':=by
 have hlt:=hm.lt;obtain⟨w0,hw0⟩:=eX (w.alloc (.cells #[.pointer (some ⟨B,0,none⟩)] 29))
 have hb0:Below w.heap.size w w0:=gU hw0;have hz0:w0.heap.size=w.heap.size+1:=by rw[←hw0];simp
 have hT0:Whole w0 w.heap.size #[.pointer (some ⟨B,0,none⟩)] 29:=by rw[←hw0];exact Whole.new w _ _
 obtain⟨w1,hw1⟩:=eX (w0.alloc (.cells #[.pointer none,.slice none 0 0] 93))
 have hz1:w1.heap.size=w.heap.size+2:=by rw[←hw1];simp[hz0]
 have VQ:Below w0.heap.size w0 w1:=gU hw1;have hb1:=hb0.trans (VQ.mono hb0.size);have hT1:=hT0.below VQ hT0.lt;have EI:Lib.IsBuilderF 93 5 w0.heap.size w0.heap.size [] w1:=by
  have:=Lib.IsBuilderF.of (Lib.fresh_isBuilder 93 5 w0);rw[hw1] at this;exact this
 rw[hz0] at EI;have hL:=LS.made (h:=h) (hm.below hb1);have hsz2:((w1.alloc (.cells #[.pointer (some ⟨B,0,none⟩)] 29)).alloc (.cells #[.int .i64 h] 3)).heap.size=w1.heap.size+2:=by simp
 have hb2:Below w1.heap.size w1 ((w1.alloc (.cells #[.pointer (some ⟨B,0,none⟩)] 29)).alloc (.cells #[.int .i64 h] 3)):=((Below.refl _ w1).alloc (Nat.le_refl _) _).alloc (by simp) _;have hseq:=rF hS hw hh 7 (by omega) _ hL;have xK:=zh (pI B h w1);have t1:w1.cell? ⟨w.heap.size,0,none⟩=some (.pointer (some ⟨B,0,none⟩)):=hT1.cell 0;have HZ:=zh (And.intro hw0 (And.intro hw1 (And.intro hz0 hz1)));have HBL:=zh (And.intro hb1 (And.intro hb2 (And.intro EI (And.intro hL hseq))));have Zb:=zh hsz2;have HT1:=zh hT1;have HS:=zh hS;clear hw0 hw1 hz0 hz1 hb1 hb2 hb0 VQ EI hL hseq hsz2 hm hS hT0 hT1;refine (callsIn_wide (n:=8)).1 ?_;refine callsIn_of_wp_marks Tryz.func16 rfl trivial ?_ rfl;simp only[Tryz.ntmps16,pT,Nat.reduceAdd,Nat.reduceSub]
 gi_wp2_with fail
 (try rw[HZ.out.1]);(try rw[HZ.out.2.1]);(try gi_wp2_with fail);refine⟨trivial,(callsIn_wide.2 xK.out).mono ?_⟩;rintro e w' ⟨rfl,hw'⟩;obtain⟨hb1,hb2,EI,hL,hseq⟩:=HBL.out;have hsz2:=Zb.out;rw[←hw'] at hL hsz2 hb2 hseq;obtain⟨-,-,hz0,hz1⟩:=HZ.out;have abw:=pq EI hb2;have IC:=HT1.out.below hb2 HT1.out.lt;have hB2:=hb1.trans (hb2.mono hb1.size);have HW0:=zh hz0;clear hw' hb2 xK EI hz0 HZ HBL Zb t1
 gi_wp2_with fail
 rw[hz1] at hseq hL hsz2;have QH:∀ k,aD B vs vf k→k<w.heap.size+1:=fun k hk=>Nat.lt_succ_of_lt (hlt k hk).2;refine wpIn_rangeFunc_ownF (w:=w') rfl (by decide) (gf:=40) (lb:=#[.pointer (some ⟨w.heap.size+2,0,none⟩),.pointer (some ⟨w.heap.size+2+1,0,none⟩)]) rfl trivial (enters_of Tryz.func40 (by kernel_rfl) rfl) hseq LS.pJ (LS.qP _) (Below.refl _ _) (fun _=>rfl)
  (fun pre W=>Whole W w.heap.size #[.pointer (some ⟨B,0,none⟩)] 29∧Lib.IsBuilderF 93 5 (w.heap.size+1) (w.heap.size+1) (Lib.byteCells (cont g (pre.map (·.1)))) W∧LS base B (w.heap.size+2) (w.heap.size+2+1) b s h vs n (Tr.raw g av) vf fr live root W∧Below w.heap.size w W) (fun _ _ _=>False)
  ?hI ?hIx ⟨IC,abw,hL,hB2⟩ (fun x=>{ tmps:=#[.pointer (some ⟨B,0,none⟩),.int .i64 h,.pointer (some ⟨w.heap.size,0,none⟩),undef,.string ⟨#[]⟩,.pointer (some ⟨w.heap.size+1,0,none⟩),.int .i64 x.1,undef,.pointer (some ⟨B,0,none⟩),.int .i64 h,.func (.func 40) #[] #[.pointer (some ⟨w.heap.size+2,0,none⟩),.pointer (some ⟨w.heap.size+2+1,0,none⟩)],.int .i64 x.1,undef,undef,undef,undef,undef,undef,undef,undef,undef,undef,undef,undef,undef,undef],defers:=[] }) ?assign ?body ?done ?stop
 case hI=>
  rintro pre W W' row ⟨h0,h1,h2,h3⟩ hg hr;exact⟨aS h0 hg (fun r e=>(hr r e).2),wD h1 hg (fun r e=>(hr r e).2),h2.others hg (fun r e=>(hr r e).2),h3.grown hg h3.size (fun r e=>by have:=(hr r e).1;omega)⟩
 case hIx=>intro c pre W W' row h _ _;exact h
 case assign=>
  intro l x W K hK
  gi_wp2
  first | exact hK | simpa using hK
 case body=>
  rintro l pre x W ⟨hT,hBl,kJ,hBW⟩ hlen;obtain⟨m,hgx⟩:=Option.isSome_iff_exists.1 (hw.jI x.2);have t0:W.cell? ⟨w.heap.size,0,none⟩=some (.pointer (some ⟨B,0,none⟩)):=hT.cell 0;have hA:=gW base B b s root x.1 live n _ fr vs vf (Tr.fA g av x.1 m) W kJ.tree HS.out (Tr.aj hgx);have HX:=zh (And.intro hT (And.intro hBl (And.intro kJ hBW)));have hpl:pre.length≤100000:=by omega
  clear hT hBl kJ hBW
  gi_wp2_with fail
  refine⟨trivial,(callsIn_wide.2 hA).mono ?_⟩;rintro e w4 ⟨YP,o4,rfl,MX,hb4⟩;have mJ:=HX.out.2.2.1.below hb4;obtain⟨k0,_,_,k3,_⟩:=(mJ.tree.np MX (Tr.aj hgx)).cells;have k0':w4.cell? ⟨YP,o4,none⟩=some (.int .i64 m.kind):=k0;have k3':w4.cell? ⟨YP,o4+3,none⟩=some (.string m.data):=k3;have G9:=pq HX.out.2.1 hb4;have hcl:=Qa hdt (pre.map (·.1));rw[List.length_map] at hcl;have ab1:pre.length*100000≤100000*100000:=Nat.mul_le_mul_right _ hpl;have hds:=hdt _ _ hgx;have HG:=zh hgx;have yH:=zh MX;clear k0 k3 hgx hA MX;by_cases hk:m.kind=3
  ·rw[hk] at k0';have hq:((3:Int) == 3)=true:=by simp
   have hW:=Tryz.writeString (w.heap.size+1) (w.heap.size+1) _ m.data w4 G9 (by simp only[Lib.byteCells,List.length_map];omega) (Nat.le_of_lt (qN G9));have WO:=zh mJ;have ow:=zh hb4;have VR:=zh G9;clear mJ hb4 G9
   gi_wp2_with fail
   refine⟨trivial,(callsIn_wide.2 hW).mono ?_⟩;rintro e w5 ⟨rfl,Kv,hbel,hok⟩;have hko:=(l9 ow.out).trans (sM hok hbel.size VR.out);have HF:=zh (And.intro hko (And.intro Kv (And.intro hbel hok)));clear hko Kv hbel hok hW
   gi_wp2_with fail
   obtain⟨hko,Kv,hbel,hok⟩:=HF.out;obtain⟨hT,hBl,kJ,hBW⟩:=HX.out;refine⟨hko,fun H=>(H.below ow.out).wrote hbel QH hok (by omega) (by omega),(hT.below ow.out hT.lt).below hbel (by omega),?_,WO.out.wrote hbel QH hok (by omega) (by omega),(hBW.trans (ow.out.mono hBW.size)).trans (hbel.mono (by omega))⟩;have hce:Lib.byteCells (cont g ((pre++[x]).map (·.1)))=Lib.byteCells (cont g (pre.map (·.1)))++Lib.strCells m.data:=by
    rw[List.map_append,List.map_cons,List.map_nil,CB HG.out hk,Lib.strCells_eq];simp[Lib.byteCells]
   rw[hce]
   first | exact .inl Kv | exact .inr Kv
  ·have hq:(m.kind == 3)=false:=by simpa using hk
   have WO:=zh mJ;have ow:=zh hb4;have VR:=zh G9;clear mJ hb4 G9
   gi_wp2_with fail
   obtain⟨hT,hBl,kJ,hBW⟩:=HX.out;refine⟨l9 ow.out,fun H=>H.below ow.out,hT.below ow.out hT.lt,?_,WO.out,hBW.trans (ow.out.mono hBW.size)⟩;rw[List.map_append,List.map_cons,List.map_nil,zG HG.out hk];exact VR.out
 case done=>
  rintro D xs W hD rfl ⟨_,h1,kJ,hBW⟩ hK;rw[List.attach_map_subtype_val] at h1;have hK1:∀ W',Lib.OthersKept 5 (some (w.heap.size+1)) W W'→W'.heap[D]?=some (.deferred (some [])):=fun W' h=>qV h hK h1;have hW2:(w.heap.size+1)<W.heap.size:=qN h1;have HC:=zh (Tryz.uy (w.heap.size+1) (w.heap.size+1) _ W h1 (by omega));have Bn:=zh hBW;clear kJ hBW h1
  gi_wp2_with fail
  refine⟨trivial,(callsIn_wide.2 HC.out).mono ?_⟩;rintro e w5 ⟨rfl,hb5,AX,hk5⟩
  gi_wp2_with fail
  refine⟨by simp,.inl ⟨_,_,rfl,run_takeDeferred (hK1 _ hk5),?_⟩⟩;refine⟨_,results_tmp rfl _ _ _,rfl,?_⟩;exact (Bn.out.trans (AX.mono (by omega))).trans (belowK_b (w:=w) (Nat.le_refl _) _ D _ _ (by omega) (hK1 _ hk5) rfl rfl)
 case stop=>
  rintro D c pre W _ _ h _;exact h.elim
end
section
section
variable {ρ:Int→Int} {a g:Tr.G}
theorem Hz (h:Tr.Im ρ a g) (w:Tr.WF 0 g) {x y:Int} (hx:(a x).isSome) (hy:(a y).isSome):decide (ρ x∈Tr.aY g (ρ y))=decide (x∈Tr.aY a y):=by
 rw[h.up w (.inr hy)];exact decide_eq_decide.2 (h.mem (fun k hk=>h.Eu w hk) hx)
theorem EK (h:Tr.Im ρ a g) (w:Tr.WF 0 g) {x y:Int} (hy:y∈Tr.ak a x):(a y).isSome:=(h.pull w).jI hy
theorem Ba (h:Tr.Im ρ a g) (w:Tr.WF 0 g) {x:Int} (hx:(a x).isSome):∃ t l,Tr.aY a x=l++[t]∧Tr.dN (Tr.aY a x)=t∧Tr.aY a t=[t]∧(a t).isSome∧Tr.dN (Tr.aY g (ρ x))=ρ t∧x∈Tr.ak a t:=by
 obtain⟨n,e⟩:=Option.isSome_iff_exists.1 hx;have hne:Tr.aY a x≠[]:=by rw[(h.pull w).bC e];simp
 rcases List.eq_nil_or_concat (Tr.aY a x) with h0 | ⟨l,t,h0⟩
 ·exact absurd h0 hne
 ·rw[List.concat_eq_append] at h0;have u:=((h.pull w).bY x).1;rw[h0] at u;have h1:=(h.pull w).iq (u.suffix l);refine⟨t,l,h0,by rw[h0,Tr.lC],h1,h.Eu w (x:=x) (by rw[h0];simp),?_,((h.pull w).fE t x).2 (by rw[h0];simp)⟩;rw[h.up w (.inr hx),h0,List.map_append,List.map_cons,List.map_nil,Tr.lC]
theorem Lr (h:Tr.Im ρ a g) {x:Int} (hx:(a x).isSome):∀ l:List Int,(∀ k∈l,(a k).isSome)→(l.map ρ).idxOf (ρ x)=l.idxOf x:=by
 intro l
 induction l with
 | nil=>intro _;rfl
 | cons k r ih=>
  intro hl;have hk:=hl k (List.mem_cons_self ..);rw[List.map_cons,List.idxOf_cons,List.idxOf_cons,ih (fun j hj=>hl j (List.mem_cons_of_mem _ hj))];have:(ρ k == ρ x)=(k == x):=by
   by_cases hkx:k=x
   ·rw[hkx,beq_self_eq_true,beq_self_eq_true]
   ·have:ρ k≠ρ x:=fun e=>hkx (h.inj k x hk hx e);rw[beq_eq_false_iff_ne.2 this,beq_eq_false_iff_ne.2 hkx]
  rw[this]
theorem VT (h:Tr.Im ρ a g) (w:Tr.WF 0 g) {x y t:Int} (hx:(a x).isSome) (hy:(a y).isSome) (tx:Tr.dN (Tr.aY a x)=t) (ty:Tr.dN (Tr.aY a y)=t):Tr.dN (Tr.aY g (ρ x))≠0∧Tr.dN (Tr.aY g (ρ x))=Tr.dN (Tr.aY g (ρ y))∧rz (Tr.eF g) (Tr.aY g (ρ x)).reverse (Tr.aY g (ρ y)).reverse=AZ ((Tr.ak a t).idxOf x:Nat) ((Tr.ak a t).idxOf y:Nat):=by
 obtain⟨t1,_,_,e1,_,s1,g1,_⟩:=Ba h w hx;obtain⟨t2,_,_,e2,_,s2,g2,_⟩:=Ba h w hy;obtain rfl:t1=t:=e1.symm.trans tx;obtain rfl:t2=t1:=e2.symm.trans ty;refine⟨by rw[g1];exact h.nz _ s1,by rw[g1,g2],?_⟩;have hl:∀ k∈Tr.ak a t2,(a k).isSome:=fun k hk=>EK h w hk;rw[Sq w (h.nz _ s1) g1 g2,h.walk w t2 s1,Lr h hx _ hl,Lr h hy _ hl]
theorem Qb (h:Tr.Im ρ a g) (w:Tr.WF 0 g) {x y t:Int} (hx:(a x).isSome) (hy:(a y).isSome) (tx:Tr.dN (Tr.aY a x)=t):(y∈Tr.ak a t↔Tr.dN (Tr.aY a y)=t)∧(y∉Tr.ak a t→Tr.dN (Tr.aY g (ρ x))≠Tr.dN (Tr.aY g (ρ y))):=by
 obtain⟨t1,_,_,e1,u1,s1,g1,_⟩:=Ba h w hx;obtain⟨t2,l2,q2,e2,u2,s2,g2,m2⟩:=Ba h w hy;obtain rfl:t1=t:=e1.symm.trans tx;have key:y∈Tr.ak a t1↔Tr.dN (Tr.aY a y)=t1:=by
  constructor
  ·intro hm;have hu:=((h.pull w).fE t1 y).1 hm;obtain⟨m1,m3,e3⟩:=List.append_of_mem hu;have u:=((h.pull w).bY y).1;rw[e3] at u;have:=(h.pull w).iq (u.suffix m1);rw[u1] at this;injection this with _ h3;rw[e3,←h3,Tr.lC]
  ·intro e;rw[←e,e2];exact m2
 refine⟨key,fun hn e=>hn (key.2 ?_)⟩;rw[g1,g2] at e;rw[e2,h.inj t1 t2 s1 s2 e]
end
end
section
open Go.RowKit
theorem Ou (base M m:Nat) (vs:Value) (f:Nat→RS) (b:Int) (w:World) (h:MV base w M vs m f) (hw:Tr.WF (-1) (mg m f)) (hb:Live m f b) (hb0:0≤b) (hm:m≤100000):
  Calls Tryz.prog 13 #[.pointer (some ⟨M,0,none⟩),.int .i64 b] w fun e w'=>e=.returned (.int .i64 (Tr.dN (Tr.aY (mg m f) b)))∧w'=w:=by
 obtain⟨A,c,rfl⟩:=h.form;have hu:=(hw.bY b).1;obtain⟨L,hL⟩:=eX (Tr.aY (mg m f) b)
 rw[hL] at hu ⊢;clear hL;have HH:=zh h;have HW:=zh hw;have HU:=zh (And.intro hu hb);clear h hw hu hb
 go_enter Tryz.func13,Tryz.ntmps13
 go_wp2_with fail
 go_loopw [1] (fun v wr=>∃ (b':Int) (l1 l2:List Int),v=.int .i64 b'∧Hid (L=l1++l2)∧0≤b'∧Hid (Tr.Up (mg m f) b' l2)∧Hid (Live m f b')∧wr=w) (fun v _=>(Tr.aY (mg m f) (intOf v)).length)
 case atStart=>exact⟨b,[],L,rfl,zh rfl,hb0,zh HU.out.1,zh HU.out.2,rfl⟩
 case round=>
  obtain⟨b',l1,l2,rfl,H1,h2,H3,H4,rfl⟩:=hrel;rcases Live.up HW.out H3.out H4.out with ⟨e,e2⟩ | ⟨i,l',e,hi,hg,e2,hu',hl'⟩
  ·omega
  ·subst e;obtain⟨k0,_⟩:=HH.out.cell;obtain⟨g,rfl,_,_,_,_,c4,_,_⟩:=HH.out.read hi;have q1:(0:Int)≤(i:Int):=by omega
   have q2:(i:Int)<(m:Int):=by omega
   obtain⟨pa,hpa⟩:=eX ((f i).pa)
   rw[hpa] at c4 hu' hl';by_cases hp:(0:Int)≤pa
   ·have hd:decide ((0:Int)≤pa)=true:=by simpa using hp
    have hm1:(Tr.aY (mg m f) pa).length<(Tr.aY (mg m f) (i:Int)).length:=by
     have h3:=H3.out;rw[HW.out.iq h3,HW.out.iq hu',e2];simp
    have HM:=zh hm1;have HR:=zh (show L=(l1++[(i:Int)])++l' by rw[H1.out,e2];simp);have T9:=zh (And.intro hu' hl');clear hm1 hu' hl' e2 hpa;go_wp2_with fail
    go_roundw
    case rel=>exact⟨pa,l1++[(i:Int)],l',rfl,HR,hp,zh T9.out.1,zh T9.out.2,trivial⟩
    case measure=>exact HM.out
   ·have hd:decide ((0:Int)≤pa)=false:=by simpa using hp
    have hl0:l'=[]:=by
     rcases Live.up HW.out hu' hl' with ⟨_,e3⟩ | ⟨j,_,e3,_⟩
     ·exact e3
     ·omega
    have hT:Tr.dN L=(i:Int):=by rw[H1.out,e2,hl0];exact Tr.lC _ _
    have HT:=zh hT;clear hT e2 hu' hl' hl0 hpa;go_wp2_with fail
    go_ret
    exact⟨kD HT.out.symm,rfl⟩
end
end Go.Proofs.YtjpbhkcjmdndjaaGreatDoor
