/- Part of a proof about trees: NRg, NRf1, NRf2, NAtr, NElm, NIm3, NIm4, NNod, NKid, NRcl, NDee, NAwk. -/
import Derived.BigQuiet
import Derived.Deep.DrawnRows
import Derived.Deep.LoopGhost
import Derived.Deep.QuietTactic
import Derived.Deep.RegionHeld3
import Derived.Deep.RegionWith
import Derived.Lib.MinMax
import Derived.Lib.SliceRun
import Derived.Test.YtaigmpkcdjbpiaaGreatDoorProg
import Derived.Test.YtaigmpkcdjbpiaaGreatDoorGNIn4
import Derived.Test.YtaigmpkcdjbpiaaGreatDoorGNRm2
set_option linter.unusedVariables false
set_option linter.unusedSimpArgs false
set_option linter.unusedSectionVars false
set_option maxHeartbeats 2000000
set_option maxRecDepth 100000
namespace Go.Proofs.YtaigmpkcdjbpiaaGreatDoor
section
open Go Go.RowKit
def rsG (x:RS):Tr.GN:=⟨x.kind,x.name,x.at',x.data,x.pa,x.kids⟩
def mg (m:Nat) (f:Nat→RS):Tr.G:=fun h=>if 0≤h∧h.toNat<m∧(f h.toNat).gone=false then some (rsG (f h.toNat)) else none
section
variable {m:Nat} {f:Nat→RS}
theorem mg_at {i:Nat} (hi:i<m) (hg:(f i).gone=false):mg m f (i:Int)=some (rsG (f i)):=by
 unfold mg;rw[if_pos ⟨by omega,by simpa using hi,by simpa using hg⟩];simp
theorem mg_gone {i:Nat} (hg:(f i).gone=true):mg m f (i:Int)=none:=by
 unfold mg;rw[if_neg];rintro⟨_,_,h⟩;simp[hg] at h
theorem mg_some {h:Int} {n:Tr.GN} (e:mg m f h=some n):∃ i:Nat,h=(i:Int)∧i<m∧(f i).gone=false∧n=rsG (f i):=by
 unfold mg at e
 split at e
 ·rename_i hc;injection e with e;exact⟨h.toNat,by omega,hc.2.1,hc.2.2,e.symm⟩
 ·cases e
theorem mg_is {h:Int} (e:(mg m f h).isSome):∃ i:Nat,h=(i:Int)∧i<m∧(f i).gone=false∧mg m f h=some (rsG (f i)):=by
 obtain⟨n,hn⟩:=Option.isSome_iff_exists.1 e;obtain⟨i,h1,h2,h3,h4⟩:=mg_some hn;exact⟨i,h1,h2,h3,h4▸hn⟩
theorem mg_neg {h:Int} (hh:h<0):mg m f h=none:=by
 unfold mg;rw[if_neg (by omega)]
theorem mg_isSome {i:Nat} (hi:i<m):(mg m f (i:Int)).isSome=!(f i).gone:=by
 cases e:(f i).gone with
 | true=>rw[mg_gone e];rfl
 | false=>rw[mg_at hi e];rfl
def Live (m:Nat) (f:Nat→RS) (h:Int):Prop:=h = -1∨(mg m f h).isSome
theorem Live.pa (hw:Tr.WF (-1) (mg m f)) {i:Nat} (hi:i<m) (hg:(f i).gone=false):Live m f (f i).pa:=by
 rcases hw.pa (mg_at hi hg) with h | ⟨p,h,_⟩
 ·exact .inl h
 ·exact .inr (by rw[show (f i).pa=(rsG (f i)).pa from rfl,h];rfl)
theorem Live.kid (hw:Tr.WF (-1) (mg m f)) {i:Nat} (hi:i<m) (hg:(f i).gone=false) {k:Int} (hk:k∈(f i).kids):∃ j:Nat,k=(j:Int)∧j<m∧(f j).gone=false∧(f j).pa=(i:Int):=by
 obtain⟨n,h1,h2⟩:=hw.down _ _ k (mg_at hi hg) hk;obtain⟨j,h3,h4,h5,h6⟩:=mg_some h1;exact⟨j,h3,h4,h5,by rw[h6] at h2;exact h2⟩
theorem Live.up (hw:Tr.WF (-1) (mg m f)) {h:Int} {l:List Int} (u:Tr.Up (mg m f) h l) (hl:Live m f h):(h = -1∧l=[])∨∃ (i:Nat) (l':List Int),h=(i:Int)∧i<m∧(f i).gone=false∧l=h::l'∧Tr.Up (mg m f) (f i).pa l'∧Live m f (f i).pa:=by
 cases u with
 | out e=>
  rcases hl with h1 | h1
  ·exact .inl ⟨h1,rfl⟩
  ·rw[e] at h1;cases h1
 | @node _ n l' e u=>
  obtain⟨i,h1,h2,h3,h4⟩:=mg_some e;refine .inr ⟨i,l',h1,h2,h3,rfl,?_,Live.pa hw h2 h3⟩;rw[h4] at u;exact u
end
def indexM (m:Nat) (f:Nat→RS) (i:Nat):Int:=if (f i).pa<0 then -1 else ((f (f i).pa.toNat).kids.idxOf (i:Int):Nat)
end
section
open Go.RowKit
section
variable {base M m:Nat} {vs:Value} {f:Nat→RS} {w:World}
theorem MV.read {A:Option Addr} {c i:Nat} (h:MV base w M (.slice A m c) m f) (hi:i<m):∃ g,A=some ⟨g,0,none⟩∧w.cell? ⟨g,i*7,none⟩=some (.int .i64 (f i).kind)∧w.cell? ⟨g,i*7+1,none⟩=some (.string (f i).name)∧w.cell? ⟨g,i*7+2,none⟩=some (.slice (f i).a.a (f i).a.n (f i).a.c)∧w.cell? ⟨g,i*7+3,none⟩=some (.string (f i).data)∧w.cell? ⟨g,i*7+4,none⟩=some (.int .i64 (f i).pa)∧w.cell? ⟨g,i*7+5,none⟩=some (.slice (f i).k.a (f i).k.n (f i).k.c)∧w.cell? ⟨g,i*7+6,none⟩=some (.bool (f i).gone):=by
 obtain⟨g,rfl,_,_,_,hc⟩:=h.node (by omega);exact⟨g,rfl,(hc i 0 hi (by omega)).1,(hc i 1 hi (by omega)).1,(hc i 2 hi (by omega)).1,(hc i 3 hi (by omega)).1,(hc i 4 hi (by omega)).1,(hc i 5 hi (by omega)).1,(hc i 6 hi (by omega)).1⟩
theorem MV.kn (h:MV base w M vs m f) {i:Nat} (hi:i<m):(f i).k.n=(f i).kids.length:=by
 obtain⟨A,c,e⟩:=(h.kr i hi).form;unfold Tr.Sl.v at e;injection e
theorem MV.an (h:MV base w M vs m f) {i:Nat} (hi:i<m):(f i).a.n=(f i).at'.length:=by
 obtain⟨A,c,e⟩:=(h.ar i hi).form;unfold Tr.Sl.v at e;injection e
theorem MV.kid (h:MV base w M vs m f) {i j:Nat} (hi:i<m) {k:Int} (hj:(f i).kids[j]?=some k):∃ g o,(f i).k.a=some ⟨g,o,none⟩∧w.cell? ⟨g,o+j,none⟩=some (.int .i64 k):=by
 have hr:=h.kr i hi;have hlt:=(List.getElem?_eq_some_iff.1 hj).1;have e:(f i).k.v=.slice (f i).k.a (f i).kids.length (f i).k.c:=by unfold Tr.Sl.v;rw[h.kn hi]
 rw[e] at hr;obtain⟨g,o,hA,_,_,hc,_⟩:=hr.cells (by omega);exact⟨g,o,hA,hc j _ (by omega) (ints_get hj)⟩
end
theorem rhas_any (base M m:Nat) (vs:Value) (f:Nat→RS) (i:Nat) (w:World) (h:MV base w M vs m f) (hi:i<m) (hm:m≤100000):
  Calls Tryz.prog 24 #[.pointer (some ⟨M,0,none⟩),.int .i64 (i:Int)] w fun e w'=>e=.returned (.bool (!(f i).gone))∧w'=w:=by
 obtain⟨A,c,rfl⟩:=h.form;obtain⟨k0,_⟩:=h.cell;obtain⟨g,rfl,_,_,_,_,_,_,c6⟩:=h.read hi;have q1:(0:Int)≤(i:Int):=by omega
 have q2:(i:Int)<(m:Int):=by omega
 clear h
 go_enter Tryz.func24,Tryz.ntmps24
 go_wp2_with fail
 go_ret
 exact⟨rfl,rfl⟩
theorem rcontains_any (base M m:Nat) (vs:Value) (f:Nat→RS) (a b:Int) (w:World) (h:MV base w M vs m f) (hw:Tr.WF (-1) (mg m f)) (hb:Live m f b) (hm:m≤100000):
  Calls Tryz.prog 28 #[.pointer (some ⟨M,0,none⟩),.int .i64 a,.int .i64 b] w fun e w'=>e=.returned (.bool (decide (a∈Tr.upG (mg m f) b)))∧w'=w:=by
 obtain⟨A,c,rfl⟩:=h.form;have hu:=(hw.up_is b).1;obtain⟨L,hL⟩:∃ L,Tr.upG (mg m f) b=L:=⟨_,rfl⟩
 rw[hL] at hu ⊢;clear hL;have HH:=zh h;have HW:=zh hw;have HU:=zh (And.intro hu hb);clear h hw hu hb
 go_enter Tryz.func28,Tryz.ntmps28
 go_wp2_with fail
 go_loopw [2] (fun v wr=>∃ (b':Int) (l1 l2:List Int),v=.int .i64 b'∧Hid (L=l1++l2)∧Hid (a∉l1)∧Hid (Tr.Up (mg m f) b' l2)∧Hid (Live m f b')∧wr=w) (fun v _=>(Tr.upG (mg m f) (intOf v)).length)
 case atStart=>exact⟨b,[],L,rfl,zh rfl,zh (by simp),zh HU.out.1,zh HU.out.2,rfl⟩
 case round=>
  obtain⟨b',l1,l2,rfl,H1,H2,H3,H4,rfl⟩:=hrel;rcases Live.up HW.out H3.out H4.out with ⟨e,e2⟩ | ⟨i,l',e,hi,hg,e2,hu',hl'⟩
  ·subst e;have hd:decide (a∈L)=false:=by rw[H1.out,e2,List.append_nil];exact decide_eq_false H2.out
   have HD:=zh hd;clear hd e2;go_wp2_with fail
   go_ret
   exact⟨aretB HD.out.symm,rfl⟩
  ·subst e;obtain⟨k0,_⟩:=HH.out.cell;obtain⟨g,rfl,_,_,_,_,c4,_,_⟩:=HH.out.read hi;have q1:(0:Int)≤(i:Int):=by omega
   have q2:(i:Int)<(m:Int):=by omega
   by_cases ha:a=(i:Int)
   ·have ha2:(a == (i:Int))=true:=by simpa using ha
    have hd:decide (a∈L)=true:=by rw[H1.out,e2,ha];simp
    have HD:=zh hd;clear hd e2 hu' hl' ha;go_wp2_with fail
    go_ret
    exact⟨aretB HD.out.symm,rfl⟩
   ·have ha2:(a == (i:Int))=false:=by simpa using ha
    have hm1:(Tr.upG (mg m f) (f i).pa).length<(Tr.upG (mg m f) (i:Int)).length:=by
     have h3:=H3.out;rw[HW.out.upG_of h3,HW.out.upG_of hu',e2];simp
    have HM:=zh hm1;have hr:L=(l1++[(i:Int)])++l'∧a∉l1++[(i:Int)]:=⟨by rw[H1.out,e2];simp,by simp;exact⟨H2.out,ha⟩⟩
    have HR:=zh hr;have HU2:=zh (And.intro hu' hl');clear hm1 hr hu' hl' e2 ha;go_wp2_with fail
    go_roundw
    case rel=>exact⟨(f i).pa,l1++[(i:Int)],l',rfl,zh HR.out.1,zh HR.out.2,zh HU2.out.1,zh HU2.out.2,trivial⟩
    case measure=>exact HM.out
theorem rdepth_any (base M m:Nat) (vs:Value) (f:Nat→RS) (b:Int) (w:World) (h:MV base w M vs m f) (hw:Tr.WF (-1) (mg m f)) (hb:Live m f b) (hm:m≤100000):
  Calls Tryz.prog 96 #[.pointer (some ⟨M,0,none⟩),.int .i64 b] w fun e w'=>e=.returned (.int .i64 ((Tr.upG (mg m f) b).length:Nat))∧w'=w:=by
 obtain⟨A,c,rfl⟩:=h.form;have hu:=(hw.up_is b).1;have hl128:=(hw.up_is b).2;obtain⟨L,hL⟩:∃ L,Tr.upG (mg m f) b=L:=⟨_,rfl⟩
 rw[hL] at hu hl128 ⊢;clear hL;have HH:=zh h;have HW:=zh hw;have HU:=zh (And.intro hu hb);clear h hw hu hb
 go_enter Tryz.func96,Tryz.ntmps96
 go_wp2_with fail
 go_loopw [1,5] (fun v n wr=>∃ (b':Int) (l1 l2:List Int),v=.int .i64 b'∧n=.int .i64 (l1.length:Nat)∧Hid (L=l1++l2)∧Hid (Tr.Up (mg m f) b' l2)∧Hid (Live m f b')∧wr=w) (fun v _ _=>(Tr.upG (mg m f) (intOf v)).length)
 case atStart=>exact⟨b,[],L,rfl,rfl,zh rfl,zh HU.out.1,zh HU.out.2,rfl⟩
 case round=>
  obtain⟨b',l1,l2,rfl,rfl,H1,H3,H4,rfl⟩:=hrel;rcases Live.up HW.out H3.out H4.out with ⟨e,e2⟩ | ⟨i,l',e,hi,hg,e2,hu',hl'⟩
  ·subst e;have hd:(L.length:Int)=(l1.length:Nat):=by rw[H1.out,e2,List.append_nil]
   have HD:=zh hd;clear hd e2 hl128;go_wp2_with fail
   go_ret
   exact⟨aretI HD.out.symm,rfl⟩
  ·subst e;obtain⟨k0,_⟩:=HH.out.cell;obtain⟨g,rfl,_,_,_,_,c4,_,_⟩:=HH.out.read hi;have q1:(0:Int)≤(i:Int):=by omega
   have q2:(i:Int)<(m:Int):=by omega
   have q3:l1.length+1≤128:=by have:=congrArg List.length H1.out;rw[List.length_append,e2,List.length_cons] at this;omega
   have hm1:(Tr.upG (mg m f) (f i).pa).length<(Tr.upG (mg m f) (i:Int)).length:=by
    have h3:=H3.out;rw[HW.out.upG_of h3,HW.out.upG_of hu',e2];simp
   have HM:=zh hm1;have hr:L=(l1++[(i:Int)])++l':=by rw[H1.out,e2];simp
   have HR:=zh hr;have HU2:=zh (And.intro hu' hl');clear hm1 hr hu' hl' e2 hl128;go_wp2_with fail
   go_roundw
   case rel=>exact⟨(f i).pa,l1++[(i:Int)],l',rfl,by rw[List.length_append];rfl,zh HR.out,zh HU2.out.1,zh HU2.out.2,trivial⟩
   case measure=>exact HM.out
theorem rindex_any (base M m:Nat) (vs:Value) (f:Nat→RS) (i:Nat) (w:World) (h:MV base w M vs m f) (hw:Tr.WF (-1) (mg m f)) (hi:i<m) (hg:(f i).gone=false) (hm:m≤100000):
  Calls Tryz.prog 51 #[.pointer (some ⟨M,0,none⟩),.int .i64 (i:Int)] w fun e w'=>e=.returned (.int .i64 (indexM m f i))∧w'=w:=by
 obtain⟨A,c,rfl⟩:=h.form;have hl:=Live.pa hw hi hg;obtain⟨k0,_⟩:=h.cell;obtain⟨g,rfl,_,_,_,_,c4,_,_⟩:=h.read hi;have q1:(0:Int)≤(i:Int):=by omega
 have q2:(i:Int)<(m:Int):=by omega
 rcases hl with hp | hp
 ·have hr:indexM m f i = -1:=by unfold indexM;rw[if_pos (by omega)]
  rw[hr];rw[hp] at c4;clear h hr hw
  go_enter Tryz.func51,Tryz.ntmps51
  go_wp2_with fail
  go_ret
  exact⟨rfl,rfl⟩
 ·obtain⟨p,hp1,hp2,hp3,hp4⟩:=mg_is hp;have hmem:(i:Int)∈(f p).kids:=by
   rcases hw.pa (mg_at hi hg) with h1 | ⟨n,h1,h2⟩
   ·exact absurd (show (f i).pa = -1 from h1) (by omega)
   ·rw[show (rsG (f i)).pa=(p:Int) from hp1,mg_at hp2 hp3] at h1;obtain rfl:=Option.some.inj h1;exact h2
  have hr:indexM m f i=((f p).kids.idxOf (i:Int):Nat):=by unfold indexM;rw[if_neg (by omega),hp1];rfl
  obtain⟨l1,l2,hL⟩:=List.append_of_mem hmem;have hnd:=hw.nodup _ _ (mg_at hp2 hp3);have hno:(i:Int)∉l1:=by
   intro hx;have hnd2:(f p).kids.Nodup:=hnd;rw[hL] at hnd2;exact (List.nodup_append.1 hnd2).2.2 _ hx _ (by simp) rfl
  rw[hr];have hix:(f p).kids.idxOf (i:Int)=l1.length:=by rw[hL,Tr.idxOf_split hno]
  rw[hix];rw[hp1] at c4;obtain⟨g2,e2,_,_,_,_,_,c5,_⟩:=h.read hp2;obtain rfl:g=g2:=by injection e2 with e2;injection e2
  have hkn:=h.kn hp2;have hlen:(f p).kids.length=l1.length+1+l2.length:=by rw[hL];simp;omega
  rw[hkn] at c5;have hkc:∀ j,j≤l1.length→∃ ga o,(f p).k.a=some ⟨ga,o,none⟩∧w.cell? ⟨ga,o+j,none⟩=some (.int .i64 ((f p).kids[j]?.getD 0)):=fun j hj=>by
   obtain⟨x,hx⟩:∃ x,(f p).kids[j]?=some x:=⟨(f p).kids[j]'(by omega),by simp⟩
   obtain⟨ga,o,e1,e2⟩:=h.kid hp2 hx;exact⟨ga,o,e1,by rw[hx];exact e2⟩
  obtain⟨ga,o,hA,_⟩:=hkc 0 (by omega);rw[hA] at c5;have hk2:∀ j,j<l1.length→∃ x,w.cell? ⟨ga,o+j,none⟩=some (.int .i64 x)∧(x == (i:Int))=false:=fun j hj=>by
   obtain⟨ga',o',e1,e2⟩:=hkc j (by omega);rw[hA] at e1;obtain⟨rfl,rfl⟩:ga=ga'∧o=o':=by injection e1 with e1;injection e1 with a1 a2;exact⟨a1,a2⟩
   refine⟨_,e2,?_⟩;rw[hL,List.getElem?_append_left hj,List.getElem?_eq_getElem hj,Option.getD_some];exact beq_eq_false_iff_ne.2 fun e=>hno (e▸List.getElem_mem hj)
  have hk3:w.cell? ⟨ga,o+l1.length,none⟩=some (.int .i64 (i:Int)):=by
   obtain⟨ga',o',e1,e2⟩:=hkc l1.length (by omega);rw[hA] at e1;obtain⟨rfl,rfl⟩:ga=ga'∧o=o':=by injection e1 with e1;injection e1 with a1 a2;exact⟨a1,a2⟩
   rw[e2,hL];simp
  obtain⟨n,hn⟩:∃ n,(f p).kids.length=n:=⟨_,rfl⟩
  obtain⟨d,hd⟩:∃ d,l1.length=d:=⟨_,rfl⟩
  rw[hn] at c5 hlen;rw[hd] at hlen hk2 hk3 ⊢;have p1:(0:Int)≤(p:Int):=by omega
  have p2:(p:Int)<(m:Int):=by omega
  have hdn:d<n:=by omega
  have hle:n≤100000:=by
   have:=(h.kr p hp2)
   rw[←hn];have h3:(f p).kids.length≤m:=by
    have hsub:∀ x∈(f p).kids.map Int.toNat,x<m:=fun x hx=>by
     obtain⟨y,hy,rfl⟩:=List.mem_map.1 hx;obtain⟨j,h4,h5,_⟩:=Live.kid hw hp2 hp3 hy;rw[h4];simpa using h5
    have hnd3:((f p).kids.map Int.toNat).Nodup:=by
     have hnd2:(f p).kids.Nodup:=hnd;rw[List.nodup_iff_pairwise_ne,List.pairwise_map];refine (List.pairwise_iff_forall_sublist.2 ?_);intro a b hab e;have ha:a∈(f p).kids:=hab.subset (by simp);have hb:b∈(f p).kids:=hab.subset (by simp);obtain⟨j,h4,_⟩:=Live.kid hw hp2 hp3 ha;obtain⟨j',h5,_⟩:=Live.kid hw hp2 hp3 hb;have:a=b:=by rw[h4,h5] at e ⊢;simp at e;rw[e]
     exact (List.pairwise_iff_forall_sublist.1 (List.nodup_iff_pairwise_ne.1 hnd2)) hab this
    have:=nodup_le m _ hnd3 hsub;simpa using this
   omega
  have HK:=zh hk2;clear h hw hr hkc hk2 hno hnd hmem hix hL hp hp4 hlen hn hd hA hkn
  go_enter Tryz.func51,Tryz.ntmps51
  go_wp2_with fail
  go_loopw [6] (fun v wr=>∃ j:Nat,v=.int .i64 (j:Int)∧j≤d∧wr=w) (fun v _=>d - (intOf v).toNat)
  case atStart=>exact⟨0,rfl,Nat.zero_le _,rfl⟩
  case round=>
   obtain⟨j,rfl,hj,rfl⟩:=hrel;have j1:(j:Int)<(n:Int):=by omega
   have j0:(0:Int)≤(j:Int):=by omega
   by_cases hjd:j=d
   ·subst hjd;go_wp2_with fail
    go_ret
    exact⟨rfl,rfl⟩
   ·obtain⟨x,hx,hxe⟩:=HK.out j (by omega);go_wp2_with fail
    go_roundw
    case rel=>exact⟨j+1,by go_num,by omega,trivial⟩
    case measure=>simp[intOf];omega
theorem rat_any (base:Nat) (v:Value) (l:List Int) (i:Int) (w:World) (h:TR w base 3 1 v l.length (ints l)) (hi:I64 i) (hl:l.length≤100000):
  Calls Tryz.prog 98 #[v,.int .i64 i] w fun e w'=>e=.returned (.int .i64 (if i<0 then -1 else (l[i.toNat]?).getD (-1)))∧w'=w:=by
 obtain⟨A,c,rfl⟩:=h.form;by_cases h0:i<0
 ·rw[if_pos h0];clear h
  go_enter Tryz.func98,Tryz.ntmps98
  go_wp2_with fail
  go_ret
  exact⟨rfl,rfl⟩
 ·rw[if_neg h0];obtain⟨k,rfl⟩:∃ k:Nat,i=(k:Int):=⟨i.toNat,by omega⟩
  rw[Int.toNat_natCast];by_cases h1:k<l.length
  ·obtain⟨x,hx⟩:∃ x,l[k]?=some x:=⟨l[k],by simp⟩
   obtain⟨g,o,rfl,_,_,hc,_⟩:=h.cells (by omega);have hc':=hc k _ (by omega) (ints_get hx);rw[hx,Option.getD_some];obtain⟨n,hn⟩:∃ n,l.length=n:=⟨_,rfl⟩
   rw[hn] at h1 ⊢;have q1:(k:Int)<(n:Int):=by omega
   have q2:¬ (n:Int)≤(k:Int):=by omega
   clear h hc hx hn hl
   go_enter Tryz.func98,Tryz.ntmps98
   go_wp2_with fail
   go_ret
   exact⟨rfl,rfl⟩
  ·have hx:l[k]?=none:=by simp;omega
   rw[hx,Option.getD_none];obtain⟨n,hn⟩:∃ n,l.length=n:=⟨_,rfl⟩
   rw[hn] at h1 ⊢;have q2:(n:Int)≤(k:Int):=by omega
   clear h hx hn hl
   go_enter Tryz.func98,Tryz.ntmps98
   go_wp2_with fail
   go_ret
   exact⟨rfl,rfl⟩
end
section
open Go.RowKit
theorem mg_kids_le {m:Nat} {f:Nat→RS} (hw:Tr.WF (-1) (mg m f)) {p:Nat} (hp:p<m) (hg:(f p).gone=false):(f p).kids.length≤m:=by
 have hsub:∀ x∈(f p).kids.map Int.toNat,x<m:=fun x hx=>by
  obtain⟨y,hy,rfl⟩:=List.mem_map.1 hx;obtain⟨j,h4,h5,_⟩:=Live.kid hw hp hg hy;rw[h4];simpa using h5
 have hnd:(f p).kids.Nodup:=hw.nodup _ _ (mg_at hp hg);have hnd3:((f p).kids.map Int.toNat).Nodup:=by
  rw[List.nodup_iff_pairwise_ne,List.pairwise_map];refine (List.pairwise_iff_forall_sublist.2 ?_);intro a b hab e;have ha:a∈(f p).kids:=hab.subset (by simp);have hb:b∈(f p).kids:=hab.subset (by simp);obtain⟨j,h4,_⟩:=Live.kid hw hp hg ha;obtain⟨j',h5,_⟩:=Live.kid hw hp hg hb;have:a=b:=by rw[h4,h5] at e ⊢;simp at e;rw[e]
  exact (List.pairwise_iff_forall_sublist.1 (List.nodup_iff_pairwise_ne.1 hnd)) hab this
 have:=nodup_le m _ hnd3 hsub;simpa using this
theorem rheight_any (base M m:Nat) (vs:Value) (f:Nat→RS) (hw:Tr.WF (-1) (mg m f)) (hm:m≤100000):∀ h,(mg m f h).isSome→∀ w,MV base w M vs m f→
  Calls Tryz.prog 97 #[.pointer (some ⟨M,0,none⟩),.int .i64 h] w fun e w'=>e=.returned (.int .i64 (Tr.hgtG (mg m f) h:Nat))∧w'=w:=by
 refine hw.induct ?_;intro h ih hs w H;obtain⟨i,rfl,hi,hg,hmi⟩:=mg_is hs;have hle:=mg_kids_le hw hi hg;obtain⟨A,c,rfl⟩:=H.form;have hr:Tr.hgtG (mg m f) (i:Int)=maxH (mg m f) (f i).kids+1:=hw.hgtG_some hmi;have hbnd:=hw.hgt_le (i:Int);have hkn:=H.kn hi;obtain⟨n,hn⟩:∃ n,(f i).kids.length=n:=⟨_,rfl⟩
 rw[hn] at hkn hle;obtain⟨g0,rfl,-⟩:=H.read hi;have q1:(0:Int)≤(i:Int):=by omega
 have q2:(i:Int)<(m:Int):=by omega
 have HH:=zh H;have HI:=zh ih;have HR:=zh hr;have HB:=zh hbnd;have HW:=zh hw;have HN:=zh hn;have HKN:=zh hkn;have hmono:∀ l l':List Int,maxH (mg m f) l≤maxH (mg m f) (l++l'):=fun l l'=>by
  unfold maxH;rw[List.map_append,List.foldl_append];exact (Tr.le_foldl_max).1
 have HMO:=zh hmono;clear H ih hr hbnd hw hmi hs hn hkn hmono
 go_enter Tryz.func97,Tryz.ntmps97
 go_wp2_with fail
 go_loopw [5,6] (fun v u wr=>∃ j:Nat,v=.int .i64 (maxH (mg m f) ((f i).kids.take j):Nat)∧u=.int .i64 (j:Int)∧j≤n∧wr=w) (fun _ u _=>n - (intOf u).toNat)
 case atStart=>exact⟨0,rfl,rfl,Nat.zero_le _,rfl⟩
 case round=>
  obtain⟨j,rfl,rfl,hj,rfl⟩:=hrel;have hMr:=HH.out;obtain⟨k0,_⟩:=hMr.cell;obtain⟨g,e0,_,_,_,_,_,c5,_⟩:=hMr.read hi;obtain rfl:g0=g:=by injection e0 with e0;injection e0
  rw[HKN.out] at c5;have hmx:maxH (mg m f) ((f i).kids.take j)≤129:=by
   have h1:=HMO.out ((f i).kids.take j) ((f i).kids.drop j);rw[List.take_append_drop] at h1;have:=HB.out;rw[HR.out] at this;omega
  have j0:(0:Int)≤(j:Int):=by omega
  by_cases hjn:j<n
  ·have j1:(j:Int)<(n:Int):=by omega
   obtain⟨k,hk⟩:∃ k,(f i).kids[j]?=some k:=⟨(f i).kids[j]'(by rw[HN.out];exact hjn),by simp⟩
   obtain⟨ga,o,hA,ck⟩:=hMr.kid hi hk;rw[hA] at c5;have hkm:k∈(f i).kids:=List.mem_of_getElem? hk;obtain⟨i',hki,hi',hg',_⟩:=Live.kid HW.out hi hg hkm;have hcall:=HI.out _ (mg_at hi hg) k hkm (by rw[hki,mg_isSome hi',hg'];rfl) wr hMr;have htk:(f i).kids.take (j+1)=(f i).kids.take j++[k]:=by
    rw[List.take_add_one,hk];rfl
   have hmx2:maxH (mg m f) ((f i).kids.take (j+1))=max (maxH (mg m f) ((f i).kids.take j)) (Tr.hgtG (mg m f) k):=by rw[htk,maxH_snoc]
   have hk129:=HW.out.hgt_le k;obtain⟨H1,hH1⟩:∃ x,Tr.hgtG (mg m f) k=x:=⟨_,rfl⟩
   obtain⟨H0,hH0⟩:∃ x,maxH (mg m f) ((f i).kids.take j)=x:=⟨_,rfl⟩
   rw[hH1] at hcall hmx2 hk129;rw[hH0] at hmx hmx2 ⊢;have HX:=zh hmx2;have HC:=zh hcall;clear hcall hmx2 htk hMr hk hkm hki hH1 hH0 hA;go_wp2_with fail;refine HC.out.mono ?_;rintro e w2 ⟨rfl,hw2⟩;obtain rfl:=hw2.symm;clear HC;go_wp2_with fail
   go_roundw
   case rel=>exact⟨j+1,by rw[HX.out];first | rfl | (congr 1;omega) | (simp;omega),by go_num,by omega,trivial⟩
   case measure=>simp[intOf];omega
  ·have hjn2:j=n:=by omega
   subst hjn2;have htk:(f i).kids.take j=(f i).kids:=by rw[List.take_of_length_le];rw[HN.out];exact Nat.le_refl _
   have hR2:Tr.hgtG (mg m f) (i:Int)=maxH (mg m f) ((f i).kids.take j)+1:=by rw[htk];exact HR.out
   obtain⟨H0,hH0⟩:∃ x,maxH (mg m f) ((f i).kids.take j)=x:=⟨_,rfl⟩
   rw[hH0] at hmx hR2 ⊢;have HR2:=zh hR2;clear htk hR2 hMr hH0;go_wp2_with fail
   go_ret
   exact⟨aretI (by rw[HR2.out];omega),rfl⟩
def childM (m:Nat) (f:Nat→RS) (p h:Nat):Bool:=
 if h=0∨(h:Int)∈Tr.upG (mg m f) (p:Int) then false else if (f p).kind=2 then true else if p≠0∨(f h).kind=3 then false else !((f 0).kids.any fun k=>k != (h:Int) && (f k.toNat).kind == 2 && (f h).kind == 2)
theorem rchild_any (base M m:Nat) (vs:Value) (f:Nat→RS) (p h:Nat) (w:World) (H:MV base w M vs m f) (hw:Tr.WF (-1) (mg m f)) (hp:p<m) (hpg:(f p).gone=false) (hh:h<m) (h0g:(f 0).gone=false) (hm:m≤100000):
  Calls Tryz.prog 95 #[.pointer (some ⟨M,0,none⟩),.int .i64 (p:Int),.int .i64 (h:Int)] w fun e w'=>e=.returned (.bool (childM m f p h))∧w'=w:=by
 obtain⟨A,c,rfl⟩:=H.form;have hcon:=rcontains_any base M m (.slice A m c) f (h:Int) (p:Int) w H hw (.inr (by rw[mg_isSome hp,hpg];rfl)) hm;obtain⟨k0,_⟩:=H.cell;obtain⟨g,rfl,cp,_⟩:=H.read hp;obtain⟨g2,e2,ch,_⟩:=H.read hh;obtain rfl:g=g2:=by injection e2 with e2;injection e2
 have p0:(0:Int)≤(p:Int):=by omega
 have p1:(p:Int)<(m:Int):=by omega
 have h0:(0:Int)≤(h:Int):=by omega
 have h1:(h:Int)<(m:Int):=by omega
 have m0:(0:Int)<(m:Int):=by omega
 obtain⟨r,hr⟩:∃ r,childM m f p h=r:=⟨_,rfl⟩
 have hr':=hr;unfold childM at hr';rw[hr];by_cases hz:h=0
 ·rw[if_pos (.inl hz)] at hr';subst hz hr';have hq:(((0:Nat):Int) == 0)=true:=rfl;clear H hw hcon hr
  go_enter Tryz.func95,Tryz.ntmps95
  go_wp2_with fail
  go_ret
  exact⟨rfl,rfl⟩
 ·have hq:((h:Int) == 0)=false:=by rw[beq_eq_false_iff_ne];omega
  by_cases hu:(h:Int)∈Tr.upG (mg m f) (p:Int)
  ·rw[if_pos (.inr hu)] at hr';rw[decide_eq_true hu] at hcon;subst hr';have HC:=zh hcon;clear H hw hcon hr hu hz
   go_enter Tryz.func95,Tryz.ntmps95
   go_wp2_with fail;refine HC.out.mono ?_;rintro e w2 ⟨rfl,hw2⟩;obtain rfl:=hw2.symm;go_wp2_with fail
   go_ret
   exact⟨rfl,rfl⟩
  ·rw[if_neg (fun x=>x.elim hz hu)] at hr';rw[decide_eq_false hu] at hcon;have HC:=zh hcon;clear hcon hu hz;by_cases hk2:(f p).kind=2
   ·rw[if_pos hk2] at hr';rw[hk2] at cp;subst hr';clear H hw hr hk2
    go_enter Tryz.func95,Tryz.ntmps95
    go_wp2_with fail;refine HC.out.mono ?_;rintro e w2 ⟨rfl,hw2⟩;obtain rfl:=hw2.symm;go_wp2_with fail
    go_ret
    exact⟨rfl,rfl⟩
   ·rw[if_neg hk2] at hr';obtain⟨kp,hkp⟩:∃ kp,(f p).kind=kp:=⟨_,rfl⟩
    rw[hkp] at cp hk2;have hk2':(kp == 2)=false:=by simpa using hk2
    by_cases hpz:p=0
    ·have hpq:((p:Int) != 0)=false:=by rw[hpz];rfl
     by_cases hk3:(f h).kind=3
     ·rw[if_pos (.inr hk3)] at hr';rw[hk3] at ch;subst hr';clear H hw hr hk2 hk3 hkp hpz
      go_enter Tryz.func95,Tryz.ntmps95
      go_wp2_with fail;refine HC.out.mono ?_;rintro e w2 ⟨rfl,hw2⟩;obtain rfl:=hw2.symm;go_wp2_with fail
      go_ret
      exact⟨rfl,rfl⟩
     ·rw[if_neg (fun x=>x.elim (fun e=>e hpz) hk3)] at hr';obtain⟨kh,hkh⟩:∃ kh,(f h).kind=kh:=⟨_,rfl⟩
      rw[hkh] at ch hk3 hr';have hk3':(kh == 3)=false:=by simpa using hk3
      have hm0:0<m:=by omega
      obtain⟨g3,e3,_,_,_,_,_,c5,_⟩:=H.read hm0;obtain rfl:g=g3:=by injection e3 with e3;injection e3
      have hkn:=H.kn hm0;have hle:=mg_kids_le hw hm0 h0g;obtain⟨n,hn⟩:∃ n,(f 0).kids.length=n:=⟨_,rfl⟩
      rw[hkn,hn] at c5;rw[hn] at hle;have c5':w.cell? ⟨g,5,none⟩=some (.slice (f 0).k.a n (f 0).k.c):=by have:=c5;rwa [Nat.zero_mul,Nat.zero_add] at this
      have HH:=zh H;have HW:=zh hw;have HR:=zh hr';have HN:=zh hn;have HG:=zh h0g;clear H hw hr hr' hn hk2 hk3 hkp hpz hkn c5 h0g
      go_enter Tryz.func95,Tryz.ntmps95
      go_wp2_with fail;refine HC.out.mono ?_;rintro e w2 ⟨rfl,hw2⟩;obtain rfl:=hw2.symm;go_wp2_with fail
      go_loopw [7,8] (fun v u wr=>∃ j:Nat,v=.int .i64 (j:Int)∧j≤n∧Hid (((f 0).kids.take j).any (fun k=>k != (h:Int) && (f k.toNat).kind == 2 && kh == 2)=false)∧wr=w) (fun v _ _=>n - (intOf v).toNat)
      case atStart=>exact⟨0,rfl,Nat.zero_le _,zh (by simp),rfl⟩
      case round=>
       obtain⟨j,rfl,hj,HT,rfl⟩:=hrel;have j0:(0:Int)≤(j:Int):=by omega
       by_cases hjn:j<n
       ·have j1:(j:Int)<(n:Int):=by omega
        obtain⟨k,hk⟩:∃ k,(f 0).kids[j]?=some k:=⟨(f 0).kids[j]'(by rw[HN.out];exact hjn),by simp⟩
        obtain⟨ga,o,hA,ck⟩:=HH.out.kid hm0 hk;rw[hA] at c5';obtain⟨i',hki,hi',_⟩:=Live.kid HW.out hm0 HG.out (List.mem_of_getElem? hk);subst hki;obtain⟨g4,e4,ck0,_⟩:=HH.out.read hi';obtain rfl:g=g4:=by injection e4 with e4;injection e4
        have i0:(0:Int)≤(i':Int):=by omega
        have i1:(i':Int)<(m:Int):=by omega
        have htk:∀ b,((i':Int) != (h:Int) && (f i').kind == 2 && kh == 2)=b→(((f 0).kids.take (j+1)).any fun k=>k != (h:Int) && (f k.toNat).kind == 2 && kh == 2)=b:=fun b e=>by
         rw[List.take_add_one,hk,List.any_append,HT.out];simpa using e
        have hfull:∀ l,(f 0).kids=(f 0).kids.take (j+1)++l→(((f 0).kids.take (j+1)).any fun k=>k != (h:Int) && (f k.toNat).kind == 2 && kh == 2)=true→r=false:=fun l e ht=>by
         rw[←HR.out,e,List.any_append,ht];rfl
        obtain⟨kk,hkk⟩:∃ x,(f i').kind=x:=⟨_,rfl⟩
        rw[hkk] at ck0 htk;have HTK:=zh htk;have HF:=zh (hfull _ (List.take_append_drop (j+1) _).symm);clear hk hA htk hfull hkk;by_cases a1:(i':Int)=(h:Int)
        ·have b1:((i':Int) != (h:Int))=false:=by simpa using a1
         have HNX:=zh (HTK.out false (by rw[b1];rfl));clear a1;go_wp2_with fail
         go_roundw
         case rel=>exact⟨j+1,by go_num,by omega,HNX,trivial⟩
         case measure=>simp[intOf];omega
        ·have b1:((i':Int) != (h:Int))=true:=by simpa using a1
         by_cases a2:kk=2
         ·have b2:(kk == 2)=true:=by simpa using a2
          by_cases a3:kh=2
          ·have b3:(kh == 2)=true:=by simpa using a3
           have hrf:r=false:=HF.out (HTK.out true (by rw[b1,b2,b3];rfl));subst hrf;clear a1 a2 a3;go_wp2_with fail
           go_ret
           exact⟨rfl,rfl⟩
          ·have b3:(kh == 2)=false:=by simpa using a3
           have HNX:=zh (HTK.out false (by rw[b3];simp));clear a1 a2 a3;go_wp2_with fail
           go_roundw
           case rel=>exact⟨j+1,by go_num,by omega,HNX,trivial⟩
           case measure=>simp[intOf];omega
         ·have b2:(kk == 2)=false:=by simpa using a2
          have HNX:=zh (HTK.out false (by rw[b2];simp));clear a1 a2;go_wp2_with fail
          go_roundw
          case rel=>exact⟨j+1,by go_num,by omega,HNX,trivial⟩
          case measure=>simp[intOf];omega
       ·have hjn2:j=n:=by omega
        subst hjn2;have hrt:r=true:=by
         have h2:=HT.out;rw[List.take_of_length_le (by rw[HN.out];exact Nat.le_refl _)] at h2;rw[←HR.out,h2];rfl
        subst hrt;go_wp2_with fail
        go_ret
        exact⟨rfl,rfl⟩
    ·have hpq:((p:Int) != 0)=true:=by rw[bne_iff_ne];omega
     rw[if_pos (.inl hpz)] at hr';subst hr';clear H hw hr hk2 hkp hpz
     go_enter Tryz.func95,Tryz.ntmps95
     go_wp2_with fail;refine HC.out.mono ?_;rintro e w2 ⟨rfl,hw2⟩;obtain rfl:=hw2.symm;go_wp2_with fail
     go_ret
     exact⟨rfl,rfl⟩
end
section
open Go.RowKit
theorem attrInfo:(Tryz.prog.info? 91).map (fun i=>(i.zero,i.size,i.bytes))=some (some (.agg #[.string ⟨#[]⟩,.string ⟨#[]⟩]),2,32):=by kernel_rfl
abbrev AR (w:World) (base:Nat) (v:Value) (l:List (ByteArray×ByteArray)):Prop:=TR w base 91 2 v l.length (atC l)
def AT (w:World) (g:Tr.G) (av:Int→Tr.Sl):Prop:=∀ h n,g h=some n→AR w 0 (av h).v n.attrs
section
variable {base B n live:Nat} {b s root:Int} {vs vf:Value} {R:Int→Option Tr.Nd} {fr:List Nat} {w w1 w':World} {g g':Tr.G} {av av':Int→Tr.Sl}
theorem TV.tr_apart {b2 size m:Nat} {e:TypeId} {v:Value} {xs:List Value} (hM:TV base w B b s vs n R vf fr live root) (h:TR w b2 e size v m xs) (h1:e≠83) (h2:e≠148) (h3:e≠3):∀ k,v.ownBlock=some k→¬ Foot B vs vf k:=by
 rintro k hk (rfl | hx | hx)
 ·exact h.unlike hM.var h1 hk
 ·exact own_tr_ne h hM.row h2 k hx hk
 ·exact own_tr_ne h hM.free h3 k hx hk
theorem TR.apart_step {b2 size m:Nat} {e:TypeId} {v:Value} {xs:List Value} {F':Nat→Prop} (h:TR w b2 e size v m xs) (hM:TV base w B b s vs n R vf fr live root) (st:AStep w w' (Foot B vs vf) F') (h1:e≠83) (h2:e≠148) (h3:e≠3):TR w' b2 e size v m xs:=
 h.turns st.1 (hM.tr_apart h h1 h2 h3)
theorem AT.step {F':Nat→Prop} (h:AT w g av) (hM:TV base w B b s vs n R vf fr live root) (st:AStep w w' (Foot B vs vf) F'):AT w' g av:=
 fun x m e=>(h x m e).apart_step hM st (by decide) (by decide) (by decide)
theorem AT.below (h:AT w g av) (hb:Below w.heap.size w w'):AT w' g av:=fun x m e=>(h x m e).below hb
theorem AT.turns {S:Nat→Prop} (h:AT w g av) (ht:Turns S w w') (hn:∀ x m,g x=some m→∀ k,(av x).v.ownBlock=some k→¬ S k):AT w' g av:=fun x m e=>(h x m e).turns ht (hn x m e)
theorem AT.same (h:AT w g av) (hs:∀ x m',g' x=some m'→∃ m,g x=some m∧m.attrs=m'.attrs):AT w g' av:=fun x m' e=>by
 obtain⟨m,e1,e2⟩:=hs x m' e;rw[←e2];exact h x m e1
theorem AT.put {h:Int} {sl:Tr.Sl} {u:Tr.GN→Tr.GN} (ha:AT w g av) (hr:∀ m,g h=some m→AR w 0 sl.v (u m).attrs):AT w (Tr.putG g h u) (Tr.addA av h sl):=fun x m' e=>by
 unfold Tr.putG at e;by_cases hx:x=h
 ·subst hx;rw[if_pos rfl] at e;cases em:g x with
  | none=>rw[em] at e;cases e
  | some m=>rw[em] at e;obtain rfl:=Option.some.inj e;rw[Tr.addA_self];exact hr m em
 ·rw[if_neg hx] at e;rw[Tr.addA_ne hx];exact ha x m' e
end
theorem aclone_any (v:Value) (l:List (ByteArray×ByteArray)) (w:World) (h:AR w 0 v l) (hl:l.length≤1000):
  Calls Tryz.prog 60 #[v] w fun e w'=>∃ v',e=.returned v'∧AR w' w.heap.size v' l∧Below w.heap.size w w':=by
 obtain⟨i0,hi0,hz0,hz1,hz2⟩:=info_parts attrInfo;obtain⟨A,c,rfl⟩:=h.form;have hcmp:∀ (w:World) (a:Option Addr) (n c:Nat),(binOp .eql 40 (.slice a n c) (.slice none 0 0)).run Tryz.prog w=.ok (.bool a.isNone) w:=fun w a n c=>Lib.run_eql_slice_nil w _ _ a n c 0 0 Tryz.underlying40
 go_enter Tryz.func60,Tryz.ntmps60
 cases A with
 | none=>
  have hn:l.length=0:=by
   rcases h.addr with ⟨_,hx,_⟩ | ⟨g,off,hv⟩
   ·exact hx
   ·cases hv
  have hx:l=[]:=List.eq_nil_of_length_eq_zero hn;subst hx;clear hn h;go_wp2_with fail
  go_ret
  exact⟨_,rfl,TR.nil _ _ _ _,Below.refl _ w⟩
 | some a=>
  have e1:TR (w.alloc (.cells #[] 91)) w.heap.size 91 2 (.slice (some ⟨w.heap.size,0,none⟩) 0 0) 0 []:=by
   have h:=World.ownsRow_lit (base:=w.heap.size) (e:=91) (size:=2) w #[] 0 (Nat.le_refl _) (Nat.zero_le _) rfl;exact .of_own (by simpa using h)
  have hb1:=(Below.refl _ w).alloc (Nat.le_refl _) (.cells #[] 91);have s1:=(h.below hb1).source
  go_wp2_with (at_builtin;refine wpList_append_tail rfl _ _ 40 rfl w.heap.size 91 i0 (.agg #[.string ⟨#[]⟩,.string ⟨#[]⟩]) 2 32 Tryz.underlying40 hi0 hz0 hz1 hz2 rfl (by decide) _ 0 [] rfl e1 _ l.length (atC l) rfl (atC_len l) s1 (atC_one l) ?c3 ?c4 hb1.size ?_)
  case c3=>unfold maxLen;omega
  case c4=>omega
  intro v2 w2 o2 g2 _;have hb2:Below w.heap.size w w2:=hb1.grown g2 hb1.size (fun j hj=>by simp[Value.ownBlock] at hj;omega);(try simp only[Nat.zero_add,List.nil_append] at o2);go_wp2_with fail
  go_ret
  exact⟨_,rfl,o2,hb2⟩
theorem sl_of {v:Value} {w:World} {base size n:Nat} {e:TypeId} {xs:List Value} (h:TR w base e size v n xs):∃ sl:Tr.Sl,v=sl.v∧sl.n=n:=by
 obtain⟨A,c,rfl⟩:=h.form;exact⟨⟨A,n,c⟩,rfl,rfl⟩
end
section
open Go.RowKit
def elemE (g:Tr.G) (h:Int):Int:=match g h with | none=>6 | some n=>if n.kind=2 then 0 else 10
theorem elemErr_any (base B:Nat) (b s root h:Int) (live n:Nat) (g:Tr.G) (av:Int→Tr.Sl) (fr:List Nat) (vs vf:Value) (w:World) (hm:TV base w B b s vs n (Tr.raw g av) vf fr live root) (hS:Sound b s n (Tr.raw g av) fr live) (hh:I64 h) (hk:∀ x m,g x=some m→m.kind≠0):
  Calls Tryz.prog 70 #[.pointer (some ⟨B,0,none⟩),.int .i64 h] w fun e w'=>e=.returned (.int .i64 (elemE g h))∧Below w.heap.size w w':=by
 have hA:=at_any base B b s root h live n _ fr vs vf w hm hS hh;cases eg:g h with
 | none=>
  rw[Tr.raw_none eg] at hA;have hr:elemE g h=6:=by unfold elemE;rw[eg]
  rw[hr]
  go_enter Tryz.func70,Tryz.ntmps70
  go_wp2_with fail;refine hA.mono ?_;rintro e w1 ⟨gb,o,rfl,hnp,hb⟩;have c0:w1.cell? ⟨gb,o,none⟩=some (.int .i64 0):=hnp.cells.1;clear hm hA hnp;go_wp2_with fail
  go_ret
  exact⟨rfl,hb⟩
 | some m=>
  rw[Tr.raw_some eg] at hA;have hk0:=hk h m eg;have q0:(m.kind == 0)=false:=beq_false' hk0;by_cases hk2:m.kind=2
  ·have q2:(m.kind == 2)=true:=beq_true' hk2;have hr:elemE g h=0:=by unfold elemE;rw[eg];exact if_pos hk2
   rw[hr]
   go_enter Tryz.func70,Tryz.ntmps70
   go_wp2_with fail;refine hA.mono ?_;rintro e w1 ⟨gb,o,rfl,hnp,hb⟩;have c0:w1.cell? ⟨gb,o,none⟩=some (.int .i64 m.kind):=hnp.cells.1;clear hm hA hnp hk2;go_wp2_with fail
   go_ret
   exact⟨rfl,hb⟩
  ·have q2:(m.kind == 2)=false:=beq_false' hk2;have hr:elemE g h=10:=by unfold elemE;rw[eg];exact if_neg hk2
   rw[hr]
   go_enter Tryz.func70,Tryz.ntmps70
   go_wp2_with fail;refine hA.mono ?_;rintro e w1 ⟨gb,o,rfl,hnp,hb⟩;have c0:w1.cell? ⟨gb,o,none⟩=some (.int .i64 m.kind):=hnp.cells.1;clear hm hA hnp hk2;go_wp2_with fail
   go_ret
   exact⟨rfl,hb⟩
def atN (l:List (ByteArray×ByteArray)) (nm:ByteArray):Nat:=l.findIdx fun p=>p.1.toList == nm.toList
def atI (l:List (ByteArray×ByteArray)) (nm:ByteArray):Int:=if atN l nm<l.length then (atN l nm:Nat) else -1
theorem atN_le (l:List (ByteArray×ByteArray)) (nm:ByteArray):atN l nm≤l.length:=List.findIdx_le_length
theorem atN_step {l:List (ByteArray×ByteArray)} {nm:ByteArray} {k:Nat} {p:ByteArray×ByteArray} (hp:l[k]?=some p) (hk:k≤atN l nm):((p.1.toList == nm.toList)=true→atN l nm=k)∧((p.1.toList == nm.toList)=false→k+1≤atN l nm):=by
 obtain⟨hlt,he⟩:=List.getElem?_eq_some_iff.1 hp;constructor
 ·intro h;have:atN l nm≤k:=by
   refine Nat.le_of_not_lt fun hc=>?_;have:=List.not_of_lt_findIdx (p:=fun p:ByteArray×ByteArray=>p.1.toList == nm.toList) (xs:=l) hc;rw[he] at this;rw[h] at this;exact absurd this (by simp)
  omega
 ·intro h;by_cases e:k=atN l nm
  ·exfalso;have hlt2:l.findIdx (fun p=>p.1.toList == nm.toList)<l.length:=by have e':k=l.findIdx (fun p=>p.1.toList == nm.toList):=e;omega
   have:=List.findIdx_getElem (p:=fun p:ByteArray×ByteArray=>p.1.toList == nm.toList) (xs:=l) (w:=hlt2);have e2:l[l.findIdx (fun p=>p.1.toList == nm.toList)]=p:=by
    have:l.findIdx (fun p=>p.1.toList == nm.toList)=k:=e.symm;simp only[this];exact he
   rw[e2] at this;rw[h] at this;cases this
  ·omega
theorem AR.at {w:World} {base:Nat} {A:Option Addr} {c n:Nat} {l:List (ByteArray×ByteArray)} (h:TR w base 91 2 (.slice A n c) l.length (atC l)) {k:Nat} {p:ByteArray×ByteArray} (hp:l[k]?=some p):
  ∃ g o,A=some ⟨g,o,none⟩∧n=l.length∧w.cell? ⟨g,o+k*2,none⟩=some (.string p.1)∧w.cell? ⟨g,o+k*2+1,none⟩=some (.string p.2):=by
 have hlt:=(List.getElem?_eq_some_iff.1 hp).1;obtain⟨A',c',e⟩:=h.form;injection e with e1 e2 e3;subst e1 e2 e3;obtain⟨g,o,hA,_,_,hc,_⟩:=h.cells (by omega);exact⟨g,o,hA,rfl,hc _ _ (by omega) (atC_get l k p hp).1,by rw[Nat.add_assoc];exact hc _ _ (by omega) (atC_get l k p hp).2⟩
theorem same_name (a v nm:ByteArray) (nb:Nat) (w:World) (hb:w.cell? ⟨nb,0,none⟩=some (.string nm)) (hlt:nb<w.heap.size):
  Calls Tryz.prog 116 #[.agg #[.string a,.string v],.pointer (some ⟨nb,0,none⟩)] w fun e w'=>e=.returned (.bool (a.toList == nm.toList))∧Below w.heap.size w w':=by
 have hB:=(Below.refl _ w).alloc (Nat.le_refl _) (.cells #[.string a,.string v] 91);have c1:=hB.cell (p:=⟨nb,0,none⟩) hlt;rw[hb] at c1
 go_enter Tryz.func116,Tryz.ntmps116
 go_wp2_with fail
 go_ret
 exact⟨rfl,hB⟩
theorem ifunc_any (v:Value) (l:List (ByteArray×ByteArray)) (nm:ByteArray) (nb:Nat) (w:World) (h:AR w 0 v l) (hl:l.length≤1000) (hb:w.cell? ⟨nb,0,none⟩=some (.string nm)) (hlt:nb<w.heap.size):
  Calls Tryz.prog 115 #[v,.func (.func 116) #[] #[.pointer (some ⟨nb,0,none⟩)]] w fun e w'=>e=.returned (.int .i64 (atI l nm))∧Below w.heap.size w w':=by
 obtain⟨A,c,rfl⟩:=h.form;obtain⟨n,hn⟩:∃ n,l.length=n:=⟨_,rfl⟩
 have hle:=atN_le l nm;have HH:=zh h;have HI:Hid (atI l nm=if atN l nm<l.length then ((atN l nm:Nat):Int) else -1):=zh rfl;rw[hn] at hl;have HN:=zh hn;rw[hn];clear h hn
 go_enter Tryz.func115,Tryz.ntmps115
 go_wp2_with fail
 go_loopw [8] (fun v wr=>∃ k:Nat,v=.int .i64 k∧k≤n∧Hid (k≤atN l nm)∧Below w.heap.size w wr) (fun v _=>n - (intOf v).toNat)
 case atStart=>exact⟨0,rfl,Nat.zero_le _,zh (Nat.zero_le _),Below.refl _ _⟩
 case round=>
  obtain⟨k,rfl,hkn,H2,hbw⟩:=hrel;by_cases hk:k<n
  ·have q1:(k:Int)<(n:Int):=by omega
   have q0:(0:Int)≤(k:Int):=by omega
   obtain⟨p,hp⟩:∃ p,l[k]?=some p:=⟨l[k]'(by rw[HN.out];exact hk),by simp⟩
   obtain⟨g,o,rfl,_,c1,c2⟩:=AR.at (HH.out.below hbw) hp;have HS:=zh (atN_step (nm:=nm) hp H2.out);have c3:=hbw.cell (p:=⟨nb,0,none⟩) hlt;rw[hb] at c3;have HC:=zh (same_name p.1 p.2 nm nb wr c3 (Nat.lt_of_lt_of_le hlt hbw.size));clear hp;go_wp2_with fail;refine HC.out.mono ?_;rintro e w2 ⟨rfl,hb2⟩;have hb3:=hbw.trans (hb2.mono hbw.size);clear HC c1 c2 c3 hbw hb2;cases he:(p.1.toList == nm.toList) with
   | true=>
    have hr:atI l nm=(k:Int):=by rw[HI.out,HS.out.1 he,if_pos (by rw[HN.out];exact hk)]
    have HR:=zh hr;clear hr he;go_wp2_with fail
    go_ret
    exact⟨aretI HR.out.symm,hb3⟩
   | false=>
    have HR:=zh (HS.out.2 he);clear he;go_wp2_with fail
    go_roundw
    case rel=>exact⟨k+1,by go_num,by omega,zh HR.out,hb3⟩
    case measure=>simp[intOf];omega
  ·have hkn':k=n:=by omega
   subst hkn';have hr:atI l nm = -1:=by rw[HI.out,if_neg (by rw[HN.out];have:=H2.out;omega)]
   have HR:=zh hr;have q1:¬ (k:Int)<(k:Int):=by omega
   clear hr;go_wp2_with fail
   go_ret
   exact⟨aretI HR.out.symm,hbw⟩
theorem indexOf_any (v:Value) (l:List (ByteArray×ByteArray)) (nm:ByteArray) (w:World) (h:AR w 0 v l) (hl:l.length≤1000):
  Calls Tryz.prog 71 #[v,.string nm] w fun e w'=>e=.returned (.int .i64 (atI l nm))∧Below w.heap.size w w':=by
 have hB:=(Below.refl _ w).alloc (Nat.le_refl _) (.cells #[.string nm] 9);have HC:=zh (ifunc_any v l nm w.heap.size (w.alloc (.cells #[.string nm] 9)) (h.below hB) hl ((Whole.new w #[.string nm] 9).cell 0) (by simp));clear h
 go_enter Tryz.func71,Tryz.ntmps71
 go_wp2_with fail;refine HC.out.mono ?_;rintro e w2 ⟨rfl,hb2⟩;have HB:=zh (hB.trans (hb2.mono hB.size));clear hB hb2 HC;go_wp2_with fail
 go_ret
 exact⟨rfl,HB.out⟩
end
section
open Go Go.RowKit
section
variable {m:Nat} {f:Nat→RS}
theorem mg_ext {m m':Nat} {f f':Nat→RS} (hneg:∀ x:Int,x<0→mg m f x=mg m' f' x) (h:∀ i:Nat,mg m f i=mg m' f' i):mg m f=mg m' f':=by
 funext x;by_cases hx:x<0
 ·exact hneg x hx
 ·obtain⟨i,rfl⟩:=Int.eq_ofNat_of_zero_le (by omega:0≤x);exact h i
theorem mg_nat (m:Nat) (f:Nat→RS) (i:Nat):mg m f (i:Int)=if i<m∧(f i).gone=false then some (rsG (f i)) else none:=by
 unfold mg;by_cases h:i<m∧(f i).gone=false
 ·rw[if_pos ⟨by omega,by simpa using h.1,by simpa using h.2⟩,if_pos h];simp
 ·rw[if_neg h,if_neg];rintro⟨_,h1,h2⟩;exact h ⟨by simpa using h1,by simpa using h2⟩
theorem mg_upd {i:Nat} (hi:i<m) (hg:(f i).gone=false) {u:RS→RS} {U:Tr.GN→Tr.GN} (hgo:(u (f i)).gone=false) (h:rsG (u (f i))=U (rsG (f i))):mg m (updM f i u)=Tr.putG (mg m f) i U:=by
 funext x;unfold Tr.putG;by_cases hx:x<0
 ·rw[if_neg (by omega),mg_neg hx,mg_neg hx]
 ·obtain⟨j,rfl⟩:=Int.eq_ofNat_of_zero_le (by omega:0≤x);rw[mg_nat];by_cases e:j=i
  ·subst e;rw[if_pos rfl,updM_same,if_pos ⟨hi,hgo⟩,mg_at hi hg,h];rfl
  ·rw[if_neg (c:=(j:Int)=(i:Int)) (by omega),updM_ne e,←mg_nat]
theorem mg_cut {i p:Nat} {sl:Tr.Sl} (hi:i<m) (hg:(f i).gone=false) (hp:p<m) (hpg:(f p).gone=false) (hpa:(f i).pa=(p:Int)) (hpi:p≠i):
  mg m (updM (updM f p fun n=>{ n with k:=sl,kids:=n.kids.erase (i:Int) }) i fun n=>{ n with pa := -1 })=Tr.cutA (mg m f) i:=by
 funext x;unfold Tr.cutA;by_cases hx:x<0
 ·rw[if_neg (by omega),mg_neg hx]
  split
  ·rw[mg_neg hx];rfl
  ·rw[mg_neg hx]
 ·obtain⟨j,rfl⟩:=Int.eq_ofNat_of_zero_le (by omega:0≤x);have hpo:Tr.paOf (mg m f) (i:Int)=(p:Int):=by rw[Tr.paOf_some (mg_at hi hg)];exact hpa
  rw[mg_nat,hpo];by_cases e:j=i
  ·subst e;rw[if_pos (c:=(j:Int)=(j:Int)) rfl,updM_same,updM_ne (fun e=>hpi e.symm),if_pos ⟨hi,hg⟩,mg_at hi hg];rfl
  ·rw[if_neg (c:=(j:Int)=(i:Int)) (by omega),updM_ne e];by_cases e2:j=p
   ·subst e2;rw[updM_same,if_pos ⟨hp,hpg⟩,if_pos rfl,mg_at hp hpg];rfl
   ·rw[updM_ne e2,if_neg (c:=(j:Int)=(p:Int)) (by omega),←mg_nat]
theorem mg_link {i p:Nat} {sl:Tr.Sl} {c:Int} (hi:i<m) (hg:(f i).gone=false) (hp:p<m) (hpg:(f p).gone=false) (hpi:p≠i):
  mg m (updM (updM f p fun n=>{ n with k:=sl,kids:=Tr.insB n.kids c (i:Int) }) i fun n=>{ n with pa:=p })=Tr.linkA (mg m f) p i c:=by
 funext x;unfold Tr.linkA;by_cases hx:x<0
 ·rw[if_neg (by omega),mg_neg hx,if_neg (by omega),mg_neg hx]
 ·obtain⟨j,rfl⟩:=Int.eq_ofNat_of_zero_le (by omega:0≤x);rw[mg_nat];by_cases e:j=i
  ·subst e;rw[if_pos (c:=(j:Int)=(j:Int)) rfl,updM_same,updM_ne (fun e=>hpi e.symm),if_pos ⟨hi,hg⟩,mg_at hi hg];rfl
  ·rw[if_neg (c:=(j:Int)=(i:Int)) (by omega),updM_ne e];by_cases e2:j=p
   ·subst e2;rw[updM_same,if_pos ⟨hp,hpg⟩,if_pos rfl,mg_at hp hpg];rfl
   ·rw[updM_ne e2,if_neg (c:=(j:Int)=(p:Int)) (by omega),←mg_nat]
theorem mg_push {x:RS} (hx:x.gone=false):mg (m+1) (pushM m f x)=Tr.addG (mg m f) m (rsG x):=by
 funext y;unfold Tr.addG;by_cases hy:y<0
 ·rw[if_neg (by omega),mg_neg hy,mg_neg hy]
 ·obtain⟨j,rfl⟩:=Int.eq_ofNat_of_zero_le (by omega:0≤y);rw[mg_nat];by_cases e:j=m
  ·subst e;rw[if_pos rfl,pushM_new,if_pos ⟨by omega,hx⟩]
  ·rw[if_neg (c:=(j:Int)=(m:Int)) (by omega),mg_nat];by_cases h:j<m
   ·rw[pushM_old h];by_cases hg:(f j).gone=false
    ·rw[if_pos ⟨by omega,hg⟩,if_pos ⟨h,hg⟩]
    ·rw[if_neg (fun e=>hg e.2),if_neg (fun e=>hg e.2)]
   ·rw[if_neg (fun e=>by omega),if_neg (fun e=>h e.1)]
end
end
section
namespace Tr
open Go Go.RowKit
def dropR (R:Int→Option Nd) (l:List Int):Int→Option Nd:=fun x=>if x∈l then none else R x
def dropG (g:G) (h:Int):G:=fun x=>if x∈walkG g h then none else g x
theorem dropR_nil (R:Int→Option Nd):dropR R []=R:=by funext x;unfold dropR;simp
theorem dropR_snoc (R:Int→Option Nd) (l:List Int) (h:Int):dropR R (l++[h])=setO (dropR R l) h none:=by
 funext x;unfold dropR setO;dsimp only;by_cases e:x=h
 ·rw[if_pos e,if_pos (by rw[e];simp)]
 ·rw[if_neg e];by_cases hl:x∈l
  ·rw[if_pos hl,if_pos (by simp[hl])]
  ·rw[if_neg hl,if_neg (by simp[hl,e])]
theorem dropR_out {R:Int→Option Nd} {l:List Int} {x:Int} (h:x∉l):dropR R l x=R x:=if_neg h
section
variable {z:Int} {g:G} {h:Int} {n:GN}
theorem dropG_out {x:Int} (hx:x∉walkG g h):dropG g h x=g x:=if_neg hx
theorem dropG_in {x:Int} (hx:x∈walkG g h):dropG g h x=none:=if_pos hx
theorem dropG_some {x:Int} {m:GN} (e:dropG g h x=some m):g x=some m∧x∉walkG g h:=by
 unfold dropG at e
 split at e
 ·cases e
 ·rename_i hx;exact⟨e,hx⟩
theorem WF.drop_pa (w:WF z g) {x:Int} {m:GN} (e:g x=some m) (hx:x∉walkG g h):m.pa∉walkG g h:=fun hm=>by
 refine hx ((w.mem_walk h x).2 ?_);rw[w.upG_some e];exact List.mem_cons_of_mem _ ((w.mem_walk h _).1 hm)
theorem WF.drop_kid (w:WF z g) (eh:g h=some n) (hp:n.pa=z) {x k:Int} {m:GN} (e:g x=some m) (hx:x∉walkG g h) (hk:k∈m.kids):k∉walkG g h:=fun hm=>by
 have h1:=(w.mem_walk h k).1 hm;rw[w.up_kid e hk,List.mem_cons] at h1;rcases h1 with rfl | h1
 ·obtain⟨m',e1,e2⟩:=w.down x m _ e hk;rw[eh] at e1;obtain rfl:=Option.some.inj e1;rw[←e2,hp,w.zero] at e;cases e
 ·exact hx ((w.mem_walk h x).2 h1)
theorem WF.drop_up (w:WF z g) {x:Int} {l:List Int} (u:Up g x l) (hx:x∉walkG g h):Up (dropG g h) x l:=by
 induction u with
 | out e=>exact .out ((dropG_out hx).trans e)
 | node e u ih=>exact .node ((dropG_out hx).trans e) (ih (w.drop_pa e hx))
theorem WF.drop (w:WF z g) (eh:g h=some n) (hp:n.pa=z):WF z (dropG g h) where
 zero:=by rw[dropG_out (w.walk_zero h)];exact w.zero
 up x m e hm:=by
  obtain⟨e1,hx⟩:=dropG_some e;obtain⟨p,h1,h2⟩:=w.up x m e1 hm;exact⟨p,(dropG_out (w.drop_pa e1 hx)).trans h1,h2⟩
 down x m k e hk:=by
  obtain⟨e1,hx⟩:=dropG_some e;obtain⟨p,h1,h2⟩:=w.down x m k e1 hk;exact⟨p,(dropG_out (w.drop_kid eh hp e1 hx hk)).trans h1,h2⟩
 nodup x m e:=w.nodup x m (dropG_some e).1
 chain x:=by
  by_cases hx:x∈walkG g h
  ·exact⟨[],.out (dropG_in hx),by simp⟩
  ·obtain⟨l,u,hl⟩:=w.chain x;exact⟨l,w.drop_up u hx,hl⟩
theorem WF.raw_drop (w:WF z g) (hz:z=0) (eh:g h=some n) (hp:n.pa=z) (av:Int→Sl):dropR (raw g av) (walkG g h)=raw (dropG g h) av:=by
 funext x;unfold dropR;by_cases hx:x∈walkG g h
 ·rw[if_pos hx,raw_none (dropG_in hx)]
 ·rw[if_neg hx];cases e:g x with
  | none=>rw[raw_none e,raw_none ((dropG_out hx).trans e)]
  | some m=>
   rw[raw_some e,raw_some ((dropG_out hx).trans e)];have hk:kidsOf (dropG g h) m.pa=kidsOf g m.pa:=by unfold kidsOf;rw[dropG_out (w.drop_pa e hx)]
   unfold raw1;rw[hk]
end
theorem Im.drop {ρ:Int→Int} {a g:G} (h:Im ρ a g) (w:WF 0 g) {i:Int} {n:GN} (ei:a i=some n) (hp:n.pa = -1):Im ρ (dropG a i) (dropG g (ρ i)):=by
 have wa:=h.pull w;have hwk:walkG g (ρ i)=(walkG a i).map ρ:=h.walk w i (isSome_of ei);have hl:∀ k∈walkG a i,(a k).isSome:=fun k hk=>wa.walk_sub hk;have hout:∀ x,(a x).isSome→x∉walkG a i→ρ x∉walkG g (ρ i):=fun x hx hn hm=>hn (by rw[hwk] at hm;exact (h.mem hl hx).1 hm);have hlive:∀ x,(dropG a i x).isSome→(a x).isSome∧x∉walkG a i:=fun x hx=>by
  obtain⟨m,e⟩:=Option.isSome_iff_exists.1 hx;obtain⟨e1,e2⟩:=dropG_some e;exact⟨isSome_of e1,e2⟩
 refine⟨h.zero,fun x m e=>?_,fun y hy=>?_,fun x y hx hy e=>h.inj x y (hlive x hx).1 (hlive y hy).1 e,fun x hx=>h.nz x (hlive x hx).1,(dropG_out (wa.walk_zero i)).trans h.neg,fun x m e=>?_,fun x m e k hk=>?_⟩
 ·obtain⟨e1,e2⟩:=dropG_some e;rw[dropG_out (hout x (isSome_of e1) e2)];exact h.node x m e1
 ·obtain⟨m,e⟩:=Option.isSome_iff_exists.1 hy;obtain⟨e1,e2⟩:=dropG_some e;obtain⟨x,hx,rfl⟩:=h.dom y (isSome_of e1);refine⟨x,?_,rfl⟩;rw[dropG_out (fun hm=>e2 (by rw[hwk];exact List.mem_map.2 ⟨x,hm,rfl⟩))];exact hx
 ·obtain⟨e1,e2⟩:=dropG_some e;rcases h.pa x m e1 with h1 | h1
  ·exact .inl h1
  ·exact .inr (by rw[dropG_out (wa.drop_pa e1 e2)];exact h1)
 ·obtain⟨e1,e2⟩:=dropG_some e;rw[dropG_out (wa.drop_kid ei hp e1 e2 hk)];exact h.kids x m e1 k hk
end Tr
end
section
open Go.RowKit
abbrev ndW (d:Tr.Nd) (v:Value):Value:=.agg #[.int .i64 d.kind,.string d.name,v,.string d.data,.int .i64 d.pa,.int .i64 d.fi,.int .i64 d.la,.int .i64 d.pr,.int .i64 d.ne]
theorem pnode_any (base B:Nat) (b s root h:Int) (live n:Nat) (R:Int→Option Tr.Nd) (fr:List Nat) (vs vf:Value) (d:Tr.Nd) (l:List (ByteArray×ByteArray)) (w:World) (hM:TV base w B b s vs n R vf fr live root) (hS:Sound b s n R fr live) (hh:I64 h) (hd:(R h).getD Tr.zNd=d) (har:AR w 0 (.slice d.av.a d.av.n d.av.c) l) (hl:l.length≤1000):
  Calls Tryz.prog 16 #[.pointer (some ⟨B,0,none⟩),.int .i64 h] w fun e w'=>∃ v,e=.returned (.tuple #[ndW d v,.bool (R h).isSome])∧AR w' w.heap.size v l∧Below w.heap.size w w':=by
 obtain⟨w1,hw1⟩:∃ w1,w.alloc (.cells #[.int .i64 0,.string ⟨#[]⟩,.slice none 0 0,.string ⟨#[]⟩,.int .i64 0,.int .i64 0,.int .i64 0,.int .i64 0,.int .i64 0] 42)=w1:=⟨_,rfl⟩
 have hX1:Whole w1 w.heap.size #[.int .i64 0,.string ⟨#[]⟩,.slice none 0 0,.string ⟨#[]⟩,.int .i64 0,.int .i64 0,.int .i64 0,.int .i64 0,.int .i64 0] 42:=by rw[←hw1];exact Whole.new w _ _
 have hB1:Below w.heap.size w w1:=bzA hw1;have hs1:w1.heap.size=w.heap.size+1:=by rw[←hw1];simp
 have hG:=nget_any base B b s root h live n R fr vs vf w1 (hM.below hB1) hS hh;rw[hd] at hG;have har1:=har.below hB1;obtain⟨q,hq⟩:∃ q,(R h).isSome=q:=⟨_,rfl⟩
 rw[hq] at hG ⊢;clear hM hS har hd hq
 go_enter Tryz.func16,Tryz.ntmps16
 go_wp2_with fail;(try rw[hw1]);(try go_wp2_with fail);refine hG.mono ?_;rintro e w2 ⟨rfl,hb2⟩;have hX2:=hX1.below hb2 hX1.lt;have har2:=har1.below hb2;have hB2:=hB1.trans (hb2.mono hB1.size);have hs2:=hb2.size;obtain⟨w3,hw3⟩:∃ w3,w2.alloc (.cells #[.int .i64 d.kind,.string d.name,.slice d.av.a d.av.n d.av.c,.string d.data,.int .i64 d.pa,.int .i64 d.fi,.int .i64 d.la,.int .i64 d.pr,.int .i64 d.ne] 42)=w3:=⟨_,rfl⟩
 have hY3:Whole w3 w2.heap.size #[.int .i64 d.kind,.string d.name,.slice d.av.a d.av.n d.av.c,.string d.data,.int .i64 d.pa,.int .i64 d.fi,.int .i64 d.la,.int .i64 d.pr,.int .i64 d.ne] 42:=by rw[←hw3];exact Whole.new w2 _ _
 have hb23a:Below w2.heap.size w2 w3:=bzA hw3;have hb23:=hb23a;have hX3:=hX2.below hb23 hX2.lt;have har3:=har2.below hb23;have hs3:=hb23.size;have hl3:=hY3.lt;have y0:w3.cell? ⟨w2.heap.size,0,none⟩=some (.int .i64 d.kind):=hY3.cell 0;have y1:w3.cell? ⟨w2.heap.size,1,none⟩=some (.string d.name):=hY3.cell 1;have y2:w3.cell? ⟨w2.heap.size,2,none⟩=some (.slice d.av.a d.av.n d.av.c):=hY3.cell 2;have y3:w3.cell? ⟨w2.heap.size,3,none⟩=some (.string d.data):=hY3.cell 3;have y4:w3.cell? ⟨w2.heap.size,4,none⟩=some (.int .i64 d.pa):=hY3.cell 4;have y5:w3.cell? ⟨w2.heap.size,5,none⟩=some (.int .i64 d.fi):=hY3.cell 5;have y6:w3.cell? ⟨w2.heap.size,6,none⟩=some (.int .i64 d.la):=hY3.cell 6;have y7:w3.cell? ⟨w2.heap.size,7,none⟩=some (.int .i64 d.pr):=hY3.cell 7;have y8:w3.cell? ⟨w2.heap.size,8,none⟩=some (.int .i64 d.ne):=hY3.cell 8;have HCL:=zh (aclone_any _ l w3 har3 hl);have HX3:=zh hX3;have HY3:=zh hY3;have HB3:=zh (hB2.trans (hb23.mono hB2.size));clear hG hX1 hX2 hX3 hY3 hb23a hb23 har1 har2 har3 hB1 hB2 hb2;go_wp2_with fail;(try rw[hw3]);(try go_wp2_with fail);refine HCL.out.mono ?_;rintro e w4 ⟨v4,rfl,har4,hb4⟩;obtain⟨A4,c4,rfl⟩:=har4.form;have hY4:=HY3.out.below hb4 hl3;have f4:=hY4.free 2;have hX4:=HX3.out.below hb4 HX3.out.lt;obtain⟨w5,hw5⟩:∃ w5,w4.setCell ⟨w2.heap.size,2,none⟩ (.slice A4 l.length c4)=w5:=⟨_,rfl⟩
 have hY5:Whole w5 w2.heap.size #[.int .i64 d.kind,.string d.name,.slice A4 l.length c4,.string d.data,.int .i64 d.pa,.int .i64 d.fi,.int .i64 d.la,.int .i64 d.pr,.int .i64 d.ne] 42:=by rw[←hw5];exact hY4.put 2 _
 have hX5:Whole w5 w.heap.size #[.int .i64 0,.string ⟨#[]⟩,.slice none 0 0,.string ⟨#[]⟩,.int .i64 0,.int .i64 0,.int .i64 0,.int .i64 0,.int .i64 0] 42:=by rw[←hw5];exact hX4.other (by show w.heap.size≠w2.heap.size;omega) _
 have g5:w4.grownBy w5 (some w2.heap.size):=by rw[←hw5];exact gb_put (gb_of_below (Below.refl w4.heap.size w4) _) _ _
 have ce0:w4.cell? ⟨w2.heap.size,0,none⟩=some (.int .i64 d.kind):=hY4.cell 0;have ce1:w4.cell? ⟨w2.heap.size,1,none⟩=some (.string d.name):=hY4.cell 1;have ce2:w4.cell? ⟨w2.heap.size,2,none⟩=some (.slice d.av.a d.av.n d.av.c):=hY4.cell 2;have ce3:w4.cell? ⟨w2.heap.size,3,none⟩=some (.string d.data):=hY4.cell 3;have ce4:w4.cell? ⟨w2.heap.size,4,none⟩=some (.int .i64 d.pa):=hY4.cell 4;have ce5:w4.cell? ⟨w2.heap.size,5,none⟩=some (.int .i64 d.fi):=hY4.cell 5;have ce6:w4.cell? ⟨w2.heap.size,6,none⟩=some (.int .i64 d.la):=hY4.cell 6;have ce7:w4.cell? ⟨w2.heap.size,7,none⟩=some (.int .i64 d.pr):=hY4.cell 7;have ce8:w4.cell? ⟨w2.heap.size,8,none⟩=some (.int .i64 d.ne):=hY4.cell 8;have t0:w5.cell? ⟨w2.heap.size,0,none⟩=some (.int .i64 d.kind):=hY5.cell 0;have t1:w5.cell? ⟨w2.heap.size,1,none⟩=some (.string d.name):=hY5.cell 1;have t2:w5.cell? ⟨w2.heap.size,2,none⟩=some (.slice A4 l.length c4):=hY5.cell 2;have t3:w5.cell? ⟨w2.heap.size,3,none⟩=some (.string d.data):=hY5.cell 3;have t4:w5.cell? ⟨w2.heap.size,4,none⟩=some (.int .i64 d.pa):=hY5.cell 4;have t5:w5.cell? ⟨w2.heap.size,5,none⟩=some (.int .i64 d.fi):=hY5.cell 5;have t6:w5.cell? ⟨w2.heap.size,6,none⟩=some (.int .i64 d.la):=hY5.cell 6;have t7:w5.cell? ⟨w2.heap.size,7,none⟩=some (.int .i64 d.pr):=hY5.cell 7;have t8:w5.cell? ⟨w2.heap.size,8,none⟩=some (.int .i64 d.ne):=hY5.cell 8;have x0:w5.cell? ⟨w.heap.size,0,none⟩=some (.int .i64 0):=hX5.cell 0;have z0:=hX5.free 0;have x1:w5.cell? ⟨w.heap.size,1,none⟩=some (.string ⟨#[]⟩):=hX5.cell 1;have z1:=hX5.free 1;have x2:w5.cell? ⟨w.heap.size,2,none⟩=some (.slice none 0 0):=hX5.cell 2;have z2:=hX5.free 2;have x3:w5.cell? ⟨w.heap.size,3,none⟩=some (.string ⟨#[]⟩):=hX5.cell 3;have z3:=hX5.free 3;have x4:w5.cell? ⟨w.heap.size,4,none⟩=some (.int .i64 0):=hX5.cell 4;have z4:=hX5.free 4;have x5:w5.cell? ⟨w.heap.size,5,none⟩=some (.int .i64 0):=hX5.cell 5;have z5:=hX5.free 5;have x6:w5.cell? ⟨w.heap.size,6,none⟩=some (.int .i64 0):=hX5.cell 6;have z6:=hX5.free 6;have x7:w5.cell? ⟨w.heap.size,7,none⟩=some (.int .i64 0):=hX5.cell 7;have z7:=hX5.free 7;have x8:w5.cell? ⟨w.heap.size,8,none⟩=some (.int .i64 0):=hX5.cell 8;have z8:=hX5.free 8;obtain⟨w6,hw6,hX6,g6⟩:=box9 hX5 (.int .i64 d.kind) (.string d.name) (.slice A4 l.length c4) (.string d.data) (.int .i64 d.pa) (.int .i64 d.fi) (.int .i64 d.la) (.int .i64 d.pr) (.int .i64 d.ne);have k0:w6.cell? ⟨w.heap.size,0,none⟩=some (.int .i64 d.kind):=hX6.cell 0;have k1:w6.cell? ⟨w.heap.size,1,none⟩=some (.string d.name):=hX6.cell 1;have k2:w6.cell? ⟨w.heap.size,2,none⟩=some (.slice A4 l.length c4):=hX6.cell 2;have k3:w6.cell? ⟨w.heap.size,3,none⟩=some (.string d.data):=hX6.cell 3;have k4:w6.cell? ⟨w.heap.size,4,none⟩=some (.int .i64 d.pa):=hX6.cell 4;have k5:w6.cell? ⟨w.heap.size,5,none⟩=some (.int .i64 d.fi):=hX6.cell 5;have k6:w6.cell? ⟨w.heap.size,6,none⟩=some (.int .i64 d.la):=hX6.cell 6;have k7:w6.cell? ⟨w.heap.size,7,none⟩=some (.int .i64 d.pr):=hX6.cell 7;have k8:w6.cell? ⟨w.heap.size,8,none⟩=some (.int .i64 d.ne):=hX6.cell 8;have hs4:=hb4.size;have hs5:=g5.size;have harE:AR w6 w.heap.size (.slice A4 l.length c4) l:=by
  have a5:=TR.kept har4 g5 (.inr fun e=>by have:=(TR.lt har4 _ e).1;omega);have a6:=TR.kept a5 g6 (.inr fun e=>by have:=(TR.lt har4 _ e).1;omega);exact TR.lower a6 (by omega)
 have hBE:Below w.heap.size w w6:=((HB3.out.trans (hb4.mono HB3.out.size)).grown g5 (by omega) (fun k hk=>by simp at hk;omega)).grown g6 (by omega) (fun k hk=>by simp at hk;omega);have HE:=zh (And.intro harE hBE);clear HCL har4 hb4 hY4 hX4 hY5 hX5 g5 g6 hX6 harE hBE;go_wp2_with fail;(try rw[hw5]);(try go_wp2_with fail);(try rw[hw6]);(try go_wp2_with fail);refine bodyPost_ret (v:=.tuple #[ndW d (.slice A4 l.length c4),.bool q]) ?_ rfl ⟨_,rfl,HE.out.1,HE.out.2⟩;simp[results,Tryz.f16,go_sem,k0,k1,k2,k3,k4,k5,k6,k7,k8]
end
section
open Go.RowKit Go.Shelf
theorem coll_kids (base B bt bh:Nat) (b s root h:Int) (live n:Nat) (g:Tr.G) (av:Int→Tr.Sl) (fr:List Nat) (vs vf:Value) (w:World) (hS:Sound b s n (Tr.raw g av) fr live) (hw:Tr.WF 0 g) (hh:I64 h) (hL:LS base B bt bh b s h vs n (Tr.raw g av) vf fr live root w) (hul:(Tr.kidsOf g h).length≤100000):
  Calls Tryz.prog 61 #[.func (.func 111) #[] #[.pointer (some ⟨bt,0,none⟩),.pointer (some ⟨bh,0,none⟩)]] w fun e w'=>∃ v,e=.returned v∧w'.ownsRow w.heap.size 3 1 v (Tr.kidsOf g h).length (ints (Tr.kidsOf g h))∧Below w.heap.size w w':=by
 have hA:=aseq_kids base B bt bh b s root h live n g av fr vs vf w hS hw hh hL hul;clear hL hS
 go_enter Tryz.func61,Tryz.ntmps61
 go_wp2_with fail;refine hA.mono ?_;rintro e w1 ⟨v,rfl,ho,hb⟩;obtain⟨A,c,rfl⟩:=own_slice (own_zero ho);have HO:=zh (And.intro ho hb);clear ho hb hA;go_wp2_with fail
 go_ret
 exact⟨_,rfl,HO.out.1,HO.out.2⟩
theorem made_kids (base B:Nat) (b s root h:Int) (live n:Nat) (g:Tr.G) (av:Int→Tr.Sl) (fr:List Nat) (vs vf:Value) (w:World) (hM:TV base w B b s vs n (Tr.raw g av) vf fr live root) (hS:Sound b s n (Tr.raw g av) fr live) (hw:Tr.WF 0 g) (hh:I64 h) (hul:(Tr.kidsOf g h).length≤100000):
  Calls Tryz.prog 61 #[.func (.func 111) #[] #[.pointer (some ⟨w.heap.size,0,none⟩),.pointer (some ⟨w.heap.size+1,0,none⟩)]] ((w.alloc (.cells #[.pointer (some ⟨B,0,none⟩)] 29)).alloc (.cells #[.int .i64 h] 3)) fun e w'=>∃ v,e=.returned v∧w'.ownsRow w.heap.size 3 1 v (Tr.kidsOf g h).length (ints (Tr.kidsOf g h))∧Below w.heap.size w w':=by
 refine (coll_kids base B w.heap.size (w.heap.size+1) b s root h live n g av fr vs vf _ hS hw hh (LS.made hM) hul).mono ?_;rintro e w1 ⟨v,rfl,ho,hb⟩;have h2:w.heap.size≤((w.alloc (.cells #[.pointer (some ⟨B,0,none⟩)] 29)).alloc (.cells #[.int .i64 h] 3)).heap.size:=by simp only[World.size_alloc];omega
 exact⟨v,rfl,own_lower' ho h2,(((Below.refl _ w).alloc (Nat.le_refl _) _).alloc (by simp only[World.size_alloc];omega) _).trans (hb.mono h2)⟩
theorem coll_walk (base B bt bh:Nat) (b s root h:Int) (live n:Nat) (g:Tr.G) (av:Int→Tr.Sl) (fr:List Nat) (vs vf:Value) (w:World) (hS:Sound b s n (Tr.raw g av) fr live) (hw:Tr.WF 0 g) (hh:I64 h) (hL:LS base B bt bh b s h vs n (Tr.raw g av) vf fr live root w) (hul:(Tr.walkG g h).length≤100000):
  Calls Tryz.prog 61 #[.func (.func 81) #[] #[.pointer (some ⟨bt,0,none⟩),.pointer (some ⟨bh,0,none⟩)]] w fun e w'=>∃ v,e=.returned v∧w'.ownsRow w.heap.size 3 1 v (Tr.walkG g h).length (ints (Tr.walkG g h))∧Below w.heap.size w w':=by
 have hA:=aseq_walk base B bt bh b s root h live n g av fr vs vf w hS hw hh hL hul;clear hL hS
 go_enter Tryz.func61,Tryz.ntmps61
 go_wp2_with fail;refine hA.mono ?_;rintro e w1 ⟨v,rfl,ho,hb⟩;obtain⟨A,c,rfl⟩:=own_slice (own_zero ho);have HO:=zh (And.intro ho hb);clear ho hb hA;go_wp2_with fail
 go_ret
 exact⟨_,rfl,HO.out.1,HO.out.2⟩
theorem made_walk (base B:Nat) (b s root h:Int) (live n:Nat) (g:Tr.G) (av:Int→Tr.Sl) (fr:List Nat) (vs vf:Value) (w:World) (hM:TV base w B b s vs n (Tr.raw g av) vf fr live root) (hS:Sound b s n (Tr.raw g av) fr live) (hw:Tr.WF 0 g) (hh:I64 h) (hul:(Tr.walkG g h).length≤100000):
  Calls Tryz.prog 61 #[.func (.func 81) #[] #[.pointer (some ⟨w.heap.size,0,none⟩),.pointer (some ⟨w.heap.size+1,0,none⟩)]] ((w.alloc (.cells #[.pointer (some ⟨B,0,none⟩)] 29)).alloc (.cells #[.int .i64 h] 3)) fun e w'=>∃ v,e=.returned v∧w'.ownsRow w.heap.size 3 1 v (Tr.walkG g h).length (ints (Tr.walkG g h))∧Below w.heap.size w w':=by
 refine (coll_walk base B w.heap.size (w.heap.size+1) b s root h live n g av fr vs vf _ hS hw hh (LS.made hM) hul).mono ?_;rintro e w1 ⟨v,rfl,ho,hb⟩;have h2:w.heap.size≤((w.alloc (.cells #[.pointer (some ⟨B,0,none⟩)] 29)).alloc (.cells #[.int .i64 h] 3)).heap.size:=by simp only[World.size_alloc];omega
 exact⟨v,rfl,own_lower' ho h2,(((Below.refl _ w).alloc (Nat.le_refl _) _).alloc (by simp only[World.size_alloc];omega) _).trans (hb.mono h2)⟩
theorem kids_any (base B:Nat) (b s root h:Int) (live n:Nat) (g:Tr.G) (av:Int→Tr.Sl) (fr:List Nat) (vs vf:Value) (w:World) (hM:TV base w B b s vs n (Tr.raw g av) vf fr live root) (hS:Sound b s n (Tr.raw g av) fr live) (hw:Tr.WF 0 g) (hh:I64 h) (hul:(Tr.kidsOf g h).length≤100000):
  Calls Tryz.prog 17 #[.pointer (some ⟨B,0,none⟩),.int .i64 h] w fun e w'=>∃ v,e=.returned v∧w'.ownsRow w.heap.size 3 1 v (Tr.kidsOf g h).length (ints (Tr.kidsOf g h))∧Below w.heap.size w w':=by
 have hA:=kids_make B h w;have HC:=zh (made_kids base B b s root h live n g av fr vs vf w hM hS hw hh hul);clear hM hS hw
 go_enter Tryz.func17,Tryz.ntmps17
 go_wp2_with fail;refine hA.mono ?_;rintro e w1 ⟨rfl,rfl⟩;clear hA;go_wp2_with fail;refine HC.out.mono ?_;rintro e w2 ⟨v,rfl,ho,hb⟩;obtain⟨A,c,rfl⟩:=own_slice (own_zero ho);have HO:=zh (And.intro ho hb);clear ho hb HC;go_wp2_with fail
 go_ret
 exact⟨_,rfl,HO.out.1,HO.out.2⟩
end
section
open Go.RowKit
def rngI (m k:Nat):List Int:=(List.range' m k).map fun i:Nat=>(i:Int)
theorem rngI_mem {m k:Nat} {z:Int}:z∈rngI m k↔∃ i:Nat,z=(i:Int)∧m≤i∧i<m+k:=by
 unfold rngI;rw[List.mem_map];constructor
 ·rintro⟨i,hi,rfl⟩;rw[List.mem_range'_1] at hi;exact⟨i,rfl,hi.1,hi.2⟩
 ·rintro⟨i,rfl,h1,h2⟩;exact⟨i,List.mem_range'_1.2 ⟨h1,h2⟩,rfl⟩
theorem rngI_nodup (m k:Nat):(rngI m k).Nodup:=by
 unfold rngI;have h:(List.range' m k).Nodup:=List.nodup_range';generalize List.range' m k=l at h
 induction l with
 | nil=>simp
 | cons a r ih=>
  rw[List.nodup_cons] at h;rw[List.map_cons,List.nodup_cons];refine⟨fun hm=>?_,ih h.2⟩;obtain⟨b,hb,e⟩:=List.mem_map.1 hm;have:b=a:=by omega
  exact h.1 (this▸hb)
theorem rngI_add (m k j:Nat):rngI m (k+j)=rngI m k++rngI (m+k) j:=by
 unfold rngI;rw[←List.map_append,List.range'_append_1]
theorem rngI_cons (m k:Nat):rngI m (k+1)=(m:Int)::rngI (m+1) k:=by
 unfold rngI;rw[List.range'_succ,List.map_cons]
theorem rngI_len (m k:Nat):(rngI m k).length=k:=by unfold rngI;simp
def Full (a:Tr.G):Nat→Int→Prop
 | 0,_=>False
 | F+1,x=>∃ n,a x=some n∧∀ k∈n.kids,Full a F k
theorem Full.live {a:Tr.G}:∀ {F:Nat} {x:Int},Full a F x→(a x).isSome
 | 0,_,h=>h.elim
 | F+1,x,⟨n,e,_⟩=>by rw[e];rfl
theorem Full.all {a:Tr.G}:∀ (F:Nat) (x:Int),Full a F x→∀ z∈Tr.walk a F x,(a z).isSome∧∀ n,a z=some n→∀ k∈n.kids,(a k).isSome
 | 0,_,h=>h.elim
 | F+1,x,⟨n,e,hk⟩=>by
  rw[Tr.walk,e];intro z hz;rcases List.mem_cons.1 hz with rfl | hz
  ·exact⟨by rw[e];rfl,fun n' e' k hk'=>by rw[e] at e';obtain rfl:=Option.some.inj e';exact (hk k hk').live⟩
  ·obtain⟨k,hk1,hk2⟩:=List.mem_flatMap.1 hz;exact Full.all F k (hk k hk1) z hk2
theorem Full.same {a a':Tr.G}:∀ (F:Nat) (x:Int),Full a F x→(∀ z∈Tr.walk a F x,a' z=a z)→Full a' F x
 | 0,_,h,_=>h.elim
 | F+1,x,⟨n,e,hk⟩,h=>by
  have hx:x∈Tr.walk a (F+1) x:=by rw[Tr.walk,e];simp
  refine⟨n,by rw[h x hx];exact e,fun k hk'=>Full.same F k (hk k hk') fun z hz=>h z ?_⟩;rw[Tr.walk,e];exact List.mem_cons_of_mem _ (List.mem_flatMap.2 ⟨k,hk',hz⟩)
theorem Tr.WF.full {z:Int} {a:Tr.G} (w:Tr.WF z a):∀ (F:Nat) (x:Int),F+(Tr.upG a x).length=129→(a x).isSome→Full a F x
 | 0,x,h,_=>by have:=(w.up_is x).2;omega
 | F+1,x,h,hx=>by
  obtain⟨n,e⟩:=Option.isSome_iff_exists.1 hx;refine⟨n,e,fun k hk=>w.full F k ?_ ?_⟩
  ·rw[w.up_kid e hk,List.length_cons];omega
  ·obtain⟨q,e1,_⟩:=w.down x n k e hk;rw[e1];rfl
def kidG (a:Tr.G) (q c:Int):Tr.G:=fun z=>if z=q then (a z).map fun n=>{ n with kids:=n.kids++[c] } else a z
theorem kidG_isSome (a:Tr.G) (q c z:Int):(kidG a q c z).isSome=(a z).isSome:=by
 unfold kidG;split
 ·cases a z<;>rfl
 ·rfl
def OldR (m:Nat) (f f':Nat→RS) (q:Int) (c:Int):Prop:=(∀ i,i<m→(i:Int)≠q→f' i=f i)∧∀ i,i<m→(i:Int)=q→∃ sl,f' i={ f i with k:=sl,kids:=(f i).kids++[c] }
theorem OldR.tree {m k:Nat} {f f':Nat→RS} {q c:Int} (h:OldR m f f' q c):∀ z,z∉rngI m k→mg (m+k) f' z=kidG (mg m f) q c z:=by
 intro z hz;unfold kidG;by_cases h0:z<0
 ·rw[mg_neg h0,mg_neg h0];split<;>rfl
 ·obtain⟨i,rfl⟩:=Int.eq_ofNat_of_zero_le (by omega:0≤z);show mg (m+k) f' (i:Int)=_;rw[mg_nat,mg_nat];by_cases hi:i<m
  ·by_cases hq:(i:Int)=q
   ·obtain⟨sl,e⟩:=h.2 i hi hq;rw[if_pos hq,e];by_cases hg:(f i).gone=false
    ·rw[if_pos ⟨by omega,hg⟩,if_pos ⟨hi,hg⟩];rfl
    ·rw[if_neg (fun h=>hg h.2),if_neg (fun h=>hg h.2)];rfl
   ·rw[if_neg hq,h.1 i hi hq];by_cases hg:(f i).gone=false
    ·rw[if_pos ⟨by omega,hg⟩,if_pos ⟨hi,hg⟩]
    ·rw[if_neg (fun h=>hg h.2),if_neg (fun h=>hg h.2)]
  ·have hk:¬ i<m+k:=fun h=>hz (rngI_mem.2 ⟨i,rfl,by omega,h⟩);have e1:(if i<m∧(f i).gone=false then some (rsG (f i)) else none)=none:=if_neg (fun h=>hi h.1);rw[if_neg (fun h:i<m+k∧(f' i).gone=false=>hk h.1),e1]
   split<;>rfl
theorem mg_rng_none {m k:Nat} {f:Nat→RS} {z:Int} (h:z∈rngI m k):mg m f z=none:=by
 obtain⟨i,rfl,h1,_⟩:=rngI_mem.1 h;rw[mg_nat,if_neg (fun h=>by omega)]
def RcD (base M m:Nat) (vs:Value) (f:Nat→RS) (x q:Int) (F:Nat) (w:World) (e:Ending) (w':World):Prop:=
 ∃ (u vs':Value) (k:Nat) (f':Nat→RS),e=.returned u∧MV base w' M vs' (m+k) f'∧AStep w w' (MFoot M vs m f) (MFoot M vs' (m+k) f')∧OldR m f f' q (m:Int)∧(∀ i,m≤i→i<m+k→(f' i).gone=false)∧
  Tr.Cp (mg m f) (mg (m+k) f') F x (m:Int) q (Tr.walk (mg m f) F x) (rngI m k)
def RcJ (base M m nb:Nat) (vs:Value) (f:Nat→RS) (x:Nat) (q:Int) (F:Nat) (w:World) (pre:List Int) (W:World):Prop:=
 ∃ (vs':Value) (k:Nat) (fj:Nat→RS) (ys l:List Int),MV base W M vs' (m+1+k) fj∧AStep w W (MFoot M vs m f) (MFoot M vs' (m+1+k) fj)∧OldR m f fj q (m:Int)∧(∀ i,m≤i→i<m+1+k→(fj i).gone=false)∧
  Tr.DupS (-1) (mg m f) (kidG (mg m f) q (m:Int)) (rsG (f x)) F (m:Int) q (mg (m+1+k) fj) pre ys l (rngI (m+1) k)∧Whole W nb #[.int .i64 (f x).kind,.string (f x).name,.slice (f x).a.a (f x).at'.length (f x).a.c,.string (f x).data,.int .i64 (f x).pa,.slice (f x).k.a (f x).kids.length (f x).k.c,.bool (f x).gone] 67∧¬ MFoot M vs' (m+1+k) fj nb
section
variable {base M m nb:Nat} {vs:Value} {f:Nat→RS} {x:Nat} {q:Int} {F:Nat} {w W W':World} {pre:List Int}
theorem RcJ.next (H:RcJ base M m nb vs f x q F w pre W) (hx:x<m) (hF:Full (mg m f) (F+1) (x:Int)) (hxg:(f x).gone=false) (hq:q∉Tr.walk (mg m f) (F+1) (x:Int)) {kid:Int} (hk:kid∈(f x).kids) (hpre:pre++[kid] <+: (f x).kids)
  (hcap:m+(Tr.walk (mg m f) (F+1) (x:Int)).length≤100000) (hat:∀ i:Nat,(i:Int)∈Tr.walk (mg m f) (F+1) (x:Int)→(f i).at'.length≤1000) (hkl:(f x).kids.length≤100000)
  (IH:∀ (m:Nat) (vs:Value) (f:Nat→RS) (x q:Int) (w:World),MV base w M vs m f→Full (mg m f) F x→(q = -1∨∃ n,mg m f q=some n∧n.kids.length≤100000)→q∉Tr.walk (mg m f) F x→m+(Tr.walk (mg m f) F x).length≤100000→(∀ i:Nat,(i:Int)∈Tr.walk (mg m f) F x→(f i).at'.length≤1000)→
   Calls Tryz.prog 132 #[.pointer (some ⟨M,0,none⟩),.int .i64 x,.int .i64 q,.bool true] w (RcD base M m vs f x q F w)):
  Calls Tryz.prog 132 #[.pointer (some ⟨M,0,none⟩),.int .i64 kid,.int .i64 (m:Int),.bool true] W fun e w'=>(∃ u,e=.returned u)∧RcJ base M m nb vs f x q F w (pre++[kid]) w':=by
 obtain⟨vs',k,fj,ys,l,h1,h2,h3,h4,h5,h6,h7⟩:=H;obtain⟨nx,enx,hFk⟩:=hF;have enx':=enx;rw[mg_at hx hxg] at enx';obtain rfl:=Option.some.inj enx';have hkF:=hFk kid hk;have hwsub:∀ y∈(f x).kids,∀ z∈Tr.walk (mg m f) F y,z∈Tr.walk (mg m f) (F+1) (x:Int):=fun y hy z hz=>by
  rw[Tr.walk,enx];exact List.mem_cons_of_mem _ (List.mem_flatMap.2 ⟨y,hy,hz⟩)
 have hall:=Full.all F kid hkF;have hne:∀ z∈Tr.walk (mg m f) F kid,z≠q:=fun z hz e=>hq (e▸hwsub kid hk z hz);have hsame:∀ z∈Tr.walk (mg m f) F kid,mg (m+1+k) fj z=mg m f z:=fun z hz=>by
  have h0:=(hall z hz).1;rw[h5.old z (fun hm=>by rw[(h5.fresh z hm).1] at h0;cases h0)];unfold kidG;rw[if_neg (hne z hz)]
 have hag:Tr.walk (mg (m+1+k) fj) F kid=Tr.walk (mg m f) F kid:=Tr.walk_agree F kid hsame (fun z hz=>(hall z hz).2) hkF.live;have hys:ys.length≤100000:=by
  have h8:=h5.cp.heads;have h9:=hpre.length_le;rw[List.length_append,List.length_singleton] at h9;omega
 have hml:l=pre.flatMap (Tr.walk (mg m f) F):=(h5.cp.flat (u:=Tr.walk (mg m f) F) (v:=Tr.walk (mg (m+1+k) fj) F) fun a b l' m' h=>Tr.Cp.walks F F h (Nat.le_refl _)).1.symm;have hlk:l.length=k:=by rw[h5.cp.len fun a b l' m' h=>Tr.Cp.len F h,rngI_len]
 have hcap2:m+1+k+(Tr.walk (mg (m+1+k) fj) F kid).length≤100000:=by
  rw[hag];obtain⟨rest,hr⟩:=hpre;have e1:(Tr.walk (mg m f) (F+1) (x:Int)).length=1+((f x).kids.flatMap (Tr.walk (mg m f) F)).length:=by rw[Tr.walk,enx];simp only[List.length_cons];rw[show (rsG (f x)).kids=(f x).kids from rfl];omega
  rw[←hr,List.flatMap_append,List.flatMap_append,List.length_append,List.length_append,←hml,hlk] at e1;have e2:([kid].flatMap (Tr.walk (mg m f) F)).length=(Tr.walk (mg m f) F kid).length:=by simp
  omega
 refine (IH (m+1+k) vs' fj kid (m:Int) W h1 (Full.same F kid hkF hsame) (.inr ⟨_,h5.self,hys⟩) (fun hm=>?_) hcap2 (fun i hi=>?_)).mono ?_
 ·rw[hag] at hm;have:=(hall _ hm).1;rw[mg_nat,if_neg (fun h=>by omega)] at this;cases this
 ·rw[hag] at hi;have hi0:=(hall _ hi).1;obtain⟨j,ej,hj,_⟩:=mg_is hi0;have:i=j:=by omega
  subst this;rw[h3.1 i hj (hne _ hi)];exact hat i (hwsub kid hk _ hi)
 ·rintro e w' ⟨u,vs2,k2,f2,rfl,j1,j2,j3,j4,j5⟩;refine⟨⟨u,rfl⟩,vs2,k+k2,f2,ys++[((m+1+k:Nat):Int)],l++Tr.walk (mg m f) F kid,by rw[←Nat.add_assoc];exact j1,by rw[←Nat.add_assoc];exact h2.trans j2,?_,?_,?_,?_,?_⟩
  ·constructor
   ·intro i hi hiq;rw[j3.1 i (by omega) (by omega)];exact h3.1 i hi hiq
   ·intro i hi hiq;obtain⟨sl,e⟩:=h3.2 i hi hiq;exact⟨sl,by rw[j3.1 i (by omega) (by omega),e]⟩
  ·intro i h1 h2;by_cases hi:i<m+1+k
   ·by_cases him:i=m
    ·obtain⟨sl,e⟩:=j3.2 i hi (by omega);rw[e];exact h4 i h1 hi
    ·rw[j3.1 i hi (by omega)];exact h4 i h1 hi
   ·exact j4 i (by omega) (by omega)
  ·rw[rngI_add,←Nat.add_assoc];refine h5.step (fun z=>kidG_isSome _ _ _ z) (lk:=Tr.walk (mg (m+1+k) fj) F kid) (fun z hz=>⟨(hall z hz).1,?_⟩) j5 (rngI_nodup _ _) (fun z hz=>⟨mg_rng_none hz,?_⟩) (fun z hz=>?_) hkF.live (fun z hz=>(hall z hz).2)
   ·unfold kidG;rw[if_neg (hne z hz)]
   ·obtain⟨i,rfl,_⟩:=rngI_mem.1 hz;omega
   ·rw[j3.tree (k:=k2) z hz];unfold kidG;by_cases e:z=(m:Int)
    ·rw[if_pos e,if_pos e,e]
    ·rw[if_neg e,if_neg e]
  ·have hnbl:=h6.lt;exact h6.turns j2.1 h7
  ·intro hm;have hnbl:=h6.lt;rw[←Nat.add_assoc] at hm;exact h7 (j2.2 nb hnbl hm)
end
end
section
open Go.RowKit
theorem ins_chain (base B:Nat) (b s root p h:Int) (live n:Nat) (g:Tr.G) (fr:List Nat) (vs vf:Value) (c d l r:List Int) (ok:ByteArray→Prop) (w:World) (hm:TV base w B b s vs n (Tr.raw g noA) vf fr live root) (hS:Sound b s n (Tr.raw g noA) fr live) (D:Tr.Deep g root c d ok)
  (hp:Tr.Line g 0 (l++[p])) (hh:Tr.Line g 0 (h::r)) (hn:((l++[p])++h::r).Nodup) (hr:h≠root) (hlim:(l++[p]).length+(h::r).length≤128):
  Calls Tryz.prog 20 #[.pointer (some ⟨B,0,none⟩),.int .i64 p,.int .i64 h,.int .i64 0] w fun e w'=>∃ v,e=.returned (.tuple #[v,.int .i64 0])∧RecRow w.heap.size w' v [Tr.placeG (Tr.linkG g p h 0) 1 h]∧
   TV base w' B b s vs n (Tr.raw (Tr.linkG g p h 0) noA) vf fr live root∧Sound b s n (Tr.raw (Tr.linkG g p h 0) noA) fr live∧AStep w w' (Foot B vs vf) (Foot B vs vf):=by
 obtain⟨h0,ip,ih,hpa,hnu,hlen,hw',hl',_⟩:=D.joined hp hh hn hr hlim;obtain⟨mp,ep⟩:=Option.isSome_iff_exists.1 ip;obtain⟨mh,eh⟩:=Option.isSome_iff_exists.1 ih;have H:InsIn base B b s root p h 0 live n g noA fr vs vf mp mh w:=⟨hm,hS,D.wf,ep,eh,fun e=>absurd rfl e⟩
 have hi:=insert_ok base B b s root p h 0 live n g noA fr vs vf mp mh w H (D.may hp eh hr) hnu (fun e=>absurd rfl e) (by rw[hlen];exact hlim);rw[Tr.cut1_zero hpa,Tr.insC_zero h0,show Tr.recs1 g h=[] from if_pos hpa,List.nil_append] at hi;have hph:h≠p:=fun e=>by rw[D.wf.upG_some ep,e] at hnu;exact hnu (by simp)
 have hS':=sound_link hS D.wf eh (by rw[←Tr.paOf_some eh];exact hpa) ep hph (c:=0) (.inl rfl);refine hi.mono ?_;rintro e w' ⟨v,he,hrr,h1,h2⟩;exact⟨v,he,hrr,h1,hS',h2⟩
def okN (nm:ByteArray):Prop:=nm.size≤20000∧Nm.elem nm=true
theorem mk_deep (base B:Nat) (b s root:Int) (live n:Nat) (g:Tr.G) (fr:List Nat) (vs vf:Value) (c d:List Int) (nm:ByteArray) (w:World) (hm:TV base w B b s vs n (Tr.raw g noA) vf fr live root) (hS:Sound b s n (Tr.raw g noA) fr live) (D:Tr.Deep g root c d okN) (hbase:base≤w.heap.size) (hn:n<100000) (hl:live<20000) (hok:okN nm) (hT:Lit w):
  Calls Tryz.prog 39 #[.pointer (some ⟨B,0,none⟩),.int .i64 2,.string nm,.string ⟨#[]⟩,.slice none 0 0] w fun e w'=>∃ (h:Int) (g':Tr.G) (vs' vf':Value) (n':Nat) (fr':List Nat),e=.returned (.tuple #[.int .i64 h,.int .i64 0])∧n'≤n+1∧h≠0∧h∉(root::c)++d∧
   TV base w' B b s vs' n' (Tr.raw g' noA) vf' fr' (live+1) root∧Sound b s n' (Tr.raw g' noA) fr' (live+1)∧Tr.Deep g' root c d okN∧Tr.Line g' 0 [h]∧AStep w w' (Foot B vs vf) (Foot B vs' vf'):=by
 refine (make_elem base B b s root live n g noA fr vs vf nm w hm hS D.wf hbase hn hl hok.1 hok.2 hT).mono ?_;rintro e w' ⟨h,vs',vf',n',fr',he,h1,h2,h3,h4,h5,_,h7⟩;rw[noA_add] at h4 h5;obtain⟨k1,k2⟩:=D.add h2 h3 (nm:=nm) hok;exact⟨h,_,vs',vf',n',fr',he,h1,h3,D.not_mem h2,h4,h5,k1,k2,h7⟩
theorem rec_one {base:Nat} {w:World} {v:Value} {r:Tr.Rec} (h:RecRow base w v [r]):∃ g c,v=.slice (some ⟨g,0,none⟩) 1 c∧w.cell? ⟨g,0,none⟩=some (.int .i64 r.kind):=by
 obtain⟨A,c,rfl⟩:=own_slice (own_zero h);obtain⟨g,rfl,_,hc⟩:=own_cells (own_zero h) (show 0<[r].length by simp);exact⟨g,c,rfl,hc 0 _ rfl⟩
theorem rep_first {a:UInt8} (h:a.toNat≤127) (r:List UInt8):Txt.rep (a::r)=a::Txt.rep r:=by
 have hs:Txt.size (a::r)=1:=Txt.size_begins (.one a r h);rw[Txt.rep_good (by omega),hs];rfl
theorem elem_letter {c:UInt8} (h1:97≤c.toNat) (h2:c.toNat≤122) (h3:Nm.bad c=false):Nm.elem ⟨#[c]⟩=true:=by
 unfold Nm.elem;show (decide (97≤c.toNat) && decide (c.toNat≤122) && Nm.plain ⟨#[c]⟩)=true;rw[decide_eq_true h1,decide_eq_true h2];unfold Nm.plain;rw[show (⟨#[c]⟩:ByteArray).data.toList=[c] from rfl,rep_first (by omega),Txt.rep_nil];simp[h3]
theorem okN_one {c:UInt8} (h:Nm.elem ⟨#[c]⟩=true):okN ⟨#[c]⟩:=⟨by show 1≤20000;omega,h⟩
theorem ok_p:okN ⟨#[112]⟩:=okN_one (elem_letter (by decide) (by decide) (by decide))
theorem awake_any (w:World) (hT:Lit w):
  Calls Tryz.prog 10 #[] w fun e w'=>e=.returned (.bool true)∧Below w.heap.size w w':=by
 go_enter Tryz.func10,Tryz.ntmps10
 go_wp2_with fail;refine (new_any 0 0 w).mono ?_;rintro e w1 ⟨B,vs,vf,rfl,hm,hS,hw,hb1⟩;have hH:Ar.hdl 0 0 0≠0:=by have:=(hdl_pos (b:=0) (s:=0) (i:=0) (by omega)).1;intro e;rw[show ((0:Nat):Int)=0 from rfl,e] at this;omega
 obtain⟨root,hroot⟩:∃ root,Ar.hdl 0 0 0=root:=⟨_,rfl⟩
 rw[hroot] at hm hS hw hH;have D:Tr.Deep (Tr.addG noG root docN) root [] [] okN:=Tr.Deep.start hH;obtain⟨g,hg⟩:∃ g,Tr.addG noG root docN=g:=⟨_,rfl⟩
 rw[hg] at hm hS D;obtain⟨_,_,_,_,_,r5⟩:=hm.cells;have HMK:=zh (mk_deep w.heap.size B 0 0 root 1 1 g [] vs vf [] [] ⟨#[112]⟩ w1 hm hS D hb1.size (by omega) (by omega) ok_p (hT.below hb1));have hlo:=fun k hk=>(hm.lt k hk).1;clear hS hw hroot hg;go_wp2_with fail;refine HMK.out.mono ?_;rintro e w2 ⟨h,g2,vs2,vf2,n2,fr2,rfl,h1,h2,h3,hm2,hS2,D2,L2,hst⟩;have hb2:Below w.heap.size w w2:=hb1.trans (hst.1.below hb1.size hlo);obtain⟨_,_,_,_,_,r52⟩:=hm2.cells;have hlen1:(([]:List Int)++[root]).length+[h].length≤128:=by simp
 have hr:h≠root:=fun e=>h3 (by rw[e];simp);have HI:=zh (ins_chain w.heap.size B 0 0 root root h 2 n2 g2 fr2 vs2 vf2 [] [] [] [] okN w2 hm2 hS2 D2 D2.main L2 (by simp[Ne.symm hr]) hr hlen1);have hlo2:=fun k hk=>(hm2.lt k hk).1;have hq:(h == 0)=false:=by simpa using h2
 have hq2:(h != 0)=true:=by simpa using h2
 clear hm hS2 D L2 r5 hlo D2 h3 hr HMK hst h2;go_wp2_with fail;refine HI.out.mono ?_;rintro e w3 ⟨v,rfl,hrr,_,_,hst3⟩;obtain⟨gr,cr,rfl,hk⟩:=rec_one hrr;have hk1:w3.cell? ⟨gr,0,none⟩=some (.int .i64 1):=hk;have hb3:Below w.heap.size w w3:=hb2.trans (hst3.1.below hb2.size hlo2);clear HI hrr hst3 hk;go_wp2_with fail
 go_ret
 exact⟨rfl,hb3⟩
end
end Go.Proofs.YtaigmpkcdjbpiaaGreatDoor
