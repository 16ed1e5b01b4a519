/- Part of a proof about trees. -/
import Derived.Lib.AppendZerosOnto
import Derived.Lib.MinMax
import Derived.Maps.OwnOps
import Derived.Maps.OwnSet
import Derived.StringKeys
import Derived.Test.YtmhjlifmcadefaaGreatDoorGNRcut
import Derived.Test.YtmhjlifmcadefaaGreatDoorGNSat
set_option linter.unusedVariables false
set_option linter.unusedSimpArgs false
set_option linter.unusedSectionVars false
set_option maxHeartbeats 2000000
set_option maxRecDepth 100000
namespace Go.Proofs.YtmhjlifmcadefaaGreatDoor
section
open Go.RowKit
theorem Es (base B:Nat) (b s root h:Int) (live n:Nat) (R:Int→Option Tr.Nd) (fr:List Nat) (vs vf:Value) (w:World) (hm:TV base w B b s vs n R vf fr live root) (hS:Sound b s n R fr live) (hh:gI h) (e1:R h=none):
  Calls Tryz.prog 35 #[.pointer (some ⟨B,0,none⟩),.int .i64 h] w fun e w'=>e=.returned (nW 6)∧Below w.heap.size w w':=by
 have hA:=jX base B b s root h live n R fr vs vf w hm hS hh;rw[e1] at hA
 go_enter Tryz.func35,Tryz.ntmps35
 go_wp2_with fail;refine hA.mono ?_;rintro e w1 ⟨g,o,rfl,hnp,hb⟩;have c0:w1.cell? ⟨g,o,none⟩=some (.int .i64 0):=hnp.cells.1;clear hm hA hnp;go_wp2_with fail;go_ret2;exact⟨rfl,hb⟩
theorem FP (base B:Nat) (b s root h:Int) (live n:Nat) (g:Tr.G) (av:Int→Tr.Sl) (fr:List Nat) (vs vf:Value) (nd:Tr.GN) (w:World) (hm:TV base w B b s vs n (Tr.raw g av) vf fr live root) (hS:Sound b s n (Tr.raw g av) fr live) (eg:g h=some nd) (hk:nd.kind=1):
  Calls Tryz.prog 35 #[.pointer (some ⟨B,0,none⟩),.int .i64 h] w fun e w'=>e=.returned (nW 10)∧Below w.heap.size w w':=by
 have hA:=gW base B b s root h live n _ fr vs vf _ w hm hS (Tr.aj eg)
 go_enter Tryz.func35,Tryz.ntmps35
 go_wp2_with fail;refine hA.mono ?_;rintro e w1 ⟨gb,o,rfl,hpt,hb⟩;have c0:w1.cell? ⟨gb,o,none⟩=some (.int .i64 1):=by rw[←hk];exact ((hm.below hb).np hpt (Tr.aj eg)).cells.1
 clear hm hA hpt;go_wp2_with fail;go_ret2;exact⟨rfl,hb⟩
theorem zS (base B:Nat) (b s root h:Int) (live n:Nat) (g:Tr.G) (av:Int→Tr.Sl) (fr:List Nat) (vs vf:Value) (nd:Tr.GN) (w:World) (hm:TV base w B b s vs n (Tr.raw g av) vf fr live root) (hS:Sound b s n (Tr.raw g av) fr live) (hw:Tr.WF 0 g) (eg:g h=some nd) (h0:nd.kind≠0) (h1:nd.kind≠1):
  Calls Tryz.prog 35 #[.pointer (some ⟨B,0,none⟩),.int .i64 h] w fun e w'=>∃ v,e=.returned (.tuple #[v,.int .i64 0])∧bL w.heap.size w' v (Tr.fU g h)∧TV base w' B b s vs n (Tr.raw (Tr.dG g h) av) vf fr live root∧aB w w' (aD B vs vf) (aD B vs vf):=by
 have hA:=gW base B b s root h live n _ fr vs vf _ w hm hS (Tr.aj eg);have HC:=zh (fun (W:World) (hb:Below w.heap.size w W)=>Lh base B b s root h live n g av fr vs vf nd W (hm.below hb) hS hw eg);have q0:(nd.kind == 0)=false:=cB h0;have q1:(nd.kind == 1)=false:=cB h1
 go_enter Tryz.func35,Tryz.ntmps35
 go_wp2_with fail;refine hA.mono ?_;rintro e w1 ⟨gb,o,rfl,hpt,hb⟩;have c0:w1.cell? ⟨gb,o,none⟩=some (.int .i64 nd.kind):=((hm.below hb).np hpt (Tr.aj eg)).cells.1;have LK:=HC.out w1 hb;clear hm hA hpt HC;go_wp2_with fail;refine LK.mono ?_;rintro e w2 ⟨v,rfl,hr,hm2,st⟩;have HR:=zh (And.intro hr (And.intro hm2 ((aB.of_below (F:=aD B vs vf) hb).trans st)));clear hr hm2 st LK;go_wp2_with fail;go_ret2;exact⟨_,rfl,bL.lower HR.out.1 hb.size,HR.out.2.1,HR.out.2.2⟩
/-! The reference's. -/
def jN (base:Nat) (w:World) (v:Value) (l:List Tr.Rec):Prop:=w.ownsRow base 147 11 v l.length (gP l)
theorem jN.nil (base:Nat) (w:World):jN base w (.slice none 0 0) []:=World.ownsRow_nil _ _ _ _
theorem nP (w:World) (r:Tr.Rec) (base:Nat) (hb:base≤w.heap.size):jN base (w.alloc (.cells #[.int .i64 r.kind,.int .i64 r.target,.int .i64 r.node,.int .i64 r.prev,.int .i64 r.next,.int .i64 r.index,.string r.name,.string r.old,.bool r.had,.int .i64 r.count,.int .i64 r.size] 147)) (.slice (some ⟨w.heap.size,0,none⟩) 1 1) [r]:=
 World.ownsRow_lit (base:=base) (e:=147) (size:=11) w #[.int .i64 r.kind,.int .i64 r.target,.int .i64 r.node,.int .i64 r.prev,.int .i64 r.next,.int .i64 r.index,.string r.name,.string r.old,.bool r.had,.int .i64 r.count,.int .i64 r.size] 1 hb (by unfold maxLen;omega) rfl
theorem jN.below {b:Nat} {w w':World} {v:Value} {l:List Tr.Rec} (h:jN b w v l) (hb:Below w.heap.size w w'):jN b w' v l:=bY (S:=fun _=>False) h (.of_below hb) (fun _ _=>id)
theorem Et (base M m:Nat) (vs:Value) (f:Nat→RS) (w:World):
  Calls Tryz.prog 36 #[.pointer (some ⟨M,0,none⟩),.int .i64 0] w fun e w'=>e=.returned (nW 10)∧w'=w:=by
 go_enter Tryz.func36,Tryz.ntmps36
 go_wp2_with fail;go_ret2;exact⟨rfl,rfl⟩
theorem Eu (base M m:Nat) (vs:Value) (f:Nat→RS) (i:Nat) (w:World) (h:MV base w M vs m f) (hi:i<m) (hp:(f i).pa = -1) (h0:i≠0) (hm:m≤100000):
  Calls Tryz.prog 36 #[.pointer (some ⟨M,0,none⟩),.int .i64 (i:Int)] w fun e w'=>e=.returned (nW 0)∧w'=w:=by
 obtain⟨A,c,rfl⟩:=h.form;obtain⟨k0,_⟩:=h.cell;obtain⟨g,rfl,_,_,_,_,c4,_,_⟩:=h.read hi;rw[hp] at c4;have q1:(0:Int)≤(i:Int):=by omega
 have q2:(i:Int)<(m:Int):=by omega
 have q3:((i:Int) == 0)=false:=cB (by omega);clear h
 go_enter Tryz.func36,Tryz.ntmps36
 go_wp2_with fail;go_ret2;exact⟨rfl,rfl⟩
theorem FQ (base M m:Nat) (vs:Value) (f:Nat→RS) (i p:Nat) (w:World) (h:MV base w M vs m f) (hw:Tr.WF (-1) (mg m f)) (hi:i<m) (hg:(f i).gone=false) (hp:(f i).pa=(p:Int)) (h0:i≠0) (hm:m≤100000) (hpm:p<m):
  Calls Tryz.prog 36 #[.pointer (some ⟨M,0,none⟩),.int .i64 (i:Int)] w fun e w'=>∃ v,e=.returned (.tuple #[v,.int .i64 0])∧jN w.heap.size w' v [kK m f 2 i p]∧∃ sl,MV base w' M vs m (aX (aX f p fun n=>{ n with k:=sl,kids:=n.kids.erase (i:Int) }) i fun n=>{ n with pa := -1 })∧aB w w' (aC M vs m f) (aC M vs m (aX (aX f p fun n=>{ n with k:=sl,kids:=n.kids.erase (i:Int) }) i fun n=>{ n with pa := -1 })):=by
 have HC:=zh (Gm base M m vs f i p w h hw hi hg hp hm);obtain⟨A,c,rfl⟩:=h.form;obtain⟨k0,_⟩:=h.cell;obtain⟨g,rfl,_,_,_,_,c4,_,_⟩:=h.read hi;rw[hp] at c4;have q1:(0:Int)≤(i:Int):=by omega
 have q2:(i:Int)<(m:Int):=by omega
 have q3:((i:Int) == 0)=false:=cB (by omega);have q4:¬ (p:Int)<0:=by omega
 clear h hw
 go_enter Tryz.func36,Tryz.ntmps36
 go_wp2_with fail;refine HC.out.mono ?_;rintro e w1 ⟨rfl,sl,hm1,st1⟩;obtain⟨r,hr⟩:=eX (kK m f 2 i p)
 have hB:=(Below.refl _ w1).alloc (Nat.le_refl _) (.cells #[.int .i64 r.kind,.int .i64 r.target,.int .i64 r.node,.int .i64 r.prev,.int .i64 r.next,.int .i64 r.index,.string r.name,.string r.old,.bool r.had,.int .i64 r.count,.int .i64 r.size] 147);have HR:=zh (And.intro (nP w1 r w.heap.size st1.1.size) (And.intro (hm1.below hB) (st1.trans (.of_below hB))));have HRR:=zh hr;rw[hr];clear hm1 st1 hB HC hr;go_wp2_with fail;go_ret2;refine⟨_,rfl,?_,_,HR.out.2.1,HR.out.2.2⟩;rw[HRR.out];exact HR.out.1
theorem MV.attr {base M m:Nat} {vs:Value} {f:Nat→RS} {w:World} (h:MV base w M vs m f) {i j:Nat} (hi:i<m) {p:ByteArray×ByteArray} (hj:(f i).at'[j]?=some p):∃ g o,(f i).a.a=some ⟨g,o,none⟩∧w.cell? ⟨g,o+j*2,none⟩=some (.string p.1)∧w.cell? ⟨g,o+j*2+1,none⟩=some (.string p.2):=by
 have hr:=h.ar i hi;have hlt:=(List.getElem?_eq_some_iff.1 hj).1;have e:(f i).a.v=.slice (f i).a.a (f i).at'.length (f i).a.c:=by unfold Tr.Sl.v;rw[h.an hi]
 rw[e] at hr;obtain⟨g,o,hA,_,_,hc,_⟩:=hr.cells (by omega);exact⟨g,o,hA,hc _ _ (by omega) (ji _ _ _ hj).1,by rw[Nat.add_assoc];exact hc _ _ (by omega) (ji _ _ _ hj).2⟩
theorem tH (base M m:Nat) (vs:Value) (f:Nat→RS) (i:Nat) (nm:ByteArray) (w:World) (h:MV base w M vs m f) (hi:i<m) (hm:m≤100000) (hl:(f i).at'.length≤1000):
  Calls Tryz.prog 89 #[.pointer (some ⟨M,0,none⟩),.int .i64 (i:Int),.string nm] w fun e w'=>e=.returned (.int .i64 (yO (f i).at' nm))∧w'=w:=by
 obtain⟨A,c,rfl⟩:=h.form;obtain⟨k0,_⟩:=h.cell;obtain⟨g,rfl,_,_,c2,_⟩:=h.read hi;rw[h.an hi] at c2;have q1:(0:Int)≤(i:Int):=by omega
 have q2:(i:Int)<(m:Int):=by omega
 obtain⟨l,hL⟩:=eX ((f i).at')
 have HAT:=zh (fun (j:Nat) (p:ByteArray×ByteArray) (hj:(f i).at'[j]?=some p)=>h.attr hi hj);rw[hL] at HAT c2 hl ⊢;obtain⟨n,hn⟩:=eX (l.length)
 have HI:Hid (yO l nm=if oZ l nm<l.length then ((oZ l nm:Nat):Int) else -1):=zh rfl;have UD:=zh (QD l nm);have HN:=zh hn;obtain⟨ac,hac⟩:=eX ((f i).a.c)
 obtain⟨aa,UN⟩:=eX ((f i).a.a)
 rw[hn] at c2 hl;rw[hac,UN] at c2;rw[UN] at HAT;clear h hL hn hac UN
 go_enter Tryz.func89,Tryz.ntmps89
 go_wp2_with fail
 go_loopw [7] (fun v wr=>∃ k:Nat,v=.int .i64 k∧k≤n∧Hid (k≤oZ l nm)∧wr=w) (fun v _=>n - (intOf v).toNat)
 case atStart=>exact⟨0,rfl,Nat.zero_le _,zh (Nat.zero_le _),rfl⟩
 case round=>
  obtain⟨k,rfl,hkn,H2,rfl⟩:=hrel;by_cases hk:k<n
  ·have p1:(k:Int)<(n:Int):=by omega
   have p0:(0:Int)≤(k:Int):=by omega
   obtain⟨p,hp⟩:∃ p,l[k]?=some p:=⟨l[k]'(by rw[HN.out];exact hk),by simp⟩
   obtain⟨ga,o,rfl,c1,_⟩:=HAT.out k p hp;have HS:=zh (Ib (nm:=nm) hp H2.out);clear hp;cases he:(p.1.toList == nm.toList) with
   | true=>
    have hr:yO l nm=(k:Int):=by rw[HI.out,HS.out.1 he,if_pos (by rw[HN.out];exact hk)]
    have HR:=zh hr;clear hr;go_wp2_with fail
    go_ret
    exact⟨kD HR.out.symm,rfl⟩
   | false=>
    have HR:=zh (HS.out.2 he);go_wp2_with fail
    go_roundw
    case rel=>exact⟨k+1,by go_num,by omega,zh HR.out,trivial⟩
    case measure=>simp[intOf];omega
  ·have hkn':k=n:=by omega
   subst hkn';have hr:yO l nm = -1:=by rw[HI.out,if_neg (by rw[HN.out];have:=H2.out;omega)]
   have HR:=zh hr;have p1:¬ (k:Int)<(k:Int):=by omega
   clear hr;go_wp2_with fail
   go_ret
   exact⟨kD HR.out.symm,rfl⟩
end
section
open Go Go.RowKit
theorem QV {l:List Int} {p q:Int→Bool} (h:∀ k∈l,p k=q k):l.any p=l.any q:=by
 induction l with
 | nil=>rfl
 | cons a r ih=>rw[List.any_cons,List.any_cons,h a (by simp),ih fun k hk=>h k (List.mem_cons_of_mem _ hk)]
def rz (ρ:Int→Int) (r:Tr.Rec):Tr.Rec:={ r with target:=ρ r.target,node:=ρ r.node,prev:=ρ r.prev,next:=ρ r.next }
theorem TI {ρ:Int→Int} (h0:ρ (-1)=0) (l:List Int):Tr.dF (l.map ρ)=ρ (l.getLast?.getD (-1)):=by
 rcases List.eq_nil_or_concat l with rfl | ⟨r,x,rfl⟩
 ·exact h0.symm
 ·rw[List.concat_eq_append,List.map_append,List.map_cons,List.map_nil,Tr.l7];simp
theorem QW {ρ:Int→Int} (h0:ρ (-1)=0) (l:List Int):Tr.fs (l.map ρ)=ρ (l.head?.getD (-1)):=by
 cases l with
 | nil=>exact h0.symm
 | cons a r=>rfl
theorem su (l1 l2:List Int):xg (l1++l2) ((l1.length:Nat) - 1)=l1.getLast?.getD (-1):=by
 unfold xg;rcases List.eq_nil_or_concat l1 with rfl | ⟨r,x,rfl⟩
 ·rw[if_pos (by simp)];rfl
 ·rw[List.concat_eq_append,if_neg (by simp)];have:((((r++[x]).length:Nat):Int) - 1).toNat=r.length:=by simp
  rw[this,List.append_assoc,List.getElem?_append_right (Nat.le_refl _)];simp
theorem BM (l1 l2:List Int):xg (l1++l2) (l1.length:Nat)=l2.head?.getD (-1):=by
 unfold xg;rw[if_neg (by omega),Int.toNat_natCast,List.getElem?_append_right (Nat.le_refl _),Nat.sub_self];cases l2<;>rfl
theorem wI (l1 l2:List Int) (x:Int):xg (l1++x::l2) (((l1.length:Nat):Int)+1)=l2.head?.getD (-1):=by
 have:=BM (l1++[x]) l2;rw[List.append_assoc] at this;simpa using this
section
variable {ρ:Int→Int} {m:Nat} {f:Nat→RS} {g:Tr.G}
def Kv (m:Nat) (f:Nat→RS):Prop:=(f 0).kind=1∧∀ i,i<m→i≠0→(f i).kind=2∨(f i).kind=3∨(f i).kind=4
theorem Tr.Im.Kw (h:Tr.Im ρ (mg m f) g) {i:Nat} (hi:i<m) (hg:(f i).gone=false):Tr.kindOf g (ρ i)=(f i).kind:=Tr.eG (h.node _ _ (aM hi hg))
theorem Tr.Im.accepts (h:Tr.Im ρ (mg m f) g) (w:Tr.WF 0 g) (hk:Kv m f) (h0:0<m) (JK:(f 0).gone=false) {p i:Nat} (hp:p<m) (hpg:(f p).gone=false) (hi:i<m) (hig:(f i).gone=false):
  jR m f p i=(Tr.eF g (ρ p) (ρ i) && !decide (ρ i∈Tr.aS g (ρ p))):=by
 have lp:(mg m f p).isSome:=by rw[aM hp hpg];rfl
 have li:(mg m f i).isSome:=by rw[aM hi hig];rfl
 have hup:ρ i∈Tr.aS g (ρ p)↔(i:Int)∈Tr.aS (mg m f) p:=by
  rw[h.up w (.inr lp)];exact h.mem (fun k hk=>h.LY w hk) li
 have ep:Tr.kindOf g (ρ p)=(f p).kind:=h.Kw hp hpg;have ei:Tr.kindOf g (ρ i)=(f i).kind:=h.Kw hi hig;unfold jR Tr.eF;rw[ep,ei];by_cases hi0:i=0
 ·subst hi0;rw[if_pos (.inl rfl),hk.1];by_cases h2:(f p).kind=2
  ·rw[if_pos h2];rfl
  ·rw[if_neg h2]
   split<;>rfl
 ·have ki:=hk.2 i hi hi0;by_cases hu:(i:Int)∈Tr.aS (mg m f) p
  ·rw[if_pos (.inr hu),decide_eq_true (hup.2 hu)];simp
  ·rw[if_neg (fun e=>by rcases e with e | e;exact hi0 e;exact hu e),decide_eq_false (fun e=>hu (hup.1 e)),Bool.not_false,Bool.and_true];by_cases h2:(f p).kind=2
   ·rw[if_pos h2,if_pos h2];rcases ki with e | e | e<;>rw[e]<;>rfl
   ·rw[if_neg h2,if_neg h2];by_cases hp0:p=0
    ·subst hp0;rw[if_pos hk.1];rcases ki with e | e | e
     ·rw[e,if_neg (by simp)];have e2:(((2:Int) == 4) || ((2:Int) == 2 && !Tr.kU g (ρ ((0:Nat):Int)) (ρ i)))=!Tr.kU g (ρ ((0:Nat):Int)) (ρ i):=by simp
      rw[e2];congr 1;unfold Tr.kU;rw[h.kid (aM h0 JK),List.any_map];refine QV fun k hk=>?_;obtain⟨j,rfl,hj,XH,_⟩:=jv (h.kids _ _ (aM h0 JK) k hk);have lj:(mg m f j).isSome:=by rw[aM hj XH];rfl
      have e3:(ρ (j:Int) != ρ i)=((j:Int) != (i:Int)):=by
       rw[Bool.eq_iff_iff,bne_iff_ne,bne_iff_ne];exact⟨fun a b=>a (by rw[b]),fun a b=>a (h.inj _ _ lj li b)⟩
      show _=(ρ (j:Int) != ρ i && Tr.kindOf g (ρ j) == 2)
      rw[e3,h.Kw hj XH,Int.toNat_natCast];simp
     ·rw[e,if_pos (.inr rfl)];rfl
     ·rw[e,if_neg (by simp)];simp
    ·rw[if_pos (.inl hp0)];rcases hk.2 p hp hp0 with e | e | e
     ·exact absurd e h2
     ·rw[e];rfl
     ·rw[e];rfl
theorem Tr.Im.split (h:Tr.Im ρ (mg m f) g) (w:Tr.WF 0 g) {i p:Nat} (hi:i<m) (hig:(f i).gone=false) (hp:(f i).pa=(p:Int)):
  p<m∧(f p).gone=false∧∃ l1 l2,(f p).kids=l1++(i:Int)::l2∧(i:Int)∉l1∧ρ i∉l1.map ρ∧ρ i∉l2.map ρ:=by
 have hw:=h.pull w;have key:p<m∧(f p).gone=false∧(i:Int)∈(f p).kids:=by
  rcases hw.pa (aM hi hig) with h1 | ⟨n,h1,h2⟩
  ·exact absurd (show (f i).pa = -1 from h1) (by omega)
  ·rw[show (jZ (f i)).pa=(p:Int) from hp] at h1;obtain⟨p',e1,e2,e3,e4⟩:=jk h1;obtain rfl:p=p':=by omega
   exact⟨e2,e3,by rw[e4] at h2;exact h2⟩
 obtain⟨h1,h2,h3⟩:=key;obtain⟨l1,l2,hL⟩:=List.append_of_mem h3;have hnd:((f p).kids.map ρ).Nodup:=w.nodup _ _ (h.node _ _ (aM h1 h2));have Kq:(f p).kids.Nodup:=hw.nodup _ _ (aM h1 h2);rw[hL] at hnd Kq;rw[List.map_append,List.map_cons] at hnd;refine⟨h1,h2,l1,l2,hL,fun hx=>(List.nodup_append.1 Kq).2.2 _ hx _ (by simp) rfl,fun hx=>(List.nodup_append.1 hnd).2.2 _ hx _ (by simp) rfl,?_⟩;exact (List.nodup_cons.1 (List.nodup_append.1 hnd).2.1).1
theorem Tr.Im.index (h:Tr.Im ρ (mg m f) g) (w:Tr.WF 0 g) {i:Nat} (hi:i<m) (hig:(f i).gone=false):Tr.dR g (ρ i)=jQ m f i:=by
 have hn:=h.node _ _ (aM hi hig);unfold Tr.dR jQ;rw[hn];show (if ρ (f i).pa=0 then (-1:Int) else ((Tr.au g (ρ (f i).pa)).idxOf (ρ i):Nat))=_;rcases h.pa _ _ (aM hi hig) with h1 | h1
 ·rw[show (f i).pa = -1 from h1,h.zero];rfl
 ·obtain⟨p,e1,e2,e3,_⟩:=jv h1;have e1':(f i).pa=(p:Int):=e1;rw[e1',if_neg (h.nz _ (by rw[←e1];exact h1)),if_neg (by omega),Int.toNat_natCast,h.kid (aM e2 e3)];show (((f p).kids.map ρ).idxOf (ρ i):Int)=_;have hx:∀ y∈(f p).kids,ρ y=ρ i→y=i:=fun y hy e=>h.inj _ _ (h.kids _ _ (aM e2 e3) y hy) (by rw[aM hi hig];rfl) e;rw[Tr.Nr hx]
theorem Tr.Im.place (h:Tr.Im ρ (mg m f) g) (w:Tr.WF 0 g) {i p:Nat} (kind:Int) (hi:i<m) (hig:(f i).gone=false) (hp:(f i).pa=(p:Int)):
  Tr.kM g kind (ρ i)=rz ρ (kK m f kind i p):=by
 obtain⟨h1,h2,l1,l2,hL,n1,n2,n3⟩:=h.split w hi hig hp;have hx:=h.index w hi hig;have e0:Tr.dI g (ρ i)=ρ p:=by rw[h.dI (aM hi hig)];show ρ (f i).pa=_;rw[hp]
 have ix:(f p).kids.idxOf (i:Int)=l1.length:=by rw[hL,Tr.dU n1]
 have e1:jQ m f i=(l1.length:Nat):=by unfold jQ;rw[if_neg (by omega),hp,Int.toNat_natCast,ix]
 unfold Tr.kM kK rz;dsimp only;rw[e0,h.kid (aM h1 h2),hx,e1,ix];show (⟨kind,ρ p,ρ i,Tr.prv ((f p).kids.map ρ) (ρ i),Tr.nD ((f p).kids.map ρ) (ρ i),_,_,_,_,_,_⟩:Tr.Rec)=_;rw[hL,List.map_append,List.map_cons,Tr.lI n3,Tr.gT n2,TI h.zero,QW h.zero,su,wI]
end
end
section
open Go.RowKit
def iL (d:ByteArray):List (List UInt8):=bB.chunks d.data.toList
def jB (d:ByteArray) (i c:Nat) (s:ByteArray):ByteArray:=fB (((iL d).take i).flatten++(aZ s).data.toList++((iL d).drop (i+c)).flatten)
def sI (h:Int) (i:Int) (old:ByteArray) (c sz:Int):Tr.Rec:=⟨4,h,0,0,0,i,⟨#[]⟩,old,false,c,sz⟩
def Dm (kind:Int) (len:Nat) (i c:Int):Int:=if kind=0 then 6 else if kind≠3∧kind≠4 then 10 else if i<0∨(len:Int)<i∨c<0 then 2 else 0
theorem Mk (av:Int→Tr.Sl) (h:Int):Tr.fq av h (av h)=av:=by
 funext x;unfold Tr.fq;by_cases e:x=h
 ·rw[if_pos e,e]
 ·rw[if_neg e]
theorem Oa {g:Tr.G} {av:Int→Tr.Sl} {h:Int} {x:ByteArray} (n:Tr.GN) (e:g h=some n):Tr.dW (Tr.cK g h fun n=>{ n with data:=x }) (Tr.fq av h (av h)) h { n with data:=x }={ Tr.dW g av h n with data:=x }:=by
 unfold Tr.dW;dsimp only;rw[Tr.lG];have hk:∀ p,Tr.au (Tr.cK g h fun n=>{ n with data:=x }) p=Tr.au g p:=fun p=>by
  unfold Tr.au Tr.cK;by_cases e:p=h
  ·subst e;rw[if_pos rfl];cases g p with | none=>rfl | some m=>rfl
  ·rw[if_neg e]
 rw[hk]
theorem TV.vT {base B n live gb o:Nat} {w:World} {b s root h:Int} {vs vf:Value} {g:Tr.G} {av:Int→Tr.Sl} {fr:List Nat} {nd:Tr.GN} (hM:TV base w B b s vs n (Tr.raw g av) vf fr live root) (hS:Sound b s n (Tr.raw g av) fr live) (ha:AT w g av) (hp:PtrTo b s vs n gb o h) (eg:g h=some nd) (x:ByteArray):
  TV base (w.setCell ⟨gb,o+3,none⟩ (.string x)) B b s vs n (Tr.raw (Tr.cK g h fun n=>{ n with data:=x }) av) vf fr live root∧Sound b s n (Tr.raw (Tr.cK g h fun n=>{ n with data:=x }) av) fr live∧
   AT (w.setCell ⟨gb,o+3,none⟩ (.string x)) (Tr.cK g h fun n=>{ n with data:=x }) av∧aB w (w.setCell ⟨gb,o+3,none⟩ (.string x)) (aD B vs vf) (aD B vs vf):=by
 have e:Tr.raw (Tr.cK g h fun n=>{ n with data:=x }) (Tr.fq av h (av h))=Tr.upd (Tr.raw g av) h fun d=>{ d with data:=x }:=Lx (fun _=>⟨rfl,rfl⟩) (fun n en=>Oa n en);rw[Mk] at e;obtain⟨k1,k2⟩:=hM.mI (j:=3) (v:=.string x) hp (Tr.aj eg) (fun d=>{ d with data:=x }) rfl (by omega) rfl;rw[e];refine⟨k1,hS.upd,?_,k2⟩;have hA:=AT.put (h:=h) (sl:=av h) (u:=fun n=>{ n with data:=x }) ha (fun m em=>ha h m em);rw[Mk] at hA;exact hA.step hM k2
theorem qx (base B:Nat) (b s root h i c k:Int) (live n:Nat) (R:Int→Option Tr.Nd) (fr:List Nat) (vs vf:Value) (d:Tr.Nd) (v:ByteArray) (w:World) (hm:TV base w B b s vs n R vf fr live root) (hS:Sound b s n R fr live) (hh:gI h) (hd:(R h).getD Tr.yX=d) (hz:d.data.size≤10000) (he:Dm d.kind (iL d.data).length i c=k) (hk:k≠0):
  Calls Tryz.prog 41 #[.pointer (some ⟨B,0,none⟩),.int .i64 h,.int .i64 i,.int .i64 c,.string v] w fun e w'=>e=.returned (nW k)∧Below w.heap.size w w':=by
 have HA:=jX base B b s root h live n R fr vs vf w hm hS hh;rw[hd] at HA;have HL:=zh (fun W=>pV d.data W hz);obtain⟨len,hlen⟩:=eX ((bB.chunks d.data.data.toList).length)
 rw[show (iL d.data).length=len from hlen] at he;rw[hlen] at HL;clear hm hS hd hlen
 go_enter Tryz.func41,Tryz.ntmps41
 go_wp2_with fail;refine HA.mono ?_;rintro e w1 ⟨gb,o,rfl,hnp,hb1⟩;obtain⟨t0,_,_,t3,_⟩:=hnp.cells;have wP:=zh hnp;clear HA hnp;go_wp2_with fail;refine (HL.out w1).mono ?_;rintro e w2 ⟨rfl,hb2⟩;obtain⟨t0,_,_,t3,_⟩:=(wP.out.below hb2).cells;have dV:=hb1.trans (hb2.mono hb1.size);have HB:=zh dV;clear HL hb1 hb2 dV wP;unfold Dm at he;by_cases h0:d.kind=0
 ·rw[if_pos h0] at he;have q0:(d.kind == 0)=true:=by simpa using h0
  subst he;clear h0;go_wp2_with fail;go_ret2;exact⟨rfl,HB.out⟩
 ·rw[if_neg h0] at he;have q0:(d.kind == 0)=false:=by simpa using h0
  by_cases h3:d.kind≠3∧d.kind≠4
  ·rw[if_pos h3] at he;subst he;have q3:(d.kind != 3)=true:=by simpa using h3.1
   have q4:(d.kind != 4)=true:=by simpa using h3.2
   clear h0 h3;go_wp2_with fail;go_ret2;exact⟨rfl,HB.out⟩
  ·rw[if_neg h3] at he;by_cases hi:i<0∨(len:Int)<i∨c<0
   ·rw[if_pos hi] at he;subst he;have HI:=zh hi;have q34:(d.kind != 3)=false∨(d.kind != 3)=true∧(d.kind != 4)=false:=by
     by_cases e3:d.kind=3
     ·exact .inl (by simp[e3])
     ·have e4:d.kind=4:=by
       rcases Decidable.em (d.kind=4) with h | h
       ·exact h
       ·exact absurd ⟨e3,h⟩ h3
      exact .inr (by simp[e4])
    clear h0 h3 hi;by_cases hi0:i<0
    ·rcases q34 with q3 | ⟨q3,q4⟩
     ·go_wp2_with fail;go_ret2;exact⟨rfl,HB.out⟩
     ·go_wp2_with fail;go_ret2;exact⟨rfl,HB.out⟩
    ·by_cases hil:(len:Int)<i
     ·rcases q34 with q3 | ⟨q3,q4⟩
      ·go_wp2_with fail;go_ret2;exact⟨rfl,HB.out⟩
      ·go_wp2_with fail;go_ret2;exact⟨rfl,HB.out⟩
     ·have hc0:c<0:=by rcases HI.out with h | h | h;exact absurd h hi0;exact absurd h hil;exact h
      rcases q34 with q3 | ⟨q3,q4⟩
      ·go_wp2_with fail;go_ret2;exact⟨rfl,HB.out⟩
      ·go_wp2_with fail;go_ret2;exact⟨rfl,HB.out⟩
   ·rw[if_neg hi] at he;exact absurd he.symm hk
theorem qB {s:ByteArray} (h:s.size≤20000):Nm.fits s=true:=by
 unfold Nm.fits;have:=bB.mV s.data.toList;have e1:s.data.toList.length=s.size:=rfl;exact decide_eq_true (by omega)
theorem Gj (d:Tr.Nd) (l:List (ByteArray×ByteArray)) (w:World) (ha:AR w 0 d.av.v l) (hl:l.length≤64) (hv:∀ p∈l,p.2.size≤20000) (hs:d.data.size≤20000) (hT:Lit w):
  Calls Tryz.prog 67 #[Uo d] w fun e w'=>e=.returned (.bool true)∧Below w.heap.size w w':=by
 obtain⟨k,nm,⟨a,n,c⟩,dt,pa,fi,la,pr,ne⟩:=d;dsimp only at hs ⊢;replace ha:AR w 0 (.slice a n c) l:=ha;have hn:l.length=n:=by
  obtain⟨A',c',e⟩:=TR.form ha;injection e with _ e2 _;exact e2.symm
 obtain⟨w1,hw1⟩:=eX (w.alloc (.cells #[.int .i64 k,.string nm,.slice a n c,.string dt,.int .i64 pa,.int .i64 fi,.int .i64 la,.int .i64 pr,.int .i64 ne] 82))
 have hb1:Below w.heap.size w w1:=fI hw1;have hX1:Whole w1 w.heap.size #[.int .i64 k,.string nm,.slice a n c,.string dt,.int .i64 pa,.int .i64 fi,.int .i64 la,.int .i64 pr,.int .i64 ne] 82:=by rw[←hw1];exact Whole.new w _ _
 have e2:w1.cell? ⟨w.heap.size,2,none⟩=some (.slice a n c):=hX1.cell 2;have fQ:=zh hX1;have HB1:=zh hb1;have HR1:=zh (TR.below ha hb1);have HT1:=zh (hT.below hb1);have HV:=zh hv;have HN:=zh hn;have ab0:(n:Int)≤64:=by omega
 rw[hn] at hl;clear hT hX1 hb1 ha hv hn
 go_enter Tryz.func67,Tryz.ntmps67
 go_wp2_with fail
 go_loopw [4,8] (fun u4 u wr=>∃ j:Nat,u=.int .i64 (j:Int)∧j≤n∧Below w1.heap.size w1 wr) (fun _ u _=>n - (intOf u).toNat)
 case atStart=>exact⟨0,rfl,Nat.zero_le _,Below.refl _ _⟩
 case round=>
  obtain⟨j,rfl,hj,hb⟩:=hrel;have j0:(0:Int)≤(j:Int):=by omega
  by_cases hjn:j<n
  ·have j1:(j:Int)<(n:Int):=by omega
   obtain⟨p,hp⟩:∃ p,l[j]?=some p:=⟨l[j]'(by rw[HN.out];exact hjn),by simp⟩
   obtain⟨ga,oa,rfl,-,ZQ,ck1⟩:=AR.at (TR.below HR1.out hb) hp;obtain⟨pn,pv⟩:=p;dsimp only at ZQ ck1;have hpv:pv.size≤20000:=HV.out _ (List.mem_of_getElem? hp);obtain⟨w3,hw3⟩:=eX (wr.alloc (.cells #[.string pn,.string pv] 95))
   have aW:Whole w3 wr.heap.size #[.string pn,.string pv] 95:=by rw[←hw3];exact Whole.new wr _ _
   have hb3:Below w1.heap.size w1 w3:=by rw[←hw3];exact hb.alloc hb.size _
   have q1:w3.cell? ⟨wr.heap.size,1,none⟩=some (.string pv):=aW.cell 1;have hF:=BG pv w3 hpv (HT1.out.below hb3);rw[qB hpv] at hF;have HF:=zh hF;have HB3:=zh hb3;clear hp hF aW hb3 hb;go_wp2_with fail;(try rw[hw3]);(try go_wp2_with fail);refine HF.out.mono ?_;rintro e w4 ⟨rfl,hb4⟩;have jy:=zh (HB3.out.trans (hb4.mono HB3.out.size));clear hb4 HF;go_wp2_with fail
   go_roundw
   case rel=>exact⟨j+1,by go_num,by omega,jy.out⟩
   case measure=>simp[intOf];omega
  ·have rX:j=n:=by omega
   subst rX;have XT:=fQ.out.below hb fQ.out.lt;have e2':wr.cell? ⟨w.heap.size,2,none⟩=some (.slice a j c):=XT.cell 2;have e3':wr.cell? ⟨w.heap.size,3,none⟩=some (.string dt):=XT.cell 3;have hF:=BG dt wr hs (HT1.out.below hb);rw[qB hs] at hF;have HF:=zh hF;have HB:=zh (HB1.out.trans (hb.mono HB1.out.size));clear hF XT hb;have j1:¬ (j:Int)<(j:Int):=by omega
   go_wp2_with fail;refine HF.out.mono ?_;rintro e w4 ⟨rfl,hb4⟩;have jy:=zh (HB.out.trans (hb4.mono HB.out.size));clear hb4 HF;go_wp2_with fail
   go_ret
   exact⟨rfl,jy.out⟩
end
section
open Go.MapKept Go.WideShapes
open Go.Maps (Keyed)
open Go.RowKit
open Go.WideMaps (keyOf_string_mk)
def SN (w:World) (b n:Nat) (l:List (List UInt8)):Prop:=∃ D:DataW Unit,w.ownsMap Tryz.prog 9 (plainElem Tryz.prog 4) b n D∧∀ s:List UInt8,D.atKey (.string s) (.lit (.bool false))=.lit (.bool (decide (s∈l)))
theorem Il:Keyed Tryz.prog 9:=Go.Maps.string_keyed Tryz.underlying9
theorem QX {s:ByteArray} (hs:s.size≤20000):keyOf Tryz.prog 9 (.string s)=some (.string s.data.toList):=keyOf_string_mk Tryz.underlying9 (by unfold maxLen;omega)
theorem QY (w:World):(zeroValue 4).run Tryz.prog w=.ok (.bool false) w:=by
 have h:(Tryz.t4).zero=some (.bool false):=by kernel_rfl
 simp[zeroValue,h]
theorem Ef (x:Bool):plainElem (H:=Unit) Tryz.prog 4 (.bool x)=some (.lit (.bool x),[]):=by
 unfold plainElem;rw[Tryz.underlying4]
theorem CJ {v:Value} {x:Bool} {ps:List MemPlace} (h:plainElem (H:=Unit) Tryz.prog 4 v=some (.lit (.bool x),ps)):v=.bool x:=by
 unfold plainElem at h;rw[Tryz.underlying4] at h;cases v<;>first | (simp only[Option.some.injEq,Prod.mk.injEq,DataW.lit.injEq,Lit.bool.injEq] at h;rw[h.1]) | (exact absurd h (by simp))
theorem SN.new (w:World):SN (w.alloc (.map #[] 0)) w.heap.size 0 []:=⟨_,World.ownsMap_made w _ _ _,fun s=>by rfl⟩
theorem SN.kept {w w':World} {b n:Nat} {l:List (List UInt8)} {row:Option Nat} (h:SN w b n l) (hg:w.grownBy w' row) (hn:some b≠row):SN w' b n l:=by
 obtain⟨D,h1,h2⟩:=h;exact⟨D,h1.kept hg hn,h2⟩
theorem SN.below {w w':World} {b n:Nat} {l:List (List UInt8)} (h:SN w b n l) (hb:Below w.heap.size w w'):SN w' b n l:=h.kept (ay hb none) (by simp)
theorem SN.look {w:World} {b n:Nat} {l:List (List UInt8)} (h:SN w b n l) {s:ByteArray} (hs:s.size≤20000):(Instr.lookup 175 (.map (some b)) (.string s) false).run Tryz.prog w=.ok (.bool (decide (s.data.toList∈l))) w:=by
 obtain⟨D,h1,h2⟩:=h;obtain⟨v,ps,hrun,hv⟩:=h1.lookup Il Tryz.underlying175 (QY w) (Ef false) (QX hs);rw[h2 s.data.toList] at hv;rw[hrun,CJ hv]
theorem SN.add {w:World} {b n:Nat} {l:List (List UInt8)} (h:SN w b n l) {s:ByteArray} (hs:s.size≤20000) (hn:n≤1000):∃ w',(Instr.mapUpdate 175 (.map (some b)) (.string s) (.bool true)).run Tryz.prog w=.ok () w'∧SN w' b (n+1) (l++[s.data.toList])∧w.grownBy w' (some b):=by
 obtain⟨D,h1,h2⟩:=h;obtain⟨w',hrun,h3,hg⟩:=h1.update Il Tryz.underlying175 (by unfold maxLen;omega) (QX hs) (Ef true);refine⟨w',hrun,⟨_,h3,fun s'=>?_⟩,hg⟩;by_cases e:s'=s.data.toList
 ·rw[e,Go.Maps.atKey_put_same h1.isMap (by trivial)];simp
 ·have hne:Lit.string s'≠Lit.string s.data.toList:=fun h=>e (by injection h);rw[Go.Maps.atKey_put_other hne,h2 s'];simp[e]
end
section
open Go.RowKit
def yR (l:List (ByteArray×ByteArray)):List (List UInt8):=l.map fun p=>p.1.data.toList
def Nm.attrs (l:List (ByteArray×ByteArray)):Bool:=decide (yR l).Nodup && l.all fun p=>Nm.attr p.1
theorem vS {l:List (ByteArray×ByteArray)} {j:Nat} {p:ByteArray×ByteArray} (hp:l[j]?=some p):yR (l.take (j+1))=yR (l.take j)++[p.1.data.toList]:=by
 unfold yR;rw[List.take_add_one,hp];simp
theorem Nm.AJ {l:List (ByteArray×ByteArray)} {j:Nat} {p:ByteArray×ByteArray} (hp:l[j]?=some p) (h:p.1.data.toList∈yR (l.take j)):Nm.attrs l=false:=by
 have:¬ (yR l).Nodup:=fun hn=>by
  have e:yR l=yR (l.take (j+1))++yR (l.drop (j+1)):=by unfold yR;rw[←List.map_append,List.take_append_drop]
  rw[e] at hn;have h2:=(List.nodup_append.1 hn).1;rw[vS hp] at h2;exact (List.nodup_append.1 h2).2.2 _ h _ (by simp) rfl
 unfold Nm.attrs;rw[decide_eq_false this];rfl
theorem Nm.DF {l:List (ByteArray×ByteArray)} {j:Nat} {p:ByteArray×ByteArray} (hp:l[j]?=some p) (h:Nm.attr p.1=false):Nm.attrs l=false:=by
 unfold Nm.attrs;rw[Bool.and_eq_false_iff];right;rw[List.all_eq_false];exact⟨p,List.mem_of_getElem? hp,by simp[h]⟩
def UH (l:List (ByteArray×ByteArray)) (j:Nat):Prop:=(yR (l.take j)).Nodup∧∀ p∈l.take j,Nm.attr p.1=true
theorem Gu (l:List (ByteArray×ByteArray)):UH l 0:=⟨by simp[yR],fun p hp=>by simp at hp⟩
theorem Gv {l:List (ByteArray×ByteArray)} {j:Nat} {p:ByteArray×ByteArray} (h:UH l j) (hp:l[j]?=some p) (h1:p.1.data.toList∉yR (l.take j)) (h2:Nm.attr p.1=true):UH l (j+1):=by
 refine⟨?_,fun q hq=>?_⟩
 ·rw[vS hp,List.nodup_append];exact⟨h.1,by simp,fun a ha b hb=>by simp at hb;subst hb;rintro rfl;exact h1 ha⟩
 ·rw[List.take_add_one,hp] at hq;rcases List.mem_append.1 hq with hq | hq
  ·exact h.2 q hq
  ·simp at hq;subst hq;exact h2
theorem Ls {l:List (ByteArray×ByteArray)} {j:Nat} (h:UH l j) (hj:l.length≤j):Nm.attrs l=true:=by
 unfold UH at h;rw[List.take_of_length_le hj] at h;unfold Nm.attrs;rw[decide_eq_true h.1,Bool.true_and,List.all_eq_true];exact fun p hp=>h.2 p hp
theorem Af (d:Tr.Nd) (l:List (ByteArray×ByteArray)) (w:World) (hk:d.kind=2) (ha:AR w 0 d.av.v l) (hl:l.length≤64) (hv:∀ p∈l,p.1.size≤20000) (hs:d.name.size≤20000) (hT:Lit w):
  Calls Tryz.prog 65 #[Uo d] w fun e w'=>e=.returned (.bool (Nm.attrs l && Nm.elem d.name))∧Below w.heap.size w w':=by
 obtain⟨k,nm,⟨a,n,c⟩,dt,pa,fi,la,pr,ne⟩:=d;dsimp only at hs hk ⊢;subst hk;replace ha:AR w 0 (.slice a n c) l:=ha;have hn:l.length=n:=by
  obtain⟨A',c',e⟩:=TR.form ha;injection e with _ e2 _;exact e2.symm
 obtain⟨w1,hw1⟩:=eX (w.alloc (.cells #[.int .i64 2,.string nm,.slice a n c,.string dt,.int .i64 pa,.int .i64 fi,.int .i64 la,.int .i64 pr,.int .i64 ne] 82))
 have hb1:Below w.heap.size w w1:=fI hw1;have hX1:Whole w1 w.heap.size #[.int .i64 2,.string nm,.slice a n c,.string dt,.int .i64 pa,.int .i64 fi,.int .i64 la,.int .i64 pr,.int .i64 ne] 82:=by rw[←hw1];exact Whole.new w _ _
 have e0:w1.cell? ⟨w.heap.size,0,none⟩=some (.int .i64 2):=hX1.cell 0;have e2:w1.cell? ⟨w.heap.size,2,none⟩=some (.slice a n c):=hX1.cell 2;have hP:=Ea nm;have hmk:=fun (k:Int) W=>WZ Tryz.underlying175 k W;obtain⟨w2,hw2⟩:=eX (w1.alloc (.map #[] 0))
 have eO:Below w1.heap.size w1 w2:=fI hw2;have hSN:SN w2 w1.heap.size 0 []:=by rw[←hw2];exact SN.new w1
 have hX2:=hX1.below eO hX1.lt;have m2:w2.cell? ⟨w.heap.size,2,none⟩=some (.slice a n c):=hX2.cell 2;have fQ:=zh hX1;have HB1:=zh hb1;have SE:=zh eO;have HSN:=zh hSN;have HR1:=zh (TR.below ha hb1);have HT1:=zh (hT.below hb1);have HV:=zh hv;have HN:=zh hn;have hel:Nm.elem nm=(match nm.data.toList with | []=>false | c::_=>decide (97≤c.toNat) && decide (c.toNat≤122) && Nm.plain nm):=rfl;have hll:nm.data.toList.length=nm.size:=rfl;have HE:=zh hel;have ab1:n≤64:=by omega
 clear hT hX1 hX2 hb1 eO ha hv hn hl hSN hel
 go_enter Tryz.func65,Tryz.ntmps65
 go_wp2_with fail;(try rw[hw2]);try go_wp2_with fail
 go_loopw [5,16] (fun u5 u wr=>∃ j:Nat,u=.int .i64 (j:Int)∧j≤n∧Below w1.heap.size w1 wr∧SN wr w1.heap.size j (yR (l.take j))∧UH l j) (fun _ u _=>n - (intOf u).toNat)
 case atStart=>exact⟨0,rfl,Nat.zero_le _,SE.out,by rw[List.take_zero];exact HSN.out,Gu l⟩
 case round=>
  obtain⟨j,rfl,hj,hb,hsn,hok⟩:=hrel;have j0:(0:Int)≤(j:Int):=by omega
  by_cases hjn:j<n
  ·have j1:(j:Int)<(n:Int):=by omega
   obtain⟨p,hp⟩:∃ p,l[j]?=some p:=⟨l[j]'(by rw[HN.out];exact hjn),by simp⟩
   obtain⟨ga,oa,rfl,-,ZQ,ck1⟩:=AR.at (TR.below HR1.out hb) hp;obtain⟨pn,pv⟩:=p;dsimp only at ZQ ck1;have hpn:pn.size≤20000:=HV.out _ (List.mem_of_getElem? hp);obtain⟨w3,hw3⟩:=eX (wr.alloc (.cells #[.string pn,.string pv] 95))
   have aW:Whole w3 wr.heap.size #[.string pn,.string pv] 95:=by rw[←hw3];exact Whole.new wr _ _
   have TJ:Below wr.heap.size wr w3:=fI hw3;have hb3:Below w1.heap.size w1 w3:=hb.trans (TJ.mono hb.size);have q0:w3.cell? ⟨wr.heap.size,0,none⟩=some (.string pn):=aW.cell 0;have TK:=hsn.below TJ;have hlk:=TK.look hpn;by_cases hin:pn.data.toList∈yR (l.take j)
   ·rw[decide_eq_true hin] at hlk;have ql:=zh (Nm.AJ hp hin);have TL:=zh (HB1.out.trans (hb3.mono HB1.out.size));clear hp aW TJ hb3 hsn TK hok hin hb hmk hP hs hll;go_wp2_with fail;(try rw[hw3]);try go_wp2_with fail
    go_ret
    exact⟨gQ (by simp[ql.out]),TL.out⟩
   ·rw[decide_eq_false hin] at hlk;have HA:=zh (mZ pn w3 hpn (HT1.out.below hb3));have HP:=zh hp;have XU:=zh hin;have ql:=zh hok;have jA:=zh TK;have HB3:=zh hb3;have eU:=zh aW;clear hp aW TJ hb3 hsn TK hok hin hb hmk hP hs hll;go_wp2_with fail;(try rw[hw3]);(try go_wp2_with fail);refine HA.out.mono ?_;rintro e w4 ⟨rfl,hb4⟩;by_cases hat:Nm.attr pn=true
    ·rw[hat];have oJ:=HB3.out.trans (hb4.mono HB3.out.size);have bI:=eU.out.below hb4 eU.out.lt;have q4:w4.cell? ⟨wr.heap.size,0,none⟩=some (.string pn):=bI.cell 0;have hs4:=jA.out.below hb4;obtain⟨w5,hrun,hs5,g5⟩:=hs4.add hpn (by omega);have hb5:=oJ.grown g5 oJ.size (fun k hk=>by simp at hk;omega);have HF:=zh (And.intro hb5 (And.intro (by rw[vS HP.out];exact hs5) (Gv ql.out HP.out XU.out hat)):Below w1.heap.size w1 w5∧SN w5 w1.heap.size (j+1) (yR (l.take (j+1)))∧UH l (j+1));clear hlk HA oJ bI hs4 hs5 g5 hb5 hb4;go_wp2_with fail
     go_roundw
     case rel=>exact⟨j+1,by go_num,by omega,HF.out.1,HF.out.2.1,HF.out.2.2⟩
     case measure=>simp[intOf];omega
    ·have ZX:Nm.attr pn=false:=by simpa using hat
     rw[ZX];have HBAD:=zh (Nm.DF HP.out ZX);have TL:=zh (HB1.out.trans ((HB3.out.trans (hb4.mono HB3.out.size)).mono HB1.out.size));clear hlk HA hb4;go_wp2_with fail
     go_ret
     exact⟨gQ (by simp[HBAD.out]),TL.out⟩
  ·have rX:j=n:=by omega
   subst rX;have XT:=fQ.out.below hb fQ.out.lt;have m1:wr.cell? ⟨w.heap.size,1,none⟩=some (.string nm):=XT.cell 1;have hTr:=HT1.out.below hb;have XV:=HB1.out.trans (hb.mono HB1.out.size);have ql:=zh (Ls hok (by rw[HN.out];exact Nat.le_refl _));have j1:¬ (j:Int)<(j:Int):=by omega
   clear XT hb hsn hok hmk;cases hnm:nm.data.toList with
   | nil=>
    have hne0:(nm.toList == [])=true:=by rw[Lib.toList_data,hnm];rfl
    have hne:(nm.toList != [])=false:=by rw[bne,hne0];rfl
    have hr:Nm.elem nm=false:=by rw[HE.out,hnm]
    have HR:=zh hr;clear hr hll hP hs;go_wp2_with fail
    go_ret
    exact⟨gQ (by simp[HR.out,ql.out]),XV⟩
   | cons c0 r=>
    have hne0:(nm.toList == [])=false:=by rw[Lib.toList_data,hnm];rfl
    have hne:(nm.toList != [])=true:=by rw[bne,hne0];rfl
    have hr:Nm.elem nm=(decide (97≤c0.toNat) && decide (c0.toNat≤122) && Nm.plain nm):=by rw[HE.out,hnm]
    have hpos:0<nm.size:=by rw[←hll,hnm];simp
    have hget:nm[0]=c0:=by
     have:nm.data.toList[0]'(by rw[hnm];simp)=c0:=by simp[hnm]
     exact this
    have hem:nm.toList.isEmpty=false:=by rw[Lib.toList_data,hnm];rfl
    clear hll;by_cases h1:97≤c0.toNat
    ·by_cases h2:c0.toNat≤122
     ·have hr':Nm.elem nm=Nm.plain nm:=by rw[hr,decide_eq_true h1,decide_eq_true h2];simp
      have HR:=zh hr';have HP:=zh (hP _ hs hTr);have ZL:(97:Int)≤(c0.toNat:Int):=by omega
      have h2i:(c0.toNat:Int)≤122:=by omega
      clear hr hr' hP hs hnm;go_wp2_with fail;refine HP.out.mono ?_;rintro e w4 ⟨rfl,hb4⟩;go_wp2_with fail
      go_ret
      exact⟨gQ (by simp[HR.out,ql.out]),XV.trans (hb4.mono XV.size)⟩
     ·have hr':Nm.elem nm=false:=by rw[hr,decide_eq_false h2];simp
      have HR:=zh hr';have ZL:(97:Int)≤(c0.toNat:Int):=by omega
      have h2i:¬ (c0.toNat:Int)≤122:=by omega
      clear hr hr' hP hs hnm;go_wp2_with fail
      go_ret
      exact⟨gQ (by simp[HR.out,ql.out]),XV⟩
    ·have hr':Nm.elem nm=false:=by rw[hr,decide_eq_false h1];simp
     have HR:=zh hr';have ZL:¬ (97:Int)≤(c0.toNat:Int):=by omega
     clear hr hr' hP hs hnm;go_wp2_with fail
     go_ret
     exact⟨gQ (by simp[HR.out,ql.out]),XV⟩
theorem wpList_append_run {P:Program} {w w1:World} {ops:Array Oper} {rest:List Oper} {o:Oper} {a:Act} {Q:Exit→Act→World→Prop} (hgd:o.guard=none) (s x:Operand) (t tn:TypeId)
  (ho:o.op=.call { callee:=.builtin .append,args:=#[s,x],argTypes:=#[t,tn] }) (v1 v2 vr:Value) (hs:a.eval s=v1) (hx:a.eval x=v2)
  (hr:(Builtin.append_ #[t,tn] o.type #[v1,v2]).run P w=.ok vr w1) (h:wpList P ops Q rest (a.put o.dst vr) w1):wpList P ops Q (o::rest) a w:=by
 refine wpList_plain hgd fun K hK=>?_;unfold Oper.wp execOp;simp only[ho,resolve,invoke,builtin,Sem.run_bind,Sem.run_pure,Result.andThen_ok,List.map_toArray,List.map_cons,List.map_nil,hs,hx,hr];exact hK _ _ h
theorem wJ (cs:Array Value) (k:Nat):(Builtin.zeroCells cs k).size=k*cs.size:=by
 unfold Builtin.zeroCells
 induction k with
 | zero=>simp
 | succ k ih=>simp_all [Nat.add_mul]
theorem Ob (k:Nat) (hk:k≤4000) (w:World):
  Calls Tryz.prog 126 #[.slice none 0 0,.int .i64 (k:Int)] w fun e w'=>∃ v,e=.returned v∧TR w' w.heap.size 95 2 v 0 []∧Below w.heap.size w w':=by
 obtain⟨i0,hi0,hz0,hz1,hz2⟩:=info_parts rO;by_cases h0:k=0
 ·subst h0
  go_enter Tryz.func126,Tryz.ntmps126
  go_wp2_with fail
  go_ret
  exact⟨_,rfl,TR.nil _ _ _ _,Below.refl _ _⟩
 ·have h:=fun ty=>Lib.run_append_grow_zeros w 80 3 ty 95 i0 _ .i64 .i64 Tryz.underlying80 Tryz.underlying3 hi0 hz0 none 0 0 [] (by rw[hz1];rfl) k (by omega) (by omega) (by omega) (by omega) (by rw[hz2];omega) (by rw[hz2];exact growslice_fits (by omega) (by omega));obtain⟨G,hG⟩:=eX (grownCap w (0+k) 0 95)
  have hGn:0+k≤G:=by rw[←hG];exact grownCap_ge w _ _ _
  have hG63:G≤maxLen:=by rw[←hG];exact grownCap_le_maxLen w (0+k) 0 95 (by unfold maxLen;omega)
  rw[hG] at h;obtain⟨ROW,hROW⟩:∃ ROW:Array Value,(([]:List Value).toArray++Builtin.zeroCells (Value.agg #[.string ⟨#[]⟩,.string ⟨#[]⟩]).cells k++Builtin.zeroCells (Value.agg #[.string ⟨#[]⟩,.string ⟨#[]⟩]).cells (G - (0+k)))=ROW:=⟨_,rfl⟩
  rw[hROW] at h;have hRl:ROW.size=G*2:=by
   rw[←hROW,Array.size_append,Array.size_append,wJ,wJ,show (Value.agg #[.string ⟨#[]⟩,.string ⟨#[]⟩]).cells.size=2 from rfl];simp;omega
  rw[Nat.zero_add] at h hGn;obtain⟨w1,hw1⟩:=eX (w.drew.alloc (.cells ROW 95))
  rw[hw1] at h;have hb1:Below w.heap.size w w1:=by rw[←hw1];exact (bf _ w).alloc (Nat.le_refl _) _
  have hg1:w1.heap[w.heap.size]?=some (.cells ROW 95 (0,0)):=by rw[←hw1];exact heap_alloc_new w.drew _
  have q1:(0:Int)<(k:Int):=by omega
  have q2:¬ (k:Int)<0:=by omega
  have HF:=zh (And.intro hGn (And.intro hG63 hRl));clear hGn hG63 hRl hROW hG hw1
  go_enter Tryz.func126,Tryz.ntmps126
  go_wp2_with (at_builtin;refine wpList_append_run rfl _ _ 80 3 rfl (.slice none 0 0) (.int .i64 (k:Int)) _ rfl rfl (h _) ?_)
  go_wp2_with fail
  go_ret
  refine⟨_,rfl,⟨rfl,.inr ⟨w.heap.size,0,G,ROW,rfl,Nat.le_refl _,hg1,Nat.zero_le _,HF.out.2.1,by rw[HF.out.2.2];omega,fun j hj=>by omega⟩⟩,hb1⟩
theorem Je (S:Nat) (va vb:Value) (la lb:List (ByteArray×ByteArray)) (w:World) (h0:w.cell? ⟨S,0,none⟩=some va) (h1:w.cell? ⟨S,1,none⟩=some vb) (hlt:S<w.heap.size) (ha:AR w 0 va la) (hb:AR w 0 vb lb) (hla:la.length≤1000) (hlb:lb.length≤1000):
  Calls Tryz.prog 90 #[.slice (some ⟨S,0,none⟩) 2 2] w fun e w'=>∃ v,e=.returned v∧AR w' w.heap.size v (la++lb)∧Below w.heap.size w w':=by
 obtain⟨i0,hi0,hz0,hz1,hz2⟩:=info_parts rO;obtain⟨Aa,ca,rfl⟩:=ha.form;obtain⟨Ab,cb,rfl⟩:=hb.form;obtain⟨a,hA⟩:=eX (la.length)
 obtain⟨b,hB⟩:=eX (lb.length)
 have HA:=zh ha;have HB:=zh hb;have HL:=zh (And.intro hA hB);rw[hA] at h0 hla;rw[hB] at h1 hlb;clear ha hb hA hB
 go_enter Tryz.func90,Tryz.ntmps90
 go_wp2_with fail
 go_loopw [11,3] (fun j z wr=>((j=.int .i64 0∧z=.int .i64 0)∨(j=.int .i64 1∧z=.int .i64 (a:Nat))∨(j=.int .i64 2∧z=.int .i64 ((a:Int)+(b:Int))))∧wr=w) (fun j _ _=>2 - (intOf j).toNat)
 case atStart=>exact⟨.inl ⟨rfl,rfl⟩,rfl⟩
 case round=>
  obtain⟨hj,rfl⟩:=hrel;rcases hj with ⟨rfl,rfl⟩ | ⟨rfl,rfl⟩ | ⟨rfl,rfl⟩
  ·have q:¬ (a:Int)<0:=by omega
   go_wp2_with fail
   go_roundw
   case rel=>exact⟨.inr (.inl ⟨rfl,by simp⟩),trivial⟩
   case measure=>simp[intOf]
  ·have q:¬ (a:Int)+(b:Int)<0:=by omega
   go_wp2_with fail
   go_roundw
   case rel=>exact⟨.inr (.inr ⟨rfl,rfl⟩),trivial⟩
   case measure=>simp[intOf]
  ·have HG:=zh (Ob (a+b) (by omega) wr);rw[show ((a+b:Nat):Int)=(a:Int)+(b:Int) by omega] at HG;go_wp2_with fail;refine HG.out.mono ?_;rintro e w1 ⟨v1,rfl,o1,hb1⟩;clear HG;obtain⟨wo,hwo⟩:∃ wo:World,wo=wr:=⟨_,rfl⟩
   subst hwo;go_wp2_with fail
   go_loopw [27,6] (fun j z wr=>((j=.int .i64 0∧TR wr wo.heap.size 95 2 z 0 [])∨(j=.int .i64 1∧TR wr wo.heap.size 95 2 z a (fP la))∨(j=.int .i64 2∧TR wr wo.heap.size 95 2 z (a+b) (fP la++fP lb)))∧Below wo.heap.size wo wr) (fun j _ _=>2 - (intOf j).toNat)
   case atStart=>exact⟨.inl ⟨rfl,o1⟩,hb1⟩
   case round=>
    obtain⟨hj,hbr⟩:=hrel;have k0:=hbr.cell (p:=⟨S,0,none⟩) hlt;have k1:=hbr.cell (p:=⟨S,1,none⟩) hlt;rw[h0] at k0;rw[h1] at k1;have hbs:=hbr.size;rcases hj with ⟨rfl,o⟩ | ⟨rfl,o⟩ | ⟨rfl,o⟩
    ·obtain⟨Az,cz,rfl⟩:=o.form;have hsa:=HA.out.below hbr;rw[HL.out.1] at hsa;have src:=hsa.source;have hsl:=hsa.1;clear hsa
     go_wp2_with (at_builtin;refine bA rfl _ _ 80 rfl wo.heap.size 95 i0 (.agg #[.string ⟨#[]⟩,.string ⟨#[]⟩]) 2 32 Tryz.underlying80 hi0 hz0 hz1 hz2 rfl (by decide) _ 0 [] rfl o _ a (fP la) rfl hsl src (jl _) ?c3 ?c4 hbs ?_)
     case c3=>unfold maxLen;omega
     case c4=>omega
     intro v5 w5 o5 g5 f5;have hb5:=hbr.grown g5 hbs (fun j hj=>(o.lt j hj).1);have OU:TR w5 wo.heap.size 95 2 v5 a (fP la):=by simpa using o5
     clear o5 g5 f5 o;go_wp2_with fail
     go_roundw
     case rel=>exact⟨.inr (.inl ⟨rfl,OU⟩),hb5⟩
     case measure=>simp[intOf]
    ·obtain⟨Az,cz,rfl⟩:=o.form;have hsa:=HB.out.below hbr;rw[HL.out.2] at hsa;have src:=hsa.source;have hsl:=hsa.1;clear hsa
     go_wp2_with (at_builtin;refine bA rfl _ _ 80 rfl wo.heap.size 95 i0 (.agg #[.string ⟨#[]⟩,.string ⟨#[]⟩]) 2 32 Tryz.underlying80 hi0 hz0 hz1 hz2 rfl (by decide) _ a (fP la) rfl o _ b (fP lb) rfl hsl src (jl _) ?c5 ?c6 hbs ?_)
     case c5=>unfold maxLen;omega
     case c6=>omega
     intro v5 w5 o5 g5 f5;have hb5:=hbr.grown g5 hbs (fun j hj=>(o.lt j hj).1);clear g5 f5 o;go_wp2_with fail
     go_roundw
     case rel=>exact⟨.inr (.inr ⟨rfl,o5⟩),hb5⟩
     case measure=>simp[intOf]
    ·have HO:=zh o;clear o;go_wp2_with fail
     go_ret
     refine⟨_,rfl,?_,hbr⟩;show TR _ _ _ _ _ (la++lb).length (fP (la++lb));rw[List.length_append,HL.out.1,HL.out.2,jT];exact HO.out
def fT (p:ByteArray×ByteArray):ByteArray×ByteArray:=(p.1,aZ p.2)
def CK (l:List (ByteArray×ByteArray)) (j:Nat):List (ByteArray×ByteArray):=(l.take j).map fT++l.drop j
theorem Oc (l:List (ByteArray×ByteArray)):CK l 0=l:=by unfold CK;simp
theorem QZ {l:List (ByteArray×ByteArray)} {j:Nat} (h:l.length≤j):CK l j=l.map fT:=by unfold CK;rw[List.take_of_length_le h,List.drop_eq_nil_of_le h,List.append_nil]
theorem BN {l:List (ByteArray×ByteArray)} {j:Nat} {p:ByteArray×ByteArray} (h:l[j]?=some p):(CK l j)[j]?=some p:=by
 unfold CK;have hl:=(List.getElem?_eq_some_iff.1 h).1;rw[List.getElem?_append_right (by simp;omega)];simp only[List.length_map,List.length_take];rw[show j - min j l.length=0 from by omega,List.getElem?_drop,Nat.add_zero];exact h
theorem Q0 {l:List (ByteArray×ByteArray)} {j:Nat} {p:ByteArray×ByteArray} (h:l[j]?=some p):(CK l j).set j (fT p)=CK l (j+1):=by
 have hl:=(List.getElem?_eq_some_iff.1 h).1;unfold CK;have e1:((l.take j).map fT).length=j:=by simp;omega
 have e2:l.drop j=p::l.drop (j+1):=by rw[List.drop_eq_getElem_cons hl];rw[(List.getElem?_eq_some_iff.1 h).2]
 rw[e2,List.take_add_one,h];apply List.ext_getElem?;intro i;rw[List.getElem?_set];by_cases hi:i<j
 ·rw[if_neg (by omega),List.getElem?_append_left (by rw[e1];exact hi),List.map_append,List.append_assoc,List.getElem?_append_left (by rw[e1];exact hi)]
 ·rw[List.map_append,List.append_assoc,List.getElem?_append_right (by omega),List.getElem?_append_right (by rw[e1];omega),e1];by_cases hi2:j=i
  ·subst hi2;rw[if_pos rfl];simp[hl];omega
  ·rw[if_neg hi2];obtain⟨k,rfl⟩:∃ k,i=j+(k+1):=⟨i - j - 1,by omega⟩
   rw[show j+(k+1) - j=k+1 from by omega];rfl
theorem vJ (v:Value) (l:List (ByteArray×ByteArray)) (w:World) (h:AR w 0 v l) (hl:l.length≤1000) (hv:∀ p∈l,p.2.size≤20000) (hT:Lit w):
  Calls Tryz.prog 63 #[v] w fun e w'=>∃ v',e=.returned v'∧AR w' w.heap.size v' (l.map fT)∧Below w.heap.size w w':=by
 have hC:=qF v l w h hl;obtain⟨A0,c0,rfl⟩:=h.form;have HV:=zh hv;clear h hv
 go_enter Tryz.func63,Tryz.ntmps63
 go_wp2_with fail;refine hC.mono ?_;rintro e w1 ⟨v1,rfl,o1,hb1⟩;obtain⟨A1,c1,rfl⟩:=o1.form;have PE:=zh o1;have HB1:=zh hb1;obtain⟨n,hn⟩:=eX (l.length)
 have HN:=zh hn;rw[hn] at hl ⊢;clear hC o1 hb1 hn;go_wp2_with fail
 go_loopw [4,9] (fun u4 u wr=>∃ j:Nat,u=.int .i64 (j:Int)∧j≤n∧TR wr w.heap.size 95 2 (.slice A1 n c1) n (fP (CK l j))∧Below w.heap.size w wr) (fun _ u _=>n - (intOf u).toNat)
 case atStart=>exact⟨0,rfl,Nat.zero_le _,by rw[Oc,←HN.out];exact PE.out,HB1.out⟩
 case round=>
  obtain⟨j,rfl,hj,o,hb⟩:=hrel;have j0:(0:Int)≤(j:Int):=by omega
  by_cases hjn:j<n
  ·have j1:(j:Int)<(n:Int):=by omega
   obtain⟨p,hp⟩:∃ p,l[j]?=some p:=⟨l[j]'(by rw[HN.out];exact hjn),by simp⟩
   obtain⟨ga,oa,rfl,hga,hnc,hcs,hfz⟩:=o.cells (by omega);have ck:=hcs (j*2+1) (.string p.2) (by omega) (ji _ j p (BN hp)).2;rw[←Nat.add_assoc] at ck;have hps:=HV.out p (List.mem_of_getElem? hp);have HR:=zh (gY p.2 wr hps (hT.below hb));have HP:=zh hp;have HO:=zh o;have HB:=zh hb;clear hp o hb hcs;go_wp2_with fail;refine HR.out.mono ?_;rintro e w5 ⟨rfl,hb5⟩;have o5:=HO.out.below hb5;have f5:=o5.frozen (oa+j*2+1);have ck5:w5.cell? ⟨ga,oa+j*2+1,none⟩=some (.string p.2):=by
    have:=o5.cellAt (j*2+1) (.string p.2) (by omega) (ji _ j p (BN HP.out)).2;rw[Nat.add_assoc];exact this
   obtain⟨o6,g6⟩:=o5.stored (j*2+1) (.string (aZ p.2));rw[zo _ j p (BN HP.out) (aZ p.2),show (p.1,aZ p.2)=fT p from rfl,Q0 HP.out,←Nat.add_assoc] at o6;rw[←Nat.add_assoc] at g6;have hb6:=(HB.out.trans (hb5.mono HB.out.size)).grown g6 (by have:=HB.out.size;have:=hb5.size;omega) (fun k hk=>by simp at hk;omega);have HF:=zh (And.intro o6 hb6);obtain⟨rv,mW⟩:=eX (fB (bB.rep p.2.data.toList))
   have ZY:aZ p.2=rv:=mW;rw[ZY] at HF;rw[mW];clear HR o5 o6 g6 hb6 mW ZY;go_wp2_with fail
   go_roundw
   case rel=>exact⟨j+1,by go_num,by omega,HF.out.1,HF.out.2⟩
   case measure=>simp[intOf];omega
  ·have rX:j=n:=by omega
   subst rX;rw[QZ (by rw[HN.out];exact Nat.le_refl _)] at o;have HF:=zh (And.intro o hb);clear o hb;have j1:¬ (j:Int)<(j:Int):=by omega
   go_wp2_with fail
   go_ret
   have hlen:(l.map fT).length=j:=by rw[List.length_map];exact HN.out
   have hfin:AR wr w.heap.size (.slice A1 j c1) (l.map fT):=by unfold AR;rw[hlen];exact HF.out.1
   exact⟨_,rfl,hfin,HF.out.2⟩
theorem Wz {w:World} {X:Nat} {t:TypeId} {c0 c1 c2 c3 c4 c5 c6 c7 c8:Value} (h:Whole w X #[c0,c1,c2,c3,c4,c5,c6,c7,c8] t) (d0 d1 d2 d3 d4 d5 d6 d7 d8:Value):
  ∃ W,((((((((w.setCell ⟨X,0,none⟩ d0).setCell ⟨X,1,none⟩ d1).setCell ⟨X,2,none⟩ d2).setCell ⟨X,3,none⟩ d3).setCell ⟨X,4,none⟩ d4).setCell ⟨X,5,none⟩ d5).setCell ⟨X,6,none⟩ d6).setCell ⟨X,7,none⟩ d7).setCell ⟨X,8,none⟩ d8=W∧Whole W X #[d0,d1,d2,d3,d4,d5,d6,d7,d8] t∧w.grownBy W (some X):=by
 refine⟨_,rfl,?_,?_⟩
 ·have h0:Whole _ X #[d0,c1,c2,c3,c4,c5,c6,c7,c8] t:=h.put 0 d0;have h1:Whole _ X #[d0,d1,c2,c3,c4,c5,c6,c7,c8] t:=h0.put 1 d1;have h2:Whole _ X #[d0,d1,d2,c3,c4,c5,c6,c7,c8] t:=h1.put 2 d2;have h3:Whole _ X #[d0,d1,d2,d3,c4,c5,c6,c7,c8] t:=h2.put 3 d3;have h4:Whole _ X #[d0,d1,d2,d3,d4,c5,c6,c7,c8] t:=h3.put 4 d4;have h5:Whole _ X #[d0,d1,d2,d3,d4,d5,c6,c7,c8] t:=h4.put 5 d5;have h6:Whole _ X #[d0,d1,d2,d3,d4,d5,d6,c7,c8] t:=h5.put 6 d6;have h7:Whole _ X #[d0,d1,d2,d3,d4,d5,d6,d7,c8] t:=h6.put 7 d7;exact h7.put 8 d8
 ·have g0:w.grownBy (w.setCell ⟨X,0,none⟩ d0) (some X):=aJ (ay (Below.refl w.heap.size w) _) 0 d0;exact aJ (aJ (aJ (aJ (aJ (aJ (aJ (aJ g0 1 d1) 2 d2) 3 d3) 4 d4) 5 d5) 6 d6) 7 d7) 8 d8
end
end Go.Proofs.YtmhjlifmcadefaaGreatDoor
