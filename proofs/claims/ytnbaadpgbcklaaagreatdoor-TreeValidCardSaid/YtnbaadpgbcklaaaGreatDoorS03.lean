/- Part of a proof about trees. -/
import Derived.Lib.AppendZerosOnto
import Derived.Lib.MinMax
import Derived.Maps.OwnOps
import Derived.Maps.OwnSet
import Derived.Sort.QuietIn
import Derived.StringKeys
import Derived.Test.YtnbaadpgbcklaaaGreatDoorGNLkl
import Derived.Test.YtnbaadpgbcklaaaGreatDoorGNRcut
import Derived.Test.YtnbaadpgbcklaaaGreatDoorGNSat
set_option linter.unusedVariables false
set_option linter.unusedSimpArgs false
set_option linter.unusedSectionVars false
set_option maxHeartbeats 2000000
set_option maxRecDepth 100000
namespace Go.Proofs.YtnbaadpgbcklaaaGreatDoor
section
open Go.RowKit
theorem Dj (base B:Nat) (b s root h:Int) (live n:Nat) (R:Int→Option Tr.Nd) (fr:List Nat) (vs vf:Value) (w:World) (hm:TV base w B b s vs n R vf fr live root) (hS:Sound b s n R fr live) (hh:lQ h) (e1:R h=none):
  Calls Tryz.prog 18 #[.pointer (some ⟨B,0,none⟩),.int .i64 h] w fun e w'=>e=.returned (nU 6)∧Below w.heap.size w w':=by
 have hA:=iD base B b s root h live n R fr vs vf w hm hS hh;rw[e1] at hA
 go_enter Tryz.func18,Tryz.ntmps18
 go_wp2_with fail;refine hA.mono ?_;rintro e w1 ⟨g,o,rfl,hnp,hb⟩;have c0:w1.cell? ⟨g,o,none⟩=some (.int .i64 0):=hnp.cells.1;clear hm hA hnp;go_wp2_with fail;go_ret2;exact⟨rfl,hb⟩
theorem EN (base B:Nat) (b s root h:Int) (live n:Nat) (g:Tr.G) (av:Int→Tr.Sl) (fr:List Nat) (vs vf:Value) (nd:Tr.GN) (w:World) (hm:TV base w B b s vs n (Tr.raw g av) vf fr live root) (hS:Sound b s n (Tr.raw g av) fr live) (eg:g h=some nd) (hk:nd.kind=1):
  Calls Tryz.prog 18 #[.pointer (some ⟨B,0,none⟩),.int .i64 h] w fun e w'=>e=.returned (nU 10)∧Below w.heap.size w w':=by
 have hA:=gZ base B b s root h live n _ fr vs vf _ w hm hS (Tr.aj eg)
 go_enter Tryz.func18,Tryz.ntmps18
 go_wp2_with fail;refine hA.mono ?_;rintro e w1 ⟨gb,o,rfl,hpt,hb⟩;have c0:w1.cell? ⟨gb,o,none⟩=some (.int .i64 1):=by rw[←hk];exact ((hm.below hb).np hpt (Tr.aj eg)).cells.1
 clear hm hA hpt;go_wp2_with fail;go_ret2;exact⟨rfl,hb⟩
theorem yX (base B:Nat) (b s root h:Int) (live n:Nat) (g:Tr.G) (av:Int→Tr.Sl) (fr:List Nat) (vs vf:Value) (nd:Tr.GN) (w:World) (hm:TV base w B b s vs n (Tr.raw g av) vf fr live root) (hS:Sound b s n (Tr.raw g av) fr live) (hw:Tr.WF 0 g) (eg:g h=some nd) (h0:nd.kind≠0) (h1:nd.kind≠1):
  Calls Tryz.prog 18 #[.pointer (some ⟨B,0,none⟩),.int .i64 h] w fun e w'=>∃ v,e=.returned (.tuple #[v,.int .i64 0])∧bG w.heap.size w' v (Tr.fJ g h)∧TV base w' B b s vs n (Tr.raw (Tr.dB g h) av) vf fr live root∧aB w w' (aD B vs vf) (aD B vs vf):=by
 have hA:=gZ base B b s root h live n _ fr vs vf _ w hm hS (Tr.aj eg);have HC:=zh (fun (W:World) (hb:Below w.heap.size w W)=>J9 base B b s root h live n g av fr vs vf nd W (hm.below hb) hS hw eg);have q0:(nd.kind == 0)=false:=bY h0;have q1:(nd.kind == 1)=false:=bY h1
 go_enter Tryz.func18,Tryz.ntmps18
 go_wp2_with fail;refine hA.mono ?_;rintro e w1 ⟨gb,o,rfl,hpt,hb⟩;have c0:w1.cell? ⟨gb,o,none⟩=some (.int .i64 nd.kind):=((hm.below hb).np hpt (Tr.aj eg)).cells.1;have Uo:=HC.out w1 hb;clear hm hA hpt HC;go_wp2_with fail;refine Uo.mono ?_;rintro e w2 ⟨v,rfl,hr,hm2,st⟩;have HR:=zh (And.intro hr (And.intro hm2 ((aB.of_below (F:=aD B vs vf) hb).trans st)));clear hr hm2 st Uo;go_wp2_with fail;go_ret2;exact⟨_,rfl,bG.lower HR.out.1 hb.size,HR.out.2.1,HR.out.2.2⟩
/-! The reference's. -/
def jM (base:Nat) (w:World) (v:Value) (l:List Tr.Rec):Prop:=w.ownsRow base 147 11 v l.length (gQ l)
theorem jM.nil (base:Nat) (w:World):jM base w (.slice none 0 0) []:=World.ownsRow_nil _ _ _ _
theorem nO (w:World) (r:Tr.Rec) (base:Nat) (hb:base≤w.heap.size):jM base (w.alloc (.cells #[.int .i64 r.kind,.int .i64 r.target,.int .i64 r.node,.int .i64 r.prev,.int .i64 r.next,.int .i64 r.index,.string r.name,.string r.old,.bool r.had,.int .i64 r.count,.int .i64 r.size] 147)) (.slice (some ⟨w.heap.size,0,none⟩) 1 1) [r]:=
 World.ownsRow_lit (base:=base) (e:=147) (size:=11) w #[.int .i64 r.kind,.int .i64 r.target,.int .i64 r.node,.int .i64 r.prev,.int .i64 r.next,.int .i64 r.index,.string r.name,.string r.old,.bool r.had,.int .i64 r.count,.int .i64 r.size] 1 hb (by unfold maxLen;omega) rfl
theorem jM.below {b:Nat} {w w':World} {v:Value} {l:List Tr.Rec} (h:jM b w v l) (hb:Below w.heap.size w w'):jM b w' v l:=bX (S:=fun _=>False) h (.of_below hb) (fun _ _=>id)
theorem Dk (base M m:Nat) (vs:Value) (f:Nat→RS) (w:World):
  Calls Tryz.prog 51 #[.pointer (some ⟨M,0,none⟩),.int .i64 0] w fun e w'=>e=.returned (nU 10)∧w'=w:=by
 go_enter Tryz.func51,Tryz.ntmps51
 go_wp2_with fail;go_ret2;exact⟨rfl,rfl⟩
theorem Dl (base M m:Nat) (vs:Value) (f:Nat→RS) (i:Nat) (w:World) (h:MV base w M vs m f) (hi:i<m) (hp:(f i).pa = -1) (h0:i≠0) (hm:m≤100000):
  Calls Tryz.prog 51 #[.pointer (some ⟨M,0,none⟩),.int .i64 (i:Int)] w fun e w'=>e=.returned (nU 0)∧w'=w:=by
 obtain⟨A,c,rfl⟩:=h.form;obtain⟨k0,_⟩:=h.cell;obtain⟨g,rfl,_,_,_,_,c4,_,_⟩:=h.read hi;rw[hp] at c4;have q1:(0:Int)≤(i:Int):=by omega
 have q2:(i:Int)<(m:Int):=by omega
 have q3:((i:Int) == 0)=false:=bY (by omega);clear h
 go_enter Tryz.func51,Tryz.ntmps51
 go_wp2_with fail;go_ret2;exact⟨rfl,rfl⟩
theorem EO (base M m:Nat) (vs:Value) (f:Nat→RS) (i p:Nat) (w:World) (h:MV base w M vs m f) (hw:Tr.WF (-1) (mg m f)) (hi:i<m) (hg:(f i).gone=false) (hp:(f i).pa=(p:Int)) (h0:i≠0) (hm:m≤100000) (hpm:p<m):
  Calls Tryz.prog 51 #[.pointer (some ⟨M,0,none⟩),.int .i64 (i:Int)] w fun e w'=>∃ v,e=.returned (.tuple #[v,.int .i64 0])∧jM w.heap.size w' v [kH m f 2 i p]∧∃ sl,MV base w' M vs m (aV (aV f p fun n=>{ n with k:=sl,kids:=n.kids.erase (i:Int) }) i fun n=>{ n with pa := -1 })∧aB w w' (aC M vs m f) (aC M vs m (aV (aV f p fun n=>{ n with k:=sl,kids:=n.kids.erase (i:Int) }) i fun n=>{ n with pa := -1 })):=by
 have HC:=zh (FH base M m vs f i p w h hw hi hg hp hm);obtain⟨A,c,rfl⟩:=h.form;obtain⟨k0,_⟩:=h.cell;obtain⟨g,rfl,_,_,_,_,c4,_,_⟩:=h.read hi;rw[hp] at c4;have q1:(0:Int)≤(i:Int):=by omega
 have q2:(i:Int)<(m:Int):=by omega
 have q3:((i:Int) == 0)=false:=bY (by omega);have q4:¬ (p:Int)<0:=by omega
 clear h hw
 go_enter Tryz.func51,Tryz.ntmps51
 go_wp2_with fail;refine HC.out.mono ?_;rintro e w1 ⟨rfl,sl,hm1,st1⟩;obtain⟨r,hr⟩:=eX (kH m f 2 i p)
 have hB:=(Below.refl _ w1).alloc (Nat.le_refl _) (.cells #[.int .i64 r.kind,.int .i64 r.target,.int .i64 r.node,.int .i64 r.prev,.int .i64 r.next,.int .i64 r.index,.string r.name,.string r.old,.bool r.had,.int .i64 r.count,.int .i64 r.size] 147);have HR:=zh (And.intro (nO w1 r w.heap.size st1.1.size) (And.intro (hm1.below hB) (st1.trans (.of_below hB))));have HRR:=zh hr;rw[hr];clear hm1 st1 hB HC hr;go_wp2_with fail;go_ret2;refine⟨_,rfl,?_,_,HR.out.2.1,HR.out.2.2⟩;rw[HRR.out];exact HR.out.1
theorem MV.attr {base M m:Nat} {vs:Value} {f:Nat→RS} {w:World} (h:MV base w M vs m f) {i j:Nat} (hi:i<m) {p:ByteArray×ByteArray} (hj:(f i).at'[j]?=some p):∃ g o,(f i).a.a=some ⟨g,o,none⟩∧w.cell? ⟨g,o+j*2,none⟩=some (.string p.1)∧w.cell? ⟨g,o+j*2+1,none⟩=some (.string p.2):=by
 have hr:=h.ar i hi;have hlt:=(List.getElem?_eq_some_iff.1 hj).1;have e:(f i).a.v=.slice (f i).a.a (f i).at'.length (f i).a.c:=by unfold Tr.Sl.v;rw[h.an hi]
 rw[e] at hr;obtain⟨g,o,hA,_,_,hc,_⟩:=hr.cells (by omega);exact⟨g,o,hA,hc _ _ (by omega) (je _ _ _ hj).1,by rw[Nat.add_assoc];exact hc _ _ (by omega) (je _ _ _ hj).2⟩
theorem tJ (base M m:Nat) (vs:Value) (f:Nat→RS) (i:Nat) (nm:ByteArray) (w:World) (h:MV base w M vs m f) (hi:i<m) (hm:m≤100000) (hl:(f i).at'.length≤1000):
  Calls Tryz.prog 118 #[.pointer (some ⟨M,0,none⟩),.int .i64 (i:Int),.string nm] w fun e w'=>e=.returned (.int .i64 (yc (f i).at' nm))∧w'=w:=by
 obtain⟨A,c,rfl⟩:=h.form;obtain⟨k0,_⟩:=h.cell;obtain⟨g,rfl,_,_,c2,_⟩:=h.read hi;rw[h.an hi] at c2;have q1:(0:Int)≤(i:Int):=by omega
 have q2:(i:Int)<(m:Int):=by omega
 obtain⟨l,hL⟩:=eX ((f i).at')
 have HAT:=zh (fun (j:Nat) (p:ByteArray×ByteArray) (hj:(f i).at'[j]?=some p)=>h.attr hi hj);rw[hL] at HAT c2 hl ⊢;obtain⟨n,hn⟩:=eX (l.length)
 have HI:Hid (yc l nm=if oV l nm<l.length then ((oV l nm:Nat):Int) else -1):=zh rfl;have Sc:=zh (Pm l nm);have HN:=zh hn;obtain⟨ac,hac⟩:=eX ((f i).a.c)
 obtain⟨aa,Sr⟩:=eX ((f i).a.a)
 rw[hn] at c2 hl;rw[hac,Sr] at c2;rw[Sr] at HAT;clear h hL hn hac Sr
 go_enter Tryz.func118,Tryz.ntmps118
 go_wp2_with fail
 go_loopw [7] (fun v wr=>∃ k:Nat,v=.int .i64 k∧k≤n∧Hid (k≤oV l nm)∧wr=w) (fun v _=>n - (intOf v).toNat)
 case atStart=>exact⟨0,rfl,Nat.zero_le _,zh (Nat.zero_le _),rfl⟩
 case round=>
  obtain⟨k,rfl,hkn,H2,rfl⟩:=hrel;by_cases hk:k<n
  ·have p1:(k:Int)<(n:Int):=by omega
   have p0:(0:Int)≤(k:Int):=by omega
   obtain⟨p,hp⟩:∃ p,l[k]?=some p:=⟨l[k]'(by rw[HN.out];exact hk),by simp⟩
   obtain⟨ga,o,rfl,c1,_⟩:=HAT.out k p hp;have HS:=zh (Gx (nm:=nm) hp H2.out);clear hp;cases he:(p.1.toList == nm.toList) with
   | true=>
    have hr:yc l nm=(k:Int):=by rw[HI.out,HS.out.1 he,if_pos (by rw[HN.out];exact hk)]
    have HR:=zh hr;clear hr;go_wp2_with fail
    go_ret
    exact⟨kR HR.out.symm,rfl⟩
   | false=>
    have HR:=zh (HS.out.2 he);go_wp2_with fail
    go_roundw
    case rel=>exact⟨k+1,by go_num,by omega,zh HR.out,trivial⟩
    case measure=>simp[intOf];omega
  ·have hkn':k=n:=by omega
   subst hkn';have hr:yc l nm = -1:=by rw[HI.out,if_neg (by rw[HN.out];have:=H2.out;omega)]
   have HR:=zh hr;have p1:¬ (k:Int)<(k:Int):=by omega
   clear hr;go_wp2_with fail
   go_ret
   exact⟨kR HR.out.symm,rfl⟩
end
section
open Go Go.RowKit
theorem Pq {l:List Int} {p q:Int→Bool} (h:∀ k∈l,p k=q k):l.any p=l.any q:=by
 induction l with
 | nil=>rfl
 | cons a r ih=>rw[List.any_cons,List.any_cons,h a (by simp),ih fun k hk=>h k (List.mem_cons_of_mem _ hk)]
def rG (ρ:Int→Int) (r:Tr.Rec):Tr.Rec:={ r with target:=ρ r.target,node:=ρ r.node,prev:=ρ r.prev,next:=ρ r.next }
theorem Rn {ρ:Int→Int} (h0:ρ (-1)=0) (l:List Int):Tr.eZ (l.map ρ)=ρ (l.getLast?.getD (-1)):=by
 rcases List.eq_nil_or_concat l with rfl | ⟨r,x,rfl⟩
 ·exact h0.symm
 ·rw[List.concat_eq_append,List.map_append,List.map_cons,List.map_nil,Tr.rQ];simp
theorem Pt {ρ:Int→Int} (h0:ρ (-1)=0) (l:List Int):Tr.fs (l.map ρ)=ρ (l.head?.getD (-1)):=by
 cases l with
 | nil=>exact h0.symm
 | cons a r=>rfl
theorem sJ (l1 l2:List Int):wQ (l1++l2) ((l1.length:Nat) - 1)=l1.getLast?.getD (-1):=by
 unfold wQ;rcases List.eq_nil_or_concat l1 with rfl | ⟨r,x,rfl⟩
 ·rw[if_pos (by simp)];rfl
 ·rw[List.concat_eq_append,if_neg (by simp)];have:((((r++[x]).length:Nat):Int) - 1).toNat=r.length:=by simp
  rw[this,List.append_assoc,List.getElem?_append_right (Nat.le_refl _)];simp
theorem Ak (l1 l2:List Int):wQ (l1++l2) (l1.length:Nat)=l2.head?.getD (-1):=by
 unfold wQ;rw[if_neg (by omega),Int.toNat_natCast,List.getElem?_append_right (Nat.le_refl _),Nat.sub_self];cases l2<;>rfl
theorem vU (l1 l2:List Int) (x:Int):wQ (l1++x::l2) (((l1.length:Nat):Int)+1)=l2.head?.getD (-1):=by
 have:=Ak (l1++[x]) l2;rw[List.append_assoc] at this;simpa using this
section
variable {ρ:Int→Int} {m:Nat} {f:Nat→RS} {g:Tr.G}
def JC (m:Nat) (f:Nat→RS):Prop:=(f 0).kind=1∧∀ i,i<m→i≠0→(f i).kind=2∨(f i).kind=3∨(f i).kind=4
theorem Tr.Im.JD (h:Tr.Im ρ (mg m f) g) {i:Nat} (hi:i<m) (hg:(f i).gone=false):Tr.kindOf g (ρ i)=(f i).kind:=Tr.dz (h.node _ _ (aQ hi hg))
theorem Tr.Im.accepts (h:Tr.Im ρ (mg m f) g) (w:Tr.WF 0 g) (hk:JC m f) (h0:0<m) (I4:(f 0).gone=false) {p i:Nat} (hp:p<m) (hpg:(f p).gone=false) (hi:i<m) (hig:(f i).gone=false):
  jP m f p i=(Tr.dG g (ρ p) (ρ i) && !decide (ρ i∈Tr.dw g (ρ p))):=by
 have lp:(mg m f p).isSome:=by rw[aQ hp hpg];rfl
 have li:(mg m f i).isSome:=by rw[aQ hi hig];rfl
 have hup:ρ i∈Tr.dw g (ρ p)↔(i:Int)∈Tr.dw (mg m f) p:=by
  rw[h.up w (.inr lp)];exact h.mem (fun k hk=>h.QX w hk) li
 have ep:Tr.kindOf g (ρ p)=(f p).kind:=h.JD hp hpg;have ei:Tr.kindOf g (ρ i)=(f i).kind:=h.JD hi hig;unfold jP Tr.dG;rw[ep,ei];by_cases hi0:i=0
 ·subst hi0;rw[if_pos (.inl rfl),hk.1];by_cases h2:(f p).kind=2
  ·rw[if_pos h2];rfl
  ·rw[if_neg h2]
   split<;>rfl
 ·have ki:=hk.2 i hi hi0;by_cases hu:(i:Int)∈Tr.dw (mg m f) p
  ·rw[if_pos (.inr hu),decide_eq_true (hup.2 hu)];simp
  ·rw[if_neg (fun e=>by rcases e with e | e;exact hi0 e;exact hu e),decide_eq_false (fun e=>hu (hup.1 e)),Bool.not_false,Bool.and_true];by_cases h2:(f p).kind=2
   ·rw[if_pos h2,if_pos h2];rcases ki with e | e | e<;>rw[e]<;>rfl
   ·rw[if_neg h2,if_neg h2];by_cases hp0:p=0
    ·subst hp0;rw[if_pos hk.1];rcases ki with e | e | e
     ·rw[e,if_neg (by simp)];have e2:(((2:Int) == 4) || ((2:Int) == 2 && !Tr.jC g (ρ ((0:Nat):Int)) (ρ i)))=!Tr.jC g (ρ ((0:Nat):Int)) (ρ i):=by simp
      rw[e2];congr 1;unfold Tr.jC;rw[h.kid (aQ h0 I4),List.any_map];refine Pq fun k hk=>?_;obtain⟨j,rfl,hj,Vk,_⟩:=jE (h.kids _ _ (aQ h0 I4) k hk);have lj:(mg m f j).isSome:=by rw[aQ hj Vk];rfl
      have e3:(ρ (j:Int) != ρ i)=((j:Int) != (i:Int)):=by
       rw[Bool.eq_iff_iff,bne_iff_ne,bne_iff_ne];exact⟨fun a b=>a (by rw[b]),fun a b=>a (h.inj _ _ lj li b)⟩
      show _=(ρ (j:Int) != ρ i && Tr.kindOf g (ρ j) == 2)
      rw[e3,h.JD hj Vk,Int.toNat_natCast];simp
     ·rw[e,if_pos (.inr rfl)];rfl
     ·rw[e,if_neg (by simp)];simp
    ·rw[if_pos (.inl hp0)];rcases hk.2 p hp hp0 with e | e | e
     ·exact absurd e h2
     ·rw[e];rfl
     ·rw[e];rfl
theorem Tr.Im.split (h:Tr.Im ρ (mg m f) g) (w:Tr.WF 0 g) {i p:Nat} (hi:i<m) (hig:(f i).gone=false) (hp:(f i).pa=(p:Int)):
  p<m∧(f p).gone=false∧∃ l1 l2,(f p).kids=l1++(i:Int)::l2∧(i:Int)∉l1∧ρ i∉l1.map ρ∧ρ i∉l2.map ρ:=by
 have hw:=h.pull w;have key:p<m∧(f p).gone=false∧(i:Int)∈(f p).kids:=by
  rcases hw.pa (aQ hi hig) with h1 | ⟨n,h1,h2⟩
  ·exact absurd (show (f i).pa = -1 from h1) (by omega)
  ·rw[show (jD (f i)).pa=(p:Int) from hp] at h1;obtain⟨p',e1,e2,e3,e4⟩:=kK h1;obtain rfl:p=p':=by omega
   exact⟨e2,e3,by rw[e4] at h2;exact h2⟩
 obtain⟨h1,h2,h3⟩:=key;obtain⟨l1,l2,hL⟩:=List.append_of_mem h3;have hnd:((f p).kids.map ρ).Nodup:=w.nodup _ _ (h.node _ _ (aQ h1 h2));have Jz:(f p).kids.Nodup:=hw.nodup _ _ (aQ h1 h2);rw[hL] at hnd Jz;rw[List.map_append,List.map_cons] at hnd;refine⟨h1,h2,l1,l2,hL,fun hx=>(List.nodup_append.1 Jz).2.2 _ hx _ (by simp) rfl,fun hx=>(List.nodup_append.1 hnd).2.2 _ hx _ (by simp) rfl,?_⟩;exact (List.nodup_cons.1 (List.nodup_append.1 hnd).2.1).1
theorem Tr.Im.index (h:Tr.Im ρ (mg m f) g) (w:Tr.WF 0 g) {i:Nat} (hi:i<m) (hig:(f i).gone=false):Tr.kQ g (ρ i)=jO m f i:=by
 have hn:=h.node _ _ (aQ hi hig);unfold Tr.kQ jO;rw[hn];show (if ρ (f i).pa=0 then (-1:Int) else ((Tr.ak g (ρ (f i).pa)).idxOf (ρ i):Nat))=_;rcases h.pa _ _ (aQ hi hig) with h1 | h1
 ·rw[show (f i).pa = -1 from h1,h.zero];rfl
 ·obtain⟨p,e1,e2,e3,_⟩:=jE h1;have e1':(f i).pa=(p:Int):=e1;rw[e1',if_neg (h.nz _ (by rw[←e1];exact h1)),if_neg (by omega),Int.toNat_natCast,h.kid (aQ e2 e3)];show (((f p).kids.map ρ).idxOf (ρ i):Int)=_;have hx:∀ y∈(f p).kids,ρ y=ρ i→y=i:=fun y hy e=>h.inj _ _ (h.kids _ _ (aQ e2 e3) y hy) (by rw[aQ hi hig];rfl) e;rw[Tr.Ma hx]
theorem Tr.Im.place (h:Tr.Im ρ (mg m f) g) (w:Tr.WF 0 g) {i p:Nat} (kind:Int) (hi:i<m) (hig:(f i).gone=false) (hp:(f i).pa=(p:Int)):
  Tr.jL g kind (ρ i)=rG ρ (kH m f kind i p):=by
 obtain⟨h1,h2,l1,l2,hL,n1,n2,n3⟩:=h.split w hi hig hp;have hx:=h.index w hi hig;have e0:Tr.cO g (ρ i)=ρ p:=by rw[h.cO (aQ hi hig)];show ρ (f i).pa=_;rw[hp]
 have ix:(f p).kids.idxOf (i:Int)=l1.length:=by rw[hL,Tr.dW n1]
 have e1:jO m f i=(l1.length:Nat):=by unfold jO;rw[if_neg (by omega),hp,Int.toNat_natCast,ix]
 unfold Tr.jL kH rG;dsimp only;rw[e0,h.kid (aQ h1 h2),hx,e1,ix];show (⟨kind,ρ p,ρ i,Tr.prv ((f p).kids.map ρ) (ρ i),Tr.mZ ((f p).kids.map ρ) (ρ i),_,_,_,_,_,_⟩:Tr.Rec)=_;rw[hL,List.map_append,List.map_cons,Tr.jh n3,Tr.gU n2,Rn h.zero,Pt h.zero,sJ,vU]
end
end
section
open Go.RowKit
def iM (d:ByteArray):List (List UInt8):=bD.chunks d.data.toList
def jo (d:ByteArray) (i c:Nat) (s:ByteArray):ByteArray:=fA (((iM d).take i).flatten++(aX s).data.toList++((iM d).drop (i+c)).flatten)
def sK (h:Int) (i:Int) (old:ByteArray) (c sz:Int):Tr.Rec:=⟨4,h,0,0,0,i,⟨#[]⟩,old,false,c,sz⟩
def BX (kind:Int) (len:Nat) (i c:Int):Int:=if kind=0 then 6 else if kind≠3∧kind≠4 then 10 else if i<0∨(len:Int)<i∨c<0 then 2 else 0
theorem KM (av:Int→Tr.Sl) (h:Int):Tr.eT av h (av h)=av:=by
 funext x;unfold Tr.eT;by_cases e:x=h
 ·rw[if_pos e,e]
 ·rw[if_neg e]
theorem MP {g:Tr.G} {av:Int→Tr.Sl} {h:Int} {x:ByteArray} (n:Tr.GN) (e:g h=some n):Tr.bU (Tr.cB g h fun n=>{ n with data:=x }) (Tr.eT av h (av h)) h { n with data:=x }={ Tr.bU g av h n with data:=x }:=by
 unfold Tr.bU;dsimp only;rw[Tr.lF];have hk:∀ p,Tr.ak (Tr.cB g h fun n=>{ n with data:=x }) p=Tr.ak g p:=fun p=>by
  unfold Tr.ak Tr.cB;by_cases e:p=h
  ·subst e;rw[if_pos rfl];cases g p with | none=>rfl | some m=>rfl
  ·rw[if_neg e]
 rw[hk]
theorem TV.vD {base B n live gb o:Nat} {w:World} {b s root h:Int} {vs vf:Value} {g:Tr.G} {av:Int→Tr.Sl} {fr:List Nat} {nd:Tr.GN} (hM:TV base w B b s vs n (Tr.raw g av) vf fr live root) (hS:Sound b s n (Tr.raw g av) fr live) (ha:AT w g av) (hp:PtrTo b s vs n gb o h) (eg:g h=some nd) (x:ByteArray):
  TV base (w.setCell ⟨gb,o+3,none⟩ (.string x)) B b s vs n (Tr.raw (Tr.cB g h fun n=>{ n with data:=x }) av) vf fr live root∧Sound b s n (Tr.raw (Tr.cB g h fun n=>{ n with data:=x }) av) fr live∧
   AT (w.setCell ⟨gb,o+3,none⟩ (.string x)) (Tr.cB g h fun n=>{ n with data:=x }) av∧aB w (w.setCell ⟨gb,o+3,none⟩ (.string x)) (aD B vs vf) (aD B vs vf):=by
 have e:Tr.raw (Tr.cB g h fun n=>{ n with data:=x }) (Tr.eT av h (av h))=Tr.upd (Tr.raw g av) h fun d=>{ d with data:=x }:=Kn (fun _=>⟨rfl,rfl⟩) (fun n en=>MP n en);rw[KM] at e;obtain⟨k1,k2⟩:=hM.mG (j:=3) (v:=.string x) hp (Tr.aj eg) (fun d=>{ d with data:=x }) rfl (by omega) rfl;rw[e];refine⟨k1,hS.upd,?_,k2⟩;have hA:=AT.put (h:=h) (sl:=av h) (u:=fun n=>{ n with data:=x }) ha (fun m em=>ha h m em);rw[KM] at hA;exact hA.step hM k2
theorem qm (base B:Nat) (b s root h i c k:Int) (live n:Nat) (R:Int→Option Tr.Nd) (fr:List Nat) (vs vf:Value) (d:Tr.Nd) (v:ByteArray) (w:World) (hm:TV base w B b s vs n R vf fr live root) (hS:Sound b s n R fr live) (hh:lQ h) (hd:(R h).getD Tr.yD=d) (hz:d.data.size≤10000) (he:BX d.kind (iM d.data).length i c=k) (hk:k≠0):
  Calls Tryz.prog 22 #[.pointer (some ⟨B,0,none⟩),.int .i64 h,.int .i64 i,.int .i64 c,.string v] w fun e w'=>e=.returned (nU k)∧Below w.heap.size w w':=by
 have HA:=iD base B b s root h live n R fr vs vf w hm hS hh;rw[hd] at HA;have HL:=zh (fun W=>rW d.data W hz);obtain⟨len,hlen⟩:=eX ((bD.chunks d.data.data.toList).length)
 rw[show (iM d.data).length=len from hlen] at he;rw[hlen] at HL;clear hm hS hd hlen
 go_enter Tryz.func22,Tryz.ntmps22
 go_wp2_with fail;refine HA.mono ?_;rintro e w1 ⟨gb,o,rfl,hnp,hb1⟩;obtain⟨t0,_,_,t3,_⟩:=hnp.cells;have wz:=zh hnp;clear HA hnp;go_wp2_with fail;refine (HL.out w1).mono ?_;rintro e w2 ⟨rfl,hb2⟩;obtain⟨t0,_,_,t3,_⟩:=(wz.out.below hb2).cells;have eP:=hb1.trans (hb2.mono hb1.size);have HB:=zh eP;clear HL hb1 hb2 eP wz;unfold BX at he;by_cases h0:d.kind=0
 ·rw[if_pos h0] at he;have q0:(d.kind == 0)=true:=by simpa using h0
  subst he;clear h0;go_wp2_with fail;go_ret2;exact⟨rfl,HB.out⟩
 ·rw[if_neg h0] at he;have q0:(d.kind == 0)=false:=by simpa using h0
  by_cases h3:d.kind≠3∧d.kind≠4
  ·rw[if_pos h3] at he;subst he;have q3:(d.kind != 3)=true:=by simpa using h3.1
   have q4:(d.kind != 4)=true:=by simpa using h3.2
   clear h0 h3;go_wp2_with fail;go_ret2;exact⟨rfl,HB.out⟩
  ·rw[if_neg h3] at he;by_cases hi:i<0∨(len:Int)<i∨c<0
   ·rw[if_pos hi] at he;subst he;have HI:=zh hi;have q34:(d.kind != 3)=false∨(d.kind != 3)=true∧(d.kind != 4)=false:=by
     by_cases e3:d.kind=3
     ·exact .inl (by simp[e3])
     ·have e4:d.kind=4:=by
       rcases Decidable.em (d.kind=4) with h | h
       ·exact h
       ·exact absurd ⟨e3,h⟩ h3
      exact .inr (by simp[e4])
    clear h0 h3 hi;by_cases hi0:i<0
    ·rcases q34 with q3 | ⟨q3,q4⟩
     ·go_wp2_with fail;go_ret2;exact⟨rfl,HB.out⟩
     ·go_wp2_with fail;go_ret2;exact⟨rfl,HB.out⟩
    ·by_cases hil:(len:Int)<i
     ·rcases q34 with q3 | ⟨q3,q4⟩
      ·go_wp2_with fail;go_ret2;exact⟨rfl,HB.out⟩
      ·go_wp2_with fail;go_ret2;exact⟨rfl,HB.out⟩
     ·have hc0:c<0:=by rcases HI.out with h | h | h;exact absurd h hi0;exact absurd h hil;exact h
      rcases q34 with q3 | ⟨q3,q4⟩
      ·go_wp2_with fail;go_ret2;exact⟨rfl,HB.out⟩
      ·go_wp2_with fail;go_ret2;exact⟨rfl,HB.out⟩
   ·rw[if_neg hi] at he;exact absurd he.symm hk
theorem qA {s:ByteArray} (h:s.size≤20000):Nm.fits s=true:=by
 unfold Nm.fits;have:=bD.mP s.data.toList;have e1:s.data.toList.length=s.size:=rfl;exact decide_eq_true (by omega)
theorem xI (d:Tr.Nd) (l:List (ByteArray×ByteArray)) (w:World) (ha:AR w 0 d.av.v l) (hl:l.length≤64) (hv:∀ p∈l,p.2.size≤20000) (hs:d.data.size≤20000) (hT:Lit w):
  Calls Tryz.prog 64 #[G7 d] w fun e w'=>e=.returned (.bool true)∧Below w.heap.size w w':=by
 obtain⟨k,nm,⟨a,n,c⟩,dt,pa,fi,la,pr,ne⟩:=d;dsimp only at hs ⊢;replace ha:AR w 0 (.slice a n c) l:=ha;have hn:l.length=n:=by
  obtain⟨A',c',e⟩:=TR.form ha;injection e with _ e2 _;exact e2.symm
 obtain⟨w1,hw1⟩:=eX (w.alloc (.cells #[.int .i64 k,.string nm,.slice a n c,.string dt,.int .i64 pa,.int .i64 fi,.int .i64 la,.int .i64 pr,.int .i64 ne] 42))
 have hb1:Below w.heap.size w w1:=gP hw1;have hX1:Whole w1 w.heap.size #[.int .i64 k,.string nm,.slice a n c,.string dt,.int .i64 pa,.int .i64 fi,.int .i64 la,.int .i64 pr,.int .i64 ne] 42:=by rw[←hw1];exact Whole.new w _ _
 have e2:w1.cell? ⟨w.heap.size,2,none⟩=some (.slice a n c):=hX1.cell 2;have fu:=zh hX1;have HB1:=zh hb1;have HR1:=zh (TR.below ha hb1);have HT1:=zh (hT.below hb1);have HV:=zh hv;have HN:=zh hn;have abN:(n:Int)≤64:=by omega
 rw[hn] at hl;clear hT hX1 hb1 ha hv hn
 go_enter Tryz.func64,Tryz.ntmps64
 go_wp2_with fail
 go_loopw [4,8] (fun u4 u wr=>∃ j:Nat,u=.int .i64 (j:Int)∧j≤n∧Below w1.heap.size w1 wr) (fun _ u _=>n - (intOf u).toNat)
 case atStart=>exact⟨0,rfl,Nat.zero_le _,Below.refl _ _⟩
 case round=>
  obtain⟨j,rfl,hj,hb⟩:=hrel;have j0:(0:Int)≤(j:Int):=by omega
  by_cases hjn:j<n
  ·have j1:(j:Int)<(n:Int):=by omega
   obtain⟨p,hp⟩:∃ p,l[j]?=some p:=⟨l[j]'(by rw[HN.out];exact hjn),by simp⟩
   obtain⟨ga,oa,rfl,-,X6,ck1⟩:=AR.at (TR.below HR1.out hb) hp;obtain⟨pn,pv⟩:=p;dsimp only at X6 ck1;have hpv:pv.size≤20000:=HV.out _ (List.mem_of_getElem? hp);obtain⟨w3,hw3⟩:=eX (wr.alloc (.cells #[.string pn,.string pv] 95))
   have aR:Whole w3 wr.heap.size #[.string pn,.string pv] 95:=by rw[←hw3];exact Whole.new wr _ _
   have hb3:Below w1.heap.size w1 w3:=by rw[←hw3];exact hb.alloc hb.size _
   have q1:w3.cell? ⟨wr.heap.size,1,none⟩=some (.string pv):=aR.cell 1;have hF:=Aj pv w3 hpv (HT1.out.below hb3);rw[qA hpv] at hF;have HF:=zh hF;have HB3:=zh hb3;clear hp hF aR hb3 hb;go_wp2_with fail;(try rw[hw3]);(try go_wp2_with fail);refine HF.out.mono ?_;rintro e w4 ⟨rfl,hb4⟩;have uy:=zh (HB3.out.trans (hb4.mono HB3.out.size));clear hb4 HF;go_wp2_with fail
   go_roundw
   case rel=>exact⟨j+1,by go_num,by omega,uy.out⟩
   case measure=>simp[intOf];omega
  ·have sI:j=n:=by omega
   subst sI;have Vv:=fu.out.below hb fu.out.lt;have e2':wr.cell? ⟨w.heap.size,2,none⟩=some (.slice a j c):=Vv.cell 2;have e3':wr.cell? ⟨w.heap.size,3,none⟩=some (.string dt):=Vv.cell 3;have hF:=Aj dt wr hs (HT1.out.below hb);rw[qA hs] at hF;have HF:=zh hF;have HB:=zh (HB1.out.trans (hb.mono HB1.out.size));clear hF Vv hb;have j1:¬ (j:Int)<(j:Int):=by omega
   go_wp2_with fail;refine HF.out.mono ?_;rintro e w4 ⟨rfl,hb4⟩;have uy:=zh (HB.out.trans (hb4.mono HB.out.size));clear hb4 HF;go_wp2_with fail
   go_ret
   exact⟨rfl,uy.out⟩
end
section
open Go.MapKept Go.WideShapes
open Go.Maps (Keyed)
open Go.RowKit
open Go.WideMaps (keyOf_string_mk)
def SN (w:World) (b n:Nat) (l:List (List UInt8)):Prop:=∃ D:DataW Unit,w.ownsMap Tryz.prog 9 (plainElem Tryz.prog 4) b n D∧∀ s:List UInt8,D.atKey (.string s) (.lit (.bool false))=.lit (.bool (decide (s∈l)))
theorem GI:Keyed Tryz.prog 9:=Go.Maps.string_keyed Tryz.underlying9
theorem Pv {s:ByteArray} (hs:s.size≤20000):keyOf Tryz.prog 9 (.string s)=some (.string s.data.toList):=keyOf_string_mk Tryz.underlying9 (by unfold maxLen;omega)
theorem Pw (w:World):(zeroValue 4).run Tryz.prog w=.ok (.bool false) w:=by
 have h:(Tryz.t4).zero=some (.bool false):=by kernel_rfl
 simp[zeroValue,h]
theorem Da (x:Bool):plainElem (H:=Unit) Tryz.prog 4 (.bool x)=some (.lit (.bool x),[]):=by
 unfold plainElem;rw[Tryz.underlying4]
theorem BG {v:Value} {x:Bool} {ps:List MemPlace} (h:plainElem (H:=Unit) Tryz.prog 4 v=some (.lit (.bool x),ps)):v=.bool x:=by
 unfold plainElem at h;rw[Tryz.underlying4] at h;cases v<;>first | (simp only[Option.some.injEq,Prod.mk.injEq,DataW.lit.injEq,Lit.bool.injEq] at h;rw[h.1]) | (exact absurd h (by simp))
theorem SN.new (w:World):SN (w.alloc (.map #[] 0)) w.heap.size 0 []:=⟨_,World.ownsMap_made w _ _ _,fun s=>by rfl⟩
theorem SN.kept {w w':World} {b n:Nat} {l:List (List UInt8)} {row:Option Nat} (h:SN w b n l) (hg:w.grownBy w' row) (hn:some b≠row):SN w' b n l:=by
 obtain⟨D,h1,h2⟩:=h;exact⟨D,h1.kept hg hn,h2⟩
theorem SN.below {w w':World} {b n:Nat} {l:List (List UInt8)} (h:SN w b n l) (hb:Below w.heap.size w w'):SN w' b n l:=h.kept (au hb none) (by simp)
theorem SN.look {w:World} {b n:Nat} {l:List (List UInt8)} (h:SN w b n l) {s:ByteArray} (hs:s.size≤20000):(Instr.lookup 160 (.map (some b)) (.string s) false).run Tryz.prog w=.ok (.bool (decide (s.data.toList∈l))) w:=by
 obtain⟨D,h1,h2⟩:=h;obtain⟨v,ps,hrun,hv⟩:=h1.lookup GI Tryz.underlying160 (Pw w) (Da false) (Pv hs);rw[h2 s.data.toList] at hv;rw[hrun,BG hv]
theorem SN.add {w:World} {b n:Nat} {l:List (List UInt8)} (h:SN w b n l) {s:ByteArray} (hs:s.size≤20000) (hn:n≤1000):∃ w',(Instr.mapUpdate 160 (.map (some b)) (.string s) (.bool true)).run Tryz.prog w=.ok () w'∧SN w' b (n+1) (l++[s.data.toList])∧w.grownBy w' (some b):=by
 obtain⟨D,h1,h2⟩:=h;obtain⟨w',hrun,h3,hg⟩:=h1.update GI Tryz.underlying160 (by unfold maxLen;omega) (Pv hs) (Da true);refine⟨w',hrun,⟨_,h3,fun s'=>?_⟩,hg⟩;by_cases e:s'=s.data.toList
 ·rw[e,Go.Maps.atKey_put_same h1.isMap (by trivial)];simp
 ·have hne:Lit.string s'≠Lit.string s.data.toList:=fun h=>e (by injection h);rw[Go.Maps.atKey_put_other hne,h2 s'];simp[e]
end
section
open Go.RowKit
def yx (l:List (ByteArray×ByteArray)):List (List UInt8):=l.map fun p=>p.1.data.toList
def Nm.attrs (l:List (ByteArray×ByteArray)):Bool:=decide (yx l).Nodup && l.all fun p=>Nm.attr p.1
theorem vC {l:List (ByteArray×ByteArray)} {j:Nat} {p:ByteArray×ByteArray} (hp:l[j]?=some p):yx (l.take (j+1))=yx (l.take j)++[p.1.data.toList]:=by
 unfold yx;rw[List.take_add_one,hp];simp
theorem Nm.zF {l:List (ByteArray×ByteArray)} {j:Nat} {p:ByteArray×ByteArray} (hp:l[j]?=some p) (h:p.1.data.toList∈yx (l.take j)):Nm.attrs l=false:=by
 have:¬ (yx l).Nodup:=fun hn=>by
  have e:yx l=yx (l.take (j+1))++yx (l.drop (j+1)):=by unfold yx;rw[←List.map_append,List.take_append_drop]
  rw[e] at hn;have h2:=(List.nodup_append.1 hn).1;rw[vC hp] at h2;exact (List.nodup_append.1 h2).2.2 _ h _ (by simp) rfl
 unfold Nm.attrs;rw[decide_eq_false this];rfl
theorem Nm.Cu {l:List (ByteArray×ByteArray)} {j:Nat} {p:ByteArray×ByteArray} (hp:l[j]?=some p) (h:Nm.attr p.1=false):Nm.attrs l=false:=by
 unfold Nm.attrs;rw[Bool.and_eq_false_iff];right;rw[List.all_eq_false];exact⟨p,List.mem_of_getElem? hp,by simp[h]⟩
def Sj (l:List (ByteArray×ByteArray)) (j:Nat):Prop:=(yx (l.take j)).Nodup∧∀ p∈l.take j,Nm.attr p.1=true
theorem FN (l:List (ByteArray×ByteArray)):Sj l 0:=⟨by simp[yx],fun p hp=>by simp at hp⟩
theorem FP {l:List (ByteArray×ByteArray)} {j:Nat} {p:ByteArray×ByteArray} (h:Sj l j) (hp:l[j]?=some p) (h1:p.1.data.toList∉yx (l.take j)) (h2:Nm.attr p.1=true):Sj l (j+1):=by
 refine⟨?_,fun q hq=>?_⟩
 ·rw[vC hp,List.nodup_append];exact⟨h.1,by simp,fun a ha b hb=>by simp at hb;subst hb;rintro rfl;exact h1 ha⟩
 ·rw[List.take_add_one,hp] at hq;rcases List.mem_append.1 hq with hq | hq
  ·exact h.2 q hq
  ·simp at hq;subst hq;exact h2
theorem Kl {l:List (ByteArray×ByteArray)} {j:Nat} (h:Sj l j) (hj:l.length≤j):Nm.attrs l=true:=by
 unfold Sj at h;rw[List.take_of_length_le hj] at h;unfold Nm.attrs;rw[decide_eq_true h.1,Bool.true_and,List.all_eq_true];exact fun p hp=>h.2 p hp
theorem uz (d:Tr.Nd) (l:List (ByteArray×ByteArray)) (w:World) (hk:d.kind=2) (ha:AR w 0 d.av.v l) (hl:l.length≤64) (hv:∀ p∈l,p.1.size≤20000) (hs:d.name.size≤20000) (hT:Lit w):
  Calls Tryz.prog 63 #[G7 d] w fun e w'=>e=.returned (.bool (Nm.attrs l && Nm.elem d.name))∧Below w.heap.size w w':=by
 obtain⟨k,nm,⟨a,n,c⟩,dt,pa,fi,la,pr,ne⟩:=d;dsimp only at hs hk ⊢;subst hk;replace ha:AR w 0 (.slice a n c) l:=ha;have hn:l.length=n:=by
  obtain⟨A',c',e⟩:=TR.form ha;injection e with _ e2 _;exact e2.symm
 obtain⟨w1,hw1⟩:=eX (w.alloc (.cells #[.int .i64 2,.string nm,.slice a n c,.string dt,.int .i64 pa,.int .i64 fi,.int .i64 la,.int .i64 pr,.int .i64 ne] 42))
 have hb1:Below w.heap.size w w1:=gP hw1;have hX1:Whole w1 w.heap.size #[.int .i64 2,.string nm,.slice a n c,.string dt,.int .i64 pa,.int .i64 fi,.int .i64 la,.int .i64 pr,.int .i64 ne] 42:=by rw[←hw1];exact Whole.new w _ _
 have e0:w1.cell? ⟨w.heap.size,0,none⟩=some (.int .i64 2):=hX1.cell 0;have e2:w1.cell? ⟨w.heap.size,2,none⟩=some (.slice a n c):=hX1.cell 2;have hP:=wZ nm;have hmk:=fun (k:Int) W=>O8 Tryz.underlying160 k W;obtain⟨w2,hw2⟩:=eX (w1.alloc (.map #[] 0))
 have eF:Below w1.heap.size w1 w2:=gP hw2;have hSN:SN w2 w1.heap.size 0 []:=by rw[←hw2];exact SN.new w1
 have hX2:=hX1.below eF hX1.lt;have m2:w2.cell? ⟨w.heap.size,2,none⟩=some (.slice a n c):=hX2.cell 2;have fu:=zh hX1;have HB1:=zh hb1;have aa9:=zh eF;have HSN:=zh hSN;have HR1:=zh (TR.below ha hb1);have HT1:=zh (hT.below hb1);have HV:=zh hv;have HN:=zh hn;have hel:Nm.elem nm=(match nm.data.toList with | []=>false | c::_=>decide (97≤c.toNat) && decide (c.toNat≤122) && Nm.plain nm):=rfl;have hll:nm.data.toList.length=nm.size:=rfl;have HE:=zh hel;have abO:n≤64:=by omega
 clear hT hX1 hX2 hb1 eF ha hv hn hl hSN hel
 go_enter Tryz.func63,Tryz.ntmps63
 go_wp2_with fail;(try rw[hw2]);try go_wp2_with fail
 go_loopw [5,16] (fun u5 u wr=>∃ j:Nat,u=.int .i64 (j:Int)∧j≤n∧Below w1.heap.size w1 wr∧SN wr w1.heap.size j (yx (l.take j))∧Sj l j) (fun _ u _=>n - (intOf u).toNat)
 case atStart=>exact⟨0,rfl,Nat.zero_le _,aa9.out,by rw[List.take_zero];exact HSN.out,FN l⟩
 case round=>
  obtain⟨j,rfl,hj,hb,hsn,hok⟩:=hrel;have j0:(0:Int)≤(j:Int):=by omega
  by_cases hjn:j<n
  ·have j1:(j:Int)<(n:Int):=by omega
   obtain⟨p,hp⟩:∃ p,l[j]?=some p:=⟨l[j]'(by rw[HN.out];exact hjn),by simp⟩
   obtain⟨ga,oa,rfl,-,X6,ck1⟩:=AR.at (TR.below HR1.out hb) hp;obtain⟨pn,pv⟩:=p;dsimp only at X6 ck1;have hpn:pn.size≤20000:=HV.out _ (List.mem_of_getElem? hp);obtain⟨w3,hw3⟩:=eX (wr.alloc (.cells #[.string pn,.string pv] 95))
   have aR:Whole w3 wr.heap.size #[.string pn,.string pv] 95:=by rw[←hw3];exact Whole.new wr _ _
   have Ro:Below wr.heap.size wr w3:=gP hw3;have hb3:Below w1.heap.size w1 w3:=hb.trans (Ro.mono hb.size);have q0:w3.cell? ⟨wr.heap.size,0,none⟩=some (.string pn):=aR.cell 0;have Rp:=hsn.below Ro;have hlk:=Rp.look hpn;by_cases hin:pn.data.toList∈yx (l.take j)
   ·rw[decide_eq_true hin] at hlk;have p8:=zh (Nm.zF hp hin);have Yb:=zh (HB1.out.trans (hb3.mono HB1.out.size));clear hp aR Ro hb3 hsn Rp hok hin hb hmk hP hs hll;go_wp2_with fail;(try rw[hw3]);try go_wp2_with fail
    go_ret
    exact⟨fE (by simp[p8.out]),Yb.out⟩
   ·rw[decide_eq_false hin] at hlk;have HA:=zh (mU pn w3 hpn (HT1.out.below hb3));have HP:=zh hp;have Y7:=zh hin;have p8:=zh hok;have jm:=zh Rp;have HB3:=zh hb3;have eU:=zh aR;clear hp aR Ro hb3 hsn Rp hok hin hb hmk hP hs hll;go_wp2_with fail;(try rw[hw3]);(try go_wp2_with fail);refine HA.out.mono ?_;rintro e w4 ⟨rfl,hb4⟩;by_cases hat:Nm.attr pn=true
    ·rw[hat];have lY:=HB3.out.trans (hb4.mono HB3.out.size);have bg:=eU.out.below hb4 eU.out.lt;have q4:w4.cell? ⟨wr.heap.size,0,none⟩=some (.string pn):=bg.cell 0;have hs4:=jm.out.below hb4;obtain⟨w5,hrun,hs5,g5⟩:=hs4.add hpn (by omega);have hb5:=lY.grown g5 lY.size (fun k hk=>by simp at hk;omega);have HF:=zh (And.intro hb5 (And.intro (by rw[vC HP.out];exact hs5) (FP p8.out HP.out Y7.out hat)):Below w1.heap.size w1 w5∧SN w5 w1.heap.size (j+1) (yx (l.take (j+1)))∧Sj l (j+1));clear hlk HA lY bg hs4 hs5 g5 hb5 hb4;go_wp2_with fail
     go_roundw
     case rel=>exact⟨j+1,by go_num,by omega,HF.out.1,HF.out.2.1,HF.out.2.2⟩
     case measure=>simp[intOf];omega
    ·have Yc:Nm.attr pn=false:=by simpa using hat
     rw[Yc];have HBAD:=zh (Nm.Cu HP.out Yc);have Yb:=zh (HB1.out.trans ((HB3.out.trans (hb4.mono HB3.out.size)).mono HB1.out.size));clear hlk HA hb4;go_wp2_with fail
     go_ret
     exact⟨fE (by simp[HBAD.out]),Yb.out⟩
  ·have sI:j=n:=by omega
   subst sI;have Vv:=fu.out.below hb fu.out.lt;have m1:wr.cell? ⟨w.heap.size,1,none⟩=some (.string nm):=Vv.cell 1;have hTr:=HT1.out.below hb;have Vw:=HB1.out.trans (hb.mono HB1.out.size);have p8:=zh (Kl hok (by rw[HN.out];exact Nat.le_refl _));have j1:¬ (j:Int)<(j:Int):=by omega
   clear Vv hb hsn hok hmk;cases hnm:nm.data.toList with
   | nil=>
    have hne0:(nm.toList == [])=true:=by rw[Lib.toList_data,hnm];rfl
    have hne:(nm.toList != [])=false:=by rw[bne,hne0];rfl
    have hr:Nm.elem nm=false:=by rw[HE.out,hnm]
    have HR:=zh hr;clear hr hll hP hs;go_wp2_with fail
    go_ret
    exact⟨fE (by simp[HR.out,p8.out]),Vw⟩
   | cons c0 r=>
    have hne0:(nm.toList == [])=false:=by rw[Lib.toList_data,hnm];rfl
    have hne:(nm.toList != [])=true:=by rw[bne,hne0];rfl
    have hr:Nm.elem nm=(decide (97≤c0.toNat) && decide (c0.toNat≤122) && Nm.plain nm):=by rw[HE.out,hnm]
    have hpos:0<nm.size:=by rw[←hll,hnm];simp
    have hget:nm[0]=c0:=by
     have:nm.data.toList[0]'(by rw[hnm];simp)=c0:=by simp[hnm]
     exact this
    have hem:nm.toList.isEmpty=false:=by rw[Lib.toList_data,hnm];rfl
    clear hll;by_cases h1:97≤c0.toNat
    ·by_cases h2:c0.toNat≤122
     ·have hr':Nm.elem nm=Nm.plain nm:=by rw[hr,decide_eq_true h1,decide_eq_true h2];simp
      have HR:=zh hr';have HP:=zh (hP _ hs hTr);have SE:(97:Int)≤(c0.toNat:Int):=by omega
      have XW:(c0.toNat:Int)≤122:=by omega
      clear hr hr' hP hs hnm;go_wp2_with fail;refine HP.out.mono ?_;rintro e w4 ⟨rfl,hb4⟩;go_wp2_with fail
      go_ret
      exact⟨fE (by simp[HR.out,p8.out]),Vw.trans (hb4.mono Vw.size)⟩
     ·have hr':Nm.elem nm=false:=by rw[hr,decide_eq_false h2];simp
      have HR:=zh hr';have SE:(97:Int)≤(c0.toNat:Int):=by omega
      have XW:¬ (c0.toNat:Int)≤122:=by omega
      clear hr hr' hP hs hnm;go_wp2_with fail
      go_ret
      exact⟨fE (by simp[HR.out,p8.out]),Vw⟩
    ·have hr':Nm.elem nm=false:=by rw[hr,decide_eq_false h1];simp
     have HR:=zh hr';have SE:¬ (97:Int)≤(c0.toNat:Int):=by omega
     clear hr hr' hP hs hnm;go_wp2_with fail
     go_ret
     exact⟨fE (by simp[HR.out,p8.out]),Vw⟩
theorem wpList_append_run {P:Program} {w w1:World} {ops:Array Oper} {rest:List Oper} {o:Oper} {a:Act} {Q:Exit→Act→World→Prop} (hgd:o.guard=none) (s x:Operand) (t tn:TypeId)
  (ho:o.op=.call { callee:=.builtin .append,args:=#[s,x],argTypes:=#[t,tn] }) (v1 v2 vr:Value) (hs:a.eval s=v1) (hx:a.eval x=v2)
  (hr:(Builtin.append_ #[t,tn] o.type #[v1,v2]).run P w=.ok vr w1) (h:wpList P ops Q rest (a.put o.dst vr) w1):wpList P ops Q (o::rest) a w:=by
 refine wpList_plain hgd fun K hK=>?_;unfold Oper.wp execOp;simp only[ho,resolve,invoke,builtin,Sem.run_bind,Sem.run_pure,Result.andThen_ok,List.map_toArray,List.map_cons,List.map_nil,hs,hx,hr];exact hK _ _ h
theorem GJ (cs:Array Value) (k:Nat):(Builtin.zeroCells cs k).size=k*cs.size:=by
 unfold Builtin.zeroCells
 induction k with
 | zero=>simp
 | succ k ih=>simp_all [Nat.add_mul]
theorem MQ (k:Nat) (hk:k≤4000) (w:World):
  Calls Tryz.prog 135 #[.slice none 0 0,.int .i64 (k:Int)] w fun e w'=>∃ v,e=.returned v∧TR w' w.heap.size 95 2 v 0 []∧Below w.heap.size w w':=by
 obtain⟨i0,hi0,hz0,hz1,hz2⟩:=info_parts rZ;by_cases h0:k=0
 ·subst h0
  go_enter Tryz.func135,Tryz.ntmps135
  go_wp2_with fail
  go_ret
  exact⟨_,rfl,TR.nil _ _ _ _,Below.refl _ _⟩
 ·have h:=fun ty=>Lib.run_append_grow_zeros w 40 3 ty 95 i0 _ .i64 .i64 Tryz.underlying40 Tryz.underlying3 hi0 hz0 none 0 0 [] (by rw[hz1];rfl) k (by omega) (by omega) (by omega) (by omega) (by rw[hz2];omega) (by rw[hz2];exact growslice_fits (by omega) (by omega));obtain⟨G,hG⟩:=eX (grownCap w (0+k) 0 95)
  have hGn:0+k≤G:=by rw[←hG];exact grownCap_ge w _ _ _
  have hG63:G≤maxLen:=by rw[←hG];exact grownCap_le_maxLen w (0+k) 0 95 (by unfold maxLen;omega)
  rw[hG] at h;obtain⟨ROW,hROW⟩:∃ ROW:Array Value,(([]:List Value).toArray++Builtin.zeroCells (Value.agg #[.string ⟨#[]⟩,.string ⟨#[]⟩]).cells k++Builtin.zeroCells (Value.agg #[.string ⟨#[]⟩,.string ⟨#[]⟩]).cells (G - (0+k)))=ROW:=⟨_,rfl⟩
  rw[hROW] at h;have hRl:ROW.size=G*2:=by
   rw[←hROW,Array.size_append,Array.size_append,GJ,GJ,show (Value.agg #[.string ⟨#[]⟩,.string ⟨#[]⟩]).cells.size=2 from rfl];simp;omega
  rw[Nat.zero_add] at h hGn;obtain⟨w1,hw1⟩:=eX (w.drew.alloc (.cells ROW 95))
  rw[hw1] at h;have hb1:Below w.heap.size w w1:=by rw[←hw1];exact (aZ _ w).alloc (Nat.le_refl _) _
  have hg1:w1.heap[w.heap.size]?=some (.cells ROW 95 (0,0)):=by rw[←hw1];exact heap_alloc_new w.drew _
  have q1:(0:Int)<(k:Int):=by omega
  have q2:¬ (k:Int)<0:=by omega
  have HF:=zh (And.intro hGn (And.intro hG63 hRl));clear hGn hG63 hRl hROW hG hw1
  go_enter Tryz.func135,Tryz.ntmps135
  go_wp2_with (at_builtin;refine wpList_append_run rfl _ _ 40 3 rfl (.slice none 0 0) (.int .i64 (k:Int)) _ rfl rfl (h _) ?_)
  go_wp2_with fail
  go_ret
  refine⟨_,rfl,⟨rfl,.inr ⟨w.heap.size,0,G,ROW,rfl,Nat.le_refl _,hg1,Nat.zero_le _,HF.out.2.1,by rw[HF.out.2.2];omega,fun j hj=>by omega⟩⟩,hb1⟩
theorem Ia (S:Nat) (va vb:Value) (la lb:List (ByteArray×ByteArray)) (w:World) (h0:w.cell? ⟨S,0,none⟩=some va) (h1:w.cell? ⟨S,1,none⟩=some vb) (hlt:S<w.heap.size) (ha:AR w 0 va la) (hb:AR w 0 vb lb) (hla:la.length≤1000) (hlb:lb.length≤1000):
  Calls Tryz.prog 78 #[.slice (some ⟨S,0,none⟩) 2 2] w fun e w'=>∃ v,e=.returned v∧AR w' w.heap.size v (la++lb)∧Below w.heap.size w w':=by
 obtain⟨i0,hi0,hz0,hz1,hz2⟩:=info_parts rZ;obtain⟨Aa,ca,rfl⟩:=ha.form;obtain⟨Ab,cb,rfl⟩:=hb.form;obtain⟨a,hA⟩:=eX (la.length)
 obtain⟨b,hB⟩:=eX (lb.length)
 have HA:=zh ha;have HB:=zh hb;have HL:=zh (And.intro hA hB);rw[hA] at h0 hla;rw[hB] at h1 hlb;clear ha hb hA hB
 go_enter Tryz.func78,Tryz.ntmps78
 go_wp2_with fail
 go_loopw [11,3] (fun j z wr=>((j=.int .i64 0∧z=.int .i64 0)∨(j=.int .i64 1∧z=.int .i64 (a:Nat))∨(j=.int .i64 2∧z=.int .i64 ((a:Int)+(b:Int))))∧wr=w) (fun j _ _=>2 - (intOf j).toNat)
 case atStart=>exact⟨.inl ⟨rfl,rfl⟩,rfl⟩
 case round=>
  obtain⟨hj,rfl⟩:=hrel;rcases hj with ⟨rfl,rfl⟩ | ⟨rfl,rfl⟩ | ⟨rfl,rfl⟩
  ·have q:¬ (a:Int)<0:=by omega
   go_wp2_with fail
   go_roundw
   case rel=>exact⟨.inr (.inl ⟨rfl,by simp⟩),trivial⟩
   case measure=>simp[intOf]
  ·have q:¬ (a:Int)+(b:Int)<0:=by omega
   go_wp2_with fail
   go_roundw
   case rel=>exact⟨.inr (.inr ⟨rfl,rfl⟩),trivial⟩
   case measure=>simp[intOf]
  ·have HG:=zh (MQ (a+b) (by omega) wr);rw[show ((a+b:Nat):Int)=(a:Int)+(b:Int) by omega] at HG;go_wp2_with fail;refine HG.out.mono ?_;rintro e w1 ⟨v1,rfl,o1,hb1⟩;clear HG;obtain⟨wo,hwo⟩:∃ wo:World,wo=wr:=⟨_,rfl⟩
   subst hwo;go_wp2_with fail
   go_loopw [27,6] (fun j z wr=>((j=.int .i64 0∧TR wr wo.heap.size 95 2 z 0 [])∨(j=.int .i64 1∧TR wr wo.heap.size 95 2 z a (fF la))∨(j=.int .i64 2∧TR wr wo.heap.size 95 2 z (a+b) (fF la++fF lb)))∧Below wo.heap.size wo wr) (fun j _ _=>2 - (intOf j).toNat)
   case atStart=>exact⟨.inl ⟨rfl,o1⟩,hb1⟩
   case round=>
    obtain⟨hj,hbr⟩:=hrel;have k0:=hbr.cell (p:=⟨S,0,none⟩) hlt;have k1:=hbr.cell (p:=⟨S,1,none⟩) hlt;rw[h0] at k0;rw[h1] at k1;have hbs:=hbr.size;rcases hj with ⟨rfl,o⟩ | ⟨rfl,o⟩ | ⟨rfl,o⟩
    ·obtain⟨Az,cz,rfl⟩:=o.form;have hsa:=HA.out.below hbr;rw[HL.out.1] at hsa;have src:=hsa.source;have hsl:=hsa.1;clear hsa
     go_wp2_with (at_builtin;refine dK rfl _ _ 40 rfl wo.heap.size 95 i0 (.agg #[.string ⟨#[]⟩,.string ⟨#[]⟩]) 2 32 Tryz.underlying40 hi0 hz0 hz1 hz2 rfl (by decide) _ 0 [] rfl o _ a (fF la) rfl hsl src (gN _) ?c3 ?c4 hbs ?_)
     case c3=>unfold maxLen;omega
     case c4=>omega
     intro v5 w5 o5 g5 f5;have hb5:=hbr.grown g5 hbs (fun j hj=>(o.lt j hj).1);have Tf:TR w5 wo.heap.size 95 2 v5 a (fF la):=by simpa using o5
     clear o5 g5 f5 o;go_wp2_with fail
     go_roundw
     case rel=>exact⟨.inr (.inl ⟨rfl,Tf⟩),hb5⟩
     case measure=>simp[intOf]
    ·obtain⟨Az,cz,rfl⟩:=o.form;have hsa:=HB.out.below hbr;rw[HL.out.2] at hsa;have src:=hsa.source;have hsl:=hsa.1;clear hsa
     go_wp2_with (at_builtin;refine dK rfl _ _ 40 rfl wo.heap.size 95 i0 (.agg #[.string ⟨#[]⟩,.string ⟨#[]⟩]) 2 32 Tryz.underlying40 hi0 hz0 hz1 hz2 rfl (by decide) _ a (fF la) rfl o _ b (fF lb) rfl hsl src (gN _) ?c5 ?c6 hbs ?_)
     case c5=>unfold maxLen;omega
     case c6=>omega
     intro v5 w5 o5 g5 f5;have hb5:=hbr.grown g5 hbs (fun j hj=>(o.lt j hj).1);clear g5 f5 o;go_wp2_with fail
     go_roundw
     case rel=>exact⟨.inr (.inr ⟨rfl,o5⟩),hb5⟩
     case measure=>simp[intOf]
    ·have HO:=zh o;clear o;go_wp2_with fail
     go_ret
     refine⟨_,rfl,?_,hbr⟩;show TR _ _ _ _ _ (la++lb).length (fF (la++lb));rw[List.length_append,HL.out.1,HL.out.2,jR];exact HO.out
end
section
open Go.RowKit Go.Shelf
attribute [local go_sem] Oper.semAt_some
theorem FZ (base B:Nat) (b s root h:Int) (live n:Nat) (g:Tr.G) (av:Int→Tr.Sl) (fr:List Nat) (vs vf:Value) (m:Tr.GN) (w:World) (hm:TV base w B b s vs n (Tr.raw g av) vf fr live root) (hS:Sound b s n (Tr.raw g av) fr live) (hw:Tr.WF 0 g) (hh:lQ h) (em:g h=some m)
  (hk1:1≤m.kind) (hk2:m.kind≤4) (hkr:(m.kind == 1)=(h == root)) (hacc:m.pa≠0→Tr.dG g m.pa h=true):
  Calls Tryz.prog 62 #[.pointer (some ⟨B,0,none⟩),.int .i64 h] w fun e w'=>e=.returned (.bool true)∧Below w.heap.size w w':=by
 have ED:=(hw.dY h).2;have hlt:=hm.lt;refine (callsIn_wide (n:=8)).1 ?_;refine callsIn_of_wp_marks Tryz.func62 rfl trivial ?_ rfl;simp only[Tryz.ntmps62,pT,Nat.reduceAdd,Nat.reduceSub];obtain⟨w1,hw1⟩:=eX (w.alloc (.cells #[.bool false] 4))
 have hz1:w1.heap.size=w.heap.size+1:=by rw[←hw1];simp
 have hb1:Below w.heap.size w w1:=gP hw1;have hX1:Whole w1 w.heap.size #[.bool false] 4:=by rw[←hw1];exact Whole.new w _ _
 have hm1:=hm.below hb1
 gi_wp2_with fail
 (try rw[hw1]);refine⟨trivial,(callsIn_wide.2 (iD base B b s root h live n (Tr.raw g av) fr vs vf w1 hm1 hS hh)).mono ?_⟩;rintro e w2 ⟨g4,o4,rfl,hnp,hb2⟩;rw[Tr.aj em] at hnp;have hm2:=hm1.below hb2;obtain⟨k0,_,_,_,k4,_,_,_,_⟩:=hnp.cells;have k0':w2.cell? ⟨g4,o4,none⟩=some (.int .i64 m.kind):=k0;have ZG:w2.cell? ⟨g4,o4+4,none⟩=some (.int .i64 m.pa):=k4;obtain⟨_,_,_,_,_,r5⟩:=hm2.cells;have hX2:=hX1.below hb2 hX1.lt;have hB2:=hb1.trans (hb2.mono hb1.size);have d1:decide (m.kind<1)=false:=by simp;omega
 have d2:decide (4<m.kind)=false:=by simp;omega
 obtain⟨bk,hbk⟩:=eX ((m.kind == 1))
 have hbr:(h == root)=bk:=by rw[←hkr,hbk]
 have hbb:(bk != bk)=false:=by simp
 have c1:¬ m.kind<1:=by omega
 have c2:¬ 4<m.kind:=by omega
 have Px:g4<w2.heap.size:=World.block_lt_of_cell? w2 _ k0';clear hm hX1 hw1 hb2 hb1 hm1 hnp k0 k4
 gi_wp2_with fail
 gi_quiet (fail)
 obtain⟨w3,hw3⟩:=eX (w2.drewN nq)
 (try rw[hw3]);have hb3:Below w2.heap.size w2 w3:=Hy hw3;have aR:=hX2.below hb3 hX2.lt;have hB3:=hB2.trans (hb3.mono hB2.size);have AJ:=hm2.below hb3;have k3:w3.cell? ⟨g4,o4+4,none⟩=some (.int .i64 m.pa):=(hb3.cell (p:=⟨g4,o4+4,none⟩) Px).trans ZG;have hg3:g4<w3.heap.size:=Nat.lt_of_lt_of_le Px hb3.size;have Yy:=aR.lt;clear hX2 hB2 hm2 k0' ZG hw3 hb3 r5 Px
 gi_wp2_with fail
 obtain⟨w4,hw4⟩:=eX (w3.alloc (.cells #[.int .i64 0] 3))
 (try rw[hw4]);have YS:w4.heap.size=w3.heap.size+1:=by rw[←hw4];simp
 have hb4:Below w3.heap.size w3 w4:=gP hw4;have Tz:Whole w4 w3.heap.size #[.int .i64 0] 3:=by rw[←hw4];exact Whole.new w3 _ _
 have bg:=aR.below hb4 Yy;have hB4:=hB3.trans (hb4.mono hB3.size);have hL:=LS.made (h:=h) (AJ.below hb4);have hsz5:((w4.alloc (.cells #[.pointer (some ⟨B,0,none⟩)] 29)).alloc (.cells #[.int .i64 h] 3)).heap.size=w4.heap.size+2:=by simp
 have hb5:Below w4.heap.size w4 ((w4.alloc (.cells #[.pointer (some ⟨B,0,none⟩)] 29)).alloc (.cells #[.int .i64 h] 3)):=((Below.refl _ w4).alloc (Nat.le_refl _) _).alloc (by simp) _;have hseq:=Jv hS hw hh 7 (by omega) _ hL;have hlt3:∀ k,aD B vs vf k→k<w3.heap.size:=fun k hk=>(AJ.lt k hk).2;refine⟨trivial,(callsIn_wide.2 (Ep B h w4)).mono ?_⟩;rintro e w' ⟨rfl,hw'⟩;rw[←hw'] at hL hsz5 hb5 hseq;have RO:=Tz.below hb5 Tz.lt;have dR:=bg.below hb5 bg.lt;have Uq:=hB4.trans (hb5.mono hB4.size);have UQ:=hb4.trans (hb5.mono hb4.size);have HK4:=zh (And.intro hS k3);clear AJ bg aR Tz hB4 hB3 hw4 hw' hb4 hb5 hS k3
 gi_wp2_with fail
 rw[YS] at hseq hL hsz5;have hm1:¬ aD B vs vf w3.heap.size:=fun hk=>by have:=hlt3 _ hk;omega
 have hxw:w.heap.size≠w3.heap.size:=by omega
 refine wpIn_rangeFunc_ownF (w:=w') rfl (by decide) (gf:=143) (lb:=#[.pointer (some ⟨w3.heap.size+1+1,0,none⟩),.pointer (some ⟨w3.heap.size+1,0,none⟩)]) rfl trivial (enters_of Tryz.func143 (by kernel_rfl) rfl) hseq LS.oZ (LS.pq _) (Below.refl _ _) (fun _=>rfl)
  (fun pre W=>Whole W w.heap.size #[.bool false] 4∧Whole W w3.heap.size #[.int .i64 (pre.length:Nat)] 3∧LS base B (w3.heap.size+1) (w3.heap.size+1+1) b s h vs n (Tr.raw g av) vf fr live root W∧Below w.heap.size w W∧Below w3.heap.size w3 W) (fun _ _ _=>False)
  ?hI ?hIx ⟨dR,RO,hL,Uq,UQ⟩ (fun x=>{ tmps:=#[.pointer (some ⟨B,0,none⟩),.int .i64 h,undef,undef,.pointer (some ⟨w.heap.size,0,none⟩),.pointer (some ⟨g4,o4,none⟩),.pointer (some ⟨w3.heap.size,0,none⟩),.pointer (some ⟨B,0,none⟩),.int .i64 h,.pointer (some ⟨g4,o4,none⟩),.pointer (some ⟨g4,o4,none⟩),.pointer (some ⟨g4,o4,none⟩),.pointer (some ⟨g4,o4,none⟩),.int .i64 m.kind,.bool false,.bool false,.pointer (some ⟨g4,o4,none⟩),.pointer (some ⟨g4,o4,none⟩),.pointer (some ⟨g4,o4,none⟩),.int .i64 m.kind,.bool false,.bool false,.bool false,.pointer (some ⟨g4,o4,none⟩),.pointer (some ⟨g4,o4,none⟩),.pointer (some ⟨g4,o4,none⟩),.int .i64 m.kind,.bool bk,.int .i64 h,.pointer (some ⟨B,0,none⟩),.pointer (some ⟨B,0,none⟩),.pointer (some ⟨B,5,none⟩),.int .i64 root,.bool bk,.bool false,.bool false,.pointer (some ⟨B,0,none⟩),.int .i64 h,.func (.func 143) #[] #[.pointer (some ⟨w3.heap.size+1+1,0,none⟩),.pointer (some ⟨w3.heap.size+1,0,none⟩)],.int .i64 x.1,undef,undef,undef,undef,undef,undef,undef,undef,undef,undef,undef,undef,undef,undef,undef,undef,undef,undef],defers:=[] }) ?assign ?body ?done ?stop
 case hI=>
  rintro pre W W' row ⟨h0,h1,h2,h3,h4⟩ hg hr;exact⟨aF h0 hg (fun r e=>(hr r e).2),aF h1 hg (fun r e=>(hr r e).2),h2.others hg (fun r e=>(hr r e).2),h3.grown hg h3.size (fun r e=>by have:=(hr r e).1;have:=UQ.size;have:=Uq.size;omega),h4.grown hg h4.size (fun r e=>by have:=(hr r e).1;have:=UQ.size;omega)⟩
 case hIx=>intro c pre W W' row h _ _;exact h
 case assign=>
  intro l x W K hK
  gi_wp2
  first | exact hK | simpa using hK
 case body=>
  rintro l pre x W ⟨hX,hC,gM,hBW,Vx⟩ hlen;have c0:W.cell? ⟨w3.heap.size,0,none⟩=some (.int .i64 (pre.length:Nat)):=hC.cell 0;have f0:=hC.free 0;have hpl:pre.length+1≤128:=by omega
  have hp2:¬ (128:Int)<(pre.length:Int)+1:=by omega
  have qN:=hX.other (a:=⟨w3.heap.size,0,none⟩) (by show w.heap.size≠w3.heap.size;omega) (.int .i64 ((pre.length:Int)+1));have hC':=hC.put 0 (.int .i64 ((pre.length:Int)+1));have hL':=gM.set hm1 (by omega) (by omega) 0 (.int .i64 ((pre.length:Int)+1));have HF:=zh (And.intro qN (And.intro hC' (And.intro hL' (And.intro (hBW.setCell (p:=⟨w3.heap.size,0,none⟩) (by show _≤w3.heap.size;omega) (.int .i64 ((pre.length:Int)+1))) (Vx.setCell (p:=⟨w3.heap.size,0,none⟩) (Nat.le_refl _) (.int .i64 ((pre.length:Int)+1)))))));clear hX hC gM hBW Vx qN hC' hL'
  gi_wp2_with fail
  refine⟨KeepsOthers.setCell _ _ _,fun _=>HF.out.2.2.1,?_⟩;show _∧_;rw[List.length_append];exact HF.out
 case done=>
  rintro D xs W hD rfl ⟨hX,hC,gM,hBW,Vx⟩ hK;obtain⟨hS,k3⟩:=HK4.out;have k4:W.cell? ⟨g4,o4+4,none⟩=some (.int .i64 m.pa):=(Vx.cell (p:=⟨g4,o4+4,none⟩) hg3).trans k3;have c0:W.cell? ⟨w.heap.size,0,none⟩=some (.bool false):=hX.cell 0;have f0:=hX.free 0;have hT:=gM.tree;by_cases hpa:m.pa=0
  ·have hq:(m.pa == 0)=true:=by simpa using hpa
   have qN:=hX.put 0 (.bool true);have hKs:=(KeepsOthers.setCell W ⟨w.heap.size,0,none⟩ (.bool true)).same D _ hK rfl;have uO:=hBW.setCell (p:=⟨w.heap.size,0,none⟩) (Nat.le_refl _) (.bool true);obtain⟨V,hV⟩:=eX (W.setCell ⟨w.heap.size,0,none⟩ (.bool true))
   rw[hV] at qN hKs uO;have c9:V.cell? ⟨w.heap.size,0,none⟩=some (.bool true):=qN.cell 0;have hca:=cell_kept c9 (grownBy_putObj' V D (.deferred none)) (fun r e=>by cases e;exact⟨_,hKs,rfl⟩);have HB:=zh (uO.trans (belowK_b (w:=w) (Nat.le_refl _) V D _ (.deferred none) (by have:=Uq.size;omega) hKs rfl rfl));clear hX hC gM hBW Vx qN uO hT k3 hacc
   gi_wp2_with fail
   refine And.intro (by first | exact trivial | (intros;exact trivial)) ?_
   gi_wp2_with fail
   refine⟨by simp,.inl ⟨_,_,rfl,run_takeDeferred hKs,?_⟩⟩;refine⟨.bool true,?_,rfl,HB.out⟩;simp[results,Tryz.f62,go_sem,hca]
  ·have hq:(m.pa == 0)=false:=by simpa using hpa
   obtain⟨pm,epm,_⟩:=hw.up h m em hpa;have HA:=zh (nZ base B b s root m.pa h live n g av fr vs vf pm m W hT hS hw epm em);rw[hacc hpa] at HA;have HST:=zh (And.intro hX (And.intro hBW hK));clear hX hC gM hBW Vx hT k3 hacc c0 f0 hS
   gi_wp2_with fail
   refine⟨trivial,(callsIn_wide.2 HA.out).mono ?_⟩;rintro e w6 ⟨rfl,hb6⟩;obtain⟨hX,hBW,hK⟩:=HST.out;have fQ:=hX.below hb6 hX.lt;have c6:w6.cell? ⟨w.heap.size,0,none⟩=some (.bool false):=fQ.cell 0;have f6:=fQ.free 0;have qN:=fQ.put 0 (.bool true);have hKs:=((jF hb6).trans (KeepsOthers.setCell w6 ⟨w.heap.size,0,none⟩ (.bool true))).same D _ hK rfl;have uO:=(hBW.trans (hb6.mono hBW.size)).setCell (p:=⟨w.heap.size,0,none⟩) (Nat.le_refl _) (.bool true);obtain⟨V,hV⟩:=eX (w6.setCell ⟨w.heap.size,0,none⟩ (.bool true))
   rw[hV] at qN hKs uO;have c9:V.cell? ⟨w.heap.size,0,none⟩=some (.bool true):=qN.cell 0;have hca:=cell_kept c9 (grownBy_putObj' V D (.deferred none)) (fun r e=>by cases e;exact⟨_,hKs,rfl⟩);have HB:=zh (uO.trans (belowK_b (w:=w) (Nat.le_refl _) V D _ (.deferred none) (by have:=Uq.size;omega) hKs rfl rfl));clear hX hBW fQ qN uO hb6
   gi_wp2_with fail
   refine⟨by simp,.inl ⟨_,_,rfl,run_takeDeferred hKs,?_⟩⟩;refine⟨.bool true,?_,rfl,HB.out⟩;simp[results,Tryz.f62,go_sem,hca]
 case stop=>
  rintro D c pre W _ _ h _;exact h.elim
end
section
open Go.RowKit
def fZ (p:ByteArray×ByteArray):ByteArray×ByteArray:=(p.1,aX p.2)
def BH (l:List (ByteArray×ByteArray)) (j:Nat):List (ByteArray×ByteArray):=(l.take j).map fZ++l.drop j
theorem MR (l:List (ByteArray×ByteArray)):BH l 0=l:=by unfold BH;simp
theorem Py {l:List (ByteArray×ByteArray)} {j:Nat} (h:l.length≤j):BH l j=l.map fZ:=by unfold BH;rw[List.take_of_length_le h,List.drop_eq_nil_of_le h,List.append_nil]
theorem Al {l:List (ByteArray×ByteArray)} {j:Nat} {p:ByteArray×ByteArray} (h:l[j]?=some p):(BH l j)[j]?=some p:=by
 unfold BH;have hl:=(List.getElem?_eq_some_iff.1 h).1;rw[List.getElem?_append_right (by simp;omega)];simp only[List.length_map,List.length_take];rw[show j - min j l.length=0 from by omega,List.getElem?_drop,Nat.add_zero];exact h
theorem Pz {l:List (ByteArray×ByteArray)} {j:Nat} {p:ByteArray×ByteArray} (h:l[j]?=some p):(BH l j).set j (fZ p)=BH l (j+1):=by
 have hl:=(List.getElem?_eq_some_iff.1 h).1;unfold BH;have e1:((l.take j).map fZ).length=j:=by simp;omega
 have e2:l.drop j=p::l.drop (j+1):=by rw[List.drop_eq_getElem_cons hl];rw[(List.getElem?_eq_some_iff.1 h).2]
 rw[e2,List.take_add_one,h];apply List.ext_getElem?;intro i;rw[List.getElem?_set];by_cases hi:i<j
 ·rw[if_neg (by omega),List.getElem?_append_left (by rw[e1];exact hi),List.map_append,List.append_assoc,List.getElem?_append_left (by rw[e1];exact hi)]
 ·rw[List.map_append,List.append_assoc,List.getElem?_append_right (by omega),List.getElem?_append_right (by rw[e1];omega),e1];by_cases hi2:j=i
  ·subst hi2;rw[if_pos rfl];simp[hl];omega
  ·rw[if_neg hi2];obtain⟨k,rfl⟩:∃ k,i=j+(k+1):=⟨i - j - 1,by omega⟩
   rw[show j+(k+1) - j=k+1 from by omega];rfl
theorem uZ (v:Value) (l:List (ByteArray×ByteArray)) (w:World) (h:AR w 0 v l) (hl:l.length≤1000) (hv:∀ p∈l,p.2.size≤20000) (hT:Lit w):
  Calls Tryz.prog 109 #[v] w fun e w'=>∃ v',e=.returned v'∧AR w' w.heap.size v' (l.map fZ)∧Below w.heap.size w w':=by
 have hC:=qF v l w h hl;obtain⟨A0,c0,rfl⟩:=h.form;have HV:=zh hv;clear h hv
 go_enter Tryz.func109,Tryz.ntmps109
 go_wp2_with fail;refine hC.mono ?_;rintro e w1 ⟨v1,rfl,o1,hb1⟩;obtain⟨A1,c1,rfl⟩:=o1.form;have Oj:=zh o1;have HB1:=zh hb1;obtain⟨n,hn⟩:=eX (l.length)
 have HN:=zh hn;rw[hn] at hl ⊢;clear hC o1 hb1 hn;go_wp2_with fail
 go_loopw [4,9] (fun u4 u wr=>∃ j:Nat,u=.int .i64 (j:Int)∧j≤n∧TR wr w.heap.size 95 2 (.slice A1 n c1) n (fF (BH l j))∧Below w.heap.size w wr) (fun _ u _=>n - (intOf u).toNat)
 case atStart=>exact⟨0,rfl,Nat.zero_le _,by rw[MR,←HN.out];exact Oj.out,HB1.out⟩
 case round=>
  obtain⟨j,rfl,hj,o,hb⟩:=hrel;have j0:(0:Int)≤(j:Int):=by omega
  by_cases hjn:j<n
  ·have j1:(j:Int)<(n:Int):=by omega
   obtain⟨p,hp⟩:∃ p,l[j]?=some p:=⟨l[j]'(by rw[HN.out];exact hjn),by simp⟩
   obtain⟨ga,oa,rfl,hga,hnc,hcs,hfz⟩:=o.cells (by omega);have ck:=hcs (j*2+1) (.string p.2) (by omega) (je _ j p (Al hp)).2;rw[←Nat.add_assoc] at ck;have hps:=HV.out p (List.mem_of_getElem? hp);have HR:=zh (ig p.2 wr hps (hT.below hb));have HP:=zh hp;have HO:=zh o;have HB:=zh hb;clear hp o hb hcs;go_wp2_with fail;refine HR.out.mono ?_;rintro e w5 ⟨rfl,hb5⟩;have o5:=HO.out.below hb5;have f5:=o5.frozen (oa+j*2+1);have ck5:w5.cell? ⟨ga,oa+j*2+1,none⟩=some (.string p.2):=by
    have:=o5.cellAt (j*2+1) (.string p.2) (by omega) (je _ j p (Al HP.out)).2;rw[Nat.add_assoc];exact this
   obtain⟨o6,g6⟩:=o5.stored (j*2+1) (.string (aX p.2));rw[yI _ j p (Al HP.out) (aX p.2),show (p.1,aX p.2)=fZ p from rfl,Pz HP.out,←Nat.add_assoc] at o6;rw[←Nat.add_assoc] at g6;have hb6:=(HB.out.trans (hb5.mono HB.out.size)).grown g6 (by have:=HB.out.size;have:=hb5.size;omega) (fun k hk=>by simp at hk;omega);have HF:=zh (And.intro o6 hb6);obtain⟨rv,mQ⟩:=eX (fA (bD.rep p.2.data.toList))
   have Yd:aX p.2=rv:=mQ;rw[Yd] at HF;rw[mQ];clear HR o5 o6 g6 hb6 mQ Yd;go_wp2_with fail
   go_roundw
   case rel=>exact⟨j+1,by go_num,by omega,HF.out.1,HF.out.2⟩
   case measure=>simp[intOf];omega
  ·have sI:j=n:=by omega
   subst sI;rw[Py (by rw[HN.out];exact Nat.le_refl _)] at o;have HF:=zh (And.intro o hb);clear o hb;have j1:¬ (j:Int)<(j:Int):=by omega
   go_wp2_with fail
   go_ret
   have hlen:(l.map fZ).length=j:=by rw[List.length_map];exact HN.out
   have hfin:AR wr w.heap.size (.slice A1 j c1) (l.map fZ):=by unfold AR;rw[hlen];exact HF.out.1
   exact⟨_,rfl,hfin,HF.out.2⟩
end
end Go.Proofs.YtnbaadpgbcklaaaGreatDoor
