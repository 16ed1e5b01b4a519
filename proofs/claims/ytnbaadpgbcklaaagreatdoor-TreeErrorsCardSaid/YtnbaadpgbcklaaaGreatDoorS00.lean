/- Part of a proof about trees: APln, Age, Mem, AApp, NBas, NCod, NCel, NGrf, NLnk, NMem, NArn, NAdd, NWlk, NWfc, NAdg, NIm, Txt, Spc, TRef, TCIss, TLit, TDcd, TCod, TCPts, TSize, TRep, TRSp, NCpy, NCps, NOff, TPts, NJoi. -/
import Derived.Below
import Derived.BigQuiet
import Derived.Deep.DrawnRows
import Derived.Deep.Draws
import Derived.Deep.QuietTactic
import Derived.Deep.RegionHeld3
import Derived.Deep.RegionWith
import Derived.Laws.AppendOwnNone
import Derived.Laws.BytesArg
import Derived.Laws.IdiomStrings
import Derived.Laws.OwnMore
import Derived.Lib.AppendStr
import Derived.Lib.DecodeN
import Derived.Lib.Hide
import Derived.Lib.MinMax
import Derived.Lib.OthersKept
import Derived.Lib.RuneBytes
import Derived.Lib.RuneCount
import Derived.Lib.ValidLaws
import Derived.LoopIn
import Derived.LoopNIn
import Derived.OneCell
import Derived.OrdersIn
import Derived.OwnWalk
import Derived.OwnWalkIn
import Derived.RangeFuncBound
import Derived.RangeFuncCalls
import Derived.RangeFuncLeaves
import Derived.RangeFuncNested
import Derived.RangeFuncOwn
import Derived.Shelf.Abstract
import Derived.Shelf.RegionOpen
import Derived.Shelf.Unicode.DecodeSlow
import Derived.TacticsInMore
import Derived.Test.YtnbaadpgbcklaaaGreatDoorProg
import Derived.WalkKit
set_option linter.unusedVariables false
set_option linter.unusedSimpArgs false
set_option linter.unusedSectionVars false
set_option maxHeartbeats 2000000
set_option maxRecDepth 100000
namespace Go.Proofs.YtnbaadpgbcklaaaGreatDoor
section
namespace Ar
open Go Go.RowKit
def fU (n:Int):Int:=min (max n 1) 1000
theorem mW (n:Int):1≤fU n∧fU n≤1000:=by unfold fU;omega
def hdl (b s i:Int):Int:=if i<0∨2147483647<i then 0 else fU b+fU s*i
def idx (b s h:Int):Int:=if h<fU b∨(h - fU b) % fU s≠0∨2147483647<(h - fU b) / fU s then -1 else (h - fU b) / fU s
theorem Dw (s:Int) (i:Int) (h0:0≤i) (h1:i≤2147483647):0≤fU s*i∧fU s*i≤2147483647000:=by
 have:=mW s;constructor
 ·exact Int.mul_nonneg (by omega) h0
 ·calc fU s*i≤1000*i:=Int.mul_le_mul_of_nonneg_right (by omega) h0
   _≤_:=by omega
theorem nR (b s i:Int) (h0:0≤i) (h1:i≤2147483647):idx b s (hdl b s i)=i:=by
 have hs:=mW s;have hm:=Dw s i h0 h1;unfold hdl;rw[if_neg (by omega)];unfold idx;have e:fU b+fU s*i - fU b=fU s*i:=by omega
 rw[e,Int.mul_emod_right,Int.mul_ediv_cancel_left _ (by omega:fU s≠0),if_neg (by omega)]
theorem zC (b s h:Int) (hi:idx b s h ≠ -1):0≤idx b s h∧idx b s h≤2147483647∧hdl b s (idx b s h)=h:=by
 have hs:=mW s;unfold idx at hi ⊢
 split at hi
 ·exact absurd rfl hi
 ·rename_i hc;rw[if_neg hc];have h1:¬ h<fU b:=fun x=>hc (.inl x);have h2:(h - fU b) % fU s=0:=Classical.byContradiction fun x=>hc (.inr (.inl x));have h3:¬ 2147483647<(h - fU b) / fU s:=fun x=>hc (.inr (.inr x));have h4:0≤(h - fU b) / fU s:=Int.ediv_nonneg (by omega) (by omega);refine⟨h4,by omega,?_⟩;unfold hdl;rw[if_neg (by omega)];have:=Int.emod_add_mul_ediv (h - fU b) (fU s);omega
theorem KX (b s i:Int):0≤hdl b s i∧hdl b s i≤2147483648000:=by
 unfold hdl
 split
 ·omega
 ·have:=Dw s i (by omega) (by omega);have:=mW b;omega
theorem Cb (b s h:Int) : -1≤idx b s h∧idx b s h≤2147483647:=by
 by_cases hi:idx b s h = -1
 ·omega
 ·have:=zC b s h hi;omega
theorem KZ (b s h:Int) (h0:fU b≤h) (h1:h≤9223372036854775807):wrap64 (h - fU b)=h - fU b∧(h - fU b).tmod (fU s)=(h - fU b) % fU s∧wrap64 ((h - fU b).tdiv (fU s))=(h - fU b) / fU s:=by
 have hb:=mW b;have hs:=mW s;refine⟨by unfold wrap64;omega,Int.tmod_eq_emod_of_nonneg (by omega),?_⟩;rw[Int.tdiv_eq_ediv_of_nonneg (by omega)];have h2:0≤(h - fU b) / fU s:=Int.ediv_nonneg (by omega) (by omega);have h3:(h - fU b) / fU s≤h - fU b:=Int.ediv_le_self _ (by omega);unfold wrap64;omega
theorem Ny (b s h:Int) (h1:h≤9223372036854775807):
  (h<fU b∧idx b s h = -1)∨
  (¬ h<fU b∧wrap64 (h - fU b)=h - fU b∧¬ (h - fU b).tmod (fU s)=0∧¬ (h - fU b) % fU s=0∧idx b s h = -1)∨
  (¬ h<fU b∧wrap64 (h - fU b)=h - fU b∧(h - fU b).tmod (fU s)=0∧(h - fU b) % fU s=0∧∃ q,wrap64 ((h - fU b).tdiv (fU s))=q∧2147483647<q∧idx b s h = -1)∨
  (¬ h<fU b∧wrap64 (h - fU b)=h - fU b∧(h - fU b).tmod (fU s)=0∧(h - fU b) % fU s=0∧∃ q,wrap64 ((h - fU b).tdiv (fU s))=q∧¬ 2147483647<q∧idx b s h=q):=by
 by_cases hlt:h<fU b
 ·exact .inl ⟨hlt,by unfold idx;rw[if_pos (.inl hlt)]⟩
 ·obtain⟨e1,e2,e3⟩:=KZ b s h (by omega) h1;by_cases hr:(h - fU b) % fU s=0
  ·by_cases hq:2147483647<(h - fU b) / fU s
   ·exact .inr (.inr (.inl ⟨hlt,e1,by rw[e2,hr],hr,_,e3,hq,by unfold idx;rw[if_pos (.inr (.inr hq))]⟩))
   ·exact .inr (.inr (.inr ⟨hlt,e1,by rw[e2,hr],hr,_,e3,hq,by unfold idx;rw[if_neg (fun y=>y.elim hlt (fun z=>z.elim (fun u=>u hr) hq))]⟩))
  ·exact .inr (.inl ⟨hlt,e1,by rw[e2];exact hr,hr,by unfold idx;rw[if_pos (.inr (.inl hr))]⟩)
end Ar
end
section
open Go Go.RowKit
section
variable {P:Program} {ops:Array Oper} {Q:Exit→Act→World→Prop} {md:Region.Mode} {S:World→Prop}
/-- What is to be shown, and which operations are taken next. -/
def AG (is:List Nat) (G:Prop):Prop:=G
theorem bD (is:List Nat) {G:Prop} (h:AG is G):G:=h
theorem bE {G:Prop} (h:G):AG [] G:=h
theorem iZ {is:List Nat} {i:Nat} {oi:Oper} {v:Value} {fuel:Nat} {listed:Array Bool} {a:Act} {w:World}
    (h:AG is (wpAnyH P md ops Q S fuel (listed.setIfInBounds i true) (a.put oi.dst v) w)) (hi:ops[i]?=some oi:=by rfl)
    (hc:(Region.noSelect ops && Region.free md ops listed i && (Region.ready md ops listed).contains i)=true:=by kernel_rfl)
    (hQ:∀ c a w,Q (.panic c) (a.put oi.dst v) w→Q (.panic c) a w:=by exact fun _ _ _ h=>h)
    (hy:YieldsIf P ops S oi v a:=by (refine .inl ⟨rfl,?_⟩;intro w' hSw;(try dsimp only at hSw);(repeat (obtain⟨_,hSw⟩:_∧_:=hSw));go_simp<;>with_reducible rfl)) (hS:S w:=by assumption):
    AG (i::is) (wpAnyH P md ops Q S (fuel+1) listed a w):=by
  rw[Bool.and_eq_true,Bool.and_eq_true] at hc
  exact wpAnyH_take hi hc.1.1 hc.1.2 hc.2 hQ hy hS h
theorem bL (i:Nat) {o:Oper} {fuel:Nat} {listed:Array Bool} {a:Act} {w:World}
    (h:∀ K':Act→World→Prop,Shut (∀ a w,S w→(S w→wpAnyH P md ops Q S fuel (listed.setIfInBounds i true) a w)→K' a w)→if Region.wanted o (yielded ops a.tmps)=true then Oper.wp P o a w K' Q else K' (a.put o.dst undef) w)
    (hr:Region.ready md ops listed=[i]:=by kernel_rfl) (ho:ops[i]?=some o:=by rfl):
    wpAnyH P md ops Q S (fuel+1) listed a w:=wpAnyH_ready (rs:=[i]) hr (by simp) (AllReadyH.cons ho h AllReadyH.nil)
theorem fB {fuel:Nat} {listed:Array Bool} {a:Act} {w:World} (h:Q .normal a w) (hr:Region.ready md ops listed=[]:=by kernel_rfl):wpAnyH P md ops (NoPanic Q) S fuel listed a w:=wpAnyH_done hr (NoPanic.normal h) _
theorem Jq (i:Nat) {F:Fence} {n:Nat} {o:Oper} {fuel:Nat} {listed:Array Bool} {a:Act} {w:World}
    (h:∀ K':Act→World→Prop,(∀ a w,wpAnyIn F n P md ops Q fuel (listed.setIfInBounds i true) a w→K' a w)→if Region.wanted o (yielded ops a.tmps)=true then Oper.wpIn F n P o a w K' Q else (∀ f,o.about P w a.eval=some f→F.fn f)∧K' (a.put o.dst undef) w)
    (hr:Region.ready md ops listed=[i]:=by kernel_rfl) (ho:ops[i]?=some o:=by rfl):wpAnyIn F n P md ops Q (fuel+1) listed a w:=wpAnyIn_ready (rs:=[i]) hr (by simp) (AllReadyIn.cons ho h AllReadyIn.nil)
end
theorem pS:(∀ (a:Act) (d:Tmp) (v:Value),a.put (some d) v={ a with tmps:=a.tmps.setIfInBounds d v })∧(∀ {α:Type} (l:List α) (i:Nat) (a:α),l.toArray.setIfInBounds i a=(l.set i a).toArray)∧(∀ {α:Type} (a b:α) (l:List α),(a::l).set 0 b=b::l)∧
    (∀ {α:Type} (a b:α) (l:List α) (i:Nat),(a::l).set (i+1) b=a::l.set i b):=⟨fun _ _ _=>rfl,fun _ _ _=>List.setIfInBounds_toArray ..,fun _ _ _=>rfl,fun _ _ _ _=>rfl⟩
theorem eP {w w':World} {o:Obj} (h:w.alloc o=w'):Below w.heap.size w w':=by rw[←h];exact (Below.refl _ w).alloc (Nat.le_refl _) _
theorem mJ {w w':World} (h:w.drew=w'):Below w.heap.size w w':=by rw[←h];exact⟨rfl,rfl,rfl,Nat.le_refl _,fun _ _=>rfl⟩
theorem CS {w w':World} {n:Nat} (h:w.drewN n=w'):Below w.heap.size w w':=by rw[←h];exact⟨rfl,rfl,rfl,Nat.le_refl _,fun _ _=>rfl⟩
theorem zh {A:Prop} (h:A):Hid A:=Lib.hid h
theorem jn5 {G:Prop} {α β γ δ ε:Type} {C T:α→β→γ→δ→ε→Prop} (h:Hid (∀ a b c d e,C a b c d e→T a b c d e)→G) (t:∀ a b c d e,C a b c d e→T a b c d e):G:=h (Lib.hid t)
/-- A call that leaves the world as it is. -/
theorem nP {P:Program} {f:FuncId} {args:Array Value} {w:World} {u:Ending} {Q:Ending→World→Prop} (h:Calls P f args w fun e w'=>e=u∧w'=w) (k:Q u w):Calls P f args w Q:=h.mono (by rintro e w' ⟨rfl,rfl⟩;exact k)
end
section
open Go Go.RowKit
def jv (l:List UInt8):List Value:=l.map fun b=>.int .u8 b.toNat
theorem uw (l m:List UInt8):jv (l++m)=jv l++jv m:=by simp[jv]
theorem Ir (s:ByteArray):Lib.strCells s=jv s.data.toList:=by
 simp[Lib.strCells,jv]
def Whole (w:World) (b:Nat) (cs:Array Value) (t:TypeId):Prop:=w.heap[b]?=some (.cells cs t (0,0))
section
variable {w w':World} {b:Nat} {cs:Array Value} {t:TypeId}
theorem Whole.lt (h:Whole w b cs t):b<w.heap.size:=lt_of_block h
theorem Whole.cell (h:Whole w b cs t) (i:Nat):w.cell? ⟨b,i,none⟩=cs[i]?:=cell_of_row w b i cs t (0,0) h
theorem Whole.free (h:Whole w b cs t) (i:Nat):w.frozen? ⟨b,i,none⟩=false:=frozen_of_row w b i cs t h
theorem Whole.alloc (h:Whole w b cs t) (o:Obj):Whole (w.alloc o) b cs t:=(Below.heap_alloc w o b h.lt).trans h
theorem Whole.new (w:World) (cs:Array Value) (t:TypeId):Whole (w.alloc (.cells cs t)) w.heap.size cs t:=heap_alloc_new w _
theorem Whole.put (h:Whole w b cs t) (i:Nat) (v:Value):Whole (w.setCell ⟨b,i,none⟩ v) b (cs.setIfInBounds i v) t:=heap_setCell_same w b i cs t v h
theorem Whole.other (h:Whole w b cs t) {a:Addr} (hn:b≠a.block) (v:Value):Whole (w.setCell a v) b cs t:=(heap_setCell_other w a b v hn).trans h
theorem Whole.below {B:Nat} (h:Whole w b cs t) (hb:Below B w w') (hlt:b<B):Whole w' b cs t:=(hb.block b hlt).trans h
theorem Whole.grown {row:Option Nat} (h:Whole w b cs t) (hg:w.grownBy w' row) (hn:some b≠row):Whole w' b cs t:=(hg.block b h.lt hn).trans h
theorem Whole.unlike {b':Nat} {cs':Array Value} {t':TypeId} (h:Whole w b cs t) (h':Whole w b' cs' t') (hn:t≠t'):b≠b':=by
 intro e;subst e;unfold Whole at h h';rw[h] at h';injection h' with h';injection h' with _ h2;exact hn h2
end
/-! 'grownBy w' (some b)': at most block b has turned, and there may be new ones. -/
section
variable {w w' w'':World} {b:Nat} {row:Option Nat}
theorem FW (h:w.grownBy w' row) (k:w'.grownBy w'' row):w.grownBy w'' row:=
 ⟨k.os.trans h.os,k.tape.trans h.tape,k.output.trans h.output,Nat.le_trans h.size k.size,fun i hi hn=>(k.block i (Nat.lt_of_lt_of_le hi h.size) hn).trans (h.block i hi hn)⟩
theorem aL (h:w.grownBy w' (some b)) (i:Nat) (v:Value):w.grownBy (w'.setCell ⟨b,i,none⟩ v) (some b):=
 FW h ⟨rfl,rfl,rfl,by simp[World.setCell],fun k _ hn=>heap_setCell_other w' _ k v (fun e=>hn (by rw[e]))⟩
theorem ak (h:Below w.heap.size w w') (row:Option Nat):w.grownBy w' row:=⟨h.os,h.tape,h.output,h.size,fun k hk _=>h.block k hk⟩
end
section
variable {T E:TypeId} {w w':World} {base b:Nat} {l:List UInt8}
theorem zD {v:Value} {n:Nat} {xs:List Value} (h:w.ownsRow base E 1 v n xs):∃ A c,v=.slice A n c:=by
 rcases h.2 with ⟨rfl,rfl⟩ | ⟨g,cap,cur,rfl,_⟩
 ·exact⟨none,0,rfl⟩
 ·exact⟨_,_,rfl⟩
end
end
section
open Go Go.RowKit
variable {P:Program} {w:World}
def mI (w:World) (v v':Value):Prop:=v'.ownBlock=v.ownBlock∨∀ k,v'.ownBlock=some k→w.heap.size≤k
theorem Dx (base:Nat) (t ty e:TypeId) (i:TypeInfo) (z:Value) (size bytes:Nat) (ht:P.underlying t=some (.slice e)) (hi:P.info? e=some i) (hz:i.zero=some z)
  (hsize:i.size=size) (hby:i.bytes=bytes) (hzs:z.cells.size=size) (hsz:0<size)
  (v:Value) (n:Nat) (xs:List Value) (hown:w.ownsRow base e size v n xs)
  (a:Addr) (m c:Nat) (news:List Value) (hl:news.length=m*size) (hnews:∀ j u,news[j]?=some u→w.cell? (a.add j)=some u) (h1:∀ u∈news,u.oneCell'=true)
  (h63:n+m≤maxLen) (hbytes:(n+m)*bytes≤140737488355328) {v':Value} {w':World}
  (hrun:(Builtin.append_ #[t,t] ty #[v,.slice (some a) m c]).run P w=.ok v' w'):mI w v v':=by
 have hsmall:n+m≤9223372036854775807:=by simp only[maxLen] at h63;omega
 rcases hown.2 with ⟨rfl,rfl⟩ | ⟨g,cap,cur,rfl,hbg,hg,hnc,hcm,hcs,htake⟩
 ·have hx:xs=[]:=List.eq_nil_of_length_eq_zero (by simpa using hown.1);subst hx;obtain⟨v2,w2,hr,h2,_,_⟩:=run_append_own (P:=P) w w.heap.size t ty e i z size bytes ht hi hz hsize hby hzs hsz _ _ _ (World.ownsRow_nil w w.heap.size e size) a m c news hl hnews h1 h63 hbytes (Nat.le_refl _);rw[hrun] at hr;injection hr with hv _;subst hv;exact .inr fun k hk=>(h2.lt k hk).1
 ·subst hsize;subst hby;by_cases hroom:n+m≤cap
  ·have hfit:n*i.size+news.length≤cur.size:=by rw[hl,hcs,←Nat.add_mul];exact Nat.mul_le_mul_right _ hroom
   have hr:=run_append_room (P:=P) w t ty e i ht hi g n cap cur hg a m c news hl hnews h1 hroom hfit;rw[hrun] at hr;injection hr with hv _;subst hv;exact .inl (by simp[Value.ownBlock])
  ·have holds:∀ j u,xs[j]?=some u→w.cell? ((⟨g,0,none⟩:Addr).add j)=some u:=hown.cells (g:=g) rfl;have hr:=run_append_grow (P:=P) w t ty e i z ht hi hz ⟨g,0,none⟩ n cap xs hown.1 holds a m c news hl hnews (by omega) (by omega) (growslice_fits (by omega) hbytes);rw[hrun] at hr;injection hr with hv _;subst hv;exact .inr fun k hk=>by simp[Value.ownBlock] at hk;omega
theorem sD (base zF:Nat) (t ty e:TypeId) (i:TypeInfo) (z:Value) (size bytes:Nat) (ht:P.underlying t=some (.slice e)) (hi:P.info? e=some i) (hz:i.zero=some z)
  (hsize:i.size=size) (hby:i.bytes=bytes) (hzs:z.cells.size=size) (hsz:0<size)
  (v:Value) (n:Nat) (xs:List Value) (hown:w.ownsRow base e size v n xs) (v2:Value) (m:Nat) (ys:List Value) (hsrc:w.ownsRow zF e size v2 m ys) (h1:∀ u∈ys,u.oneCell'=true)
  (h63:n+m≤maxLen) (hbytes:(n+m)*bytes≤140737488355328) (hbase:base≤w.heap.size):
  ∃ v' w',(Builtin.append_ #[t,t] ty #[v,v2]).run P w=.ok v' w'∧w'.ownsRow base e size v' (n+m) (xs++ys)∧w.grownBy w' v.ownBlock∧mI w v v':=by
 have hs:=hsrc;rcases hsrc.2 with ⟨rfl,rfl⟩ | ⟨g,cap,cur,rfl,_⟩
 ·have hy:ys=[]:=by
   have:=hsrc.1;rw[Nat.zero_mul] at this;exact List.eq_nil_of_length_eq_zero this
  subst hy;refine⟨v,w,run_append_owned_none w base t ty e i size ht hi v n xs hown,by rw[List.append_nil,Nat.add_zero];exact hown,⟨rfl,rfl,rfl,Nat.le_refl _,fun _ _ _=>rfl⟩,.inl rfl⟩
 ·obtain⟨v',w',hr,h2,h3,_⟩:=run_append_own (P:=P) w base t ty e i z size bytes ht hi hz hsize hby hzs hsz v n xs hown ⟨g,0,none⟩ m cap ys hs.1 (hs.cells rfl) h1 h63 hbytes hbase;exact⟨v',w',hr,h2,h3,Dx base t ty e i z size bytes ht hi hz hsize hby hzs hsz v n xs hown ⟨g,0,none⟩ m cap ys hs.1 (hs.cells rfl) h1 h63 hbytes hr⟩
theorem dQ {ops:Array Oper} {rest:List Oper} {o:Oper} {a:Act} {Q:Exit→Act→World→Prop} (hgd:o.guard=none) (s x:Operand) (t:TypeId)
  (ho:o.op=.call { callee:=.builtin .append,args:=#[s,x],argTypes:=#[t,t] })
  (base zF:Nat) (e:TypeId) (i:TypeInfo) (z:Value) (size bytes:Nat) (ht:P.underlying t=some (.slice e)) (hi:P.info? e=some i) (hz:i.zero=some z)
  (hsize:i.size=size) (hby:i.bytes=bytes) (hzs:z.cells.size=size) (hsz:0<size)
  (v:Value) (n:Nat) (xs:List Value) (hs:a.eval s=v) (hown:w.ownsRow base e size v n xs) (v2:Value) (m:Nat) (ys:List Value) (hx:a.eval x=v2) (hsrc:w.ownsRow zF e size v2 m ys) (h1:∀ u∈ys,u.oneCell'=true)
  (h63:n+m≤maxLen) (hbytes:(n+m)*bytes≤140737488355328) (hbase:base≤w.heap.size)
  (h:∀ v' w',w'.ownsRow base e size v' (n+m) (xs++ys)→w.grownBy w' v.ownBlock→mI w v v'→wpList P ops Q rest (a.put o.dst v') w'):wpList P ops Q (o::rest) a w:=by
 refine wpList_plain hgd fun K hK=>?_;obtain⟨v',w',hr,h2,h3,h4⟩:=sD (P:=P) base zF t o.type e i z size bytes ht hi hz hsize hby hzs hsz v n xs hown v2 m ys hsrc h1 h63 hbytes hbase;unfold Oper.wp execOp;simp only[ho,resolve,invoke,builtin,Sem.run_bind,Sem.run_pure,Result.andThen_ok,List.map_toArray,List.map_cons,List.map_nil,hs,hx,hr];exact hK _ _ (h v' w' h2 h3 h4)
theorem cZ {ops:Array Oper} {o:Oper} {a:Act} {K:Act→World→Prop} {Q:Exit→Act→World→Prop} {E:Prop} (hgd:o.guard=none) (s x:Operand) (t:TypeId)
  (ho:o.op=.call { callee:=.builtin .append,args:=#[s,x],argTypes:=#[t,t] })
  (base zF:Nat) (e:TypeId) (i:TypeInfo) (z:Value) (size bytes:Nat) (ht:P.underlying t=some (.slice e)) (hi:P.info? e=some i) (hz:i.zero=some z)
  (hsize:i.size=size) (hby:i.bytes=bytes) (hzs:z.cells.size=size) (hsz:0<size)
  (v:Value) (n:Nat) (xs:List Value) (hs:a.eval s=v) (hown:w.ownsRow base e size v n xs) (v2:Value) (m:Nat) (ys:List Value) (hx:a.eval x=v2) (hsrc:w.ownsRow zF e size v2 m ys) (h1:∀ u∈ys,u.oneCell'=true)
  (h63:n+m≤maxLen) (hbytes:(n+m)*bytes≤140737488355328) (hbase:base≤w.heap.size)
  (h:∀ v' w',w'.ownsRow base e size v' (n+m) (xs++ys)→w.grownBy w' v.ownBlock→mI w v v'→K (a.put o.dst v') w'):
  if Region.wanted o (yielded ops a.tmps)=true then Oper.wp P o a w K Q else E:=by
 have hw:Region.wanted o (yielded ops a.tmps)=true:=by simp[Region.wanted,hgd]
 rw[if_pos hw];obtain⟨v',w',hr,h2,h3,h4⟩:=sD (P:=P) base zF t o.type e i z size bytes ht hi hz hsize hby hzs hsz v n xs hown v2 m ys hsrc h1 h63 hbytes hbase;unfold Oper.wp execOp;simp only[ho,resolve,invoke,builtin,Sem.run_bind,Sem.run_pure,Result.andThen_ok,List.map_toArray,List.map_cons,List.map_nil,hs,hx,hr];exact h v' w' h2 h3 h4
end
section
open Go Go.RowKit
def lU (n:Int):Prop := -9223372036854775808≤n∧n≤9223372036854775807
abbrev xD (b s:Int):Value:=.agg #[.int .i64 b,.int .i64 s]
theorem kJ {a b:Int} (h:a=b):Ending.returned (.int .i64 a)=.returned (.int .i64 b):=by rw[h]
theorem fP {a b:Bool} (h:a=b):Ending.returned (.bool a)=.returned (.bool b):=by rw[h]
theorem Ww {x:Int} (h1 : -9223372036854775808≤x) (h2:x≤9223372036854775807):IntKind.i64.wrap x=x:=by
 rw[IntKind.wrap_i64];omega
def nums (fr:List Nat):List Value:=fr.map fun (i:Nat)=>Value.int .i64 (i:Int)
theorem nums_append (a b:List Nat):nums (a++b)=nums a++nums b:=by simp[nums]
theorem own_below {w w':World} {e:TypeId} {size:Nat} {v:Value} {n:Nat} {xs:List Value} (h:w.ownsRow 0 e size v n xs) (hb:Below w.heap.size w w'):w'.ownsRow 0 e size v n xs:=by
 refine⟨h.1,?_⟩;rcases h.2 with hn | ⟨g,cap,cur,rfl,h0,hg,hr⟩
 ·exact .inl hn
 ·exact .inr ⟨g,cap,cur,rfl,h0,(hb.block g (Array.getElem?_eq_some_iff.1 hg).1).trans hg,hr⟩
theorem aH {w:World} {B:Nat} {e:TypeId} {size:Nat} {v:Value} {n:Nat} {xs:List Value} (h:w.ownsRow B e size v n xs):w.ownsRow 0 e size v n xs:=by
 refine⟨h.1,?_⟩;rcases h.2 with hn | ⟨g,cap,cur,hv,_,hr⟩
 ·exact .inl hn
 ·exact .inr ⟨g,cap,cur,hv,Nat.zero_le _,hr⟩
theorem aF {w:World} {e:TypeId} {size:Nat} {v:Value} {n:Nat} {xs:List Value} (h:w.ownsRow 0 e size v n xs):∃ A c,v=.slice A n c:=by
 rcases h.2 with ⟨rfl,rfl⟩ | ⟨g,cap,cur,rfl,_⟩
 ·exact⟨none,0,rfl⟩
 ·exact⟨_,_,rfl⟩
theorem iY {w:World} {e:TypeId} {size:Nat} {A:Option Addr} {c n:Nat} {xs:List Value} (h:w.ownsRow 0 e size (.slice A n c) n xs) (hn:0<n):∃ g,A=some ⟨g,0,none⟩∧g<w.heap.size∧∀ j u,xs[j]?=some u→w.cell? ⟨g,j,none⟩=some u:=by
 have hh:=h;rcases h.2 with ⟨_,rfl⟩ | ⟨g,cap,cur,hv,_,hg,_⟩
 ·omega
 ·injection hv with hA _ _;subst hA;refine⟨g,rfl,(Array.getElem?_eq_some_iff.1 hg).1,fun j u hu=>?_⟩;have:=hh.cells rfl j u hu;have e:(⟨g,0,none⟩:Addr).add j=⟨g,j,none⟩:=by unfold Addr.add;split<;>simp_all
  rwa [e] at this
theorem bH {W:World} {B base size:Nat} {e T:TypeId} {cs:Array Value} {v:Value} {n:Nat} {xs:List Value} (h:W.ownsRow base e size v n xs) (hb:Whole W B cs T) (hn:e≠T):v.ownBlock≠some B:=by
 rcases h.2 with ⟨rfl,_⟩ | ⟨g,cap,cur,rfl,_,hg,_⟩
 ·simp[Value.ownBlock]
 ·intro x;have x':g=B:=by simpa [Value.ownBlock] using x
  exact Whole.unlike (cs:=cur) (t:=e) (show Whole W g cur e from hg) hb hn x'
theorem Iu {w:World} {B g n c:Nat} {e:TypeId} {size:Nat} {xs:List Value} (h:w.ownsRow B e size (.slice (some ⟨g,0,none⟩) n c) n xs) (m:Nat) (hm:m≤n):w.ownsRow B e size (.slice (some ⟨g,0,none⟩) m c) m (xs.take (m*size)):=by
 rcases h.2 with ⟨hv,_⟩ | ⟨g',cap,cur,hv,hb,hg,hn,hc,hs,ht⟩
 ·cases hv
 ·injection hv with h1 h2 h3;injection h1 with h1;injection h1 with h1 _ _;subst h1 h3;refine⟨?_,.inr ⟨_,_,cur,rfl,hb,hg,by omega,hc,hs,?_⟩⟩
  ·rw[List.length_take,h.1];exact Nat.min_eq_left (Nat.mul_le_mul_right _ hm)
  ·rw[←ht,List.take_take,Nat.min_eq_left (Nat.mul_le_mul_right _ hm)]
theorem PY {w:World} {B g n c:Nat} {e:TypeId} {size:Nat} {xs:List Value} (h:w.ownsRow B e size (.slice (some ⟨g,0,none⟩) n c) n xs):n≤c:=by
 rcases h.2 with ⟨hv,_⟩ | ⟨g',cap,cur,hv,_,_,hn,_⟩
 ·cases hv
 ·injection hv with _ _ h3;omega
theorem own_ne {w:World} {b1 b2 s1 s2 n1 n2:Nat} {e1 e2:TypeId} {v1 v2:Value} {x1 x2:List Value} (h1:w.ownsRow b1 e1 s1 v1 n1 x1) (h2:w.ownsRow b2 e2 s2 v2 n2 x2) (hn:e1≠e2):v1.ownBlock=none∨v1.ownBlock≠v2.ownBlock:=by
 rcases h1.2 with ⟨rfl,_⟩ | ⟨g,cap,cur,rfl,_,hg,_⟩
 ·exact .inl rfl
 ·refine .inr fun e=>?_;rcases h2.2 with ⟨rfl,_⟩ | ⟨g',cap',cur',rfl,_,hg',_⟩
  ·simp[Value.ownBlock] at e
  ·have e':g=g':=by simpa [Value.ownBlock] using e
   subst e';rw[hg] at hg';injection hg' with hg';injection hg' with _ h2;exact hn h2
structure Turns (S:Nat→Prop) (w w':World):Prop where
 os:w'.os=w.os
 tape:w'.tape=w.tape
 output:w'.output=w.output
 size:w.heap.size≤w'.heap.size
 block:∀ k,k<w.heap.size→¬ S k→w'.heap[k]?=w.heap[k]?
section
variable {w w' w'':World} {S S' U:Nat→Prop}
theorem Turns.of_below (h:Below w.heap.size w w'):Turns S w w':=⟨h.os,h.tape,h.output,h.size,fun k hk _=>h.block k hk⟩
theorem Turns.aZ {row:Option Nat} (h:w.grownBy w' row) (hS:∀ k,row=some k→S k):Turns S w w':=⟨h.os,h.tape,h.output,h.size,fun k hk hn=>h.block k hk (fun e=>hn (hS k e.symm))⟩
theorem Turns.refl (S:Nat→Prop) (w:World):Turns S w w:=⟨rfl,rfl,rfl,Nat.le_refl _,fun _ _ _=>rfl⟩
theorem Turns.trans (h:Turns S w w') (h':Turns S' w' w'') (h1:∀ k,k<w.heap.size→S k→U k) (h2:∀ k,k<w.heap.size→S' k→U k):Turns U w w'':=
 ⟨h'.os.trans h.os,h'.tape.trans h.tape,h'.output.trans h.output,Nat.le_trans h.size h'.size,fun k hk hn=>(h'.block k (Nat.lt_of_lt_of_le hk h.size) (fun x=>hn (h2 k hk x))).trans (h.block k hk (fun x=>hn (h1 k hk x)))⟩
theorem Turns.below {B:Nat} (h:Turns S w w') (hB:B≤w.heap.size) (hS:∀ k,S k→B≤k):Below B w w':=
 ⟨h.os,h.tape,h.output,h.size,fun k hk=>h.block k (Nat.lt_of_lt_of_le hk hB) (fun x=>by have:=hS k x;omega)⟩
theorem Whole.turns {b:Nat} {cs:Array Value} {t:TypeId} (h:Whole w b cs t) (ht:Turns S w w') (hn:¬ S b):Whole w' b cs t:=(ht.block b h.lt hn).trans h
theorem cB {base size:Nat} {e:TypeId} {v:Value} {n:Nat} {xs:List Value} (h:w.ownsRow base e size v n xs) (ht:Turns S w w') (hn:∀ k,v.ownBlock=some k→¬ S k):w'.ownsRow base e size v n xs:=by
 refine⟨h.1,?_⟩;rcases h.2 with hv | ⟨g,cap,cur,rfl,hb,hg,hr⟩
 ·exact .inl hv
 ·exact .inr ⟨g,cap,cur,rfl,hb,(ht.block g (Array.getElem?_eq_some_iff.1 hg).1 (hn g (by simp[Value.ownBlock]))).trans hg,hr⟩
end
def ay (w w':World) (F F':Nat→Prop):Prop:=Turns F w w'∧∀ k,k<w.heap.size→F' k→F k
section
variable {w w' w'':World} {F F' F'' G:Nat→Prop}
theorem ay.apart (h:ay w w' F F') (hG:∀ k,G k→k<w.heap.size) (hn:∀ k,G k→¬ F k):∀ k,G k→¬ F' k:=fun k hg hf=>hn k hg (h.2 k (hG k hg) hf)
end
theorem ay.trans {w w1 w2:World} {F F1 F2:Nat→Prop} (h:ay w w1 F F1) (h':ay w1 w2 F1 F2):ay w w2 F F2:=
 ⟨h.1.trans h'.1 (fun _ _ x=>x) (fun k hk x=>h.2 k hk x),fun k hk x=>h.2 k hk (h'.2 k (Nat.lt_of_lt_of_le hk h.1.size) x)⟩
theorem ay.pU {w w1:World} {F:Nat→Prop} (h:Turns F w w1):ay w w1 F F:=⟨h,fun _ _ x=>x⟩
theorem ay.of_below {w w1:World} {F:Nat→Prop} (h:Below w.heap.size w w1):ay w w1 F F:=.pU (.of_below h)
def ints (l:List Int):List Value:=l.map fun i=>.int .i64 i
theorem dX (a b:List Int):ints (a++b)=ints a++ints b:=by simp[ints]
theorem dY (l:List Int):∀ u∈ints l,u.oneCell'=true:=by
 intro u hu;obtain⟨i,_,rfl⟩:=List.mem_map.1 hu;rfl
theorem aY {l:List Int} {i:Nat} {x:Int} (h:l[i]?=some x):(ints l)[i]?=some (.int .i64 x):=by simp[ints,h]
section
variable {E:TypeId} {base:Nat} {w w':World} {v v':Value} {l:List Int} {F F':Nat→Prop}
theorem row_one (w:World) (E:TypeId) (x:Int):(w.alloc (.cells #[.int .i64 x] E)).ownsRow 0 E 1 (.slice (some ⟨w.heap.size,0,none⟩) 1 1) 1 (ints [x]):=
 World.ownsRow_lit (base:=0) (e:=E) (size:=1) w #[.int .i64 x] 1 (by simp) (by unfold maxLen;omega) rfl
end
end
section
open Go.RowKit
theorem FX (n:Int) (w:World):
  Calls Tryz.prog 179 #[.int .i64 n] w fun e w'=>e=.returned (.int .i64 (Ar.fU n))∧w'=w:=by
 go_enter Tryz.func179,Tryz.ntmps179
 go_wp2
 all_goals go_ret
 all_goals exact⟨kJ (by unfold Ar.fU;omega),rfl⟩
theorem Cc (b s:Int) (w:World):
  Calls Tryz.prog 159 #[xD b s] w fun e w'=>e=.returned (xD (Ar.fU b) (Ar.fU s))∧Below w.heap.size w w':=by
 have hb0:=(Below.refl _ w).alloc (Nat.le_refl _) (.cells #[.int .i64 b,.int .i64 s] 28)
 go_enter Tryz.func159,Tryz.ntmps159
 go_wp2_with fail
 go_region_with (go_at_call 179;refine (FX _ _).mono ?_;rintro e w2 ⟨rfl,rfl⟩)
 all_goals go_wp2_with fail
 all_goals refine bodyPost_ret (v:=xD (Ar.fU b) (Ar.fU s)) ?_ rfl ⟨rfl,(hb0.alloc (by simp) _).trans ⟨rfl,rfl,rfl,Nat.le_refl _,fun _ _=>rfl⟩⟩
 all_goals simp[results,Tryz.f159,go_sem]
theorem FY {w:World} {B:Nat} {b s:Int} (h:Whole w B #[.int .i64 b,.int .i64 s] 28) (x y:Int):
  ∃ w',(w.setCell ⟨B,0,none⟩ (.int .i64 x)).setCell ⟨B,1,none⟩ (.int .i64 y)=w'∧Whole w' B #[.int .i64 x,.int .i64 y] 28∧w.grownBy w' (some B):=
 ⟨_,rfl,(h.put 0 _).put 1 _,aL (aL (ak (Below.refl w.heap.size w) (some B)) 0 _) 1 _⟩
theorem FZ (b s i:Int) (w:World) (_hi:lU i):
  Calls Tryz.prog 125 #[xD b s,.int .i64 i] w fun e w'=>e=.returned (.int .i64 (Ar.hdl b s i))∧Below w.heap.size w w':=by
 have hb0:=(Below.refl _ w).alloc (Nat.le_refl _) (.cells #[.int .i64 b,.int .i64 s] 28);by_cases hc:i<0∨2147483647<i
 ·have hr:Ar.hdl b s i=0:=by unfold Ar.hdl;rw[if_pos hc]
  rw[hr];rcases hc with hc | hc
  ·go_enter Tryz.func125,Tryz.ntmps125
   go_wp2_with fail
   go_ret
   exact⟨rfl,hb0⟩
  ·have hc':¬ i<0:=by omega
   go_enter Tryz.func125,Tryz.ntmps125
   go_wp2_with fail
   go_ret
   exact⟨rfl,hb0⟩
 ·have hr:Ar.hdl b s i=Ar.fU b+Ar.fU s*i:=by unfold Ar.hdl;rw[if_neg hc]
  have hm:=Ar.Dw s i (by omega) (by omega);have hn:=Ar.mW b;have h1:=Ww (x:=Ar.fU s*i) (by omega) (by omega);have h2:=Ww (x:=Ar.fU b+Ar.fU s*i) (by omega) (by omega);have hc1:¬ i<0:=by omega
  have hc2:¬ 2147483647<i:=by omega
  rw[hr];clear hc hr
  go_enter Tryz.func125,Tryz.ntmps125
  go_wp2_with fail;refine (Cc b s _).mono ?_;rintro e w2 ⟨rfl,hb2⟩;have hS2:Whole w2 w.heap.size #[.int .i64 b,.int .i64 s] 28:=Whole.below (Whole.new w _ _) hb2 (by simp);have k0:w2.cell? ⟨w.heap.size,0,none⟩=some (.int .i64 b):=hS2.cell 0;have k1:w2.cell? ⟨w.heap.size,1,none⟩=some (.int .i64 s):=hS2.cell 1;have z0:=hS2.free 0;have z1:=hS2.free 1;have hB2:Below w.heap.size w w2:=hb0.trans (hb2.mono (by simp));clear hb2 hb0;go_wp2_with fail;obtain⟨w3,hw3,Wx,g3⟩:=FY hS2 (Ar.fU b) (Ar.fU s);rw[hw3];have a0:w3.cell? ⟨w.heap.size,0,none⟩=some (.int .i64 (Ar.fU b)):=Wx.cell 0;have a1:w3.cell? ⟨w.heap.size,1,none⟩=some (.int .i64 (Ar.fU s)):=Wx.cell 1;have hB3:=hB2.grown g3 hB2.size (fun j hj=>by simp at hj;omega);clear hw3 z0 z1 k0 k1;go_wp2_with fail
  go_ret
  exact⟨rfl,hB3⟩
theorem Iw (b s h:Int) (w:World) (hh:lU h):
  Calls Tryz.prog 166 #[xD b s,.int .i64 h] w fun e w'=>e=.returned (.int .i64 (Ar.idx b s h))∧Below w.heap.size w w':=by
 have hb0:=(Below.refl _ w).alloc (Nat.le_refl _) (.cells #[.int .i64 b,.int .i64 s] 28);have hs:=Ar.mW s;have hs0:¬ Ar.fU s=0:=by omega
 have hw:=Ar.Ny b s h hh.2;obtain⟨I,hI⟩:∃ I,Ar.idx b s h=I:=⟨_,rfl⟩
 rw[hI] at hw ⊢;have HW:=zh hw;clear hs hw hI
 go_enter Tryz.func166,Tryz.ntmps166
 go_wp2_with fail;refine (Cc b s _).mono ?_;rintro e w2 ⟨rfl,hb2⟩;have hS2:Whole w2 w.heap.size #[.int .i64 b,.int .i64 s] 28:=Whole.below (Whole.new w _ _) hb2 (by simp);have k0:w2.cell? ⟨w.heap.size,0,none⟩=some (.int .i64 b):=hS2.cell 0;have k1:w2.cell? ⟨w.heap.size,1,none⟩=some (.int .i64 s):=hS2.cell 1;have z0:=hS2.free 0;have z1:=hS2.free 1;have hB2:Below w.heap.size w w2:=hb0.trans (hb2.mono (by simp));clear hb2 hb0;rcases HW.out with ⟨h1,h9⟩ | ⟨h1,h2,h3,h7,h9⟩ | ⟨h1,h2,h3,h7,q,h4,h6,h9⟩ | ⟨h1,h2,h3,h7,q,h4,h6,h9⟩
 all_goals (have hx:=zh h9)
 all_goals clear HW h9
 all_goals go_wp2_with fail
 all_goals obtain⟨w3,hw3,Wx,g3⟩:=FY hS2 (Ar.fU b) (Ar.fU s)
 all_goals rw[hw3]
 all_goals have a0:w3.cell? ⟨w.heap.size,0,none⟩=some (.int .i64 (Ar.fU b)):=Wx.cell 0
 all_goals have a1:w3.cell? ⟨w.heap.size,1,none⟩=some (.int .i64 (Ar.fU s)):=Wx.cell 1
 all_goals have hB3:=hB2.grown g3 hB2.size (fun j hj=>by simp at hj;omega)
 all_goals clear hw3 z0 z1 k0 k1
 all_goals go_wp2_with fail
 all_goals go_ret
 all_goals first
  | exact⟨kJ hx.out.symm,hB3⟩
  | exact⟨kJ (hx.out▸(by first | exact h4 | (rw[h2];exact h4))),hB3⟩
end
section
open Go Go.RowKit
section
variable {α:Type} {sl:α→List Value} {n m:Nat}
def bS (sl:α→List Value) (m:Nat) (f:Nat→α):List Value:=(List.range m).flatMap fun i=>sl (f i)
theorem ow (f:Nat→α):bS sl (m+1) f=bS sl m f++sl (f m):=by simp[bS,List.range_succ]
theorem iT (hn:∀ c,(sl c).length=n) (f:Nat→α):(bS sl m f).length=m*n:=by
 induction m with
 | zero=>simp[bS]
 | succ m ih=>rw[ow,List.length_append,ih,hn,Nat.add_mul,Nat.one_mul]
theorem jL (hn:∀ c,(sl c).length=n) (f:Nat→α) {i j:Nat} (hi:i<m) (hj:j<n):(bS sl m f)[i*n+j]?=(sl (f i))[j]?:=by
 induction m with
 | zero=>omega
 | succ m ih=>
  rw[ow];by_cases h:i<m
  ·have:i*n+j<m*n:=by
    calc i*n+j<i*n+n:=by omega
     _=(i+1)*n:=by rw[Nat.add_mul];omega
     _≤m*n:=Nat.mul_le_mul_right _ h
   rw[List.getElem?_append_left (by rw[iT hn];exact this),ih h]
  ·have e:i=m:=by omega
   subst e;rw[List.getElem?_append_right (by rw[iT hn];omega),iT hn,Nat.add_sub_cancel_left]
theorem je {f g:Nat→α} (h:∀ i,i<m→f i=g i):bS sl m f=bS sl m g:=by
 unfold bS;rw[List.flatMap_def,List.flatMap_def];congr 1;exact List.map_congr_left fun i hi=>by rw[h i (List.mem_range.1 hi)]
theorem zG (hn:∀ c,(sl c).length=n) (f:Nat→α) (l:List Value) (hl:l.length=m*n) (h:∀ i j,i<m→j<n→l[i*n+j]?=(sl (f i))[j]?):l=bS sl m f:=by
 apply List.ext_getElem?;intro k;by_cases hk:k<m*n
 ·have hn0:0<n:=Nat.pos_of_ne_zero fun e=>by subst e;omega
  have e:k=(k / n)*n+k % n:=by have:=Nat.div_add_mod k n;rw[Nat.mul_comm] at this;omega
  have h1:k / n<m:=Nat.div_lt_of_lt_mul (by rw[Nat.mul_comm];exact hk);have h2:k % n<n:=Nat.mod_lt _ hn0;rw[e,h _ _ h1 h2,jL hn f h1 h2]
 ·rw[List.getElem?_eq_none (by omega),List.getElem?_eq_none (by rw[iT hn];omega)]
theorem qH (hn:∀ c,(sl c).length=n) (f:Nat→α) {i j:Nat} (x:α) (v:Value) (hi:i<m) (hj:j<n) (hx:sl x=(sl (f i)).set j v):
  (bS sl m f).set (i*n+j) v=bS sl m fun k=>if k=i then x else f k:=by
 apply zG hn
 ·rw[List.length_set,iT hn]
 ·intro a c ha hc;rw[List.getElem?_set,jL hn f ha hc,iT hn];have hlt:i*n+j<m*n:=by
   calc i*n+j<i*n+n:=by omega
    _=(i+1)*n:=by rw[Nat.add_mul];omega
    _≤m*n:=Nat.mul_le_mul_right _ hi
  by_cases e:a=i
  ·subst e;rw[if_pos rfl,hx,List.getElem?_set,hn];by_cases e2:j=c
   ·subst e2;rw[if_pos rfl,if_pos rfl,if_pos hlt,if_pos hj]
   ·rw[if_neg (by omega),if_neg e2]
  ·rw[if_neg e,if_neg];intro h;have h1:i<a∨a<i:=by omega
   rcases h1 with h1 | h1
   ·have:(i+1)*n≤a*n:=Nat.mul_le_mul_right _ h1;rw[Nat.add_mul] at this;omega
   ·have:(a+1)*n≤i*n:=Nat.mul_le_mul_right _ h1;rw[Nat.add_mul] at this;omega
def qL (xs:List Value) (k:Nat):List Value→List Value
 | []=>xs
 | a::r=>qL (xs.set k a) (k+1) r
theorem Iy (us xs:List Value) (k:Nat):(qL xs k us).length=xs.length:=by
 induction us generalizing xs k with
 | nil=>rfl
 | cons a r ih=>rw[qL,ih,List.length_set]
theorem Iz (us xs:List Value) (k i:Nat) (h:k+us.length≤xs.length):(qL xs k us)[i]?=if k≤i∧i<k+us.length then us[i - k]? else xs[i]?:=by
 induction us generalizing xs k with
 | nil=>rw[qL,if_neg (by simp only[List.length_nil];omega)]
 | cons a r ih=>
  simp only[List.length_cons] at h ⊢;rw[qL,ih _ _ (by rw[List.length_set];omega),List.getElem?_set];by_cases h1:k+1≤i∧i<k+1+r.length
  ·rw[if_pos h1,if_pos (by omega),show i - k=(i - (k+1))+1 from by omega,List.getElem?_cons_succ]
  ·rw[if_neg h1];by_cases h2:k=i
   ·subst h2;rw[if_pos rfl,if_pos (by omega),if_pos (by omega),Nat.sub_self];rfl
   ·rw[if_neg h2,if_neg (by omega)]
theorem AZ (hn:∀ c,(sl c).length=n) (f:Nat→α) {i:Nat} (x:α) (hi:i<m):
  qL (bS sl m f) (i*n) (sl x)=bS sl m fun k=>if k=i then x else f k:=by
 have hle:i*n+n≤m*n:=by
  calc i*n+n=(i+1)*n:=by rw[Nat.add_mul];omega
   _≤m*n:=Nat.mul_le_mul_right _ hi
 apply zG hn
 ·rw[Iy,iT hn]
 ·intro a c ha hc;rw[Iz _ _ _ _ (by rw[hn,iT hn];exact hle),hn,jL hn f ha hc];by_cases e:a=i
  ·subst e;rw[if_pos (by omega),if_pos rfl,Nat.add_sub_cancel_left]
  ·rw[if_neg e,if_neg];rintro⟨h1,h2⟩;have h3:i<a∨a<i:=by omega
   rcases h3 with h3 | h3
   ·have:(i+1)*n≤a*n:=Nat.mul_le_mul_right _ h3;rw[Nat.add_mul] at this;omega
   ·have:(a+1)*n≤i*n:=Nat.mul_le_mul_right _ h3;rw[Nat.add_mul] at this;omega
end
end
section
namespace Tr
open Go Go.RowKit
/-! Neighbours in a list. -/
def fs:List Int→Int
 | []=>0
 | a::_=>a
def nu:List Int→Int→Int
 | [],_=>0
 | a::r,x=>if a=x then fs r else nu r x
def prv (l:List Int) (x:Int):Int:=nu l.reverse x
def gF (l:List Int):Int:=fs l.reverse
theorem gV {l1 l2:List Int} {x:Int} (h:x∉l1):nu (l1++x::l2) x=fs l2:=by
 induction l1 with
 | nil=>simp[nu]
 | cons a r ih=>
  simp only[List.mem_cons,not_or] at h;rw[List.cons_append,nu,if_neg (fun e=>h.1 e.symm),ih h.2]
theorem lD {l1 l2:List Int} {x:Int} (h:x∉l2):prv (l1++x::l2) x=gF l1:=by
 unfold prv gF;rw[List.reverse_append,List.reverse_cons,List.append_assoc];exact gV (by simpa using h)
theorem PZ:gF []=0:=rfl
theorem zH (l:List Int) (x:Int):gF (l++[x])=x:=by simp[gF,fs]
theorem lF (l m:List Int) (h:m≠[]):gF (l++m)=gF m:=by
 unfold gF;rw[List.reverse_append];cases e:m.reverse with
 | nil=>exact absurd (List.reverse_eq_nil_iff.1 e) h
 | cons a r=>rfl
theorem Ce (l m:List Int) (h:l≠[]):fs (l++m)=fs l:=by cases l with | nil=>exact absurd rfl h | cons a r=>rfl
theorem wU {l:List Int} (h:fs l≠0):fs l∈l:=by cases l with | nil=>exact absurd rfl h | cons a r=>simp[fs]
theorem oC {l:List Int} (h:gF l≠0):gF l∈l:=by have:=wU (l:=l.reverse) h;simpa [gF] using this
theorem tN {l:List Int} (h0:0∉l) (h:fs l=0):l=[]:=by
 cases l with
 | nil=>rfl
 | cons a r=>simp only[fs] at h;exact absurd (by simp[h]) h0
theorem zI {l:List Int} (h0:0∉l) (h:gF l=0):l=[]:=List.reverse_eq_nil_iff.1 (tN (by simpa using h0) h)
theorem Dy {l:List Int} {x:Int} (h:nu l x≠0):nu l x∈l:=by
 induction l with
 | nil=>exact absurd rfl h
 | cons a r ih=>
  rw[nu] at h ⊢
  split at h
  ·rename_i e;rw[if_pos e];exact List.mem_cons_of_mem _ (wU h)
  ·rename_i e;rw[if_neg e];exact List.mem_cons_of_mem _ (ih h)
theorem JO {l:List Int} {x:Int} (h:prv l x≠0):prv l x∈l:=by have:=Dy (l:=l.reverse) h;simpa [prv] using this
theorem Dz {l1 l2:List Int} {h y:Int} (hn:(l1++h::l2).Nodup) (h0:0∉l1++h::l2) (hy:y≠h):nu (l1++h::l2) y=if y=gF l1∧y≠0 then h else nu (l1++l2) y:=by
 by_cases hm:y∈l1
 ·obtain⟨a,b,rfl⟩:=List.append_of_mem hm;have hya:y∉a:=fun hx=>by
   have:=(List.nodup_append.1 (List.nodup_append.1 hn).1).2.2 y hx y (by simp);exact this rfl
  have hyb:y∉b:=fun hx=>by
   have:=(List.nodup_append.1 (List.nodup_append.1 hn).1).2.1;exact (List.nodup_cons.1 this).1 hx
  have hyz:y≠0:=fun e=>h0 (by simp[e]);rw[List.append_assoc,List.cons_append,gV hya,List.append_assoc,List.cons_append,gV hya];cases b with
  | nil=>rw[zH,if_pos ⟨rfl,hyz⟩];rfl
  | cons c r=>
   rw[if_neg]
   ·rfl
   ·rintro⟨e,_⟩;rw[show a++y::c::r=(a++[y])++(c::r) from by simp,lF _ _ (by simp)] at e;exact hyb (by rw[e];exact oC (by rw[←e];exact hyz))
 ·have hl:¬ (y=gF l1∧y≠0):=by
   rintro⟨e,hz⟩;exact hm (by rw[e];exact oC (by rw[←e];exact hz))
  rw[if_neg hl];clear hl hn h0
  induction l1 with
  | nil=>rw[List.nil_append,List.nil_append,nu,if_neg (fun e=>hy e.symm)]
  | cons a r ih=>
   simp only[List.mem_cons,not_or] at hm;rw[List.cons_append,List.cons_append,nu,nu,if_neg (fun e=>hm.1 e.symm),if_neg (fun e=>hm.1 e.symm)];exact ih hm.2
theorem P5 (l:List Int):gF l.reverse=fs l:=by simp[gF]
theorem JQ {l1 l2:List Int} {h y:Int} (hn:(l1++h::l2).Nodup) (h0:0∉l1++h::l2) (hy:y≠h):prv (l1++h::l2) y=if y=fs l2∧y≠0 then h else prv (l1++l2) y:=by
 unfold prv;have hn':(l2.reverse++h::l1.reverse).Nodup:=by
  have:(l1++h::l2).reverse.Nodup:=List.pairwise_reverse.2 (hn.imp fun a e=>a e.symm)
  rwa [List.reverse_append,List.reverse_cons,List.append_assoc] at this
 have h0':0∉l2.reverse++h::l1.reverse:=fun e=>h0 (by simp at e ⊢;rcases e with e | e | e<;>simp[e]);have:=Dz hn' h0' hy;rw[P5] at this;rw[List.reverse_append,List.reverse_cons,List.append_assoc,List.reverse_append];exact this
theorem Tk (l1 l2:List Int) (h:Int) (h0:0∉l1):fs (l1++h::l2)=if gF l1=0 then h else fs (l1++l2):=by
 cases l1 with
 | nil=>rfl
 | cons a r=>
  rw[if_neg]
  ·rfl
  ·intro e;have:=zI h0 e;cases this
theorem P6 (l1 l2:List Int) (h:Int) (h0:0∉l2):gF (l1++h::l2)=if fs l2=0 then h else gF (l1++l2):=by
 cases l2 with
 | nil=>simp[gF,fs]
 | cons a r=>
  rw[if_neg]
  ·rw[show l1++h::a::r=(l1++[h])++(a::r) from by simp,lF _ _ (by simp),lF _ _ (by simp)]
  ·intro e;have:=tN h0 e;cases this
theorem xL {l1 l2:List Int} {h:Int} (hn:h∉l1):(l1++h::l2).erase h=l1++l2:=by
 rw[List.erase_append_right _ hn,List.erase_cons_head]
def iL:List Int→Int→Int→List Int
 | [],_,x=>[x]
 | a::r,b,x=>if a=b then x::a::r else a::iL r b x
theorem uW {l:List Int} {b x:Int} (h:b∉l):iL l b x=l++[x]:=by
 induction l with
 | nil=>rfl
 | cons a r ih=>
  simp only[List.mem_cons,not_or] at h;rw[iL,if_neg (fun e=>h.1 e.symm),ih h.2];rfl
theorem uI {l1 l2:List Int} {b x:Int} (h:b∉l1):iL (l1++b::l2) b x=l1++x::b::l2:=by
 induction l1 with
 | nil=>simp[iL]
 | cons a r ih=>
  simp only[List.mem_cons,not_or] at h;rw[List.cons_append,iL,if_neg (fun e=>h.1 e.symm),ih h.2];rfl
theorem IB (l:List Int) (b:Int) (x:Int) (hb:b=0∨b∈l) (h0:0∉l) (hn:l.Nodup):∃ l1 l2,l=l1++l2∧fs l2=b∧iL l b x=l1++x::l2:=by
 rcases hb with rfl | hb
 ·exact⟨l,[],by simp,rfl,uW h0⟩
 ·obtain⟨l1,l2,rfl⟩:=List.append_of_mem hb;have:b∉l1:=fun hx=>(List.nodup_append.1 hn).2.2 b hx b (by simp) rfl;exact⟨l1,b::l2,rfl,rfl,uI this⟩
/-! Trees. -/
structure GN where
 kind:Int
 name:ByteArray
 attrs:List (ByteArray×ByteArray)
 data:ByteArray
 pa:Int
 kids:List Int
abbrev G:=Int→Option GN
def aj (g:G) (h:Int):List Int:=match g h with | some n=>n.kids | none=>[]
def dI (g:G) (h:Int):Int:=match g h with | some n=>n.pa | none=>0
theorem aR {g:G} {h:Int} {n:GN} (e:g h=some n):aj g h=n.kids:=by unfold aj;rw[e]
theorem fO {g:G} {h:Int} (e:g h=none):aj g h=[]:=by unfold aj;rw[e]
theorem aP {g:G} {h:Int} {n:GN} (e:g h=some n):dI g h=n.pa:=by unfold dI;rw[e]
inductive Up (g:G):Int→List Int→Prop
 | out {h:Int}:g h=none→Up g h []
 | node {h:Int} {n:GN} {l:List Int}:g h=some n→Up g n.pa l→Up g h (h::l)
theorem Up.one {g:G} {h:Int} {l m:List Int} (a:Up g h l) (b:Up g h m):l=m:=by
 induction a generalizing m with
 | out e=>cases b with | out _=>rfl | node e' _=>rw[e] at e';cases e'
 | node e _ ih=>
  cases b with
  | out e'=>rw[e] at e';cases e'
  | node e' b=>rw[e] at e';obtain rfl:=Option.some.inj e';rw[ih b]
theorem Up.mem {g:G} {h x:Int} {l:List Int} (a:Up g h l) (hx:x∈l):(g x).isSome:=by
 induction a with
 | out=>cases hx
 | node e _ ih=>
  rcases List.mem_cons.1 hx with rfl | hx
  ·rw[e];rfl
  ·exact ih hx
structure WF (z:Int) (g:G):Prop where
 zero:g z=none
 up:∀ h n,g h=some n→n.pa≠z→∃ p,g n.pa=some p∧h∈p.kids
 down:∀ h n k,g h=some n→k∈n.kids→∃ m,g k=some m∧m.pa=h
 nodup:∀ h n,g h=some n→n.kids.Nodup
 chain:∀ h,∃ l,Up g h l∧l.length≤128
section
variable {z:Int} {g:G}
theorem WF.pa (w:WF z g) {h:Int} {n:GN} (e:g h=some n):n.pa=z∨∃ p,g n.pa=some p∧h∈p.kids:=by
 by_cases hz:n.pa=z
 ·exact .inl hz
 ·exact .inr (w.up h n e hz)
theorem WF.kG (w:WF z g) {h:Int} {n:GN} (e:g h=some n):z∉n.kids:=fun hz=>by
 obtain⟨m,h1,_⟩:=w.down h n z e hz;rw[w.zero] at h1;cases h1
theorem WF.mX (w:WF z g) (h:Int):(aj g h).Nodup:=by
 cases e:g h with
 | none=>rw[fO e];exact List.nodup_nil
 | some n=>rw[aR e];exact w.nodup h n e
theorem WF.lX (w:WF z g) (h:Int):z∉aj g h:=by
 cases e:g h with
 | none=>rw[fO e];simp
 | some n=>rw[aR e];exact w.kG e
theorem WF.dS (w:WF z g) {h k:Int} (hk:k∈aj g h):∃ m,g k=some m∧m.pa=h:=by
 cases e:g h with
 | none=>rw[fO e] at hk;cases hk
 | some n=>rw[aR e] at hk;exact w.down h n k e hk
theorem WF.tO (w:WF z g) {h:Int} {n:GN} (e:g h=some n) (hp:n.pa≠z):h∈aj g n.pa:=by
 obtain⟨p,h1,h2⟩:=w.up h n e hp;rw[aR h1];exact h2
theorem WF.above (_w:WF z g) {h:Int} {n:GN} (e:g h=some n) {l:List Int} (hl:Up g n.pa l):h∉l:=by
 intro hm;have key:∀ (x:Int) (l:List Int),Up g x l→h∈l→∃ l1 l2,l=l1++h::l2:=fun x l _ hm=>List.append_of_mem hm;have len:∀ (x:Int) (l:List Int),Up g x l→∀ l1 l2,l=l1++h::l2→Up g h (h::l2):=by
  intro x l hu
  induction hu with
  | out _=>intro l1 l2 h1;cases l1<;>cases h1
  | @node y m l e' hu ih=>
   intro l1 l2 h1;cases l1 with
   | nil=>
    injection h1 with h1 h2;subst h1 h2;exact .node e' hu
   | cons a r=>
    injection h1 with h1 h2;exact ih r l2 h2
 obtain⟨l1,l2,e1⟩:=key _ _ hl hm;have u1:=len _ _ hl l1 l2 e1;have u2:Up g h (h::l):=.node e hl;have:=u1.one u2;injection this with _ this;have h3:=congrArg List.length this;have h4:=congrArg List.length e1;simp at h4;omega
theorem WF.iD (w:WF z g) {h:Int} {n:GN} (e:g h=some n):n.pa≠h:=by
 intro e1;obtain⟨l,hl,_⟩:=w.chain n.pa;have:=w.above e hl;rw[e1] at hl;cases hl with
 | out e2=>rw[e] at e2;cases e2
 | node _ _=>simp at this
theorem WF.vJ (w:WF z g) (h:Int):h∉aj g h:=fun hm=>by
 obtain⟨m,h1,h2⟩:=w.dS hm;exact w.iD h1 h2
end
/-! A node's links. -/
structure Sl where
 a:Option Addr
 n:Nat
 c:Nat
abbrev Sl.v (x:Sl):Value:=.slice x.a x.n x.c
structure Nd where
 kind:Int
 name:ByteArray
 av:Sl
 data:ByteArray
 pa:Int
 fi:Int
 la:Int
 pr:Int
 ne:Int
abbrev wD:Nd:=⟨0,⟨#[]⟩,⟨none,0,0⟩,⟨#[]⟩,0,0,0,0,0⟩
def fF (g:G) (av:Int→Sl) (h:Int) (n:GN):Nd:=⟨n.kind,n.name,av h,n.data,n.pa,fs n.kids,gF n.kids,prv (aj g n.pa) h,nu (aj g n.pa) h⟩
def raw (g:G) (av:Int→Sl) (h:Int):Option Nd:=(g h).map (fF g av h)
theorem ah {g:G} {av:Int→Sl} {h:Int} {n:GN} (e:g h=some n):raw g av h=some (fF g av h n):=by unfold raw;rw[e];rfl
theorem aV {g:G} {av:Int→Sl} {h:Int} (e:g h=none):raw g av h=none:=by unfold raw;rw[e];rfl
def upd (R:Int→Option Nd) (h:Int) (f:Nd→Nd):Int→Option Nd:=fun x=>if x=h then (R h).map f else R x
def pI (R:Int→Option Nd) (h:Int) (o:Option Nd):Int→Option Nd:=fun x=>if x=h then o else R x
theorem sS {R:Int→Option Nd} {h:Int} {o:Option Nd}:pI R h o h=o:=if_pos rfl
theorem DC {R:Int→Option Nd} {h x:Int} {o:Option Nd} (e:x≠h):pI R h o x=R x:=if_neg e
theorem upd_same {R:Int→Option Nd} {h:Int} {f:Nd→Nd}:upd R h f h=(R h).map f:=if_pos rfl
theorem upd_ne {R:Int→Option Nd} {h x:Int} {f:Nd→Nd} (e:x≠h):upd R h f x=R x:=if_neg e
theorem kK {R:Int→Option Nd} {h:Int} {f:Nd→Nd} {n:Nd} (e:R h=some n):upd R h f h=some (f n):=by rw[upd_same,e];rfl
theorem dG {R:Int→Option Nd} {h x:Int} {f:Nd→Nd} (e:R x=none):upd R h f x=none:=by
 unfold upd;split
 ·rename_i e1;subst e1;rw[e];rfl
 ·exact e
def jB (g:G) (h:Int):G:=fun x=>if x=h then (g h).map fun n=>{ n with pa:=0 } else if x=dI g h then (g x).map fun n=>{ n with kids:=n.kids.erase h } else g x
def bP (g:G) (p h b:Int):G:=fun x=>if x=h then (g h).map fun n=>{ n with pa:=p } else if x=p then (g p).map fun n=>{ n with kids:=iL n.kids b h } else g x
def pY (R:Int→Option Nd) (p h b pv:Int):Int→Option Nd:=
 let R1:=upd R h fun n=>{ n with pa:=p,pr:=pv,ne:=b }
 let R2:=if pv=0 then upd R1 p fun n=>{ n with fi:=h } else upd R1 pv fun n=>{ n with ne:=h }
 if b=0 then upd R2 p fun n=>{ n with la:=h } else upd R2 b fun n=>{ n with pr:=h }
def vK (R:Int→Option Nd) (h pa pr ne:Int):Int→Option Nd:=
 let R1:=if pr=0 then upd R pa fun n=>{ n with fi:=ne } else upd R pr fun n=>{ n with ne:=ne }
 let R2:=if ne=0 then upd R1 pa fun n=>{ n with la:=pr } else upd R1 ne fun n=>{ n with pr:=pr }
 upd R2 h fun n=>{ n with pa:=0,pr:=0,ne:=0 }
end Tr
end
section
namespace Tr
open Go Go.RowKit
section
variable {g:G} {av:Int→Sl} {p h b:Int} {n q:GN}
theorem F3 (ep:g p=some q) (hp:h≠p) (y:Int):aj (bP g p h b) y=if y=p then iL q.kids b h else aj g y:=by
 unfold aj bP;by_cases h1:y=h
 ·subst h1;rw[if_pos rfl,if_neg hp];cases g y<;>rfl
 ·rw[if_neg h1];by_cases h2:y=p
  ·subst h2;rw[if_pos rfl,if_pos rfl,ep];rfl
  ·rw[if_neg h2,if_neg h2]
theorem F4 (w:WF 0 g) (eh:g h=some n) (hn:n.pa=0) (ep:g p=some q) (hp:h≠p) (hb:b=0∨b∈q.kids):
  raw (bP g p h b) av=pY (raw g av) p h b (if b=0 then gF q.kids else prv q.kids b):=by
 have hnk:h∉q.kids:=fun hm=>by
  obtain⟨m,h1,h2⟩:=w.down p q h ep hm;rw[eh] at h1;cases h1;rw[hn] at h2;rw[←h2,w.zero] at ep;cases ep
 have hz:h≠0:=fun e=>by rw[e,w.zero] at eh;cases eh
 have h0:=w.kG ep;have hnd:=w.nodup p q ep;obtain⟨l1,l2,e1,e2,e3⟩:=IB q.kids b h hb h0 hnd;have h01:0∉l1:=fun hx=>h0 (by rw[e1];simp[hx]);have h02:0∉l2:=fun hx=>h0 (by rw[e1];simp[hx]);have hpv:(if b=0 then gF q.kids else prv q.kids b)=gF l1:=by
  rw[e1] at hnd ⊢
  split
  ·rename_i hb0;have:l2=[]:=tN h02 (by rw[e2,hb0]);rw[this,List.append_nil]
  ·rename_i hb0;cases l2 with
   | nil=>exact absurd e2.symm hb0
   | cons c r=>
    simp only[fs] at e2;subst e2;exact lD (List.nodup_cons.1 (List.nodup_append.1 hnd).2.1).1
 rw[hpv];have Tn:h∉l1++l2:=by rw[←e1];exact hnk
 have hnn:(l1++h::l2).Nodup:=by
  rw[e1] at hnd;simp only[List.mem_append,not_or] at Tn;rw[List.nodup_append] at hnd ⊢;refine⟨hnd.1,List.nodup_cons.2 ⟨Tn.2,hnd.2.1⟩,fun a ha c hc=>?_⟩;rcases List.mem_cons.1 hc with rfl | hc
  ·rintro rfl;exact Tn.1 ha
  ·exact hnd.2.2 a ha c hc
 have h0':0∉l1++h::l2:=by
  simp only[List.mem_append,List.mem_cons,not_or];exact⟨h01,fun e=>hz e.symm,h02⟩
 have hpar:∀ y∈l1++l2,∃ m,g y=some m∧m.pa=p:=fun y hy=>w.down p q y ep (by rw[e1];exact hy);have hpp:p∉l1++l2:=fun hy=>by obtain⟨m,h1,h2⟩:=hpar p hy;exact w.iD h1 h2
 have hv1:gF l1≠0→gF l1∈l1++l2:=fun e=>List.mem_append_left _ (oC e);have hv2:b≠0→b∈l1++l2:=fun e=>List.mem_append_right _ (by rw[←e2] at e ⊢;exact wU e);have hk:=F3 (b:=b) ep hp;funext x;by_cases hx:x=h
 ·subst hx;have e4:bP g p x b x=some { n with pa:=p }:=by unfold bP;rw[if_pos rfl,eh];rfl
  have n1:gF l1≠0→x≠gF l1:=fun e e'=>Tn (e'▸hv1 e);have n2:b≠0→x≠b:=fun e e'=>Tn (e'▸hv2 e);have e5:pY (raw g av) p x b (gF l1) x=some { fF g av x n with pa:=p,pr:=gF l1,ne:=b }:=by
   unfold pY;by_cases c1:gF l1=0<;>by_cases c2:b=0
   ·simp only[if_pos c1,if_pos c2];rw[upd_ne hp,upd_ne hp,kK (ah eh)]
   ·simp only[if_pos c1,if_neg c2];rw[upd_ne (n2 c2),upd_ne hp,kK (ah eh)]
   ·simp only[if_neg c1,if_pos c2];rw[upd_ne hp,upd_ne (n1 c1),kK (ah eh)]
   ·simp only[if_neg c1,if_neg c2];rw[upd_ne (n2 c2),upd_ne (n1 c1),kK (ah eh)]
  rw[e5,ah e4];unfold fF;simp only;rw[hk p,if_pos rfl,e3,lD (fun hm=>Tn (List.mem_append_right _ hm)),gV (fun hm=>Tn (List.mem_append_left _ hm)),e2]
 ·by_cases hxp:x=p
  ·subst hxp;have e4:bP g x h b x=some { q with kids:=l1++h::l2 }:=by unfold bP;rw[if_neg hx,if_pos rfl,ep,←e3];rfl
   have n1:gF l1≠0→x≠gF l1:=fun e e'=>hpp (e'▸hv1 e);have n2:b≠0→x≠b:=fun e e'=>hpp (e'▸hv2 e);have e5:pY (raw g av) x h b (gF l1) x=some { fF g av x q with fi:=if gF l1=0 then h else fs q.kids,la:=if b=0 then h else gF q.kids }:=by
    unfold pY;by_cases c1:gF l1=0<;>by_cases c2:b=0
    ·simp only[if_pos c1,if_pos c2];rw[upd_same,upd_same,upd_ne hx,ah ep];rfl
    ·simp only[if_pos c1,if_neg c2];rw[upd_ne (n2 c2),upd_same,upd_ne hx,ah ep];rfl
    ·simp only[if_neg c1,if_pos c2];rw[upd_same,upd_ne (n1 c1),upd_ne hx,ah ep];rfl
    ·simp only[if_neg c1,if_neg c2];rw[upd_ne (n2 c2),upd_ne (n1 c1),upd_ne hx,ah ep];rfl
   rw[e5,ah e4];unfold fF;simp only;rw[hk q.pa,if_neg (w.iD ep),Tk _ _ _ h01,P6 _ _ _ h02,e2,←e1]
  ·have e4:bP g p h b x=g x:=by unfold bP;rw[if_neg hx,if_neg hxp]
   cases ex:g x with
   | none=>
    have e5:pY (raw g av) p h b (gF l1) x=none:=by
     unfold pY;by_cases c1:gF l1=0<;>by_cases c2:b=0
     ·simp only[if_pos c1,if_pos c2];exact dG (dG (dG (aV ex)))
     ·simp only[if_pos c1,if_neg c2];exact dG (dG (dG (aV ex)))
     ·simp only[if_neg c1,if_pos c2];exact dG (dG (dG (aV ex)))
     ·simp only[if_neg c1,if_neg c2];exact dG (dG (dG (aV ex)))
    rw[e5,aV (e4.trans ex)]
   | some m=>
    rw[ah (e4.trans ex)];have hz:x≠0:=fun e=>by rw[e,w.zero] at ex;cases ex
    have pm:∀ y∈l1++l2,x=y→m.pa=p:=fun y hy e=>by obtain⟨m',h1,h2⟩:=hpar y hy;rw[←e,ex] at h1;cases h1;exact h2
    have e5:pY (raw g av) p h b (gF l1) x=some { fF g av x m with pr:=if x=b then h else prv (aj g m.pa) x,ne:=if x=gF l1 then h else nu (aj g m.pa) x }:=by
     have key:∀ (c:Int) (R:Int→Option Nd) (d:Nd) (f k:Nd→Nd),R x=some d→(if c=0 then upd R p k else upd R c f) x=some (if x=c then f d else d):=by
      intro c R d f k e;by_cases c1:c=0
      ·rw[if_pos c1,if_neg (fun e=>hz (e.trans c1)),upd_ne hxp,e]
      ·rw[if_neg c1];by_cases c2:x=c
       ·subst c2;rw[if_pos rfl,kK e]
       ·rw[if_neg c2,upd_ne c2,e]
     unfold pY;simp only;rw[key b _ _ _ _ (key (gF l1) _ _ _ _ ((upd_ne hx).trans (ah ex)))];by_cases c1:x=gF l1<;>by_cases c2:x=b
     ·simp only[if_pos c1,if_pos c2]<;>rfl
     ·simp only[if_pos c1,if_neg c2]<;>rfl
     ·simp only[if_neg c1,if_pos c2]<;>rfl
     ·simp only[if_neg c1,if_neg c2]<;>rfl
    rw[e5];unfold fF;simp only;rw[hk m.pa];by_cases c:m.pa=p
    ·rw[if_pos c,e3,c,JQ hnn h0' hx,Dz hnn h0' hx,e2,aR ep,←e1];simp[hz]
    ·rw[if_neg c,if_neg (fun e=>c (pm _ (hv2 (by rw[←e];exact hz)) e)),if_neg (fun e=>c (pm _ (hv1 (by rw[←e];exact hz)) e))]
theorem IC (y:Int) (hp:h≠dI g h):aj (jB g h) y=if y=dI g h then (aj g y).erase h else aj g y:=by
 unfold aj jB;by_cases h1:y=h
 ·subst h1;rw[if_pos rfl,if_neg hp];cases g y<;>rfl
 ·rw[if_neg h1];by_cases h2:y=dI g h
  ·subst h2;rw[if_pos rfl,if_pos rfl];cases g (dI g h)<;>rfl
  ·rw[if_neg h2,if_neg h2]
theorem JR (w:WF 0 g) (eh:g h=some n) (hn:n.pa≠0):
  raw (jB g h) av=vK (raw g av) h n.pa (prv (aj g n.pa) h) (nu (aj g n.pa) h):=by
 obtain⟨q,ep,hk⟩:=w.up h n eh hn;have Mi:=aP eh;obtain⟨p,hpe⟩:∃ p,n.pa=p:=⟨_,rfl⟩
 have hps:h≠p:=fun e=>w.iD eh (hpe.trans e.symm);rw[hpe] at hn ep Mi ⊢;have hq:=aR ep;obtain⟨l1,l2,e1⟩:=List.append_of_mem hk;have hnn:=w.nodup p q ep;have h0':=w.kG ep;have hpar:∀ y∈q.kids,∃ m,g y=some m∧m.pa=p:=fun y hy=>w.down p q y ep hy;have hpp:p∉q.kids:=fun hy=>by obtain⟨m,h1,h2⟩:=hpar p hy;exact w.iD h1 h2
 rw[hq];rw[e1] at hnn h0';have h1n:h∉l1:=fun hx=>(List.nodup_append.1 hnn).2.2 h hx h (by simp) rfl;have h2n:h∉l2:=(List.nodup_cons.1 (List.nodup_append.1 hnn).2.1).1;have h01:0∉l1:=fun hx=>h0' (by simp[hx]);have h02:0∉l2:=fun hx=>h0' (by simp[hx]);rw[e1,lD h2n,gV h1n];have hv1:gF l1≠0→gF l1∈l1:=fun e=>oC e;have hv2:fs l2≠0→fs l2∈l2:=fun e=>wU e;have m1:∀ y∈l1,y∈q.kids:=fun y hy=>by rw[e1];simp[hy]
 have m2:∀ y∈l2,y∈q.kids:=fun y hy=>by rw[e1];simp[hy]
 have hkk:=fun y=>IC (g:=g) (h:=h) y (by rw[Mi];exact hps);rw[Mi] at hkk;have hke:q.kids.erase h=l1++l2:=by rw[e1];exact xL h1n
 funext x;by_cases hx:x=h
 ·subst hx;have e4:jB g x x=some { n with pa:=0 }:=by unfold jB;rw[if_pos rfl,eh];rfl
  have n1:gF l1≠0→x≠gF l1:=fun e e'=>h1n (e'▸hv1 e);have n2:fs l2≠0→x≠fs l2:=fun e e'=>h2n (e'▸hv2 e);have e5:vK (raw g av) x p (gF l1) (fs l2) x=some { fF g av x n with pa:=0,pr:=0,ne:=0 }:=by
   unfold vK;simp only;rw[upd_same];by_cases c1:gF l1=0<;>by_cases c2:fs l2=0
   ·simp only[if_pos c1,if_pos c2];rw[upd_ne hps,upd_ne hps,ah eh];rfl
   ·simp only[if_pos c1,if_neg c2];rw[upd_ne (n2 c2),upd_ne hps,ah eh];rfl
   ·simp only[if_neg c1,if_pos c2];rw[upd_ne hps,upd_ne (n1 c1),ah eh];rfl
   ·simp only[if_neg c1,if_neg c2];rw[upd_ne (n2 c2),upd_ne (n1 c1),ah eh];rfl
  rw[e5,ah e4];unfold fF;simp only;have e6:aj (jB g x) 0=[]:=by rw[hkk 0,if_neg (fun e=>hn e.symm)];exact fO w.zero
  rw[e6];rfl
 ·by_cases hxp:x=p
  ·subst hxp;have e4:jB g h x=some { q with kids:=l1++l2 }:=by unfold jB;rw[if_neg hx,if_pos Mi.symm,ep,←hke];rfl
   have n1:gF l1≠0→x≠gF l1:=fun e e'=>hpp (m1 _ (e'▸hv1 e));have n2:fs l2≠0→x≠fs l2:=fun e e'=>hpp (m2 _ (e'▸hv2 e));have e5:vK (raw g av) h x (gF l1) (fs l2) x=some { fF g av x q with fi:=if gF l1=0 then fs l2 else fs q.kids,la:=if fs l2=0 then gF l1 else gF q.kids }:=by
    unfold vK;simp only;rw[upd_ne hx];by_cases c1:gF l1=0<;>by_cases c2:fs l2=0
    ·simp only[if_pos c1,if_pos c2];rw[upd_same,upd_same,ah ep];rfl
    ·simp only[if_pos c1,if_neg c2];rw[upd_ne (n2 c2),upd_same,ah ep];rfl
    ·simp only[if_neg c1,if_pos c2];rw[upd_same,upd_ne (n1 c1),ah ep];rfl
    ·simp only[if_neg c1,if_neg c2];rw[upd_ne (n2 c2),upd_ne (n1 c1),ah ep];rfl
   rw[e5,ah e4];unfold fF;simp only;rw[hkk q.pa,if_neg (w.iD ep),e1];have f1:fs (l1++l2)=if gF l1=0 then fs l2 else fs (l1++h::l2):=by
    by_cases c1:gF l1=0
    ·rw[if_pos c1,zI h01 c1];rfl
    ·rw[if_neg c1,Ce _ _ (fun e=>c1 (by rw[e];rfl)),Ce _ _ (fun e=>c1 (by rw[e];rfl))]
   have f2:gF (l1++l2)=if fs l2=0 then gF l1 else gF (l1++h::l2):=by
    by_cases c2:fs l2=0
    ·rw[if_pos c2,tN h02 c2,List.append_nil]
    ·have hne:l2≠[]:=fun e=>c2 (by rw[e];rfl);rw[if_neg c2,lF _ _ hne,show l1++h::l2=(l1++[h])++l2 from by simp,lF _ _ hne]
   rw[f1,f2]
  ·have e4:jB g h x=g x:=by unfold jB;rw[if_neg hx,if_neg (by rw[Mi];exact hxp)]
   cases ex:g x with
   | none=>
    have e5:vK (raw g av) h p (gF l1) (fs l2) x=none:=by
     unfold vK;refine dG ?_;by_cases c1:gF l1=0<;>by_cases c2:fs l2=0
     ·simp only[if_pos c1,if_pos c2];exact dG (dG (aV ex))
     ·simp only[if_pos c1,if_neg c2];exact dG (dG (aV ex))
     ·simp only[if_neg c1,if_pos c2];exact dG (dG (aV ex))
     ·simp only[if_neg c1,if_neg c2];exact dG (dG (aV ex))
    rw[e5,aV (e4.trans ex)]
   | some m=>
    rw[ah (e4.trans ex)];have hz:x≠0:=fun e=>by rw[e,w.zero] at ex;cases ex
    have pm:∀ y∈q.kids,x=y→m.pa=p:=fun y hy e=>by obtain⟨m',h1,h2⟩:=hpar y hy;rw[←e,ex] at h1;cases h1;exact h2
    have e5:vK (raw g av) h p (gF l1) (fs l2) x=some { fF g av x m with pr:=if x=fs l2 then gF l1 else prv (aj g m.pa) x,ne:=if x=gF l1 then fs l2 else nu (aj g m.pa) x }:=by
     have key:∀ (c:Int) (R:Int→Option Nd) (d:Nd) (f k:Nd→Nd),R x=some d→(if c=0 then upd R p k else upd R c f) x=some (if x=c then f d else d):=by
      intro c R d f k e;by_cases c1:c=0
      ·rw[if_pos c1,if_neg (fun e=>hz (e.trans c1)),upd_ne hxp,e]
      ·rw[if_neg c1];by_cases c2:x=c
       ·subst c2;rw[if_pos rfl,kK e]
       ·rw[if_neg c2,upd_ne c2,e]
     unfold vK;simp only;rw[upd_ne hx,key (fs l2) _ _ _ _ (key (gF l1) _ _ _ _ (ah ex))];by_cases c1:x=gF l1<;>by_cases c2:x=fs l2
     ·simp only[if_pos c1,if_pos c2]<;>rfl
     ·simp only[if_pos c1,if_neg c2]<;>rfl
     ·simp only[if_neg c1,if_pos c2]<;>rfl
     ·simp only[if_neg c1,if_neg c2]<;>rfl
    rw[e5];unfold fF;simp only;rw[hkk m.pa];by_cases c:m.pa=p
    ·rw[if_pos c,c,hq,hke,e1,JQ hnn h0' hx,Dz hnn h0' hx];have a1:nu (l1++l2) x=if x=gF l1 then fs l2 else if x=gF l1∧x≠0 then h else nu (l1++l2) x:=by
      by_cases d:x=gF l1
      ·rw[if_pos d];have hm:gF l1∈l1:=oC (by rw[←d];exact hz);obtain⟨a,c,e⟩:=List.append_of_mem hm;have hl:l1.Nodup:=(List.nodup_append.1 hnn).1;have hc:c=[]:=by
        cases c with
        | nil=>rfl
        | cons y r=>
         rw[e,show a++gF l1::y::r=(a++[gF l1])++(y::r) from by simp] at hl;have h3:gF l1∈y::r:=by
          have:gF l1=gF (y::r):=by
           have:=lF (a++[gF l1]) (y::r) (by simp);rw[←this,show (a++[gF l1])++(y::r)=a++gF l1::y::r from by simp,←e]
          rw[this];exact oC (by rw[←this,←d];exact hz)
         exact absurd rfl ((List.nodup_append.1 hl).2.2 (gF l1) (by simp) (gF l1) h3)
       rw[hc] at e;have ha:gF l1∉a:=fun hx=>by
        rw[e] at hl;exact (List.nodup_append.1 hl).2.2 _ hx _ (by simp) rfl
       rw[d]
       conv=>lhs;arg 1;rw[e]
       rw[List.append_assoc];exact gV ha
      ·rw[if_neg d,if_neg (fun e=>d e.1)]
     have a2:prv (l1++l2) x=if x=fs l2 then gF l1 else if x=fs l2∧x≠0 then h else prv (l1++l2) x:=by
      by_cases d:x=fs l2
      ·rw[if_pos d];cases l2 with
       | nil=>exact absurd d hz
       | cons y r=>
        have d':x=y:=d;subst d';exact lD (List.nodup_cons.1 (List.nodup_cons.1 (List.nodup_append.1 hnn).2.1).2).1
      ·rw[if_neg d,if_neg (fun e=>d e.1)]
     rw[←a1,←a2]
    ·rw[if_neg c,if_neg (fun e=>c (pm _ (m2 _ (hv2 (by rw[←e];exact hz))) e)),if_neg (fun e=>c (pm _ (m1 _ (hv1 (by rw[←e];exact hz))) e))]
end
end Tr
end
section
open Go Go.RowKit
def CZ (x:Bool×Tr.Nd):List Value:=[.bool x.1,.int .i64 x.2.kind,.string x.2.name,x.2.av.v,.string x.2.data,.int .i64 x.2.pa,.int .i64 x.2.fi,.int .i64 x.2.la,.int .i64 x.2.pr,.int .i64 x.2.ne]
theorem DF:∀ c,(CZ c).length=10:=fun _=>rfl
abbrev Pj (d:Tr.Nd):Value:=.agg #[.int .i64 d.kind,.string d.name,.slice d.av.a d.av.n d.av.c,.string d.data,.int .i64 d.pa,.int .i64 d.fi,.int .i64 d.la,.int .i64 d.pr,.int .i64 d.ne]
abbrev Rn (d:Tr.Nd):Array Value:=#[.int .i64 d.kind,.string d.name,.slice d.av.a d.av.n d.av.c,.string d.data,.int .i64 d.pa,.int .i64 d.fi,.int .i64 d.la,.int .i64 d.pr,.int .i64 d.ne]
def so (o:Option Tr.Nd):Bool×Tr.Nd:=match o with | some d=>(true,d) | none=>(false,Tr.wD)
def mG (b s:Int) (n:Nat) (R:Int→Option Tr.Nd):List Value:=bS CZ n fun i=>so (R (Ar.hdl b s (i:Int)))
theorem yF {b s:Int} {i j:Nat} (hi:i≤100000) (hj:j≤100000) (e:Ar.hdl b s (i:Int)=Ar.hdl b s (j:Int)):i=j:=by
 have h1:=Ar.nR b s i (by omega) (by omega);have h2:=Ar.nR b s j (by omega) (by omega);rw[e,h2] at h1;omega
theorem ou {b s:Int} {i:Nat} (hi:i≤100000):1≤Ar.hdl b s (i:Int)∧Ar.hdl b s (i:Int)≤2147483648000:=by
 have h1:=Ar.KX b s i;have h2:=Ar.mW b;have h3:=Ar.Dw s i (by omega) (by omega);unfold Ar.hdl at h1 ⊢;rw[if_neg (by omega)] at h1 ⊢;omega
structure Sound (b s:Int) (n:Nat) (R:Int→Option Tr.Nd) (fr:List Nat) (live:Nat):Prop where
 dom:∀ h,(R h).isSome→∃ i:Nat,i<n∧Ar.hdl b s (i:Int)=h
 nodup:fr.Nodup
 free:∀ i∈fr,i<n∧R (Ar.hdl b s (i:Int))=none
 count:live+fr.length=n
 le:n≤100000
theorem Sound.out {b s:Int} {n:Nat} {R:Int→Option Tr.Nd} {fr:List Nat} {live:Nat} (h:Sound b s n R fr live) {i:Nat} (hi:n≤i) (hi2:i≤100000):R (Ar.hdl b s (i:Int))=none:=by
 cases e:R (Ar.hdl b s (i:Int)) with
 | none=>rfl
 | some d=>
  obtain⟨j,h1,h2⟩:=h.dom _ (by rw[e];rfl);have:=yF (by have:=h.le;omega) hi2 h2;omega
theorem Sound.zero {b s:Int} {n:Nat} {R:Int→Option Tr.Nd} {fr:List Nat} {live:Nat} (h:Sound b s n R fr live) {x:Int} (hx:x≤0):R x=none:=by
 cases e:R x with
 | none=>rfl
 | some d=>
  obtain⟨j,h1,h2⟩:=h.dom x (by rw[e];rfl);have:=(ou (b:=b) (s:=s) (i:=j) (by have:=h.le;omega)).1;omega
theorem Sound.idx {b s:Int} {n:Nat} {R:Int→Option Tr.Nd} {fr:List Nat} {live:Nat} (h:Sound b s n R fr live) (x:Int):
  (∃ i:Nat,Ar.idx b s x=i∧i<n∧Ar.hdl b s (i:Int)=x)∨(R x=none∧(Ar.idx b s x<0∨(0≤Ar.idx b s x∧(n:Int)≤Ar.idx b s x))):=by
 have hr:=Ar.Cb b s x;by_cases h1:Ar.idx b s x = -1
 ·refine .inr ⟨?_,.inl (by omega)⟩;cases e:R x with
  | none=>rfl
  | some d=>
   obtain⟨j,h2,h3⟩:=h.dom x (by rw[e];rfl);have:=Ar.nR b s j (by omega) (by have:=h.le;omega);rw[h3] at this;omega
 ·obtain⟨h2,h3,h4⟩:=Ar.zC b s x h1;by_cases h5:Ar.idx b s x<n
  ·exact .inl ⟨(Ar.idx b s x).toNat,by omega,by omega,by rw[Int.toNat_of_nonneg h2];exact h4⟩
  ·refine .inr ⟨?_,.inr ⟨h2,by omega⟩⟩;cases e:R x with
   | none=>rfl
   | some d=>
    obtain⟨j,h6,h7⟩:=h.dom x (by rw[e];rfl);have:=Ar.nR b s j (by omega) (by have:=h.le;omega);rw[h7] at this;omega
structure TV (base:Nat) (w:World) (B:Nat) (b s:Int) (vs:Value) (n:Nat) (R:Int→Option Tr.Nd) (vf:Value) (fr:List Nat) (live:Nat) (root:Int):Prop where
 var:Whole w B #[.int .i64 b,.int .i64 s,vs,vf,.int .i64 live,.int .i64 root] 83
 low:base≤B
 row:w.ownsRow base 158 10 vs n (mG b s n R)
 free:w.ownsRow base 3 1 vf fr.length (nums fr)
def aD (B:Nat) (vs vf:Value):Nat→Prop:=fun k=>k=B∨vs.ownBlock=some k∨vf.ownBlock=some k
section
variable {base B n live:Nat} {w w1 w5:World} {b s root:Int} {vs vf v5:Value} {R:Int→Option Tr.Nd} {fr fr':List Nat}
theorem TV.lt (h:TV base w B b s vs n R vf fr live root):∀ k,aD B vs vf k→base≤k∧k<w.heap.size:=by
 rintro k (rfl | hk | hk)
 ·exact⟨h.low,h.var.lt⟩
 ·exact h.row.lt k hk
 ·exact h.free.lt k hk
theorem TV.turns {S:Nat→Prop} (h:TV base w B b s vs n R vf fr live root) (ht:Turns S w w1) (hn:∀ k,aD B vs vf k→¬ S k):TV base w1 B b s vs n R vf fr live root:=
 ⟨h.var.turns ht (hn B (.inl rfl)),h.low,cB h.row ht (fun k hk=>hn k (.inr (.inl hk))),cB h.free ht (fun k hk=>hn k (.inr (.inr hk)))⟩
theorem TV.below (h:TV base w B b s vs n R vf fr live root) (hb:Below w.heap.size w w1):TV base w1 B b s vs n R vf fr live root:=
 h.turns (S:=fun _=>False) (.of_below hb) (fun _ _=>id)
theorem TV.cells (h:TV base w B b s vs n R vf fr live root):w.cell? ⟨B,0,none⟩=some (.int .i64 b)∧w.cell? ⟨B,1,none⟩=some (.int .i64 s)∧w.cell? ⟨B,2,none⟩=some vs∧w.cell? ⟨B,3,none⟩=some vf∧w.cell? ⟨B,4,none⟩=some (.int .i64 live)∧w.cell? ⟨B,5,none⟩=some (.int .i64 root):=
 ⟨h.var.cell 0,h.var.cell 1,h.var.cell 2,h.var.cell 3,h.var.cell 4,h.var.cell 5⟩
theorem TV.slices (h:TV base w B b s vs n R vf fr live root):∃ A c A' c',vs=.slice A n c∧vf=.slice A' fr.length c':=by
 obtain⟨A,c,e⟩:=aF (aH h.row);obtain⟨A',c',e'⟩:=aF (aH h.free);exact⟨A,c,A',c',e,e'⟩
theorem TV.IE (h:TV base w B b s vs n R vf fr live root) (h1:Below w.heap.size w w1) (g:w1.grownBy w5 vs.ownBlock) (o:w5.ownsRow base 158 10 v5 (n+1) (mG b s (n+1) R)) (f:mI w1 vs v5):
  Whole w5 B #[.int .i64 b,.int .i64 s,vs,vf,.int .i64 live,.int .i64 root] 83∧TV base (w5.setCell ⟨B,2,none⟩ v5) B b s v5 (n+1) R vf fr live root∧ay w (w5.setCell ⟨B,2,none⟩ v5) (aD B vs vf) (aD B v5 vf):=by
 obtain⟨k1,k2,k3,k4⟩:=h.below h1;have t1:(158:TypeId)≠83:=by decide
 have t2:(3:TypeId)≠83:=by decide
 have t3:(3:TypeId)≠158:=by decide
 have hW:Whole w5 B #[.int .i64 b,.int .i64 s,vs,vf,.int .i64 live,.int .i64 root] 83:=k1.grown g (fun e=>bH k3 k1 t1 e.symm);have hvf:=k4.kept g (own_ne k4 k3 t3);have gp:w5.grownBy (w5.setCell ⟨B,2,none⟩ v5) (some B):=aL (ak (Below.refl w5.heap.size w5) _) 2 v5;have o':=o.kept gp (.inr (bH o hW t1));have aad:=hvf.kept gp (.inr (bH hvf hW t2));refine⟨hW,⟨hW.put 2 v5,k2,o',aad⟩,?_,?_⟩
 ·have a1:Turns (aD B vs vf) w w1:=.of_below h1;have a2:Turns (aD B vs vf) w1 w5:=.aZ g (fun k hk=>.inr (.inl hk));have a3:Turns (aD B vs vf) w5 (w5.setCell ⟨B,2,none⟩ v5):=.aZ gp (fun k hk=>.inl (by simpa using hk.symm));exact (a1.trans a2 (fun _ _ x=>x) (fun _ _ x=>x)).trans a3 (fun _ _ x=>x) (fun _ _ x=>x)
 ·rintro k hk (rfl | hx | hx)
  ·exact .inl rfl
  ·rcases f with f | f
   ·exact .inr (.inl (f▸hx))
   ·exact absurd (Nat.lt_of_lt_of_le hk h1.size) (Nat.not_lt.2 (f k hx))
  ·exact .inr (.inr hx)
theorem TV.BD (h:TV base w B b s vs n R vf fr live root) (h1:Below w.heap.size w w1) (g:w1.grownBy w5 vf.ownBlock) (o:w5.ownsRow base 3 1 v5 fr'.length (nums fr')) (f:mI w1 vf v5):
  Whole w5 B #[.int .i64 b,.int .i64 s,vs,vf,.int .i64 live,.int .i64 root] 83∧TV base (w5.setCell ⟨B,3,none⟩ v5) B b s vs n R v5 fr' live root∧ay w (w5.setCell ⟨B,3,none⟩ v5) (aD B vs vf) (aD B vs v5):=by
 obtain⟨k1,k2,k3,k4⟩:=h.below h1;have t1:(158:TypeId)≠83:=by decide
 have t2:(3:TypeId)≠83:=by decide
 have t3:(3:TypeId)≠158:=by decide
 have hW:Whole w5 B #[.int .i64 b,.int .i64 s,vs,vf,.int .i64 live,.int .i64 root] 83:=k1.grown g (fun e=>bH k4 k1 t2 e.symm);have hvs:=k3.kept g (own_ne k3 k4 t3.symm);have gp:w5.grownBy (w5.setCell ⟨B,3,none⟩ v5) (some B):=aL (ak (Below.refl w5.heap.size w5) _) 3 v5;have o':=o.kept gp (.inr (bH o hW t2));have aae:=hvs.kept gp (.inr (bH hvs hW t1));refine⟨hW,⟨hW.put 3 v5,k2,aae,o'⟩,?_,?_⟩
 ·have a1:Turns (aD B vs vf) w w1:=.of_below h1;have a2:Turns (aD B vs vf) w1 w5:=.aZ g (fun k hk=>.inr (.inr hk));have a3:Turns (aD B vs vf) w5 (w5.setCell ⟨B,3,none⟩ v5):=.aZ gp (fun k hk=>.inl (by simpa using hk.symm));exact (a1.trans a2 (fun _ _ x=>x) (fun _ _ x=>x)).trans a3 (fun _ _ x=>x) (fun _ _ x=>x)
 ·rintro k hk (rfl | hx | hx)
  ·exact .inl rfl
  ·exact .inr (.inl hx)
  ·rcases f with f | f
   ·exact .inr (.inr (f▸hx))
   ·exact absurd (Nat.lt_of_lt_of_le hk h1.size) (Nat.not_lt.2 (f k hx))
theorem TV.counted (h:TV base w B b s vs n R vf fr live root) (aG:Nat) (z:Int) (hz:z=(aG:Int)):
  TV base (w.setCell ⟨B,4,none⟩ (.int .i64 z)) B b s vs n R vf fr aG root∧ay w (w.setCell ⟨B,4,none⟩ (.int .i64 z)) (aD B vs vf) (aD B vs vf):=by
 subst hz;have gp:w.grownBy (w.setCell ⟨B,4,none⟩ (.int .i64 aG)) (some B):=aL (ak (Below.refl w.heap.size w) _) 4 _;exact⟨⟨h.var.put 4 _,h.low,h.row.kept gp (.inr (bH h.row h.var (by decide))),h.free.kept gp (.inr (bH h.free h.var (by decide)))⟩,.pU (.aZ gp (fun k hk=>.inl (by simpa using hk.symm)))⟩
theorem TV.rooted (h:TV base w B b s vs n R vf fr live root) (root':Int):
  TV base (w.setCell ⟨B,5,none⟩ (.int .i64 root')) B b s vs n R vf fr live root'∧ay w (w.setCell ⟨B,5,none⟩ (.int .i64 root')) (aD B vs vf) (aD B vs vf):=by
 have gp:w.grownBy (w.setCell ⟨B,5,none⟩ (.int .i64 root')) (some B):=aL (ak (Below.refl w.heap.size w) _) 5 _;exact⟨⟨h.var.put 5 _,h.low,h.row.kept gp (.inr (bH h.row h.var (by decide))),h.free.kept gp (.inr (bH h.free h.var (by decide)))⟩,.pU (.aZ gp (fun k hk=>.inl (by simpa using hk.symm)))⟩
def storeAll (w:World) (g k:Nat):List Value→World
 | []=>w
 | a::r=>storeAll (w.setCell ⟨g,k,none⟩ a) g (k+1) r
theorem DI {e:TypeId} {size g c n:Nat} (us:List Value):∀ {w:World} {k:Nat} {xs:List Value},w.ownsRow base e size (.slice (some ⟨g,0,none⟩) n c) n xs→
  (storeAll w g k us).ownsRow base e size (.slice (some ⟨g,0,none⟩) n c) n (qL xs k us)∧w.grownBy (storeAll w g k us) (some g):=by
 induction us with
 | nil=>intro w k xs h;exact⟨h,ak (Below.refl w.heap.size w) _⟩
 | cons a r ih=>
  intro w k xs h;obtain⟨o,gp⟩:=h.stored k a;obtain⟨o2,gp2⟩:=ih (k:=k+1) o;exact⟨o2,FW gp gp2⟩
theorem TV.stored {g c:Nat} {R':Int→Option Tr.Nd} {w':World} (h:TV base w B b s (.slice (some ⟨g,0,none⟩) n c) n R vf fr live root)
  (o:w'.ownsRow base 158 10 (.slice (some ⟨g,0,none⟩) n c) n (mG b s n R')) (gp:w.grownBy w' (some g)):
  TV base w' B b s (.slice (some ⟨g,0,none⟩) n c) n R' vf fr live root∧ay w w' (aD B (.slice (some ⟨g,0,none⟩) n c) vf) (aD B (.slice (some ⟨g,0,none⟩) n c) vf):=by
 have hne:=bH h.row h.var (by decide);have hk4:=own_ne h.free h.row (by decide);exact⟨⟨h.var.grown gp (fun e=>hne (by simpa [Value.ownBlock] using e.symm)),h.low,o,h.free.kept gp (by simpa [Value.ownBlock] using hk4)⟩,.pU (.aZ gp (fun k hk=>.inr (.inl (by simpa [Value.ownBlock] using hk))))⟩
theorem P7 (d:Tr.Nd):so (some d)=(true,d):=rfl
theorem TV.EO {g c:Nat} {i:Nat} {o:Option Tr.Nd} (h:TV base w B b s (.slice (some ⟨g,0,none⟩) n c) n R vf fr live root) (hi:i<n) (hn:n≤100000) {w':World} (hw:storeAll w g (i*10) (CZ (so o))=w'):
  TV base w' B b s (.slice (some ⟨g,0,none⟩) n c) n (Tr.pI R (Ar.hdl b s (i:Int)) o) vf fr live root∧ay w w' (aD B (.slice (some ⟨g,0,none⟩) n c) vf) (aD B (.slice (some ⟨g,0,none⟩) n c) vf):=by
 obtain⟨o1,g1⟩:=DI (CZ (so o)) (k:=i*10) h.row;rw[hw] at o1 g1;refine h.stored ?_ g1;have e:qL (mG b s n R) (i*10) (CZ (so o))=mG b s n (Tr.pI R (Ar.hdl b s (i:Int)) o):=by
  unfold mG;rw[AZ DF _ _ hi];refine je fun j hj=>?_;by_cases e:j=i
  ·subst e;rw[if_pos rfl,Tr.sS]
  ·rw[if_neg e,Tr.DC (fun e'=>e (yF (by omega) (by omega) e'))]
 rw[←e];exact o1
theorem TV.K3 {g c:Nat} {i j:Nat} {d d':Tr.Nd} {v:Value} (h:TV base w B b s (.slice (some ⟨g,0,none⟩) n c) n R vf fr live root) (hi:i<n) (hn:n≤100000) (hj:j<10) (hd:R (Ar.hdl b s (i:Int))=some d) (f:Tr.Nd→Tr.Nd) (hf:f d=d') (hv:CZ (true,d')=(CZ (true,d)).set j v):
  TV base (w.setCell ⟨g,i*10+j,none⟩ v) B b s (.slice (some ⟨g,0,none⟩) n c) n (Tr.upd R (Ar.hdl b s (i:Int)) f) vf fr live root∧ay w (w.setCell ⟨g,i*10+j,none⟩ v) (aD B (.slice (some ⟨g,0,none⟩) n c) vf) (aD B (.slice (some ⟨g,0,none⟩) n c) vf):=by
 obtain⟨o1,g1⟩:=h.row.stored (i*10+j) v;refine h.stored ?_ g1;have e:(mG b s n R).set (i*10+j) v=mG b s n (Tr.upd R (Ar.hdl b s (i:Int)) f):=by
  unfold mG;rw[qH DF _ (true,d') v hi hj (by rw[hd];exact hv)];refine je fun k hk=>?_;by_cases e:k=i
  ·subst e;rw[if_pos rfl,Tr.kK hd,hf];rfl
  ·rw[if_neg e,Tr.upd_ne (fun e'=>e (yF (by omega) (by omega) e'))]
 rw[←e];exact o1
theorem TV.slot {A:Option Addr} {c:Nat} (h:TV base w B b s (.slice A n c) n R vf fr live root) (hl:0<n):∃ g,A=some ⟨g,0,none⟩∧g≠B∧g<w.heap.size∧∀ i j,i<n→j<10→w.cell? ⟨g,i*10+j,none⟩=(CZ (so (R (Ar.hdl b s (i:Int)))))[j]?∧w.frozen? ⟨g,i*10+j,none⟩=false:=by
 obtain⟨g,rfl,hlt,_⟩:=iY (aH h.row) hl;refine⟨g,rfl,fun e=>bH h.row h.var (by decide) (by simp[Value.ownBlock,e]),hlt,fun i j hi hj=>⟨?_,h.row.frozenAt _⟩⟩;have hb:i*10+j<n*10:=by omega
 rw[h.row.cellAt _ hb];exact jL DF _ hi hj
end
end
section
open Go.RowKit
theorem K4:(Tryz.prog.info? 158).map (fun i=>(i.zero,i.size,i.bytes))=some (some (.agg #[.bool false,.int .i64 0,.string ⟨#[]⟩,.slice none 0 0,.string ⟨#[]⟩,.int .i64 0,.int .i64 0,.int .i64 0,.int .i64 0,.int .i64 0]),10,112):=by kernel_rfl
theorem Js:(Tryz.prog.info? 3).map (fun i=>(i.zero,i.size,i.bytes))=some (some (.int .i64 0),1,8):=by kernel_rfl
def eB (n:Nat) (fr:List Nat):Nat×List Nat×Nat:=match fr.getLast? with | none=>(n+1,[],n) | some i=>(n,fr.dropLast,i)
theorem zJ (n:Nat):eB n []=(n+1,[],n):=rfl
theorem Cg (n:Nat) (L:List Nat) (i:Nat):eB n (L++[i])=(n,L,i):=by unfold eB;simp
theorem Nz (base B:Nat) (b s root:Int) (live n:Nat) (R:Int→Option Tr.Nd) (fr:List Nat) (vs vf:Value) (w:World) (hM:TV base w B b s vs n R vf fr live root) (hS:Sound b s n R fr live) (hb:base≤w.heap.size) (hl:n<100000):
  Calls Tryz.prog 155 #[.pointer (some ⟨B,0,none⟩)] w fun e w'=>∃ vs' bN,e=.returned (.int .i64 ((eB n fr).2.2:Nat))∧TV base w' B b s vs' (eB n fr).1 R bN (eB n fr).2.1 live root∧ay w w' (aD B vs vf) (aD B vs' bN):=by
 obtain⟨A,c,A',c',rfl,rfl⟩:=hM.slices;obtain⟨_,_,k2,k3,_⟩:=hM.cells;obtain⟨i0,hi0,hz0,hz1,hz2⟩:=info_parts K4
 go_enter Tryz.func155,Tryz.ntmps155
 by_cases hz:fr=[]
 ·subst hz;rw[zJ];simp only[List.length_nil] at hM k3 ⊢;have hout:=hS.out (i:=n) (Nat.le_refl _) (by omega);have hs1:(w.alloc (.cells #[.bool false,.int .i64 0,.string ⟨#[]⟩,.slice none 0 0,.string ⟨#[]⟩,.int .i64 0,.int .i64 0,.int .i64 0,.int .i64 0,.int .i64 0] 158)).ownsRow 0 158 10 (.slice (some ⟨w.heap.size,0,none⟩) 1 1) 1 (CZ (false,Tr.wD)):=World.ownsRow_lit w #[.bool false,.int .i64 0,.string ⟨#[]⟩,.slice none 0 0,.string ⟨#[]⟩,.int .i64 0,.int .i64 0,.int .i64 0,.int .i64 0,.int .i64 0] 1 (Nat.zero_le _) (by unfold maxLen;omega) rfl;have hone:∀ u∈CZ (false,Tr.wD),u.oneCell'=true:=fun u hu=>by
   simp only[CZ,List.mem_cons,List.not_mem_nil,or_false] at hu;rcases hu with rfl | rfl | rfl | rfl | rfl | rfl | rfl | rfl | rfl | rfl<;>rfl
  have hB1:=(Below.refl _ w).alloc (Nat.le_refl _) (.cells #[.bool false,.int .i64 0,.string ⟨#[]⟩,.slice none 0 0,.string ⟨#[]⟩,.int .i64 0,.int .i64 0,.int .i64 0,.int .i64 0,.int .i64 0] 158);have hM1:=hM.below hB1;have hcb:base≤(w.alloc (.cells #[.bool false,.int .i64 0,.string ⟨#[]⟩,.slice none 0 0,.string ⟨#[]⟩,.int .i64 0,.int .i64 0,.int .i64 0,.int .i64 0,.int .i64 0] 158)).heap.size:=Nat.le_trans hb hB1.size;clear hS
  go_wp2_with (at_builtin;refine dQ rfl _ _ 79 rfl base 0 158 i0 (.agg #[.bool false,.int .i64 0,.string ⟨#[]⟩,.slice none 0 0,.string ⟨#[]⟩,.int .i64 0,.int .i64 0,.int .i64 0,.int .i64 0,.int .i64 0]) 10 112 Tryz.underlying79 hi0 hz0 hz1 hz2 rfl (by decide) _ _ _ rfl hM1.row _ 1 (CZ (false,Tr.wD)) rfl hs1 hone ?c3 ?c4 hcb ?_)
  case c3=>unfold maxLen;omega
  case c4=>omega
  intro v5 w5 o5 g5 f5;have e5:mG b s n R++CZ (false,Tr.wD)=mG b s (n+1) R:=by
   unfold mG;rw[ow,hout];rfl
  rw[e5] at o5;obtain⟨A5,c5,rfl⟩:=aF (aH o5);obtain⟨Ew,Jt,hst⟩:=hM.IE hB1 g5 o5 f5;obtain⟨w6,kQ⟩:∃ w6,w5.setCell ⟨B,2,none⟩ (.slice A5 (n+1) c5)=w6:=⟨_,rfl⟩
  have y2:w5.cell? ⟨B,2,none⟩=some (.slice A n c):=Ew.cell 2;have z2:=Ew.free 2;rw[kQ] at Jt hst;obtain⟨_,_,q2,_,_⟩:=Jt.cells;have HM:=zh Jt;clear hM hM1 Jt k2 k3 hs1 o5 g5 f5 Ew e5 hout;go_wp2_with fail
  go_ret
  exact⟨_,_,by go_num,HM.out,hst⟩
 ·obtain⟨L,i,rfl⟩:∃ L i,fr=L++[i]:=⟨fr.dropLast,fr.getLast hz,(List.dropLast_concat_getLast hz).symm⟩
  rw[Cg];have hfl:(L++[i]).length=L.length+1:=by simp
  have hcn:=hS.count;clear hz hS;have hvf:=hM.free;rw[hfl] at k3 hvf hcn;obtain⟨m,hm⟩:∃ m,L.length=m:=⟨_,rfl⟩
  rw[hm] at k3 hvf hcn;obtain⟨g,hg,_,hc⟩:=iY (aH hvf) (by omega);subst hg;have hc':=hc m (.int .i64 (i:Int)) (by rw[nums_append,←hm];simp[nums]);have hcap:=PY hvf;have Wy:w.ownsRow base 3 1 (.slice (some ⟨g,0,none⟩) m c') L.length (nums L):=by
   have h:=Iu hvf m (by omega);have e:(nums (L++[i])).take (m*1)=nums L:=by rw[nums_append,Nat.mul_one];exact List.take_left' (by simp[nums,hm])
   rw[e] at h;rw[hm];exact h
  obtain⟨Ew,Jt,hst⟩:=hM.BD (Below.refl _ w) (w5:=w) (by rw[hfl,hm];exact ak (Below.refl w.heap.size w) _) Wy (.inl (by simp[Value.ownBlock]));rw[hfl,hm] at Ew hst;rw[hfl,hm];have y3:w.cell? ⟨B,3,none⟩=some (.slice (some ⟨g,0,none⟩) (m+1) c'):=Ew.cell 3;have z3:=Ew.free 3;obtain⟨w6,kQ⟩:∃ w6,w.setCell ⟨B,3,none⟩ (.slice (some ⟨g,0,none⟩) m c')=w6:=⟨_,rfl⟩
  rw[kQ] at Jt hst;have HM:=zh Jt;have HF:=zh hfl;have HM2:=zh hm;have hmb:m≤100000:=by omega
  clear hM Jt hvf hc Wy Ew hfl hm k3 hcn hl;go_wp2_with fail
  go_ret
  first | exact⟨_,_,rfl,HM.out,hst⟩ | exact⟨rfl,_,_,HM.out,hst⟩
def rO (b s:Int) (R:Int→Option Tr.Nd) (h:Int):Int:=match R h with | some _=>Ar.idx b s h | none => -1
theorem BA (base B:Nat) (b s root h:Int) (live n:Nat) (R:Int→Option Tr.Nd) (fr:List Nat) (vs vf:Value) (w:World) (hm:TV base w B b s vs n R vf fr live root) (hS:Sound b s n R fr live) (hh:lU h):
  Calls Tryz.prog 146 #[.pointer (some ⟨B,0,none⟩),.int .i64 h] w fun e w'=>e=.returned (.int .i64 (rO b s R h))∧Below w.heap.size w w':=by
 obtain⟨A,c,A',c',rfl,rfl⟩:=hm.slices;obtain⟨k0,k1,_,_,_⟩:=hm.cells;have hcase:=hS.idx h;have hle:=hS.le;have hir:=Ar.Cb b s h;clear hS
 go_enter Tryz.func146,Tryz.ntmps146
 go_wp2_with fail;refine (Iw b s h _ hh).mono ?_;rintro e w2 ⟨rfl,hb2⟩;have hm2:=hm.below hb2;obtain⟨_,_,c2,_,_⟩:=hm2.cells;clear k0 k1;rcases hcase with ⟨i,h1,h2,h3⟩ | ⟨hi,h1 | ⟨h1,h2⟩⟩
 ·obtain⟨g,rfl,_,_,hcell⟩:=hm2.slot (by omega);have hc3:=(hcell i 0 h2 (by omega)).1;rw[h3] at hc3;have q1:(i:Int)<(n:Int):=by omega
  have q2:¬ (n:Int)≤(i:Int):=by omega
  have q3:¬ (i:Int)<0:=by omega
  cases e:R h with
  | some d=>
   have hr:rO b s R h=(i:Int):=by unfold rO;rw[e,h1]
   rw[e] at hc3;have hc4:w2.cell? ⟨g,i*10,none⟩=some (.bool true):=hc3;rw[h1];have HR:=zh hr;clear hr h1 h3 e hc3 hm hm2 hcell hir;go_wp2_with fail
   go_ret
   exact⟨kJ HR.out.symm,hb2⟩
  | none=>
   have hr:rO b s R h = -1:=by unfold rO;rw[e]
   rw[e] at hc3;have hc4:w2.cell? ⟨g,i*10,none⟩=some (.bool false):=hc3;rw[h1];have HR:=zh hr;clear hr h1 h3 e hc3 hm hm2 hcell hir;go_wp2_with fail
   go_ret
   exact⟨kJ HR.out.symm,hb2⟩
 ·have hr:rO b s R h = -1:=by unfold rO;rw[hi]
  have HR:=zh hr;clear hr hi hm hm2 hir;go_wp2_with fail
  go_ret
  exact⟨kJ HR.out.symm,hb2⟩
 ·have hr:rO b s R h = -1:=by unfold rO;rw[hi]
  have HR:=zh hr;have q1:¬ Ar.idx b s h<0:=by omega
  clear hr hi hm hm2 hir;go_wp2_with fail
  go_ret
  exact⟨kJ HR.out.symm,hb2⟩
theorem nJ {b s h:Int} {n live:Nat} {R:Int→Option Tr.Nd} {fr:List Nat} (hS:Sound b s n R fr live):(∃ (i:Nat) (d:Tr.Nd),R h=some d∧rO b s R h=(i:Int)∧i<n∧Ar.hdl b s (i:Int)=h)∨(R h=none∧rO b s R h = -1):=by
 cases e:R h with
 | none=>exact .inr ⟨rfl,by unfold rO;rw[e]⟩
 | some d=>
  rcases hS.idx h with ⟨i,h1,h2,h3⟩ | ⟨h1,_⟩
  ·exact .inl ⟨i,d,rfl,by unfold rO;rw[e];exact h1,h2,h3⟩
  ·rw[e] at h1;cases h1
def nodeAt (b s:Int) (vs:Value) (R:Int→Option Tr.Nd) (h:Int):Option Addr:=
 match R h,vs with
 | some _,.slice (some a) _ _=>some ⟨a.block,(Ar.idx b s h).toNat*10+1,none⟩
 | _,_=>none
theorem sU (base B:Nat) (b s root h:Int) (live n:Nat) (R:Int→Option Tr.Nd) (fr:List Nat) (vs vf:Value) (w:World) (hm:TV base w B b s vs n R vf fr live root) (hS:Sound b s n R fr live) (hh:lU h):
  Calls Tryz.prog 122 #[.pointer (some ⟨B,0,none⟩),.int .i64 h] w fun e w'=>e=.returned (.pointer (nodeAt b s vs R h))∧Below w.heap.size w w':=by
 go_enter Tryz.func122,Tryz.ntmps122
 go_wp2_with fail;refine (BA base B b s root h live n R fr vs vf w hm hS hh).mono ?_;rintro e w2 ⟨rfl,hb2⟩;have hm2:=hm.below hb2;obtain⟨A,c,A',c',rfl,rfl⟩:=hm.slices;obtain⟨_,_,c2,_,_⟩:=hm2.cells;rcases nJ (h:=h) hS with ⟨i,d,e1,e2,e3,e4⟩ | ⟨e1,e2⟩
 ·rw[e2];obtain⟨g,rfl,_,_⟩:=hm2.slot (by omega);have q:¬ (i:Int)<0:=by omega
  have q1:(i:Int)<(n:Int):=by omega
  have q2:nodeAt b s (.slice (some ⟨g,0,none⟩) n c) R h=some ⟨g,i*10+1,none⟩:=by
   have:Ar.idx b s h=i:=by unfold rO at e2;rw[e1] at e2;exact e2
   unfold nodeAt;rw[e1,this];rfl
  have HE:=zh q2;clear e1 e2 hm hm2 q2 e4 hS;go_wp2_with fail
  go_ret
  rw[HE.out];exact⟨rfl,hb2⟩
 ·rw[e2];have q2:nodeAt b s (.slice A n c) R h=none:=by unfold nodeAt;rw[e1]
  have HE:=zh q2;clear e1 e2 hm hm2 q2 hS;go_wp2_with fail
  go_ret
  rw[HE.out];exact⟨rfl,hb2⟩
theorem pO (base B:Nat) (b s root:Int) (live n:Nat) (R:Int→Option Tr.Nd) (fr:List Nat) (vs vf:Value) (w:World) (hm:TV base w B b s vs n R vf fr live root):
  Calls Tryz.prog 58 #[.pointer (some ⟨B,0,none⟩)] w fun e w'=>e=.returned (.int .i64 (live:Nat))∧w'=w:=by
 obtain⟨_,_,_,_,k4,_⟩:=hm.cells;clear hm
 go_enter Tryz.func58,Tryz.ntmps58
 go_wp2_with fail
 go_ret
 exact⟨rfl,rfl⟩
theorem jF {b s:Int} {n live:Nat} {R:Int→Option Tr.Nd} {fr:List Nat} (hS:Sound b s n R fr live) (hl:n<100000):
  (eB n fr).2.2<(eB n fr).1∧(eB n fr).1≤n+1∧n≤(eB n fr).1∧R (Ar.hdl b s ((eB n fr).2.2:Nat))=none∧∀ d,Sound b s (eB n fr).1 (Tr.pI R (Ar.hdl b s ((eB n fr).2.2:Nat)) (some d)) (eB n fr).2.1 (live+1):=by
 by_cases hz:fr=[]
 ·subst hz;rw[zJ];refine⟨by show n<n+1;omega,Nat.le_refl _,Nat.le_succ _,hS.out (i:=n) (Nat.le_refl _) (by omega),fun d=>⟨fun h hh=>?_,List.nodup_nil,fun i hi=>by simp at hi,?_,by show n+1≤100000;omega⟩⟩
  ·unfold Tr.pI at hh
   split at hh
   ·rename_i e;exact⟨n,Nat.lt_succ_self n,e.symm⟩
   ·obtain⟨i,h1,h2⟩:=hS.dom h hh;exact⟨i,Nat.lt_succ_of_lt h1,h2⟩
  ·have:=hS.count;simp at this ⊢;omega
 ·obtain⟨L,i,rfl⟩:∃ L i,fr=L++[i]:=⟨fr.dropLast,fr.getLast hz,(List.dropLast_concat_getLast hz).symm⟩
  rw[Cg];obtain⟨h1,h2⟩:=hS.free i (by simp);refine⟨h1,Nat.le_succ _,Nat.le_refl _,h2,fun d=>⟨fun h hh=>?_,(List.nodup_append.1 hS.nodup).1,fun j hj=>?_,?_,hS.le⟩⟩
  ·unfold Tr.pI at hh
   split at hh
   ·rename_i e;exact⟨i,h1,e.symm⟩
   ·exact hS.dom h hh
  ·obtain⟨h3,h4⟩:=hS.free j (by simp[show j∈L from hj]);refine⟨h3,?_⟩;rw[Tr.DC]
   ·exact h4
   ·intro e;have:=yF (i:=j) (j:=i) (by have:=hS.le;omega) (by have:=hS.le;omega) e;subst this;exact (List.nodup_append.1 hS.nodup).2.2 j hj j (by simp) rfl
  ·have:=hS.count;simp at this ⊢;omega
theorem bR {b s:Int} {n live:Nat} {R:Int→Option Tr.Nd} {fr:List Nat} (hS:Sound b s n R fr live) {h:Int} (hh:(R h).isSome):lU h∧0<h:=by
 obtain⟨i,h1,h2⟩:=hS.dom h hh;have h3:=hS.le;have:=ou (b:=b) (s:=s) (i:=i) (by omega);rw[h2] at this;exact⟨by constructor<;>omega,by omega⟩
theorem nM (base B:Nat) (b s root:Int) (live n:Nat) (R:Int→Option Tr.Nd) (fr:List Nat) (vs vf:Value) (d:Tr.Nd) (w:World) (h:TV base w B b s vs n R vf fr live root) (hS:Sound b s n R fr live) (hb:base≤w.heap.size) (hl:n<100000):
  Calls Tryz.prog 108 #[.pointer (some ⟨B,0,none⟩),Pj d] w fun e w'=>∃ vs' bN,e=.returned (.int .i64 (Ar.hdl b s ((eB n fr).2.2:Nat)))∧
   TV base w' B b s vs' (eB n fr).1 (Tr.pI R (Ar.hdl b s ((eB n fr).2.2:Nat)) (some d)) bN (eB n fr).2.1 (live+1) root∧ay w w' (aD B vs vf) (aD B vs' bN):=by
 obtain⟨f1,f2,f3,f4,f5⟩:=jF hS hl;have hlv:live≤100000:=by have:=hS.count;omega
 have hBx:=(Below.refl _ w).alloc (Nat.le_refl _) (.cells (Rn d) 42);have hlt:=h.lt;replace h:=h.below hBx;have hX:=Whole.new w (Rn d) 42
 go_enter Tryz.func108,Tryz.ntmps108
 go_wp2_with fail;refine (Nz base B b s root live n R fr vs vf (w.alloc (.cells (Rn d) 42)) h hS (Nat.le_trans hb (by simp)) hl).mono ?_;rintro e w2 ⟨vs2,QN,rfl,hM2,NA⟩;obtain⟨p,hp⟩:∃ p,eB n fr=p:=⟨_,rfl⟩
 rw[hp] at hM2 f1 f2 f3 f4 ⊢;obtain⟨n',fr',i⟩:=p;simp only at hM2 f1 f2 f3 f4 ⊢;have HP:=zh hp;have hX2:=hX.turns NA.1 (fun x=>by have:=(hlt _ x).2;omega);have x0:w2.cell? ⟨w.heap.size,0,none⟩=some (.int .i64 d.kind):=hX2.cell 0;have x1:w2.cell? ⟨w.heap.size,1,none⟩=some (.string d.name):=hX2.cell 1;have x2:w2.cell? ⟨w.heap.size,2,none⟩=some (.slice d.av.a d.av.n d.av.c):=hX2.cell 2;have x3:w2.cell? ⟨w.heap.size,3,none⟩=some (.string d.data):=hX2.cell 3;have x4:w2.cell? ⟨w.heap.size,4,none⟩=some (.int .i64 d.pa):=hX2.cell 4;have x5:w2.cell? ⟨w.heap.size,5,none⟩=some (.int .i64 d.fi):=hX2.cell 5;have x6:w2.cell? ⟨w.heap.size,6,none⟩=some (.int .i64 d.la):=hX2.cell 6;have x7:w2.cell? ⟨w.heap.size,7,none⟩=some (.int .i64 d.pr):=hX2.cell 7;have x8:w2.cell? ⟨w.heap.size,8,none⟩=some (.int .i64 d.ne):=hX2.cell 8;replace NA:=(ay.of_below hBx).trans NA;clear hX hX2 hBx hlt h hp f5 hS;obtain⟨A,c,A',c',rfl,rfl⟩:=hM2.slices;obtain⟨g,rfl,hgB,hgl,hcell⟩:=hM2.slot (by omega);obtain⟨_,_,c2,_,_⟩:=hM2.cells;have hc:∀ j,j<10→w2.cell? ⟨g,i*10+j,none⟩=(CZ (false,Tr.wD))[j]?∧w2.frozen? ⟨g,i*10+j,none⟩=false:=fun j hj=>by
  have:=hcell i j f1 hj;rw[f4] at this;exact this
 have t0:w2.cell? ⟨g,i*10,none⟩=some (.bool false):=(hc 0 (by omega)).1;have t1:w2.cell? ⟨g,i*10+1,none⟩=some (.int .i64 0):=(hc 1 (by omega)).1;have t2:w2.cell? ⟨g,i*10+2,none⟩=some (.string ⟨#[]⟩):=(hc 2 (by omega)).1;have t3:w2.cell? ⟨g,i*10+3,none⟩=some (.slice none 0 0):=(hc 3 (by omega)).1;have t4:w2.cell? ⟨g,i*10+4,none⟩=some (.string ⟨#[]⟩):=(hc 4 (by omega)).1;have t5:w2.cell? ⟨g,i*10+5,none⟩=some (.int .i64 0):=(hc 5 (by omega)).1;have t6:w2.cell? ⟨g,i*10+6,none⟩=some (.int .i64 0):=(hc 6 (by omega)).1;have t7:w2.cell? ⟨g,i*10+7,none⟩=some (.int .i64 0):=(hc 7 (by omega)).1;have t8:w2.cell? ⟨g,i*10+8,none⟩=some (.int .i64 0):=(hc 8 (by omega)).1;have t9:w2.cell? ⟨g,i*10+9,none⟩=some (.int .i64 0):=(hc 9 (by omega)).1;have r0:w2.frozen? ⟨g,i*10,none⟩=false:=(hc 0 (by omega)).2;have r1:=(hc 1 (by omega)).2;have r2:=(hc 2 (by omega)).2;have r3:=(hc 3 (by omega)).2;have r4:=(hc 4 (by omega)).2;have r5:=(hc 5 (by omega)).2;have r6:=(hc 6 (by omega)).2;have r7:=(hc 7 (by omega)).2;have r8:=(hc 8 (by omega)).2;have r9:=(hc 9 (by omega)).2;obtain⟨w3,hw3⟩:∃ w3,((((((((((w2.setCell ⟨g,i*10,none⟩ (.bool true)).setCell ⟨g,i*10+1,none⟩ (.int .i64 d.kind)).setCell ⟨g,i*10+2,none⟩ (.string d.name)).setCell ⟨g,i*10+3,none⟩ (.slice d.av.a d.av.n d.av.c)).setCell ⟨g,i*10+4,none⟩ (.string d.data)).setCell ⟨g,i*10+5,none⟩ (.int .i64 d.pa)).setCell ⟨g,i*10+6,none⟩ (.int .i64 d.fi)).setCell ⟨g,i*10+7,none⟩ (.int .i64 d.la)).setCell ⟨g,i*10+8,none⟩ (.int .i64 d.pr)).setCell ⟨g,i*10+9,none⟩ (.int .i64 d.ne))=w3:=⟨_,rfl⟩
 obtain⟨Ku,sP⟩:=hM2.EO (o:=some d) f1 (by omega) (w':=w3) hw3;have hd3:Below w3.heap.size w3 w3.drew:=⟨rfl,rfl,rfl,Nat.le_refl _,fun _ _=>rfl⟩
 replace sP:=sP.trans (.of_below hd3);replace Ku:=Ku.below hd3;obtain⟨wd,hwd⟩:∃ wd,w3.drew=wd:=⟨_,rfl⟩
 rw[hwd] at Ku sP;clear hd3;have y4:=Ku.cells.2.2.2.2.1;have z4:=Ku.var.free 4;obtain⟨Du,s4⟩:=Ku.counted (live+1) ((live:Int)+1) (by omega);obtain⟨w4,hw4⟩:∃ w4,wd.setCell ⟨B,4,none⟩ (.int .i64 ((live:Int)+1))=w4:=⟨_,rfl⟩
 rw[hw4] at Du s4;obtain⟨q0,q1,_,_,_⟩:=Du.cells;have hii:(i:Int)<(n':Int):=by omega
 have Y5:lU (i:Int):=by constructor<;>omega
 have HM:=zh Du;have HS:=zh ((NA.trans sP).trans s4);clear Du Ku hM2 hcell hc f4 NA sP s4;go_wp2_with fail
 go_region_with (fail)
 all_goals
  (try rw[hwd]);clear hwd hw3;go_wp2_with fail;refine (FZ b s i _ Y5).mono ?_;rintro e w5 ⟨rfl,hb5⟩;go_wp2_with fail
  go_ret
  rw[HP.out];exact⟨_,_,rfl,HM.out.below hb5,HS.out.trans (.of_below hb5)⟩
end
section
namespace Tr
open Go Go.RowKit
def walk (g:G):Nat→Int→List Int
 | 0,_=>[]
 | f+1,h=>match g h with | none=>[] | some n=>h::n.kids.flatMap (walk g f)
def hgt (g:G):Nat→Int→Nat
 | 0,_=>0
 | f+1,h=>match g h with | none=>0 | some n=>(n.kids.map (hgt g f)).foldl max 0+1
def ups (g:G):Nat→Int→List Int
 | 0,_=>[]
 | f+1,h=>match g h with | none=>[] | some n=>h::ups g f n.pa
def au (g:G) (h:Int):List Int:=walk g 129 h
def gB (g:G) (h:Int):Nat:=hgt g 129 h
def dz (g:G) (h:Int):List Int:=ups g 129 h
theorem uM {f k:Int→List Int} {l:List Int} (h:∀ x∈l,f x=k x):l.flatMap f=l.flatMap k:=by
 rw[List.flatMap_def,List.flatMap_def,List.map_congr_left h]
theorem Tp {g:G} {h:Int} {l:List Int} (u:Up g h l):∀ f,l.length≤f→ups g f h=l:=by
 induction u with
 | out e=>intro f _;cases f with | zero=>rfl | succ f=>rw[ups,e]
 | node e _ ih=>
  intro f hf;cases f with
  | zero=>simp at hf
  | succ f=>rw[ups,e];simp only;rw[ih f (by simpa using hf)]
theorem Up.suffix {g:G} {h:Int} {l2:List Int}:∀ (l1:List Int) {x:Int},Up g x (l1++h::l2)→Up g h (h::l2)
 | [],_,u=>by cases u with | node e u=>exact .node e u
 | _::r,_,u=>by cases u with | node _ u=>exact Up.suffix r u
theorem Up.parent {g:G} {x k h:Int} {l2:List Int} (u:Up g x (k::h::l2)):∃ m,g k=some m∧m.pa=h:=by
 cases u with
 | node e u=>
  refine⟨_,e,?_⟩;cases u with
  | node _ _=>rfl
section
variable {z:Int} {g:G}
theorem WF.eO (w:WF z g) (h:Int):Up g h (dz g h)∧(dz g h).length≤128:=by
 obtain⟨l,u,hl⟩:=w.chain h;have:dz g h=l:=Tp u 129 (by omega);rw[this];exact⟨u,hl⟩
theorem WF.kL (w:WF z g) {h:Int} {l:List Int} (u:Up g h l):dz g h=l:=(w.eO h).1.one u
theorem WF.bQ (w:WF z g) {h:Int} {n:GN} (e:g h=some n):dz g h=h::dz g n.pa:=w.kL (.node e (w.eO n.pa).1)
theorem WF.lV (w:WF z g) {h:Int} (e:g h=none):dz g h=[]:=w.kL (.out e)
theorem WF.jk (w:WF z g) {h k:Int} {n:GN} (e:g h=some n) (hk:k∈n.kids):dz g k=k::dz g h:=by
 obtain⟨m,e1,e2⟩:=w.down h n k e hk;rw[w.bQ e1,e2]
theorem WF.induct (w:WF z g) {P:Int→Prop} (step:∀ h,(∀ n,g h=some n→∀ k∈n.kids,P k)→P h):∀ h,P h:=by
 have key:∀ f h,129≤f+(dz g h).length→P h:=by
  intro f
  induction f with
  | zero=>intro h hf;have:=(w.eO h).2;omega
  | succ f ih=>
   intro h hf;refine step h fun n e k hk=>ih k ?_;rw[w.jk e hk,List.length_cons];omega
 exact fun h=>key 129 h (by omega)
theorem WF.BG (w:WF z g):∀ f h,129≤f+(dz g h).length→walk g (f+1) h=walk g f h:=by
 intro f
 induction f with
 | zero=>intro h hf;have:=(w.eO h).2;omega
 | succ f ih=>
  intro h hf;cases e:g h with
  | none=>rw[walk,walk,e]
  | some n=>
   rw[walk,walk,e];simp only;congr 1;rw[List.flatMap_def,List.flatMap_def];congr 1;refine List.map_congr_left fun k hk=>ih k ?_;rw[w.jk e hk,List.length_cons];omega
theorem WF.NC (w:WF z g):∀ f h,129≤f+(dz g h).length→hgt g (f+1) h=hgt g f h:=by
 intro f
 induction f with
 | zero=>intro h hf;have:=(w.eO h).2;omega
 | succ f ih=>
  intro h hf;cases e:g h with
  | none=>rw[hgt,hgt,e]
  | some n=>
   rw[hgt,hgt,e];simp only;congr 2;refine List.map_congr_left fun k hk=>ih k ?_;rw[w.jk e hk,List.length_cons];omega
theorem WF.dR (w:WF z g) {h:Int} {n:GN} (e:g h=some n):au g h=h::n.kids.flatMap (au g):=by
 show walk g (128+1) h=_;rw[walk,e];simp only;refine congrArg (fun t=>h::t) (uM fun k hk=>?_);show walk g 128 k=walk g (128+1) k;refine (w.BG 128 k ?_).symm;rw[w.jk e hk,w.bQ e,List.length_cons,List.length_cons];omega
theorem lq {h:Int} (e:g h=none):au g h=[]:=by
 show walk g (128+1) h=_;rw[walk,e]
theorem WF.iF (w:WF z g) {h:Int} {n:GN} (e:g h=some n):gB g h=(n.kids.map (gB g)).foldl max 0+1:=by
 show hgt g (128+1) h=_;rw[hgt,e];simp only;refine congrArg (fun t:List Nat=>t.foldl max 0+1) (List.map_congr_left fun k hk=>?_);show hgt g 128 k=hgt g (128+1) k;refine (w.NC 128 k ?_).symm;rw[w.jk e hk,w.bQ e,List.length_cons,List.length_cons];omega
theorem DK {l:List Nat} {a b:Nat} (ha:a≤b) (h:∀ x∈l,x≤b):l.foldl max a≤b:=by
 induction l generalizing a with
 | nil=>exact ha
 | cons x r ih=>exact ih (Nat.max_le.2 ⟨ha,h x (by simp)⟩) fun y hy=>h y (by simp[hy])
theorem vL {l:List Nat} {a:Nat}:a≤l.foldl max a∧∀ x∈l,x≤l.foldl max a:=by
 induction l generalizing a with
 | nil=>exact⟨Nat.le_refl _,fun x hx=>by cases hx⟩
 | cons y r ih=>
  obtain⟨h1,h2⟩:=ih (a:=max a y);refine⟨Nat.le_trans (Nat.le_max_left _ _) h1,fun x hx=>?_⟩;rcases List.mem_cons.1 hx with rfl | hx
  ·exact Nat.le_trans (Nat.le_max_right _ _) h1
  ·exact h2 x hx
theorem WF.qz (w:WF z g):∀ h,gB g h+(dz g h).length≤129:=by
 refine w.induct fun h ih=>?_;cases e:g h with
 | none=>
  rw[w.lV e];show hgt g (128+1) h+_≤_;rw[hgt,e];simp
 | some n=>
  have hu:=(w.eO h).2;rw[w.bQ e,List.length_cons] at hu;rw[w.iF e,w.bQ e,List.length_cons];have:(n.kids.map (gB g)).foldl max 0≤127 - (dz g n.pa).length:=DK (Nat.zero_le _) fun x hx=>by
   obtain⟨k,hk,rfl⟩:=List.mem_map.1 hx;have:=ih n e k hk;rw[w.jk e hk,w.bQ e,List.length_cons,List.length_cons] at this;omega
  omega
theorem WF.jC (w:WF z g):∀ h x,x∈au g h↔h∈dz g x:=by
 refine w.induct fun h ih=>fun x=>?_;cases e:g h with
 | none=>
  rw[lq e];refine⟨fun hx=>(List.not_mem_nil hx).elim,fun hx=>?_⟩;have:=(w.eO x).1.mem hx;rw[e] at this;cases this
 | some n=>
  rw[w.dR e,List.mem_cons,List.mem_flatMap];constructor
  ·rintro (rfl | ⟨k,hk,hx⟩)
   ·rw[w.bQ e];simp
   ·obtain⟨l1,l2,e1⟩:=List.append_of_mem ((ih n e k hk x).1 hx);have u:=(w.eO x).1;rw[e1] at u;have u3:=(w.kL (u.suffix l1)).symm.trans (w.jk e hk);injection u3 with _ u3;rw[e1,u3,w.bQ e];simp
  ·intro hx;by_cases hxh:x=h
   ·exact .inl hxh
   ·right;obtain⟨l1,l2,e1⟩:=List.append_of_mem hx;have u:=(w.eO x).1;by_cases hl1:l1=[]
    ·rw[e1,hl1] at u;cases u with
     | node e' u'=>exact absurd rfl hxh
    ·obtain⟨l3,k,hlk⟩:∃ l3 k,l1=l3++[k]:=⟨l1.dropLast,l1.getLast hl1,(List.dropLast_concat_getLast _).symm⟩
     rw[hlk,List.append_assoc] at e1;rw[e1] at u;have u2:=u.suffix l3;obtain⟨m,hm1,hm2⟩:=u2.parent;have hz:h≠z:=fun e'=>by rw[e',w.zero] at e;cases e
     have hkk:k∈n.kids:=by
      obtain⟨p,hp1,hp2⟩:=w.up k m hm1 (by rw[hm2];exact hz);rw[hm2,e] at hp1;obtain rfl:=Option.some.inj hp1;exact hp2
     exact⟨k,hkk,(ih n e k hkk x).2 (by rw[e1];simp)⟩
theorem WF.nL (w:WF z g) {h x:Int} (hx:x∈au g h):(g x).isSome:=by
 have:=(w.jC h x).1 hx;cases e:g x with
 | some n=>rfl
 | none=>rw[w.lV e] at this;cases this
theorem WF.F5 (w:WF z g) (h:Int):(dz g h).Nodup:=by
 have key:∀ (x:Int) (l:List Int),Up g x l→l.Nodup:=by
  intro x l u
  induction u with
  | out _=>exact List.nodup_nil
  | node e u ih=>exact List.nodup_cons.2 ⟨w.above e u,ih⟩
 exact key _ _ (w.eO h).1
theorem WF.qM (w:WF z g):∀ h,(au g h).Nodup:=by
 refine w.induct fun h ih=>?_;cases e:g h with
 | none=>rw[lq e];exact List.nodup_nil
 | some n=>
  rw[w.dR e,List.nodup_cons];refine⟨fun hm=>?_,?_⟩
  ·obtain⟨k,hk,hx⟩:=List.mem_flatMap.1 hm;have h1:=(w.jC k h).1 hx;rw[w.bQ e] at h1;have h2:=w.jk e hk;have h3:=w.F5 k;rw[h2,w.bQ e] at h3;rcases List.mem_cons.1 h1 with h1 | h1
   ·subst h1;exact (List.nodup_cons.1 h3).1 (by simp)
   ·exact (List.nodup_cons.1 h3).1 (by simp[h1])
  ·rw[List.flatMap_def];refine List.pairwise_flatten.2 ?_;refine⟨fun l hl=>?_,?_⟩
   ·obtain⟨k,hk,rfl⟩:=List.mem_map.1 hl;exact ih n e k hk
   ·rw[List.pairwise_map];refine (w.nodup h n e).imp_of_mem fun {a c} ha hc hne=>?_;intro x hx y hy exy;subst exy;have h1:=(w.jC a x).1 hx;have h2:=(w.jC c x).1 hy;have ua:=w.jk e ha;have uc:=w.jk e hc;obtain⟨l1,l2,e1⟩:=List.append_of_mem h1;obtain⟨l3,l4,e2⟩:=List.append_of_mem h2;have u:=(w.eO x).1;have v1:=(w.kL ((e1▸u).suffix l1)).symm.trans ua;have v2:=(w.kL ((e2▸u).suffix l3)).symm.trans uc;have hl:l2.length=l4.length:=by
     injection v1 with _ v1;injection v2 with _ v2;rw[v1,v2]
    have e3:=e1.symm.trans e2;have hlen:=congrArg List.length e3;simp at hlen;have:=(List.append_inj e3 (by omega)).2;injection this with this;exact hne this
theorem WF.wV (w:WF z g) (h:Int):z∉au g h:=fun hm=>by
 have:=w.nL hm;rw[w.zero] at this;cases this
/-! What follows a node in a subtree. -/
def GK:List Int→Int→List Int
 | [],_=>[]
 | a::r,x=>if a=x then r else GK r x
theorem Tq (l:List Int) (x:Int):fs (GK l x)=nu l x:=by
 induction l with
 | nil=>rfl
 | cons a r ih=>
  rw[GK,nu]
  split
  ·rfl
  ·exact ih
theorem wW {l1 l2:List Int} {x:Int} (h:x∉l1):GK (l1++x::l2) x=l2:=by
 induction l1 with
 | nil=>simp[GK]
 | cons a r ih=>
  simp only[List.mem_cons,not_or] at h;rw[List.cons_append,GK,if_neg (fun e=>h.1 e.symm),ih h.2]
def rest (g:G) (t:Int):List Int→List Int
 | []=>[]
 | x::l=>if x=t then [] else (GK (aj g (dI g x)) x).flatMap (au g)++rest g t l
theorem JU (w:WF 0 g) (l:List Int) (hl:∀ k∈l,(g k).isSome) (m:List Int):fs (l.flatMap (au g)++m)=if l=[] then fs m else fs l:=by
 cases l with
 | nil=>rfl
 | cons a r=>
  obtain⟨n,e⟩:=Option.isSome_iff_exists.1 (hl a (by simp));rw[if_neg (by simp),List.flatMap_cons,w.dR e];rfl
def F6 (g:G) (t x:Int):Int:=fs ((aj g x).flatMap (au g)++rest g t (dz g x))
theorem DL {l:List Int} {x y:Int} (h:y∈GK l x):y∈l:=by
 induction l with
 | nil=>exact h
 | cons a r ih=>
  rw[GK] at h
  split at h
  ·exact List.mem_cons_of_mem _ h
  ·exact List.mem_cons_of_mem _ (ih h)
theorem WF.rest_step (w:WF 0 g) {t h:Int} {n:GN} (e:g h=some n) (ht:h≠t) (l:List Int):fs (rest g t (h::l))=if nu (aj g n.pa) h=0 then fs (rest g t l) else nu (aj g n.pa) h:=by
 rw[rest,if_neg ht,aP e];have hk:∀ k∈GK (aj g n.pa) h,(g k).isSome:=fun k hk=>by
  obtain⟨m,e1,_⟩:=w.dS (DL hk);rw[e1];rfl
 have h0:0∉GK (aj g n.pa) h:=fun hm=>w.lX _ (DL hm);rw[JU w _ hk,←Tq];by_cases hz:fs (GK (aj g n.pa) h)=0
 ·rw[if_pos (tN h0 hz),if_pos hz]
 ·rw[if_neg (fun e=>hz (by rw[e];rfl)),if_neg hz]
theorem zK {t:Int} {l:List Int}:rest g t (t::l)=[]:=by rw[rest,if_pos rfl]
theorem WF.K5 (w:WF 0 g) {t:Int}:∀ (l:List Int) (h:Int),Up g h l→t∈l→∀ y r,rest g t l=y::r→(g y).isSome∧t∈dz g y∧r=(aj g y).flatMap (au g)++rest g t (dz g y):=by
 intro l
 induction l with
 | nil=>intro h _ ht;cases ht
 | cons a l ih=>
  intro h u ht y r er;cases u with
  | @node _ n _ e u=>
   by_cases hat:a=t
   ·rw[hat,zK] at er;cases er
   ·rw[rest,if_neg hat,aP e] at er;have htl:t∈l:=by rcases List.mem_cons.1 ht with e1 | e1;exact absurd e1.symm hat;exact e1
    cases ha:GK (aj g n.pa) a with
    | nil=>
     rw[ha] at er;exact ih n.pa u htl y r er
    | cons c s=>
     have hpz:n.pa≠0:=fun e1=>by rw[e1,fO w.zero] at ha;cases ha
     have hcm:c∈aj g n.pa:=DL (by rw[ha];simp);obtain⟨mc,ec,ecp⟩:=w.dS hcm;obtain⟨A,B,eA⟩:=List.append_of_mem (w.tO e hpz);have hnd:=w.mX n.pa;have hA:a∉A:=fun hm=>by rw[eA] at hnd;exact (List.nodup_append.1 hnd).2.2 _ hm _ (by simp) rfl
     rw[eA,wW hA] at ha;rw[ha] at eA;have hac:GK (aj g n.pa) c=s:=by
      rw[eA,show A++a::c::s=(A++[a])++c::s from by simp];refine wW fun hm=>?_;rw[eA,show A++a::c::s=(A++[a])++c::s from by simp] at hnd;exact (List.nodup_append.1 hnd).2.2 _ hm _ (by simp) rfl
     rw[eA,show A++a::c::s=A++a::(c::s) from rfl,wW hA,List.flatMap_cons,w.dR ec] at er;have er2:c=y∧(mc.kids.flatMap (au g)++s.flatMap (au g))++rest g t l=r:=by
      simp only[List.cons_append] at er;injection er with e1 e2;exact⟨e1,e2⟩
     obtain⟨rfl,er2⟩:=er2;have hup:dz g c=c::l:=by rw[w.bQ ec,ecp,w.kL u]
     have hct:c≠t:=fun e1=>by
      have:=w.above ec (ecp▸u);rw[e1] at this;exact this htl
     refine⟨by rw[ec];rfl,by rw[hup];exact List.mem_cons_of_mem _ htl,?_⟩;rw[hup,rest,if_neg hct,aP ec,ecp,hac,aR ec,←er2,List.append_assoc]
theorem WF.ND (w:WF 0 g) {t x:Int} (ht:t∈dz g x) {y:Int} {r:List Int} (e:(aj g x).flatMap (au g)++rest g t (dz g x)=y::r):
  (g y).isSome∧t∈dz g y∧r=(aj g y).flatMap (au g)++rest g t (dz g y):=by
 cases hk:aj g x with
 | nil=>
  rw[hk] at e;exact w.K5 _ x (w.eO x).1 ht y r e
 | cons k s=>
  obtain⟨mk,ek,ekp⟩:=w.dS (show k∈aj g x by rw[hk];simp);rw[hk,List.flatMap_cons,w.dR ek] at e;have e2:k=y∧(mk.kids.flatMap (au g)++s.flatMap (au g))++rest g t (dz g x)=r:=by
   simp only[List.cons_append] at e;injection e with e1 e2;exact⟨e1,e2⟩
  obtain⟨rfl,e2⟩:=e2;have hup:dz g k=k::dz g x:=by rw[w.bQ ek,ekp]
  have hkt:k≠t:=fun e1=>by
   have:=w.above ek (w.eO mk.pa).1;rw[e1,ekp] at this;exact this ht
  have hak:GK (aj g x) k=s:=by rw[hk];simp[GK]
  refine⟨by rw[ek];rfl,by rw[hup];exact List.mem_cons_of_mem _ ht,?_⟩;rw[hup,rest,if_neg hkt,aP ek,ekp,hak,aR ek,←e2,List.append_assoc]
end
end Tr
end
section
namespace Tr
open Go Go.RowKit
section
variable {g:G} {h p c:Int} {n q:GN}
theorem lG (e:g h=some n):jB g h h=some { n with pa:=0 }:=by unfold jB;rw[if_pos rfl,e];rfl
theorem JV (e:g h=some n) (hp:n.pa≠h) (eq:g n.pa=some q):jB g h n.pa=some { q with kids:=q.kids.erase h }:=by
 unfold jB;rw[if_neg hp,if_pos (aP e).symm,eq];rfl
theorem yG {x:Int} (h1:x≠h) (h2:x≠dI g h):jB g h x=g x:=by unfold jB;rw[if_neg h1,if_neg h2]
theorem iy {x:Int}:(jB g h x).isSome=(g x).isSome:=by
 unfold jB
 split
 ·rename_i e;rw[e];cases g h<;>rfl
 ·split
  ·cases g x<;>rfl
  ·rfl
theorem jN {x:Int} {m:GN} (e:jB g h x=some m) (hx:x≠h):∃ m0,g x=some m0∧m.pa=m0.pa∧(∀ k,k∈m.kids→k∈m0.kids)∧(x≠dI g h→m.kids=m0.kids)∧(x=dI g h→m.kids=m0.kids.erase h)∧m.kind=m0.kind:=by
 unfold jB at e;rw[if_neg hx] at e
 split at e
 ·rename_i hp;cases ex:g x with
  | none=>rw[ex] at e;cases e
  | some m0=>
   rw[ex] at e;obtain rfl:=Option.some.inj e;exact⟨m0,rfl,rfl,fun k hk=>List.mem_of_mem_erase hk,fun h=>absurd hp h,fun _=>rfl,rfl⟩
 ·rename_i hp;exact⟨m,e,rfl,fun _ h=>h,fun _=>rfl,fun h=>absurd h hp,rfl⟩
theorem WF.cut (w:WF 0 g) (e:g h=some n):WF 0 (jB g h):=by
 have hz:h≠0:=fun e1=>by rw[e1,w.zero] at e;cases e
 have hzero:jB g h 0=none:=by
  have:=iy (g:=g) (h:=h) (x:=0);rw[w.zero] at this;exact Option.not_isSome_iff_eq_none.1 (by rw[this];simp)
 have hps:n.pa≠h:=w.iD e;refine⟨hzero,?_,?_,?_,?_⟩
 ·intro x m em hm;by_cases hx:x=h
  ·rw[hx,lG e] at em;obtain rfl:=Option.some.inj em;exact absurd rfl hm
  ·obtain⟨m0,e0,h1,_⟩:=jN em hx;rw[h1] at hm ⊢;obtain⟨r,er,hr⟩:=w.up x m0 e0 hm;by_cases hq:m0.pa=h
   ·rw[hq] at er ⊢;rw[e] at er;obtain rfl:=Option.some.inj er;exact⟨_,lG e,hr⟩
   ·by_cases hq2:m0.pa=n.pa
    ·rw[hq2] at er ⊢;exact⟨_,JV e hps er,(List.mem_erase_of_ne hx).2 hr⟩
    ·exact⟨r,by rw[yG hq (by rw[aP e];exact hq2)];exact er,hr⟩
 ·intro x m k em hk;by_cases hx:x=h
  ·rw[hx,lG e] at em;obtain rfl:=Option.some.inj em;obtain⟨mk,e1,e2⟩:=w.down h n k e hk;have hkh:k≠h:=fun e3=>w.vJ h (by rw[aR e];exact e3▸hk);have:=iy (g:=g) (h:=h) (x:=k);rw[e1] at this;obtain⟨m',em'⟩:=Option.isSome_iff_exists.1 this;obtain⟨m0,e0,h1,_⟩:=jN em' hkh;rw[e1] at e0;obtain rfl:=Option.some.inj e0;exact⟨m',em',by rw[h1,e2,hx]⟩
  ·obtain⟨m0,e0,h1,h2,h3,h4,_⟩:=jN em hx;obtain⟨mk,e1,e2⟩:=w.down x m0 k e0 (h2 k hk);have hkh:k≠h:=by
    intro e3;rw[e3,e] at e1;obtain rfl:=Option.some.inj e1;have hxp:x=dI g h:=by rw[aP e];exact e2.symm
    rw[h4 hxp,e3] at hk;exact ((w.nodup x m0 e0).mem_erase_iff.1 hk).1 rfl
   have:=iy (g:=g) (h:=h) (x:=k);rw[e1] at this;obtain⟨m',em'⟩:=Option.isSome_iff_exists.1 this;obtain⟨m1,e0',h1',_⟩:=jN em' hkh;rw[e1] at e0';obtain rfl:=Option.some.inj e0';exact⟨m',em',by rw[h1',e2]⟩
 ·intro x m em;by_cases hx:x=h
  ·rw[hx,lG e] at em;obtain rfl:=Option.some.inj em;exact w.nodup h n e
  ·obtain⟨m0,e0,_,_,h3,h4,_⟩:=jN em hx;by_cases hp:x=dI g h
   ·rw[h4 hp];exact (w.nodup x m0 e0).erase h
   ·rw[h3 hp];exact w.nodup x m0 e0
 ·intro x;obtain⟨l,u,hl⟩:=w.chain x;have key:∀ (x:Int) (l:List Int),Up g x l→∃ l',Up (jB g h) x l'∧l'.length≤l.length:=by
   intro x l u
   induction u with
   | @out y e1=>
    refine⟨[],.out ?_,Nat.le_refl _⟩;have:=iy (g:=g) (h:=h) (x:=y);rw[e1] at this;exact Option.not_isSome_iff_eq_none.1 (by rw[this];simp)
   | @node y m l e1 u ih=>
    by_cases hy:y=h
    ·subst hy;exact⟨[y],.node (lG e1) (.out hzero),by simp⟩
    ·have:=iy (g:=g) (h:=h) (x:=y);rw[e1] at this;obtain⟨m',em'⟩:=Option.isSome_iff_exists.1 this;obtain⟨m0,e0,h1,_⟩:=jN em' hy;rw[e1] at e0;obtain rfl:=Option.some.inj e0;obtain⟨l',u',hl'⟩:=ih;exact⟨y::l',.node em' (by rw[h1];exact u'),by simp;omega⟩
  obtain⟨l',u',hl'⟩:=key x l u;exact⟨l',u',by omega⟩
theorem iB (e:g h=some n):bP g p h c h=some { n with pa:=p }:=by unfold bP;rw[if_pos rfl,e];rfl
theorem nS (e:g p=some q) (hp:p≠h):bP g p h c p=some { q with kids:=iL q.kids c h }:=by unfold bP;rw[if_neg hp,if_pos rfl,e];rfl
theorem sF {x:Int} (h1:x≠h) (h2:x≠p):bP g p h c x=g x:=by unfold bP;rw[if_neg h1,if_neg h2]
theorem vM {x:Int} (hp:(g p).isSome):(bP g p h c x).isSome=(g x).isSome:=by
 unfold bP
 split
 ·rename_i e;rw[e];cases g h<;>rfl
 ·split
  ·rename_i e;rw[e];cases g p<;>rfl
  ·rfl
theorem sG {l:List Int} {b x y:Int}:y∈iL l b x↔y=x∨y∈l:=by
 induction l with
 | nil=>simp[iL]
 | cons a r ih=>
  rw[iL]
  split
  ·simp
  ·rw[List.mem_cons,ih,List.mem_cons];constructor
   ·rintro (h | h | h)
    ·exact .inr (.inl h)
    ·exact .inl h
    ·exact .inr (.inr h)
   ·rintro (h | h | h)
    ·exact .inr (.inl h)
    ·exact .inl h
    ·exact .inr (.inr h)
theorem IG {l:List Int} {b x:Int} (hn:l.Nodup) (hx:x∉l):(iL l b x).Nodup:=by
 induction l with
 | nil=>simp[iL]
 | cons a r ih=>
  simp only[List.mem_cons,not_or] at hx;rw[List.nodup_cons] at hn;rw[iL]
  split
  ·exact List.nodup_cons.2 ⟨by simp[hx.1,hx.2],List.nodup_cons.2 hn⟩
  ·refine List.nodup_cons.2 ⟨fun hm=>?_,ih hn.2 hx.2⟩;rcases sG.1 hm with h1 | h1
   ·exact hx.1 h1.symm
   ·exact hn.1 h1
theorem WF.deep (w:WF 0 g):∀ h x,x∈au g h→(dz g x).length+1≤(dz g h).length+gB g h:=by
 refine w.induct fun h ih=>fun x hx=>?_;cases e:g h with
 | none=>rw[lq e] at hx;cases hx
 | some m=>
  rw[w.dR e] at hx;rw[w.iF e];rcases List.mem_cons.1 hx with rfl | hx
  ·omega
  ·obtain⟨k,hk,hx⟩:=List.mem_flatMap.1 hx;have h1:=ih m e k hk x hx;rw[w.jk e hk,List.length_cons] at h1;have h2:gB g k≤(m.kids.map (gB g)).foldl max 0:=vL.2 _ (List.mem_map.2 ⟨k,hk,rfl⟩);omega
theorem WF.link (w:WF 0 g) (e:g h=some n) (hn:n.pa=0) (ep:g p=some q) (hu:h∉dz g p) (hd:(dz g p).length+gB g h≤128):WF 0 (bP g p h c):=by
 have hz:h≠0:=fun e1=>by rw[e1,w.zero] at e;cases e
 have hpz:p≠0:=fun e1=>by rw[e1,w.zero] at ep;cases ep
 have hps:p≠h:=fun e1=>by rw[w.bQ ep,e1] at hu;exact hu (by simp)
 have hsome:=fun x=>vM (g:=g) (p:=p) (h:=h) (c:=c) (x:=x) (by rw[ep];rfl);have hzero:bP g p h c 0=none:=by
  have:=hsome 0;rw[w.zero] at this;exact Option.not_isSome_iff_eq_none.1 (by rw[this];simp)
 have hnk:h∉q.kids:=fun hm=>by
  obtain⟨m,h1,h2⟩:=w.down p q h ep hm;rw[e] at h1;obtain rfl:=Option.some.inj h1;exact hpz (by rw[←h2,hn])
 have of:∀ {x:Int} {m:GN},bP g p h c x=some m→x≠h→∃ m0,g x=some m0∧m.pa=m0.pa∧(x≠p→m.kids=m0.kids):=by
  intro x m em hx;by_cases hxp:x=p
  ·rw[hxp,nS ep hps] at em;obtain rfl:=Option.some.inj em;exact⟨q,hxp▸ep,rfl,fun h=>absurd hxp h⟩
  ·rw[sF hx hxp] at em;exact⟨m,em,rfl,fun _=>rfl⟩
 refine⟨hzero,?_,?_,?_,?_⟩
 ·intro x m em hm;by_cases hx:x=h
  ·rw[hx,iB e] at em;obtain rfl:=Option.some.inj em;exact⟨_,nS ep hps,by rw[hx];exact sG.2 (.inl rfl)⟩
  ·obtain⟨m0,e0,h1,_⟩:=of em hx;rw[h1] at hm ⊢;obtain⟨r,er,hr⟩:=w.up x m0 e0 hm;by_cases hq:m0.pa=h
   ·rw[hq] at er ⊢;rw[e] at er;obtain rfl:=Option.some.inj er;exact⟨_,iB e,hr⟩
   ·by_cases hq2:m0.pa=p
    ·rw[hq2] at er ⊢;rw[ep] at er;obtain rfl:=Option.some.inj er;exact⟨_,nS ep hps,sG.2 (.inr hr)⟩
    ·exact⟨r,by rw[sF hq hq2];exact er,hr⟩
 ·intro x m k em hk;have kid:∀ m0,g x=some m0→k∈m0.kids→k≠h→∃ m',bP g p h c k=some m'∧m'.pa=x:=by
   intro m0 e0 hk hkh;obtain⟨mk,e1,e2⟩:=w.down x m0 k e0 hk;have:=hsome k;rw[e1] at this;obtain⟨m',em'⟩:=Option.isSome_iff_exists.1 this;obtain⟨m1,e3,h1,_⟩:=of em' hkh;rw[e1] at e3;obtain rfl:=Option.some.inj e3;exact⟨m',em',by rw[h1,e2]⟩
  by_cases hx:x=h
  ·rw[hx,iB e] at em;obtain rfl:=Option.some.inj em;exact kid n (hx▸e) hk (fun e3=>w.vJ h (by rw[aR e];exact e3▸hk))
  ·by_cases hxp:x=p
   ·rw[hxp,nS ep hps] at em;obtain rfl:=Option.some.inj em;rcases sG.1 hk with rfl | hk
    ·exact⟨_,iB e,hxp.symm⟩
    ·exact kid q (hxp▸ep) hk (fun e3=>hnk (e3▸hk))
   ·obtain⟨m0,e0,h1,h2⟩:=of em hx;rw[h2 hxp] at hk;refine kid m0 e0 hk (fun e3=>?_);obtain⟨mk,e1,e2⟩:=w.down x m0 k e0 hk;rw[e3,e] at e1;obtain rfl:=Option.some.inj e1;rw[hn] at e2;rw[←e2,w.zero] at e0;cases e0
 ·intro x m em;by_cases hx:x=h
  ·rw[hx,iB e] at em;obtain rfl:=Option.some.inj em;exact w.nodup h n e
  ·by_cases hxp:x=p
   ·rw[hxp,nS ep hps] at em;obtain rfl:=Option.some.inj em;exact IG (w.nodup p q ep) hnk
   ·obtain⟨m0,e0,h1,h2⟩:=of em hx;rw[h2 hxp];exact w.nodup x m0 e0
 ·intro x;have Wz:∀ (x:Int) (l:List Int),Up g x l→h∉l→Up (bP g p h c) x l:=by
   intro x l u
   induction u with
   | @out y e1=>
    intro _;refine .out ?_;have:=hsome y;rw[e1] at this;exact Option.not_isSome_iff_eq_none.1 (by rw[this];simp)
   | @node y m l e1 u ih=>
    intro hm;simp only[List.mem_cons,not_or] at hm;have:=hsome y;rw[e1] at this;obtain⟨m',em'⟩:=Option.isSome_iff_exists.1 this;obtain⟨m0,e0,h1,_⟩:=of em' (fun e2=>hm.1 e2.symm);rw[e1] at e0;obtain rfl:=Option.some.inj e0;exact .node em' (by rw[h1];exact ih hm.2)
  have aaf:∀ (x:Int) (l:List Int),Up g x l→h∈l→Up (bP g p h c) x (l++dz g p):=by
   intro x l u
   induction u with
   | out _=>intro hm;cases hm
   | @node y m l e1 u ih=>
    intro hm;by_cases hy:y=h
    ·subst hy;rw[e] at e1;obtain rfl:=Option.some.inj e1;rw[hn] at u;cases u with
     | out _=>exact .node (iB e) (Wz p _ (w.eO p).1 hu)
     | node e2 _=>rw[w.zero] at e2;cases e2
    ·have hm2:h∈l:=by rcases List.mem_cons.1 hm with h1 | h1;exact absurd h1.symm hy;exact h1
     have:=hsome y;rw[e1] at this;obtain⟨m',em'⟩:=Option.isSome_iff_exists.1 this;obtain⟨m0,e0,h1,_⟩:=of em' hy;rw[e1] at e0;obtain rfl:=Option.some.inj e0;exact .node em' (by rw[h1];exact ih hm2)
  have u:=(w.eO x).1;by_cases hm:h∈dz g x
  ·refine⟨_,aaf _ _ u hm,?_⟩;have h1:=w.deep h x ((w.jC h x).2 hm);rw[w.bQ e,hn,w.lV w.zero] at h1;rw[List.length_append];simp at h1;omega
  ·exact⟨_,Wz _ _ u hm,(w.eO x).2⟩
end
end Tr
end
section
namespace Tr
open Go Go.RowKit
def dJ (g:G) (h:Int) (m:GN):G:=fun x=>if x=h then some m else g x
def fC (av:Int→Sl) (h:Int) (s:Sl):Int→Sl:=fun x=>if x=h then s else av x
theorem bX (g:G) (h:Int) (m:GN):dJ g h m h=some m:=by unfold dJ;rw[if_pos rfl]
theorem cu {g:G} {h x:Int} {m:GN} (e:x≠h):dJ g h m x=g x:=by unfold dJ;rw[if_neg e]
theorem kW (av:Int→Sl) (h:Int) (s:Sl):fC av h s h=s:=by unfold fC;rw[if_pos rfl]
theorem uU {av:Int→Sl} {h x:Int} {s:Sl} (e:x≠h):fC av h s x=av x:=by unfold fC;rw[if_neg e]
section
variable {g:G} {h:Int} {m:GN}
theorem WF.Ro (w:WF 0 g) (hn:g h=none) (h0:h≠0) {x:Int} {n:GN} (e:g x=some n):n.pa≠h:=fun e1=>by
 rcases w.pa e with h1 | ⟨p,h1,_⟩
 ·exact h0 (e1▸h1)
 ·rw[e1,hn] at h1;cases h1
theorem up_add (w:WF 0 g) (hn:g h=none) (h0:h≠0):∀ {l:List Int} {x:Int},x≠h→Up g x l→Up (dJ g h m) x l:=by
 intro l
 induction l with
 | nil=>
  intro x hx u;cases u with
  | out e=>exact .out (by rw[cu hx];exact e)
 | cons a r ih=>
  intro x hx u;cases u with
  | @node _ n _ e u=>exact .node (by rw[cu hx];exact e) (ih (w.Ro hn h0 e) u)
theorem zL (hk:m.kids=[]) (hn:g h=none) (p:Int):aj (dJ g h m) p=aj g p:=by
 by_cases e:p=h
 ·subst e;rw[aR (bX g p m),hk,fO hn]
 ·unfold aj;rw[cu e]
theorem WF.add (w:WF 0 g) (hn:g h=none) (h0:h≠0) (hp:m.pa=0) (hk:m.kids=[]):WF 0 (dJ g h m) where
 zero:=by rw[cu (Ne.symm h0)];exact w.zero
 up x n e hx:=by
  by_cases e1:x=h
  ·subst e1;rw[bX] at e;obtain rfl:=Option.some.inj e;exact absurd hp hx
  ·rw[cu e1] at e;obtain⟨p,h1,h2⟩:=w.up x n e hx;exact⟨p,by rw[cu (w.Ro hn h0 e)];exact h1,h2⟩
 down x n k e hkk:=by
  by_cases e1:x=h
  ·subst e1;rw[bX] at e;obtain rfl:=Option.some.inj e;rw[hk] at hkk;cases hkk
  ·rw[cu e1] at e;obtain⟨mk,h1,h2⟩:=w.down x n k e hkk;have:k≠h:=fun e2=>by rw[e2,hn] at h1;cases h1
   exact⟨mk,by rw[cu this];exact h1,h2⟩
 nodup x n e:=by
  by_cases e1:x=h
  ·subst e1;rw[bX] at e;obtain rfl:=Option.some.inj e;rw[hk];exact List.nodup_nil
  ·rw[cu e1] at e;exact w.nodup x n e
 chain x:=by
  by_cases e1:x=h
  ·subst e1;exact⟨[x],.node (bX g x m) (by rw[hp];exact .out (by rw[cu (Ne.symm h0)];exact w.zero)),by simp⟩
  ·obtain⟨l,h1,h2⟩:=w.chain x;exact⟨l,up_add w hn h0 e1 h1,h2⟩
theorem sV {av:Int→Sl} {s:Sl} (hn:g h=none) (h0:g 0=none) (hp:m.pa=0) (hk:m.kids=[]):raw (dJ g h m) (fC av h s)=pI (raw g av) h (some ⟨m.kind,m.name,s,m.data,0,0,0,0,0⟩):=by
 funext x;by_cases e:x=h
 ·subst e;rw[ah (bX g x m),sS];unfold fF;rw[kW,hk,hp,zL hk hn,fO h0];rfl
 ·rw[DC e];unfold raw;rw[cu e];cases g x with
  | none=>rfl
  | some n=>
   show some _=some _;unfold fF;rw[uU e,zL hk hn]
end
theorem WF.empty:WF 0 (fun _=>none) where
 zero:=rfl
 up _ _ e:=by cases e
 down _ _ _ e:=by cases e
 nodup _ _ e:=by cases e
 chain x:=⟨[],.out rfl,by simp⟩
end Tr
end
section
namespace Tr
open Go Go.RowKit
def fA (ρ:Int→Int) (n:GN):GN:={ n with pa:=ρ n.pa,kids:=n.kids.map ρ }
structure Im (ρ:Int→Int) (a g:G):Prop where
 zero:ρ (-1)=0
 node:∀ x n,a x=some n→g (ρ x)=some (fA ρ n)
 dom:∀ h,(g h).isSome→∃ x,(a x).isSome∧ρ x=h
 inj:∀ x y,(a x).isSome→(a y).isSome→ρ x=ρ y→x=y
 nz:∀ x,(a x).isSome→ρ x≠0
 neg:a (-1)=none
 pa:∀ x n,a x=some n→n.pa = -1∨(a n.pa).isSome
 kids:∀ x n,a x=some n→∀ k∈n.kids,(a k).isSome
section
variable {ρ:Int→Int} {a g:G}
theorem bU {a:G} {x:Int} {n:GN} (e:a x=some n):(a x).isSome:=by rw[e];rfl
def Lv (a:G) (x:Int):Prop:=x = -1∨(a x).isSome
theorem Im.Tt (h:Im ρ a g) {x y:Int} (hx:Lv a x) (hy:Lv a y) (e:ρ x=ρ y):x=y:=by
 rcases hx with rfl | hx
 ·rcases hy with rfl | hy
  ·rfl
  ·exact absurd (e.symm.trans h.zero) (h.nz y hy)
 ·rcases hy with rfl | hy
  ·exact absurd (e.trans h.zero) (h.nz x hx)
  ·exact h.inj x y hx hy e
theorem Im.from (h:Im ρ a g) {x:Int} {q:GN} (hx:(a x).isSome) (e:g (ρ x)=some q):∃ n,a x=some n∧q=fA ρ n:=by
 obtain⟨n,e1⟩:=Option.isSome_iff_exists.1 hx;rw[h.node x n e1] at e;exact⟨n,e1,(Option.some.inj e).symm⟩
theorem Im.mem (h:Im ρ a g) {l:List Int} (hl:∀ k∈l,(a k).isSome) {x:Int} (hx:(a x).isSome):ρ x∈l.map ρ↔x∈l:=by
 constructor
 ·intro hm;obtain⟨y,hy,e⟩:=List.mem_map.1 hm;rw[←h.inj y x (hl y hy) hx e];exact hy
 ·exact fun hm=>List.mem_map.2 ⟨x,hm,rfl⟩
theorem Im.up' (h:Im ρ a g) (w:WF 0 g):∀ {y:Int} {l:List Int},Up g y l→∀ x,Lv a x→ρ x=y→∃ l',Up a x l'∧l=l'.map ρ:=by
 intro y l u
 induction u with
 | @out y e=>
  intro x hx hy;subst hy;rcases hx with rfl | hx
  ·exact⟨[],.out h.neg,rfl⟩
  ·obtain⟨n,e1⟩:=Option.isSome_iff_exists.1 hx;rw[h.node x n e1] at e;cases e
 | @node y q l e u ih=>
  intro x hx hy;subst hy;rcases hx with rfl | hx
  ·rw[h.zero,w.zero] at e;cases e
  ·obtain⟨n,e1,rfl⟩:=h.from hx e;obtain⟨l',h1,h2⟩:=ih n.pa (h.pa x n e1) rfl;exact⟨x::l',.node e1 h1,by rw[h2];rfl⟩
theorem Im.pull (h:Im ρ a g) (w:WF 0 g):WF (-1) a where
 zero:=h.neg
 up x n e hp:=by
  rcases h.pa x n e with h1 | h1
  ·exact absurd h1 hp
  ·obtain⟨q,eq⟩:=Option.isSome_iff_exists.1 h1;refine⟨q,eq,?_⟩;rcases w.pa (h.node x n e) with h2 | ⟨p,h2,h3⟩
   ·exact absurd h2 (h.nz _ h1)
   ·rw[show (fA ρ n).pa=ρ n.pa from rfl,h.node _ _ eq] at h2;obtain rfl:=Option.some.inj h2;exact (h.mem (h.kids _ _ eq) (bU e)).1 h3
 down x n k e hk:=by
  have hks:=h.kids x n e k hk;obtain⟨q,h1,h2⟩:=w.down _ _ (ρ k) (h.node x n e) (List.mem_map.2 ⟨k,hk,rfl⟩);obtain⟨m,e1,rfl⟩:=h.from hks h1;exact⟨m,e1,h.Tt (h.pa k m e1) (.inr (bU e)) h2⟩
 nodup x n e:=List.Pairwise.of_map ρ (fun a b h e=>h (by rw[e])) (w.nodup _ _ (h.node x n e))
 chain x:=by
  cases e:a x with
  | none=>exact⟨[],.out e,by simp⟩
  | some n=>
   obtain⟨l,hl,h1⟩:=w.chain (ρ x);obtain⟨l',h2,h3⟩:=h.up' w hl x (.inr (bU e)) rfl;exact⟨l',h2,by rw[h3,List.length_map] at h1;exact h1⟩
theorem Im.up (h:Im ρ a g) (w:WF 0 g) {x:Int} (hx:Lv a x):dz g (ρ x)=(dz a x).map ρ:=by
 obtain⟨l',h2,h3⟩:=h.up' w (w.eO (ρ x)).1 x hx rfl;rw[h3,(h.pull w).kL h2]
theorem Im.P8 (h:Im ρ a g) (w:WF 0 g) {x y:Int} (hy:y∈dz a x):(a y).isSome:=((h.pull w).eO x).1.mem hy
theorem Im.walk (h:Im ρ a g) (w:WF 0 g):∀ x,(a x).isSome→au g (ρ x)=(au a x).map ρ:=by
 refine (h.pull w).induct fun x ih hx=>?_;obtain⟨n,e⟩:=Option.isSome_iff_exists.1 hx;rw[w.dR (h.node x n e),(h.pull w).dR e,List.map_cons,List.map_flatMap];congr 1;rw[show (fA ρ n).kids=n.kids.map ρ from rfl,List.flatMap_map];exact F7 fun k hk=>ih n e k hk (h.kids x n e k hk)
where
 F7 {f k:Int→List Int} {l:List Int} (h:∀ x∈l,f x=k x):l.flatMap f=l.flatMap k:=uM h
theorem Im.hgt (h:Im ρ a g) (w:WF 0 g):∀ x,(a x).isSome→gB g (ρ x)=gB a x:=by
 refine (h.pull w).induct fun x ih hx=>?_;obtain⟨n,e⟩:=Option.isSome_iff_exists.1 hx;rw[w.iF (h.node x n e),(h.pull w).iF e,show (fA ρ n).kids=n.kids.map ρ from rfl,List.map_map];congr 2;exact List.map_congr_left fun k hk=>ih n e k hk (h.kids x n e k hk)
theorem Im.kid (h:Im ρ a g) {x:Int} {n:GN} (e:a x=some n):aj g (ρ x)=n.kids.map ρ:=aR (h.node x n e)
theorem Im.dI (h:Im ρ a g) {x:Int} {n:GN} (e:a x=some n):dI g (ρ x)=ρ n.pa:=aP (h.node x n e)
theorem K6 {l:List Int} {x:Int} (hi:∀ y∈l,ρ y=ρ x→y=x):(l.erase x).map ρ=(l.map ρ).erase (ρ x):=by
 induction l with
 | nil=>rfl
 | cons b r ih=>
  by_cases e:b=x
  ·subst e;rw[List.erase_cons_head,List.map_cons,List.erase_cons_head]
  ·have e2:ρ b≠ρ x:=fun e2=>e (hi b (by simp) e2);rw[List.erase_cons_tail (by simpa using e),List.map_cons,List.map_cons,List.erase_cons_tail (by simpa using e2),ih fun y hy=>hi y (List.mem_cons_of_mem _ hy)]
theorem NG {l:List Int} {c x:Int} (hi:∀ y∈l,ρ y=ρ c→y=c):(iL l c x).map ρ=iL (l.map ρ) (ρ c) (ρ x):=by
 induction l with
 | nil=>rfl
 | cons b r ih=>
  by_cases e:b=c
  ·subst e;rw[iL,if_pos rfl,List.map_cons,List.map_cons,iL,if_pos rfl]
  ·have e2:ρ b≠ρ c:=fun e2=>e (hi b (by simp) e2);rw[iL,if_neg e,List.map_cons,List.map_cons,iL,if_neg e2,ih fun y hy=>hi y (List.mem_cons_of_mem _ hy)]
theorem K7 {l:List Int} {x:Int} (hi:∀ y∈l,ρ y=ρ x→y=x):(l.map ρ).idxOf (ρ x)=l.idxOf x:=by
 induction l with
 | nil=>rfl
 | cons b r ih=>
  rw[List.map_cons,List.idxOf_cons,List.idxOf_cons,ih fun y hy=>hi y (List.mem_cons_of_mem _ hy)];by_cases e:b=x
  ·subst e;simp
  ·have e2:ρ b≠ρ x:=fun e2=>e (hi b (by simp) e2);have h1:(b == x)=false:=by simpa using e
   have h2:(ρ b == ρ x)=false:=by simpa using e2
   rw[h1,h2]
theorem Im.change (h:Im ρ a g) {a' g':G} (hd:∀ x,(a' x).isSome=(a x).isSome) (hd2:∀ x,(g' x).isSome=(g x).isSome)
  (hn:∀ x n,a' x=some n→g' (ρ x)=some (fA ρ n)) (hp:∀ x n,a' x=some n→n.pa = -1∨(a n.pa).isSome) (hk:∀ x n,a' x=some n→∀ k∈n.kids,(a k).isSome):Im ρ a' g' where
 zero:=h.zero
 node:=hn
 dom y hy:=by
  obtain⟨x,h1,h2⟩:=h.dom y (by rw[←hd2];exact hy);exact⟨x,by rw[hd];exact h1,h2⟩
 inj x y hx hy:=h.inj x y (by rw[←hd];exact hx) (by rw[←hd];exact hy)
 nz x hx:=h.nz x (by rw[←hd];exact hx)
 neg:=by
  have:=hd (-1);rw[h.neg] at this;exact Option.not_isSome_iff_eq_none.1 (by rw[this];simp)
 pa x n e:=by rw[hd];exact hp x n e
 kids x n e k hm:=by rw[hd];exact hk x n e k hm
def tZ (a:G) (i:Int):G:=fun x=>if x=i then (a i).map fun n=>{ n with pa := -1 } else if x=Tr.dI a i then (a x).map fun n=>{ n with kids:=n.kids.erase i } else a x
theorem isSome_map {α β:Type} (o:Option α) (f:α→β):(o.map f).isSome=o.isSome:=by cases o<;>rfl
theorem F8 (a:G) (i x:Int):(tZ a i x).isSome=(a x).isSome:=by
 unfold tZ;split
 ·rename_i e;subst e;exact isSome_map _ _
 ·split
  ·exact isSome_map _ _
  ·rfl
theorem Im.cut (h:Im ρ a g) (w:WF 0 g) {i:Int} {n:GN} (ei:a i=some n) (hp:n.pa ≠ -1):Im ρ (tZ a i) (jB g (ρ i)):=by
 have ep:=h.dI ei;have hps:(a n.pa).isSome:=by rcases h.pa i n ei with h1 | h1;exact absurd h1 hp;exact h1
 refine h.change (F8 a i) (fun x=>iy) ?_ ?_ ?_
 ·intro x q e;unfold tZ at e;by_cases hx:x=i
  ·subst hx;rw[if_pos rfl,ei] at e;obtain rfl:=Option.some.inj e;rw[lG (h.node x n ei)];unfold fA;dsimp only;rw[h.zero]
  ·rw[if_neg hx] at e;have hxi:∀ q',a x=some q'→ρ x≠ρ i:=fun q' e' e2=>hx (h.inj x i (bU e') (bU ei) e2);by_cases hx2:x=Tr.dI a i
   ·rw[if_pos hx2] at e;cases eq:a x with
    | none=>rw[eq] at e;cases e
    | some q'=>
     rw[eq] at e;obtain rfl:=Option.some.inj e;have e3:Tr.dI g (ρ i)=ρ x:=by rw[ep,hx2,aP ei]
     unfold jB;rw[if_neg (hxi q' eq),if_pos e3.symm,h.node x q' eq];show some _=some _;congr 1;unfold fA;dsimp only;rw[K6 fun y hy e4=>h.inj y i (h.kids x q' eq y hy) (bU ei) e4]
   ·rw[if_neg hx2] at e;have e3:ρ x≠Tr.dI g (ρ i):=by
     rw[ep];intro e4;exact hx2 (by rw[aP ei];exact h.inj x n.pa (bU e) hps e4)
    rw[yG (hxi q e) e3];exact h.node x q e
 ·intro x q e;unfold tZ at e
  split at e
  ·rename_i hx;subst hx;rw[ei] at e;obtain rfl:=Option.some.inj e;exact .inl rfl
  ·split at e
   ·cases eq:a x with
    | none=>rw[eq] at e;cases e
    | some q'=>rw[eq] at e;obtain rfl:=Option.some.inj e;exact h.pa x q' eq
   ·exact h.pa x q e
 ·intro x q e k hk;unfold tZ at e
  split at e
  ·rename_i hx;subst hx;rw[ei] at e;obtain rfl:=Option.some.inj e;exact h.kids x n ei k hk
  ·split at e
   ·cases eq:a x with
    | none=>rw[eq] at e;cases e
    | some q'=>rw[eq] at e;obtain rfl:=Option.some.inj e;exact h.kids x q' eq k (List.mem_of_mem_erase hk)
   ·exact h.kids x q e k hk
def kR (a:G) (p i c:Int):G:=fun x=>if x=i then (a i).map fun n=>{ n with pa:=p } else if x=p then (a p).map fun n=>{ n with kids:=iL n.kids c i } else a x
theorem DN (a:G) (p i c x:Int):(kR a p i c x).isSome=(a x).isSome:=by
 unfold kR;split
 ·rename_i e;subst e;exact isSome_map _ _
 ·split
  ·rename_i e;subst e;exact isSome_map _ _
  ·rfl
theorem Im.link (h:Im ρ a g) (w:WF 0 g) {p i c:Int} {n q:GN} (ei:a i=some n) (ep:a p=some q) (hpi:p≠i) (hc:Lv a c):Im ρ (kR a p i c) (bP g (ρ p) (ρ i) (ρ c)):=by
 have Tv:ρ p≠ρ i:=fun e=>hpi (h.inj _ _ (bU ep) (bU ei) e);refine h.change (DN a p i c) (fun x=>vM (bU (h.node p q ep))) ?_ ?_ ?_
 ·intro x q' e;unfold kR at e;by_cases hx:x=i
  ·subst hx;rw[if_pos rfl,ei] at e;obtain rfl:=Option.some.inj e;rw[iB (h.node x n ei)];rfl
  ·rw[if_neg hx] at e;by_cases hx2:x=p
   ·subst hx2;rw[if_pos rfl,ep] at e;obtain rfl:=Option.some.inj e;rw[nS (h.node x q ep) Tv];unfold fA;dsimp only;rw[NG fun y hy e4=>h.Tt (.inr (h.kids x q ep y hy)) hc e4]
   ·rw[if_neg hx2] at e;rw[sF (fun e2=>hx (h.inj x i (bU e) (bU ei) e2)) (fun e2=>hx2 (h.inj x p (bU e) (bU ep) e2))];exact h.node x q' e
 ·intro x q' e;unfold kR at e
  split at e
  ·rename_i hx;subst hx;rw[ei] at e;obtain rfl:=Option.some.inj e;exact .inr (bU ep)
  ·split at e
   ·rename_i hx;subst hx;rw[ep] at e;obtain rfl:=Option.some.inj e;exact h.pa x q ep
   ·exact h.pa x q' e
 ·intro x q' e k hk;unfold kR at e
  split at e
  ·rename_i hx;subst hx;rw[ei] at e;obtain rfl:=Option.some.inj e;exact h.kids x n ei k hk
  ·split at e
   ·rename_i hx;subst hx;rw[ep] at e;obtain rfl:=Option.some.inj e;rcases sG.1 hk with rfl | hk
    ·exact bU ei
    ·exact h.kids x q ep k hk
   ·exact h.kids x q' e k hk
def dD (g:G) (h:Int) (u:GN→GN):G:=fun x=>if x=h then (g h).map u else g x
theorem xX (g:G) (h:Int) (u:GN→GN) (x:Int):(dD g h u x).isSome=(g x).isSome:=by
 unfold dD;split
 ·rename_i e;subst e;exact isSome_map _ _
 ·rfl
theorem Im.put (h:Im ρ a g) {i:Int} (hi:(a i).isSome) (u:GN→GN) (hu:∀ n,(u n).pa=n.pa∧(u n).kids=n.kids) (hm:∀ n,u (fA ρ n)=fA ρ (u n)):Im ρ (dD a i u) (dD g (ρ i) u):=by
 refine h.change (xX a i u) (xX g _ u) ?_ ?_ ?_
 ·intro x q e;unfold dD at e ⊢;by_cases hx:x=i
  ·subst hx;obtain⟨n,en⟩:=Option.isSome_iff_exists.1 hi;rw[if_pos rfl,en] at e;obtain rfl:=Option.some.inj e;rw[if_pos rfl,h.node x n en];show some _=some _;rw[hm]
  ·rw[if_neg hx] at e;rw[if_neg (fun e2=>hx (h.inj x i (bU e) hi e2))];exact h.node x q e
 ·intro x q e;unfold dD at e
  split at e
  ·rename_i hx;subst hx;obtain⟨n,en⟩:=Option.isSome_iff_exists.1 hi;rw[en] at e;obtain rfl:=Option.some.inj e;rw[(hu n).1];exact h.pa x n en
  ·exact h.pa x q e
 ·intro x q e k hk;unfold dD at e
  split at e
  ·rename_i hx;subst hx;obtain⟨n,en⟩:=Option.isSome_iff_exists.1 hi;rw[en] at e;obtain rfl:=Option.some.inj e;rw[(hu n).2] at hk;exact h.kids x n en k hk
  ·exact h.kids x q e k hk
theorem Im.add (h:Im ρ a g) {ρ':Int→Int} {i x:Int} {n:GN} (hρ:∀ y,y = -1∨(a y).isSome→ρ' y=ρ y) (hi:a i=none) (hi1:i ≠ -1) (hx:g x=none) (hx0:x≠0) (ei:ρ' i=x) (hp:n.pa = -1) (hk:n.kids=[]):
  Im ρ' (dJ a i n) (dJ g x { n with pa:=0 }):=by
 have hmap:∀ y q,a y=some q→fA ρ' q=fA ρ q:=fun y q e=>by
  unfold fA;rw[hρ q.pa (h.pa y q e)];congr 1;exact List.map_congr_left fun k hk=>hρ k (.inr (h.kids y q e k hk))
 have hne:∀ y q,a y=some q→y≠i:=fun y q e e2=>by rw[e2,hi] at e;cases e
 have hρx:∀ y q,a y=some q→ρ y≠x:=fun y q e e2=>by
  have:=h.node y q e;rw[e2,hx] at this;cases this
 have hS:∀ y,(dJ a i n y).isSome→y=i∨(a y).isSome:=fun y hy=>by
  by_cases e:y=i
  ·exact .inl e
  ·rw[cu e] at hy;exact .inr hy
 have hup:∀ y,(a y).isSome→(dJ a i n y).isSome:=fun y hy=>by
  obtain⟨q,e⟩:=Option.isSome_iff_exists.1 hy;rw[cu (hne y q e)];exact hy
 constructor
 ·rw[hρ (-1) (.inl rfl)];exact h.zero
 ·intro y q e;by_cases hy:y=i
  ·subst hy;rw[bX] at e;obtain rfl:=Option.some.inj e;rw[ei,bX];unfold fA;rw[hp,hρ (-1) (.inl rfl),h.zero,hk];rfl
  ·rw[cu hy] at e;rw[hρ y (.inr (bU e)),cu (hρx y q e),hmap y q e];exact h.node y q e
 ·intro y hy;by_cases e:y=x
  ·exact⟨i,by rw[bX];rfl,by rw[ei,e]⟩
  ·rw[cu e] at hy;obtain⟨z,h1,h2⟩:=h.dom y hy;exact⟨z,hup z h1,by rw[hρ z (.inr h1)];exact h2⟩
 ·intro y z hy hz e;rcases hS y hy with hy1 | hy1
  ·rcases hS z hz with hz1 | hz1
   ·rw[hy1,hz1]
   ·obtain⟨q,eq⟩:=Option.isSome_iff_exists.1 hz1;rw[hy1,ei,hρ z (.inr hz1)] at e;exact absurd e.symm (hρx z q eq)
  ·obtain⟨q,eq⟩:=Option.isSome_iff_exists.1 hy1;rcases hS z hz with hz1 | hz1
   ·rw[hz1,ei,hρ y (.inr hy1)] at e;exact absurd e (hρx y q eq)
   ·rw[hρ y (.inr hy1),hρ z (.inr hz1)] at e;exact h.inj y z hy1 hz1 e
 ·intro y hy;rcases hS y hy with hy1 | hy1
  ·rw[hy1,ei];exact hx0
  ·rw[hρ y (.inr hy1)];exact h.nz y hy1
 ·rw[cu (fun e=>hi1 e.symm)];exact h.neg
 ·intro y q e;by_cases hy:y=i
  ·subst hy;rw[bX] at e;obtain rfl:=Option.some.inj e;exact .inl hp
  ·rw[cu hy] at e;rcases h.pa y q e with h1 | h1
   ·exact .inl h1
   ·exact .inr (hup _ h1)
 ·intro y q e k hk';by_cases hy:y=i
  ·subst hy;rw[bX] at e;obtain rfl:=Option.some.inj e;rw[hk] at hk';cases hk'
  ·rw[cu hy] at e;exact hup k (h.kids y q e k hk')
end
end Tr
end
section
namespace bJ
def cont (b:UInt8):Bool:=decide (128≤b.toNat) && decide (b.toNat≤191)
def snd (a b:UInt8):Bool:=
 if a.toNat=224 then decide (160≤b.toNat) && decide (b.toNat≤191)
 else if a.toNat=237 then decide (128≤b.toNat) && decide (b.toNat≤159)
 else if a.toNat=240 then decide (144≤b.toNat) && decide (b.toNat≤191)
 else if a.toNat=244 then decide (128≤b.toNat) && decide (b.toNat≤143)
 else cont b
theorem NH {a b:UInt8} (h:snd a b=true):cont b=true:=by
 unfold snd at h
 repeat' split at h
 all_goals first | exact h | (simp[cont] at h ⊢;omega)
def size:List UInt8→Nat
 | []=>0
 | a::r=>
  if a.toNat≤127 then 1
  else if 194≤a.toNat∧a.toNat≤223 then (match r with | b::_=>if cont b then 2 else 0 | _=>0)
  else if 224≤a.toNat∧a.toNat≤239 then (match r with | b::c::_=>if snd a b && cont c then 3 else 0 | _=>0)
  else if 240≤a.toNat∧a.toNat≤244 then (match r with | b::c::d::_=>if snd a b && cont c && cont d then 4 else 0 | _=>0)
  else 0
inductive Begins:List UInt8→Nat→Prop
 | one (a r):a.toNat≤127→Begins (a::r) 1
 | two (a b r):194≤a.toNat→a.toNat≤223→cont b=true→Begins (a::b::r) 2
 | three (a b c r):224≤a.toNat→a.toNat≤239→snd a b=true→cont c=true→Begins (a::b::c::r) 3
 | four (a b c d r):240≤a.toNat→a.toNat≤244→snd a b=true→cont c=true→cont d=true→Begins (a::b::c::d::r) 4
theorem gJ {l:List UInt8} {n:Nat} (h:Begins l n):size l=n:=by
 cases h with
 | one a r h=>simp[size,h]
 | two a b r h1 h2 h3=>
  have e:¬ a.toNat≤127:=by omega
  simp[size,h1,h2,h3,e]
 | three a b c r h1 h2 h3 h4=>
  have e:¬ a.toNat≤127:=by omega
  have e2:¬ (194≤a.toNat∧a.toNat≤223):=by omega
  simp only[size,if_neg e,if_neg e2,if_pos (And.intro h1 h2),h3,h4];rfl
 | four a b c d r h1 h2 h3 h4 h5=>
  have e:¬ a.toNat≤127:=by omega
  have e2:¬ (194≤a.toNat∧a.toNat≤223):=by omega
  have e3:¬ (224≤a.toNat∧a.toNat≤239):=by omega
  simp only[size,if_neg e,if_neg e2,if_neg e3,if_pos (And.intro h1 h2),h3,h4,h5];rfl
theorem lH {l:List UInt8} (h:size l≠0):Begins l (size l):=by
 cases l with
 | nil=>exact absurd rfl h
 | cons a r=>
  by_cases e:a.toNat≤127
  ·rw[gJ (.one a r e)];exact .one a r e
  ·by_cases e2:194≤a.toNat∧a.toNat≤223
   ·simp only[size,if_neg e,if_pos e2] at h
    match r,h with
    | [],h=>exact absurd rfl h
    | b::r,h=>
     cases hb:cont b with
     | false=>simp[hb] at h
     | true=>have:=Begins.two a b r e2.1 e2.2 hb;rw[gJ this];exact this
   ·by_cases e3:224≤a.toNat∧a.toNat≤239
    ·simp only[size,if_neg e,if_neg e2,if_pos e3] at h
     match r,h with
     | [],h=>exact absurd rfl h
     | [_],h=>exact absurd rfl h
     | b::c::r,h=>
      cases hb:snd a b && cont c with
      | false=>simp[hb] at h
      | true=>
       simp only[Bool.and_eq_true] at hb;have:=Begins.three a b c r e3.1 e3.2 hb.1 hb.2;rw[gJ this];exact this
    ·by_cases e4:240≤a.toNat∧a.toNat≤244
     ·simp only[size,if_neg e,if_neg e2,if_neg e3,if_pos e4] at h
      match r,h with
      | [],h=>exact absurd rfl h
      | [_],h=>exact absurd rfl h
      | [_,_],h=>exact absurd rfl h
      | b::c::d::r,h=>
       cases hb:snd a b && cont c && cont d with
       | false=>simp[hb] at h
       | true=>
        simp only[Bool.and_eq_true] at hb;have:=Begins.four a b c d r e4.1 e4.2 hb.1.1 hb.1.2 hb.2;rw[gJ this];exact this
     ·simp only[size,if_neg e,if_neg e2,if_neg e3,if_neg e4] at h;exact absurd rfl h
theorem Begins.le {l:List UInt8} {n:Nat} (h:Begins l n):n≤l.length:=by cases h<;>simp
theorem Begins.fK {l:List UInt8} {n:Nat} (h:Begins l n):1≤n∧n≤4:=by cases h<;>omega
theorem Begins.other {l:List UInt8} {n:Nat} (h:Begins l n) (r:List UInt8):Begins (l.take n++r) n:=by
 cases h with
 | one a t h=>exact .one a _ h
 | two a b t h1 h2 h3=>exact .two a b _ h1 h2 h3
 | three a b c t h1 h2 h3 h4=>exact .three a b c _ h1 h2 h3 h4
 | four a b c d t h1 h2 h3 h4 h5=>exact .four a b c d _ h1 h2 h3 h4 h5
theorem size_le (l:List UInt8):size l≤l.length:=by
 by_cases h:size l=0
 ·omega
 ·exact (lH h).le
theorem K8 (l:List UInt8):size l≤4:=by
 by_cases h:size l=0
 ·omega
 ·exact (lH h).fK.2
def bad:List UInt8:=[239,191,189]
theorem zM (r:List UInt8):Begins (bad++r) 3:=.three 239 191 189 r (by decide) (by decide) (by decide) (by decide)
def chunks (l:List UInt8):List (List UInt8):=
 match l with
 | []=>[]
 | a::r=>if size (a::r)=0 then bad::chunks r else (a::r).take (size (a::r))::chunks ((a::r).drop (size (a::r)))
termination_by l.length
decreasing_by
 ·simp
 ·simp only[List.length_drop,List.length_cons];omega
def rep (l:List UInt8):List UInt8:=(chunks l).flatten
theorem iP:chunks []=[]:=by unfold chunks;rfl
theorem qN {a:UInt8} {r:List UInt8} (h:size (a::r)=0):chunks (a::r)=bad::chunks r:=by
 conv=>lhs;unfold chunks
 exact if_pos h
theorem lY {l:List UInt8} (h:size l≠0):chunks l=l.take (size l)::chunks (l.drop (size l)):=by
 cases l with
 | nil=>exact absurd rfl h
 | cons a r=>
  conv=>lhs;unfold chunks
  exact if_neg h
theorem Ba {l:List UInt8} {n:Nat} (h:Begins l n):chunks l=l.take n::chunks (l.drop n):=by
 have e:=gJ h;have:=h.fK;rw[lY (by omega),e]
def Good (c:List UInt8):Prop:=Begins c c.length
theorem NI:Good bad:=zM []
theorem K9 {l:List UInt8} (h:size l≠0):Good (l.take (size l)):=by
 have hb:=(lH h).other [];have hl:(l.take (size l)).length=size l:=by rw[List.length_take];have:=size_le l;omega
 unfold Good;rw[hl];simpa using hb
theorem wX {c:List UInt8} (h:Good c) (r:List UInt8):chunks (c++r)=c::chunks r:=by
 have hb:=Begins.other h r;rw[List.take_length] at hb;rw[Ba hb,List.take_left,List.drop_left]
theorem cO (l:List UInt8):∀ c∈chunks l,Good c:=by
 induction h:l.length using Nat.strongRecOn generalizing l with
 | _ n ih=>
  cases l with
  | nil=>rw[iP];intro c hc;cases hc
  | cons a r=>
   by_cases h0:size (a::r)=0
   ·rw[qN h0];intro c hc;rcases List.mem_cons.1 hc with rfl | hc
    ·exact NI
    ·exact ih r.length (by subst h;simp) r rfl c hc
   ·rw[lY h0];intro c hc;rcases List.mem_cons.1 hc with rfl | hc
    ·exact K9 h0
    ·exact ih _ (by subst h;simp only[List.length_drop,List.length_cons];omega) _ rfl c hc
theorem xA {cs:List (List UInt8)} (h:∀ c∈cs,Good c) (u:List UInt8):chunks (cs.flatten++u)=cs++chunks u:=by
 induction cs with
 | nil=>rfl
 | cons c cs ih=>
  rw[List.flatten_cons,List.append_assoc,wX (h c List.mem_cons_self),ih (fun c' hc=>h c' (List.mem_cons_of_mem _ hc))];rfl
theorem vN (l u:List UInt8):chunks (rep l++u)=chunks l++chunks u:=xA (cO l) u
theorem II (l:List UInt8):chunks (rep l)=chunks l:=by
 have:=vN l []
 rwa [List.append_nil,iP,List.append_nil] at this
theorem oD:rep []=[]:=by unfold rep;rw[iP];rfl
theorem JJ (l:List UInt8):rep (rep l)=rep l:=by
 have:rep (rep l)=(chunks (rep l)).flatten:=rfl;rw[this,II];rfl
theorem DR {a:UInt8} {r:List UInt8} (h:size (a::r)=0):rep (a::r)=bad++rep r:=by
 unfold rep;rw[qN h];rfl
theorem vO {l:List UInt8} (h:size l≠0):rep l=l.take (size l)++rep (l.drop (size l)):=by
 unfold rep;rw[lY h];rfl
theorem mP (l:List UInt8):(rep l).length≤3*l.length:=by
 induction h:l.length using Nat.strongRecOn generalizing l with
 | _ n ih=>
  cases l with
  | nil=>rw[oD];simp
  | cons a r=>
   subst h;by_cases h0:size (a::r)=0
   ·rw[DR h0];have:=ih r.length (by simp) r rfl;simp only[List.length_append,List.length_cons,bad,List.length_nil];omega
   ·rw[vO h0];have hl:=size_le (a::r);have:=ih ((a::r).drop (size (a::r))).length (by simp only[List.length_drop,List.length_cons];omega) _ rfl;simp only[List.length_append,List.length_take,List.length_drop] at this ⊢;omega
theorem uK (l:List UInt8):(chunks l).length≤l.length:=by
 induction h:l.length using Nat.strongRecOn generalizing l with
 | _ n ih=>
  cases l with
  | nil=>rw[iP];simp
  | cons a r=>
   subst h;by_cases h0:size (a::r)=0
   ·rw[qN h0];have:=ih r.length (by simp) r rfl;simp only[List.length_cons];omega
   ·rw[lY h0];have hl:=size_le (a::r);have:=ih ((a::r).drop (size (a::r))).length (by simp only[List.length_drop,List.length_cons];omega) _ rfl;simp only[List.length_cons,List.length_drop] at this ⊢;omega
end bJ
end
section
namespace bJ
def sp (c:UInt8):Bool:=c.toNat == 9 || c.toNat == 10 || c.toNat == 12 || c.toNat == 13 || c.toNat == 32
def lo (c:UInt8):UInt8:=if 65≤c.toNat∧c.toNat≤90 then c+32 else c
def up (c:UInt8):UInt8:=if 97≤c.toNat∧c.toNat≤122 then c - 32 else c
end bJ
end
section
open Go.RowKit
theorem IJ {a b:Bool} (h:a=b):Ending.returned (.bool a)=.returned (.bool b):=by rw[h]
theorem aag {a b:Int} (h:a=b):Ending.returned (.int .i64 a)=.returned (.int .i64 b):=by rw[h]
def oP (s:ByteArray) (i lo hi:Nat):Bool:=if h:i<s.size then decide (lo≤s[i].toNat) && decide (s[i].toNat≤hi) else false
theorem DT (s:ByteArray) (i lo hi:Nat) (w:World):
  Calls Tryz.prog 176 #[.string s,.int .i64 i,.int .u8 lo,.int .u8 hi] w fun e w'=>e=.returned (.bool (oP s i lo hi))∧w=w':=by
 by_cases h:i<s.size
 ·have e:oP s i lo hi=(decide (lo≤s[i].toNat) && decide (s[i].toNat≤hi)):=dif_pos h;have HE:=zh e;clear e
  go_enter Tryz.func176,Tryz.ntmps176
  go_wp2
  all_goals go_ret
  all_goals refine⟨IJ ?_,rfl⟩
  all_goals rw[HE.out]
  all_goals simp[*]
 ·have e:oP s i lo hi=false:=dif_neg h;have HE:=zh e;clear e
  go_enter Tryz.func176,Tryz.ntmps176
  go_wp2
  all_goals go_ret
  all_goals exact⟨IJ HE.out.symm,rfl⟩
theorem Tw (s:ByteArray) (i:Nat) (j lo hi:Int) (w:World) (hj:j=i) (h1:0≤lo) (h2:0≤hi):
  Calls Tryz.prog 176 #[.string s,.int .i64 j,.int .u8 lo,.int .u8 hi] w fun e w'=>e=.returned (.bool (oP s i lo.toNat hi.toNat))∧w=w':=by
 have:=DT s i lo.toNat hi.toNat w;rw[Int.toNat_of_nonneg h1,Int.toNat_of_nonneg h2,←hj] at this;exact this
theorem DU (s:ByteArray) (i lo hi:Nat) (j lo' hi':Int) (w:World) (hj:j=i) (h1:lo'=lo) (h2:hi'=hi):
  Calls Tryz.prog 176 #[.string s,.int .i64 j,.int .u8 lo',.int .u8 hi'] w fun e w'=>e=.returned (.bool (oP s i lo hi))∧w=w':=by
 subst hj h1 h2;exact DT s i lo hi w
theorem JW {s:ByteArray} {i lo hi:Nat} (h:oP s i lo hi=true):i<s.size:=by
 unfold oP at h
 split at h
 ·assumption
 ·cases h
def jw (s:ByteArray):Nat→Nat→Bool
 | _,0=>true
 | i,n+1=>oP s i 128 191 && jw s (i+1) n
theorem La {s:ByteArray} {i n k:Nat} (hk:k<n) (ht:jw s i n=jw s (i+k) (n - k)):jw s i n=(oP s (i+k) 128 191 && jw s (i+(k+1)) (n - (k+1))):=by
 rw[ht,show n - k=(n - (k+1))+1 from by omega];rfl
theorem NJ (s:ByteArray) (i n:Nat) (w:World) (hi:i≤281474976710656) (hn:n≤4):
  Calls Tryz.prog 177 #[.string s,.int .i64 i,.int .i64 n] w fun e w'=>e=.returned (.bool (jw s i n))∧w=w':=by
 go_enter Tryz.func177,Tryz.ntmps177
 go_wp2_with fail
 go_loop [7] (fun j=>∃ k:Nat,k≤n∧j=.int .i64 k∧jw s i n=jw s (i+k) (n - k)) (fun j=>n - (intOf j).toNat)
 case atStart=>exact⟨0,Nat.zero_le _,rfl,rfl⟩
 case round=>
  obtain⟨k,hk,rfl,ht⟩:=hrel;by_cases hlt:k<n
  ·have HT:=zh (La hlt ht);clear ht;cases hin:oP s (i+k) 128 191 with
   | false=>
    have HN:=zh hin;clear hin;go_wp2_with fail;refine (DT s (i+k) 128 191 w).mono ?_;rintro e w' ⟨rfl,rfl⟩;rw[HN.out];go_wp2_with fail
    go_ret
    exact⟨IJ (by rw[HT.out,HN.out];rfl),rfl⟩
   | true=>
    have HN:=zh hin;clear hin;go_wp2_with fail;refine (DT s (i+k) 128 191 w).mono ?_;rintro e w' ⟨rfl,rfl⟩;rw[HN.out];go_wp2_with fail
    go_round
    case rel=>exact⟨k+1,by omega,by go_num,by rw[HT.out,HN.out];rfl⟩
    case measure=>simp[intOf];omega
  ·have ek:k=n:=by omega
   have HT:=zh ht;subst ek;clear ht;go_wp2_with fail
   go_ret
   exact⟨IJ (by rw[HT.out,Nat.sub_self];rfl),rfl⟩
theorem zN (s:ByteArray) (i n:Nat) (j n':Int) (w:World) (hj:j=i) (h1:n'=n) (hi:i≤281474976710656) (hn:n≤4):
  Calls Tryz.prog 177 #[.string s,.int .i64 j,.int .i64 n'] w fun e w'=>e=.returned (.bool (jw s i n))∧w=w':=by
 subst hj h1;exact NJ s i n w hi hn
def vQ (s:ByteArray) (i:Nat):Bool:=if h:i+1<s.size then bJ.snd s[i] s[i+1] else false
theorem NK (s:ByteArray) (i lo hi:Nat) (h0:i<s.size) (h:∀ b:UInt8,bJ.snd s[i] b=(decide (lo≤b.toNat) && decide (b.toNat≤hi))):oP s (i+1) lo hi=vQ s i:=by
 unfold oP vQ;by_cases h1:i+1<s.size
 ·rw[dif_pos h1,dif_pos h1,h]
 ·rw[dif_neg h1,dif_neg h1]
theorem IK (s:ByteArray) (i:Nat) (w:World) (hi:i<s.size) (hs:s.size≤281474976710656):
  Calls Tryz.prog 178 #[.string s,.int .i64 i] w fun e w'=>e=.returned (.bool (vQ s i))∧w=w':=by
 have HS:=zh (NK s i)
 go_enter Tryz.func178,Tryz.ntmps178
 go_wp2_with fail;all_goals refine (Tw s (i+1) _ _ _ w (by omega) (by decide) (by decide)).mono ?_
 all_goals rintro e w' ⟨rfl,rfl⟩
 all_goals go_wp2_with fail
 all_goals go_ret
 all_goals refine⟨IJ (HS.out _ _ hi fun b=>?_),rfl⟩
 all_goals simp only[beq_iff_eq,beq_eq_false_iff_ne,ne_eq] at*
 all_goals unfold bJ.snd bJ.cont
 all_goals repeat' split
 all_goals first | rfl | omega
theorem IL (c:UInt8) (w:World):
  Calls Tryz.prog 160 #[.int .u8 c.toNat] w fun e w'=>e=.returned (.bool (bJ.sp c))∧w=w':=by
 go_enter Tryz.func160,Tryz.ntmps160
 go_wp2
 all_goals go_ret
 all_goals refine⟨IJ ?_,rfl⟩
 all_goals unfold bJ.sp
 all_goals rw[Bool.eq_iff_iff]
 all_goals simp
 all_goals omega
theorem vR (c:UInt8) (w:World):
  Calls Tryz.prog 160 #[.int .u8 c.toNat] w fun e w'=>e=.returned (.bool (bJ.sp c))∧Below w.heap.size w w':=by
 refine (IL c w).mono ?_;rintro e w2 ⟨rfl,rfl⟩;exact⟨rfl,Below.refl _ _⟩
end
section
open Go Go.RowKit
def Lit (w:World):Prop:=Lib.Utf8Tabs 0 1 w
theorem zO {w w':World} {a:Addr} {v:Value} (h:w.cell? a=some v) (hb:Below w.heap.size w w'):w'.cell? a=some v:=(hb.cell (World.block_lt_of_cell? w a h)).trans h
theorem Lit.below {w w':World} (h:Lit w) (hb:Below w.heap.size w w'):Lit w':=
 ⟨fun c hc=>zO (h.1 c hc) hb,fun i hi=>⟨zO (h.2 i hi).1 hb,zO (h.2 i hi).2 hb⟩⟩
end
section
namespace bJ
def Ch (l : List UInt8) (k : Nat) : Nat := (l.getD k 0).toNat
def step (l : List UInt8) : Nat × Nat := Lib.decodeN l.length (Ch l 0) (Ch l 1) (Ch l 2) (Ch l 3)
theorem DV {a b : UInt8} (h : snd a b = true) : 128 ≤ b.toNat ∧ b.toNat ≤ 191 := by
 have := NH h;simpa [cont] using this
theorem yH {a b : UInt8} (h : snd a b = true) : (a.toNat = 224 → 160 ≤ b.toNat) ∧ (a.toNat = 237 → b.toNat ≤ 159) ∧ (a.toNat = 240 → 144 ≤ b.toNat) ∧ (a.toNat = 244 → b.toNat ≤ 143) := by
 unfold snd at h;refine ⟨fun e => ?_, fun e => ?_, fun e => ?_, fun e => ?_⟩ <;> simp [e] at h <;> omega
theorem NM {a b : UInt8} (h : 128 ≤ b.toNat ∧ b.toNat ≤ 191) (h1 : a.toNat = 224 → 160 ≤ b.toNat) (h2 : a.toNat = 237 → b.toNat ≤ 159) (h3 : a.toNat = 240 → 144 ≤ b.toNat) (h4 : a.toNat = 244 → b.toNat ≤ 143) : snd a b = true := by
 unfold snd cont
 repeat' split
 all_goals (simp; omega)
theorem jD (b : UInt8) : cont b = true ↔ 128 ≤ b.toNat ∧ b.toNat ≤ 191 := by simp [cont]
theorem mY {a b : UInt8} {l m : List UInt8} (h : a = b) (h2 : l = m) : a :: l = b :: m := by rw [h, h2]
theorem byte_of (x : Int) (b : UInt8) (h : x = b.toNat) : x.toNat.toUInt8 = b := by
 subst h;simp
theorem F9 (a : UInt8) (r : List UInt8) (h : a.toNat ≤ 127) : step (a :: r) = (a.toNat, 1) := by
 have : a.toNat < 128 := by omega
 simp [step, Ch, Lib.decodeN, this]
theorem Ga (a b : UInt8) (r : List UInt8) (h1 : 194 ≤ a.toNat) (h2 : a.toNat ≤ 223) (h3 : cont b = true) : step (a :: b :: r) = (a.toNat % 32 * 64 + b.toNat % 64, 2) := by
 rw [jD] at h3;have e1 : ¬ a.toNat < 128 := by omega
 have e2 : a.toNat / 32 = 6 ∧ 1 < (a :: b :: r).length ∧ b.toNat / 64 = 2 := ⟨by omega, by simp, by omega⟩
 have e3 : a.toNat % 32 * 64 + b.toNat % 64 ≥ 128 := by omega
 show Lib.decodeN _ a.toNat b.toNat _ _ = _;unfold Lib.decodeN;rw [if_neg e1, if_pos e2, if_pos e3]
theorem zP (a b c : UInt8) (r : List UInt8) (h1 : 224 ≤ a.toNat) (h2 : a.toNat ≤ 239) (h3 : snd a b = true) (h4 : cont c = true) :
  step (a :: b :: c :: r) = (a.toNat % 16 * 4096 + b.toNat % 64 * 64 + c.toNat % 64, 3) := by
 rw [jD] at h4;have hb := DV h3;have hm := yH h3;have e1 : ¬ a.toNat < 128 := by omega
 have e2 : ¬ (a.toNat / 32 = 6 ∧ 1 < (a :: b :: c :: r).length ∧ b.toNat / 64 = 2) := fun h => by omega
 have e3 : a.toNat / 16 = 14 ∧ (1 < (a :: b :: c :: r).length ∧ b.toNat / 64 = 2) ∧ (2 < (a :: b :: c :: r).length ∧ c.toNat / 64 = 2) := ⟨by omega, ⟨by simp, by omega⟩, by simp, by omega⟩
 show Lib.decodeN _ a.toNat b.toNat c.toNat _ = _;unfold Lib.decodeN;rw [if_neg e1, if_neg e2, if_pos e3, if_pos (by omega)]
theorem Ci (a b c d : UInt8) (r : List UInt8) (h1 : 240 ≤ a.toNat) (h2 : a.toNat ≤ 244) (h3 : snd a b = true) (h4 : cont c = true) (h5 : cont d = true) :
  step (a :: b :: c :: d :: r) = (a.toNat % 8 * 262144 + b.toNat % 64 * 4096 + c.toNat % 64 * 64 + d.toNat % 64, 4) := by
 rw [jD] at h4 h5;have hb := DV h3;have hm := yH h3;have e1 : ¬ a.toNat < 128 := by omega
 have e2 : ¬ (a.toNat / 32 = 6 ∧ 1 < (a :: b :: c :: d :: r).length ∧ b.toNat / 64 = 2) := fun h => by omega
 have e3 : ¬ (a.toNat / 16 = 14 ∧ (1 < (a :: b :: c :: d :: r).length ∧ b.toNat / 64 = 2) ∧ (2 < (a :: b :: c :: d :: r).length ∧ c.toNat / 64 = 2)) := fun h => by omega
 have e4 : a.toNat / 8 = 30 ∧ (1 < (a :: b :: c :: d :: r).length ∧ b.toNat / 64 = 2) ∧ (2 < (a :: b :: c :: d :: r).length ∧ c.toNat / 64 = 2) ∧ (3 < (a :: b :: c :: d :: r).length ∧ d.toNat / 64 = 2) :=
  ⟨by omega, ⟨by simp, by omega⟩, ⟨by simp, by omega⟩, by simp, by omega⟩
 show Lib.decodeN _ a.toNat b.toNat c.toNat d.toNat = _;unfold Lib.decodeN;rw [if_neg e1, if_neg e2, if_neg e3, if_pos e4, if_pos (by omega)]
theorem jU {l : List UInt8} {n : Nat} (h : Begins l n) : (step l).2 = n ∧ Lib.encodeRune ((step l).1 : Nat) = l.take n ∧ (n = 1 → (step l).1 < 128) := by
 cases h with
 | one a r h =>
  rw [F9 a r h];refine ⟨rfl, ?_, fun _ => by show a.toNat < 128; omega⟩;show (Lib.encodeRuneZ (a.toNat : Nat)).map _ = [a]
  rw [Lib.encodeRuneZ_one (by omega) (by omega)];simp
 | two a b r h1 h2 h3 =>
  rw [Ga a b r h1 h2 h3];rw [jD] at h3;refine ⟨rfl, ?_, fun e => by omega⟩;show (Lib.encodeRuneZ ((a.toNat % 32 * 64 + b.toNat % 64 : Nat) : Int)).map _ = [a, b]
  rw [Lib.encodeRuneZ_two (by omega) (by omega)];exact mY (byte_of _ a (by omega)) (mY (byte_of _ b (by omega)) rfl)
 | three a b c r h1 h2 h3 h4 =>
  rw [zP a b c r h1 h2 h3 h4];rw [jD] at h4;have hb := DV h3;have hm := yH h3;refine ⟨rfl, ?_, fun e => by omega⟩;show (Lib.encodeRuneZ ((a.toNat % 16 * 4096 + b.toNat % 64 * 64 + c.toNat % 64 : Nat) : Int)).map _ = [a, b, c]
  rw [Lib.encodeRuneZ_three (by omega)];exact mY (byte_of _ a (by omega)) (mY (byte_of _ b (by omega)) (mY (byte_of _ c (by omega)) rfl))
 | four a b c d r h1 h2 h3 h4 h5 =>
  rw [Ci a b c d r h1 h2 h3 h4 h5];rw [jD] at h4 h5;have hb := DV h3;have hm := yH h3;refine ⟨rfl, ?_, fun e => by omega⟩;show (Lib.encodeRuneZ ((a.toNat % 8 * 262144 + b.toNat % 64 * 4096 + c.toNat % 64 * 64 + d.toNat % 64 : Nat) : Int)).map _ = [a, b, c, d]
  rw [Lib.encodeRuneZ_four (by omega) (by omega)];exact mY (byte_of _ a (by omega)) (mY (byte_of _ b (by omega)) (mY (byte_of _ c (by omega)) (mY (byte_of _ d (by omega)) rfl)))
theorem vS {l : List UInt8} (hne : l ≠ []) (h : size l = 0) : step l = (65533, 1) := by
 have no : ∀ n, ¬ Begins l n := fun n hb => by have := gJ hb; have := hb.fK; omega
 unfold step Lib.decodeN
 match l, hne with
 | a :: r, _ =>
 have ha : Ch (a :: r) 0 = a.toNat := rfl;have aaW := a.toNat_lt;by_cases e1 : a.toNat < 128
 ·exact absurd (.one a r (by omega)) (no 1)
 rw [ha, if_neg e1];by_cases e2 : a.toNat / 32 = 6 ∧ (1 < (a :: r).length ∧ Ch (a :: r) 1 / 64 = 2)
 ·rw [if_pos e2]
  match r, e2 with
  | b :: r, e2 =>
   have hb : Ch (a :: b :: r) 1 = b.toNat := rfl;rw [hb] at e2 ⊢;have hb2 := b.toNat_lt;by_cases e3 : a.toNat % 32 * 64 + b.toNat % 64 ≥ 128
   ·exact absurd (.two a b r (by omega) (by omega) ((jD b).2 (by omega))) (no 2)
   ·rw [if_neg e3]
  | [], e2 => exact absurd e2.2.1 (by simp)
 rw [if_neg e2];by_cases e3 : a.toNat / 16 = 14 ∧ (1 < (a :: r).length ∧ Ch (a :: r) 1 / 64 = 2) ∧ (2 < (a :: r).length ∧ Ch (a :: r) 2 / 64 = 2)
 ·rw [if_pos e3]
  match r, e3 with
  | b :: c :: r, e3 =>
   have hb : Ch (a :: b :: c :: r) 1 = b.toNat := rfl;have hc : Ch (a :: b :: c :: r) 2 = c.toNat := rfl;rw [hb, hc] at e3 ⊢;have hb2 := b.toNat_lt;have hc2 := c.toNat_lt
   split
   ·rename_i e4;exact absurd (.three a b c r (by omega) (by omega) (NM (by omega) (by omega) (by omega) (by omega) (by omega)) ((jD c).2 (by omega))) (no 3)
   ·rfl
  | [_], e3 => exact absurd e3.2.2.1 (by simp)
  | [], e3 => exact absurd e3.2.1.1 (by simp)
 rw [if_neg e3];by_cases e4 : a.toNat / 8 = 30 ∧ (1 < (a :: r).length ∧ Ch (a :: r) 1 / 64 = 2) ∧ (2 < (a :: r).length ∧ Ch (a :: r) 2 / 64 = 2) ∧ (3 < (a :: r).length ∧ Ch (a :: r) 3 / 64 = 2)
 ·rw [if_pos e4]
  match r, e4 with
  | b :: c :: d :: r, e4 =>
   have hb : Ch (a :: b :: c :: d :: r) 1 = b.toNat := rfl;have hc : Ch (a :: b :: c :: d :: r) 2 = c.toNat := rfl;have hd : Ch (a :: b :: c :: d :: r) 3 = d.toNat := rfl;rw [hb, hc, hd] at e4 ⊢;have hb2 := b.toNat_lt;have hc2 := c.toNat_lt;have hd2 := d.toNat_lt
   split
   ·rename_i e5;exact absurd (.four a b c d r (by omega) (by omega) (NM (by omega) (by omega) (by omega) (by omega) (by omega)) ((jD c).2 (by omega)) ((jD d).2 (by omega))) (no 4)
   ·rfl
  | [_, _], e4 => exact absurd e4.2.2.2.1 (by simp)
  | [_], e4 => exact absurd e4.2.2.1.1 (by simp)
  | [], e4 => exact absurd e4.2.1.1 (by simp)
 rw [if_neg e4]
theorem P9 : Lib.encodeRune ((65533 : Nat) : Int) = bad := by decide
theorem xY {l : List UInt8} (hne : l ≠ []) : chunks l = Lib.encodeRune ((step l).1 : Nat) :: chunks (l.drop (step l).2) := by
 by_cases h : size l = 0
 ·rw [vS hne h, P9]
  match l, hne with
  | a :: r, _ => exact qN h
 ·have hb := lH h;obtain ⟨h1, h2, _⟩ := jU hb;rw [h1, h2];exact lY h
theorem zQ {l : List UInt8} (hne : l ≠ []) : 1 ≤ (step l).2 ∧ (step l).2 ≤ l.length := by
 have hl : 1 ≤ l.length := List.length_pos_iff.2 hne;by_cases h : size l = 0
 ·rw [vS hne h]; exact ⟨Nat.le_refl _, hl⟩
 ·have hb := lH h;obtain ⟨h1, _, _⟩ := jU hb;rw [h1]; exact ⟨hb.fK.1, hb.le⟩
theorem aah (s : ByteArray) (k : Nat) : s.get! k = s.data.toList.getD k 0 := by
 cases s with
 | mk d =>
  show d[k]! = _;by_cases h : k < d.size
  ·rw [getElem!_pos d k h, List.getD_eq_getElem?_getD];simp [h]
  ·rw [getElem!_neg d k h, List.getD_eq_getElem?_getD];simp [h];rfl
theorem oF (s : ByteArray) (pos : Nat) : Utf8.decode s pos = step (s.data.toList.drop pos) := by
 rw [Lib.decode_at];have hk : ∀ k, (s.get! (pos + k)).toNat = Ch (s.data.toList.drop pos) k := by
  intro k;rw [aah];simp [Ch, List.getD_eq_getElem?_getD]
 have h0 := hk 0;rw [Nat.add_zero] at h0;rw [h0, hk 1, hk 2, hk 3];unfold step;congr 1;rw [List.length_drop]; rfl
theorem runeCountFrom_eq (s : ByteArray) : ∀ fuel pos, s.size ≤ pos + fuel → Lib.runeCountFrom s fuel pos = (chunks (s.data.toList.drop pos)).length
 | 0, pos, h => by
  have : s.data.toList.drop pos = [] := List.drop_eq_nil_of_le (by show s.size ≤ _; omega);rw [this, iP]; rfl
 | f + 1, pos, h => by
  unfold Lib.runeCountFrom;by_cases hp : pos < s.size
  ·have hne : s.data.toList.drop pos ≠ [] := fun e => by have h2 : s.size ≤ pos := List.drop_eq_nil_iff.1 e; omega
   have hw := zQ hne;rw [if_pos hp, xY hne, oF, runeCountFrom_eq s f _ (by omega), List.drop_drop];simp only [List.length_cons];omega
  ·have : s.data.toList.drop pos = [] := List.drop_eq_nil_of_le (by show s.size ≤ _; omega);rw [if_neg hp, this, iP]; rfl
theorem runeCount_eq (s : ByteArray) : Lib.runeCount s = (chunks s.data.toList).length := by
 have := runeCountFrom_eq s s.size 0 (by omega)
 rwa [List.drop_zero] at this
theorem Tx {l : List UInt8} (hne : l ≠ []) (h : size l = 0) : rep l ≠ l := by
 match l, hne with
 | a :: r, _ =>
  rw [DR h];intro e;simp only [bad, List.cons_append, List.nil_append, List.cons.injEq] at e;obtain ⟨e0, e⟩ := e;generalize rep r = t at e;subst e0 e;have h3 : size (239 :: 191 :: 189 :: t) = 3 := gJ (zM t);omega
theorem DW (l : List UInt8) : Lib.decodeL l = step l := by
 unfold Lib.decodeL;rw [oF];rfl
theorem Lb (l : List UInt8) : Lib.validD l = decide (rep l = l) := by
 induction hn : l.length using Nat.strongRecOn generalizing l with
 | _ n ih =>
  by_cases hne : l = []
  ·subst hne; rw [oD]; rfl
  ·rw [Lib.validD_step l hne, DW];by_cases h : size l = 0
   ·rw [vS hne h, if_pos ⟨rfl, rfl⟩, decide_eq_false (Tx hne h)]
   ·have hb := lH h;obtain ⟨h1, h2, h3⟩ := jU hb;have hw := hb.fK;have hle := hb.le;rw [if_neg (fun e => by have := h3 (by omega); omega), h1, ih (l.drop (size l)).length (by rw [List.length_drop]; omega) _ rfl, vO h];congr 1
    conv => rhs; rhs; rw [← List.take_append_drop (size l) l]
    rw [List.append_cancel_left_eq]
end bJ
end
section
open Go Go.RowKit
def code:List UInt8→Nat
 | [a]=>a.toNat
 | [a,b]=>a.toNat % 32*64+b.toNat % 64
 | [a,b,c]=>a.toNat % 16*4096+b.toNat % 64*64+c.toNat % 64
 | [a,b,c,d]=>a.toNat % 8*262144+b.toNat % 64*4096+c.toNat % 64*64+d.toNat % 64
 | _=>0
def seg (cs:List (List UInt8)) (a t:Nat):List (List UInt8):=(cs.take t).drop a
theorem nA (cs:List (List UInt8)) (a t:Nat) (h:t≤a):seg cs a t=[]:=by
 unfold seg;exact List.drop_eq_nil_of_le (by rw[List.length_take];omega)
theorem Gb (cs:List (List UInt8)) (a k:Nat) (h:a≤k) (hk:k<cs.length):seg cs a (k+1)=seg cs a k++[cs.getD k []]:=by
 unfold seg;rw[List.take_succ_eq_append_getElem hk,List.drop_append_of_le_length (by rw[List.length_take];omega)];simp[List.getD,hk]
theorem JX (cs:List (List UInt8)) (a k t:Nat) (h:cs.length≤k) (ht:cs.length≤t):seg cs a k=seg cs a t:=by
 unfold seg;rw[List.take_of_length_le h,List.take_of_length_le ht]
theorem yE (cs:List (List UInt8)) (a t:Nat):(seg cs a t).flatten.length≤cs.flatten.length:=by
 unfold seg;have h1:=congrArg (fun l:List (List UInt8)=>l.flatten.length) (List.take_append_drop a (cs.take t));have h2:=congrArg (fun l:List (List UInt8)=>l.flatten.length) (List.take_append_drop t cs);simp only[List.flatten_append,List.length_append] at h1 h2;omega
def enum (cs:List (List UInt8)):List (Nat×List UInt8):=(List.range cs.length).map fun i=>(i,cs.getD i [])
theorem lZ (cs:List (List UInt8)):(enum cs).length=cs.length:=by simp[enum]
abbrev Tz (x:Nat×List UInt8):Array Value:=#[.int .i64 (x.1:Nat),.int .i32 (code x.2:Nat)]
theorem Qa (l:List UInt8):code l<2097152:=by
 unfold code
 split
 ·rename_i a;have:=a.toNat_lt;omega
 ·omega
 ·omega
 ·omega
 ·omega
theorem wY (cs:List (List UInt8)) (k:Nat):(enum cs).take k <+: enum cs:=List.take_prefix _ _
theorem drop_cons {cs:List (List UInt8)} {k:Nat} {c:List UInt8} {r:List (List UInt8)} (h:cs.drop k=c::r):
  k<cs.length∧cs.getD k []=c∧cs.drop (k+1)=r∧(enum cs).take (k+1)=(enum cs).take k++[(k,c)]:=by
 have hk:k<cs.length:=by
  have:=congrArg List.length h;rw[List.length_drop,List.length_cons] at this;omega
 rw[List.drop_eq_getElem_cons hk,List.cons.injEq] at h;have hc:cs.getD k []=c:=by simp[List.getD,hk,h.1]
 refine⟨hk,hc,h.2,?_⟩;have hke:k<(enum cs).length:=by rw[lZ];exact hk
 rw[List.take_succ_eq_append_getElem hke];simp[enum,hk,h.1]
theorem Cj {l:List UInt8} (hne:l≠[]):code (Lib.encodeRune ((bJ.step l).1:Nat))=(bJ.step l).1:=by
 by_cases h:bJ.size l=0
 ·rw[bJ.vS hne h];decide
 ·have hb:=bJ.lH h;rw[(bJ.jU hb).2.1];generalize bJ.size l=n at hb;cases hb with
  | one a r h'=>rw[bJ.F9 a r h'];rfl
  | two a b r h1 h2 h3=>rw[bJ.Ga a b r h1 h2 h3];rfl
  | three a b c r h1 h2 h3 h4=>rw[bJ.zP a b c r h1 h2 h3 h4];rfl
  | four a b c d r h1 h2 h3 h4 h5=>rw[bJ.Ci a b c d r h1 h2 h3 h4 h5];rfl
theorem Lc {c:List UInt8} (h:bJ.Good c):Lib.encodeRune ((code c:Nat):Int)=c:=by
 have hs:=(bJ.jU h).2.1;rw[List.take_length] at hs;have hne:c≠[]:=fun e=>by subst e;have:=h.fK.1;simp at this
 have h2:=Cj hne;rw[hs] at h2;rw[h2,hs]
theorem IQ {c:List UInt8} (h:bJ.Good c):Lib.runeCells ((code c:Nat):Int)=Lib.byteCells c:=by
 rw[←Lib.byteCells_encodeRune,Lc h]
end
section
open Go.RowKit Go.Shelf
attribute [local go_sem] Oper.semAt_some
def Keep (m:Nat) (W W':World):Prop:=W.heap.size≤W'.heap.size∧∀ k o,W.heap[k]?=some o→k≠m→(o.isWalk=true∨∃ c t fz,t≠5∧o=.cells c t fz)→W'.heap[k]?=some o
theorem Keep.trans {m:Nat} {A B C:World} (h:Keep m A B) (k:Keep m B C):Keep m A C:=
 ⟨Nat.le_trans h.1 k.1,fun i o hi hm ho=>k.2 i o (h.2 i o hi hm ho) hm ho⟩
theorem Keep.put {m:Nat} {w:World} (W:World) (l:Nat) (o o':Obj) (_:w.heap.size≤l) (hl:W.heap[l]?=some o) (hc:o.isCells=false) (hw:o.isWalk=false):Keep m W (W.putObj l o'):=by
 have h:=grownBy_putObj' W l o';refine⟨h.size,fun k x hk _ hx=>?_⟩;by_cases e:k=l
 ·subst e;rw[hl] at hk;obtain rfl:=Option.some.inj hk;rcases hx with hx | ⟨c,t,fz,_,rfl⟩
  ·rw[hw] at hx;cases hx
  ·cases hc
 ·rw[World.putObj_heap_other e];exact hk
theorem Keep.of {m:Nat} {W W':World} (h:Lib.OthersKept 5 (some m) W W') (hs:W.heap.size≤W'.heap.size):Keep m W W':=
 ⟨hs,fun k o hk hm ho=>h k o hk (fun e=>hm (Option.some.inj e)) (fun c fz e=>by
  rcases ho with ho | ⟨c',t,fz',ht,rfl⟩
  ·subst e;cases ho
  ·cases e;exact ht rfl)⟩
theorem IU (s:ByteArray) (hs:s.size≤20000) (l Bs m:Nat) (hm:m<Bs) (J Jx:List (Nat×List UInt8)→World→Prop) (W:World) (O6:W.heap[Bs]?=some (.cells #[.string s] 9 (0,0)))
  (hJ:AbidesFrom W.heap.size J)
  (hY:∀ pre x W1,J pre W1→pre.length<(bJ.chunks s.data.toList).length→YieldAt Fence.wide (4 - 1) Tryz.prog l (Tz x) W1 fun e W'=>
   (e=.returned (.bool true)∧J (pre++[x]) W'∧Keep m W1 W')∨(e=.returned (.bool false)∧Jx (pre++[x]) W'))
  (h0:J [] W):
  CallsIn Fence.wide 4 Tryz.prog 163 #[.func (.yield l) #[] #[],.pointer (some ⟨Bs,0,none⟩)] W fun e W'=>(∃ v,e=.returned v)∧
   ((∃ xs,xs=enum (bJ.chunks s.data.toList)∧J xs W')∨(∃ pre,pre <+: enum (bJ.chunks s.data.toList)∧Jx pre W')):=by
 have hcell:W.cell? ⟨Bs,0,none⟩=some (.string s):=cell_of_row W Bs 0 _ _ _ O6;have hBl:Bs<W.heap.size:=(Array.getElem?_eq_some_iff.1 O6).1;have hll:s.data.toList.length=s.size:=rfl;obtain⟨cs,hcs⟩:∃ cs,bJ.chunks s.data.toList=cs:=⟨_,rfl⟩
 have hcl:=bJ.uK s.data.toList;rw[hcs] at hY hcl ⊢;refine callsIn_of_wp Tryz.func163 rfl trivial ?_ rfl;simp only[Tryz.ntmps163,List.size_toArray,List.length_cons,List.length_nil,Nat.reduceAdd,Nat.reduceSub,Array.replicate_succ,Array.replicate_zero,List.push_toArray,List.append_toArray,List.nil_append,List.cons_append]
 gi_wp2
 gi_loopw [3] (fun i wr=>∃ (pos k:Nat),i=.int .i64 k∧k≤20000∧cs.drop k=bJ.chunks (s.data.toList.drop pos)∧wr.heap[W.heap.size]?=some (.stringIter s pos)∧J ((enum cs).take k) wr)
  (fun _ wr=>s.size - wr.iterPos W.heap.size)
 case atStart=>
  refine⟨0,0,rfl,Nat.zero_le _,by rw[List.drop_zero,List.drop_zero,hcs],World.iter_heap W s 0,?_⟩;exact hJ _ _ _ none h0 (World.grownBy_alloc W _ none) (fun r e=>by cases e)
 case round=>
  obtain⟨pos,k,rfl,hk,hdr,hit,hJs⟩:=hrel;by_cases hp:pos<s.size
  ·have hne:s.data.toList.drop pos≠[]:=fun e=>by have h2:s.size≤pos:=List.drop_eq_nil_iff.1 e;omega
   have hw:=bJ.zQ hne;have hcode:=Cj hne;have hst:=bJ.xY hne;have hdec:=bJ.oF s pos;rw[List.drop_drop] at hst;obtain⟨n,hn⟩:∃ n,(bJ.step (s.data.toList.drop pos)).2=n:=⟨_,rfl⟩
   obtain⟨c,hc⟩:∃ c,Lib.encodeRune ((bJ.step (s.data.toList.drop pos)).1:Nat)=c:=⟨_,rfl⟩
   rw[hc] at hcode hst;rw[hn] at hst hw;rw[hst] at hdr;obtain⟨hk2,_,aai,htk⟩:=drop_cons hdr;have hnx:∀ ty,(Instr.next (.pointer (some ⟨W.heap.size,0,none⟩)) true ty).run Tryz.prog wr=_:=fun ty=>Lib.run_next_any_at wr W.heap.size s pos ty hit hp;rw[hdec,←hcode,hn] at hnx;have hit2:=Lib.iterAt_heap wr W.heap.size s pos (pos+n) hit;have hJ2:J ((enum cs).take k) (wr.iterAt W.heap.size s (pos+n)):=hJ _ wr _ (some W.heap.size) hJs (grownBy_putObj' wr W.heap.size (.stringIter s (pos+n))) (fun r e=>by cases e;exact⟨Nat.le_refl _,_,hit,rfl⟩);obtain⟨fn,tmps,assign,body,hy,hR⟩:=hY _ (k,c) _ hJ2 (by rw[List.length_take,lZ];omega);dsimp only[Tz] at hy;rw[←htk] at hR;have X3:s.size - wr.iterPos W.heap.size=s.size - pos:=by simp only[World.iterPos,hit]
   clear hdec hcode hst hY
   gi_wp2
   refine hR.mono ?_;rintro e W3 (⟨rfl,hJ3,hk3⟩ | ⟨rfl,hJx3⟩)
   ·have hit3:=hk3.2 W.heap.size _ hit2 (by omega) (.inl rfl)
    gi_wp2
    go_roundw
    case rel=>exact⟨pos+n,k+1,by go_num,by omega,aai,hit3,hJ3⟩
    case measure=>
     rw[X3];simp only[World.iterPos,hit3];omega
   ·gi_wp2
    refine bodyPost_ret (results_none rfl _ _ _) rfl ?_;exact⟨⟨_,rfl⟩,.inr ⟨_,wY cs (k+1),hJx3⟩⟩
  ·have hd:s.data.toList.drop pos=[]:=List.drop_eq_nil_of_le (by omega);rw[hd,bJ.iP] at hdr;have hkl:cs.length≤k:=List.drop_eq_nil_iff.1 hdr;rw[List.take_of_length_le (by rw[lZ];exact hkl)] at hJs;have hnx:∀ ty,(Instr.next (.pointer (some ⟨W.heap.size,0,none⟩)) true ty).run Tryz.prog wr=_:=fun ty=>Lib.run_next_end_at wr W.heap.size s pos ty hit hp
   gi_wp2
   go_end0
   exact⟨⟨_,rfl⟩,.inl ⟨_,rfl,hJs⟩⟩
theorem Gc (s:ByteArray) (w:World) (hs:s.size≤20000):
  Calls Tryz.prog 138 #[.string s] w fun e w'=>∃ lb,e=.returned (.func (.func 163) #[] lb)∧w'=w.alloc (.cells #[.string s] 9)∧
   ∀ m,m<w.heap.size→SeqStopsK Fence.wide 4 Tryz.prog 163 lb Tz (Keep m) (fun xs=>xs=enum (bJ.chunks s.data.toList)) (fun pre=>pre <+: enum (bJ.chunks s.data.toList)) (bJ.chunks s.data.toList).length w':=by
 go_enter Tryz.func138,Tryz.ntmps138
 go_wp2
 go_ret
 refine⟨_,rfl,rfl,fun m hm l J Jx W hW hJ hJx hY h0=>?_⟩;exact IU s hs l w.heap.size m hm J Jx W ((hW.block _ (by simp)).trans (World.alloc_heap_new w _)) hJ hY h0
end
section
open Go.RowKit
theorem drop_at (s:ByteArray) (k:Nat) (h:k<s.size):s.data.toList.drop k=s[k]::s.data.toList.drop (k+1):=by
 rw[List.drop_eq_getElem_cons (by simpa using h)];rfl
theorem sH (s:ByteArray) (k:Nat) (h:¬ k<s.size):s.data.toList.drop k=[]:=List.drop_eq_nil_of_le (by simp only[Array.length_toList];exact Nat.le_of_not_lt h)
theorem Qb (a x y z:Nat) (t:Bool):
  (if a≤127 then 1 else if 194≤a∧a≤223 then (if 128≤x∧x≤191 then 2 else 0) else if 224≤a∧a≤239 then (if t=true∧128≤y∧y≤191 then 3 else 0) else if 240≤a∧a≤244 then (if (t=true∧128≤y∧y≤191)∧128≤z∧z≤191 then 4 else 0) else 0)=
  (if a≤127 then 1 else if (194≤a∧a≤223)∧128≤x∧x≤191 then 2 else if ((224≤a∧a≤239)∧t=true)∧128≤y∧y≤191 then 3 else if ((240≤a∧a≤244)∧t=true)∧(128≤y∧y≤191)∧128≤z∧z≤191 then 4 else 0):=by
 cases t<;>(simp only[true_and,and_true,false_and,and_false,if_false,reduceCtorEq];repeat' split)<;>omega
theorem NQ (a x y:Nat) (t:Bool):
  (if a≤127 then 1 else if 194≤a∧a≤223 then (if 128≤x∧x≤191 then 2 else 0) else if 224≤a∧a≤239 then (if t=true∧128≤y∧y≤191 then 3 else 0) else 0)=
  (if a≤127 then 1 else if (194≤a∧a≤223)∧128≤x∧x≤191 then 2 else if ((224≤a∧a≤239)∧t=true)∧128≤y∧y≤191 then 3 else 0):=by
 cases t<;>(simp only[true_and,and_true,false_and,and_false,if_false,reduceCtorEq];repeat' split)<;>omega
theorem NR (a x:Nat):
  (if a≤127 then 1 else if 194≤a∧a≤223 then (if 128≤x∧x≤191 then 2 else 0) else 0)=(if a≤127 then 1 else if (194≤a∧a≤223)∧128≤x∧x≤191 then 2 else 0):=by
 repeat' split
 all_goals omega
theorem Ld (s:ByteArray) (i:Nat):bJ.size (s.data.toList.drop i)=
  if oP s i 0 127 then 1 else if oP s i 194 223 && jw s (i+1) 1 then 2 else if oP s i 224 239 && vQ s i && jw s (i+2) 1 then 3 else if oP s i 240 244 && vQ s i && jw s (i+2) 2 then 4 else 0:=by
 by_cases h0:i<s.size
 ·rw[drop_at s i h0];by_cases h1:i+1<s.size
  ·rw[drop_at s _ h1];by_cases h2:i+2<s.size
   ·rw[drop_at s _ h2];by_cases h3:i+3<s.size
    ·rw[drop_at s _ h3];simp[bJ.size,oP,jw,vQ,bJ.cont,h0,h1,h2,h3];exact Qb _ _ _ _ _
    ·rw[sH s _ h3];simp[bJ.size,oP,jw,vQ,bJ.cont,h0,h1,h2,h3];exact NQ _ _ _ _
   ·have h3:¬ i+3<s.size:=by omega
    rw[sH s _ h2];simp[bJ.size,oP,jw,vQ,bJ.cont,h0,h1,h2,h3];exact NR _ _
  ·have h2:¬ i+2<s.size:=by omega
   have h3:¬ i+3<s.size:=by omega
   rw[sH s _ h1];simp[bJ.size,oP,jw,vQ,h0,h1,h2,h3]
 ·rw[sH s i h0];simp[bJ.size,oP,h0]
theorem zR (s:ByteArray) (i:Nat) (w:World) (hs:s.size≤140737488351232) (hi:i≤s.size):
  Calls Tryz.prog 157 #[.string s,.int .i64 i] w fun e w'=>e=.returned (.int .i64 (bJ.size (s.data.toList.drop i):Nat))∧w=w':=by
 have HS:=zh (Ld s i)
 go_enter Tryz.func157,Tryz.ntmps157
 go_wp2_with fail;iterate 10 all_goals try first
  | (refine (DU s i 0 127 _ _ _ w rfl (by decide) (by decide)).mono ?_;rintro e w9 ⟨rfl,rfl⟩;go_wp2_with fail)
  | (refine (DU s i 194 223 _ _ _ w rfl (by decide) (by decide)).mono ?_;rintro e w9 ⟨rfl,rfl⟩;go_wp2_with fail)
  | (refine (DU s i 224 239 _ _ _ w rfl (by decide) (by decide)).mono ?_;rintro e w9 ⟨rfl,rfl⟩;go_wp2_with fail)
  | (refine (DU s i 240 244 _ _ _ w rfl (by decide) (by decide)).mono ?_;rintro e w9 ⟨rfl,rfl⟩;go_wp2_with fail)
  | (refine (zN s (i+1) 1 _ _ w (by omega) (by decide) (by omega) (by decide)).mono ?_;rintro e w9 ⟨rfl,rfl⟩;go_wp2_with fail)
  | (refine (zN s (i+2) 1 _ _ w (by omega) (by decide) (by omega) (by decide)).mono ?_;rintro e w9 ⟨rfl,rfl⟩;go_wp2_with fail)
  | (refine (zN s (i+2) 2 _ _ w (by omega) (by decide) (by omega) (by decide)).mono ?_;rintro e w9 ⟨rfl,rfl⟩;go_wp2_with fail)
  | (refine (IK s i w (by first | exact JW (lo:=224) (hi:=239) (by assumption) | exact JW (lo:=240) (hi:=244) (by assumption)) (by omega)).mono ?_;rintro e w9 ⟨rfl,rfl⟩;go_wp2_with fail)
 all_goals go_ret
 all_goals refine⟨aag ?_,rfl⟩
 all_goals rw[HS.out]
 all_goals simp[*]
theorem TA:(Tryz.prog.info? 5).map (fun i=>(i.zero,i.size,i.bytes))=some (some (.int .u8 0),1,1):=by kernel_rfl
def fJ (l:List UInt8):ByteArray:=⟨l.toArray⟩
theorem jP (l:List UInt8):(fJ l).size=l.length:=by simp[fJ,ByteArray.size]
theorem Bu (l:List UInt8):(fJ l).data.toList=l:=rfl
theorem tJ (s:ByteArray):fJ s.data.toList=s:=rfl
theorem lW (l m:List UInt8):fJ l++fJ m=fJ (l++m):=ByteArray.mk_append_mk l m
theorem TB {a b:ByteArray} (h:a=b):Ending.returned (.string a)=.returned (.string b):=by rw[h]
theorem DX (l:List UInt8):strOfNums (l.map fun b=>(b.toNat:Int))=fJ l:=by
 unfold strOfNums fJ;congr 2;rw[List.map_map]
 conv=>rhs;rw[←List.map_id l]
 congr 1;funext b;simp
theorem Le {w:World} {base:Nat} {v:Value} {l:List UInt8} (h:w.ownsRow base 5 1 v l.length (jv l)):
  (convert 128 9 v).run Tryz.prog w=.ok (.string (fJ l)) w:=by
 obtain⟨A,c,rfl⟩:=zD h;rcases h.2 with ⟨hv,hn⟩ | ⟨g,cap,cur,hv,_,_⟩
 ·injection hv with h1 h2 h3;subst h1;rw[run_convert_bytes_nil w 128 5 Tryz.underlying128 Tryz.underlying5 _ _ 9 Tryz.underlying9];rw[List.eq_nil_of_length_eq_zero hn];rfl
 ·injection hv with h1 h2 h3;subst h1;rw[run_convert_bytes_arg w 128 5 Tryz.underlying128 Tryz.underlying5 g 0 l.length c (l.map fun b=>(b.toNat:Int)) (by simp) ?_ 9 Tryz.underlying9,DX];intro i hi;rw[Nat.zero_add,h.cellAt i (by omega)];simp[jv,hi]
theorem Gd (s:ByteArray) (k n:Nat):(s.extract k (k+n)).data.toList=(s.data.toList.drop k).take n:=by
 rw[ByteArray.data_extract,Array.toList_extract];simp
theorem jT (s:ByteArray) (w:World) (hs:s.size≤10000):
  Calls Tryz.prog 112 #[.string s] w fun e w'=>e=.returned (.string (fJ (bJ.rep s.data.toList)))∧Below w.heap.size w w':=by
 obtain⟨i0,hi,hz0,hz1,hz2⟩:=info_parts TA;have hrl:=bJ.mP s.data.toList;have hll:s.data.toList.length=s.size:=rfl;rw[hll] at hrl
 go_enter Tryz.func112,Tryz.ntmps112
 go_wp2_with fail
 go_loopw [3,4] (fun v i wr=>∃ (k:Nat) (L:List UInt8),k≤s.size∧i=.int .i64 k∧wr.ownsRow w.heap.size 5 1 v L.length (jv L)∧L++bJ.rep (s.data.toList.drop k)=bJ.rep s.data.toList∧Below w.heap.size w wr) (fun _ i _=>s.size - (intOf i).toNat)
 case atStart=>exact⟨0,[],Nat.zero_le _,rfl,World.ownsRow_nil _ _ _ _,rfl,Below.refl _ _⟩
 case round=>
  obtain⟨k,L,hk,rfl,hown,hL,hbel⟩:=hrel;have Yh:L.length≤30000:=by have:=congrArg List.length hL;rw[List.length_append] at this;omega
  obtain⟨A,c,rfl⟩:=zD hown;by_cases hlt:k<s.size
  ·obtain⟨n,hn⟩:∃ n,bJ.size (s.data.toList.drop k)=n:=⟨_,rfl⟩
   have X4:=bJ.K8 (s.data.toList.drop k);have hnl:=bJ.size_le (s.data.toList.drop k);rw[List.length_drop,hll] at hnl;rw[hn] at X4 hnl;by_cases h0:n=0
   ·have hstep:L++bJ.bad++bJ.rep (s.data.toList.drop (k+1))=bJ.rep s.data.toList:=by
     rw[←hL,drop_at s k hlt,bJ.DR (by rw[←drop_at s k hlt,hn,h0]),List.append_assoc]
    have HS:=zh hstep;have HN:=zh hn;clear hstep hL hn X4 hnl;subst h0;go_wp2_with fail;refine (zR s k wr (by omega) (by omega)).mono ?_;rintro e w2 ⟨rfl,rfl⟩;rw[HN.out]
    go_wp2_with (at_builtin;refine wpList_append_own _ rfl (.tmp 15) (.tmp 16) 128 rfl w.heap.size 5 i0 (.int .u8 0) 1 1 Tryz.underlying128 hi hz0 hz1 hz2 rfl (by decide) _ L.length (jv L) rfl (hown.alloc _) ⟨wr.heap.size,0,none⟩ 3 3 (jv bJ.bad) rfl rfl ?c1 ?c2 ?c3 ?c4 ?c5 ?_)
    case c1=>intro j u hj;match j,hj with | 0,hj=>simp[jv,bJ.bad] at hj;subst hj;simp[Addr.add] | 1,hj=>simp[jv,bJ.bad] at hj;subst hj;simp[Addr.add] | 2,hj=>simp[jv,bJ.bad] at hj;subst hj;simp[Addr.add]
    case c2=>intro u hu;simp[jv,bJ.bad] at hu;rcases hu with rfl | rfl | rfl<;>rfl
    case c3=>unfold maxLen;omega
    case c4=>omega
    case c5=>have:=hbel.size;simp;omega
    intro v2 w2 ho2 hg2 _;have hb2:Below w.heap.size w w2:=(hbel.alloc hbel.size _).grown hg2 (by have:=hbel.size;simp;omega) (fun j hj=>(hown.lt j hj).1);rw[←uw] at ho2;have HB:=zh hb2;have HO:=zh ho2;clear ho2 hg2 hb2;go_wp2_with fail
    go_roundw
    case rel=>exact⟨k+1,L++bJ.bad,by omega,by go_num,by rw[List.length_append];exact HO.out,HS.out,HB.out⟩
    case measure=>simp[intOf];omega
   ·have hstep:L++(s.extract k (k+n)).data.toList++bJ.rep (s.data.toList.drop (k+n))=bJ.rep s.data.toList:=by
     have h:=bJ.vO (l:=s.data.toList.drop k) (by rw[hn];exact h0);rw[hn,List.drop_drop] at h;rw[←hL,h,Gd,List.append_assoc]
    have HS:=zh hstep;have HN:=zh hn;have hxs:(s.extract k (k+n)).size=n:=by rw[ByteArray.size_extract];omega
    have hnz:((n:Int) == 0)=false:=by simp;omega
    have hsl:∀ W:World,(Instr.slice 9 (.string s) (some (.int .i64 k)) (some (.int .i64 ((k:Int)+n))) none).run Tryz.prog W=.ok (.string (s.extract k (k+n))) W:=fun W=>run_slice_string W _ s _ _ _ _ Tryz.underlying9 (by omega) (by omega) (by omega);have hHO:=zh hown;clear hstep hL hn;go_wp2_with fail;refine (zR s k wr (by omega) (by omega)).mono ?_;rintro e w2 ⟨rfl,rfl⟩;rw[HN.out]
    go_wp2_with (at_builtin;refine Lib.wpList_append_own_string _ rfl (.tmp 20) (.tmp 26) 128 9 rfl w.heap.size 5 i0 Tryz.underlying128 Tryz.underlying9 hi hz0 hz1 hz2 _ L.length (jv L) rfl hHO.out (s.extract k (k+n)) rfl ?c3 ?c4 ?c5 ?_)
    case c3=>unfold maxLen;omega
    case c4=>omega
    case c5=>have:=hbel.size;omega
    intro v2 w2 ho2 hg2 _;have hb2:Below w.heap.size w w2:=hbel.grown hg2 hbel.size (fun j hj=>(hHO.out.lt j hj).1);rw[Ir,←uw] at ho2;have HB:=zh hb2;have HO:=zh ho2;have hel:(L++(s.extract k (k+n)).data.toList).length=L.length+n:=by rw[List.length_append];show _+(s.extract k (k+n)).size=_;rw[hxs]
    have HE:=zh hel;clear ho2 hg2 hb2 hxs hel;go_wp2_with fail
    go_roundw
    case rel=>exact⟨k+n,L++(s.extract k (k+n)).data.toList,by omega,by go_num,by rw[HE.out];exact HO.out,HS.out,HB.out⟩
    case measure=>simp[intOf];omega
  ·have ek:k=s.size:=by omega
   subst ek;rw[sH s _ (by omega),bJ.oD,List.append_nil] at hL;have aaH:=Le hown;have HL:=zh hL;clear hL;go_wp2_with fail
   go_ret
   exact⟨TB (by rw[HL.out]),hbel⟩
theorem Ck (c:UInt8) (w:World):
  Calls Tryz.prog 175 #[.int .u8 c.toNat] w fun e w'=>e=.returned (.bool (bJ.sp c))∧w=w':=by
 go_enter Tryz.func175,Tryz.ntmps175
 go_wp2
 all_goals go_ret
 all_goals refine⟨IJ ?_,rfl⟩
 all_goals unfold bJ.sp
 all_goals rw[Bool.eq_iff_iff]
 all_goals simp
 all_goals omega
end
section
namespace Tr
open Go Go.RowKit
inductive uo (P:Int→Int→List Int→List Int→Prop):List Int→List Int→List Int→List Int→Prop
 | nil:uo P [] [] [] []
 | cons {x y:Int} {xs ys l1 l2 m1 m2:List Int}:P x y l1 m1→uo P xs ys l2 m2→uo P (x::xs) (y::ys) (l1++l2) (m1++m2)
def Cp (g g':G):Nat→Int→Int→Int→List Int→List Int→Prop
 | 0,_,_,_,_,_=>False
 | f+1,x,y,q,lx,ly=>∃ n ys l m,g x=some n∧g' y=some { n with pa:=q,kids:=ys }∧uo (fun a b l m=>Cp g g' f a b y l m) n.kids ys l m∧lx=x::l∧ly=y::m
section
variable {g g' g2:G} {P Q:Int→Int→List Int→List Int→Prop}
theorem uo.mono {xs ys l m:List Int} (h:uo P xs ys l m) (hq:∀ x y l' m',x∈xs→(∀ z∈l',z∈l)→(∀ z∈m',z∈m)→P x y l' m'→Q x y l' m'):uo Q xs ys l m:=by
 induction h with
 | nil=>exact .nil
 | cons h1 h2 ih=>
  refine .cons (hq _ _ _ _ (by simp) (fun z hz=>List.mem_append_left _ hz) (fun z hz=>List.mem_append_left _ hz) h1) (ih fun x y l' m' hx hl hm=>hq x y l' m' (List.mem_cons_of_mem _ hx) (fun z hz=>List.mem_append_right _ (hl z hz)) (fun z hz=>List.mem_append_right _ (hm z hz)))
theorem uo.snoc {xs ys l m l1 m1:List Int} {x y:Int} (h:uo P xs ys l m) (h1:P x y l1 m1):uo P (xs++[x]) (ys++[y]) (l++l1) (m++m1):=by
 induction h with
 | nil=>simpa using uo.cons h1 uo.nil
 | cons h2 h3 ih=>rw[List.cons_append,List.cons_append,List.append_assoc,List.append_assoc];exact .cons h2 ih
theorem uo.flat {xs ys l m:List Int} {u v:Int→List Int} (h:uo P xs ys l m) (hu:∀ x y l' m',P x y l' m'→u x=l'∧v y=m'):xs.flatMap u=l∧ys.flatMap v=m:=by
 induction h with
 | nil=>exact⟨rfl,rfl⟩
 | cons h1 h2 ih=>
  obtain⟨e1,e2⟩:=hu _ _ _ _ h1;rw[List.flatMap_cons,List.flatMap_cons,e1,e2,ih.1,ih.2];exact⟨rfl,rfl⟩
theorem uo.len {xs ys l m:List Int} (h:uo P xs ys l m) (hu:∀ x y l' m',P x y l' m'→l'.length=m'.length):l.length=m.length:=by
 induction h with
 | nil=>rfl
 | cons h1 h2 ih=>rw[List.length_append,List.length_append,hu _ _ _ _ h1,ih]
theorem Cp.walks:∀ (f F:Nat) {x y q:Int} {lx ly:List Int},Cp g g' f x y q lx ly→f≤F→walk g F x=lx∧walk g' F y=ly
 | 0,_,_,_,_,_,_,h,_=>h.elim
 | f+1,0,_,_,_,_,_,_,hF=>by omega
 | f+1,F+1,x,y,q,lx,ly,h,hF=>by
  obtain⟨n,ys,l,m,e1,e2,h3,rfl,rfl⟩:=h;obtain⟨a,b⟩:=h3.flat fun x y l m h=>Cp.walks f F h (by omega);rw[walk,walk,e1,e2];exact⟨by simp only;rw[a],by simp only;rw[b]⟩
theorem uo.maps {xs ys l m:List Int} {u v:Int→Nat} (h:uo P xs ys l m) (hu:∀ x y l' m',P x y l' m'→v y=u x):ys.map v=xs.map u:=by
 induction h with
 | nil=>rfl
 | cons h1 h2 ih=>rw[List.map_cons,List.map_cons,hu _ _ _ _ h1,ih]
theorem Bb {l:List Nat} {n k:Nat} (hn:n≤k) (h:∀ x∈l,x≤k):l.foldl max n≤k:=by
 induction l generalizing n with
 | nil=>exact hn
 | cons a r ih=>exact ih (by have:=h a (by simp);omega) fun x hx=>h x (List.mem_cons_of_mem _ hx)
theorem qz (g:G):∀ (f:Nat) (x:Int),hgt g f x≤f
 | 0,_=>Nat.le_refl _
 | f+1,x=>by
  rw[hgt];cases g x with
  | none=>exact Nat.zero_le _
  | some n=>
   simp only;have:=Bb (l:=n.kids.map (hgt g f)) (n:=0) (k:=f) (Nat.zero_le _) (fun z hz=>by obtain⟨k,_,rfl⟩:=List.mem_map.1 hz;exact qz g f k);omega
theorem Cp.hgt:∀ (f F:Nat) {x y q:Int} {lx ly:List Int},Cp g g' f x y q lx ly→f≤F→Tr.hgt g' F y=Tr.hgt g f x
 | 0,_,_,_,_,_,_,h,_=>h.elim
 | f+1,0,_,_,_,_,_,_,hF=>by omega
 | f+1,F+1,x,y,q,lx,ly,h,hF=>by
  obtain⟨n,ys,l,m,e1,e2,h3,rfl,rfl⟩:=h;have a:=h3.maps (u:=Tr.hgt g f) (v:=Tr.hgt g' F) fun x y l m h=>Cp.hgt f F h (by omega);rw[Tr.hgt,Tr.hgt,e1,e2];simp only;rw[a]
theorem Cp.len:∀ (f:Nat) {x y q:Int} {lx ly:List Int},Cp g g' f x y q lx ly→lx.length=ly.length
 | 0,_,_,_,_,_,h=>h.elim
 | f+1,x,y,q,lx,ly,h=>by
  obtain⟨n,ys,l,m,e1,e2,h3,rfl,rfl⟩:=h;rw[List.length_cons,List.length_cons,h3.len fun x y l m h=>Cp.len f h]
theorem Cp.head {f:Nat} {x y q:Int} {lx ly:List Int} (h:Cp g g' f x y q lx ly):∃ l m,lx=x::l∧ly=y::m:=by
 cases f with
 | zero=>exact h.elim
 | succ f=>obtain⟨n,ys,l,m,e1,e2,h3,rfl,rfl⟩:=h;exact⟨l,m,rfl,rfl⟩
theorem Cp.live:∀ (f:Nat) {x y q:Int} {lx ly:List Int},Cp g g' f x y q lx ly→(∀ z∈lx,(g z).isSome)∧∀ z∈ly,(g' z).isSome
 | 0,_,_,_,_,_,h=>h.elim
 | f+1,x,y,q,lx,ly,h=>by
  obtain⟨n,ys,l,m,e1,e2,h3,rfl,rfl⟩:=h;have key:∀ {xs ys l m:List Int},uo (fun a b l m=>Cp g g' f a b y l m) xs ys l m→(∀ z∈l,(g z).isSome)∧∀ z∈m,(g' z).isSome:=by
   intro xs ys l m h
   induction h with
   | nil=>exact⟨fun z hz=>by simp at hz,fun z hz=>by simp at hz⟩
   | cons h1 h2 ih=>
    have k:=Cp.live f h1;exact⟨fun z hz=>(List.mem_append.1 hz).elim (k.1 z) (ih.1 z),fun z hz=>(List.mem_append.1 hz).elim (k.2 z) (ih.2 z)⟩
  obtain⟨a,b⟩:=key h3;refine⟨fun z hz=>?_,fun z hz=>?_⟩
  ·rcases List.mem_cons.1 hz with rfl | hz
   ·rw[e1];rfl
   ·exact a z hz
  ·rcases List.mem_cons.1 hz with rfl | hz
   ·rw[e2];rfl
   ·exact b z hz
theorem Cp.keep {a a':G}:∀ (f:Nat) {x y q:Int} {lx ly:List Int},Cp g g' f x y q lx ly→(∀ z∈lx,a z=g z)→(∀ z∈ly,a' z=g' z)→Cp a a' f x y q lx ly
 | 0,_,_,_,_,_,h,_,_=>h.elim
 | f+1,x,y,q,lx,ly,h,h1,h2=>by
  obtain⟨n,ys,l,m,e1,e2,h3,rfl,rfl⟩:=h;exact⟨n,ys,l,m,by rw[h1 x (by simp)];exact e1,by rw[h2 y (by simp)];exact e2,
   h3.mono fun a b l' m' _ hl hm h=>Cp.keep f h (fun z hz=>h1 z (List.mem_cons_of_mem _ (hl z hz))) (fun z hz=>h2 z (List.mem_cons_of_mem _ (hm z hz))),rfl,rfl⟩
theorem Cp.moved {a':G} {f:Nat} {x y q p:Int} {lx ly:List Int} (h:Cp g g' f x y q lx ly) (hn:ly.Nodup) (h1:∀ z∈ly,z≠y→a' z=g' z) (h2:a' y=(g' y).map fun n=>{ n with pa:=p }):Cp g a' f x y p lx ly:=by
 cases f with
 | zero=>exact h.elim
 | succ f=>
  obtain⟨n,ys,l,m,e1,e2,h3,rfl,rfl⟩:=h;have hy:∀ z∈m,z≠y:=fun z hz e=>(List.nodup_cons.1 hn).1 (e▸hz);exact⟨n,ys,l,m,e1,by rw[h2,e2];rfl,h3.mono fun a b l' m' _ hl hm h=>Cp.keep f h (fun _ _=>rfl) (fun z hz=>h1 z (List.mem_cons_of_mem _ (hm z hz)) (hy z (hm z hz))),rfl,rfl⟩
end
section
variable {ρ ρ':Int→Int} {a a' g g':G}
theorem DY {l1 l2 m1 m2:List Int} (h:l1++l2=m1++m2) (hl:l1.length=m1.length):l1=m1∧l2=m2:=List.append_inj h hl
theorem Cp.src:∀ (f:Nat) {x y p q d:Int} {lx ly la lg:List Int},Cp a a' f x y p lx ly→Cp g g' f (ρ x) d q la lg→(∀ z n,a z=some n→g (ρ z)=some (fA ρ n))→la=lx.map ρ
 | 0,_,_,_,_,_,_,_,_,_,h,_,_=>h.elim
 | f+1,x,y,p,q,d,lx,ly,la,lg,h,k,hi=>by
  obtain⟨n,ys,l,m,e1,e2,h3,rfl,rfl⟩:=h;obtain⟨n2,ds,l2,m2,k1,k2,k3,rfl,rfl⟩:=k;rw[hi x n e1] at k1;obtain rfl:=Option.some.inj k1;have hk:(fA ρ n).kids=n.kids.map ρ:=rfl;rw[hk] at k3;have key:∀ {xs ys l m:List Int},uo (fun a1 b l m=>Cp a a' f a1 b y l m) xs ys l m→∀ {ds l2 m2:List Int},uo (fun a b l m=>Cp g g' f a b d l m) (xs.map ρ) ds l2 m2→l2=l.map ρ:=by
   intro xs ys l m h
   induction h with
   | nil=>intro ds l2 m2 k;cases k;rfl
   | @cons x1 y1 xs ys l1 l3 m1 m3 h1 h2 ih=>
    intro ds l2 m2 k;rw[List.map_cons] at k;generalize hxs:xs.map ρ=xs' at k;cases k with
    | @cons _ d1 _ ds l4 l5 m4 m5 k1 k2=>
     have e2:=ih (ds:=ds) (l2:=l5) (m2:=m5) (by rw[hxs];exact k2);rw[Cp.src f h1 k1 hi,e2,List.map_append]
  rw[key h3 k3,List.map_cons]
theorem Cp.both:∀ (f:Nat) {x y p q d:Int} {lx ly la lg:List Int},Cp a a' f x y p lx ly→Cp g g' f (ρ x) d q la lg→(∀ z n,a z=some n→g (ρ z)=some (fA ρ n))→ly.map ρ'=lg→ρ' p=q→ρ' y=d∧∀ z∈ly,∃ n,a' z=some n∧g' (ρ' z)=some (fA ρ' n)
 | 0,_,_,_,_,_,_,_,_,_,h,_,_,_,_=>h.elim
 | f+1,x,y,p,q,d,lx,ly,la,lg,h,k,hi,hm,hp=>by
  obtain⟨n,ys,l,m,e1,e2,h3,rfl,rfl⟩:=h;obtain⟨n2,ds,l2,m2,k1,k2,k3,rfl,rfl⟩:=k;rw[hi x n e1] at k1;obtain rfl:=Option.some.inj k1;rw[List.map_cons] at hm;obtain⟨hm1,hm2⟩:=List.cons.inj hm;have hk:(fA ρ n).kids=n.kids.map ρ:=rfl;rw[hk] at k3;have key:∀ {xs ys l m:List Int},uo (fun a1 b l m=>Cp a a' f a1 b y l m) xs ys l m→∀ {ds l2 m2:List Int},uo (fun a b l m=>Cp g g' f a b d l m) (xs.map ρ) ds l2 m2→m.map ρ'=m2→ys.map ρ'=ds∧∀ z∈m,∃ n,a' z=some n∧g' (ρ' z)=some (fA ρ' n):=by
   intro xs ys l m h
   induction h with
   | nil=>intro ds l2 m2 k _;cases k;exact⟨rfl,fun z hz=>by simp at hz⟩
   | @cons x1 y1 xs ys l1 l3 m1 m3 h1 h2 ih=>
    intro ds l2 m2 k hm;rw[List.map_cons] at k;generalize hxs:xs.map ρ=xs' at k;cases k with
    | @cons _ d1 _ ds l4 l5 m4 m5 k1 k2=>
     rw[List.map_append] at hm;have hlen:(m1.map ρ').length=m4.length:=by
      have w1:=Cp.len f h1;have w2:=Cp.len f k1;have w3:l4.length=l1.length:=by rw[Cp.src f h1 k1 hi,List.length_map]
      rw[List.length_map];omega
     obtain⟨aaj,aak⟩:=DY hm hlen;obtain⟨r1,r2⟩:=Cp.both f h1 k1 hi aaj hm1;obtain⟨r3,r4⟩:=ih (by rw[hxs];exact k2) aak;exact⟨by rw[List.map_cons,r1,r3],fun z hz=>(List.mem_append.1 hz).elim (r2 z) (r4 z)⟩
  obtain⟨r1,r2⟩:=key h3 k3 hm2;refine⟨hm1,fun z hz=>?_⟩;rcases List.mem_cons.1 hz with rfl | hz
  ·refine⟨_,e2,?_⟩;rw[hm1,k2];unfold fA;rw[hp,r1]
  ·exact r2 z hz
theorem uo.inner {xs ys l m:List Int} {u:Int} {f:Nat} (h:uo (fun a b l m=>Cp g g' f a b u l m) xs ys l m) (key:∀ {x y q:Int} {lx ly:List Int},Cp g g' f x y q lx ly→∀ z∈ly,∃ n,g' z=some n∧(n.pa=q∨n.pa∈ly)∧∀ k∈n.kids,k∈ly):
  (∀ k∈ys,k∈m)∧∀ z∈m,∃ n,g' z=some n∧(n.pa=u∨n.pa∈m)∧∀ k∈n.kids,k∈m:=by
 induction h with
 | nil=>exact⟨fun k hk=>by simp at hk,fun z hz=>by simp at hz⟩
 | cons h1 h2 ih=>
  refine⟨fun k hk=>?_,fun z hz=>?_⟩
  ·rcases List.mem_cons.1 hk with rfl | hk
   ·obtain⟨_,_,_,e⟩:=h1.head;rw[e];simp
   ·exact List.mem_append_right _ (ih.1 k hk)
  ·rcases List.mem_append.1 hz with hz | hz
   ·obtain⟨n,e,hp,hk⟩:=key h1 z hz;exact⟨n,e,hp.elim .inl (fun h=>.inr (List.mem_append_left _ h)),fun k h=>List.mem_append_left _ (hk k h)⟩
   ·obtain⟨n,e,hp,hk⟩:=ih.2 z hz;exact⟨n,e,hp.elim .inl (fun h=>.inr (List.mem_append_right _ h)),fun k h=>List.mem_append_right _ (hk k h)⟩
theorem Cp.inner:∀ (f:Nat) {x y q:Int} {lx ly:List Int},Cp g g' f x y q lx ly→∀ z∈ly,∃ n,g' z=some n∧(n.pa=q∨n.pa∈ly)∧∀ k∈n.kids,k∈ly
 | 0,_,_,_,_,_,h=>h.elim
 | f+1,x,y,q,lx,ly,h=>by
  obtain⟨n,ys,l,m,e1,e2,h3,rfl,rfl⟩:=h;obtain⟨k1,k2⟩:=h3.inner fun h=>Cp.inner f h;intro z hz;rcases List.mem_cons.1 hz with rfl | hz
  ·exact⟨_,e2,.inl rfl,fun k hk=>List.mem_cons_of_mem _ (k1 k hk)⟩
  ·obtain⟨n',e,hp,hk⟩:=k2 z hz;refine⟨n',e,.inr ?_,fun k h=>List.mem_cons_of_mem _ (hk k h)⟩;rcases hp with hp | hp
   ·rw[hp];simp
   ·exact List.mem_cons_of_mem _ hp
theorem Im.copy (h:Im ρ a g) {f:Nat} {x k d:Int} {lx ly la lg:List Int} (hc:Cp a a' f x k (-1) lx ly) (hd:Cp g g' f (ρ x) d 0 la lg) (hρ:∀ y,y = -1∨(a y).isSome→ρ' y=ρ y) (hm:ly.map ρ'=lg)
  (ha:∀ z,z∉ly→a' z=a z) (hg:∀ z,z∉lg→g' z=g z) (fa:∀ z∈ly,a z=none∧z ≠ -1) (fg:∀ z∈lg,g z=none∧z≠0) (nd:lg.Nodup):Im ρ' a' g':=by
 have hz:ρ' (-1)=0:=by rw[hρ _ (.inl rfl)];exact h.zero
 obtain⟨hkd,hb⟩:=Cp.both f hc hd h.node hm hz;have hin:=Cp.inner f hc;have hmap:∀ y q,a y=some q→fA ρ' q=fA ρ q:=fun y q e=>by
  unfold fA;rw[hρ q.pa (h.pa y q e)];congr 1;exact List.map_congr_left fun k hk=>hρ k (.inr (h.kids y q e k hk))
 have hno:∀ y q,a y=some q→y∉ly:=fun y q e hy=>by rw[(fa y hy).1] at e;cases e
 have hgo:∀ y q,a y=some q→ρ y∉lg:=fun y q e hy=>by have:=h.node y q e;rw[(fg _ hy).1] at this;cases this
 have hl:∀ y,(a y).isSome→(a' y).isSome:=fun y hy=>by
  obtain⟨q,e⟩:=Option.isSome_iff_exists.1 hy;rw[ha y (hno y q e)];exact hy
 have hl2:∀ y∈ly,(a' y).isSome:=fun y hy=>by
  obtain⟨n,e,_⟩:=hb y hy;rw[e];rfl
 have hS:∀ y,(a' y).isSome→y∈ly∨(a y).isSome:=fun y hy=>by
  by_cases e:y∈ly
  ·exact .inl e
  ·rw[ha y e] at hy;exact .inr hy
 have hinl:∀ y∈ly,ρ' y∈lg:=fun y hy=>by rw[←hm];exact List.mem_map_of_mem hy
 constructor
 ·exact hz
 ·intro y n e;by_cases hy:y∈ly
  ·obtain⟨n',e1,e2⟩:=hb y hy;rw[e] at e1;obtain rfl:=Option.some.inj e1;exact e2
  ·rw[ha y hy] at e;rw[hρ y (.inr (bU e)),hg _ (hgo y n e),hmap y n e];exact h.node y n e
 ·intro y hy;by_cases e:y∈lg
  ·rw[←hm] at e;obtain⟨z,hz1,hz2⟩:=List.mem_map.1 e;exact⟨z,hl2 z hz1,hz2⟩
  ·rw[hg y e] at hy;obtain⟨z,h1,h2⟩:=h.dom y hy;exact⟨z,hl z h1,by rw[hρ z (.inr h1)];exact h2⟩
 ·intro y z hy hz' e;rcases hS y hy with hy1 | hy1
  ·rcases hS z hz' with hz1 | hz1
   ·have nd':(ly.map ρ').Nodup:=by rw[hm];exact nd
    exact Lf nd' hy1 hz1 e
   ·obtain⟨q,eq⟩:=Option.isSome_iff_exists.1 hz1;have k:=hinl y hy1;rw[e,hρ z (.inr hz1)] at k;exact absurd k (hgo z q eq)
  ·obtain⟨q,eq⟩:=Option.isSome_iff_exists.1 hy1;rcases hS z hz' with hz1 | hz1
   ·have k:=hinl z hz1;rw[←e,hρ y (.inr hy1)] at k;exact absurd k (hgo y q eq)
   ·rw[hρ y (.inr hy1),hρ z (.inr hz1)] at e;exact h.inj y z hy1 hz1 e
 ·intro y hy;rcases hS y hy with hy1 | hy1
  ·exact (fg _ (hinl y hy1)).2
  ·rw[hρ y (.inr hy1)];exact h.nz y hy1
 ·rw[ha (-1) (fun e=>(fa _ e).2 rfl)];exact h.neg
 ·intro y q e;by_cases hy:y∈ly
  ·obtain⟨n,e1,hp,_⟩:=hin y hy;rw[e] at e1;obtain rfl:=Option.some.inj e1;exact hp.elim .inl (fun h=>.inr (hl2 _ h))
  ·rw[ha y hy] at e;exact (h.pa y q e).elim .inl (fun h=>.inr (hl _ h))
 ·intro y q e k hk;by_cases hy:y∈ly
  ·obtain⟨n,e1,_,hp⟩:=hin y hy;rw[e] at e1;obtain rfl:=Option.some.inj e1;exact hl2 _ (hp k hk)
  ·rw[ha y hy] at e;exact hl _ (h.kids y q e k hk)
where
 Lf {l:List Int} {u:Int→Int} (hn:(l.map u).Nodup):∀ {y z:Int},y∈l→z∈l→u y=u z→y=z:=by
  intro y z hy hz e
  induction l with
  | nil=>simp at hy
  | cons b r ih=>
   rw[List.map_cons,List.nodup_cons] at hn;rcases List.mem_cons.1 hy with e1 | h1
   ·rcases List.mem_cons.1 hz with e2 | h2
    ·rw[e1,e2]
    ·exact absurd (by rw[←e1,e];exact List.mem_map_of_mem h2) hn.1
   ·rcases List.mem_cons.1 hz with e2 | h2
    ·exact absurd (by rw[←e2,←e];exact List.mem_map_of_mem h1) hn.1
    ·exact ih hn.2 h1 h2
end
end Tr
end
section
namespace Tr
open Go Go.RowKit
theorem qy {g gj:G}:∀ (f:Nat) (k:Int),(∀ z∈walk g f k,gj z=g z)→(∀ z∈walk g f k,∀ n,g z=some n→∀ x∈n.kids,(g x).isSome)→(g k).isSome→walk gj f k=walk g f k
 | 0,_,_,_,_=>rfl
 | f+1,k,h,hc,hk=>by
  obtain⟨n,e⟩:=Option.isSome_iff_exists.1 hk;have hin:k∈walk g (f+1) k:=by rw[walk,e];simp
  have e2:gj k=some n:=by rw[h k hin];exact e
  have hsub:∀ x∈n.kids,∀ z∈walk g f x,z∈walk g (f+1) k:=fun x hx z hz=>by rw[walk,e];exact List.mem_cons_of_mem _ (List.mem_flatMap.2 ⟨x,hx,hz⟩)
  have hkd:=hc k hin n e;rw[walk,walk,e,e2];simp only;congr 1;exact uM fun x hx=>qy f x (fun z hz=>h z (hsub x hx z hz)) (fun z hz=>hc z (hsub x hx z hz)) (hkd x hx)
structure uV (Z:Int) (g g0:G) (n:GN) (f:Nat) (d q:Int) (gj:G) (pre ys l m:List Int):Prop where
 self:gj d=some { n with pa:=q,kids:=ys }
 cp:uo (fun a b l m=>Cp g gj f a b d l m) pre ys l m
 nd:(d::m).Nodup
 fresh:∀ z∈d::m,g z=none∧z≠Z
 old:∀ z,z∉d::m→gj z=g0 z
section
variable {Z:Int} {g g0 gj g2:G} {n:GN} {f:Nat} {d q:Int} {pre ys l m:List Int}
theorem uV.start (h:gj d=some { n with pa:=q,kids:=[] }) (h1:g d=none) (h2:d≠Z) (h3:∀ z,z≠d→gj z=g0 z):uV Z g g0 n f d q gj [] [] [] []:=by
 refine⟨h,.nil,by simp,fun z hz=>?_,fun z hz=>h3 z (by simpa using hz)⟩;have e:z=d:=by simpa using hz
 rw[e];exact⟨h1,h2⟩
theorem uV.Vg (D:uV Z g g0 n f d q gj pre ys l m):∀ z∈d::m,(gj z).isSome:=by
 intro z hz;rcases List.mem_cons.1 hz with rfl | hz
 ·rw[D.self];rfl
 ·obtain⟨_,k⟩:=D.cp.inner fun h=>Cp.inner f h;obtain⟨n,e,_⟩:=k z hz;rw[e];rfl
theorem uV.step (D:uV Z g g0 n f d q gj pre ys l m) (hi:∀ z,(g0 z).isSome=(g z).isSome) {k c:Int} {lk mc:List Int} (hsrc:∀ z∈walk g f k,(g z).isSome∧g0 z=g z)
  (C:Cp gj g2 f k c d lk mc) (hnd:mc.Nodup) (hf:∀ z∈mc,gj z=none∧z≠Z) (hO:∀ z,z∉mc→g2 z=if z=d then (gj d).map fun n=>{ n with kids:=n.kids++[c] } else gj z) (Sk:(g k).isSome)
  (hcl:∀ z∈walk g f k,∀ n,g z=some n→∀ x∈n.kids,(g x).isSome):
  uV Z g g0 n f d q g2 (pre++[k]) (ys++[c]) (l++walk g f k) (m++mc):=by
 have hdm:=D.Vg;have Qc:∀ z∈mc,z∉d::m:=fun z hz h=>by have:=hdm z h;rw[(hf z hz).1] at this;cases this
 have hfr:∀ z∈mc,g z=none:=fun z hz=>by
  have h1:=D.old z (Qc z hz);rw[(hf z hz).1] at h1;have h2:=hi z;rw[←h1] at h2;exact Option.not_isSome_iff_eq_none.1 (by rw[←h2];simp)
 have hsame:∀ z∈walk g f k,gj z=g z:=fun z hz=>by
  have hz1:=(hsrc z hz).1;rw[D.old z (fun h=>by rw[(D.fresh z h).1] at hz1;cases hz1)];exact (hsrc z hz).2
 have hlk:walk g f k=lk:=by rw[←qy f k hsame hcl Sk];exact (Cp.walks f f C (Nat.le_refl _)).1
 have MH:d∉mc:=fun h=>Qc d h (by simp);refine⟨?_,?_,?_,?_,?_⟩
 ·rw[hO d MH,if_pos rfl,D.self];rfl
 ·rw[hlk];refine uo.snoc ?_ ?_
  ·refine D.cp.mono fun a b l' m' _ _ hm h=>Cp.keep f h (fun _ _=>rfl) (fun z hz=>?_);have hzm:=hm z hz;rw[hO z (fun h=>Qc z h (List.mem_cons_of_mem _ hzm)),if_neg];rintro rfl;exact (List.nodup_cons.1 D.nd).1 hzm
  ·exact Cp.keep f C (fun z hz=>(hsame z (by rw[hlk];exact hz)).symm) (fun _ _=>rfl)
 ·rw[←List.cons_append,List.nodup_append];exact⟨D.nd,hnd,fun a ha b hb e=>Qc b hb (e▸ha)⟩
 ·intro z hz;rw[←List.cons_append] at hz;rcases List.mem_append.1 hz with hz | hz
  ·exact D.fresh z hz
  ·exact⟨hfr z hz,(hf z hz).2⟩
 ·intro z hz;rw[←List.cons_append,List.mem_append,not_or] at hz;rw[hO z hz.2,if_neg (fun e=>hz.1 (by rw[e];simp))];exact D.old z hz.1
theorem uV.finish (D:uV Z g g0 n f d q gj n.kids ys l m) {h:Int} (e:g h=some n):Cp g gj (f+1) h d q (h::l) (d::m):=⟨n,ys,l,m,e,D.self,D.cp,rfl,rfl⟩
theorem MG {g gj:G} (w:WF 0 g) (w':WF 0 gj) (h:∀ z,(g z).isSome→gj z=g z) {k:Int} (hk:(g k).isSome):dz gj k=dz g k:=by
 have key:∀ {x:Int} {l:List Int},Up g x l→((g x).isSome∨x=0)→Up gj x l:=by
  intro x l u
  induction u with
  | out e=>
   rintro (h1 | rfl)
   ·rw[e] at h1;cases h1
   ·exact .out w'.zero
  | @node x n l e u ih=>
   intro _;refine .node (by rw[h x (by rw[e];rfl)];exact e) (ih ?_);rcases w.pa e with h1 | ⟨p,h1,_⟩
   ·exact .inr h1
   ·exact .inl (by rw[h1];rfl)
 exact w'.kL (key (w.eO k).1 (.inl hk))
theorem BH {u:Int→List Int}:∀ {ks:List Int} {y:Int},y∈ks→(∀ k∈ks,1≤(u k).length)→(u y).length+ks.length≤(ks.flatMap u).length+1
 | [],y,h,_=>by simp at h
 | a::r,y,h,h1=>by
  rw[List.flatMap_cons,List.length_append,List.length_cons];have hr:∀ ks:List Int,(∀ k∈ks,1≤(u k).length)→ks.length≤(ks.flatMap u).length:=by
   intro ks
   induction ks with
   | nil=>intro _;exact Nat.zero_le _
   | cons b q ih=>
    intro hq;rw[List.flatMap_cons,List.length_append,List.length_cons];have:=ih fun k hk=>hq k (List.mem_cons_of_mem _ hk);have:=hq b (by simp);omega
  have h2:=hr r fun k hk=>h1 k (List.mem_cons_of_mem _ hk);have h3:=h1 a (by simp);rcases List.mem_cons.1 h with rfl | h
  ·omega
  ·have:=BH h fun k hk=>h1 k (List.mem_cons_of_mem _ hk);omega
theorem uo.RY {P:Int→Int→List Int→List Int→Prop} {xs ys l m:List Int} {D:Nat} (h:uo P xs ys l m) (hu:∀ x y l' m',P x y l' m'→l'.length≤D):l.length≤xs.length*D:=by
 induction h with
 | nil=>simp
 | cons h1 h2 ih=>
  rw[List.length_append,List.length_cons,Nat.succ_mul];have:=hu _ _ _ _ h1;omega
theorem uo.heads {P:Int→Int→List Int→List Int→Prop} {xs ys l m:List Int} (h:uo P xs ys l m):ys.length=xs.length:=by
 induction h with
 | nil=>rfl
 | cons _ _ ih=>rw[List.length_cons,List.length_cons,ih]
theorem Kw {n0 n1 N p D L x:Nat} (h0:n0+(N+D)*(N+D)≤99999) (h1:n1≤n0+1+L) (hL:L≤p*D) (hp:p+1≤N) (hx:x≤D):n1+x*x≤99999:=by
 have e1:x*x≤D*D:=Nat.mul_le_mul hx hx;have e2:p*D+D≤N*D:=by
  have:=Nat.mul_le_mul_right D hp;rw[Nat.add_mul,Nat.one_mul] at this;exact this
 have e3:(N+D)*(N+D)=N*N+N*D+(D*N+D*D):=by rw[Nat.add_mul,Nat.mul_add,Nat.mul_add]
 have e4:N≤N*N:=Nat.le_mul_of_pos_left N (by omega);rw[e3] at h0;omega
end
end Tr
end
section
open Go.RowKit
def jf (cs:List (List UInt8)) (k:Nat):Nat:=(cs.take k).flatten.length
theorem tK (cs:List (List UInt8)) (k:Nat):jf cs k≤cs.flatten.length:=by
 have h:cs.flatten=(cs.take k).flatten++(cs.drop k).flatten:=by rw[←List.flatten_append,List.take_append_drop]
 unfold jf;rw[h,List.length_append];omega
theorem pV (cs:List (List UInt8)) (k:Nat):cs.flatten.drop (jf cs k)=(cs.drop k).flatten:=by
 have h:cs.flatten=(cs.take k).flatten++(cs.drop k).flatten:=by rw[←List.flatten_append,List.take_append_drop]
 rw[h];exact List.drop_left
theorem KU (cs:List (List UInt8)) (k:Nat):cs.flatten.take (jf cs k)=(cs.take k).flatten:=by
 have h:cs.flatten=(cs.take k).flatten++(cs.drop k).flatten:=by rw[←List.flatten_append,List.take_append_drop]
 rw[h];exact List.take_left
theorem NS (cs:List (List UInt8)) {k:Nat} (h:cs.length≤k):jf cs k=cs.flatten.length:=by unfold jf;rw[List.take_of_length_le h]
theorem Cm (cs:List (List UInt8)) {k:Nat} (h:k<cs.length):jf cs (k+1)=jf cs k+(cs[k]).length:=by
 unfold jf;rw[List.take_add_one,List.flatten_append,List.length_append,List.getElem?_eq_getElem h];simp
theorem Lg {c r:List UInt8} (h:bJ.Good c):(bJ.step (c++r)).2=c.length:=by
 have hb:=bJ.Begins.other h r;rw[List.take_length] at hb;exact (bJ.jU hb).1
theorem qJ (s:ByteArray) (cs:List (List UInt8)) (cnt:Nat) (w:World) (hs:s.size≤20000) (hc:cnt≤1000000) (hg:∀ c∈cs,bJ.Good c) (hd:s.data.toList=cs.flatten):
  Calls Tryz.prog 82 #[.string s,.int .i64 (cnt:Int)] w fun e w'=>e=.returned (.int .i64 (jf cs cnt:Nat))∧Below w.heap.size w w':=by
 have hll:s.data.toList.length=s.size:=rfl;rw[hd] at hll
 go_enter Tryz.func82,Tryz.ntmps82
 go_wp2_with fail
 go_loopw [1] (fun u wr=>∃ k:Nat,u=.int .i64 ((cnt:Int) - k)∧k≤cnt∧k≤cs.length∧wr.heap[w.heap.size]?=some (.stringIter s (jf cs k))∧Below w.heap.size w wr) (fun _ wr=>s.size - wr.iterPos w.heap.size)
 case atStart=>
  exact⟨0,by simp,Nat.zero_le _,Nat.zero_le _,World.iter_heap w s 0,(Below.refl _ w).alloc (Nat.le_refl _) _⟩
 case round=>
  obtain⟨k,rfl,hkc,hkl,hit,hb⟩:=hrel;by_cases hp:jf cs k<s.size
  ·have hk:k<cs.length:=by
    rcases Nat.lt_or_ge k cs.length with h | h
    ·exact h
    ·rw[NS cs h] at hp;omega
   have Sk:=hg (cs[k]) (List.getElem_mem hk);have hdr:s.data.toList.drop (jf cs k)=cs[k]++(cs.drop (k+1)).flatten:=by
    rw[hd,pV,List.drop_eq_getElem_cons hk,List.flatten_cons]
   have hdec:=bJ.oF s (jf cs k);rw[hdr] at hdec;have hst:=Lg (r:=(cs.drop (k+1)).flatten) Sk;obtain⟨cp,hcp⟩:∃ cp,(bJ.step (cs[k]++(cs.drop (k+1)).flatten)).1=cp:=⟨_,rfl⟩
   have Rp:bJ.step (cs[k]++(cs.drop (k+1)).flatten)=(cp,cs[k].length):=by rw[←hcp,←hst]
   rw[Rp] at hdec;have hnx:∀ ty,(Instr.next (.pointer (some ⟨w.heap.size,0,none⟩)) true ty).run Tryz.prog wr=_:=fun ty=>Lib.run_next_any_at wr w.heap.size s (jf cs k) ty hit hp;rw[hdec] at hnx;have hit2:=Lib.iterAt_heap wr w.heap.size s (jf cs k) (jf cs k+cs[k].length) hit;have hb2:Below w.heap.size w (wr.iterAt w.heap.size s (jf cs k+cs[k].length)):=hb.grown (show wr.grownBy _ (some w.heap.size) from grownBy_putObj' wr w.heap.size (.stringIter s (jf cs k+cs[k].length))) hb.size (fun j hj=>by injection hj with hj;omega);have X3:s.size - wr.iterPos w.heap.size=s.size - jf cs k:=by simp only[World.iterPos,hit]
   rw[←Cm cs hk] at hit2 hb2 hnx;have hsu:=Cm cs hk;have hc1:=Sk.fK;obtain⟨o1,ho1⟩:∃ o1,jf cs (k+1)=o1:=⟨_,rfl⟩
   obtain⟨o0,ho0⟩:∃ o0,jf cs k=o0:=⟨_,rfl⟩
   have HO:=zh (And.intro ho0 ho1);have HD:=zh hd;have HG:=zh hg;rw[ho1] at hit2 hb2 hnx hsu;rw[ho0] at hsu X3 hp hnx;have hlt:o0<o1:=by omega
   clear hdec hcp Rp hst hdr Sk hc1 hsu ho0 ho1 hd hg hit;by_cases he:cnt=k
   ·have q1:((cnt:Int) - (k:Int) == 0)=true:=by simp;omega
    go_wp2_with fail
    go_ret
    exact⟨by first | (rw[HO.out.1];rfl) | (rw[he,HO.out.1];rfl),hb2⟩
   ·have q1:((cnt:Int) - (k:Int) == 0)=false:=by simp;omega
    go_wp2_with fail
    go_roundw
    case rel=>exact⟨k+1,by go_num,by omega,by omega,by rw[HO.out.2];exact hit2,hb2⟩
    case measure=>
     rw[X3];simp only[World.iterPos,hit2];omega
  ·have hfl:cs.flatten.length≤jf cs k:=by omega
   have hres:jf cs cnt=s.size:=by
    have h1:=tK cs cnt;have h2:jf cs k≤jf cs cnt:=by
     unfold jf;have:cs.take k=(cs.take cnt).take k:=by rw[List.take_take,Nat.min_eq_left hkc]
     rw[this];exact tK (cs.take cnt) k
    omega
   have hnx:∀ ty,(Instr.next (.pointer (some ⟨w.heap.size,0,none⟩)) true ty).run Tryz.prog wr=_:=fun ty=>Lib.run_next_end_at wr w.heap.size s (jf cs k) ty hit hp;have HR:=zh hres;clear hres hfl;go_wp2_with fail
   go_ret
   exact⟨by rw[HR.out];rfl,hb⟩
theorem Qd:(Tryz.prog.info? 9).map (fun i=>(i.zero,i.size,i.bytes))=some (some (.string ByteArray.empty),1,16):=by kernel_rfl
def kH (l:List (List UInt8)):List Value:=l.map fun c=>.string (fJ c)
theorem Bc (l m:List (List UInt8)):kH (l++m)=kH l++kH m:=by simp[kH]
theorem NT {cs:List (List UInt8)} (h:∀ c∈cs,bJ.Good c):cs.length≤cs.flatten.length:=by
 induction cs with
 | nil=>simp
 | cons c cs ih=>
  have h1:=(h c List.mem_cons_self).fK;have h2:=ih (fun c' hc=>h c' (List.mem_cons_of_mem _ hc));simp only[List.length_cons,List.flatten_cons,List.length_append];omega
theorem sj (s:ByteArray) (cs:List (List UInt8)) (w:World) (hs:s.size≤10000) (hg:∀ c∈cs,bJ.Good c) (hc:s.data.toList=cs.flatten):
  Calls Tryz.prog 119 #[.string s] w fun e w'=>∃ v,e=.returned v∧w'.ownsRow w.heap.size 9 1 v cs.length (kH cs)∧Below w.heap.size w w':=by
 obtain⟨i0,hi,hz0,hz1,hz2⟩:=info_parts Qd;have hfl:=NT hg;rw[←hc] at hfl;have hll:s.data.toList.length=s.size:=rfl;rw[hll] at hfl
 go_enter Tryz.func119,Tryz.ntmps119
 go_wp2_with fail
 go_loopw [3,4] (fun v i wr=>∃ (k:Nat) (d r:List (List UInt8)),cs=d++r∧k=d.flatten.length∧i=.int .i64 k∧wr.ownsRow w.heap.size 9 1 v d.length (kH d)∧Below w.heap.size w wr) (fun _ i _=>s.size - (intOf i).toNat)
 case atStart=>exact⟨0,[],cs,rfl,rfl,rfl,World.ownsRow_nil _ _ _ _,Below.refl _ _⟩
 case round=>
  obtain⟨k,d,r,hcs,hk,rfl,hown,hbel⟩:=hrel;obtain⟨A,cp,rfl⟩:=zD hown;have hdl:d.length≤10000:=by have:=congrArg List.length hcs;rw[List.length_append] at this;omega
  have hkl:k≤s.size:=by
   have:=congrArg List.length hc;rw[hcs,List.flatten_append,List.length_append,hll] at this;omega
  have hdrop:s.data.toList.drop k=r.flatten:=by rw[hc,hcs,List.flatten_append,hk,List.drop_left]
  cases r with
  | cons c r=>
   have hgc:bJ.Good c:=hg c (by rw[hcs];simp);have hb:=bJ.Begins.other hgc r.flatten;rw[List.take_length,←List.flatten_cons,←hdrop] at hb;have hsz:=bJ.gJ hb;have X4:=hgc.fK;have hle:=hb.le;rw[List.length_drop,hll] at hle;obtain⟨n,hn⟩:∃ n,c.length=n:=⟨_,rfl⟩
   rw[hn] at hsz X4 hle;have hex:s.extract k (k+n)=fJ c:=by
    rw[←tJ (s.extract k (k+n)),Gd,hdrop,List.flatten_cons,←hn,List.take_left]
   have hsl:∀ W:World,(Instr.slice 9 (.string s) (some (.int .i64 k)) (some (.int .i64 ((k:Int)+n))) none).run Tryz.prog W=.ok (.string (fJ c)) W:=fun W=>by
    rw[run_slice_string W _ s _ _ _ _ Tryz.underlying9 (by omega) (by omega) (by omega),←hex];rfl
   have hmx:max (n:Int) 1=n:=by omega
   have HS:=zh hsz;have HC:=zh hcs;have HK:=zh hk;have HN:=zh hn;have hkb:k<s.size:=by omega
   clear hsz hcs hb hex hdrop hk hn;go_wp2_with fail;refine (zR s k wr (by omega) (by omega)).mono ?_;rintro e w2 ⟨rfl,rfl⟩;rw[HS.out]
   go_wp2_with (at_builtin;refine wpList_append_own _ rfl (.tmp 14) (.tmp 21) 150 rfl w.heap.size 9 i0 (.string ByteArray.empty) 1 16 Tryz.underlying150 hi hz0 hz1 hz2 rfl (by decide) _ d.length (kH d) rfl (hown.alloc _) ⟨wr.heap.size,0,none⟩ 1 1 (kH [c]) rfl rfl ?c1 ?c2 ?c3 ?c4 ?c5 ?_)
   case c1=>intro j u hj;match j,hj with | 0,hj=>simp[kH] at hj;subst hj;simp[Addr.add]
   case c2=>intro u hu;simp[kH] at hu;subst hu;rfl
   case c3=>unfold maxLen;omega
   case c4=>omega
   case c5=>have:=hbel.size;simp;omega
   intro v2 w2 ho2 hg2 _;have hb2:Below w.heap.size w w2:=(hbel.alloc hbel.size _).grown hg2 (by have:=hbel.size;simp;omega) (fun j hj=>(hown.lt j hj).1);rw[←Bc] at ho2;have HB:=zh hb2;have HO:=zh ho2;clear ho2 hg2 hb2;go_wp2_with fail
   go_roundw
   case rel=>exact⟨k+n,d++[c],r,by rw[HC.out,List.append_assoc];rfl,by rw[HK.out,List.flatten_append,List.length_append];simp[HN.out],by go_num,by rw[List.length_append];exact HO.out,HB.out⟩
   case measure=>simp[intOf];omega
  | nil=>
   have ek:¬ k<s.size:=by have:=congrArg List.length hdrop;rw[List.length_drop,hll] at this;simp at this;omega
   have hkk:k=s.size:=by omega
   have HC:Hid (d=cs):=by rw[hcs,List.append_nil];trivial
   clear hcs ek hdrop;subst hkk;go_wp2_with fail
   go_ret
   refine⟨_,rfl,?_,hbel⟩;rw[←HC.out];exact hown
def Ta (w:World) (A:Option Addr) (cs:List (List UInt8)):Prop:=
 ∀ i,i<cs.length→∃ b o,A=some ⟨b,o,none⟩∧b<w.heap.size∧w.cell? ⟨b,o+i,none⟩=some (.string (fJ (cs.getD i [])))
theorem zx {w:World} {base:Nat} {v:Value} {cs:List (List UInt8)} (h:w.ownsRow base 9 1 v cs.length (kH cs)):∃ A c,v=.slice A cs.length c∧Ta w A cs:=by
 have h0:=h;rcases h.2 with ⟨rfl,hn⟩ | ⟨g,cap,cur,rfl,_,hg,_⟩
 ·refine⟨none,0,by rw[hn],fun i hi=>by omega⟩
 ·refine⟨_,_,rfl,fun i hi=>⟨g,0,rfl,lt_of_block hg,?_⟩⟩;rw[Nat.zero_add,h0.cellAt i (by omega)];simp[kH,List.getD,hi]
theorem BZ (A:Option Addr) (cap:Nat) (cs:List (List UInt8)) (a t:Int) (w:World) (hA:Ta w A cs) (hl:cs.flatten.length≤100000) (ha:a≤9223372036854775807) (ht:t≤9223372036854775807):
  Calls Tryz.prog 120 #[.slice A cs.length cap,.int .i64 a,.int .i64 t] w fun e w'=>e=.returned (.string (fJ (seg cs a.toNat t.toNat).flatten))∧w=w':=by
 obtain⟨m,hm⟩:∃ m:Nat,m=a.toNat:=⟨_,rfl⟩
 have hmx:max a 0=(m:Int):=by omega
 have hmb:(m:Int)≤9223372036854775807:=by omega
 rw[←hm];clear hm
 go_enter Tryz.func120,Tryz.ntmps120
 go_wp2_with fail;have hse:=nA cs m m (Nat.le_refl _)
 go_loop [7,8] (fun v i=>∃ k:Nat,m≤k∧(k=m∨((k:Int)≤t∧k≤cs.length))∧i=.int .i64 k∧v=.string (fJ (seg cs m k).flatten)) (fun _ i=>cs.length - (intOf i).toNat)
 case atStart=>exact⟨m,Nat.le_refl _,.inl rfl,rfl,by rw[hse];rfl⟩
 case round=>
  obtain⟨k,hmk,hor,rfl,rfl⟩:=hrel;by_cases hlt:(k:Int)<t∧k<cs.length
  ·obtain⟨b,o,rfl,hb,hc⟩:=hA k hlt.2;obtain⟨h1,h2⟩:=hlt;have h2':(k:Int)<(cs.length:Int):=by omega
   have hst:=Gb cs m k hmk h2;have hsl:=yE cs m k;have hsl2:=yE cs m (k+1);have e1:∀ c:List UInt8,[c].flatten=c:=fun c=>by simp
   rw[hst,List.flatten_append,List.length_append,e1] at hsl2;obtain⟨c,hcc⟩:∃ c,cs.getD k []=c:=⟨_,rfl⟩
   rw[hcc] at hc hst hsl2;obtain⟨L,hL⟩:∃ L,(seg cs m k).flatten=L:=⟨_,rfl⟩
   rw[hL] at hsl hsl2 ⊢;have hcl:(fJ c).size≤100000:=by rw[jP];omega
   have Yh:(fJ L).size≤100000:=by rw[jP];omega
   have had:∀ W:World,(Op.stringOp .add (fJ L) (fJ c)).run Tryz.prog W=.ok (.string (fJ L++fJ c)) W:=fun W=>run_string_add_sum W _ _ (by omega);have hS:fJ (seg cs m (k+1)).flatten=fJ L++fJ c:=by rw[hst,List.flatten_append,hL,lW,e1]
   have HS:=zh hS;clear hS e1 hst hcc hL hsl hsl2 hse;go_wp2_with fail
   go_round
   case rel=>exact⟨k+1,by omega,.inr ⟨by omega,by omega⟩,by go_num,by rw[HS.out]⟩
   case measure=>simp[intOf];omega
  ·have hfin:seg cs m k=seg cs m t.toNat:=by
    rcases hor with rfl | ⟨h1,h2⟩
    ·by_cases hkt:(k:Int)<t
     ·exact JX cs k k _ (by omega) (by omega)
     ·rw[nA cs k k (Nat.le_refl _),nA cs k _ (by omega)]
    ·by_cases hkt:(k:Int)<t
     ·exact JX cs m k _ (by omega) (by omega)
     ·rw[show k=t.toNat from by omega]
   have HF:=zh hfin;clear hfin hse;by_cases hkt:(k:Int)<t
   ·have hkl:¬ (k:Int)<(cs.length:Int):=by omega
    go_wp2_with fail
    go_ret
    exact⟨TB (by rw[HF.out]),rfl⟩
   ·go_wp2_with fail
    go_ret
    exact⟨TB (by rw[HF.out]),rfl⟩
end
end Go.Proofs.YtnbaadpgbcklaaaGreatDoor
