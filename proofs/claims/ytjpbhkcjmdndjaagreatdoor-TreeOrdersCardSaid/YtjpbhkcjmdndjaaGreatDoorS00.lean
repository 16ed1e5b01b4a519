/- Part of a proof about trees. -/
import Derived.Below
import Derived.BigQuiet
import Derived.Deep.DrawnRows
import Derived.Deep.Draws
import Derived.Deep.QuietTactic
import Derived.Deep.RegionHeld3
import Derived.Deep.RegionWith
import Derived.Laws.AppendOwnNone
import Derived.Laws.BytesArg
import Derived.Laws.IdiomStrings
import Derived.Laws.OwnMore
import Derived.Lib.AppendStr
import Derived.Lib.DecodeN
import Derived.Lib.Hide
import Derived.Lib.MinMax
import Derived.Lib.OthersKept
import Derived.Lib.RuneBytes
import Derived.Lib.RuneCount
import Derived.Lib.ValidLaws
import Derived.LoopIn
import Derived.LoopNIn
import Derived.OneCell
import Derived.OrdersIn
import Derived.OwnWalk
import Derived.OwnWalkIn
import Derived.RangeFuncBound
import Derived.RangeFuncCalls
import Derived.RangeFuncLeaves
import Derived.RangeFuncNested
import Derived.RangeFuncOwn
import Derived.Shelf.Abstract
import Derived.Shelf.RegionOpen
import Derived.Shelf.Unicode.DecodeSlow
import Derived.TacticsIn
import Derived.TacticsInMore
import Derived.Test.YtjpbhkcjmdndjaaGreatDoorProg
import Derived.WalkKit
set_option linter.unusedVariables false
set_option linter.unusedSimpArgs false
set_option linter.unusedSectionVars false
set_option maxHeartbeats 2000000
set_option maxRecDepth 100000
namespace Go.Proofs.YtjpbhkcjmdndjaaGreatDoor
section
namespace Ar
open Go Go.RowKit
def fQ (n:Int):Int:=min (max n 1) 1000
theorem nG (n:Int):1≤fQ n∧fQ n≤1000:=by unfold fQ;omega
def hdl (b s i:Int):Int:=if i<0∨2147483647<i then 0 else fQ b+fQ s*i
def idx (b s h:Int):Int:=if h<fQ b∨(h - fQ b) % fQ s≠0∨2147483647<(h - fQ b) / fQ s then -1 else (h - fQ b) / fQ s
theorem Ej (s:Int) (i:Int) (h0:0≤i) (h1:i≤2147483647):0≤fQ s*i∧fQ s*i≤2147483647000:=by
 have:=nG s;constructor
 ·exact Int.mul_nonneg (by omega) h0
 ·calc fQ s*i≤1000*i:=Int.mul_le_mul_of_nonneg_right (by omega) h0
   _≤_:=by omega
theorem nX (b s i:Int) (h0:0≤i) (h1:i≤2147483647):idx b s (hdl b s i)=i:=by
 have hs:=nG s;have hm:=Ej s i h0 h1;unfold hdl;rw[if_neg (by omega)];unfold idx;have e:fQ b+fQ s*i - fQ b=fQ s*i:=by omega
 rw[e,Int.mul_emod_right,Int.mul_ediv_cancel_left _ (by omega:fQ s≠0),if_neg (by omega)]
theorem zZ (b s h:Int) (hi:idx b s h ≠ -1):0≤idx b s h∧idx b s h≤2147483647∧hdl b s (idx b s h)=h:=by
 have hs:=nG s;unfold idx at hi ⊢
 split at hi
 ·exact absurd rfl hi
 ·rename_i hc;rw[if_neg hc];have h1:¬ h<fQ b:=fun x=>hc (.inl x);have h2:(h - fQ b) % fQ s=0:=Classical.byContradiction fun x=>hc (.inr (.inl x));have h3:¬ 2147483647<(h - fQ b) / fQ s:=fun x=>hc (.inr (.inr x));have h4:0≤(h - fQ b) / fQ s:=Int.ediv_nonneg (by omega) (by omega);refine⟨h4,by omega,?_⟩;unfold hdl;rw[if_neg (by omega)];have:=Int.emod_add_mul_ediv (h - fQ b) (fQ s);omega
theorem Mv (b s i:Int):0≤hdl b s i∧hdl b s i≤2147483648000:=by
 unfold hdl
 split
 ·omega
 ·have:=Ej s i (by omega) (by omega);have:=nG b;omega
theorem CU (b s h:Int) : -1≤idx b s h∧idx b s h≤2147483647:=by
 by_cases hi:idx b s h = -1
 ·omega
 ·have:=zZ b s h hi;omega
theorem Mw (b s h:Int) (h0:fQ b≤h) (h1:h≤9223372036854775807):wrap64 (h - fQ b)=h - fQ b∧(h - fQ b).tmod (fQ s)=(h - fQ b) % fQ s∧wrap64 ((h - fQ b).tdiv (fQ s))=(h - fQ b) / fQ s:=by
 have hb:=nG b;have hs:=nG s;refine⟨by unfold wrap64;omega,Int.tmod_eq_emod_of_nonneg (by omega),?_⟩;rw[Int.tdiv_eq_ediv_of_nonneg (by omega)];have h2:0≤(h - fQ b) / fQ s:=Int.ediv_nonneg (by omega) (by omega);have h3:(h - fQ b) / fQ s≤h - fQ b:=Int.ediv_le_self _ (by omega);unfold wrap64;omega
theorem O6 (b s h:Int) (h1:h≤9223372036854775807):
  (h<fQ b∧idx b s h = -1)∨
  (¬ h<fQ b∧wrap64 (h - fQ b)=h - fQ b∧¬ (h - fQ b).tmod (fQ s)=0∧¬ (h - fQ b) % fQ s=0∧idx b s h = -1)∨
  (¬ h<fQ b∧wrap64 (h - fQ b)=h - fQ b∧(h - fQ b).tmod (fQ s)=0∧(h - fQ b) % fQ s=0∧∃ q,wrap64 ((h - fQ b).tdiv (fQ s))=q∧2147483647<q∧idx b s h = -1)∨
  (¬ h<fQ b∧wrap64 (h - fQ b)=h - fQ b∧(h - fQ b).tmod (fQ s)=0∧(h - fQ b) % fQ s=0∧∃ q,wrap64 ((h - fQ b).tdiv (fQ s))=q∧¬ 2147483647<q∧idx b s h=q):=by
 by_cases hlt:h<fQ b
 ·exact .inl ⟨hlt,by unfold idx;rw[if_pos (.inl hlt)]⟩
 ·obtain⟨e1,e2,e3⟩:=Mw b s h (by omega) h1;by_cases hr:(h - fQ b) % fQ s=0
  ·by_cases hq:2147483647<(h - fQ b) / fQ s
   ·exact .inr (.inr (.inl ⟨hlt,e1,by rw[e2,hr],hr,_,e3,hq,by unfold idx;rw[if_pos (.inr (.inr hq))]⟩))
   ·exact .inr (.inr (.inr ⟨hlt,e1,by rw[e2,hr],hr,_,e3,hq,by unfold idx;rw[if_neg (fun y=>y.elim hlt (fun z=>z.elim (fun u=>u hr) hq))]⟩))
  ·exact .inr (.inl ⟨hlt,e1,by rw[e2];exact hr,hr,by unfold idx;rw[if_pos (.inr (.inl hr))]⟩)
end Ar
end
section
open Go Go.RowKit
section
variable {P:Program} {ops:Array Oper} {Q:Exit→Act→World→Prop} {md:Region.Mode} {S:World→Prop}
/-- What is to be shown, and which operations are taken next. -/
def AG (is:List Nat) (G:Prop):Prop:=G
theorem bE (is:List Nat) {G:Prop} (h:AG is G):G:=h
theorem bF {G:Prop} (h:G):AG [] G:=h
theorem jl {is:List Nat} {i:Nat} {oi:Oper} {v:Value} {fuel:Nat} {listed:Array Bool} {a:Act} {w:World}
    (h:AG is (wpAnyH P md ops Q S fuel (listed.setIfInBounds i true) (a.put oi.dst v) w)) (hi:ops[i]?=some oi:=by rfl)
    (hc:(Region.noSelect ops && Region.free md ops listed i && (Region.ready md ops listed).contains i)=true:=by kernel_rfl)
    (hQ:∀ c a w,Q (.panic c) (a.put oi.dst v) w→Q (.panic c) a w:=by exact fun _ _ _ h=>h)
    (hy:YieldsIf P ops S oi v a:=by (refine .inl ⟨rfl,?_⟩;intro w' hSw;(try dsimp only at hSw);(repeat (obtain⟨_,hSw⟩:_∧_:=hSw));go_simp<;>with_reducible rfl)) (hS:S w:=by assumption):
    AG (i::is) (wpAnyH P md ops Q S (fuel+1) listed a w):=by
  rw[Bool.and_eq_true,Bool.and_eq_true] at hc
  exact wpAnyH_take hi hc.1.1 hc.1.2 hc.2 hQ hy hS h
theorem bO (i:Nat) {o:Oper} {fuel:Nat} {listed:Array Bool} {a:Act} {w:World}
    (h:∀ K':Act→World→Prop,Shut (∀ a w,S w→(S w→wpAnyH P md ops Q S fuel (listed.setIfInBounds i true) a w)→K' a w)→if Region.wanted o (yielded ops a.tmps)=true then Oper.wp P o a w K' Q else K' (a.put o.dst undef) w)
    (hr:Region.ready md ops listed=[i]:=by kernel_rfl) (ho:ops[i]?=some o:=by rfl):
    wpAnyH P md ops Q S (fuel+1) listed a w:=wpAnyH_ready (rs:=[i]) hr (by simp) (AllReadyH.cons ho h AllReadyH.nil)
theorem gQ {fuel:Nat} {listed:Array Bool} {a:Act} {w:World} (h:Q .normal a w) (hr:Region.ready md ops listed=[]:=by kernel_rfl):wpAnyH P md ops (NoPanic Q) S fuel listed a w:=wpAnyH_done hr (NoPanic.normal h) _
theorem KD (i:Nat) {F:Fence} {n:Nat} {o:Oper} {fuel:Nat} {listed:Array Bool} {a:Act} {w:World}
    (h:∀ K':Act→World→Prop,(∀ a w,wpAnyIn F n P md ops Q fuel (listed.setIfInBounds i true) a w→K' a w)→if Region.wanted o (yielded ops a.tmps)=true then Oper.wpIn F n P o a w K' Q else (∀ f,o.about P w a.eval=some f→F.fn f)∧K' (a.put o.dst undef) w)
    (hr:Region.ready md ops listed=[i]:=by kernel_rfl) (ho:ops[i]?=some o:=by rfl):wpAnyIn F n P md ops Q (fuel+1) listed a w:=wpAnyIn_ready (rs:=[i]) hr (by simp) (AllReadyIn.cons ho h AllReadyIn.nil)
theorem tkI (i:Nat) {F:Fence} {n:Nat} {oi:Oper} {v:Value} {fuel:Nat} {listed:Array Bool} {a:Act} {w:World}
    (h:wpAnyIn F n P md ops Q fuel (listed.setIfInBounds i true) (a.put oi.dst v) w) (hi:ops[i]?=some oi:=by rfl) (hro:F.round=none:=by rfl)
    (hs:Region.noSelect ops=true:=by kernel_rfl) (hf:Region.free md ops listed i=true:=by kernel_rfl) (hr:(Region.ready md ops listed).contains i=true:=by kernel_rfl)
    (hQ:∀ c a w,Q (.panic c) (a.put oi.dst v) w→Q (.panic c) a w:=by exact fun _ _ _ h=>h)
    (hy:YieldsFenced P ops oi v a:=by (refine⟨.inl ⟨by rfl,?_⟩,fun _=>rfl⟩;intro w';go_simp<;>with_reducible rfl)):wpAnyIn F n P md ops Q (fuel+1) listed a w:=wpAnyIn_take hro hi hs hf hr hQ hy h
theorem IL (i j:Nat) {F:Fence} {n:Nat} {o o':Oper} {fuel:Nat} {listed:Array Bool} {a:Act} {w:World}
    (h:∀ K':Act→World→Prop,(∀ a w,wpAnyIn F n P md ops Q fuel (listed.setIfInBounds i true) a w→K' a w)→if Region.wanted o (yielded ops a.tmps)=true then Oper.wpIn F n P o a w K' Q else (∀ f,o.about P w a.eval=some f→F.fn f)∧K' (a.put o.dst undef) w)
    (h':∀ K':Act→World→Prop,(∀ a w,wpAnyIn F n P md ops Q fuel (listed.setIfInBounds j true) a w→K' a w)→if Region.wanted o' (yielded ops a.tmps)=true then Oper.wpIn F n P o' a w K' Q else (∀ f,o'.about P w a.eval=some f→F.fn f)∧K' (a.put o'.dst undef) w)
    (hr:Region.ready md ops listed=[i,j]:=by kernel_rfl) (ho:ops[i]?=some o:=by rfl) (ho':ops[j]?=some o':=by rfl):wpAnyIn F n P md ops Q (fuel+1) listed a w:=wpAnyIn_ready (rs:=[i,j]) hr (by simp) (AllReadyIn.cons ho h (AllReadyIn.cons ho' h' AllReadyIn.nil))
theorem zm (i j:Nat) {o o':Oper} {fuel:Nat} {listed:Array Bool} {a:Act} {w:World}
    (h:∀ K':Act→World→Prop,Shut (∀ a w,S w→(S w→wpAnyH P md ops Q S fuel (listed.setIfInBounds i true) a w)→K' a w)→if Region.wanted o (yielded ops a.tmps)=true then Oper.wp P o a w K' Q else K' (a.put o.dst undef) w)
    (h':∀ K':Act→World→Prop,Shut (∀ a w,S w→(S w→wpAnyH P md ops Q S fuel (listed.setIfInBounds j true) a w)→K' a w)→if Region.wanted o' (yielded ops a.tmps)=true then Oper.wp P o' a w K' Q else K' (a.put o'.dst undef) w)
    (hr:Region.ready md ops listed=[i,j]:=by kernel_rfl) (ho:ops[i]?=some o:=by rfl) (ho':ops[j]?=some o':=by rfl):
    wpAnyH P md ops Q S (fuel+1) listed a w:=wpAnyH_ready (rs:=[i,j]) hr (by simp) (AllReadyH.cons ho h (AllReadyH.cons ho' h' AllReadyH.nil))
end
theorem pS:(∀ (a:Act) (d:Tmp) (v:Value),a.put (some d) v={ a with tmps:=a.tmps.setIfInBounds d v })∧(∀ {α:Type} (l:List α) (i:Nat) (a:α),l.toArray.setIfInBounds i a=(l.set i a).toArray)∧(∀ {α:Type} (a b:α) (l:List α),(a::l).set 0 b=b::l)∧
    (∀ {α:Type} (a b:α) (l:List α) (i:Nat),(a::l).set (i+1) b=a::l.set i b):=⟨fun _ _ _=>rfl,fun _ _ _=>List.setIfInBounds_toArray ..,fun _ _ _=>rfl,fun _ _ _ _=>rfl⟩
theorem pT:(∀ {α:Type} (l:List α),l.toArray.size=l.length)∧(∀ {α:Type} (a:α) (l:List α),(a::l).length=l.length+1)∧(∀ {α:Type},([]:List α).length=0)∧(∀ {α:Type} (n:Nat) (a:α),Array.replicate (n+1) a=(Array.replicate n a).push a)∧(∀ {α:Type} (a:α),Array.replicate 0 a=#[])∧
    (∀ {α:Type} (l:List α) (a:α),l.toArray.push a=(l++[a]).toArray)∧(∀ {α:Type} (l m:List α),l.toArray++m.toArray=(l++m).toArray)∧(∀ {α:Type} (l:List α),[]++l=l)∧(∀ {α:Type} (a:α) (l m:List α),(a::l)++m=a::(l++m)):=
  ⟨fun _=>List.size_toArray ..,fun _ _=>rfl,rfl,fun _ _=>Array.replicate_succ,fun _=>Array.replicate_zero,fun _ _=>List.push_toArray ..,fun _ _=>List.append_toArray ..,fun _=>rfl,fun _ _ _=>rfl⟩
theorem gU {w w':World} {o:Obj} (h:w.alloc o=w'):Below w.heap.size w w':=by rw[←h];exact (Below.refl _ w).alloc (Nat.le_refl _) _
theorem mW {w w':World} (h:w.drew=w'):Below w.heap.size w w':=by rw[←h];exact⟨rfl,rfl,rfl,Nat.le_refl _,fun _ _=>rfl⟩
theorem IV {w w':World} {n:Nat} (h:w.drewN n=w'):Below w.heap.size w w':=by rw[←h];exact⟨rfl,rfl,rfl,Nat.le_refl _,fun _ _=>rfl⟩
theorem eX.{u} {α:Sort u} (e:α):∃ x,e=x:=⟨_,rfl⟩
theorem zh {A:Prop} (h:A):Hid A:=Lib.hid h
theorem jn5 {G:Prop} {α β γ δ ε:Type} {C T:α→β→γ→δ→ε→Prop} (h:Hid (∀ a b c d e,C a b c d e→T a b c d e)→G) (t:∀ a b c d e,C a b c d e→T a b c d e):G:=h (Lib.hid t)
/-- A call that leaves the world as it is. -/
theorem nV {P:Program} {f:FuncId} {args:Array Value} {w:World} {u:Ending} {Q:Ending→World→Prop} (h:Calls P f args w fun e w'=>e=u∧w'=w) (k:Q u w):Calls P f args w Q:=h.mono (by rintro e w' ⟨rfl,rfl⟩;exact k)
end
section
open Go Go.RowKit
def jE (l:List UInt8):List Value:=l.map fun b=>.int .u8 b.toNat
theorem uz (l m:List UInt8):jE (l++m)=jE l++jE m:=by simp[jE]
theorem JI (s:ByteArray):Lib.strCells s=jE s.data.toList:=by
 simp[Lib.strCells,jE]
def Whole (w:World) (b:Nat) (cs:Array Value) (t:TypeId):Prop:=w.heap[b]?=some (.cells cs t (0,0))
section
variable {w w':World} {b:Nat} {cs:Array Value} {t:TypeId}
theorem Whole.lt (h:Whole w b cs t):b<w.heap.size:=lt_of_block h
theorem Whole.cell (h:Whole w b cs t) (i:Nat):w.cell? ⟨b,i,none⟩=cs[i]?:=cell_of_row w b i cs t (0,0) h
theorem Whole.free (h:Whole w b cs t) (i:Nat):w.frozen? ⟨b,i,none⟩=false:=frozen_of_row w b i cs t h
theorem Whole.alloc (h:Whole w b cs t) (o:Obj):Whole (w.alloc o) b cs t:=(Below.heap_alloc w o b h.lt).trans h
theorem Whole.new (w:World) (cs:Array Value) (t:TypeId):Whole (w.alloc (.cells cs t)) w.heap.size cs t:=heap_alloc_new w _
theorem Whole.put (h:Whole w b cs t) (i:Nat) (v:Value):Whole (w.setCell ⟨b,i,none⟩ v) b (cs.setIfInBounds i v) t:=heap_setCell_same w b i cs t v h
theorem Whole.other (h:Whole w b cs t) {a:Addr} (hn:b≠a.block) (v:Value):Whole (w.setCell a v) b cs t:=(heap_setCell_other w a b v hn).trans h
theorem Whole.below {B:Nat} (h:Whole w b cs t) (hb:Below B w w') (hlt:b<B):Whole w' b cs t:=(hb.block b hlt).trans h
theorem Whole.grown {row:Option Nat} (h:Whole w b cs t) (hg:w.grownBy w' row) (hn:some b≠row):Whole w' b cs t:=(hg.block b h.lt hn).trans h
theorem Whole.unlike {b':Nat} {cs':Array Value} {t':TypeId} (h:Whole w b cs t) (h':Whole w b' cs' t') (hn:t≠t'):b≠b':=by
 intro e;subst e;unfold Whole at h h';rw[h] at h';injection h' with h';injection h' with _ h2;exact hn h2
end
/-! 'grownBy w' (some b)': at most block b has turned, and there may be new ones. -/
section
variable {w w' w'':World} {b:Nat} {row:Option Nat}
theorem Gz (h:w.grownBy w' row) (k:w'.grownBy w'' row):w.grownBy w'' row:=
 ⟨k.os.trans h.os,k.tape.trans h.tape,k.output.trans h.output,Nat.le_trans h.size k.size,fun i hi hn=>(k.block i (Nat.lt_of_lt_of_le hi h.size) hn).trans (h.block i hi hn)⟩
theorem aO (h:w.grownBy w' (some b)) (i:Nat) (v:Value):w.grownBy (w'.setCell ⟨b,i,none⟩ v) (some b):=
 Gz h ⟨rfl,rfl,rfl,by simp[World.setCell],fun k _ hn=>heap_setCell_other w' _ k v (fun e=>hn (by rw[e]))⟩
theorem ay (h:Below w.heap.size w w') (row:Option Nat):w.grownBy w' row:=⟨h.os,h.tape,h.output,h.size,fun k hk _=>h.block k hk⟩
end
section
variable {T E:TypeId} {w w':World} {base b:Nat} {l:List UInt8}
theorem Ac {v:Value} {n:Nat} {xs:List Value} (h:w.ownsRow base E 1 v n xs):∃ A c,v=.slice A n c:=by
 rcases h.2 with ⟨rfl,rfl⟩ | ⟨g,cap,cur,rfl,_⟩
 ·exact⟨none,0,rfl⟩
 ·exact⟨_,_,rfl⟩
end
end
section
open Go Go.RowKit
variable {P:Program} {w:World}
def mV (w:World) (v v':Value):Prop:=v'.ownBlock=v.ownBlock∨∀ k,v'.ownBlock=some k→w.heap.size≤k
theorem El (base:Nat) (t ty e:TypeId) (i:TypeInfo) (z:Value) (size bytes:Nat) (ht:P.underlying t=some (.slice e)) (hi:P.info? e=some i) (hz:i.zero=some z)
  (hsize:i.size=size) (hby:i.bytes=bytes) (hzs:z.cells.size=size) (hsz:0<size)
  (v:Value) (n:Nat) (xs:List Value) (hown:w.ownsRow base e size v n xs)
  (a:Addr) (m c:Nat) (news:List Value) (hl:news.length=m*size) (hnews:∀ j u,news[j]?=some u→w.cell? (a.add j)=some u) (h1:∀ u∈news,u.oneCell'=true)
  (h63:n+m≤maxLen) (hbytes:(n+m)*bytes≤140737488355328) {v':Value} {w':World}
  (hrun:(Builtin.append_ #[t,t] ty #[v,.slice (some a) m c]).run P w=.ok v' w'):mV w v v':=by
 have hsmall:n+m≤9223372036854775807:=by simp only[maxLen] at h63;omega
 rcases hown.2 with ⟨rfl,rfl⟩ | ⟨g,cap,cur,rfl,hbg,hg,hnc,hcm,hcs,htake⟩
 ·have hx:xs=[]:=List.eq_nil_of_length_eq_zero (by simpa using hown.1);subst hx;obtain⟨v2,w2,hr,h2,_,_⟩:=run_append_own (P:=P) w w.heap.size t ty e i z size bytes ht hi hz hsize hby hzs hsz _ _ _ (World.ownsRow_nil w w.heap.size e size) a m c news hl hnews h1 h63 hbytes (Nat.le_refl _);rw[hrun] at hr;injection hr with hv _;subst hv;exact .inr fun k hk=>(h2.lt k hk).1
 ·subst hsize;subst hby;by_cases hroom:n+m≤cap
  ·have hfit:n*i.size+news.length≤cur.size:=by rw[hl,hcs,←Nat.add_mul];exact Nat.mul_le_mul_right _ hroom
   have hr:=run_append_room (P:=P) w t ty e i ht hi g n cap cur hg a m c news hl hnews h1 hroom hfit;rw[hrun] at hr;injection hr with hv _;subst hv;exact .inl (by simp[Value.ownBlock])
  ·have holds:∀ j u,xs[j]?=some u→w.cell? ((⟨g,0,none⟩:Addr).add j)=some u:=hown.cells (g:=g) rfl;have hr:=run_append_grow (P:=P) w t ty e i z ht hi hz ⟨g,0,none⟩ n cap xs hown.1 holds a m c news hl hnews (by omega) (by omega) (growslice_fits (by omega) hbytes);rw[hrun] at hr;injection hr with hv _;subst hv;exact .inr fun k hk=>by simp[Value.ownBlock] at hk;omega
theorem sG (base Ad:Nat) (t ty e:TypeId) (i:TypeInfo) (z:Value) (size bytes:Nat) (ht:P.underlying t=some (.slice e)) (hi:P.info? e=some i) (hz:i.zero=some z)
  (hsize:i.size=size) (hby:i.bytes=bytes) (hzs:z.cells.size=size) (hsz:0<size)
  (v:Value) (n:Nat) (xs:List Value) (hown:w.ownsRow base e size v n xs) (v2:Value) (m:Nat) (ys:List Value) (hsrc:w.ownsRow Ad e size v2 m ys) (h1:∀ u∈ys,u.oneCell'=true)
  (h63:n+m≤maxLen) (hbytes:(n+m)*bytes≤140737488355328) (hbase:base≤w.heap.size):
  ∃ v' w',(Builtin.append_ #[t,t] ty #[v,v2]).run P w=.ok v' w'∧w'.ownsRow base e size v' (n+m) (xs++ys)∧w.grownBy w' v.ownBlock∧mV w v v':=by
 have hs:=hsrc;rcases hsrc.2 with ⟨rfl,rfl⟩ | ⟨g,cap,cur,rfl,_⟩
 ·have hy:ys=[]:=by
   have:=hsrc.1;rw[Nat.zero_mul] at this;exact List.eq_nil_of_length_eq_zero this
  subst hy;refine⟨v,w,run_append_owned_none w base t ty e i size ht hi v n xs hown,by rw[List.append_nil,Nat.add_zero];exact hown,⟨rfl,rfl,rfl,Nat.le_refl _,fun _ _ _=>rfl⟩,.inl rfl⟩
 ·obtain⟨v',w',hr,h2,h3,_⟩:=run_append_own (P:=P) w base t ty e i z size bytes ht hi hz hsize hby hzs hsz v n xs hown ⟨g,0,none⟩ m cap ys hs.1 (hs.cells rfl) h1 h63 hbytes hbase;exact⟨v',w',hr,h2,h3,El base t ty e i z size bytes ht hi hz hsize hby hzs hsz v n xs hown ⟨g,0,none⟩ m cap ys hs.1 (hs.cells rfl) h1 h63 hbytes hr⟩
theorem dV {ops:Array Oper} {rest:List Oper} {o:Oper} {a:Act} {Q:Exit→Act→World→Prop} (hgd:o.guard=none) (s x:Operand) (t:TypeId)
  (ho:o.op=.call { callee:=.builtin .append,args:=#[s,x],argTypes:=#[t,t] })
  (base Ad:Nat) (e:TypeId) (i:TypeInfo) (z:Value) (size bytes:Nat) (ht:P.underlying t=some (.slice e)) (hi:P.info? e=some i) (hz:i.zero=some z)
  (hsize:i.size=size) (hby:i.bytes=bytes) (hzs:z.cells.size=size) (hsz:0<size)
  (v:Value) (n:Nat) (xs:List Value) (hs:a.eval s=v) (hown:w.ownsRow base e size v n xs) (v2:Value) (m:Nat) (ys:List Value) (hx:a.eval x=v2) (hsrc:w.ownsRow Ad e size v2 m ys) (h1:∀ u∈ys,u.oneCell'=true)
  (h63:n+m≤maxLen) (hbytes:(n+m)*bytes≤140737488355328) (hbase:base≤w.heap.size)
  (h:∀ v' w',w'.ownsRow base e size v' (n+m) (xs++ys)→w.grownBy w' v.ownBlock→mV w v v'→wpList P ops Q rest (a.put o.dst v') w'):wpList P ops Q (o::rest) a w:=by
 refine wpList_plain hgd fun K hK=>?_;obtain⟨v',w',hr,h2,h3,h4⟩:=sG (P:=P) base Ad t o.type e i z size bytes ht hi hz hsize hby hzs hsz v n xs hown v2 m ys hsrc h1 h63 hbytes hbase;unfold Oper.wp execOp;simp only[ho,resolve,invoke,builtin,Sem.run_bind,Sem.run_pure,Result.andThen_ok,List.map_toArray,List.map_cons,List.map_nil,hs,hx,hr];exact hK _ _ (h v' w' h2 h3 h4)
theorem cK {ops:Array Oper} {o:Oper} {a:Act} {K:Act→World→Prop} {Q:Exit→Act→World→Prop} {E:Prop} (hgd:o.guard=none) (s x:Operand) (t:TypeId)
  (ho:o.op=.call { callee:=.builtin .append,args:=#[s,x],argTypes:=#[t,t] })
  (base Ad:Nat) (e:TypeId) (i:TypeInfo) (z:Value) (size bytes:Nat) (ht:P.underlying t=some (.slice e)) (hi:P.info? e=some i) (hz:i.zero=some z)
  (hsize:i.size=size) (hby:i.bytes=bytes) (hzs:z.cells.size=size) (hsz:0<size)
  (v:Value) (n:Nat) (xs:List Value) (hs:a.eval s=v) (hown:w.ownsRow base e size v n xs) (v2:Value) (m:Nat) (ys:List Value) (hx:a.eval x=v2) (hsrc:w.ownsRow Ad e size v2 m ys) (h1:∀ u∈ys,u.oneCell'=true)
  (h63:n+m≤maxLen) (hbytes:(n+m)*bytes≤140737488355328) (hbase:base≤w.heap.size)
  (h:∀ v' w',w'.ownsRow base e size v' (n+m) (xs++ys)→w.grownBy w' v.ownBlock→mV w v v'→K (a.put o.dst v') w'):
  if Region.wanted o (yielded ops a.tmps)=true then Oper.wp P o a w K Q else E:=by
 have hw:Region.wanted o (yielded ops a.tmps)=true:=by simp[Region.wanted,hgd]
 rw[if_pos hw];obtain⟨v',w',hr,h2,h3,h4⟩:=sG (P:=P) base Ad t o.type e i z size bytes ht hi hz hsize hby hzs hsz v n xs hown v2 m ys hsrc h1 h63 hbytes hbase;unfold Oper.wp execOp;simp only[ho,resolve,invoke,builtin,Sem.run_bind,Sem.run_pure,Result.andThen_ok,List.map_toArray,List.map_cons,List.map_nil,hs,hx,hr];exact h v' w' h2 h3 h4
end
section
open Go Go.RowKit
def kM (n:Int):Prop := -9223372036854775808≤n∧n≤9223372036854775807
abbrev xS (b s:Int):Value:=.agg #[.int .i64 b,.int .i64 s]
theorem kD {a b:Int} (h:a=b):Ending.returned (.int .i64 a)=.returned (.int .i64 b):=by rw[h]
theorem fI {a b:Bool} (h:a=b):Ending.returned (.bool a)=.returned (.bool b):=by rw[h]
theorem YC {x:Int} (h1 : -9223372036854775808≤x) (h2:x≤9223372036854775807):IntKind.i64.wrap x=x:=by
 rw[IntKind.wrap_i64];omega
def nums (fr:List Nat):List Value:=fr.map fun (i:Nat)=>Value.int .i64 (i:Int)
theorem nums_append (a b:List Nat):nums (a++b)=nums a++nums b:=by simp[nums]
theorem aG {w:World} {B:Nat} {e:TypeId} {size:Nat} {v:Value} {n:Nat} {xs:List Value} (h:w.ownsRow B e size v n xs):w.ownsRow 0 e size v n xs:=by
 refine⟨h.1,?_⟩;rcases h.2 with hn | ⟨g,cap,cur,hv,_,hr⟩
 ·exact .inl hn
 ·exact .inr ⟨g,cap,cur,hv,Nat.zero_le _,hr⟩
theorem aF {w:World} {e:TypeId} {size:Nat} {v:Value} {n:Nat} {xs:List Value} (h:w.ownsRow 0 e size v n xs):∃ A c,v=.slice A n c:=by
 rcases h.2 with ⟨rfl,rfl⟩ | ⟨g,cap,cur,rfl,_⟩
 ·exact⟨none,0,rfl⟩
 ·exact⟨_,_,rfl⟩
theorem jX {w:World} {e:TypeId} {size:Nat} {A:Option Addr} {c n:Nat} {xs:List Value} (h:w.ownsRow 0 e size (.slice A n c) n xs) (hn:0<n):∃ g,A=some ⟨g,0,none⟩∧g<w.heap.size∧∀ j u,xs[j]?=some u→w.cell? ⟨g,j,none⟩=some u:=by
 have hh:=h;rcases h.2 with ⟨_,rfl⟩ | ⟨g,cap,cur,hv,_,hg,_⟩
 ·omega
 ·injection hv with hA _ _;subst hA;refine⟨g,rfl,(Array.getElem?_eq_some_iff.1 hg).1,fun j u hu=>?_⟩;have:=hh.cells rfl j u hu;have e:(⟨g,0,none⟩:Addr).add j=⟨g,j,none⟩:=by unfold Addr.add;split<;>simp_all
  rwa [e] at this
theorem bA {W:World} {B base size:Nat} {e T:TypeId} {cs:Array Value} {v:Value} {n:Nat} {xs:List Value} (h:W.ownsRow base e size v n xs) (hb:Whole W B cs T) (hn:e≠T):v.ownBlock≠some B:=by
 rcases h.2 with ⟨rfl,_⟩ | ⟨g,cap,cur,rfl,_,hg,_⟩
 ·simp[Value.ownBlock]
 ·intro x;have x':g=B:=by simpa [Value.ownBlock] using x
  exact Whole.unlike (cs:=cur) (t:=e) (show Whole W g cur e from hg) hb hn x'
theorem JJ {w:World} {B g n c:Nat} {e:TypeId} {size:Nat} {xs:List Value} (h:w.ownsRow B e size (.slice (some ⟨g,0,none⟩) n c) n xs) (m:Nat) (hm:m≤n):w.ownsRow B e size (.slice (some ⟨g,0,none⟩) m c) m (xs.take (m*size)):=by
 rcases h.2 with ⟨hv,_⟩ | ⟨g',cap,cur,hv,hb,hg,hn,hc,hs,ht⟩
 ·cases hv
 ·injection hv with h1 h2 h3;injection h1 with h1;injection h1 with h1 _ _;subst h1 h3;refine⟨?_,.inr ⟨_,_,cur,rfl,hb,hg,by omega,hc,hs,?_⟩⟩
  ·rw[List.length_take,h.1];exact Nat.min_eq_left (Nat.mul_le_mul_right _ hm)
  ·rw[←ht,List.take_take,Nat.min_eq_left (Nat.mul_le_mul_right _ hm)]
theorem RA {w:World} {B g n c:Nat} {e:TypeId} {size:Nat} {xs:List Value} (h:w.ownsRow B e size (.slice (some ⟨g,0,none⟩) n c) n xs):n≤c:=by
 rcases h.2 with ⟨hv,_⟩ | ⟨g',cap,cur,hv,_,_,hn,_⟩
 ·cases hv
 ·injection hv with _ _ h3;omega
theorem own_ne {w:World} {b1 b2 s1 s2 n1 n2:Nat} {e1 e2:TypeId} {v1 v2:Value} {x1 x2:List Value} (h1:w.ownsRow b1 e1 s1 v1 n1 x1) (h2:w.ownsRow b2 e2 s2 v2 n2 x2) (hn:e1≠e2):v1.ownBlock=none∨v1.ownBlock≠v2.ownBlock:=by
 rcases h1.2 with ⟨rfl,_⟩ | ⟨g,cap,cur,rfl,_,hg,_⟩
 ·exact .inl rfl
 ·refine .inr fun e=>?_;rcases h2.2 with ⟨rfl,_⟩ | ⟨g',cap',cur',rfl,_,hg',_⟩
  ·simp[Value.ownBlock] at e
  ·have e':g=g':=by simpa [Value.ownBlock] using e
   subst e';rw[hg] at hg';injection hg' with hg';injection hg' with _ h2;exact hn h2
structure Turns (S:Nat→Prop) (w w':World):Prop where
 os:w'.os=w.os
 tape:w'.tape=w.tape
 output:w'.output=w.output
 size:w.heap.size≤w'.heap.size
 block:∀ k,k<w.heap.size→¬ S k→w'.heap[k]?=w.heap[k]?
section
variable {w w' w'':World} {S S' U:Nat→Prop}
theorem Turns.of_below (h:Below w.heap.size w w'):Turns S w w':=⟨h.os,h.tape,h.output,h.size,fun k hk _=>h.block k hk⟩
theorem Turns.aT {row:Option Nat} (h:w.grownBy w' row) (hS:∀ k,row=some k→S k):Turns S w w':=⟨h.os,h.tape,h.output,h.size,fun k hk hn=>h.block k hk (fun e=>hn (hS k e.symm))⟩
theorem Turns.refl (S:Nat→Prop) (w:World):Turns S w w:=⟨rfl,rfl,rfl,Nat.le_refl _,fun _ _ _=>rfl⟩
theorem Turns.trans (h:Turns S w w') (h':Turns S' w' w'') (h1:∀ k,k<w.heap.size→S k→U k) (h2:∀ k,k<w.heap.size→S' k→U k):Turns U w w'':=
 ⟨h'.os.trans h.os,h'.tape.trans h.tape,h'.output.trans h.output,Nat.le_trans h.size h'.size,fun k hk hn=>(h'.block k (Nat.lt_of_lt_of_le hk h.size) (fun x=>hn (h2 k hk x))).trans (h.block k hk (fun x=>hn (h1 k hk x)))⟩
theorem Turns.below {B:Nat} (h:Turns S w w') (hB:B≤w.heap.size) (hS:∀ k,S k→B≤k):Below B w w':=
 ⟨h.os,h.tape,h.output,h.size,fun k hk=>h.block k (Nat.lt_of_lt_of_le hk hB) (fun x=>by have:=hS k x;omega)⟩
theorem Whole.turns {b:Nat} {cs:Array Value} {t:TypeId} (h:Whole w b cs t) (ht:Turns S w w') (hn:¬ S b):Whole w' b cs t:=(ht.block b h.lt hn).trans h
theorem bW {base size:Nat} {e:TypeId} {v:Value} {n:Nat} {xs:List Value} (h:w.ownsRow base e size v n xs) (ht:Turns S w w') (hn:∀ k,v.ownBlock=some k→¬ S k):w'.ownsRow base e size v n xs:=by
 refine⟨h.1,?_⟩;rcases h.2 with hv | ⟨g,cap,cur,rfl,hb,hg,hr⟩
 ·exact .inl hv
 ·exact .inr ⟨g,cap,cur,rfl,hb,(ht.block g (Array.getElem?_eq_some_iff.1 hg).1 (hn g (by simp[Value.ownBlock]))).trans hg,hr⟩
end
def aB (w w':World) (F F':Nat→Prop):Prop:=Turns F w w'∧∀ k,k<w.heap.size→F' k→F k
section
variable {w w' w'':World} {F F' F'' G:Nat→Prop}
theorem aB.apart (h:aB w w' F F') (hG:∀ k,G k→k<w.heap.size) (hn:∀ k,G k→¬ F k):∀ k,G k→¬ F' k:=fun k hg hf=>hn k hg (h.2 k (hG k hg) hf)
end
theorem aB.trans {w w1 w2:World} {F F1 F2:Nat→Prop} (h:aB w w1 F F1) (h':aB w1 w2 F1 F2):aB w w2 F F2:=
 ⟨h.1.trans h'.1 (fun _ _ x=>x) (fun k hk x=>h.2 k hk x),fun k hk x=>h.2 k hk (h'.2 k (Nat.lt_of_lt_of_le hk h.1.size) x)⟩
theorem aB.p9 {w w1:World} {F:Nat→Prop} (h:Turns F w w1):aB w w1 F F:=⟨h,fun _ _ x=>x⟩
theorem aB.of_below {w w1:World} {F:Nat→Prop} (h:Below w.heap.size w w1):aB w w1 F F:=.p9 (.of_below h)
def ints (l:List Int):List Value:=l.map fun i=>.int .i64 i
theorem iB (a b:List Int):ints (a++b)=ints a++ints b:=by simp[ints]
theorem gH (l:List Int):∀ u∈ints l,u.oneCell'=true:=by
 intro u hu;obtain⟨i,_,rfl⟩:=List.mem_map.1 hu;rfl
theorem dP {l:List Int} {i:Nat} {x:Int} (h:l[i]?=some x):(ints l)[i]?=some (.int .i64 x):=by simp[ints,h]
section
variable {E:TypeId} {base:Nat} {w w':World} {v v':Value} {l:List Int} {F F':Nat→Prop}
theorem row_one (w:World) (E:TypeId) (x:Int):(w.alloc (.cells #[.int .i64 x] E)).ownsRow 0 E 1 (.slice (some ⟨w.heap.size,0,none⟩) 1 1) 1 (ints [x]):=
 World.ownsRow_lit (base:=0) (e:=E) (size:=1) w #[.int .i64 x] 1 (by simp) (by unfold maxLen;omega) rfl
end
end
section
open Go.RowKit
theorem GA (n:Int) (w:World):
  Calls Tryz.prog 124 #[.int .i64 n] w fun e w'=>e=.returned (.int .i64 (Ar.fQ n))∧w'=w:=by
 go_enter Tryz.func124,Tryz.ntmps124
 go_wp2
 all_goals go_ret
 all_goals exact⟨kD (by unfold Ar.fQ;omega),rfl⟩
theorem CV (b s:Int) (w:World):
  Calls Tryz.prog 111 #[xS b s] w fun e w'=>e=.returned (xS (Ar.fQ b) (Ar.fQ s))∧Below w.heap.size w w':=by
 have hb0:=(Below.refl _ w).alloc (Nat.le_refl _) (.cells #[.int .i64 b,.int .i64 s] 28)
 go_enter Tryz.func111,Tryz.ntmps111
 go_wp2_with fail
 go_region_with (go_at_call 124;refine (GA _ _).mono ?_;rintro e w2 ⟨rfl,rfl⟩)
 all_goals go_wp2_with fail
 all_goals refine bodyPost_ret (v:=xS (Ar.fQ b) (Ar.fQ s)) ?_ rfl ⟨rfl,(hb0.alloc (by simp) _).trans ⟨rfl,rfl,rfl,Nat.le_refl _,fun _ _=>rfl⟩⟩
 all_goals simp[results,Tryz.f111,go_sem]
theorem GD {w:World} {B:Nat} {b s:Int} (h:Whole w B #[.int .i64 b,.int .i64 s] 28) (x y:Int):
  ∃ w',(w.setCell ⟨B,0,none⟩ (.int .i64 x)).setCell ⟨B,1,none⟩ (.int .i64 y)=w'∧Whole w' B #[.int .i64 x,.int .i64 y] 28∧w.grownBy w' (some B):=
 ⟨_,rfl,(h.put 0 _).put 1 _,aO (aO (ay (Below.refl w.heap.size w) (some B)) 0 _) 1 _⟩
theorem GH (b s i:Int) (w:World) (_hi:kM i):
  Calls Tryz.prog 88 #[xS b s,.int .i64 i] w fun e w'=>e=.returned (.int .i64 (Ar.hdl b s i))∧Below w.heap.size w w':=by
 have hb0:=(Below.refl _ w).alloc (Nat.le_refl _) (.cells #[.int .i64 b,.int .i64 s] 28);by_cases hc:i<0∨2147483647<i
 ·have hr:Ar.hdl b s i=0:=by unfold Ar.hdl;rw[if_pos hc]
  rw[hr];rcases hc with hc | hc
  ·go_enter Tryz.func88,Tryz.ntmps88
   go_wp2_with fail
   go_ret
   exact⟨rfl,hb0⟩
  ·have hc':¬ i<0:=by omega
   go_enter Tryz.func88,Tryz.ntmps88
   go_wp2_with fail
   go_ret
   exact⟨rfl,hb0⟩
 ·have hr:Ar.hdl b s i=Ar.fQ b+Ar.fQ s*i:=by unfold Ar.hdl;rw[if_neg hc]
  have hm:=Ar.Ej s i (by omega) (by omega);have hn:=Ar.nG b;have h1:=YC (x:=Ar.fQ s*i) (by omega) (by omega);have h2:=YC (x:=Ar.fQ b+Ar.fQ s*i) (by omega) (by omega);have hc1:¬ i<0:=by omega
  have hc2:¬ 2147483647<i:=by omega
  rw[hr];clear hc hr
  go_enter Tryz.func88,Tryz.ntmps88
  go_wp2_with fail;refine (CV b s _).mono ?_;rintro e w2 ⟨rfl,hb2⟩;have hS2:Whole w2 w.heap.size #[.int .i64 b,.int .i64 s] 28:=Whole.below (Whole.new w _ _) hb2 (by simp);have k0:w2.cell? ⟨w.heap.size,0,none⟩=some (.int .i64 b):=hS2.cell 0;have k1:w2.cell? ⟨w.heap.size,1,none⟩=some (.int .i64 s):=hS2.cell 1;have z0:=hS2.free 0;have z1:=hS2.free 1;have hB2:Below w.heap.size w w2:=hb0.trans (hb2.mono (by simp));clear hb2 hb0;go_wp2_with fail;obtain⟨w3,hw3,YD,g3⟩:=GD hS2 (Ar.fQ b) (Ar.fQ s);rw[hw3];have a0:w3.cell? ⟨w.heap.size,0,none⟩=some (.int .i64 (Ar.fQ b)):=YD.cell 0;have a1:w3.cell? ⟨w.heap.size,1,none⟩=some (.int .i64 (Ar.fQ s)):=YD.cell 1;have hB3:=hB2.grown g3 hB2.size (fun j hj=>by simp at hj;omega);clear hw3 z0 z1 k0 k1;go_wp2_with fail
  go_ret
  exact⟨rfl,hB3⟩
theorem JK (b s h:Int) (w:World) (hh:kM h):
  Calls Tryz.prog 123 #[xS b s,.int .i64 h] w fun e w'=>e=.returned (.int .i64 (Ar.idx b s h))∧Below w.heap.size w w':=by
 have hb0:=(Below.refl _ w).alloc (Nat.le_refl _) (.cells #[.int .i64 b,.int .i64 s] 28);have hs:=Ar.nG s;have hs0:¬ Ar.fQ s=0:=by omega
 have hw:=Ar.O6 b s h hh.2;obtain⟨I,hI⟩:=eX (Ar.idx b s h)
 rw[hI] at hw ⊢;have HW:=zh hw;clear hs hw hI
 go_enter Tryz.func123,Tryz.ntmps123
 go_wp2_with fail;refine (CV b s _).mono ?_;rintro e w2 ⟨rfl,hb2⟩;have hS2:Whole w2 w.heap.size #[.int .i64 b,.int .i64 s] 28:=Whole.below (Whole.new w _ _) hb2 (by simp);have k0:w2.cell? ⟨w.heap.size,0,none⟩=some (.int .i64 b):=hS2.cell 0;have k1:w2.cell? ⟨w.heap.size,1,none⟩=some (.int .i64 s):=hS2.cell 1;have z0:=hS2.free 0;have z1:=hS2.free 1;have hB2:Below w.heap.size w w2:=hb0.trans (hb2.mono (by simp));clear hb2 hb0;rcases HW.out with ⟨h1,h9⟩ | ⟨h1,h2,h3,h7,h9⟩ | ⟨h1,h2,h3,h7,q,h4,h6,h9⟩ | ⟨h1,h2,h3,h7,q,h4,h6,h9⟩
 all_goals (have hx:=zh h9)
 all_goals clear HW h9
 all_goals go_wp2_with fail
 all_goals obtain⟨w3,hw3,YD,g3⟩:=GD hS2 (Ar.fQ b) (Ar.fQ s)
 all_goals rw[hw3]
 all_goals have a0:w3.cell? ⟨w.heap.size,0,none⟩=some (.int .i64 (Ar.fQ b)):=YD.cell 0
 all_goals have a1:w3.cell? ⟨w.heap.size,1,none⟩=some (.int .i64 (Ar.fQ s)):=YD.cell 1
 all_goals have hB3:=hB2.grown g3 hB2.size (fun j hj=>by simp at hj;omega)
 all_goals clear hw3 z0 z1 k0 k1
 all_goals go_wp2_with fail
 all_goals go_ret
 all_goals first
  | exact⟨kD hx.out.symm,hB3⟩
  | exact⟨kD (hx.out▸(by first | exact h4 | (rw[h2];exact h4))),hB3⟩
end
section
open Go Go.RowKit
section
variable {α:Type} {sl:α→List Value} {n m:Nat}
def bQ (sl:α→List Value) (m:Nat) (f:Nat→α):List Value:=(List.range m).flatMap fun i=>sl (f i)
theorem oG (f:Nat→α):bQ sl (m+1) f=bQ sl m f++sl (f m):=by simp[bQ,List.range_succ]
theorem jf (hn:∀ c,(sl c).length=n) (f:Nat→α):(bQ sl m f).length=m*n:=by
 induction m with
 | zero=>simp[bQ]
 | succ m ih=>rw[oG,List.length_append,ih,hn,Nat.add_mul,Nat.one_mul]
theorem jT (hn:∀ c,(sl c).length=n) (f:Nat→α) {i j:Nat} (hi:i<m) (hj:j<n):(bQ sl m f)[i*n+j]?=(sl (f i))[j]?:=by
 induction m with
 | zero=>omega
 | succ m ih=>
  rw[oG];by_cases h:i<m
  ·have:i*n+j<m*n:=by
    calc i*n+j<i*n+n:=by omega
     _=(i+1)*n:=by rw[Nat.add_mul];omega
     _≤m*n:=Nat.mul_le_mul_right _ h
   rw[List.getElem?_append_left (by rw[jf hn];exact this),ih h]
  ·have e:i=m:=by omega
   subst e;rw[List.getElem?_append_right (by rw[jf hn];omega),jf hn,Nat.add_sub_cancel_left]
theorem jm {f g:Nat→α} (h:∀ i,i<m→f i=g i):bQ sl m f=bQ sl m g:=by
 unfold bQ;rw[List.flatMap_def,List.flatMap_def];congr 1;exact List.map_congr_left fun i hi=>by rw[h i (List.mem_range.1 hi)]
theorem Ae (hn:∀ c,(sl c).length=n) (f:Nat→α) (l:List Value) (hl:l.length=m*n) (h:∀ i j,i<m→j<n→l[i*n+j]?=(sl (f i))[j]?):l=bQ sl m f:=by
 apply List.ext_getElem?;intro k;by_cases hk:k<m*n
 ·have hn0:0<n:=Nat.pos_of_ne_zero fun e=>by subst e;omega
  have e:k=(k / n)*n+k % n:=by have:=Nat.div_add_mod k n;rw[Nat.mul_comm] at this;omega
  have h1:k / n<m:=Nat.div_lt_of_lt_mul (by rw[Nat.mul_comm];exact hk);have h2:k % n<n:=Nat.mod_lt _ hn0;rw[e,h _ _ h1 h2,jT hn f h1 h2]
 ·rw[List.getElem?_eq_none (by omega),List.getElem?_eq_none (by rw[jf hn];omega)]
theorem qH (hn:∀ c,(sl c).length=n) (f:Nat→α) {i j:Nat} (x:α) (v:Value) (hi:i<m) (hj:j<n) (hx:sl x=(sl (f i)).set j v):
  (bQ sl m f).set (i*n+j) v=bQ sl m fun k=>if k=i then x else f k:=by
 apply Ae hn
 ·rw[List.length_set,jf hn]
 ·intro a c ha hc;rw[List.getElem?_set,jT hn f ha hc,jf hn];have hlt:i*n+j<m*n:=by
   calc i*n+j<i*n+n:=by omega
    _=(i+1)*n:=by rw[Nat.add_mul];omega
    _≤m*n:=Nat.mul_le_mul_right _ hi
  by_cases e:a=i
  ·subst e;rw[if_pos rfl,hx,List.getElem?_set,hn];by_cases e2:j=c
   ·subst e2;rw[if_pos rfl,if_pos rfl,if_pos hlt,if_pos hj]
   ·rw[if_neg (by omega),if_neg e2]
  ·rw[if_neg e,if_neg];intro h;have h1:i<a∨a<i:=by omega
   rcases h1 with h1 | h1
   ·have:(i+1)*n≤a*n:=Nat.mul_le_mul_right _ h1;rw[Nat.add_mul] at this;omega
   ·have:(a+1)*n≤i*n:=Nat.mul_le_mul_right _ h1;rw[Nat.add_mul] at this;omega
def qL (xs:List Value) (k:Nat):List Value→List Value
 | []=>xs
 | a::r=>qL (xs.set k a) (k+1) r
theorem JL (us xs:List Value) (k:Nat):(qL xs k us).length=xs.length:=by
 induction us generalizing xs k with
 | nil=>rfl
 | cons a r ih=>rw[qL,ih,List.length_set]
theorem JM (us xs:List Value) (k i:Nat) (h:k+us.length≤xs.length):(qL xs k us)[i]?=if k≤i∧i<k+us.length then us[i - k]? else xs[i]?:=by
 induction us generalizing xs k with
 | nil=>rw[qL,if_neg (by simp only[List.length_nil];omega)]
 | cons a r ih=>
  simp only[List.length_cons] at h ⊢;rw[qL,ih _ _ (by rw[List.length_set];omega),List.getElem?_set];by_cases h1:k+1≤i∧i<k+1+r.length
  ·rw[if_pos h1,if_pos (by omega),show i - k=(i - (k+1))+1 from by omega,List.getElem?_cons_succ]
  ·rw[if_neg h1];by_cases h2:k=i
   ·subst h2;rw[if_pos rfl,if_pos (by omega),if_pos (by omega),Nat.sub_self];rfl
   ·rw[if_neg h2,if_neg (by omega)]
theorem BK (hn:∀ c,(sl c).length=n) (f:Nat→α) {i:Nat} (x:α) (hi:i<m):
  qL (bQ sl m f) (i*n) (sl x)=bQ sl m fun k=>if k=i then x else f k:=by
 have hle:i*n+n≤m*n:=by
  calc i*n+n=(i+1)*n:=by rw[Nat.add_mul];omega
   _≤m*n:=Nat.mul_le_mul_right _ hi
 apply Ae hn
 ·rw[JL,jf hn]
 ·intro a c ha hc;rw[JM _ _ _ _ (by rw[hn,jf hn];exact hle),hn,jT hn f ha hc];by_cases e:a=i
  ·subst e;rw[if_pos (by omega),if_pos rfl,Nat.add_sub_cancel_left]
  ·rw[if_neg e,if_neg];rintro⟨h1,h2⟩;have h3:i<a∨a<i:=by omega
   rcases h3 with h3 | h3
   ·have:(i+1)*n≤a*n:=Nat.mul_le_mul_right _ h3;rw[Nat.add_mul] at this;omega
   ·have:(a+1)*n≤i*n:=Nat.mul_le_mul_right _ h3;rw[Nat.add_mul] at this;omega
end
end
section
namespace Tr
open Go Go.RowKit
/-! Neighbours in a list. -/
def fs:List Int→Int
 | []=>0
 | a::_=>a
def nK:List Int→Int→Int
 | [],_=>0
 | a::r,x=>if a=x then fs r else nK r x
def prv (l:List Int) (x:Int):Int:=nK l.reverse x
def dN (l:List Int):Int:=fs l.reverse
theorem ig {l1 l2:List Int} {x:Int} (h:x∉l1):nK (l1++x::l2) x=fs l2:=by
 induction l1 with
 | nil=>simp[nK]
 | cons a r ih=>
  simp only[List.mem_cons,not_or] at h;rw[List.cons_append,nK,if_neg (fun e=>h.1 e.symm),ih h.2]
theorem lT {l1 l2:List Int} {x:Int} (h:x∉l2):prv (l1++x::l2) x=dN l1:=by
 unfold prv dN;rw[List.reverse_append,List.reverse_cons,List.append_assoc];exact ig (by simpa using h)
theorem RB:dN []=0:=rfl
theorem lC (l:List Int) (x:Int):dN (l++[x])=x:=by simp[dN,fs]
theorem lU (l m:List Int) (h:m≠[]):dN (l++m)=dN m:=by
 unfold dN;rw[List.reverse_append];cases e:m.reverse with
 | nil=>exact absurd (List.reverse_eq_nil_iff.1 e) h
 | cons a r=>rfl
theorem CX (l m:List Int) (h:l≠[]):fs (l++m)=fs l:=by cases l with | nil=>exact absurd rfl h | cons a r=>rfl
theorem xu {l:List Int} (h:fs l≠0):fs l∈l:=by cases l with | nil=>exact absurd rfl h | cons a r=>simp[fs]
theorem oI {l:List Int} (h:dN l≠0):dN l∈l:=by have:=xu (l:=l.reverse) h;simpa [dN] using this
theorem tQ {l:List Int} (h0:0∉l) (h:fs l=0):l=[]:=by
 cases l with
 | nil=>rfl
 | cons a r=>simp only[fs] at h;exact absurd (by simp[h]) h0
theorem Af {l:List Int} (h0:0∉l) (h:dN l=0):l=[]:=List.reverse_eq_nil_iff.1 (tQ (by simpa using h0) h)
theorem Em {l:List Int} {x:Int} (h:nK l x≠0):nK l x∈l:=by
 induction l with
 | nil=>exact absurd rfl h
 | cons a r ih=>
  rw[nK] at h ⊢
  split at h
  ·rename_i e;rw[if_pos e];exact List.mem_cons_of_mem _ (xu h)
  ·rename_i e;rw[if_neg e];exact List.mem_cons_of_mem _ (ih h)
theorem K7 {l:List Int} {x:Int} (h:prv l x≠0):prv l x∈l:=by have:=Em (l:=l.reverse) h;simpa [prv] using this
theorem En {l1 l2:List Int} {h y:Int} (hn:(l1++h::l2).Nodup) (h0:0∉l1++h::l2) (hy:y≠h):nK (l1++h::l2) y=if y=dN l1∧y≠0 then h else nK (l1++l2) y:=by
 by_cases hm:y∈l1
 ·obtain⟨a,b,rfl⟩:=List.append_of_mem hm;have hya:y∉a:=fun hx=>by
   have:=(List.nodup_append.1 (List.nodup_append.1 hn).1).2.2 y hx y (by simp);exact this rfl
  have hyb:y∉b:=fun hx=>by
   have:=(List.nodup_append.1 (List.nodup_append.1 hn).1).2.1;exact (List.nodup_cons.1 this).1 hx
  have hyz:y≠0:=fun e=>h0 (by simp[e]);rw[List.append_assoc,List.cons_append,ig hya,List.append_assoc,List.cons_append,ig hya];cases b with
  | nil=>rw[lC,if_pos ⟨rfl,hyz⟩];rfl
  | cons c r=>
   rw[if_neg]
   ·rfl
   ·rintro⟨e,_⟩;rw[show a++y::c::r=(a++[y])++(c::r) from by simp,lU _ _ (by simp)] at e;exact hyb (by rw[e];exact oI (by rw[←e];exact hyz))
 ·have hl:¬ (y=dN l1∧y≠0):=by
   rintro⟨e,hz⟩;exact hm (by rw[e];exact oI (by rw[←e];exact hz))
  rw[if_neg hl];clear hl hn h0
  induction l1 with
  | nil=>rw[List.nil_append,List.nil_append,nK,if_neg (fun e=>hy e.symm)]
  | cons a r ih=>
   simp only[List.mem_cons,not_or] at hm;rw[List.cons_append,List.cons_append,nK,nK,if_neg (fun e=>hm.1 e.symm),if_neg (fun e=>hm.1 e.symm)];exact ih hm.2
theorem RD (l:List Int):dN l.reverse=fs l:=by simp[dN]
theorem K8 {l1 l2:List Int} {h y:Int} (hn:(l1++h::l2).Nodup) (h0:0∉l1++h::l2) (hy:y≠h):prv (l1++h::l2) y=if y=fs l2∧y≠0 then h else prv (l1++l2) y:=by
 unfold prv;have hn':(l2.reverse++h::l1.reverse).Nodup:=by
  have:(l1++h::l2).reverse.Nodup:=List.pairwise_reverse.2 (hn.imp fun a e=>a e.symm)
  rwa [List.reverse_append,List.reverse_cons,List.append_assoc] at this
 have h0':0∉l2.reverse++h::l1.reverse:=fun e=>h0 (by simp at e ⊢;rcases e with e | e | e<;>simp[e]);have:=En hn' h0' hy;rw[RD] at this;rw[List.reverse_append,List.reverse_cons,List.append_assoc,List.reverse_append];exact this
theorem Vl (l1 l2:List Int) (h:Int) (h0:0∉l1):fs (l1++h::l2)=if dN l1=0 then h else fs (l1++l2):=by
 cases l1 with
 | nil=>rfl
 | cons a r=>
  rw[if_neg]
  ·rfl
  ·intro e;have:=Af h0 e;cases this
theorem RF (l1 l2:List Int) (h:Int) (h0:0∉l2):dN (l1++h::l2)=if fs l2=0 then h else dN (l1++l2):=by
 cases l2 with
 | nil=>simp[dN,fs]
 | cons a r=>
  rw[if_neg]
  ·rw[show l1++h::a::r=(l1++[h])++(a::r) from by simp,lU _ _ (by simp),lU _ _ (by simp)]
  ·intro e;have:=tQ h0 e;cases this
theorem xY {l1 l2:List Int} {h:Int} (hn:h∉l1):(l1++h::l2).erase h=l1++l2:=by
 rw[List.erase_append_right _ hn,List.erase_cons_head]
def iw:List Int→Int→Int→List Int
 | [],_,x=>[x]
 | a::r,b,x=>if a=b then x::a::r else a::iw r b x
theorem vv {l:List Int} {b x:Int} (h:b∉l):iw l b x=l++[x]:=by
 induction l with
 | nil=>rfl
 | cons a r ih=>
  simp only[List.mem_cons,not_or] at h;rw[iw,if_neg (fun e=>h.1 e.symm),ih h.2];rfl
theorem uP {l1 l2:List Int} {b x:Int} (h:b∉l1):iw (l1++b::l2) b x=l1++x::b::l2:=by
 induction l1 with
 | nil=>simp[iw]
 | cons a r ih=>
  simp only[List.mem_cons,not_or] at h;rw[List.cons_append,iw,if_neg (fun e=>h.1 e.symm),ih h.2];rfl
theorem JN (l:List Int) (b:Int) (x:Int) (hb:b=0∨b∈l) (h0:0∉l) (hn:l.Nodup):∃ l1 l2,l=l1++l2∧fs l2=b∧iw l b x=l1++x::l2:=by
 rcases hb with rfl | hb
 ·exact⟨l,[],by simp,rfl,vv h0⟩
 ·obtain⟨l1,l2,rfl⟩:=List.append_of_mem hb;have:b∉l1:=fun hx=>(List.nodup_append.1 hn).2.2 b hx b (by simp) rfl;exact⟨l1,b::l2,rfl,rfl,uP this⟩
/-! Trees. -/
structure GN where
 kind:Int
 name:ByteArray
 attrs:List (ByteArray×ByteArray)
 data:ByteArray
 pa:Int
 kids:List Int
abbrev G:=Int→Option GN
def au (g:G) (h:Int):List Int:=match g h with | some n=>n.kids | none=>[]
def dG (g:G) (h:Int):Int:=match g h with | some n=>n.pa | none=>0
theorem aH {g:G} {h:Int} {n:GN} (e:g h=some n):au g h=n.kids:=by unfold au;rw[e]
theorem iE {g:G} {h:Int} (e:g h=none):au g h=[]:=by unfold au;rw[e]
theorem aL {g:G} {h:Int} {n:GN} (e:g h=some n):dG g h=n.pa:=by unfold dG;rw[e]
inductive Up (g:G):Int→List Int→Prop
 | out {h:Int}:g h=none→Up g h []
 | node {h:Int} {n:GN} {l:List Int}:g h=some n→Up g n.pa l→Up g h (h::l)
theorem Up.one {g:G} {h:Int} {l m:List Int} (a:Up g h l) (b:Up g h m):l=m:=by
 induction a generalizing m with
 | out e=>cases b with | out _=>rfl | node e' _=>rw[e] at e';cases e'
 | node e _ ih=>
  cases b with
  | out e'=>rw[e] at e';cases e'
  | node e' b=>rw[e] at e';obtain rfl:=Option.some.inj e';rw[ih b]
theorem Up.mem {g:G} {h x:Int} {l:List Int} (a:Up g h l) (hx:x∈l):(g x).isSome:=by
 induction a with
 | out=>cases hx
 | node e _ ih=>
  rcases List.mem_cons.1 hx with rfl | hx
  ·rw[e];rfl
  ·exact ih hx
structure WF (z:Int) (g:G):Prop where
 zero:g z=none
 up:∀ h n,g h=some n→n.pa≠z→∃ p,g n.pa=some p∧h∈p.kids
 down:∀ h n k,g h=some n→k∈n.kids→∃ m,g k=some m∧m.pa=h
 nodup:∀ h n,g h=some n→n.kids.Nodup
 chain:∀ h,∃ l,Up g h l∧l.length≤128
section
variable {z:Int} {g:G}
theorem WF.pa (w:WF z g) {h:Int} {n:GN} (e:g h=some n):n.pa=z∨∃ p,g n.pa=some p∧h∈p.kids:=by
 by_cases hz:n.pa=z
 ·exact .inl hz
 ·exact .inr (w.up h n e hz)
theorem WF.lq (w:WF z g) {h:Int} {n:GN} (e:g h=some n):z∉n.kids:=fun hz=>by
 obtain⟨m,h1,_⟩:=w.down h n z e hz;rw[w.zero] at h1;cases h1
theorem WF.lD (w:WF z g) (h:Int):(au g h).Nodup:=by
 cases e:g h with
 | none=>rw[iE e];exact List.nodup_nil
 | some n=>rw[aH e];exact w.nodup h n e
theorem WF.mE (w:WF z g) (h:Int):z∉au g h:=by
 cases e:g h with
 | none=>rw[iE e];simp
 | some n=>rw[aH e];exact w.lq e
theorem WF.dO (w:WF z g) {h k:Int} (hk:k∈au g h):∃ m,g k=some m∧m.pa=h:=by
 cases e:g h with
 | none=>rw[iE e] at hk;cases hk
 | some n=>rw[aH e] at hk;exact w.down h n k e hk
theorem WF.tT (w:WF z g) {h:Int} {n:GN} (e:g h=some n) (hp:n.pa≠z):h∈au g n.pa:=by
 obtain⟨p,h1,h2⟩:=w.up h n e hp;rw[aH h1];exact h2
theorem WF.above (_w:WF z g) {h:Int} {n:GN} (e:g h=some n) {l:List Int} (hl:Up g n.pa l):h∉l:=by
 intro hm;have key:∀ (x:Int) (l:List Int),Up g x l→h∈l→∃ l1 l2,l=l1++h::l2:=fun x l _ hm=>List.append_of_mem hm;have len:∀ (x:Int) (l:List Int),Up g x l→∀ l1 l2,l=l1++h::l2→Up g h (h::l2):=by
  intro x l hu
  induction hu with
  | out _=>intro l1 l2 h1;cases l1<;>cases h1
  | @node y m l e' hu ih=>
   intro l1 l2 h1;cases l1 with
   | nil=>
    injection h1 with h1 h2;subst h1 h2;exact .node e' hu
   | cons a r=>
    injection h1 with h1 h2;exact ih r l2 h2
 obtain⟨l1,l2,e1⟩:=key _ _ hl hm;have u1:=len _ _ hl l1 l2 e1;have u2:Up g h (h::l):=.node e hl;have:=u1.one u2;injection this with _ this;have h3:=congrArg List.length this;have h4:=congrArg List.length e1;simp at h4;omega
theorem WF.iO (w:WF z g) {h:Int} {n:GN} (e:g h=some n):n.pa≠h:=by
 intro e1;obtain⟨l,hl,_⟩:=w.chain n.pa;have:=w.above e hl;rw[e1] at hl;cases hl with
 | out e2=>rw[e] at e2;cases e2
 | node _ _=>simp at this
theorem WF.vV (w:WF z g) (h:Int):h∉au g h:=fun hm=>by
 obtain⟨m,h1,h2⟩:=w.dO hm;exact w.iO h1 h2
end
/-! A node's links. -/
structure Sl where
 a:Option Addr
 n:Nat
 c:Nat
abbrev Sl.v (x:Sl):Value:=.slice x.a x.n x.c
structure Nd where
 kind:Int
 name:ByteArray
 av:Sl
 data:ByteArray
 pa:Int
 fi:Int
 la:Int
 pr:Int
 ne:Int
abbrev Bl:Nd:=⟨0,⟨#[]⟩,⟨none,0,0⟩,⟨#[]⟩,0,0,0,0,0⟩
def fA (g:G) (av:Int→Sl) (h:Int) (n:GN):Nd:=⟨n.kind,n.name,av h,n.data,n.pa,fs n.kids,dN n.kids,prv (au g n.pa) h,nK (au g n.pa) h⟩
def raw (g:G) (av:Int→Sl) (h:Int):Option Nd:=(g h).map (fA g av h)
theorem aj {g:G} {av:Int→Sl} {h:Int} {n:GN} (e:g h=some n):raw g av h=some (fA g av h n):=by unfold raw;rw[e];rfl
theorem bG {g:G} {av:Int→Sl} {h:Int} (e:g h=none):raw g av h=none:=by unfold raw;rw[e];rfl
def upd (R:Int→Option Nd) (h:Int) (f:Nd→Nd):Int→Option Nd:=fun x=>if x=h then (R h).map f else R x
def pW (R:Int→Option Nd) (h:Int) (o:Option Nd):Int→Option Nd:=fun x=>if x=h then o else R x
theorem sZ {R:Int→Option Nd} {h:Int} {o:Option Nd}:pW R h o h=o:=if_pos rfl
theorem Eo {R:Int→Option Nd} {h x:Int} {o:Option Nd} (e:x≠h):pW R h o x=R x:=if_neg e
theorem upd_same {R:Int→Option Nd} {h:Int} {f:Nd→Nd}:upd R h f h=(R h).map f:=if_pos rfl
theorem upd_ne {R:Int→Option Nd} {h x:Int} {f:Nd→Nd} (e:x≠h):upd R h f x=R x:=if_neg e
theorem lF {R:Int→Option Nd} {h:Int} {f:Nd→Nd} {n:Nd} (e:R h=some n):upd R h f h=some (f n):=by rw[upd_same,e];rfl
theorem dH {R:Int→Option Nd} {h x:Int} {f:Nd→Nd} (e:R x=none):upd R h f x=none:=by
 unfold upd;split
 ·rename_i e1;subst e1;rw[e];rfl
 ·exact e
def iZ (g:G) (h:Int):G:=fun x=>if x=h then (g h).map fun n=>{ n with pa:=0 } else if x=dG g h then (g x).map fun n=>{ n with kids:=n.kids.erase h } else g x
def bg (g:G) (p h b:Int):G:=fun x=>if x=h then (g h).map fun n=>{ n with pa:=p } else if x=p then (g p).map fun n=>{ n with kids:=iw n.kids b h } else g x
def qh (R:Int→Option Nd) (p h b pv:Int):Int→Option Nd:=
 let R1:=upd R h fun n=>{ n with pa:=p,pr:=pv,ne:=b }
 let R2:=if pv=0 then upd R1 p fun n=>{ n with fi:=h } else upd R1 pv fun n=>{ n with ne:=h }
 if b=0 then upd R2 p fun n=>{ n with la:=h } else upd R2 b fun n=>{ n with pr:=h }
def vW (R:Int→Option Nd) (h pa pr ne:Int):Int→Option Nd:=
 let R1:=if pr=0 then upd R pa fun n=>{ n with fi:=ne } else upd R pr fun n=>{ n with ne:=ne }
 let R2:=if ne=0 then upd R1 pa fun n=>{ n with la:=pr } else upd R1 ne fun n=>{ n with pr:=pr }
 upd R2 h fun n=>{ n with pa:=0,pr:=0,ne:=0 }
end Tr
end
section
namespace Tr
open Go Go.RowKit
section
variable {g:G} {av:Int→Sl} {p h b:Int} {n q:GN}
theorem GI (ep:g p=some q) (hp:h≠p) (y:Int):au (bg g p h b) y=if y=p then iw q.kids b h else au g y:=by
 unfold au bg;by_cases h1:y=h
 ·subst h1;rw[if_pos rfl,if_neg hp];cases g y<;>rfl
 ·rw[if_neg h1];by_cases h2:y=p
  ·subst h2;rw[if_pos rfl,if_pos rfl,ep];rfl
  ·rw[if_neg h2,if_neg h2]
theorem GJ (w:WF 0 g) (eh:g h=some n) (hn:n.pa=0) (ep:g p=some q) (hp:h≠p) (hb:b=0∨b∈q.kids):
  raw (bg g p h b) av=qh (raw g av) p h b (if b=0 then dN q.kids else prv q.kids b):=by
 have hnk:h∉q.kids:=fun hm=>by
  obtain⟨m,h1,h2⟩:=w.down p q h ep hm;rw[eh] at h1;cases h1;rw[hn] at h2;rw[←h2,w.zero] at ep;cases ep
 have hz:h≠0:=fun e=>by rw[e,w.zero] at eh;cases eh
 have h0:=w.lq ep;have hnd:=w.nodup p q ep;obtain⟨l1,l2,e1,e2,e3⟩:=JN q.kids b h hb h0 hnd;have h01:0∉l1:=fun hx=>h0 (by rw[e1];simp[hx]);have h02:0∉l2:=fun hx=>h0 (by rw[e1];simp[hx]);have hpv:(if b=0 then dN q.kids else prv q.kids b)=dN l1:=by
  rw[e1] at hnd ⊢
  split
  ·rename_i hb0;have:l2=[]:=tQ h02 (by rw[e2,hb0]);rw[this,List.append_nil]
  ·rename_i hb0;cases l2 with
   | nil=>exact absurd e2.symm hb0
   | cons c r=>
    simp only[fs] at e2;subst e2;exact lT (List.nodup_cons.1 (List.nodup_append.1 hnd).2.1).1
 rw[hpv];have Vm:h∉l1++l2:=by rw[←e1];exact hnk
 have hnn:(l1++h::l2).Nodup:=by
  rw[e1] at hnd;simp only[List.mem_append,not_or] at Vm;rw[List.nodup_append] at hnd ⊢;refine⟨hnd.1,List.nodup_cons.2 ⟨Vm.2,hnd.2.1⟩,fun a ha c hc=>?_⟩;rcases List.mem_cons.1 hc with rfl | hc
  ·rintro rfl;exact Vm.1 ha
  ·exact hnd.2.2 a ha c hc
 have h0':0∉l1++h::l2:=by
  simp only[List.mem_append,List.mem_cons,not_or];exact⟨h01,fun e=>hz e.symm,h02⟩
 have hpar:∀ y∈l1++l2,∃ m,g y=some m∧m.pa=p:=fun y hy=>w.down p q y ep (by rw[e1];exact hy);have hpp:p∉l1++l2:=fun hy=>by obtain⟨m,h1,h2⟩:=hpar p hy;exact w.iO h1 h2
 have hv1:dN l1≠0→dN l1∈l1++l2:=fun e=>List.mem_append_left _ (oI e);have hv2:b≠0→b∈l1++l2:=fun e=>List.mem_append_right _ (by rw[←e2] at e ⊢;exact xu e);have hk:=GI (b:=b) ep hp;funext x;by_cases hx:x=h
 ·subst hx;have e4:bg g p x b x=some { n with pa:=p }:=by unfold bg;rw[if_pos rfl,eh];rfl
  have n1:dN l1≠0→x≠dN l1:=fun e e'=>Vm (e'▸hv1 e);have n2:b≠0→x≠b:=fun e e'=>Vm (e'▸hv2 e);have e5:qh (raw g av) p x b (dN l1) x=some { fA g av x n with pa:=p,pr:=dN l1,ne:=b }:=by
   unfold qh;by_cases c1:dN l1=0<;>by_cases c2:b=0
   ·simp only[if_pos c1,if_pos c2];rw[upd_ne hp,upd_ne hp,lF (aj eh)]
   ·simp only[if_pos c1,if_neg c2];rw[upd_ne (n2 c2),upd_ne hp,lF (aj eh)]
   ·simp only[if_neg c1,if_pos c2];rw[upd_ne hp,upd_ne (n1 c1),lF (aj eh)]
   ·simp only[if_neg c1,if_neg c2];rw[upd_ne (n2 c2),upd_ne (n1 c1),lF (aj eh)]
  rw[e5,aj e4];unfold fA;simp only;rw[hk p,if_pos rfl,e3,lT (fun hm=>Vm (List.mem_append_right _ hm)),ig (fun hm=>Vm (List.mem_append_left _ hm)),e2]
 ·by_cases hxp:x=p
  ·subst hxp;have e4:bg g x h b x=some { q with kids:=l1++h::l2 }:=by unfold bg;rw[if_neg hx,if_pos rfl,ep,←e3];rfl
   have n1:dN l1≠0→x≠dN l1:=fun e e'=>hpp (e'▸hv1 e);have n2:b≠0→x≠b:=fun e e'=>hpp (e'▸hv2 e);have e5:qh (raw g av) x h b (dN l1) x=some { fA g av x q with fi:=if dN l1=0 then h else fs q.kids,la:=if b=0 then h else dN q.kids }:=by
    unfold qh;by_cases c1:dN l1=0<;>by_cases c2:b=0
    ·simp only[if_pos c1,if_pos c2];rw[upd_same,upd_same,upd_ne hx,aj ep];rfl
    ·simp only[if_pos c1,if_neg c2];rw[upd_ne (n2 c2),upd_same,upd_ne hx,aj ep];rfl
    ·simp only[if_neg c1,if_pos c2];rw[upd_same,upd_ne (n1 c1),upd_ne hx,aj ep];rfl
    ·simp only[if_neg c1,if_neg c2];rw[upd_ne (n2 c2),upd_ne (n1 c1),upd_ne hx,aj ep];rfl
   rw[e5,aj e4];unfold fA;simp only;rw[hk q.pa,if_neg (w.iO ep),Vl _ _ _ h01,RF _ _ _ h02,e2,←e1]
  ·have e4:bg g p h b x=g x:=by unfold bg;rw[if_neg hx,if_neg hxp]
   cases ex:g x with
   | none=>
    have e5:qh (raw g av) p h b (dN l1) x=none:=by
     unfold qh;by_cases c1:dN l1=0<;>by_cases c2:b=0
     ·simp only[if_pos c1,if_pos c2];exact dH (dH (dH (bG ex)))
     ·simp only[if_pos c1,if_neg c2];exact dH (dH (dH (bG ex)))
     ·simp only[if_neg c1,if_pos c2];exact dH (dH (dH (bG ex)))
     ·simp only[if_neg c1,if_neg c2];exact dH (dH (dH (bG ex)))
    rw[e5,bG (e4.trans ex)]
   | some m=>
    rw[aj (e4.trans ex)];have hz:x≠0:=fun e=>by rw[e,w.zero] at ex;cases ex
    have pm:∀ y∈l1++l2,x=y→m.pa=p:=fun y hy e=>by obtain⟨m',h1,h2⟩:=hpar y hy;rw[←e,ex] at h1;cases h1;exact h2
    have e5:qh (raw g av) p h b (dN l1) x=some { fA g av x m with pr:=if x=b then h else prv (au g m.pa) x,ne:=if x=dN l1 then h else nK (au g m.pa) x }:=by
     have key:∀ (c:Int) (R:Int→Option Nd) (d:Nd) (f k:Nd→Nd),R x=some d→(if c=0 then upd R p k else upd R c f) x=some (if x=c then f d else d):=by
      intro c R d f k e;by_cases c1:c=0
      ·rw[if_pos c1,if_neg (fun e=>hz (e.trans c1)),upd_ne hxp,e]
      ·rw[if_neg c1];by_cases c2:x=c
       ·subst c2;rw[if_pos rfl,lF e]
       ·rw[if_neg c2,upd_ne c2,e]
     unfold qh;simp only;rw[key b _ _ _ _ (key (dN l1) _ _ _ _ ((upd_ne hx).trans (aj ex)))];by_cases c1:x=dN l1<;>by_cases c2:x=b
     ·simp only[if_pos c1,if_pos c2]<;>rfl
     ·simp only[if_pos c1,if_neg c2]<;>rfl
     ·simp only[if_neg c1,if_pos c2]<;>rfl
     ·simp only[if_neg c1,if_neg c2]<;>rfl
    rw[e5];unfold fA;simp only;rw[hk m.pa];by_cases c:m.pa=p
    ·rw[if_pos c,e3,c,K8 hnn h0' hx,En hnn h0' hx,e2,aH ep,←e1];simp[hz]
    ·rw[if_neg c,if_neg (fun e=>c (pm _ (hv2 (by rw[←e];exact hz)) e)),if_neg (fun e=>c (pm _ (hv1 (by rw[←e];exact hz)) e))]
theorem JO (y:Int) (hp:h≠dG g h):au (iZ g h) y=if y=dG g h then (au g y).erase h else au g y:=by
 unfold au iZ;by_cases h1:y=h
 ·subst h1;rw[if_pos rfl,if_neg hp];cases g y<;>rfl
 ·rw[if_neg h1];by_cases h2:y=dG g h
  ·subst h2;rw[if_pos rfl,if_pos rfl];cases g (dG g h)<;>rfl
  ·rw[if_neg h2,if_neg h2]
theorem K9 (w:WF 0 g) (eh:g h=some n) (hn:n.pa≠0):
  raw (iZ g h) av=vW (raw g av) h n.pa (prv (au g n.pa) h) (nK (au g n.pa) h):=by
 obtain⟨q,ep,hk⟩:=w.up h n eh hn;have ND:=aL eh;obtain⟨p,hpe⟩:=eX (n.pa)
 have hps:h≠p:=fun e=>w.iO eh (hpe.trans e.symm);rw[hpe] at hn ep ND ⊢;have hq:=aH ep;obtain⟨l1,l2,e1⟩:=List.append_of_mem hk;have hnn:=w.nodup p q ep;have h0':=w.lq ep;have hpar:∀ y∈q.kids,∃ m,g y=some m∧m.pa=p:=fun y hy=>w.down p q y ep hy;have hpp:p∉q.kids:=fun hy=>by obtain⟨m,h1,h2⟩:=hpar p hy;exact w.iO h1 h2
 rw[hq];rw[e1] at hnn h0';have h1n:h∉l1:=fun hx=>(List.nodup_append.1 hnn).2.2 h hx h (by simp) rfl;have h2n:h∉l2:=(List.nodup_cons.1 (List.nodup_append.1 hnn).2.1).1;have h01:0∉l1:=fun hx=>h0' (by simp[hx]);have h02:0∉l2:=fun hx=>h0' (by simp[hx]);rw[e1,lT h2n,ig h1n];have hv1:dN l1≠0→dN l1∈l1:=fun e=>oI e;have hv2:fs l2≠0→fs l2∈l2:=fun e=>xu e;have m1:∀ y∈l1,y∈q.kids:=fun y hy=>by rw[e1];simp[hy]
 have m2:∀ y∈l2,y∈q.kids:=fun y hy=>by rw[e1];simp[hy]
 have hkk:=fun y=>JO (g:=g) (h:=h) y (by rw[ND];exact hps);rw[ND] at hkk;have hke:q.kids.erase h=l1++l2:=by rw[e1];exact xY h1n
 funext x;by_cases hx:x=h
 ·subst hx;have e4:iZ g x x=some { n with pa:=0 }:=by unfold iZ;rw[if_pos rfl,eh];rfl
  have n1:dN l1≠0→x≠dN l1:=fun e e'=>h1n (e'▸hv1 e);have n2:fs l2≠0→x≠fs l2:=fun e e'=>h2n (e'▸hv2 e);have e5:vW (raw g av) x p (dN l1) (fs l2) x=some { fA g av x n with pa:=0,pr:=0,ne:=0 }:=by
   unfold vW;simp only;rw[upd_same];by_cases c1:dN l1=0<;>by_cases c2:fs l2=0
   ·simp only[if_pos c1,if_pos c2];rw[upd_ne hps,upd_ne hps,aj eh];rfl
   ·simp only[if_pos c1,if_neg c2];rw[upd_ne (n2 c2),upd_ne hps,aj eh];rfl
   ·simp only[if_neg c1,if_pos c2];rw[upd_ne hps,upd_ne (n1 c1),aj eh];rfl
   ·simp only[if_neg c1,if_neg c2];rw[upd_ne (n2 c2),upd_ne (n1 c1),aj eh];rfl
  rw[e5,aj e4];unfold fA;simp only;have e6:au (iZ g x) 0=[]:=by rw[hkk 0,if_neg (fun e=>hn e.symm)];exact iE w.zero
  rw[e6];rfl
 ·by_cases hxp:x=p
  ·subst hxp;have e4:iZ g h x=some { q with kids:=l1++l2 }:=by unfold iZ;rw[if_neg hx,if_pos ND.symm,ep,←hke];rfl
   have n1:dN l1≠0→x≠dN l1:=fun e e'=>hpp (m1 _ (e'▸hv1 e));have n2:fs l2≠0→x≠fs l2:=fun e e'=>hpp (m2 _ (e'▸hv2 e));have e5:vW (raw g av) h x (dN l1) (fs l2) x=some { fA g av x q with fi:=if dN l1=0 then fs l2 else fs q.kids,la:=if fs l2=0 then dN l1 else dN q.kids }:=by
    unfold vW;simp only;rw[upd_ne hx];by_cases c1:dN l1=0<;>by_cases c2:fs l2=0
    ·simp only[if_pos c1,if_pos c2];rw[upd_same,upd_same,aj ep];rfl
    ·simp only[if_pos c1,if_neg c2];rw[upd_ne (n2 c2),upd_same,aj ep];rfl
    ·simp only[if_neg c1,if_pos c2];rw[upd_same,upd_ne (n1 c1),aj ep];rfl
    ·simp only[if_neg c1,if_neg c2];rw[upd_ne (n2 c2),upd_ne (n1 c1),aj ep];rfl
   rw[e5,aj e4];unfold fA;simp only;rw[hkk q.pa,if_neg (w.iO ep),e1];have f1:fs (l1++l2)=if dN l1=0 then fs l2 else fs (l1++h::l2):=by
    by_cases c1:dN l1=0
    ·rw[if_pos c1,Af h01 c1];rfl
    ·rw[if_neg c1,CX _ _ (fun e=>c1 (by rw[e];rfl)),CX _ _ (fun e=>c1 (by rw[e];rfl))]
   have f2:dN (l1++l2)=if fs l2=0 then dN l1 else dN (l1++h::l2):=by
    by_cases c2:fs l2=0
    ·rw[if_pos c2,tQ h02 c2,List.append_nil]
    ·have hne:l2≠[]:=fun e=>c2 (by rw[e];rfl);rw[if_neg c2,lU _ _ hne,show l1++h::l2=(l1++[h])++l2 from by simp,lU _ _ hne]
   rw[f1,f2]
  ·have e4:iZ g h x=g x:=by unfold iZ;rw[if_neg hx,if_neg (by rw[ND];exact hxp)]
   cases ex:g x with
   | none=>
    have e5:vW (raw g av) h p (dN l1) (fs l2) x=none:=by
     unfold vW;refine dH ?_;by_cases c1:dN l1=0<;>by_cases c2:fs l2=0
     ·simp only[if_pos c1,if_pos c2];exact dH (dH (bG ex))
     ·simp only[if_pos c1,if_neg c2];exact dH (dH (bG ex))
     ·simp only[if_neg c1,if_pos c2];exact dH (dH (bG ex))
     ·simp only[if_neg c1,if_neg c2];exact dH (dH (bG ex))
    rw[e5,bG (e4.trans ex)]
   | some m=>
    rw[aj (e4.trans ex)];have hz:x≠0:=fun e=>by rw[e,w.zero] at ex;cases ex
    have pm:∀ y∈q.kids,x=y→m.pa=p:=fun y hy e=>by obtain⟨m',h1,h2⟩:=hpar y hy;rw[←e,ex] at h1;cases h1;exact h2
    have e5:vW (raw g av) h p (dN l1) (fs l2) x=some { fA g av x m with pr:=if x=fs l2 then dN l1 else prv (au g m.pa) x,ne:=if x=dN l1 then fs l2 else nK (au g m.pa) x }:=by
     have key:∀ (c:Int) (R:Int→Option Nd) (d:Nd) (f k:Nd→Nd),R x=some d→(if c=0 then upd R p k else upd R c f) x=some (if x=c then f d else d):=by
      intro c R d f k e;by_cases c1:c=0
      ·rw[if_pos c1,if_neg (fun e=>hz (e.trans c1)),upd_ne hxp,e]
      ·rw[if_neg c1];by_cases c2:x=c
       ·subst c2;rw[if_pos rfl,lF e]
       ·rw[if_neg c2,upd_ne c2,e]
     unfold vW;simp only;rw[upd_ne hx,key (fs l2) _ _ _ _ (key (dN l1) _ _ _ _ (aj ex))];by_cases c1:x=dN l1<;>by_cases c2:x=fs l2
     ·simp only[if_pos c1,if_pos c2]<;>rfl
     ·simp only[if_pos c1,if_neg c2]<;>rfl
     ·simp only[if_neg c1,if_pos c2]<;>rfl
     ·simp only[if_neg c1,if_neg c2]<;>rfl
    rw[e5];unfold fA;simp only;rw[hkk m.pa];by_cases c:m.pa=p
    ·rw[if_pos c,c,hq,hke,e1,K8 hnn h0' hx,En hnn h0' hx];have a1:nK (l1++l2) x=if x=dN l1 then fs l2 else if x=dN l1∧x≠0 then h else nK (l1++l2) x:=by
      by_cases d:x=dN l1
      ·rw[if_pos d];have hm:dN l1∈l1:=oI (by rw[←d];exact hz);obtain⟨a,c,e⟩:=List.append_of_mem hm;have hl:l1.Nodup:=(List.nodup_append.1 hnn).1;have hc:c=[]:=by
        cases c with
        | nil=>rfl
        | cons y r=>
         rw[e,show a++dN l1::y::r=(a++[dN l1])++(y::r) from by simp] at hl;have h3:dN l1∈y::r:=by
          have:dN l1=dN (y::r):=by
           have:=lU (a++[dN l1]) (y::r) (by simp);rw[←this,show (a++[dN l1])++(y::r)=a++dN l1::y::r from by simp,←e]
          rw[this];exact oI (by rw[←this,←d];exact hz)
         exact absurd rfl ((List.nodup_append.1 hl).2.2 (dN l1) (by simp) (dN l1) h3)
       rw[hc] at e;have ha:dN l1∉a:=fun hx=>by
        rw[e] at hl;exact (List.nodup_append.1 hl).2.2 _ hx _ (by simp) rfl
       rw[d]
       conv=>lhs;arg 1;rw[e]
       rw[List.append_assoc];exact ig ha
      ·rw[if_neg d,if_neg (fun e=>d e.1)]
     have a2:prv (l1++l2) x=if x=fs l2 then dN l1 else if x=fs l2∧x≠0 then h else prv (l1++l2) x:=by
      by_cases d:x=fs l2
      ·rw[if_pos d];cases l2 with
       | nil=>exact absurd d hz
       | cons y r=>
        have d':x=y:=d;subst d';exact lT (List.nodup_cons.1 (List.nodup_cons.1 (List.nodup_append.1 hnn).2.1).2).1
      ·rw[if_neg d,if_neg (fun e=>d e.1)]
     rw[←a1,←a2]
    ·rw[if_neg c,if_neg (fun e=>c (pm _ (m2 _ (hv2 (by rw[←e];exact hz))) e)),if_neg (fun e=>c (pm _ (m1 _ (hv1 (by rw[←e];exact hz))) e))]
end
end Tr
end
section
open Go Go.RowKit
def DL (x:Bool×Tr.Nd):List Value:=[.bool x.1,.int .i64 x.2.kind,.string x.2.name,x.2.av.v,.string x.2.data,.int .i64 x.2.pa,.int .i64 x.2.fi,.int .i64 x.2.la,.int .i64 x.2.pr,.int .i64 x.2.ne]
theorem Ep:∀ c,(DL c).length=10:=fun _=>rfl
abbrev QO (d:Tr.Nd):Value:=.agg #[.int .i64 d.kind,.string d.name,.slice d.av.a d.av.n d.av.c,.string d.data,.int .i64 d.pa,.int .i64 d.fi,.int .i64 d.la,.int .i64 d.pr,.int .i64 d.ne]
abbrev TP (d:Tr.Nd):Array Value:=#[.int .i64 d.kind,.string d.name,.slice d.av.a d.av.n d.av.c,.string d.data,.int .i64 d.pa,.int .i64 d.fi,.int .i64 d.la,.int .i64 d.pr,.int .i64 d.ne]
def so (o:Option Tr.Nd):Bool×Tr.Nd:=match o with | some d=>(true,d) | none=>(false,Tr.Bl)
def mU (b s:Int) (n:Nat) (R:Int→Option Tr.Nd):List Value:=bQ DL n fun i=>so (R (Ar.hdl b s (i:Int)))
theorem yX {b s:Int} {i j:Nat} (hi:i≤100000) (hj:j≤100000) (e:Ar.hdl b s (i:Int)=Ar.hdl b s (j:Int)):i=j:=by
 have h1:=Ar.nX b s i (by omega) (by omega);have h2:=Ar.nX b s j (by omega) (by omega);rw[e,h2] at h1;omega
theorem oD {b s:Int} {i:Nat} (hi:i≤100000):1≤Ar.hdl b s (i:Int)∧Ar.hdl b s (i:Int)≤2147483648000:=by
 have h1:=Ar.Mv b s i;have h2:=Ar.nG b;have h3:=Ar.Ej s i (by omega) (by omega);unfold Ar.hdl at h1 ⊢;rw[if_neg (by omega)] at h1 ⊢;omega
structure Sound (b s:Int) (n:Nat) (R:Int→Option Tr.Nd) (fr:List Nat) (live:Nat):Prop where
 dom:∀ h,(R h).isSome→∃ i:Nat,i<n∧Ar.hdl b s (i:Int)=h
 nodup:fr.Nodup
 free:∀ i∈fr,i<n∧R (Ar.hdl b s (i:Int))=none
 count:live+fr.length=n
 le:n≤100000
theorem Sound.out {b s:Int} {n:Nat} {R:Int→Option Tr.Nd} {fr:List Nat} {live:Nat} (h:Sound b s n R fr live) {i:Nat} (hi:n≤i) (hi2:i≤100000):R (Ar.hdl b s (i:Int))=none:=by
 cases e:R (Ar.hdl b s (i:Int)) with
 | none=>rfl
 | some d=>
  obtain⟨j,h1,h2⟩:=h.dom _ (by rw[e];rfl);have:=yX (by have:=h.le;omega) hi2 h2;omega
theorem Sound.zero {b s:Int} {n:Nat} {R:Int→Option Tr.Nd} {fr:List Nat} {live:Nat} (h:Sound b s n R fr live) {x:Int} (hx:x≤0):R x=none:=by
 cases e:R x with
 | none=>rfl
 | some d=>
  obtain⟨j,h1,h2⟩:=h.dom x (by rw[e];rfl);have:=(oD (b:=b) (s:=s) (i:=j) (by have:=h.le;omega)).1;omega
theorem Sound.idx {b s:Int} {n:Nat} {R:Int→Option Tr.Nd} {fr:List Nat} {live:Nat} (h:Sound b s n R fr live) (x:Int):
  (∃ i:Nat,Ar.idx b s x=i∧i<n∧Ar.hdl b s (i:Int)=x)∨(R x=none∧(Ar.idx b s x<0∨(0≤Ar.idx b s x∧(n:Int)≤Ar.idx b s x))):=by
 have hr:=Ar.CU b s x;by_cases h1:Ar.idx b s x = -1
 ·refine .inr ⟨?_,.inl (by omega)⟩;cases e:R x with
  | none=>rfl
  | some d=>
   obtain⟨j,h2,h3⟩:=h.dom x (by rw[e];rfl);have:=Ar.nX b s j (by omega) (by have:=h.le;omega);rw[h3] at this;omega
 ·obtain⟨h2,h3,h4⟩:=Ar.zZ b s x h1;by_cases h5:Ar.idx b s x<n
  ·exact .inl ⟨(Ar.idx b s x).toNat,by omega,by omega,by rw[Int.toNat_of_nonneg h2];exact h4⟩
  ·refine .inr ⟨?_,.inr ⟨h2,by omega⟩⟩;cases e:R x with
   | none=>rfl
   | some d=>
    obtain⟨j,h6,h7⟩:=h.dom x (by rw[e];rfl);have:=Ar.nX b s j (by omega) (by have:=h.le;omega);rw[h7] at this;omega
structure TV (base:Nat) (w:World) (B:Nat) (b s:Int) (vs:Value) (n:Nat) (R:Int→Option Tr.Nd) (vf:Value) (fr:List Nat) (live:Nat) (root:Int):Prop where
 var:Whole w B #[.int .i64 b,.int .i64 s,vs,vf,.int .i64 live,.int .i64 root] 66
 low:base≤B
 row:w.ownsRow base 131 10 vs n (mU b s n R)
 free:w.ownsRow base 3 1 vf fr.length (nums fr)
def aD (B:Nat) (vs vf:Value):Nat→Prop:=fun k=>k=B∨vs.ownBlock=some k∨vf.ownBlock=some k
section
variable {base B n live:Nat} {w w1 w5:World} {b s root:Int} {vs vf v5:Value} {R:Int→Option Tr.Nd} {fr fr':List Nat}
theorem TV.lt (h:TV base w B b s vs n R vf fr live root):∀ k,aD B vs vf k→base≤k∧k<w.heap.size:=by
 rintro k (rfl | hk | hk)
 ·exact⟨h.low,h.var.lt⟩
 ·exact h.row.lt k hk
 ·exact h.free.lt k hk
theorem TV.turns {S:Nat→Prop} (h:TV base w B b s vs n R vf fr live root) (ht:Turns S w w1) (hn:∀ k,aD B vs vf k→¬ S k):TV base w1 B b s vs n R vf fr live root:=
 ⟨h.var.turns ht (hn B (.inl rfl)),h.low,bW h.row ht (fun k hk=>hn k (.inr (.inl hk))),bW h.free ht (fun k hk=>hn k (.inr (.inr hk)))⟩
theorem TV.below (h:TV base w B b s vs n R vf fr live root) (hb:Below w.heap.size w w1):TV base w1 B b s vs n R vf fr live root:=
 h.turns (S:=fun _=>False) (.of_below hb) (fun _ _=>id)
theorem TV.cells (h:TV base w B b s vs n R vf fr live root):w.cell? ⟨B,0,none⟩=some (.int .i64 b)∧w.cell? ⟨B,1,none⟩=some (.int .i64 s)∧w.cell? ⟨B,2,none⟩=some vs∧w.cell? ⟨B,3,none⟩=some vf∧w.cell? ⟨B,4,none⟩=some (.int .i64 live)∧w.cell? ⟨B,5,none⟩=some (.int .i64 root):=
 ⟨h.var.cell 0,h.var.cell 1,h.var.cell 2,h.var.cell 3,h.var.cell 4,h.var.cell 5⟩
theorem TV.slices (h:TV base w B b s vs n R vf fr live root):∃ A c A' c',vs=.slice A n c∧vf=.slice A' fr.length c':=by
 obtain⟨A,c,e⟩:=aF (aG h.row);obtain⟨A',c',e'⟩:=aF (aG h.free);exact⟨A,c,A',c',e,e'⟩
theorem TV.JQ (h:TV base w B b s vs n R vf fr live root) (h1:Below w.heap.size w w1) (g:w1.grownBy w5 vs.ownBlock) (o:w5.ownsRow base 131 10 v5 (n+1) (mU b s (n+1) R)) (f:mV w1 vs v5):
  Whole w5 B #[.int .i64 b,.int .i64 s,vs,vf,.int .i64 live,.int .i64 root] 66∧TV base (w5.setCell ⟨B,2,none⟩ v5) B b s v5 (n+1) R vf fr live root∧aB w (w5.setCell ⟨B,2,none⟩ v5) (aD B vs vf) (aD B v5 vf):=by
 obtain⟨k1,k2,k3,k4⟩:=h.below h1;have t1:(131:TypeId)≠66:=by decide
 have t2:(3:TypeId)≠66:=by decide
 have t3:(3:TypeId)≠131:=by decide
 have hW:Whole w5 B #[.int .i64 b,.int .i64 s,vs,vf,.int .i64 live,.int .i64 root] 66:=k1.grown g (fun e=>bA k3 k1 t1 e.symm);have hvf:=k4.kept g (own_ne k4 k3 t3);have gp:w5.grownBy (w5.setCell ⟨B,2,none⟩ v5) (some B):=aO (ay (Below.refl w5.heap.size w5) _) 2 v5;have o':=o.kept gp (.inr (bA o hW t1));have aa5:=hvf.kept gp (.inr (bA hvf hW t2));refine⟨hW,⟨hW.put 2 v5,k2,o',aa5⟩,?_,?_⟩
 ·have a1:Turns (aD B vs vf) w w1:=.of_below h1;have a2:Turns (aD B vs vf) w1 w5:=.aT g (fun k hk=>.inr (.inl hk));have a3:Turns (aD B vs vf) w5 (w5.setCell ⟨B,2,none⟩ v5):=.aT gp (fun k hk=>.inl (by simpa using hk.symm));exact (a1.trans a2 (fun _ _ x=>x) (fun _ _ x=>x)).trans a3 (fun _ _ x=>x) (fun _ _ x=>x)
 ·rintro k hk (rfl | hx | hx)
  ·exact .inl rfl
  ·rcases f with f | f
   ·exact .inr (.inl (f▸hx))
   ·exact absurd (Nat.lt_of_lt_of_le hk h1.size) (Nat.not_lt.2 (f k hx))
  ·exact .inr (.inr hx)
theorem TV.Cn (h:TV base w B b s vs n R vf fr live root) (h1:Below w.heap.size w w1) (g:w1.grownBy w5 vf.ownBlock) (o:w5.ownsRow base 3 1 v5 fr'.length (nums fr')) (f:mV w1 vf v5):
  Whole w5 B #[.int .i64 b,.int .i64 s,vs,vf,.int .i64 live,.int .i64 root] 66∧TV base (w5.setCell ⟨B,3,none⟩ v5) B b s vs n R v5 fr' live root∧aB w (w5.setCell ⟨B,3,none⟩ v5) (aD B vs vf) (aD B vs v5):=by
 obtain⟨k1,k2,k3,k4⟩:=h.below h1;have t1:(131:TypeId)≠66:=by decide
 have t2:(3:TypeId)≠66:=by decide
 have t3:(3:TypeId)≠131:=by decide
 have hW:Whole w5 B #[.int .i64 b,.int .i64 s,vs,vf,.int .i64 live,.int .i64 root] 66:=k1.grown g (fun e=>bA k4 k1 t2 e.symm);have hvs:=k3.kept g (own_ne k3 k4 t3.symm);have gp:w5.grownBy (w5.setCell ⟨B,3,none⟩ v5) (some B):=aO (ay (Below.refl w5.heap.size w5) _) 3 v5;have o':=o.kept gp (.inr (bA o hW t2));have aa6:=hvs.kept gp (.inr (bA hvs hW t1));refine⟨hW,⟨hW.put 3 v5,k2,aa6,o'⟩,?_,?_⟩
 ·have a1:Turns (aD B vs vf) w w1:=.of_below h1;have a2:Turns (aD B vs vf) w1 w5:=.aT g (fun k hk=>.inr (.inr hk));have a3:Turns (aD B vs vf) w5 (w5.setCell ⟨B,3,none⟩ v5):=.aT gp (fun k hk=>.inl (by simpa using hk.symm));exact (a1.trans a2 (fun _ _ x=>x) (fun _ _ x=>x)).trans a3 (fun _ _ x=>x) (fun _ _ x=>x)
 ·rintro k hk (rfl | hx | hx)
  ·exact .inl rfl
  ·exact .inr (.inl hx)
  ·rcases f with f | f
   ·exact .inr (.inr (f▸hx))
   ·exact absurd (Nat.lt_of_lt_of_le hk h1.size) (Nat.not_lt.2 (f k hx))
theorem TV.counted (h:TV base w B b s vs n R vf fr live root) (aW:Nat) (z:Int) (hz:z=(aW:Int)):
  TV base (w.setCell ⟨B,4,none⟩ (.int .i64 z)) B b s vs n R vf fr aW root∧aB w (w.setCell ⟨B,4,none⟩ (.int .i64 z)) (aD B vs vf) (aD B vs vf):=by
 subst hz;have gp:w.grownBy (w.setCell ⟨B,4,none⟩ (.int .i64 aW)) (some B):=aO (ay (Below.refl w.heap.size w) _) 4 _;exact⟨⟨h.var.put 4 _,h.low,h.row.kept gp (.inr (bA h.row h.var (by decide))),h.free.kept gp (.inr (bA h.free h.var (by decide)))⟩,.p9 (.aT gp (fun k hk=>.inl (by simpa using hk.symm)))⟩
theorem TV.rooted (h:TV base w B b s vs n R vf fr live root) (root':Int):
  TV base (w.setCell ⟨B,5,none⟩ (.int .i64 root')) B b s vs n R vf fr live root'∧aB w (w.setCell ⟨B,5,none⟩ (.int .i64 root')) (aD B vs vf) (aD B vs vf):=by
 have gp:w.grownBy (w.setCell ⟨B,5,none⟩ (.int .i64 root')) (some B):=aO (ay (Below.refl w.heap.size w) _) 5 _;exact⟨⟨h.var.put 5 _,h.low,h.row.kept gp (.inr (bA h.row h.var (by decide))),h.free.kept gp (.inr (bA h.free h.var (by decide)))⟩,.p9 (.aT gp (fun k hk=>.inl (by simpa using hk.symm)))⟩
def storeAll (w:World) (g k:Nat):List Value→World
 | []=>w
 | a::r=>storeAll (w.setCell ⟨g,k,none⟩ a) g (k+1) r
theorem Er {e:TypeId} {size g c n:Nat} (us:List Value):∀ {w:World} {k:Nat} {xs:List Value},w.ownsRow base e size (.slice (some ⟨g,0,none⟩) n c) n xs→
  (storeAll w g k us).ownsRow base e size (.slice (some ⟨g,0,none⟩) n c) n (qL xs k us)∧w.grownBy (storeAll w g k us) (some g):=by
 induction us with
 | nil=>intro w k xs h;exact⟨h,ay (Below.refl w.heap.size w) _⟩
 | cons a r ih=>
  intro w k xs h;obtain⟨o,gp⟩:=h.stored k a;obtain⟨o2,gp2⟩:=ih (k:=k+1) o;exact⟨o2,Gz gp gp2⟩
theorem TV.stored {g c:Nat} {R':Int→Option Tr.Nd} {w':World} (h:TV base w B b s (.slice (some ⟨g,0,none⟩) n c) n R vf fr live root)
  (o:w'.ownsRow base 131 10 (.slice (some ⟨g,0,none⟩) n c) n (mU b s n R')) (gp:w.grownBy w' (some g)):
  TV base w' B b s (.slice (some ⟨g,0,none⟩) n c) n R' vf fr live root∧aB w w' (aD B (.slice (some ⟨g,0,none⟩) n c) vf) (aD B (.slice (some ⟨g,0,none⟩) n c) vf):=by
 have hne:=bA h.row h.var (by decide);have hk4:=own_ne h.free h.row (by decide);exact⟨⟨h.var.grown gp (fun e=>hne (by simpa [Value.ownBlock] using e.symm)),h.low,o,h.free.kept gp (by simpa [Value.ownBlock] using hk4)⟩,.p9 (.aT gp (fun k hk=>.inr (.inl (by simpa [Value.ownBlock] using hk))))⟩
theorem RG (d:Tr.Nd):so (some d)=(true,d):=rfl
theorem TV.FB {g c:Nat} {i:Nat} {o:Option Tr.Nd} (h:TV base w B b s (.slice (some ⟨g,0,none⟩) n c) n R vf fr live root) (hi:i<n) (hn:n≤100000) {w':World} (hw:storeAll w g (i*10) (DL (so o))=w'):
  TV base w' B b s (.slice (some ⟨g,0,none⟩) n c) n (Tr.pW R (Ar.hdl b s (i:Int)) o) vf fr live root∧aB w w' (aD B (.slice (some ⟨g,0,none⟩) n c) vf) (aD B (.slice (some ⟨g,0,none⟩) n c) vf):=by
 obtain⟨o1,g1⟩:=Er (DL (so o)) (k:=i*10) h.row;rw[hw] at o1 g1;refine h.stored ?_ g1;have e:qL (mU b s n R) (i*10) (DL (so o))=mU b s n (Tr.pW R (Ar.hdl b s (i:Int)) o):=by
  unfold mU;rw[BK Ep _ _ hi];refine jm fun j hj=>?_;by_cases e:j=i
  ·subst e;rw[if_pos rfl,Tr.sZ]
  ·rw[if_neg e,Tr.Eo (fun e'=>e (yX (by omega) (by omega) e'))]
 rw[←e];exact o1
theorem TV.Mx {g c:Nat} {i j:Nat} {d d':Tr.Nd} {v:Value} (h:TV base w B b s (.slice (some ⟨g,0,none⟩) n c) n R vf fr live root) (hi:i<n) (hn:n≤100000) (hj:j<10) (hd:R (Ar.hdl b s (i:Int))=some d) (f:Tr.Nd→Tr.Nd) (hf:f d=d') (hv:DL (true,d')=(DL (true,d)).set j v):
  TV base (w.setCell ⟨g,i*10+j,none⟩ v) B b s (.slice (some ⟨g,0,none⟩) n c) n (Tr.upd R (Ar.hdl b s (i:Int)) f) vf fr live root∧aB w (w.setCell ⟨g,i*10+j,none⟩ v) (aD B (.slice (some ⟨g,0,none⟩) n c) vf) (aD B (.slice (some ⟨g,0,none⟩) n c) vf):=by
 obtain⟨o1,g1⟩:=h.row.stored (i*10+j) v;refine h.stored ?_ g1;have e:(mU b s n R).set (i*10+j) v=mU b s n (Tr.upd R (Ar.hdl b s (i:Int)) f):=by
  unfold mU;rw[qH Ep _ (true,d') v hi hj (by rw[hd];exact hv)];refine jm fun k hk=>?_;by_cases e:k=i
  ·subst e;rw[if_pos rfl,Tr.lF hd,hf];rfl
  ·rw[if_neg e,Tr.upd_ne (fun e'=>e (yX (by omega) (by omega) e'))]
 rw[←e];exact o1
theorem TV.slot {A:Option Addr} {c:Nat} (h:TV base w B b s (.slice A n c) n R vf fr live root) (hl:0<n):∃ g,A=some ⟨g,0,none⟩∧g≠B∧g<w.heap.size∧∀ i j,i<n→j<10→w.cell? ⟨g,i*10+j,none⟩=(DL (so (R (Ar.hdl b s (i:Int)))))[j]?∧w.frozen? ⟨g,i*10+j,none⟩=false:=by
 obtain⟨g,rfl,hlt,_⟩:=jX (aG h.row) hl;refine⟨g,rfl,fun e=>bA h.row h.var (by decide) (by simp[Value.ownBlock,e]),hlt,fun i j hi hj=>⟨?_,h.row.frozenAt _⟩⟩;have hb:i*10+j<n*10:=by omega
 rw[h.row.cellAt _ hb];exact jT Ep _ hi hj
end
end
section
open Go.RowKit
theorem MB:(Tryz.prog.info? 131).map (fun i=>(i.zero,i.size,i.bytes))=some (some (.agg #[.bool false,.int .i64 0,.string ⟨#[]⟩,.slice none 0 0,.string ⟨#[]⟩,.int .i64 0,.int .i64 0,.int .i64 0,.int .i64 0,.int .i64 0]),10,112):=by kernel_rfl
theorem KG:(Tryz.prog.info? 3).map (fun i=>(i.zero,i.size,i.bytes))=some (some (.int .i64 0),1,8):=by kernel_rfl
def dZ (n:Nat) (fr:List Nat):Nat×List Nat×Nat:=match fr.getLast? with | none=>(n+1,[],n) | some i=>(n,fr.dropLast,i)
theorem Ag (n:Nat):dZ n []=(n+1,[],n):=rfl
theorem CY (n:Nat) (L:List Nat) (i:Nat):dZ n (L++[i])=(n,L,i):=by unfold dZ;simp
theorem O7 (base B:Nat) (b s root:Int) (live n:Nat) (R:Int→Option Tr.Nd) (fr:List Nat) (vs vf:Value) (w:World) (hM:TV base w B b s vs n R vf fr live root) (hS:Sound b s n R fr live) (hb:base≤w.heap.size) (hl:n<100000):
  Calls Tryz.prog 87 #[.pointer (some ⟨B,0,none⟩)] w fun e w'=>∃ vs' bV,e=.returned (.int .i64 ((dZ n fr).2.2:Nat))∧TV base w' B b s vs' (dZ n fr).1 R bV (dZ n fr).2.1 live root∧aB w w' (aD B vs vf) (aD B vs' bV):=by
 obtain⟨A,c,A',c',rfl,rfl⟩:=hM.slices;obtain⟨_,_,k2,k3,_⟩:=hM.cells;obtain⟨i0,hi0,hz0,hz1,hz2⟩:=info_parts MB
 go_enter Tryz.func87,Tryz.ntmps87
 by_cases hz:fr=[]
 ·subst hz;rw[Ag];simp only[List.length_nil] at hM k3 ⊢;have hout:=hS.out (i:=n) (Nat.le_refl _) (by omega);have hs1:(w.alloc (.cells #[.bool false,.int .i64 0,.string ⟨#[]⟩,.slice none 0 0,.string ⟨#[]⟩,.int .i64 0,.int .i64 0,.int .i64 0,.int .i64 0,.int .i64 0] 131)).ownsRow 0 131 10 (.slice (some ⟨w.heap.size,0,none⟩) 1 1) 1 (DL (false,Tr.Bl)):=World.ownsRow_lit w #[.bool false,.int .i64 0,.string ⟨#[]⟩,.slice none 0 0,.string ⟨#[]⟩,.int .i64 0,.int .i64 0,.int .i64 0,.int .i64 0,.int .i64 0] 1 (Nat.zero_le _) (by unfold maxLen;omega) rfl;have hone:∀ u∈DL (false,Tr.Bl),u.oneCell'=true:=fun u hu=>by
   simp only[DL,List.mem_cons,List.not_mem_nil,or_false] at hu;rcases hu with rfl | rfl | rfl | rfl | rfl | rfl | rfl | rfl | rfl | rfl<;>rfl
  have hB1:=(Below.refl _ w).alloc (Nat.le_refl _) (.cells #[.bool false,.int .i64 0,.string ⟨#[]⟩,.slice none 0 0,.string ⟨#[]⟩,.int .i64 0,.int .i64 0,.int .i64 0,.int .i64 0,.int .i64 0] 131);have hM1:=hM.below hB1;have hcb:base≤(w.alloc (.cells #[.bool false,.int .i64 0,.string ⟨#[]⟩,.slice none 0 0,.string ⟨#[]⟩,.int .i64 0,.int .i64 0,.int .i64 0,.int .i64 0,.int .i64 0] 131)).heap.size:=Nat.le_trans hb hB1.size;clear hS
  go_wp2_with (at_builtin;refine dV rfl _ _ 62 rfl base 0 131 i0 (.agg #[.bool false,.int .i64 0,.string ⟨#[]⟩,.slice none 0 0,.string ⟨#[]⟩,.int .i64 0,.int .i64 0,.int .i64 0,.int .i64 0,.int .i64 0]) 10 112 Tryz.underlying62 hi0 hz0 hz1 hz2 rfl (by decide) _ _ _ rfl hM1.row _ 1 (DL (false,Tr.Bl)) rfl hs1 hone ?c3 ?c4 hcb ?_)
  case c3=>unfold maxLen;omega
  case c4=>omega
  intro v5 w5 o5 g5 f5;have e5:mU b s n R++DL (false,Tr.Bl)=mU b s (n+1) R:=by
   unfold mU;rw[oG,hout];rfl
  rw[e5] at o5;obtain⟨A5,c5,rfl⟩:=aF (aG o5);obtain⟨Cc,KH,hst⟩:=hM.JQ hB1 g5 o5 f5;obtain⟨w6,jM⟩:=eX (w5.setCell ⟨B,2,none⟩ (.slice A5 (n+1) c5))
  have y2:w5.cell? ⟨B,2,none⟩=some (.slice A n c):=Cc.cell 2;have z2:=Cc.free 2;rw[jM] at KH hst;obtain⟨_,_,q2,_,_⟩:=KH.cells;have HM:=zh KH;clear hM hM1 KH k2 k3 hs1 o5 g5 f5 Cc e5 hout;go_wp2_with fail
  go_ret
  exact⟨_,_,by go_num,HM.out,hst⟩
 ·obtain⟨L,i,rfl⟩:∃ L i,fr=L++[i]:=⟨fr.dropLast,fr.getLast hz,(List.dropLast_concat_getLast hz).symm⟩
  rw[CY];have hfl:(L++[i]).length=L.length+1:=by simp
  have hcn:=hS.count;clear hz hS;have hvf:=hM.free;rw[hfl] at k3 hvf hcn;obtain⟨m,hm⟩:=eX (L.length)
  rw[hm] at k3 hvf hcn;obtain⟨g,hg,_,hc⟩:=jX (aG hvf) (by omega);subst hg;have hc':=hc m (.int .i64 (i:Int)) (by rw[nums_append,←hm];simp[nums]);have hcap:=RA hvf;have YE:w.ownsRow base 3 1 (.slice (some ⟨g,0,none⟩) m c') L.length (nums L):=by
   have h:=JJ hvf m (by omega);have e:(nums (L++[i])).take (m*1)=nums L:=by rw[nums_append,Nat.mul_one];exact List.take_left' (by simp[nums,hm])
   rw[e] at h;rw[hm];exact h
  obtain⟨Cc,KH,hst⟩:=hM.Cn (Below.refl _ w) (w5:=w) (by rw[hfl,hm];exact ay (Below.refl w.heap.size w) _) YE (.inl (by simp[Value.ownBlock]));rw[hfl,hm] at Cc hst;rw[hfl,hm];have y3:w.cell? ⟨B,3,none⟩=some (.slice (some ⟨g,0,none⟩) (m+1) c'):=Cc.cell 3;have z3:=Cc.free 3;obtain⟨w6,jM⟩:=eX (w.setCell ⟨B,3,none⟩ (.slice (some ⟨g,0,none⟩) m c'))
  rw[jM] at KH hst;have HM:=zh KH;have HF:=zh hfl;have HM2:=zh hm;have hmb:m≤100000:=by omega
  clear hM KH hvf hc YE Cc hfl hm k3 hcn hl;go_wp2_with fail
  go_ret
  first | exact⟨_,_,rfl,HM.out,hst⟩ | exact⟨rfl,_,_,HM.out,hst⟩
def rP (b s:Int) (R:Int→Option Tr.Nd) (h:Int):Int:=match R h with | some _=>Ar.idx b s h | none => -1
theorem Cm (base B:Nat) (b s root h:Int) (live n:Nat) (R:Int→Option Tr.Nd) (fr:List Nat) (vs vf:Value) (w:World) (hm:TV base w B b s vs n R vf fr live root) (hS:Sound b s n R fr live) (hh:kM h):
  Calls Tryz.prog 109 #[.pointer (some ⟨B,0,none⟩),.int .i64 h] w fun e w'=>e=.returned (.int .i64 (rP b s R h))∧Below w.heap.size w w':=by
 obtain⟨A,c,A',c',rfl,rfl⟩:=hm.slices;obtain⟨k0,k1,_,_,_⟩:=hm.cells;have hcase:=hS.idx h;have hle:=hS.le;have hir:=Ar.CU b s h;clear hS
 go_enter Tryz.func109,Tryz.ntmps109
 go_wp2_with fail;refine (JK b s h _ hh).mono ?_;rintro e w2 ⟨rfl,hb2⟩;have hm2:=hm.below hb2;obtain⟨_,_,c2,_,_⟩:=hm2.cells;clear k0 k1;rcases hcase with ⟨i,h1,h2,h3⟩ | ⟨hi,h1 | ⟨h1,h2⟩⟩
 ·obtain⟨g,rfl,_,_,hcell⟩:=hm2.slot (by omega);have hc3:=(hcell i 0 h2 (by omega)).1;rw[h3] at hc3;have q1:(i:Int)<(n:Int):=by omega
  have q2:¬ (n:Int)≤(i:Int):=by omega
  have q3:¬ (i:Int)<0:=by omega
  cases e:R h with
  | some d=>
   have hr:rP b s R h=(i:Int):=by unfold rP;rw[e,h1]
   rw[e] at hc3;have hc4:w2.cell? ⟨g,i*10,none⟩=some (.bool true):=hc3;rw[h1];have HR:=zh hr;clear hr h1 h3 e hc3 hm hm2 hcell hir;go_wp2_with fail
   go_ret
   exact⟨kD HR.out.symm,hb2⟩
  | none=>
   have hr:rP b s R h = -1:=by unfold rP;rw[e]
   rw[e] at hc3;have hc4:w2.cell? ⟨g,i*10,none⟩=some (.bool false):=hc3;rw[h1];have HR:=zh hr;clear hr h1 h3 e hc3 hm hm2 hcell hir;go_wp2_with fail
   go_ret
   exact⟨kD HR.out.symm,hb2⟩
 ·have hr:rP b s R h = -1:=by unfold rP;rw[hi]
  have HR:=zh hr;clear hr hi hm hm2 hir;go_wp2_with fail
  go_ret
  exact⟨kD HR.out.symm,hb2⟩
 ·have hr:rP b s R h = -1:=by unfold rP;rw[hi]
  have HR:=zh hr;have q1:¬ Ar.idx b s h<0:=by omega
  clear hr hi hm hm2 hir;go_wp2_with fail
  go_ret
  exact⟨kD HR.out.symm,hb2⟩
theorem nP {b s h:Int} {n live:Nat} {R:Int→Option Tr.Nd} {fr:List Nat} (hS:Sound b s n R fr live):(∃ (i:Nat) (d:Tr.Nd),R h=some d∧rP b s R h=(i:Int)∧i<n∧Ar.hdl b s (i:Int)=h)∨(R h=none∧rP b s R h = -1):=by
 cases e:R h with
 | none=>exact .inr ⟨rfl,by unfold rP;rw[e]⟩
 | some d=>
  rcases hS.idx h with ⟨i,h1,h2,h3⟩ | ⟨h1,_⟩
  ·exact .inl ⟨i,d,rfl,by unfold rP;rw[e];exact h1,h2,h3⟩
  ·rw[e] at h1;cases h1
def nodeAt (b s:Int) (vs:Value) (R:Int→Option Tr.Nd) (h:Int):Option Addr:=
 match R h,vs with
 | some _,.slice (some a) _ _=>some ⟨a.block,(Ar.idx b s h).toNat*10+1,none⟩
 | _,_=>none
theorem tq (base B:Nat) (b s root h:Int) (live n:Nat) (R:Int→Option Tr.Nd) (fr:List Nat) (vs vf:Value) (w:World) (hm:TV base w B b s vs n R vf fr live root) (hS:Sound b s n R fr live) (hh:kM h):
  Calls Tryz.prog 85 #[.pointer (some ⟨B,0,none⟩),.int .i64 h] w fun e w'=>e=.returned (.pointer (nodeAt b s vs R h))∧Below w.heap.size w w':=by
 go_enter Tryz.func85,Tryz.ntmps85
 go_wp2_with fail;refine (Cm base B b s root h live n R fr vs vf w hm hS hh).mono ?_;rintro e w2 ⟨rfl,hb2⟩;have hm2:=hm.below hb2;obtain⟨A,c,A',c',rfl,rfl⟩:=hm.slices;obtain⟨_,_,c2,_,_⟩:=hm2.cells;rcases nP (h:=h) hS with ⟨i,d,e1,e2,e3,e4⟩ | ⟨e1,e2⟩
 ·rw[e2];obtain⟨g,rfl,_,_⟩:=hm2.slot (by omega);have q:¬ (i:Int)<0:=by omega
  have q1:(i:Int)<(n:Int):=by omega
  have q2:nodeAt b s (.slice (some ⟨g,0,none⟩) n c) R h=some ⟨g,i*10+1,none⟩:=by
   have:Ar.idx b s h=i:=by unfold rP at e2;rw[e1] at e2;exact e2
   unfold nodeAt;rw[e1,this];rfl
  have HE:=zh q2;clear e1 e2 hm hm2 q2 e4 hS;go_wp2_with fail
  go_ret
  rw[HE.out];exact⟨rfl,hb2⟩
 ·rw[e2];have q2:nodeAt b s (.slice A n c) R h=none:=by unfold nodeAt;rw[e1]
  have HE:=zh q2;clear e1 e2 hm hm2 q2 hS;go_wp2_with fail
  go_ret
  rw[HE.out];exact⟨rfl,hb2⟩
theorem pX (base B:Nat) (b s root:Int) (live n:Nat) (R:Int→Option Tr.Nd) (fr:List Nat) (vs vf:Value) (w:World) (hm:TV base w B b s vs n R vf fr live root):
  Calls Tryz.prog 51 #[.pointer (some ⟨B,0,none⟩)] w fun e w'=>e=.returned (.int .i64 (live:Nat))∧w'=w:=by
 obtain⟨_,_,_,_,k4,_⟩:=hm.cells;clear hm
 go_enter Tryz.func51,Tryz.ntmps51
 go_wp2_with fail
 go_ret
 exact⟨rfl,rfl⟩
theorem jN {b s:Int} {n live:Nat} {R:Int→Option Tr.Nd} {fr:List Nat} (hS:Sound b s n R fr live) (hl:n<100000):
  (dZ n fr).2.2<(dZ n fr).1∧(dZ n fr).1≤n+1∧n≤(dZ n fr).1∧R (Ar.hdl b s ((dZ n fr).2.2:Nat))=none∧∀ d,Sound b s (dZ n fr).1 (Tr.pW R (Ar.hdl b s ((dZ n fr).2.2:Nat)) (some d)) (dZ n fr).2.1 (live+1):=by
 by_cases hz:fr=[]
 ·subst hz;rw[Ag];refine⟨by show n<n+1;omega,Nat.le_refl _,Nat.le_succ _,hS.out (i:=n) (Nat.le_refl _) (by omega),fun d=>⟨fun h hh=>?_,List.nodup_nil,fun i hi=>by simp at hi,?_,by show n+1≤100000;omega⟩⟩
  ·unfold Tr.pW at hh
   split at hh
   ·rename_i e;exact⟨n,Nat.lt_succ_self n,e.symm⟩
   ·obtain⟨i,h1,h2⟩:=hS.dom h hh;exact⟨i,Nat.lt_succ_of_lt h1,h2⟩
  ·have:=hS.count;simp at this ⊢;omega
 ·obtain⟨L,i,rfl⟩:∃ L i,fr=L++[i]:=⟨fr.dropLast,fr.getLast hz,(List.dropLast_concat_getLast hz).symm⟩
  rw[CY];obtain⟨h1,h2⟩:=hS.free i (by simp);refine⟨h1,Nat.le_succ _,Nat.le_refl _,h2,fun d=>⟨fun h hh=>?_,(List.nodup_append.1 hS.nodup).1,fun j hj=>?_,?_,hS.le⟩⟩
  ·unfold Tr.pW at hh
   split at hh
   ·rename_i e;exact⟨i,h1,e.symm⟩
   ·exact hS.dom h hh
  ·obtain⟨h3,h4⟩:=hS.free j (by simp[show j∈L from hj]);refine⟨h3,?_⟩;rw[Tr.Eo]
   ·exact h4
   ·intro e;have:=yX (i:=j) (j:=i) (by have:=hS.le;omega) (by have:=hS.le;omega) e;subst this;exact (List.nodup_append.1 hS.nodup).2.2 j hj j (by simp) rfl
  ·have:=hS.count;simp at this ⊢;omega
theorem bN {b s:Int} {n live:Nat} {R:Int→Option Tr.Nd} {fr:List Nat} (hS:Sound b s n R fr live) {h:Int} (hh:(R h).isSome):kM h∧0<h:=by
 obtain⟨i,h1,h2⟩:=hS.dom h hh;have h3:=hS.le;have:=oD (b:=b) (s:=s) (i:=i) (by omega);rw[h2] at this;exact⟨by constructor<;>omega,by omega⟩
theorem nR (base B:Nat) (b s root:Int) (live n:Nat) (R:Int→Option Tr.Nd) (fr:List Nat) (vs vf:Value) (d:Tr.Nd) (w:World) (h:TV base w B b s vs n R vf fr live root) (hS:Sound b s n R fr live) (hb:base≤w.heap.size) (hl:n<100000):
  Calls Tryz.prog 47 #[.pointer (some ⟨B,0,none⟩),QO d] w fun e w'=>∃ vs' bV,e=.returned (.int .i64 (Ar.hdl b s ((dZ n fr).2.2:Nat)))∧
   TV base w' B b s vs' (dZ n fr).1 (Tr.pW R (Ar.hdl b s ((dZ n fr).2.2:Nat)) (some d)) bV (dZ n fr).2.1 (live+1) root∧aB w w' (aD B vs vf) (aD B vs' bV):=by
 obtain⟨f1,f2,f3,f4,f5⟩:=jN hS hl;have hlv:live≤100000:=by have:=hS.count;omega
 have hBx:=(Below.refl _ w).alloc (Nat.le_refl _) (.cells (TP d) 97);have hlt:=h.lt;replace h:=h.below hBx;have hX:=Whole.new w (TP d) 97
 go_enter Tryz.func47,Tryz.ntmps47
 go_wp2_with fail;refine (O7 base B b s root live n R fr vs vf (w.alloc (.cells (TP d) 97)) h hS (Nat.le_trans hb (by simp)) hl).mono ?_;rintro e w2 ⟨vs2,Td,rfl,hM2,O8⟩;obtain⟨p,hp⟩:=eX (dZ n fr)
 rw[hp] at hM2 f1 f2 f3 f4 ⊢;obtain⟨n',fr',i⟩:=p;simp only at hM2 f1 f2 f3 f4 ⊢;have HP:=zh hp;have hX2:=hX.turns O8.1 (fun x=>by have:=(hlt _ x).2;omega);have x0:w2.cell? ⟨w.heap.size,0,none⟩=some (.int .i64 d.kind):=hX2.cell 0;have x1:w2.cell? ⟨w.heap.size,1,none⟩=some (.string d.name):=hX2.cell 1;have x2:w2.cell? ⟨w.heap.size,2,none⟩=some (.slice d.av.a d.av.n d.av.c):=hX2.cell 2;have x3:w2.cell? ⟨w.heap.size,3,none⟩=some (.string d.data):=hX2.cell 3;have x4:w2.cell? ⟨w.heap.size,4,none⟩=some (.int .i64 d.pa):=hX2.cell 4;have x5:w2.cell? ⟨w.heap.size,5,none⟩=some (.int .i64 d.fi):=hX2.cell 5;have x6:w2.cell? ⟨w.heap.size,6,none⟩=some (.int .i64 d.la):=hX2.cell 6;have x7:w2.cell? ⟨w.heap.size,7,none⟩=some (.int .i64 d.pr):=hX2.cell 7;have x8:w2.cell? ⟨w.heap.size,8,none⟩=some (.int .i64 d.ne):=hX2.cell 8;replace O8:=(aB.of_below hBx).trans O8;clear hX hX2 hBx hlt h hp f5 hS;obtain⟨A,c,A',c',rfl,rfl⟩:=hM2.slices;obtain⟨g,rfl,hgB,hgl,hcell⟩:=hM2.slot (by omega);obtain⟨_,_,c2,_,_⟩:=hM2.cells;have hc:∀ j,j<10→w2.cell? ⟨g,i*10+j,none⟩=(DL (false,Tr.Bl))[j]?∧w2.frozen? ⟨g,i*10+j,none⟩=false:=fun j hj=>by
  have:=hcell i j f1 hj;rw[f4] at this;exact this
 have t0:w2.cell? ⟨g,i*10,none⟩=some (.bool false):=(hc 0 (by omega)).1;have t1:w2.cell? ⟨g,i*10+1,none⟩=some (.int .i64 0):=(hc 1 (by omega)).1;have t2:w2.cell? ⟨g,i*10+2,none⟩=some (.string ⟨#[]⟩):=(hc 2 (by omega)).1;have t3:w2.cell? ⟨g,i*10+3,none⟩=some (.slice none 0 0):=(hc 3 (by omega)).1;have t4:w2.cell? ⟨g,i*10+4,none⟩=some (.string ⟨#[]⟩):=(hc 4 (by omega)).1;have t5:w2.cell? ⟨g,i*10+5,none⟩=some (.int .i64 0):=(hc 5 (by omega)).1;have t6:w2.cell? ⟨g,i*10+6,none⟩=some (.int .i64 0):=(hc 6 (by omega)).1;have t7:w2.cell? ⟨g,i*10+7,none⟩=some (.int .i64 0):=(hc 7 (by omega)).1;have t8:w2.cell? ⟨g,i*10+8,none⟩=some (.int .i64 0):=(hc 8 (by omega)).1;have t9:w2.cell? ⟨g,i*10+9,none⟩=some (.int .i64 0):=(hc 9 (by omega)).1;have r0:w2.frozen? ⟨g,i*10,none⟩=false:=(hc 0 (by omega)).2;have r1:=(hc 1 (by omega)).2;have r2:=(hc 2 (by omega)).2;have r3:=(hc 3 (by omega)).2;have r4:=(hc 4 (by omega)).2;have r5:=(hc 5 (by omega)).2;have r6:=(hc 6 (by omega)).2;have r7:=(hc 7 (by omega)).2;have r8:=(hc 8 (by omega)).2;have r9:=(hc 9 (by omega)).2;obtain⟨w3,hw3⟩:=eX (((((((((((w2.setCell ⟨g,i*10,none⟩ (.bool true)).setCell ⟨g,i*10+1,none⟩ (.int .i64 d.kind)).setCell ⟨g,i*10+2,none⟩ (.string d.name)).setCell ⟨g,i*10+3,none⟩ (.slice d.av.a d.av.n d.av.c)).setCell ⟨g,i*10+4,none⟩ (.string d.data)).setCell ⟨g,i*10+5,none⟩ (.int .i64 d.pa)).setCell ⟨g,i*10+6,none⟩ (.int .i64 d.fi)).setCell ⟨g,i*10+7,none⟩ (.int .i64 d.la)).setCell ⟨g,i*10+8,none⟩ (.int .i64 d.pr)).setCell ⟨g,i*10+9,none⟩ (.int .i64 d.ne)))
 obtain⟨LX,sP⟩:=hM2.FB (o:=some d) f1 (by omega) (w':=w3) hw3;have hd3:Below w3.heap.size w3 w3.drew:=⟨rfl,rfl,rfl,Nat.le_refl _,fun _ _=>rfl⟩
 replace sP:=sP.trans (.of_below hd3);replace LX:=LX.below hd3;obtain⟨wd,hwd⟩:=eX (w3.drew)
 rw[hwd] at LX sP;clear hd3;have y4:=LX.cells.2.2.2.2.1;have z4:=LX.var.free 4;obtain⟨Ef,s4⟩:=LX.counted (live+1) ((live:Int)+1) (by omega);obtain⟨w4,hw4⟩:=eX (wd.setCell ⟨B,4,none⟩ (.int .i64 ((live:Int)+1)))
 rw[hw4] at Ef s4;obtain⟨q0,q1,_,_,_⟩:=Ef.cells;have hii:(i:Int)<(n':Int):=by omega
 have hiI:kM (i:Int):=by constructor<;>omega
 have HM:=zh Ef;have HS:=zh ((O8.trans sP).trans s4);clear Ef LX hM2 hcell hc f4 O8 sP s4;go_wp2_with fail
 go_region_with (fail)
 all_goals
  (try rw[hwd]);clear hwd hw3;go_wp2_with fail;refine (GH b s i _ hiI).mono ?_;rintro e w5 ⟨rfl,hb5⟩;go_wp2_with fail
  go_ret
  rw[HP.out];exact⟨_,_,rfl,HM.out.below hb5,HS.out.trans (.of_below hb5)⟩
end
section
namespace Tr
open Go Go.RowKit
def walk (g:G):Nat→Int→List Int
 | 0,_=>[]
 | f+1,h=>match g h with | none=>[] | some n=>h::n.kids.flatMap (walk g f)
def hgt (g:G):Nat→Int→Nat
 | 0,_=>0
 | f+1,h=>match g h with | none=>0 | some n=>(n.kids.map (hgt g f)).foldl max 0+1
def ups (g:G):Nat→Int→List Int
 | 0,_=>[]
 | f+1,h=>match g h with | none=>[] | some n=>h::ups g f n.pa
def ak (g:G) (h:Int):List Int:=walk g 129 h
def gF (g:G) (h:Int):Nat:=hgt g 129 h
def aY (g:G) (h:Int):List Int:=ups g 129 h
theorem uT {f k:Int→List Int} {l:List Int} (h:∀ x∈l,f x=k x):l.flatMap f=l.flatMap k:=by
 rw[List.flatMap_def,List.flatMap_def,List.map_congr_left h]
theorem Vn {g:G} {h:Int} {l:List Int} (u:Up g h l):∀ f,l.length≤f→ups g f h=l:=by
 induction u with
 | out e=>intro f _;cases f with | zero=>rfl | succ f=>rw[ups,e]
 | node e _ ih=>
  intro f hf;cases f with
  | zero=>simp at hf
  | succ f=>rw[ups,e];simp only;rw[ih f (by simpa using hf)]
theorem Up.suffix {g:G} {h:Int} {l2:List Int}:∀ (l1:List Int) {x:Int},Up g x (l1++h::l2)→Up g h (h::l2)
 | [],_,u=>by cases u with | node e u=>exact .node e u
 | _::r,_,u=>by cases u with | node _ u=>exact Up.suffix r u
theorem Up.parent {g:G} {x k h:Int} {l2:List Int} (u:Up g x (k::h::l2)):∃ m,g k=some m∧m.pa=h:=by
 cases u with
 | node e u=>
  refine⟨_,e,?_⟩;cases u with
  | node _ _=>rfl
section
variable {z:Int} {g:G}
theorem WF.bY (w:WF z g) (h:Int):Up g h (aY g h)∧(aY g h).length≤128:=by
 obtain⟨l,u,hl⟩:=w.chain h;have:aY g h=l:=Vn u 129 (by omega);rw[this];exact⟨u,hl⟩
theorem WF.iq (w:WF z g) {h:Int} {l:List Int} (u:Up g h l):aY g h=l:=(w.bY h).1.one u
theorem WF.bC (w:WF z g) {h:Int} {n:GN} (e:g h=some n):aY g h=h::aY g n.pa:=w.iq (.node e (w.bY n.pa).1)
theorem WF.kU (w:WF z g) {h:Int} (e:g h=none):aY g h=[]:=w.iq (.out e)
theorem WF.jA (w:WF z g) {h k:Int} {n:GN} (e:g h=some n) (hk:k∈n.kids):aY g k=k::aY g h:=by
 obtain⟨m,e1,e2⟩:=w.down h n k e hk;rw[w.bC e1,e2]
theorem WF.induct (w:WF z g) {P:Int→Prop} (step:∀ h,(∀ n,g h=some n→∀ k∈n.kids,P k)→P h):∀ h,P h:=by
 have key:∀ f h,129≤f+(aY g h).length→P h:=by
  intro f
  induction f with
  | zero=>intro h hf;have:=(w.bY h).2;omega
  | succ f ih=>
   intro h hf;refine step h fun n e k hk=>ih k ?_;rw[w.jA e hk,List.length_cons];omega
 exact fun h=>key 129 h (by omega)
theorem WF.Cq (w:WF z g):∀ f h,129≤f+(aY g h).length→walk g (f+1) h=walk g f h:=by
 intro f
 induction f with
 | zero=>intro h hf;have:=(w.bY h).2;omega
 | succ f ih=>
  intro h hf;cases e:g h with
  | none=>rw[walk,walk,e]
  | some n=>
   rw[walk,walk,e];simp only;congr 1;rw[List.flatMap_def,List.flatMap_def];congr 1;refine List.map_congr_left fun k hk=>ih k ?_;rw[w.jA e hk,List.length_cons];omega
theorem WF.O9 (w:WF z g):∀ f h,129≤f+(aY g h).length→hgt g (f+1) h=hgt g f h:=by
 intro f
 induction f with
 | zero=>intro h hf;have:=(w.bY h).2;omega
 | succ f ih=>
  intro h hf;cases e:g h with
  | none=>rw[hgt,hgt,e]
  | some n=>
   rw[hgt,hgt,e];simp only;congr 2;refine List.map_congr_left fun k hk=>ih k ?_;rw[w.jA e hk,List.length_cons];omega
theorem WF.dx (w:WF z g) {h:Int} {n:GN} (e:g h=some n):ak g h=h::n.kids.flatMap (ak g):=by
 show walk g (128+1) h=_;rw[walk,e];simp only;refine congrArg (fun t=>h::t) (uT fun k hk=>?_);show walk g 128 k=walk g (128+1) k;refine (w.Cq 128 k ?_).symm;rw[w.jA e hk,w.bC e,List.length_cons,List.length_cons];omega
theorem nY {h:Int} (e:g h=none):ak g h=[]:=by
 show walk g (128+1) h=_;rw[walk,e]
theorem WF.iQ (w:WF z g) {h:Int} {n:GN} (e:g h=some n):gF g h=(n.kids.map (gF g)).foldl max 0+1:=by
 show hgt g (128+1) h=_;rw[hgt,e];simp only;refine congrArg (fun t:List Nat=>t.foldl max 0+1) (List.map_congr_left fun k hk=>?_);show hgt g 128 k=hgt g (128+1) k;refine (w.O9 128 k ?_).symm;rw[w.jA e hk,w.bC e,List.length_cons,List.length_cons];omega
theorem Es {l:List Nat} {a b:Nat} (ha:a≤b) (h:∀ x∈l,x≤b):l.foldl max a≤b:=by
 induction l generalizing a with
 | nil=>exact ha
 | cons x r ih=>exact ih (Nat.max_le.2 ⟨ha,h x (by simp)⟩) fun y hy=>h y (by simp[hy])
theorem vX {l:List Nat} {a:Nat}:a≤l.foldl max a∧∀ x∈l,x≤l.foldl max a:=by
 induction l generalizing a with
 | nil=>exact⟨Nat.le_refl _,fun x hx=>by cases hx⟩
 | cons y r ih=>
  obtain⟨h1,h2⟩:=ih (a:=max a y);refine⟨Nat.le_trans (Nat.le_max_left _ _) h1,fun x hx=>?_⟩;rcases List.mem_cons.1 hx with rfl | hx
  ·exact Nat.le_trans (Nat.le_max_right _ _) h1
  ·exact h2 x hx
theorem WF.qC (w:WF z g):∀ h,gF g h+(aY g h).length≤129:=by
 refine w.induct fun h ih=>?_;cases e:g h with
 | none=>
  rw[w.kU e];show hgt g (128+1) h+_≤_;rw[hgt,e];simp
 | some n=>
  have hu:=(w.bY h).2;rw[w.bC e,List.length_cons] at hu;rw[w.iQ e,w.bC e,List.length_cons];have:(n.kids.map (gF g)).foldl max 0≤127 - (aY g n.pa).length:=Es (Nat.zero_le _) fun x hx=>by
   obtain⟨k,hk,rfl⟩:=List.mem_map.1 hx;have:=ih n e k hk;rw[w.jA e hk,w.bC e,List.length_cons,List.length_cons] at this;omega
  omega
theorem WF.fE (w:WF z g):∀ h x,x∈ak g h↔h∈aY g x:=by
 refine w.induct fun h ih=>fun x=>?_;cases e:g h with
 | none=>
  rw[nY e];refine⟨fun hx=>(List.not_mem_nil hx).elim,fun hx=>?_⟩;have:=(w.bY x).1.mem hx;rw[e] at this;cases this
 | some n=>
  rw[w.dx e,List.mem_cons,List.mem_flatMap];constructor
  ·rintro (rfl | ⟨k,hk,hx⟩)
   ·rw[w.bC e];simp
   ·obtain⟨l1,l2,e1⟩:=List.append_of_mem ((ih n e k hk x).1 hx);have u:=(w.bY x).1;rw[e1] at u;have u3:=(w.iq (u.suffix l1)).symm.trans (w.jA e hk);injection u3 with _ u3;rw[e1,u3,w.bC e];simp
  ·intro hx;by_cases hxh:x=h
   ·exact .inl hxh
   ·right;obtain⟨l1,l2,e1⟩:=List.append_of_mem hx;have u:=(w.bY x).1;by_cases hl1:l1=[]
    ·rw[e1,hl1] at u;cases u with
     | node e' u'=>exact absurd rfl hxh
    ·obtain⟨l3,k,hlk⟩:∃ l3 k,l1=l3++[k]:=⟨l1.dropLast,l1.getLast hl1,(List.dropLast_concat_getLast _).symm⟩
     rw[hlk,List.append_assoc] at e1;rw[e1] at u;have u2:=u.suffix l3;obtain⟨m,hm1,hm2⟩:=u2.parent;have hz:h≠z:=fun e'=>by rw[e',w.zero] at e;cases e
     have hkk:k∈n.kids:=by
      obtain⟨p,hp1,hp2⟩:=w.up k m hm1 (by rw[hm2];exact hz);rw[hm2,e] at hp1;obtain rfl:=Option.some.inj hp1;exact hp2
     exact⟨k,hkk,(ih n e k hkk x).2 (by rw[e1];simp)⟩
theorem WF.jI (w:WF z g) {h x:Int} (hx:x∈ak g h):(g x).isSome:=by
 have:=(w.fE h x).1 hx;cases e:g x with
 | some n=>rfl
 | none=>rw[w.kU e] at this;cases this
theorem WF.GK (w:WF z g) (h:Int):(aY g h).Nodup:=by
 have key:∀ (x:Int) (l:List Int),Up g x l→l.Nodup:=by
  intro x l u
  induction u with
  | out _=>exact List.nodup_nil
  | node e u ih=>exact List.nodup_cons.2 ⟨w.above e u,ih⟩
 exact key _ _ (w.bY h).1
theorem WF.lN (w:WF z g):∀ h,(ak g h).Nodup:=by
 refine w.induct fun h ih=>?_;cases e:g h with
 | none=>rw[nY e];exact List.nodup_nil
 | some n=>
  rw[w.dx e,List.nodup_cons];refine⟨fun hm=>?_,?_⟩
  ·obtain⟨k,hk,hx⟩:=List.mem_flatMap.1 hm;have h1:=(w.fE k h).1 hx;rw[w.bC e] at h1;have h2:=w.jA e hk;have h3:=w.GK k;rw[h2,w.bC e] at h3;rcases List.mem_cons.1 h1 with h1 | h1
   ·subst h1;exact (List.nodup_cons.1 h3).1 (by simp)
   ·exact (List.nodup_cons.1 h3).1 (by simp[h1])
  ·rw[List.flatMap_def];refine List.pairwise_flatten.2 ?_;refine⟨fun l hl=>?_,?_⟩
   ·obtain⟨k,hk,rfl⟩:=List.mem_map.1 hl;exact ih n e k hk
   ·rw[List.pairwise_map];refine (w.nodup h n e).imp_of_mem fun {a c} ha hc hne=>?_;intro x hx y hy exy;subst exy;have h1:=(w.fE a x).1 hx;have h2:=(w.fE c x).1 hy;have ua:=w.jA e ha;have uc:=w.jA e hc;obtain⟨l1,l2,e1⟩:=List.append_of_mem h1;obtain⟨l3,l4,e2⟩:=List.append_of_mem h2;have u:=(w.bY x).1;have v1:=(w.iq ((e1▸u).suffix l1)).symm.trans ua;have v2:=(w.iq ((e2▸u).suffix l3)).symm.trans uc;have hl:l2.length=l4.length:=by
     injection v1 with _ v1;injection v2 with _ v2;rw[v1,v2]
    have e3:=e1.symm.trans e2;have hlen:=congrArg List.length e3;simp at hlen;have:=(List.append_inj e3 (by omega)).2;injection this with this;exact hne this
theorem WF.xw (w:WF z g) (h:Int):z∉ak g h:=fun hm=>by
 have:=w.jI hm;rw[w.zero] at this;cases this
/-! What follows a node in a subtree. -/
def IJ:List Int→Int→List Int
 | [],_=>[]
 | a::r,x=>if a=x then r else IJ r x
theorem Vo (l:List Int) (x:Int):fs (IJ l x)=nK l x:=by
 induction l with
 | nil=>rfl
 | cons a r ih=>
  rw[IJ,nK]
  split
  ·rfl
  ·exact ih
theorem xA {l1 l2:List Int} {x:Int} (h:x∉l1):IJ (l1++x::l2) x=l2:=by
 induction l1 with
 | nil=>simp[IJ]
 | cons a r ih=>
  simp only[List.mem_cons,not_or] at h;rw[List.cons_append,IJ,if_neg (fun e=>h.1 e.symm),ih h.2]
def rest (g:G) (t:Int):List Int→List Int
 | []=>[]
 | x::l=>if x=t then [] else (IJ (au g (dG g x)) x).flatMap (ak g)++rest g t l
theorem La (w:WF 0 g) (l:List Int) (hl:∀ k∈l,(g k).isSome) (m:List Int):fs (l.flatMap (ak g)++m)=if l=[] then fs m else fs l:=by
 cases l with
 | nil=>rfl
 | cons a r=>
  obtain⟨n,e⟩:=Option.isSome_iff_exists.1 (hl a (by simp));rw[if_neg (by simp),List.flatMap_cons,w.dx e];rfl
def GL (g:G) (t x:Int):Int:=fs ((au g x).flatMap (ak g)++rest g t (aY g x))
theorem Et {l:List Int} {x y:Int} (h:y∈IJ l x):y∈l:=by
 induction l with
 | nil=>exact h
 | cons a r ih=>
  rw[IJ] at h
  split at h
  ·exact List.mem_cons_of_mem _ h
  ·exact List.mem_cons_of_mem _ (ih h)
theorem WF.rest_step (w:WF 0 g) {t h:Int} {n:GN} (e:g h=some n) (ht:h≠t) (l:List Int):fs (rest g t (h::l))=if nK (au g n.pa) h=0 then fs (rest g t l) else nK (au g n.pa) h:=by
 rw[rest,if_neg ht,aL e];have hk:∀ k∈IJ (au g n.pa) h,(g k).isSome:=fun k hk=>by
  obtain⟨m,e1,_⟩:=w.dO (Et hk);rw[e1];rfl
 have h0:0∉IJ (au g n.pa) h:=fun hm=>w.mE _ (Et hm);rw[La w _ hk,←Vo];by_cases hz:fs (IJ (au g n.pa) h)=0
 ·rw[if_pos (tQ h0 hz),if_pos hz]
 ·rw[if_neg (fun e=>hz (by rw[e];rfl)),if_neg hz]
theorem Ai {t:Int} {l:List Int}:rest g t (t::l)=[]:=by rw[rest,if_pos rfl]
theorem WF.MC (w:WF 0 g) {t:Int}:∀ (l:List Int) (h:Int),Up g h l→t∈l→∀ y r,rest g t l=y::r→(g y).isSome∧t∈aY g y∧r=(au g y).flatMap (ak g)++rest g t (aY g y):=by
 intro l
 induction l with
 | nil=>intro h _ ht;cases ht
 | cons a l ih=>
  intro h u ht y r er;cases u with
  | @node _ n _ e u=>
   by_cases hat:a=t
   ·rw[hat,Ai] at er;cases er
   ·rw[rest,if_neg hat,aL e] at er;have htl:t∈l:=by rcases List.mem_cons.1 ht with e1 | e1;exact absurd e1.symm hat;exact e1
    cases ha:IJ (au g n.pa) a with
    | nil=>
     rw[ha] at er;exact ih n.pa u htl y r er
    | cons c s=>
     have hpz:n.pa≠0:=fun e1=>by rw[e1,iE w.zero] at ha;cases ha
     have hcm:c∈au g n.pa:=Et (by rw[ha];simp);obtain⟨mc,ec,ecp⟩:=w.dO hcm;obtain⟨A,B,eA⟩:=List.append_of_mem (w.tT e hpz);have hnd:=w.lD n.pa;have hA:a∉A:=fun hm=>by rw[eA] at hnd;exact (List.nodup_append.1 hnd).2.2 _ hm _ (by simp) rfl
     rw[eA,xA hA] at ha;rw[ha] at eA;have hac:IJ (au g n.pa) c=s:=by
      rw[eA,show A++a::c::s=(A++[a])++c::s from by simp];refine xA fun hm=>?_;rw[eA,show A++a::c::s=(A++[a])++c::s from by simp] at hnd;exact (List.nodup_append.1 hnd).2.2 _ hm _ (by simp) rfl
     rw[eA,show A++a::c::s=A++a::(c::s) from rfl,xA hA,List.flatMap_cons,w.dx ec] at er;have er2:c=y∧(mc.kids.flatMap (ak g)++s.flatMap (ak g))++rest g t l=r:=by
      simp only[List.cons_append] at er;injection er with e1 e2;exact⟨e1,e2⟩
     obtain⟨rfl,er2⟩:=er2;have hup:aY g c=c::l:=by rw[w.bC ec,ecp,w.iq u]
     have hct:c≠t:=fun e1=>by
      have:=w.above ec (ecp▸u);rw[e1] at this;exact this htl
     refine⟨by rw[ec];rfl,by rw[hup];exact List.mem_cons_of_mem _ htl,?_⟩;rw[hup,rest,if_neg hct,aL ec,ecp,hac,aH ec,←er2,List.append_assoc]
theorem WF.Pb (w:WF 0 g) {t x:Int} (ht:t∈aY g x) {y:Int} {r:List Int} (e:(au g x).flatMap (ak g)++rest g t (aY g x)=y::r):
  (g y).isSome∧t∈aY g y∧r=(au g y).flatMap (ak g)++rest g t (aY g y):=by
 cases hk:au g x with
 | nil=>
  rw[hk] at e;exact w.MC _ x (w.bY x).1 ht y r e
 | cons k s=>
  obtain⟨mk,ek,ekp⟩:=w.dO (show k∈au g x by rw[hk];simp);rw[hk,List.flatMap_cons,w.dx ek] at e;have e2:k=y∧(mk.kids.flatMap (ak g)++s.flatMap (ak g))++rest g t (aY g x)=r:=by
   simp only[List.cons_append] at e;injection e with e1 e2;exact⟨e1,e2⟩
  obtain⟨rfl,e2⟩:=e2;have hup:aY g k=k::aY g x:=by rw[w.bC ek,ekp]
  have hkt:k≠t:=fun e1=>by
   have:=w.above ek (w.bY mk.pa).1;rw[e1,ekp] at this;exact this ht
  have hak:IJ (au g x) k=s:=by rw[hk];simp[IJ]
  refine⟨by rw[ek];rfl,by rw[hup];exact List.mem_cons_of_mem _ ht,?_⟩;rw[hup,rest,if_neg hkt,aL ek,ekp,hak,aH ek,←e2,List.append_assoc]
end
end Tr
end
section
namespace Tr
open Go Go.RowKit
section
variable {g:G} {h p c:Int} {n q:GN}
theorem lV (e:g h=some n):iZ g h h=some { n with pa:=0 }:=by unfold iZ;rw[if_pos rfl,e];rfl
theorem Lb (e:g h=some n) (hp:n.pa≠h) (eq:g n.pa=some q):iZ g h n.pa=some { q with kids:=q.kids.erase h }:=by
 unfold iZ;rw[if_neg hp,if_pos (aL e).symm,eq];rfl
theorem yY {x:Int} (h1:x≠h) (h2:x≠dG g h):iZ g h x=g x:=by unfold iZ;rw[if_neg h1,if_neg h2]
theorem iF {x:Int}:(iZ g h x).isSome=(g x).isSome:=by
 unfold iZ
 split
 ·rename_i e;rw[e];cases g h<;>rfl
 ·split
  ·cases g x<;>rfl
  ·rfl
theorem jV {x:Int} {m:GN} (e:iZ g h x=some m) (hx:x≠h):∃ m0,g x=some m0∧m.pa=m0.pa∧(∀ k,k∈m.kids→k∈m0.kids)∧(x≠dG g h→m.kids=m0.kids)∧(x=dG g h→m.kids=m0.kids.erase h)∧m.kind=m0.kind:=by
 unfold iZ at e;rw[if_neg hx] at e
 split at e
 ·rename_i hp;cases ex:g x with
  | none=>rw[ex] at e;cases e
  | some m0=>
   rw[ex] at e;obtain rfl:=Option.some.inj e;exact⟨m0,rfl,rfl,fun k hk=>List.mem_of_mem_erase hk,fun h=>absurd hp h,fun _=>rfl,rfl⟩
 ·rename_i hp;exact⟨m,e,rfl,fun _ h=>h,fun _=>rfl,fun h=>absurd h hp,rfl⟩
theorem WF.cut (w:WF 0 g) (e:g h=some n):WF 0 (iZ g h):=by
 have hz:h≠0:=fun e1=>by rw[e1,w.zero] at e;cases e
 have hzero:iZ g h 0=none:=by
  have:=iF (g:=g) (h:=h) (x:=0);rw[w.zero] at this;exact Option.not_isSome_iff_eq_none.1 (by rw[this];simp)
 have hps:n.pa≠h:=w.iO e;refine⟨hzero,?_,?_,?_,?_⟩
 ·intro x m em hm;by_cases hx:x=h
  ·rw[hx,lV e] at em;obtain rfl:=Option.some.inj em;exact absurd rfl hm
  ·obtain⟨m0,e0,h1,_⟩:=jV em hx;rw[h1] at hm ⊢;obtain⟨r,er,hr⟩:=w.up x m0 e0 hm;by_cases hq:m0.pa=h
   ·rw[hq] at er ⊢;rw[e] at er;obtain rfl:=Option.some.inj er;exact⟨_,lV e,hr⟩
   ·by_cases hq2:m0.pa=n.pa
    ·rw[hq2] at er ⊢;exact⟨_,Lb e hps er,(List.mem_erase_of_ne hx).2 hr⟩
    ·exact⟨r,by rw[yY hq (by rw[aL e];exact hq2)];exact er,hr⟩
 ·intro x m k em hk;by_cases hx:x=h
  ·rw[hx,lV e] at em;obtain rfl:=Option.some.inj em;obtain⟨mk,e1,e2⟩:=w.down h n k e hk;have hkh:k≠h:=fun e3=>w.vV h (by rw[aH e];exact e3▸hk);have:=iF (g:=g) (h:=h) (x:=k);rw[e1] at this;obtain⟨m',em'⟩:=Option.isSome_iff_exists.1 this;obtain⟨m0,e0,h1,_⟩:=jV em' hkh;rw[e1] at e0;obtain rfl:=Option.some.inj e0;exact⟨m',em',by rw[h1,e2,hx]⟩
  ·obtain⟨m0,e0,h1,h2,h3,h4,_⟩:=jV em hx;obtain⟨mk,e1,e2⟩:=w.down x m0 k e0 (h2 k hk);have hkh:k≠h:=by
    intro e3;rw[e3,e] at e1;obtain rfl:=Option.some.inj e1;have hxp:x=dG g h:=by rw[aL e];exact e2.symm
    rw[h4 hxp,e3] at hk;exact ((w.nodup x m0 e0).mem_erase_iff.1 hk).1 rfl
   have:=iF (g:=g) (h:=h) (x:=k);rw[e1] at this;obtain⟨m',em'⟩:=Option.isSome_iff_exists.1 this;obtain⟨m1,e0',h1',_⟩:=jV em' hkh;rw[e1] at e0';obtain rfl:=Option.some.inj e0';exact⟨m',em',by rw[h1',e2]⟩
 ·intro x m em;by_cases hx:x=h
  ·rw[hx,lV e] at em;obtain rfl:=Option.some.inj em;exact w.nodup h n e
  ·obtain⟨m0,e0,_,_,h3,h4,_⟩:=jV em hx;by_cases hp:x=dG g h
   ·rw[h4 hp];exact (w.nodup x m0 e0).erase h
   ·rw[h3 hp];exact w.nodup x m0 e0
 ·intro x;obtain⟨l,u,hl⟩:=w.chain x;have key:∀ (x:Int) (l:List Int),Up g x l→∃ l',Up (iZ g h) x l'∧l'.length≤l.length:=by
   intro x l u
   induction u with
   | @out y e1=>
    refine⟨[],.out ?_,Nat.le_refl _⟩;have:=iF (g:=g) (h:=h) (x:=y);rw[e1] at this;exact Option.not_isSome_iff_eq_none.1 (by rw[this];simp)
   | @node y m l e1 u ih=>
    by_cases hy:y=h
    ·subst hy;exact⟨[y],.node (lV e1) (.out hzero),by simp⟩
    ·have:=iF (g:=g) (h:=h) (x:=y);rw[e1] at this;obtain⟨m',em'⟩:=Option.isSome_iff_exists.1 this;obtain⟨m0,e0,h1,_⟩:=jV em' hy;rw[e1] at e0;obtain rfl:=Option.some.inj e0;obtain⟨l',u',hl'⟩:=ih;exact⟨y::l',.node em' (by rw[h1];exact u'),by simp;omega⟩
  obtain⟨l',u',hl'⟩:=key x l u;exact⟨l',u',by omega⟩
theorem iJ (e:g h=some n):bg g p h c h=some { n with pa:=p }:=by unfold bg;rw[if_pos rfl,e];rfl
theorem nZ (e:g p=some q) (hp:p≠h):bg g p h c p=some { q with kids:=iw q.kids c h }:=by unfold bg;rw[if_neg hp,if_pos rfl,e];rfl
theorem sH {x:Int} (h1:x≠h) (h2:x≠p):bg g p h c x=g x:=by unfold bg;rw[if_neg h1,if_neg h2]
theorem vY {x:Int} (hp:(g p).isSome):(bg g p h c x).isSome=(g x).isSome:=by
 unfold bg
 split
 ·rename_i e;rw[e];cases g h<;>rfl
 ·split
  ·rename_i e;rw[e];cases g p<;>rfl
  ·rfl
theorem sI {l:List Int} {b x y:Int}:y∈iw l b x↔y=x∨y∈l:=by
 induction l with
 | nil=>simp[iw]
 | cons a r ih=>
  rw[iw]
  split
  ·simp
  ·rw[List.mem_cons,ih,List.mem_cons];constructor
   ·rintro (h | h | h)
    ·exact .inr (.inl h)
    ·exact .inl h
    ·exact .inr (.inr h)
   ·rintro (h | h | h)
    ·exact .inr (.inl h)
    ·exact .inl h
    ·exact .inr (.inr h)
theorem JR {l:List Int} {b x:Int} (hn:l.Nodup) (hx:x∉l):(iw l b x).Nodup:=by
 induction l with
 | nil=>simp[iw]
 | cons a r ih=>
  simp only[List.mem_cons,not_or] at hx;rw[List.nodup_cons] at hn;rw[iw]
  split
  ·exact List.nodup_cons.2 ⟨by simp[hx.1,hx.2],List.nodup_cons.2 hn⟩
  ·refine List.nodup_cons.2 ⟨fun hm=>?_,ih hn.2 hx.2⟩;rcases sI.1 hm with h1 | h1
   ·exact hx.1 h1.symm
   ·exact hn.1 h1
theorem WF.deep (w:WF 0 g):∀ h x,x∈ak g h→(aY g x).length+1≤(aY g h).length+gF g h:=by
 refine w.induct fun h ih=>fun x hx=>?_;cases e:g h with
 | none=>rw[nY e] at hx;cases hx
 | some m=>
  rw[w.dx e] at hx;rw[w.iQ e];rcases List.mem_cons.1 hx with rfl | hx
  ·omega
  ·obtain⟨k,hk,hx⟩:=List.mem_flatMap.1 hx;have h1:=ih m e k hk x hx;rw[w.jA e hk,List.length_cons] at h1;have h2:gF g k≤(m.kids.map (gF g)).foldl max 0:=vX.2 _ (List.mem_map.2 ⟨k,hk,rfl⟩);omega
theorem WF.link (w:WF 0 g) (e:g h=some n) (hn:n.pa=0) (ep:g p=some q) (hu:h∉aY g p) (hd:(aY g p).length+gF g h≤128):WF 0 (bg g p h c):=by
 have hz:h≠0:=fun e1=>by rw[e1,w.zero] at e;cases e
 have hpz:p≠0:=fun e1=>by rw[e1,w.zero] at ep;cases ep
 have hps:p≠h:=fun e1=>by rw[w.bC ep,e1] at hu;exact hu (by simp)
 have hsome:=fun x=>vY (g:=g) (p:=p) (h:=h) (c:=c) (x:=x) (by rw[ep];rfl);have hzero:bg g p h c 0=none:=by
  have:=hsome 0;rw[w.zero] at this;exact Option.not_isSome_iff_eq_none.1 (by rw[this];simp)
 have hnk:h∉q.kids:=fun hm=>by
  obtain⟨m,h1,h2⟩:=w.down p q h ep hm;rw[e] at h1;obtain rfl:=Option.some.inj h1;exact hpz (by rw[←h2,hn])
 have of:∀ {x:Int} {m:GN},bg g p h c x=some m→x≠h→∃ m0,g x=some m0∧m.pa=m0.pa∧(x≠p→m.kids=m0.kids):=by
  intro x m em hx;by_cases hxp:x=p
  ·rw[hxp,nZ ep hps] at em;obtain rfl:=Option.some.inj em;exact⟨q,hxp▸ep,rfl,fun h=>absurd hxp h⟩
  ·rw[sH hx hxp] at em;exact⟨m,em,rfl,fun _=>rfl⟩
 refine⟨hzero,?_,?_,?_,?_⟩
 ·intro x m em hm;by_cases hx:x=h
  ·rw[hx,iJ e] at em;obtain rfl:=Option.some.inj em;exact⟨_,nZ ep hps,by rw[hx];exact sI.2 (.inl rfl)⟩
  ·obtain⟨m0,e0,h1,_⟩:=of em hx;rw[h1] at hm ⊢;obtain⟨r,er,hr⟩:=w.up x m0 e0 hm;by_cases hq:m0.pa=h
   ·rw[hq] at er ⊢;rw[e] at er;obtain rfl:=Option.some.inj er;exact⟨_,iJ e,hr⟩
   ·by_cases hq2:m0.pa=p
    ·rw[hq2] at er ⊢;rw[ep] at er;obtain rfl:=Option.some.inj er;exact⟨_,nZ ep hps,sI.2 (.inr hr)⟩
    ·exact⟨r,by rw[sH hq hq2];exact er,hr⟩
 ·intro x m k em hk;have kid:∀ m0,g x=some m0→k∈m0.kids→k≠h→∃ m',bg g p h c k=some m'∧m'.pa=x:=by
   intro m0 e0 hk hkh;obtain⟨mk,e1,e2⟩:=w.down x m0 k e0 hk;have:=hsome k;rw[e1] at this;obtain⟨m',em'⟩:=Option.isSome_iff_exists.1 this;obtain⟨m1,e3,h1,_⟩:=of em' hkh;rw[e1] at e3;obtain rfl:=Option.some.inj e3;exact⟨m',em',by rw[h1,e2]⟩
  by_cases hx:x=h
  ·rw[hx,iJ e] at em;obtain rfl:=Option.some.inj em;exact kid n (hx▸e) hk (fun e3=>w.vV h (by rw[aH e];exact e3▸hk))
  ·by_cases hxp:x=p
   ·rw[hxp,nZ ep hps] at em;obtain rfl:=Option.some.inj em;rcases sI.1 hk with rfl | hk
    ·exact⟨_,iJ e,hxp.symm⟩
    ·exact kid q (hxp▸ep) hk (fun e3=>hnk (e3▸hk))
   ·obtain⟨m0,e0,h1,h2⟩:=of em hx;rw[h2 hxp] at hk;refine kid m0 e0 hk (fun e3=>?_);obtain⟨mk,e1,e2⟩:=w.down x m0 k e0 hk;rw[e3,e] at e1;obtain rfl:=Option.some.inj e1;rw[hn] at e2;rw[←e2,w.zero] at e0;cases e0
 ·intro x m em;by_cases hx:x=h
  ·rw[hx,iJ e] at em;obtain rfl:=Option.some.inj em;exact w.nodup h n e
  ·by_cases hxp:x=p
   ·rw[hxp,nZ ep hps] at em;obtain rfl:=Option.some.inj em;exact JR (w.nodup p q ep) hnk
   ·obtain⟨m0,e0,h1,h2⟩:=of em hx;rw[h2 hxp];exact w.nodup x m0 e0
 ·intro x;have YF:∀ (x:Int) (l:List Int),Up g x l→h∉l→Up (bg g p h c) x l:=by
   intro x l u
   induction u with
   | @out y e1=>
    intro _;refine .out ?_;have:=hsome y;rw[e1] at this;exact Option.not_isSome_iff_eq_none.1 (by rw[this];simp)
   | @node y m l e1 u ih=>
    intro hm;simp only[List.mem_cons,not_or] at hm;have:=hsome y;rw[e1] at this;obtain⟨m',em'⟩:=Option.isSome_iff_exists.1 this;obtain⟨m0,e0,h1,_⟩:=of em' (fun e2=>hm.1 e2.symm);rw[e1] at e0;obtain rfl:=Option.some.inj e0;exact .node em' (by rw[h1];exact ih hm.2)
  have aa7:∀ (x:Int) (l:List Int),Up g x l→h∈l→Up (bg g p h c) x (l++aY g p):=by
   intro x l u
   induction u with
   | out _=>intro hm;cases hm
   | @node y m l e1 u ih=>
    intro hm;by_cases hy:y=h
    ·subst hy;rw[e] at e1;obtain rfl:=Option.some.inj e1;rw[hn] at u;cases u with
     | out _=>exact .node (iJ e) (YF p _ (w.bY p).1 hu)
     | node e2 _=>rw[w.zero] at e2;cases e2
    ·have hm2:h∈l:=by rcases List.mem_cons.1 hm with h1 | h1;exact absurd h1.symm hy;exact h1
     have:=hsome y;rw[e1] at this;obtain⟨m',em'⟩:=Option.isSome_iff_exists.1 this;obtain⟨m0,e0,h1,_⟩:=of em' hy;rw[e1] at e0;obtain rfl:=Option.some.inj e0;exact .node em' (by rw[h1];exact ih hm2)
  have u:=(w.bY x).1;by_cases hm:h∈aY g x
  ·refine⟨_,aa7 _ _ u hm,?_⟩;have h1:=w.deep h x ((w.fE h x).2 hm);rw[w.bC e,hn,w.kU w.zero] at h1;rw[List.length_append];simp at h1;omega
  ·exact⟨_,YF _ _ u hm,(w.bY x).2⟩
end
end Tr
end
section
namespace Tr
open Go Go.RowKit
def dI (g:G) (h:Int) (m:GN):G:=fun x=>if x=h then some m else g x
def eZ (av:Int→Sl) (h:Int) (s:Sl):Int→Sl:=fun x=>if x=h then s else av x
theorem bL (g:G) (h:Int) (m:GN):dI g h m h=some m:=by unfold dI;rw[if_pos rfl]
theorem bS {g:G} {h x:Int} {m:GN} (e:x≠h):dI g h m x=g x:=by unfold dI;rw[if_neg e]
theorem lK (av:Int→Sl) (h:Int) (s:Sl):eZ av h s h=s:=by unfold eZ;rw[if_pos rfl]
theorem vk {av:Int→Sl} {h x:Int} {s:Sl} (e:x≠h):eZ av h s x=av x:=by unfold eZ;rw[if_neg e]
section
variable {g:G} {h:Int} {m:GN}
theorem WF.TQ (w:WF 0 g) (hn:g h=none) (h0:h≠0) {x:Int} {n:GN} (e:g x=some n):n.pa≠h:=fun e1=>by
 rcases w.pa e with h1 | ⟨p,h1,_⟩
 ·exact h0 (e1▸h1)
 ·rw[e1,hn] at h1;cases h1
theorem up_add (w:WF 0 g) (hn:g h=none) (h0:h≠0):∀ {l:List Int} {x:Int},x≠h→Up g x l→Up (dI g h m) x l:=by
 intro l
 induction l with
 | nil=>
  intro x hx u;cases u with
  | out e=>exact .out (by rw[bS hx];exact e)
 | cons a r ih=>
  intro x hx u;cases u with
  | @node _ n _ e u=>exact .node (by rw[bS hx];exact e) (ih (w.TQ hn h0 e) u)
theorem Aj (hk:m.kids=[]) (hn:g h=none) (p:Int):au (dI g h m) p=au g p:=by
 by_cases e:p=h
 ·subst e;rw[aH (bL g p m),hk,iE hn]
 ·unfold au;rw[bS e]
theorem WF.add (w:WF 0 g) (hn:g h=none) (h0:h≠0) (hp:m.pa=0) (hk:m.kids=[]):WF 0 (dI g h m) where
 zero:=by rw[bS (Ne.symm h0)];exact w.zero
 up x n e hx:=by
  by_cases e1:x=h
  ·subst e1;rw[bL] at e;obtain rfl:=Option.some.inj e;exact absurd hp hx
  ·rw[bS e1] at e;obtain⟨p,h1,h2⟩:=w.up x n e hx;exact⟨p,by rw[bS (w.TQ hn h0 e)];exact h1,h2⟩
 down x n k e hkk:=by
  by_cases e1:x=h
  ·subst e1;rw[bL] at e;obtain rfl:=Option.some.inj e;rw[hk] at hkk;cases hkk
  ·rw[bS e1] at e;obtain⟨mk,h1,h2⟩:=w.down x n k e hkk;have:k≠h:=fun e2=>by rw[e2,hn] at h1;cases h1
   exact⟨mk,by rw[bS this];exact h1,h2⟩
 nodup x n e:=by
  by_cases e1:x=h
  ·subst e1;rw[bL] at e;obtain rfl:=Option.some.inj e;rw[hk];exact List.nodup_nil
  ·rw[bS e1] at e;exact w.nodup x n e
 chain x:=by
  by_cases e1:x=h
  ·subst e1;exact⟨[x],.node (bL g x m) (by rw[hp];exact .out (by rw[bS (Ne.symm h0)];exact w.zero)),by simp⟩
  ·obtain⟨l,h1,h2⟩:=w.chain x;exact⟨l,up_add w hn h0 e1 h1,h2⟩
theorem tC {av:Int→Sl} {s:Sl} (hn:g h=none) (h0:g 0=none) (hp:m.pa=0) (hk:m.kids=[]):raw (dI g h m) (eZ av h s)=pW (raw g av) h (some ⟨m.kind,m.name,s,m.data,0,0,0,0,0⟩):=by
 funext x;by_cases e:x=h
 ·subst e;rw[aj (bL g x m),sZ];unfold fA;rw[lK,hk,hp,Aj hk hn,iE h0];rfl
 ·rw[Eo e];unfold raw;rw[bS e];cases g x with
  | none=>rfl
  | some n=>
   show some _=some _;unfold fA;rw[vk e,Aj hk hn]
end
theorem WF.empty:WF 0 (fun _=>none) where
 zero:=rfl
 up _ _ e:=by cases e
 down _ _ _ e:=by cases e
 nodup _ _ e:=by cases e
 chain x:=⟨[],.out rfl,by simp⟩
end Tr
end
section
namespace Tr
open Go Go.RowKit
def fC (ρ:Int→Int) (n:GN):GN:={ n with pa:=ρ n.pa,kids:=n.kids.map ρ }
structure Im (ρ:Int→Int) (a g:G):Prop where
 zero:ρ (-1)=0
 node:∀ x n,a x=some n→g (ρ x)=some (fC ρ n)
 dom:∀ h,(g h).isSome→∃ x,(a x).isSome∧ρ x=h
 inj:∀ x y,(a x).isSome→(a y).isSome→ρ x=ρ y→x=y
 nz:∀ x,(a x).isSome→ρ x≠0
 neg:a (-1)=none
 pa:∀ x n,a x=some n→n.pa = -1∨(a n.pa).isSome
 kids:∀ x n,a x=some n→∀ k∈n.kids,(a k).isSome
section
variable {ρ:Int→Int} {a g:G}
theorem bR {a:G} {x:Int} {n:GN} (e:a x=some n):(a x).isSome:=by rw[e];rfl
def Lv (a:G) (x:Int):Prop:=x = -1∨(a x).isSome
theorem Im.Vp (h:Im ρ a g) {x y:Int} (hx:Lv a x) (hy:Lv a y) (e:ρ x=ρ y):x=y:=by
 rcases hx with rfl | hx
 ·rcases hy with rfl | hy
  ·rfl
  ·exact absurd (e.symm.trans h.zero) (h.nz y hy)
 ·rcases hy with rfl | hy
  ·exact absurd (e.trans h.zero) (h.nz x hx)
  ·exact h.inj x y hx hy e
theorem Im.from (h:Im ρ a g) {x:Int} {q:GN} (hx:(a x).isSome) (e:g (ρ x)=some q):∃ n,a x=some n∧q=fC ρ n:=by
 obtain⟨n,e1⟩:=Option.isSome_iff_exists.1 hx;rw[h.node x n e1] at e;exact⟨n,e1,(Option.some.inj e).symm⟩
theorem Im.mem (h:Im ρ a g) {l:List Int} (hl:∀ k∈l,(a k).isSome) {x:Int} (hx:(a x).isSome):ρ x∈l.map ρ↔x∈l:=by
 constructor
 ·intro hm;obtain⟨y,hy,e⟩:=List.mem_map.1 hm;rw[←h.inj y x (hl y hy) hx e];exact hy
 ·exact fun hm=>List.mem_map.2 ⟨x,hm,rfl⟩
theorem Im.up' (h:Im ρ a g) (w:WF 0 g):∀ {y:Int} {l:List Int},Up g y l→∀ x,Lv a x→ρ x=y→∃ l',Up a x l'∧l=l'.map ρ:=by
 intro y l u
 induction u with
 | @out y e=>
  intro x hx hy;subst hy;rcases hx with rfl | hx
  ·exact⟨[],.out h.neg,rfl⟩
  ·obtain⟨n,e1⟩:=Option.isSome_iff_exists.1 hx;rw[h.node x n e1] at e;cases e
 | @node y q l e u ih=>
  intro x hx hy;subst hy;rcases hx with rfl | hx
  ·rw[h.zero,w.zero] at e;cases e
  ·obtain⟨n,e1,rfl⟩:=h.from hx e;obtain⟨l',h1,h2⟩:=ih n.pa (h.pa x n e1) rfl;exact⟨x::l',.node e1 h1,by rw[h2];rfl⟩
theorem Im.pull (h:Im ρ a g) (w:WF 0 g):WF (-1) a where
 zero:=h.neg
 up x n e hp:=by
  rcases h.pa x n e with h1 | h1
  ·exact absurd h1 hp
  ·obtain⟨q,eq⟩:=Option.isSome_iff_exists.1 h1;refine⟨q,eq,?_⟩;rcases w.pa (h.node x n e) with h2 | ⟨p,h2,h3⟩
   ·exact absurd h2 (h.nz _ h1)
   ·rw[show (fC ρ n).pa=ρ n.pa from rfl,h.node _ _ eq] at h2;obtain rfl:=Option.some.inj h2;exact (h.mem (h.kids _ _ eq) (bR e)).1 h3
 down x n k e hk:=by
  have hks:=h.kids x n e k hk;obtain⟨q,h1,h2⟩:=w.down _ _ (ρ k) (h.node x n e) (List.mem_map.2 ⟨k,hk,rfl⟩);obtain⟨m,e1,rfl⟩:=h.from hks h1;exact⟨m,e1,h.Vp (h.pa k m e1) (.inr (bR e)) h2⟩
 nodup x n e:=List.Pairwise.of_map ρ (fun a b h e=>h (by rw[e])) (w.nodup _ _ (h.node x n e))
 chain x:=by
  cases e:a x with
  | none=>exact⟨[],.out e,by simp⟩
  | some n=>
   obtain⟨l,hl,h1⟩:=w.chain (ρ x);obtain⟨l',h2,h3⟩:=h.up' w hl x (.inr (bR e)) rfl;exact⟨l',h2,by rw[h3,List.length_map] at h1;exact h1⟩
theorem Im.up (h:Im ρ a g) (w:WF 0 g) {x:Int} (hx:Lv a x):aY g (ρ x)=(aY a x).map ρ:=by
 obtain⟨l',h2,h3⟩:=h.up' w (w.bY (ρ x)).1 x hx rfl;rw[h3,(h.pull w).iq h2]
theorem Im.Eu (h:Im ρ a g) (w:WF 0 g) {x y:Int} (hy:y∈aY a x):(a y).isSome:=((h.pull w).bY x).1.mem hy
theorem Im.walk (h:Im ρ a g) (w:WF 0 g):∀ x,(a x).isSome→ak g (ρ x)=(ak a x).map ρ:=by
 refine (h.pull w).induct fun x ih hx=>?_;obtain⟨n,e⟩:=Option.isSome_iff_exists.1 hx;rw[w.dx (h.node x n e),(h.pull w).dx e,List.map_cons,List.map_flatMap];congr 1;rw[show (fC ρ n).kids=n.kids.map ρ from rfl,List.flatMap_map];exact GQ fun k hk=>ih n e k hk (h.kids x n e k hk)
where
 GQ {f k:Int→List Int} {l:List Int} (h:∀ x∈l,f x=k x):l.flatMap f=l.flatMap k:=uT h
theorem Im.hgt (h:Im ρ a g) (w:WF 0 g):∀ x,(a x).isSome→gF g (ρ x)=gF a x:=by
 refine (h.pull w).induct fun x ih hx=>?_;obtain⟨n,e⟩:=Option.isSome_iff_exists.1 hx;rw[w.iQ (h.node x n e),(h.pull w).iQ e,show (fC ρ n).kids=n.kids.map ρ from rfl,List.map_map];congr 2;exact List.map_congr_left fun k hk=>ih n e k hk (h.kids x n e k hk)
theorem Im.kid (h:Im ρ a g) {x:Int} {n:GN} (e:a x=some n):au g (ρ x)=n.kids.map ρ:=aH (h.node x n e)
theorem Im.dG (h:Im ρ a g) {x:Int} {n:GN} (e:a x=some n):dG g (ρ x)=ρ n.pa:=aL (h.node x n e)
theorem ME {l:List Int} {x:Int} (hi:∀ y∈l,ρ y=ρ x→y=x):(l.erase x).map ρ=(l.map ρ).erase (ρ x):=by
 induction l with
 | nil=>rfl
 | cons b r ih=>
  by_cases e:b=x
  ·subst e;rw[List.erase_cons_head,List.map_cons,List.erase_cons_head]
  ·have e2:ρ b≠ρ x:=fun e2=>e (hi b (by simp) e2);rw[List.erase_cons_tail (by simpa using e),List.map_cons,List.map_cons,List.erase_cons_tail (by simpa using e2),ih fun y hy=>hi y (List.mem_cons_of_mem _ hy)]
theorem Pf {l:List Int} {c x:Int} (hi:∀ y∈l,ρ y=ρ c→y=c):(iw l c x).map ρ=iw (l.map ρ) (ρ c) (ρ x):=by
 induction l with
 | nil=>rfl
 | cons b r ih=>
  by_cases e:b=c
  ·subst e;rw[iw,if_pos rfl,List.map_cons,List.map_cons,iw,if_pos rfl]
  ·have e2:ρ b≠ρ c:=fun e2=>e (hi b (by simp) e2);rw[iw,if_neg e,List.map_cons,List.map_cons,iw,if_neg e2,ih fun y hy=>hi y (List.mem_cons_of_mem _ hy)]
theorem MG {l:List Int} {x:Int} (hi:∀ y∈l,ρ y=ρ x→y=x):(l.map ρ).idxOf (ρ x)=l.idxOf x:=by
 induction l with
 | nil=>rfl
 | cons b r ih=>
  rw[List.map_cons,List.idxOf_cons,List.idxOf_cons,ih fun y hy=>hi y (List.mem_cons_of_mem _ hy)];by_cases e:b=x
  ·subst e;simp
  ·have e2:ρ b≠ρ x:=fun e2=>e (hi b (by simp) e2);have h1:(b == x)=false:=by simpa using e
   have h2:(ρ b == ρ x)=false:=by simpa using e2
   rw[h1,h2]
theorem Im.change (h:Im ρ a g) {a' g':G} (hd:∀ x,(a' x).isSome=(a x).isSome) (hd2:∀ x,(g' x).isSome=(g x).isSome)
  (hn:∀ x n,a' x=some n→g' (ρ x)=some (fC ρ n)) (hp:∀ x n,a' x=some n→n.pa = -1∨(a n.pa).isSome) (hk:∀ x n,a' x=some n→∀ k∈n.kids,(a k).isSome):Im ρ a' g' where
 zero:=h.zero
 node:=hn
 dom y hy:=by
  obtain⟨x,h1,h2⟩:=h.dom y (by rw[←hd2];exact hy);exact⟨x,by rw[hd];exact h1,h2⟩
 inj x y hx hy:=h.inj x y (by rw[←hd];exact hx) (by rw[←hd];exact hy)
 nz x hx:=h.nz x (by rw[←hd];exact hx)
 neg:=by
  have:=hd (-1);rw[h.neg] at this;exact Option.not_isSome_iff_eq_none.1 (by rw[this];simp)
 pa x n e:=by rw[hd];exact hp x n e
 kids x n e k hm:=by rw[hd];exact hk x n e k hm
def ug (a:G) (i:Int):G:=fun x=>if x=i then (a i).map fun n=>{ n with pa := -1 } else if x=Tr.dG a i then (a x).map fun n=>{ n with kids:=n.kids.erase i } else a x
theorem isSome_map {α β:Type} (o:Option α) (f:α→β):(o.map f).isSome=o.isSome:=by cases o<;>rfl
theorem GR (a:G) (i x:Int):(ug a i x).isSome=(a x).isSome:=by
 unfold ug;split
 ·rename_i e;subst e;exact isSome_map _ _
 ·split
  ·exact isSome_map _ _
  ·rfl
theorem Im.cut (h:Im ρ a g) (w:WF 0 g) {i:Int} {n:GN} (ei:a i=some n) (hp:n.pa ≠ -1):Im ρ (ug a i) (iZ g (ρ i)):=by
 have ep:=h.dG ei;have hps:(a n.pa).isSome:=by rcases h.pa i n ei with h1 | h1;exact absurd h1 hp;exact h1
 refine h.change (GR a i) (fun x=>iF) ?_ ?_ ?_
 ·intro x q e;unfold ug at e;by_cases hx:x=i
  ·subst hx;rw[if_pos rfl,ei] at e;obtain rfl:=Option.some.inj e;rw[lV (h.node x n ei)];unfold fC;dsimp only;rw[h.zero]
  ·rw[if_neg hx] at e;have hxi:∀ q',a x=some q'→ρ x≠ρ i:=fun q' e' e2=>hx (h.inj x i (bR e') (bR ei) e2);by_cases hx2:x=Tr.dG a i
   ·rw[if_pos hx2] at e;cases eq:a x with
    | none=>rw[eq] at e;cases e
    | some q'=>
     rw[eq] at e;obtain rfl:=Option.some.inj e;have e3:Tr.dG g (ρ i)=ρ x:=by rw[ep,hx2,aL ei]
     unfold iZ;rw[if_neg (hxi q' eq),if_pos e3.symm,h.node x q' eq];show some _=some _;congr 1;unfold fC;dsimp only;rw[ME fun y hy e4=>h.inj y i (h.kids x q' eq y hy) (bR ei) e4]
   ·rw[if_neg hx2] at e;have e3:ρ x≠Tr.dG g (ρ i):=by
     rw[ep];intro e4;exact hx2 (by rw[aL ei];exact h.inj x n.pa (bR e) hps e4)
    rw[yY (hxi q e) e3];exact h.node x q e
 ·intro x q e;unfold ug at e
  split at e
  ·rename_i hx;subst hx;rw[ei] at e;obtain rfl:=Option.some.inj e;exact .inl rfl
  ·split at e
   ·cases eq:a x with
    | none=>rw[eq] at e;cases e
    | some q'=>rw[eq] at e;obtain rfl:=Option.some.inj e;exact h.pa x q' eq
   ·exact h.pa x q e
 ·intro x q e k hk;unfold ug at e
  split at e
  ·rename_i hx;subst hx;rw[ei] at e;obtain rfl:=Option.some.inj e;exact h.kids x n ei k hk
  ·split at e
   ·cases eq:a x with
    | none=>rw[eq] at e;cases e
    | some q'=>rw[eq] at e;obtain rfl:=Option.some.inj e;exact h.kids x q' eq k (List.mem_of_mem_erase hk)
   ·exact h.kids x q e k hk
def lI (a:G) (p i c:Int):G:=fun x=>if x=i then (a i).map fun n=>{ n with pa:=p } else if x=p then (a p).map fun n=>{ n with kids:=iw n.kids c i } else a x
theorem Ev (a:G) (p i c x:Int):(lI a p i c x).isSome=(a x).isSome:=by
 unfold lI;split
 ·rename_i e;subst e;exact isSome_map _ _
 ·split
  ·rename_i e;subst e;exact isSome_map _ _
  ·rfl
theorem Im.link (h:Im ρ a g) (w:WF 0 g) {p i c:Int} {n q:GN} (ei:a i=some n) (ep:a p=some q) (hpi:p≠i) (hc:Lv a c):Im ρ (lI a p i c) (bg g (ρ p) (ρ i) (ρ c)):=by
 have Vq:ρ p≠ρ i:=fun e=>hpi (h.inj _ _ (bR ep) (bR ei) e);refine h.change (Ev a p i c) (fun x=>vY (bR (h.node p q ep))) ?_ ?_ ?_
 ·intro x q' e;unfold lI at e;by_cases hx:x=i
  ·subst hx;rw[if_pos rfl,ei] at e;obtain rfl:=Option.some.inj e;rw[iJ (h.node x n ei)];rfl
  ·rw[if_neg hx] at e;by_cases hx2:x=p
   ·subst hx2;rw[if_pos rfl,ep] at e;obtain rfl:=Option.some.inj e;rw[nZ (h.node x q ep) Vq];unfold fC;dsimp only;rw[Pf fun y hy e4=>h.Vp (.inr (h.kids x q ep y hy)) hc e4]
   ·rw[if_neg hx2] at e;rw[sH (fun e2=>hx (h.inj x i (bR e) (bR ei) e2)) (fun e2=>hx2 (h.inj x p (bR e) (bR ep) e2))];exact h.node x q' e
 ·intro x q' e;unfold lI at e
  split at e
  ·rename_i hx;subst hx;rw[ei] at e;obtain rfl:=Option.some.inj e;exact .inr (bR ep)
  ·split at e
   ·rename_i hx;subst hx;rw[ep] at e;obtain rfl:=Option.some.inj e;exact h.pa x q ep
   ·exact h.pa x q' e
 ·intro x q' e k hk;unfold lI at e
  split at e
  ·rename_i hx;subst hx;rw[ei] at e;obtain rfl:=Option.some.inj e;exact h.kids x n ei k hk
  ·split at e
   ·rename_i hx;subst hx;rw[ep] at e;obtain rfl:=Option.some.inj e;rcases sI.1 hk with rfl | hk
    ·exact bR ei
    ·exact h.kids x q ep k hk
   ·exact h.kids x q' e k hk
def cO (g:G) (h:Int) (u:GN→GN):G:=fun x=>if x=h then (g h).map u else g x
theorem yC (g:G) (h:Int) (u:GN→GN) (x:Int):(cO g h u x).isSome=(g x).isSome:=by
 unfold cO;split
 ·rename_i e;subst e;exact isSome_map _ _
 ·rfl
theorem Im.put (h:Im ρ a g) {i:Int} (hi:(a i).isSome) (u:GN→GN) (hu:∀ n,(u n).pa=n.pa∧(u n).kids=n.kids) (hm:∀ n,u (fC ρ n)=fC ρ (u n)):Im ρ (cO a i u) (cO g (ρ i) u):=by
 refine h.change (yC a i u) (yC g _ u) ?_ ?_ ?_
 ·intro x q e;unfold cO at e ⊢;by_cases hx:x=i
  ·subst hx;obtain⟨n,en⟩:=Option.isSome_iff_exists.1 hi;rw[if_pos rfl,en] at e;obtain rfl:=Option.some.inj e;rw[if_pos rfl,h.node x n en];show some _=some _;rw[hm]
  ·rw[if_neg hx] at e;rw[if_neg (fun e2=>hx (h.inj x i (bR e) hi e2))];exact h.node x q e
 ·intro x q e;unfold cO at e
  split at e
  ·rename_i hx;subst hx;obtain⟨n,en⟩:=Option.isSome_iff_exists.1 hi;rw[en] at e;obtain rfl:=Option.some.inj e;rw[(hu n).1];exact h.pa x n en
  ·exact h.pa x q e
 ·intro x q e k hk;unfold cO at e
  split at e
  ·rename_i hx;subst hx;obtain⟨n,en⟩:=Option.isSome_iff_exists.1 hi;rw[en] at e;obtain rfl:=Option.some.inj e;rw[(hu n).2] at hk;exact h.kids x n en k hk
  ·exact h.kids x q e k hk
theorem Im.add (h:Im ρ a g) {ρ':Int→Int} {i x:Int} {n:GN} (hρ:∀ y,y = -1∨(a y).isSome→ρ' y=ρ y) (hi:a i=none) (hi1:i ≠ -1) (hx:g x=none) (hx0:x≠0) (ei:ρ' i=x) (hp:n.pa = -1) (hk:n.kids=[]):
  Im ρ' (dI a i n) (dI g x { n with pa:=0 }):=by
 have hmap:∀ y q,a y=some q→fC ρ' q=fC ρ q:=fun y q e=>by
  unfold fC;rw[hρ q.pa (h.pa y q e)];congr 1;exact List.map_congr_left fun k hk=>hρ k (.inr (h.kids y q e k hk))
 have hne:∀ y q,a y=some q→y≠i:=fun y q e e2=>by rw[e2,hi] at e;cases e
 have hρx:∀ y q,a y=some q→ρ y≠x:=fun y q e e2=>by
  have:=h.node y q e;rw[e2,hx] at this;cases this
 have hS:∀ y,(dI a i n y).isSome→y=i∨(a y).isSome:=fun y hy=>by
  by_cases e:y=i
  ·exact .inl e
  ·rw[bS e] at hy;exact .inr hy
 have hup:∀ y,(a y).isSome→(dI a i n y).isSome:=fun y hy=>by
  obtain⟨q,e⟩:=Option.isSome_iff_exists.1 hy;rw[bS (hne y q e)];exact hy
 constructor
 ·rw[hρ (-1) (.inl rfl)];exact h.zero
 ·intro y q e;by_cases hy:y=i
  ·subst hy;rw[bL] at e;obtain rfl:=Option.some.inj e;rw[ei,bL];unfold fC;rw[hp,hρ (-1) (.inl rfl),h.zero,hk];rfl
  ·rw[bS hy] at e;rw[hρ y (.inr (bR e)),bS (hρx y q e),hmap y q e];exact h.node y q e
 ·intro y hy;by_cases e:y=x
  ·exact⟨i,by rw[bL];rfl,by rw[ei,e]⟩
  ·rw[bS e] at hy;obtain⟨z,h1,h2⟩:=h.dom y hy;exact⟨z,hup z h1,by rw[hρ z (.inr h1)];exact h2⟩
 ·intro y z hy hz e;rcases hS y hy with hy1 | hy1
  ·rcases hS z hz with hz1 | hz1
   ·rw[hy1,hz1]
   ·obtain⟨q,eq⟩:=Option.isSome_iff_exists.1 hz1;rw[hy1,ei,hρ z (.inr hz1)] at e;exact absurd e.symm (hρx z q eq)
  ·obtain⟨q,eq⟩:=Option.isSome_iff_exists.1 hy1;rcases hS z hz with hz1 | hz1
   ·rw[hz1,ei,hρ y (.inr hy1)] at e;exact absurd e (hρx y q eq)
   ·rw[hρ y (.inr hy1),hρ z (.inr hz1)] at e;exact h.inj y z hy1 hz1 e
 ·intro y hy;rcases hS y hy with hy1 | hy1
  ·rw[hy1,ei];exact hx0
  ·rw[hρ y (.inr hy1)];exact h.nz y hy1
 ·rw[bS (fun e=>hi1 e.symm)];exact h.neg
 ·intro y q e;by_cases hy:y=i
  ·subst hy;rw[bL] at e;obtain rfl:=Option.some.inj e;exact .inl hp
  ·rw[bS hy] at e;rcases h.pa y q e with h1 | h1
   ·exact .inl h1
   ·exact .inr (hup _ h1)
 ·intro y q e k hk';by_cases hy:y=i
  ·subst hy;rw[bL] at e;obtain rfl:=Option.some.inj e;rw[hk] at hk';cases hk'
  ·rw[bS hy] at e;exact hup k (h.kids y q e k hk')
end
end Tr
end
section
namespace bD
def cont (b:UInt8):Bool:=decide (128≤b.toNat) && decide (b.toNat≤191)
def snd (a b:UInt8):Bool:=
 if a.toNat=224 then decide (160≤b.toNat) && decide (b.toNat≤191)
 else if a.toNat=237 then decide (128≤b.toNat) && decide (b.toNat≤159)
 else if a.toNat=240 then decide (144≤b.toNat) && decide (b.toNat≤191)
 else if a.toNat=244 then decide (128≤b.toNat) && decide (b.toNat≤143)
 else cont b
theorem Pg {a b:UInt8} (h:snd a b=true):cont b=true:=by
 unfold snd at h
 repeat' split at h
 all_goals first | exact h | (simp[cont] at h ⊢;omega)
def size:List UInt8→Nat
 | []=>0
 | a::r=>
  if a.toNat≤127 then 1
  else if 194≤a.toNat∧a.toNat≤223 then (match r with | b::_=>if cont b then 2 else 0 | _=>0)
  else if 224≤a.toNat∧a.toNat≤239 then (match r with | b::c::_=>if snd a b && cont c then 3 else 0 | _=>0)
  else if 240≤a.toNat∧a.toNat≤244 then (match r with | b::c::d::_=>if snd a b && cont c && cont d then 4 else 0 | _=>0)
  else 0
inductive Begins:List UInt8→Nat→Prop
 | one (a r):a.toNat≤127→Begins (a::r) 1
 | two (a b r):194≤a.toNat→a.toNat≤223→cont b=true→Begins (a::b::r) 2
 | three (a b c r):224≤a.toNat→a.toNat≤239→snd a b=true→cont c=true→Begins (a::b::c::r) 3
 | four (a b c d r):240≤a.toNat→a.toNat≤244→snd a b=true→cont c=true→cont d=true→Begins (a::b::c::d::r) 4
theorem gL {l:List UInt8} {n:Nat} (h:Begins l n):size l=n:=by
 cases h with
 | one a r h=>simp[size,h]
 | two a b r h1 h2 h3=>
  have e:¬ a.toNat≤127:=by omega
  simp[size,h1,h2,h3,e]
 | three a b c r h1 h2 h3 h4=>
  have e:¬ a.toNat≤127:=by omega
  have e2:¬ (194≤a.toNat∧a.toNat≤223):=by omega
  simp only[size,if_neg e,if_neg e2,if_pos (And.intro h1 h2),h3,h4];rfl
 | four a b c d r h1 h2 h3 h4 h5=>
  have e:¬ a.toNat≤127:=by omega
  have e2:¬ (194≤a.toNat∧a.toNat≤223):=by omega
  have e3:¬ (224≤a.toNat∧a.toNat≤239):=by omega
  simp only[size,if_neg e,if_neg e2,if_neg e3,if_pos (And.intro h1 h2),h3,h4,h5];rfl
theorem lW {l:List UInt8} (h:size l≠0):Begins l (size l):=by
 cases l with
 | nil=>exact absurd rfl h
 | cons a r=>
  by_cases e:a.toNat≤127
  ·rw[gL (.one a r e)];exact .one a r e
  ·by_cases e2:194≤a.toNat∧a.toNat≤223
   ·simp only[size,if_neg e,if_pos e2] at h
    match r,h with
    | [],h=>exact absurd rfl h
    | b::r,h=>
     cases hb:cont b with
     | false=>simp[hb] at h
     | true=>have:=Begins.two a b r e2.1 e2.2 hb;rw[gL this];exact this
   ·by_cases e3:224≤a.toNat∧a.toNat≤239
    ·simp only[size,if_neg e,if_neg e2,if_pos e3] at h
     match r,h with
     | [],h=>exact absurd rfl h
     | [_],h=>exact absurd rfl h
     | b::c::r,h=>
      cases hb:snd a b && cont c with
      | false=>simp[hb] at h
      | true=>
       simp only[Bool.and_eq_true] at hb;have:=Begins.three a b c r e3.1 e3.2 hb.1 hb.2;rw[gL this];exact this
    ·by_cases e4:240≤a.toNat∧a.toNat≤244
     ·simp only[size,if_neg e,if_neg e2,if_neg e3,if_pos e4] at h
      match r,h with
      | [],h=>exact absurd rfl h
      | [_],h=>exact absurd rfl h
      | [_,_],h=>exact absurd rfl h
      | b::c::d::r,h=>
       cases hb:snd a b && cont c && cont d with
       | false=>simp[hb] at h
       | true=>
        simp only[Bool.and_eq_true] at hb;have:=Begins.four a b c d r e4.1 e4.2 hb.1.1 hb.1.2 hb.2;rw[gL this];exact this
     ·simp only[size,if_neg e,if_neg e2,if_neg e3,if_neg e4] at h;exact absurd rfl h
theorem Begins.le {l:List UInt8} {n:Nat} (h:Begins l n):n≤l.length:=by cases h<;>simp
theorem Begins.fG {l:List UInt8} {n:Nat} (h:Begins l n):1≤n∧n≤4:=by cases h<;>omega
theorem Begins.other {l:List UInt8} {n:Nat} (h:Begins l n) (r:List UInt8):Begins (l.take n++r) n:=by
 cases h with
 | one a t h=>exact .one a _ h
 | two a b t h1 h2 h3=>exact .two a b _ h1 h2 h3
 | three a b c t h1 h2 h3 h4=>exact .three a b c _ h1 h2 h3 h4
 | four a b c d t h1 h2 h3 h4 h5=>exact .four a b c d _ h1 h2 h3 h4 h5
theorem size_le (l:List UInt8):size l≤l.length:=by
 by_cases h:size l=0
 ·omega
 ·exact (lW h).le
theorem MH (l:List UInt8):size l≤4:=by
 by_cases h:size l=0
 ·omega
 ·exact (lW h).fG.2
def bad:List UInt8:=[239,191,189]
theorem Ak (r:List UInt8):Begins (bad++r) 3:=.three 239 191 189 r (by decide) (by decide) (by decide) (by decide)
def chunks (l:List UInt8):List (List UInt8):=
 match l with
 | []=>[]
 | a::r=>if size (a::r)=0 then bad::chunks r else (a::r).take (size (a::r))::chunks ((a::r).drop (size (a::r)))
termination_by l.length
decreasing_by
 ·simp
 ·simp only[List.length_drop,List.length_cons];omega
def rep (l:List UInt8):List UInt8:=(chunks l).flatten
theorem je:chunks []=[]:=by unfold chunks;rfl
theorem qM {a:UInt8} {r:List UInt8} (h:size (a::r)=0):chunks (a::r)=bad::chunks r:=by
 conv=>lhs;unfold chunks
 exact if_pos h
theorem mF {l:List UInt8} (h:size l≠0):chunks l=l.take (size l)::chunks (l.drop (size l)):=by
 cases l with
 | nil=>exact absurd rfl h
 | cons a r=>
  conv=>lhs;unfold chunks
  exact if_neg h
theorem BL {l:List UInt8} {n:Nat} (h:Begins l n):chunks l=l.take n::chunks (l.drop n):=by
 have e:=gL h;have:=h.fG;rw[mF (by omega),e]
def Good (c:List UInt8):Prop:=Begins c c.length
theorem Ph:Good bad:=Ak []
theorem MI {l:List UInt8} (h:size l≠0):Good (l.take (size l)):=by
 have hb:=(lW h).other [];have hl:(l.take (size l)).length=size l:=by rw[List.length_take];have:=size_le l;omega
 unfold Good;rw[hl];simpa using hb
theorem xB {c:List UInt8} (h:Good c) (r:List UInt8):chunks (c++r)=c::chunks r:=by
 have hb:=Begins.other h r;rw[List.take_length] at hb;rw[BL hb,List.take_left,List.drop_left]
theorem cu (l:List UInt8):∀ c∈chunks l,Good c:=by
 induction h:l.length using Nat.strongRecOn generalizing l with
 | _ n ih=>
  cases l with
  | nil=>rw[je];intro c hc;cases hc
  | cons a r=>
   by_cases h0:size (a::r)=0
   ·rw[qM h0];intro c hc;rcases List.mem_cons.1 hc with rfl | hc
    ·exact Ph
    ·exact ih r.length (by subst h;simp) r rfl c hc
   ·rw[mF h0];intro c hc;rcases List.mem_cons.1 hc with rfl | hc
    ·exact MI h0
    ·exact ih _ (by subst h;simp only[List.length_drop,List.length_cons];omega) _ rfl c hc
theorem xP {cs:List (List UInt8)} (h:∀ c∈cs,Good c) (u:List UInt8):chunks (cs.flatten++u)=cs++chunks u:=by
 induction cs with
 | nil=>rfl
 | cons c cs ih=>
  rw[List.flatten_cons,List.append_assoc,xB (h c List.mem_cons_self),ih (fun c' hc=>h c' (List.mem_cons_of_mem _ hc))];rfl
theorem vZ (l u:List UInt8):chunks (rep l++u)=chunks l++chunks u:=xP (cu l) u
theorem JU (l:List UInt8):chunks (rep l)=chunks l:=by
 have:=vZ l []
 rwa [List.append_nil,je,List.append_nil] at this
theorem oJ:rep []=[]:=by unfold rep;rw[je];rfl
theorem KZ (l:List UInt8):rep (rep l)=rep l:=by
 have:rep (rep l)=(chunks (rep l)).flatten:=rfl;rw[this,JU];rfl
theorem Ew {a:UInt8} {r:List UInt8} (h:size (a::r)=0):rep (a::r)=bad++rep r:=by
 unfold rep;rw[qM h];rfl
theorem wh {l:List UInt8} (h:size l≠0):rep l=l.take (size l)++rep (l.drop (size l)):=by
 unfold rep;rw[mF h];rfl
theorem nk (l:List UInt8):(rep l).length≤3*l.length:=by
 induction h:l.length using Nat.strongRecOn generalizing l with
 | _ n ih=>
  cases l with
  | nil=>rw[oJ];simp
  | cons a r=>
   subst h;by_cases h0:size (a::r)=0
   ·rw[Ew h0];have:=ih r.length (by simp) r rfl;simp only[List.length_append,List.length_cons,bad,List.length_nil];omega
   ·rw[wh h0];have hl:=size_le (a::r);have:=ih ((a::r).drop (size (a::r))).length (by simp only[List.length_drop,List.length_cons];omega) _ rfl;simp only[List.length_append,List.length_take,List.length_drop] at this ⊢;omega
theorem uR (l:List UInt8):(chunks l).length≤l.length:=by
 induction h:l.length using Nat.strongRecOn generalizing l with
 | _ n ih=>
  cases l with
  | nil=>rw[je];simp
  | cons a r=>
   subst h;by_cases h0:size (a::r)=0
   ·rw[qM h0];have:=ih r.length (by simp) r rfl;simp only[List.length_cons];omega
   ·rw[mF h0];have hl:=size_le (a::r);have:=ih ((a::r).drop (size (a::r))).length (by simp only[List.length_drop,List.length_cons];omega) _ rfl;simp only[List.length_cons,List.length_drop] at this ⊢;omega
end bD
end
section
namespace bD
def sp (c:UInt8):Bool:=c.toNat == 9 || c.toNat == 10 || c.toNat == 12 || c.toNat == 13 || c.toNat == 32
def lo (c:UInt8):UInt8:=if 65≤c.toNat∧c.toNat≤90 then c+32 else c
def up (c:UInt8):UInt8:=if 97≤c.toNat∧c.toNat≤122 then c - 32 else c
end bD
end
section
open Go.RowKit
theorem JV {a b:Bool} (h:a=b):Ending.returned (.bool a)=.returned (.bool b):=by rw[h]
theorem aa8 {a b:Int} (h:a=b):Ending.returned (.int .i64 a)=.returned (.int .i64 b):=by rw[h]
def oW (s:ByteArray) (i lo hi:Nat):Bool:=if h:i<s.size then decide (lo≤s[i].toNat) && decide (s[i].toNat≤hi) else false
theorem Ey (s:ByteArray) (i lo hi:Nat) (w:World):
  Calls Tryz.prog 118 #[.string s,.int .i64 i,.int .u8 lo,.int .u8 hi] w fun e w'=>e=.returned (.bool (oW s i lo hi))∧w=w':=by
 by_cases h:i<s.size
 ·have e:oW s i lo hi=(decide (lo≤s[i].toNat) && decide (s[i].toNat≤hi)):=dif_pos h;have HE:=zh e;clear e
  go_enter Tryz.func118,Tryz.ntmps118
  go_wp2
  all_goals go_ret
  all_goals refine⟨JV ?_,rfl⟩
  all_goals rw[HE.out]
  all_goals simp[*]
 ·have e:oW s i lo hi=false:=dif_neg h;have HE:=zh e;clear e
  go_enter Tryz.func118,Tryz.ntmps118
  go_wp2
  all_goals go_ret
  all_goals exact⟨JV HE.out.symm,rfl⟩
theorem Vr (s:ByteArray) (i:Nat) (j lo hi:Int) (w:World) (hj:j=i) (h1:0≤lo) (h2:0≤hi):
  Calls Tryz.prog 118 #[.string s,.int .i64 j,.int .u8 lo,.int .u8 hi] w fun e w'=>e=.returned (.bool (oW s i lo.toNat hi.toNat))∧w=w':=by
 have:=Ey s i lo.toNat hi.toNat w;rw[Int.toNat_of_nonneg h1,Int.toNat_of_nonneg h2,←hj] at this;exact this
theorem Ez (s:ByteArray) (i lo hi:Nat) (j lo' hi':Int) (w:World) (hj:j=i) (h1:lo'=lo) (h2:hi'=hi):
  Calls Tryz.prog 118 #[.string s,.int .i64 j,.int .u8 lo',.int .u8 hi'] w fun e w'=>e=.returned (.bool (oW s i lo hi))∧w=w':=by
 subst hj h1 h2;exact Ey s i lo hi w
theorem Lc {s:ByteArray} {i lo hi:Nat} (h:oW s i lo hi=true):i<s.size:=by
 unfold oW at h
 split at h
 ·assumption
 ·cases h
def jF (s:ByteArray):Nat→Nat→Bool
 | _,0=>true
 | i,n+1=>oW s i 128 191 && jF s (i+1) n
theorem MJ {s:ByteArray} {i n k:Nat} (hk:k<n) (ht:jF s i n=jF s (i+k) (n - k)):jF s i n=(oW s (i+k) 128 191 && jF s (i+(k+1)) (n - (k+1))):=by
 rw[ht,show n - k=(n - (k+1))+1 from by omega];rfl
theorem Pj (s:ByteArray) (i n:Nat) (w:World) (hi:i≤281474976710656) (hn:n≤4):
  Calls Tryz.prog 119 #[.string s,.int .i64 i,.int .i64 n] w fun e w'=>e=.returned (.bool (jF s i n))∧w=w':=by
 go_enter Tryz.func119,Tryz.ntmps119
 go_wp2_with fail
 go_loop [7] (fun j=>∃ k:Nat,k≤n∧j=.int .i64 k∧jF s i n=jF s (i+k) (n - k)) (fun j=>n - (intOf j).toNat)
 case atStart=>exact⟨0,Nat.zero_le _,rfl,rfl⟩
 case round=>
  obtain⟨k,hk,rfl,ht⟩:=hrel;by_cases hlt:k<n
  ·have HT:=zh (MJ hlt ht);clear ht;cases hin:oW s (i+k) 128 191 with
   | false=>
    have HN:=zh hin;clear hin;go_wp2_with fail;refine (Ey s (i+k) 128 191 w).mono ?_;rintro e w' ⟨rfl,rfl⟩;rw[HN.out];go_wp2_with fail
    go_ret
    exact⟨JV (by rw[HT.out,HN.out];rfl),rfl⟩
   | true=>
    have HN:=zh hin;clear hin;go_wp2_with fail;refine (Ey s (i+k) 128 191 w).mono ?_;rintro e w' ⟨rfl,rfl⟩;rw[HN.out];go_wp2_with fail
    go_round
    case rel=>exact⟨k+1,by omega,by go_num,by rw[HT.out,HN.out];rfl⟩
    case measure=>simp[intOf];omega
  ·have ek:k=n:=by omega
   have HT:=zh ht;subst ek;clear ht;go_wp2_with fail
   go_ret
   exact⟨JV (by rw[HT.out,Nat.sub_self];rfl),rfl⟩
theorem Al (s:ByteArray) (i n:Nat) (j n':Int) (w:World) (hj:j=i) (h1:n'=n) (hi:i≤281474976710656) (hn:n≤4):
  Calls Tryz.prog 119 #[.string s,.int .i64 j,.int .i64 n'] w fun e w'=>e=.returned (.bool (jF s i n))∧w=w':=by
 subst hj h1;exact Pj s i n w hi hn
def wm (s:ByteArray) (i:Nat):Bool:=if h:i+1<s.size then bD.snd s[i] s[i+1] else false
theorem Pk (s:ByteArray) (i lo hi:Nat) (h0:i<s.size) (h:∀ b:UInt8,bD.snd s[i] b=(decide (lo≤b.toNat) && decide (b.toNat≤hi))):oW s (i+1) lo hi=wm s i:=by
 unfold oW wm;by_cases h1:i+1<s.size
 ·rw[dif_pos h1,dif_pos h1,h]
 ·rw[dif_neg h1,dif_neg h1]
theorem JW (s:ByteArray) (i:Nat) (w:World) (hi:i<s.size) (hs:s.size≤281474976710656):
  Calls Tryz.prog 120 #[.string s,.int .i64 i] w fun e w'=>e=.returned (.bool (wm s i))∧w=w':=by
 have HS:=zh (Pk s i)
 go_enter Tryz.func120,Tryz.ntmps120
 go_wp2_with fail;all_goals refine (Vr s (i+1) _ _ _ w (by omega) (by decide) (by decide)).mono ?_
 all_goals rintro e w' ⟨rfl,rfl⟩
 all_goals go_wp2_with fail
 all_goals go_ret
 all_goals refine⟨JV (HS.out _ _ hi fun b=>?_),rfl⟩
 all_goals simp only[beq_iff_eq,beq_eq_false_iff_ne,ne_eq] at*
 all_goals unfold bD.snd bD.cont
 all_goals repeat' split
 all_goals first | rfl | omega
theorem JX (c:UInt8) (w:World):
  Calls Tryz.prog 115 #[.int .u8 c.toNat] w fun e w'=>e=.returned (.bool (bD.sp c))∧w=w':=by
 go_enter Tryz.func115,Tryz.ntmps115
 go_wp2
 all_goals go_ret
 all_goals refine⟨JV ?_,rfl⟩
 all_goals unfold bD.sp
 all_goals rw[Bool.eq_iff_iff]
 all_goals simp
 all_goals omega
theorem wu (c:UInt8) (w:World):
  Calls Tryz.prog 115 #[.int .u8 c.toNat] w fun e w'=>e=.returned (.bool (bD.sp c))∧Below w.heap.size w w':=by
 refine (JX c w).mono ?_;rintro e w2 ⟨rfl,rfl⟩;exact⟨rfl,Below.refl _ _⟩
end
section
open Go Go.RowKit
def Lit (w:World):Prop:=Lib.Utf8Tabs 0 1 w
theorem Aq {w w':World} {a:Addr} {v:Value} (h:w.cell? a=some v) (hb:Below w.heap.size w w'):w'.cell? a=some v:=(hb.cell (World.block_lt_of_cell? w a h)).trans h
theorem Lit.below {w w':World} (h:Lit w) (hb:Below w.heap.size w w'):Lit w':=
 ⟨fun c hc=>Aq (h.1 c hc) hb,fun i hi=>⟨Aq (h.2 i hi).1 hb,Aq (h.2 i hi).2 hb⟩⟩
end
section
namespace bD
def CZ (l : List UInt8) (k : Nat) : Nat := (l.getD k 0).toNat
def step (l : List UInt8) : Nat × Nat := Lib.decodeN l.length (CZ l 0) (CZ l 1) (CZ l 2) (CZ l 3)
theorem EA {a b : UInt8} (h : snd a b = true) : 128 ≤ b.toNat ∧ b.toNat ≤ 191 := by
 have := Pg h;simpa [cont] using this
theorem yZ {a b : UInt8} (h : snd a b = true) : (a.toNat = 224 → 160 ≤ b.toNat) ∧ (a.toNat = 237 → b.toNat ≤ 159) ∧ (a.toNat = 240 → 144 ≤ b.toNat) ∧ (a.toNat = 244 → b.toNat ≤ 143) := by
 unfold snd at h;refine ⟨fun e => ?_, fun e => ?_, fun e => ?_, fun e => ?_⟩ <;> simp [e] at h <;> omega
theorem Pm {a b : UInt8} (h : 128 ≤ b.toNat ∧ b.toNat ≤ 191) (h1 : a.toNat = 224 → 160 ≤ b.toNat) (h2 : a.toNat = 237 → b.toNat ≤ 159) (h3 : a.toNat = 240 → 144 ≤ b.toNat) (h4 : a.toNat = 244 → b.toNat ≤ 143) : snd a b = true := by
 unfold snd cont
 repeat' split
 all_goals (simp; omega)
theorem jJ (b : UInt8) : cont b = true ↔ 128 ≤ b.toNat ∧ b.toNat ≤ 191 := by simp [cont]
theorem nH {a b : UInt8} {l m : List UInt8} (h : a = b) (h2 : l = m) : a :: l = b :: m := by rw [h, h2]
theorem byte_of (x : Int) (b : UInt8) (h : x = b.toNat) : x.toNat.toUInt8 = b := by
 subst h;simp
theorem GU (a : UInt8) (r : List UInt8) (h : a.toNat ≤ 127) : step (a :: r) = (a.toNat, 1) := by
 have : a.toNat < 128 := by omega
 simp [step, CZ, Lib.decodeN, this]
theorem GV (a b : UInt8) (r : List UInt8) (h1 : 194 ≤ a.toNat) (h2 : a.toNat ≤ 223) (h3 : cont b = true) : step (a :: b :: r) = (a.toNat % 32 * 64 + b.toNat % 64, 2) := by
 rw [jJ] at h3;have e1 : ¬ a.toNat < 128 := by omega
 have e2 : a.toNat / 32 = 6 ∧ 1 < (a :: b :: r).length ∧ b.toNat / 64 = 2 := ⟨by omega, by simp, by omega⟩
 have e3 : a.toNat % 32 * 64 + b.toNat % 64 ≥ 128 := by omega
 show Lib.decodeN _ a.toNat b.toNat _ _ = _;unfold Lib.decodeN;rw [if_neg e1, if_pos e2, if_pos e3]
theorem Au (a b c : UInt8) (r : List UInt8) (h1 : 224 ≤ a.toNat) (h2 : a.toNat ≤ 239) (h3 : snd a b = true) (h4 : cont c = true) :
  step (a :: b :: c :: r) = (a.toNat % 16 * 4096 + b.toNat % 64 * 64 + c.toNat % 64, 3) := by
 rw [jJ] at h4;have hb := EA h3;have hm := yZ h3;have e1 : ¬ a.toNat < 128 := by omega
 have e2 : ¬ (a.toNat / 32 = 6 ∧ 1 < (a :: b :: c :: r).length ∧ b.toNat / 64 = 2) := fun h => by omega
 have e3 : a.toNat / 16 = 14 ∧ (1 < (a :: b :: c :: r).length ∧ b.toNat / 64 = 2) ∧ (2 < (a :: b :: c :: r).length ∧ c.toNat / 64 = 2) := ⟨by omega, ⟨by simp, by omega⟩, by simp, by omega⟩
 show Lib.decodeN _ a.toNat b.toNat c.toNat _ = _;unfold Lib.decodeN;rw [if_neg e1, if_neg e2, if_pos e3, if_pos (by omega)]
theorem C8 (a b c d : UInt8) (r : List UInt8) (h1 : 240 ≤ a.toNat) (h2 : a.toNat ≤ 244) (h3 : snd a b = true) (h4 : cont c = true) (h5 : cont d = true) :
  step (a :: b :: c :: d :: r) = (a.toNat % 8 * 262144 + b.toNat % 64 * 4096 + c.toNat % 64 * 64 + d.toNat % 64, 4) := by
 rw [jJ] at h4 h5;have hb := EA h3;have hm := yZ h3;have e1 : ¬ a.toNat < 128 := by omega
 have e2 : ¬ (a.toNat / 32 = 6 ∧ 1 < (a :: b :: c :: d :: r).length ∧ b.toNat / 64 = 2) := fun h => by omega
 have e3 : ¬ (a.toNat / 16 = 14 ∧ (1 < (a :: b :: c :: d :: r).length ∧ b.toNat / 64 = 2) ∧ (2 < (a :: b :: c :: d :: r).length ∧ c.toNat / 64 = 2)) := fun h => by omega
 have e4 : a.toNat / 8 = 30 ∧ (1 < (a :: b :: c :: d :: r).length ∧ b.toNat / 64 = 2) ∧ (2 < (a :: b :: c :: d :: r).length ∧ c.toNat / 64 = 2) ∧ (3 < (a :: b :: c :: d :: r).length ∧ d.toNat / 64 = 2) :=
  ⟨by omega, ⟨by simp, by omega⟩, ⟨by simp, by omega⟩, by simp, by omega⟩
 show Lib.decodeN _ a.toNat b.toNat c.toNat d.toNat = _;unfold Lib.decodeN;rw [if_neg e1, if_neg e2, if_neg e3, if_pos e4, if_pos (by omega)]
theorem kE {l : List UInt8} {n : Nat} (h : Begins l n) : (step l).2 = n ∧ Lib.encodeRune ((step l).1 : Nat) = l.take n ∧ (n = 1 → (step l).1 < 128) := by
 cases h with
 | one a r h =>
  rw [GU a r h];refine ⟨rfl, ?_, fun _ => by show a.toNat < 128; omega⟩;show (Lib.encodeRuneZ (a.toNat : Nat)).map _ = [a]
  rw [Lib.encodeRuneZ_one (by omega) (by omega)];simp
 | two a b r h1 h2 h3 =>
  rw [GV a b r h1 h2 h3];rw [jJ] at h3;refine ⟨rfl, ?_, fun e => by omega⟩;show (Lib.encodeRuneZ ((a.toNat % 32 * 64 + b.toNat % 64 : Nat) : Int)).map _ = [a, b]
  rw [Lib.encodeRuneZ_two (by omega) (by omega)];exact nH (byte_of _ a (by omega)) (nH (byte_of _ b (by omega)) rfl)
 | three a b c r h1 h2 h3 h4 =>
  rw [Au a b c r h1 h2 h3 h4];rw [jJ] at h4;have hb := EA h3;have hm := yZ h3;refine ⟨rfl, ?_, fun e => by omega⟩;show (Lib.encodeRuneZ ((a.toNat % 16 * 4096 + b.toNat % 64 * 64 + c.toNat % 64 : Nat) : Int)).map _ = [a, b, c]
  rw [Lib.encodeRuneZ_three (by omega)];exact nH (byte_of _ a (by omega)) (nH (byte_of _ b (by omega)) (nH (byte_of _ c (by omega)) rfl))
 | four a b c d r h1 h2 h3 h4 h5 =>
  rw [C8 a b c d r h1 h2 h3 h4 h5];rw [jJ] at h4 h5;have hb := EA h3;have hm := yZ h3;refine ⟨rfl, ?_, fun e => by omega⟩;show (Lib.encodeRuneZ ((a.toNat % 8 * 262144 + b.toNat % 64 * 4096 + c.toNat % 64 * 64 + d.toNat % 64 : Nat) : Int)).map _ = [a, b, c, d]
  rw [Lib.encodeRuneZ_four (by omega) (by omega)];exact nH (byte_of _ a (by omega)) (nH (byte_of _ b (by omega)) (nH (byte_of _ c (by omega)) (nH (byte_of _ d (by omega)) rfl)))
theorem wB {l : List UInt8} (hne : l ≠ []) (h : size l = 0) : step l = (65533, 1) := by
 have no : ∀ n, ¬ Begins l n := fun n hb => by have := gL hb; have := hb.fG; omega
 unfold step Lib.decodeN
 match l, hne with
 | a :: r, _ =>
 have ha : CZ (a :: r) 0 = a.toNat := rfl;have abX := a.toNat_lt;by_cases e1 : a.toNat < 128
 ·exact absurd (.one a r (by omega)) (no 1)
 rw [ha, if_neg e1];by_cases e2 : a.toNat / 32 = 6 ∧ (1 < (a :: r).length ∧ CZ (a :: r) 1 / 64 = 2)
 ·rw [if_pos e2]
  match r, e2 with
  | b :: r, e2 =>
   have hb : CZ (a :: b :: r) 1 = b.toNat := rfl;rw [hb] at e2 ⊢;have hb2 := b.toNat_lt;by_cases e3 : a.toNat % 32 * 64 + b.toNat % 64 ≥ 128
   ·exact absurd (.two a b r (by omega) (by omega) ((jJ b).2 (by omega))) (no 2)
   ·rw [if_neg e3]
  | [], e2 => exact absurd e2.2.1 (by simp)
 rw [if_neg e2];by_cases e3 : a.toNat / 16 = 14 ∧ (1 < (a :: r).length ∧ CZ (a :: r) 1 / 64 = 2) ∧ (2 < (a :: r).length ∧ CZ (a :: r) 2 / 64 = 2)
 ·rw [if_pos e3]
  match r, e3 with
  | b :: c :: r, e3 =>
   have hb : CZ (a :: b :: c :: r) 1 = b.toNat := rfl;have hc : CZ (a :: b :: c :: r) 2 = c.toNat := rfl;rw [hb, hc] at e3 ⊢;have hb2 := b.toNat_lt;have hc2 := c.toNat_lt
   split
   ·rename_i e4;exact absurd (.three a b c r (by omega) (by omega) (Pm (by omega) (by omega) (by omega) (by omega) (by omega)) ((jJ c).2 (by omega))) (no 3)
   ·rfl
  | [_], e3 => exact absurd e3.2.2.1 (by simp)
  | [], e3 => exact absurd e3.2.1.1 (by simp)
 rw [if_neg e3];by_cases e4 : a.toNat / 8 = 30 ∧ (1 < (a :: r).length ∧ CZ (a :: r) 1 / 64 = 2) ∧ (2 < (a :: r).length ∧ CZ (a :: r) 2 / 64 = 2) ∧ (3 < (a :: r).length ∧ CZ (a :: r) 3 / 64 = 2)
 ·rw [if_pos e4]
  match r, e4 with
  | b :: c :: d :: r, e4 =>
   have hb : CZ (a :: b :: c :: d :: r) 1 = b.toNat := rfl;have hc : CZ (a :: b :: c :: d :: r) 2 = c.toNat := rfl;have hd : CZ (a :: b :: c :: d :: r) 3 = d.toNat := rfl;rw [hb, hc, hd] at e4 ⊢;have hb2 := b.toNat_lt;have hc2 := c.toNat_lt;have hd2 := d.toNat_lt
   split
   ·rename_i e5;exact absurd (.four a b c d r (by omega) (by omega) (Pm (by omega) (by omega) (by omega) (by omega) (by omega)) ((jJ c).2 (by omega)) ((jJ d).2 (by omega))) (no 4)
   ·rfl
  | [_, _], e4 => exact absurd e4.2.2.2.1 (by simp)
  | [_], e4 => exact absurd e4.2.2.1.1 (by simp)
  | [], e4 => exact absurd e4.2.1.1 (by simp)
 rw [if_neg e4]
theorem RH : Lib.encodeRune ((65533 : Nat) : Int) = bad := by decide
theorem yD {l : List UInt8} (hne : l ≠ []) : chunks l = Lib.encodeRune ((step l).1 : Nat) :: chunks (l.drop (step l).2) := by
 by_cases h : size l = 0
 ·rw [wB hne h, RH]
  match l, hne with
  | a :: r, _ => exact qM h
 ·have hb := lW h;obtain ⟨h1, h2, _⟩ := kE hb;rw [h1, h2];exact mF h
theorem Aw {l : List UInt8} (hne : l ≠ []) : 1 ≤ (step l).2 ∧ (step l).2 ≤ l.length := by
 have hl : 1 ≤ l.length := List.length_pos_iff.2 hne;by_cases h : size l = 0
 ·rw [wB hne h]; exact ⟨Nat.le_refl _, hl⟩
 ·have hb := lW h;obtain ⟨h1, _, _⟩ := kE hb;rw [h1]; exact ⟨hb.fG.1, hb.le⟩
theorem aa9 (s : ByteArray) (k : Nat) : s.get! k = s.data.toList.getD k 0 := by
 cases s with
 | mk d =>
  show d[k]! = _;by_cases h : k < d.size
  ·rw [getElem!_pos d k h, List.getD_eq_getElem?_getD];simp [h]
  ·rw [getElem!_neg d k h, List.getD_eq_getElem?_getD];simp [h];rfl
theorem oK (s : ByteArray) (pos : Nat) : Utf8.decode s pos = step (s.data.toList.drop pos) := by
 rw [Lib.decode_at];have hk : ∀ k, (s.get! (pos + k)).toNat = CZ (s.data.toList.drop pos) k := by
  intro k;rw [aa9];simp [CZ, List.getD_eq_getElem?_getD]
 have h0 := hk 0;rw [Nat.add_zero] at h0;rw [h0, hk 1, hk 2, hk 3];unfold step;congr 1;rw [List.length_drop]; rfl
theorem runeCountFrom_eq (s : ByteArray) : ∀ fuel pos, s.size ≤ pos + fuel → Lib.runeCountFrom s fuel pos = (chunks (s.data.toList.drop pos)).length
 | 0, pos, h => by
  have : s.data.toList.drop pos = [] := List.drop_eq_nil_of_le (by show s.size ≤ _; omega);rw [this, je]; rfl
 | f + 1, pos, h => by
  unfold Lib.runeCountFrom;by_cases hp : pos < s.size
  ·have hne : s.data.toList.drop pos ≠ [] := fun e => by have h2 : s.size ≤ pos := List.drop_eq_nil_iff.1 e; omega
   have hw := Aw hne;rw [if_pos hp, yD hne, oK, runeCountFrom_eq s f _ (by omega), List.drop_drop];simp only [List.length_cons];omega
  ·have : s.data.toList.drop pos = [] := List.drop_eq_nil_of_le (by show s.size ≤ _; omega);rw [if_neg hp, this, je]; rfl
theorem runeCount_eq (s : ByteArray) : Lib.runeCount s = (chunks s.data.toList).length := by
 have := runeCountFrom_eq s s.size 0 (by omega)
 rwa [List.drop_zero] at this
theorem Vs {l : List UInt8} (hne : l ≠ []) (h : size l = 0) : rep l ≠ l := by
 match l, hne with
 | a :: r, _ =>
  rw [Ew h];intro e;simp only [bad, List.cons_append, List.nil_append, List.cons.injEq] at e;obtain ⟨e0, e⟩ := e;generalize rep r = t at e;subst e0 e;have h3 : size (239 :: 191 :: 189 :: t) = 3 := gL (Ak t);omega
theorem EB (l : List UInt8) : Lib.decodeL l = step l := by
 unfold Lib.decodeL;rw [oK];rfl
theorem MK (l : List UInt8) : Lib.validD l = decide (rep l = l) := by
 induction hn : l.length using Nat.strongRecOn generalizing l with
 | _ n ih =>
  by_cases hne : l = []
  ·subst hne; rw [oJ]; rfl
  ·rw [Lib.validD_step l hne, EB];by_cases h : size l = 0
   ·rw [wB hne h, if_pos ⟨rfl, rfl⟩, decide_eq_false (Vs hne h)]
   ·have hb := lW h;obtain ⟨h1, h2, h3⟩ := kE hb;have hw := hb.fG;have hle := hb.le;rw [if_neg (fun e => by have := h3 (by omega); omega), h1, ih (l.drop (size l)).length (by rw [List.length_drop]; omega) _ rfl, wh h];congr 1
    conv => rhs; rhs; rw [← List.take_append_drop (size l) l]
    rw [List.append_cancel_left_eq]
end bD
end
section
open Go Go.RowKit
def code:List UInt8→Nat
 | [a]=>a.toNat
 | [a,b]=>a.toNat % 32*64+b.toNat % 64
 | [a,b,c]=>a.toNat % 16*4096+b.toNat % 64*64+c.toNat % 64
 | [a,b,c,d]=>a.toNat % 8*262144+b.toNat % 64*4096+c.toNat % 64*64+d.toNat % 64
 | _=>0
def seg (cs:List (List UInt8)) (a t:Nat):List (List UInt8):=(cs.take t).drop a
theorem nN (cs:List (List UInt8)) (a t:Nat) (h:t≤a):seg cs a t=[]:=by
 unfold seg;exact List.drop_eq_nil_of_le (by rw[List.length_take];omega)
theorem GX (cs:List (List UInt8)) (a k:Nat) (h:a≤k) (hk:k<cs.length):seg cs a (k+1)=seg cs a k++[cs.getD k []]:=by
 unfold seg;rw[List.take_succ_eq_append_getElem hk,List.drop_append_of_le_length (by rw[List.length_take];omega)];simp[List.getD,hk]
theorem Ld (cs:List (List UInt8)) (a k t:Nat) (h:cs.length≤k) (ht:cs.length≤t):seg cs a k=seg cs a t:=by
 unfold seg;rw[List.take_of_length_le h,List.take_of_length_le ht]
theorem yU (cs:List (List UInt8)) (a t:Nat):(seg cs a t).flatten.length≤cs.flatten.length:=by
 unfold seg;have h1:=congrArg (fun l:List (List UInt8)=>l.flatten.length) (List.take_append_drop a (cs.take t));have h2:=congrArg (fun l:List (List UInt8)=>l.flatten.length) (List.take_append_drop t cs);simp only[List.flatten_append,List.length_append] at h1 h2;omega
def enum (cs:List (List UInt8)):List (Nat×List UInt8):=(List.range cs.length).map fun i=>(i,cs.getD i [])
theorem mG (cs:List (List UInt8)):(enum cs).length=cs.length:=by simp[enum]
abbrev Vt (x:Nat×List UInt8):Array Value:=#[.int .i64 (x.1:Nat),.int .i32 (code x.2:Nat)]
theorem RI (l:List UInt8):code l<2097152:=by
 unfold code
 split
 ·rename_i a;have:=a.toNat_lt;omega
 ·omega
 ·omega
 ·omega
 ·omega
theorem xC (cs:List (List UInt8)) (k:Nat):(enum cs).take k <+: enum cs:=List.take_prefix _ _
theorem drop_cons {cs:List (List UInt8)} {k:Nat} {c:List UInt8} {r:List (List UInt8)} (h:cs.drop k=c::r):
  k<cs.length∧cs.getD k []=c∧cs.drop (k+1)=r∧(enum cs).take (k+1)=(enum cs).take k++[(k,c)]:=by
 have hk:k<cs.length:=by
  have:=congrArg List.length h;rw[List.length_drop,List.length_cons] at this;omega
 rw[List.drop_eq_getElem_cons hk,List.cons.injEq] at h;have hc:cs.getD k []=c:=by simp[List.getD,hk,h.1]
 refine⟨hk,hc,h.2,?_⟩;have hke:k<(enum cs).length:=by rw[mG];exact hk
 rw[List.take_succ_eq_append_getElem hke];simp[enum,hk,h.1]
theorem C9 {l:List UInt8} (hne:l≠[]):code (Lib.encodeRune ((bD.step l).1:Nat))=(bD.step l).1:=by
 by_cases h:bD.size l=0
 ·rw[bD.wB hne h];decide
 ·have hb:=bD.lW h;rw[(bD.kE hb).2.1];generalize bD.size l=n at hb;cases hb with
  | one a r h'=>rw[bD.GU a r h'];rfl
  | two a b r h1 h2 h3=>rw[bD.GV a b r h1 h2 h3];rfl
  | three a b c r h1 h2 h3 h4=>rw[bD.Au a b c r h1 h2 h3 h4];rfl
  | four a b c d r h1 h2 h3 h4 h5=>rw[bD.C8 a b c d r h1 h2 h3 h4 h5];rfl
theorem ML {c:List UInt8} (h:bD.Good c):Lib.encodeRune ((code c:Nat):Int)=c:=by
 have hs:=(bD.kE h).2.1;rw[List.take_length] at hs;have hne:c≠[]:=fun e=>by subst e;have:=h.fG.1;simp at this
 have h2:=C9 hne;rw[hs] at h2;rw[h2,hs]
theorem JY {c:List UInt8} (h:bD.Good c):Lib.runeCells ((code c:Nat):Int)=Lib.byteCells c:=by
 rw[←Lib.byteCells_encodeRune,ML h]
end
section
open Go.RowKit Go.Shelf
attribute [local go_sem] Oper.semAt_some
def Keep (m:Nat) (W W':World):Prop:=W.heap.size≤W'.heap.size∧∀ k o,W.heap[k]?=some o→k≠m→(o.isWalk=true∨∃ c t fz,t≠5∧o=.cells c t fz)→W'.heap[k]?=some o
theorem Keep.trans {m:Nat} {A B C:World} (h:Keep m A B) (k:Keep m B C):Keep m A C:=
 ⟨Nat.le_trans h.1 k.1,fun i o hi hm ho=>k.2 i o (h.2 i o hi hm ho) hm ho⟩
theorem Keep.put {m:Nat} {w:World} (W:World) (l:Nat) (o o':Obj) (_:w.heap.size≤l) (hl:W.heap[l]?=some o) (hc:o.isCells=false) (hw:o.isWalk=false):Keep m W (W.putObj l o'):=by
 have h:=grownBy_putObj' W l o';refine⟨h.size,fun k x hk _ hx=>?_⟩;by_cases e:k=l
 ·subst e;rw[hl] at hk;obtain rfl:=Option.some.inj hk;rcases hx with hx | ⟨c,t,fz,_,rfl⟩
  ·rw[hw] at hx;cases hx
  ·cases hc
 ·rw[World.putObj_heap_other e];exact hk
theorem Keep.of {m:Nat} {W W':World} (h:Lib.OthersKept 5 (some m) W W') (hs:W.heap.size≤W'.heap.size):Keep m W W':=
 ⟨hs,fun k o hk hm ho=>h k o hk (fun e=>hm (Option.some.inj e)) (fun c fz e=>by
  rcases ho with ho | ⟨c',t,fz',ht,rfl⟩
  ·subst e;cases ho
  ·cases e;exact ht rfl)⟩
theorem JZ (s:ByteArray) (hs:s.size≤20000) (l Bs m:Nat) (hm:m<Bs) (J Jx:List (Nat×List UInt8)→World→Prop) (W:World) (QI:W.heap[Bs]?=some (.cells #[.string s] 9 (0,0)))
  (hJ:AbidesFrom W.heap.size J)
  (hY:∀ pre x W1,J pre W1→pre.length<(bD.chunks s.data.toList).length→YieldAt Fence.wide (4 - 1) Tryz.prog l (Vt x) W1 fun e W'=>
   (e=.returned (.bool true)∧J (pre++[x]) W'∧Keep m W1 W')∨(e=.returned (.bool false)∧Jx (pre++[x]) W'))
  (h0:J [] W):
  CallsIn Fence.wide 4 Tryz.prog 113 #[.func (.yield l) #[] #[],.pointer (some ⟨Bs,0,none⟩)] W fun e W'=>(∃ v,e=.returned v)∧
   ((∃ xs,xs=enum (bD.chunks s.data.toList)∧J xs W')∨(∃ pre,pre <+: enum (bD.chunks s.data.toList)∧Jx pre W')):=by
 have hcell:W.cell? ⟨Bs,0,none⟩=some (.string s):=cell_of_row W Bs 0 _ _ _ QI;have hBl:Bs<W.heap.size:=(Array.getElem?_eq_some_iff.1 QI).1;have hll:s.data.toList.length=s.size:=rfl;obtain⟨cs,hcs⟩:=eX (bD.chunks s.data.toList)
 have hcl:=bD.uR s.data.toList;rw[hcs] at hY hcl ⊢;refine callsIn_of_wp Tryz.func113 rfl trivial ?_ rfl;simp only[Tryz.ntmps113,pT,Nat.reduceAdd,Nat.reduceSub]
 gi_wp2
 gi_loopw [3] (fun i wr=>∃ (pos k:Nat),i=.int .i64 k∧k≤20000∧cs.drop k=bD.chunks (s.data.toList.drop pos)∧wr.heap[W.heap.size]?=some (.stringIter s pos)∧J ((enum cs).take k) wr)
  (fun _ wr=>s.size - wr.iterPos W.heap.size)
 case atStart=>
  refine⟨0,0,rfl,Nat.zero_le _,by rw[List.drop_zero,List.drop_zero,hcs],World.iter_heap W s 0,?_⟩;exact hJ _ _ _ none h0 (World.grownBy_alloc W _ none) (fun r e=>by cases e)
 case round=>
  obtain⟨pos,k,rfl,hk,hdr,hit,hJs⟩:=hrel;by_cases hp:pos<s.size
  ·have hne:s.data.toList.drop pos≠[]:=fun e=>by have h2:s.size≤pos:=List.drop_eq_nil_iff.1 e;omega
   have hw:=bD.Aw hne;have hcode:=C9 hne;have hst:=bD.yD hne;have hdec:=bD.oK s pos;rw[List.drop_drop] at hst;obtain⟨n,hn⟩:=eX ((bD.step (s.data.toList.drop pos)).2)
   obtain⟨c,hc⟩:=eX (Lib.encodeRune ((bD.step (s.data.toList.drop pos)).1:Nat))
   rw[hc] at hcode hst;rw[hn] at hst hw;rw[hst] at hdr;obtain⟨hk2,_,abb,htk⟩:=drop_cons hdr;have hnx:∀ ty,(Instr.next (.pointer (some ⟨W.heap.size,0,none⟩)) true ty).run Tryz.prog wr=_:=fun ty=>Lib.run_next_any_at wr W.heap.size s pos ty hit hp;rw[hdec,←hcode,hn] at hnx;have hit2:=Lib.iterAt_heap wr W.heap.size s pos (pos+n) hit;have hJ2:J ((enum cs).take k) (wr.iterAt W.heap.size s (pos+n)):=hJ _ wr _ (some W.heap.size) hJs (grownBy_putObj' wr W.heap.size (.stringIter s (pos+n))) (fun r e=>by cases e;exact⟨Nat.le_refl _,_,hit,rfl⟩);obtain⟨fn,tmps,assign,body,hy,hR⟩:=hY _ (k,c) _ hJ2 (by rw[List.length_take,mG];omega);dsimp only[Vt] at hy;rw[←htk] at hR;have Z8:s.size - wr.iterPos W.heap.size=s.size - pos:=by simp only[World.iterPos,hit]
   clear hdec hcode hst hY
   gi_wp2
   refine hR.mono ?_;rintro e W3 (⟨rfl,hJ3,hk3⟩ | ⟨rfl,hJx3⟩)
   ·have hit3:=hk3.2 W.heap.size _ hit2 (by omega) (.inl rfl)
    gi_wp2
    go_roundw
    case rel=>exact⟨pos+n,k+1,by go_num,by omega,abb,hit3,hJ3⟩
    case measure=>
     rw[Z8];simp only[World.iterPos,hit3];omega
   ·gi_wp2
    refine bodyPost_ret (results_none rfl _ _ _) rfl ?_;exact⟨⟨_,rfl⟩,.inr ⟨_,xC cs (k+1),hJx3⟩⟩
  ·have hd:s.data.toList.drop pos=[]:=List.drop_eq_nil_of_le (by omega);rw[hd,bD.je] at hdr;have hkl:cs.length≤k:=List.drop_eq_nil_iff.1 hdr;rw[List.take_of_length_le (by rw[mG];exact hkl)] at hJs;have hnx:∀ ty,(Instr.next (.pointer (some ⟨W.heap.size,0,none⟩)) true ty).run Tryz.prog wr=_:=fun ty=>Lib.run_next_end_at wr W.heap.size s pos ty hit hp
   gi_wp2
   go_end0
   exact⟨⟨_,rfl⟩,.inl ⟨_,rfl,hJs⟩⟩
theorem GY (s:ByteArray) (w:World) (hs:s.size≤20000):
  Calls Tryz.prog 90 #[.string s] w fun e w'=>∃ lb,e=.returned (.func (.func 113) #[] lb)∧w'=w.alloc (.cells #[.string s] 9)∧
   ∀ m,m<w.heap.size→SeqStopsK Fence.wide 4 Tryz.prog 113 lb Vt (Keep m) (fun xs=>xs=enum (bD.chunks s.data.toList)) (fun pre=>pre <+: enum (bD.chunks s.data.toList)) (bD.chunks s.data.toList).length w':=by
 go_enter Tryz.func90,Tryz.ntmps90
 go_wp2
 go_ret
 refine⟨_,rfl,rfl,fun m hm l J Jx W hW hJ hJx hY h0=>?_⟩;exact JZ s hs l w.heap.size m hm J Jx W ((hW.block _ (by simp)).trans (World.alloc_heap_new w _)) hJ hY h0
end
section
open Go.RowKit
theorem drop_at (s:ByteArray) (k:Nat) (h:k<s.size):s.data.toList.drop k=s[k]::s.data.toList.drop (k+1):=by
 rw[List.drop_eq_getElem_cons (by simpa using h)];rfl
theorem sJ (s:ByteArray) (k:Nat) (h:¬ k<s.size):s.data.toList.drop k=[]:=List.drop_eq_nil_of_le (by simp only[Array.length_toList];exact Nat.le_of_not_lt h)
theorem RJ (a x y z:Nat) (t:Bool):
  (if a≤127 then 1 else if 194≤a∧a≤223 then (if 128≤x∧x≤191 then 2 else 0) else if 224≤a∧a≤239 then (if t=true∧128≤y∧y≤191 then 3 else 0) else if 240≤a∧a≤244 then (if (t=true∧128≤y∧y≤191)∧128≤z∧z≤191 then 4 else 0) else 0)=
  (if a≤127 then 1 else if (194≤a∧a≤223)∧128≤x∧x≤191 then 2 else if ((224≤a∧a≤239)∧t=true)∧128≤y∧y≤191 then 3 else if ((240≤a∧a≤244)∧t=true)∧(128≤y∧y≤191)∧128≤z∧z≤191 then 4 else 0):=by
 cases t<;>(simp only[true_and,and_true,false_and,and_false,if_false,reduceCtorEq];repeat' split)<;>omega
theorem Pn (a x y:Nat) (t:Bool):
  (if a≤127 then 1 else if 194≤a∧a≤223 then (if 128≤x∧x≤191 then 2 else 0) else if 224≤a∧a≤239 then (if t=true∧128≤y∧y≤191 then 3 else 0) else 0)=
  (if a≤127 then 1 else if (194≤a∧a≤223)∧128≤x∧x≤191 then 2 else if ((224≤a∧a≤239)∧t=true)∧128≤y∧y≤191 then 3 else 0):=by
 cases t<;>(simp only[true_and,and_true,false_and,and_false,if_false,reduceCtorEq];repeat' split)<;>omega
theorem Po (a x:Nat):
  (if a≤127 then 1 else if 194≤a∧a≤223 then (if 128≤x∧x≤191 then 2 else 0) else 0)=(if a≤127 then 1 else if (194≤a∧a≤223)∧128≤x∧x≤191 then 2 else 0):=by
 repeat' split
 all_goals omega
theorem MN (s:ByteArray) (i:Nat):bD.size (s.data.toList.drop i)=
  if oW s i 0 127 then 1 else if oW s i 194 223 && jF s (i+1) 1 then 2 else if oW s i 224 239 && wm s i && jF s (i+2) 1 then 3 else if oW s i 240 244 && wm s i && jF s (i+2) 2 then 4 else 0:=by
 by_cases h0:i<s.size
 ·rw[drop_at s i h0];by_cases h1:i+1<s.size
  ·rw[drop_at s _ h1];by_cases h2:i+2<s.size
   ·rw[drop_at s _ h2];by_cases h3:i+3<s.size
    ·rw[drop_at s _ h3];simp[bD.size,oW,jF,wm,bD.cont,h0,h1,h2,h3];exact RJ _ _ _ _ _
    ·rw[sJ s _ h3];simp[bD.size,oW,jF,wm,bD.cont,h0,h1,h2,h3];exact Pn _ _ _ _
   ·have h3:¬ i+3<s.size:=by omega
    rw[sJ s _ h2];simp[bD.size,oW,jF,wm,bD.cont,h0,h1,h2,h3];exact Po _ _
  ·have h2:¬ i+2<s.size:=by omega
   have h3:¬ i+3<s.size:=by omega
   rw[sJ s _ h1];simp[bD.size,oW,jF,wm,h0,h1,h2,h3]
 ·rw[sJ s i h0];simp[bD.size,oW,h0]
theorem Ay (s:ByteArray) (i:Nat) (w:World) (hs:s.size≤140737488351232) (hi:i≤s.size):
  Calls Tryz.prog 99 #[.string s,.int .i64 i] w fun e w'=>e=.returned (.int .i64 (bD.size (s.data.toList.drop i):Nat))∧w=w':=by
 have HS:=zh (MN s i)
 go_enter Tryz.func99,Tryz.ntmps99
 go_wp2_with fail;iterate 10 all_goals try first
  | (refine (Ez s i 0 127 _ _ _ w rfl (by decide) (by decide)).mono ?_;rintro e w9 ⟨rfl,rfl⟩;go_wp2_with fail)
  | (refine (Ez s i 194 223 _ _ _ w rfl (by decide) (by decide)).mono ?_;rintro e w9 ⟨rfl,rfl⟩;go_wp2_with fail)
  | (refine (Ez s i 224 239 _ _ _ w rfl (by decide) (by decide)).mono ?_;rintro e w9 ⟨rfl,rfl⟩;go_wp2_with fail)
  | (refine (Ez s i 240 244 _ _ _ w rfl (by decide) (by decide)).mono ?_;rintro e w9 ⟨rfl,rfl⟩;go_wp2_with fail)
  | (refine (Al s (i+1) 1 _ _ w (by omega) (by decide) (by omega) (by decide)).mono ?_;rintro e w9 ⟨rfl,rfl⟩;go_wp2_with fail)
  | (refine (Al s (i+2) 1 _ _ w (by omega) (by decide) (by omega) (by decide)).mono ?_;rintro e w9 ⟨rfl,rfl⟩;go_wp2_with fail)
  | (refine (Al s (i+2) 2 _ _ w (by omega) (by decide) (by omega) (by decide)).mono ?_;rintro e w9 ⟨rfl,rfl⟩;go_wp2_with fail)
  | (refine (JW s i w (by first | exact Lc (lo:=224) (hi:=239) (by assumption) | exact Lc (lo:=240) (hi:=244) (by assumption)) (by omega)).mono ?_;rintro e w9 ⟨rfl,rfl⟩;go_wp2_with fail)
 all_goals go_ret
 all_goals refine⟨aa8 ?_,rfl⟩
 all_goals rw[HS.out]
 all_goals simp[*]
theorem Vu:(Tryz.prog.info? 5).map (fun i=>(i.zero,i.size,i.bytes))=some (some (.int .u8 0),1,1):=by kernel_rfl
def fF (l:List UInt8):ByteArray:=⟨l.toArray⟩
theorem kg (l:List UInt8):(fF l).size=l.length:=by simp[fF,ByteArray.size]
theorem Ci (l:List UInt8):(fF l).data.toList=l:=rfl
theorem tL (s:ByteArray):fF s.data.toList=s:=rfl
theorem mD (l m:List UInt8):fF l++fF m=fF (l++m):=ByteArray.mk_append_mk l m
theorem Vv {a b:ByteArray} (h:a=b):Ending.returned (.string a)=.returned (.string b):=by rw[h]
theorem EC (l:List UInt8):strOfNums (l.map fun b=>(b.toNat:Int))=fF l:=by
 unfold strOfNums fF;congr 2;rw[List.map_map]
 conv=>rhs;rw[←List.map_id l]
 congr 1;funext b;simp
theorem MO {w:World} {base:Nat} {v:Value} {l:List UInt8} (h:w.ownsRow base 5 1 v l.length (jE l)):
  (convert 91 9 v).run Tryz.prog w=.ok (.string (fF l)) w:=by
 obtain⟨A,c,rfl⟩:=Ac h;rcases h.2 with ⟨hv,hn⟩ | ⟨g,cap,cur,hv,_,_⟩
 ·injection hv with h1 h2 h3;subst h1;rw[run_convert_bytes_nil w 91 5 Tryz.underlying91 Tryz.underlying5 _ _ 9 Tryz.underlying9];rw[List.eq_nil_of_length_eq_zero hn];rfl
 ·injection hv with h1 h2 h3;subst h1;rw[run_convert_bytes_arg w 91 5 Tryz.underlying91 Tryz.underlying5 g 0 l.length c (l.map fun b=>(b.toNat:Int)) (by simp) ?_ 9 Tryz.underlying9,EC];intro i hi;rw[Nat.zero_add,h.cellAt i (by omega)];simp[jE,hi]
theorem GZ (s:ByteArray) (k n:Nat):(s.extract k (k+n)).data.toList=(s.data.toList.drop k).take n:=by
 rw[ByteArray.data_extract,Array.toList_extract];simp
theorem kC (s:ByteArray) (w:World) (hs:s.size≤10000):
  Calls Tryz.prog 61 #[.string s] w fun e w'=>e=.returned (.string (fF (bD.rep s.data.toList)))∧Below w.heap.size w w':=by
 obtain⟨i0,hi,hz0,hz1,hz2⟩:=info_parts Vu;have hrl:=bD.nk s.data.toList;have hll:s.data.toList.length=s.size:=rfl;rw[hll] at hrl
 go_enter Tryz.func61,Tryz.ntmps61
 go_wp2_with fail
 go_loopw [3,4] (fun v i wr=>∃ (k:Nat) (L:List UInt8),k≤s.size∧i=.int .i64 k∧wr.ownsRow w.heap.size 5 1 v L.length (jE L)∧L++bD.rep (s.data.toList.drop k)=bD.rep s.data.toList∧Below w.heap.size w wr) (fun _ i _=>s.size - (intOf i).toNat)
 case atStart=>exact⟨0,[],Nat.zero_le _,rfl,World.ownsRow_nil _ _ _ _,rfl,Below.refl _ _⟩
 case round=>
  obtain⟨k,L,hk,rfl,hown,hL,hbel⟩:=hrel;have hLl:L.length≤30000:=by have:=congrArg List.length hL;rw[List.length_append] at this;omega
  obtain⟨A,c,rfl⟩:=Ac hown;by_cases hlt:k<s.size
  ·obtain⟨n,hn⟩:=eX (bD.size (s.data.toList.drop k))
   have Z9:=bD.MH (s.data.toList.drop k);have hnl:=bD.size_le (s.data.toList.drop k);rw[List.length_drop,hll] at hnl;rw[hn] at Z9 hnl;by_cases h0:n=0
   ·have hstep:L++bD.bad++bD.rep (s.data.toList.drop (k+1))=bD.rep s.data.toList:=by
     rw[←hL,drop_at s k hlt,bD.Ew (by rw[←drop_at s k hlt,hn,h0]),List.append_assoc]
    have HS:=zh hstep;have HN:=zh hn;clear hstep hL hn Z9 hnl;subst h0;go_wp2_with fail;refine (Ay s k wr (by omega) (by omega)).mono ?_;rintro e w2 ⟨rfl,rfl⟩;rw[HN.out]
    go_wp2_with (at_builtin;refine wpList_append_own _ rfl (.tmp 15) (.tmp 16) 91 rfl w.heap.size 5 i0 (.int .u8 0) 1 1 Tryz.underlying91 hi hz0 hz1 hz2 rfl (by decide) _ L.length (jE L) rfl (hown.alloc _) ⟨wr.heap.size,0,none⟩ 3 3 (jE bD.bad) rfl rfl ?c1 ?c2 ?c3 ?c4 ?c5 ?_)
    case c1=>intro j u hj;match j,hj with | 0,hj=>simp[jE,bD.bad] at hj;subst hj;simp[Addr.add] | 1,hj=>simp[jE,bD.bad] at hj;subst hj;simp[Addr.add] | 2,hj=>simp[jE,bD.bad] at hj;subst hj;simp[Addr.add]
    case c2=>intro u hu;simp[jE,bD.bad] at hu;rcases hu with rfl | rfl | rfl<;>rfl
    case c3=>unfold maxLen;omega
    case c4=>omega
    case c5=>have:=hbel.size;simp;omega
    intro v2 w2 ho2 hg2 _;have hb2:Below w.heap.size w w2:=(hbel.alloc hbel.size _).grown hg2 (by have:=hbel.size;simp;omega) (fun j hj=>(hown.lt j hj).1);rw[←uz] at ho2;have HB:=zh hb2;have HO:=zh ho2;clear ho2 hg2 hb2;go_wp2_with fail
    go_roundw
    case rel=>exact⟨k+1,L++bD.bad,by omega,by go_num,by rw[List.length_append];exact HO.out,HS.out,HB.out⟩
    case measure=>simp[intOf];omega
   ·have hstep:L++(s.extract k (k+n)).data.toList++bD.rep (s.data.toList.drop (k+n))=bD.rep s.data.toList:=by
     have h:=bD.wh (l:=s.data.toList.drop k) (by rw[hn];exact h0);rw[hn,List.drop_drop] at h;rw[←hL,h,GZ,List.append_assoc]
    have HS:=zh hstep;have HN:=zh hn;have hxs:(s.extract k (k+n)).size=n:=by rw[ByteArray.size_extract];omega
    have hnz:((n:Int) == 0)=false:=by simp;omega
    have hsl:∀ W:World,(Instr.slice 9 (.string s) (some (.int .i64 k)) (some (.int .i64 ((k:Int)+n))) none).run Tryz.prog W=.ok (.string (s.extract k (k+n))) W:=fun W=>run_slice_string W _ s _ _ _ _ Tryz.underlying9 (by omega) (by omega) (by omega);have hHO:=zh hown;clear hstep hL hn;go_wp2_with fail;refine (Ay s k wr (by omega) (by omega)).mono ?_;rintro e w2 ⟨rfl,rfl⟩;rw[HN.out]
    go_wp2_with (at_builtin;refine Lib.wpList_append_own_string _ rfl (.tmp 20) (.tmp 26) 91 9 rfl w.heap.size 5 i0 Tryz.underlying91 Tryz.underlying9 hi hz0 hz1 hz2 _ L.length (jE L) rfl hHO.out (s.extract k (k+n)) rfl ?c3 ?c4 ?c5 ?_)
    case c3=>unfold maxLen;omega
    case c4=>omega
    case c5=>have:=hbel.size;omega
    intro v2 w2 ho2 hg2 _;have hb2:Below w.heap.size w w2:=hbel.grown hg2 hbel.size (fun j hj=>(hHO.out.lt j hj).1);rw[JI,←uz] at ho2;have HB:=zh hb2;have HO:=zh ho2;have hel:(L++(s.extract k (k+n)).data.toList).length=L.length+n:=by rw[List.length_append];show _+(s.extract k (k+n)).size=_;rw[hxs]
    have HE:=zh hel;clear ho2 hg2 hb2 hxs hel;go_wp2_with fail
    go_roundw
    case rel=>exact⟨k+n,L++(s.extract k (k+n)).data.toList,by omega,by go_num,by rw[HE.out];exact HO.out,HS.out,HB.out⟩
    case measure=>simp[intOf];omega
  ·have ek:k=s.size:=by omega
   subst ek;rw[sJ s _ (by omega),bD.oJ,List.append_nil] at hL;have abG:=MO hown;have HL:=zh hL;clear hL;go_wp2_with fail
   go_ret
   exact⟨Vv (by rw[HL.out]),hbel⟩
theorem Da (c:UInt8) (w:World):
  Calls Tryz.prog 117 #[.int .u8 c.toNat] w fun e w'=>e=.returned (.bool (bD.sp c))∧w=w':=by
 go_enter Tryz.func117,Tryz.ntmps117
 go_wp2
 all_goals go_ret
 all_goals refine⟨JV ?_,rfl⟩
 all_goals unfold bD.sp
 all_goals rw[Bool.eq_iff_iff]
 all_goals simp
 all_goals omega
end
section
namespace Tr
open Go Go.RowKit
inductive rC (P:Int→Int→List Int→List Int→Prop):List Int→List Int→List Int→List Int→Prop
 | nil:rC P [] [] [] []
 | cons {x y:Int} {xs ys l1 l2 m1 m2:List Int}:P x y l1 m1→rC P xs ys l2 m2→rC P (x::xs) (y::ys) (l1++l2) (m1++m2)
def Cp (g g':G):Nat→Int→Int→Int→List Int→List Int→Prop
 | 0,_,_,_,_,_=>False
 | f+1,x,y,q,lx,ly=>∃ n ys l m,g x=some n∧g' y=some { n with pa:=q,kids:=ys }∧rC (fun a b l m=>Cp g g' f a b y l m) n.kids ys l m∧lx=x::l∧ly=y::m
section
variable {g g' g2:G} {P Q:Int→Int→List Int→List Int→Prop}
theorem rC.mono {xs ys l m:List Int} (h:rC P xs ys l m) (hq:∀ x y l' m',x∈xs→(∀ z∈l',z∈l)→(∀ z∈m',z∈m)→P x y l' m'→Q x y l' m'):rC Q xs ys l m:=by
 induction h with
 | nil=>exact .nil
 | cons h1 h2 ih=>
  refine .cons (hq _ _ _ _ (by simp) (fun z hz=>List.mem_append_left _ hz) (fun z hz=>List.mem_append_left _ hz) h1) (ih fun x y l' m' hx hl hm=>hq x y l' m' (List.mem_cons_of_mem _ hx) (fun z hz=>List.mem_append_right _ (hl z hz)) (fun z hz=>List.mem_append_right _ (hm z hz)))
theorem rC.snoc {xs ys l m l1 m1:List Int} {x y:Int} (h:rC P xs ys l m) (h1:P x y l1 m1):rC P (xs++[x]) (ys++[y]) (l++l1) (m++m1):=by
 induction h with
 | nil=>simpa using rC.cons h1 rC.nil
 | cons h2 h3 ih=>rw[List.cons_append,List.cons_append,List.append_assoc,List.append_assoc];exact .cons h2 ih
theorem rC.flat {xs ys l m:List Int} {u v:Int→List Int} (h:rC P xs ys l m) (hu:∀ x y l' m',P x y l' m'→u x=l'∧v y=m'):xs.flatMap u=l∧ys.flatMap v=m:=by
 induction h with
 | nil=>exact⟨rfl,rfl⟩
 | cons h1 h2 ih=>
  obtain⟨e1,e2⟩:=hu _ _ _ _ h1;rw[List.flatMap_cons,List.flatMap_cons,e1,e2,ih.1,ih.2];exact⟨rfl,rfl⟩
theorem rC.len {xs ys l m:List Int} (h:rC P xs ys l m) (hu:∀ x y l' m',P x y l' m'→l'.length=m'.length):l.length=m.length:=by
 induction h with
 | nil=>rfl
 | cons h1 h2 ih=>rw[List.length_append,List.length_append,hu _ _ _ _ h1,ih]
theorem Cp.walks:∀ (f F:Nat) {x y q:Int} {lx ly:List Int},Cp g g' f x y q lx ly→f≤F→walk g F x=lx∧walk g' F y=ly
 | 0,_,_,_,_,_,_,h,_=>h.elim
 | f+1,0,_,_,_,_,_,_,hF=>by omega
 | f+1,F+1,x,y,q,lx,ly,h,hF=>by
  obtain⟨n,ys,l,m,e1,e2,h3,rfl,rfl⟩:=h;obtain⟨a,b⟩:=h3.flat fun x y l m h=>Cp.walks f F h (by omega);rw[walk,walk,e1,e2];exact⟨by simp only;rw[a],by simp only;rw[b]⟩
theorem rC.maps {xs ys l m:List Int} {u v:Int→Nat} (h:rC P xs ys l m) (hu:∀ x y l' m',P x y l' m'→v y=u x):ys.map v=xs.map u:=by
 induction h with
 | nil=>rfl
 | cons h1 h2 ih=>rw[List.map_cons,List.map_cons,hu _ _ _ _ h1,ih]
theorem BM {l:List Nat} {n k:Nat} (hn:n≤k) (h:∀ x∈l,x≤k):l.foldl max n≤k:=by
 induction l generalizing n with
 | nil=>exact hn
 | cons a r ih=>exact ih (by have:=h a (by simp);omega) fun x hx=>h x (List.mem_cons_of_mem _ hx)
theorem qC (g:G):∀ (f:Nat) (x:Int),hgt g f x≤f
 | 0,_=>Nat.le_refl _
 | f+1,x=>by
  rw[hgt];cases g x with
  | none=>exact Nat.zero_le _
  | some n=>
   simp only;have:=BM (l:=n.kids.map (hgt g f)) (n:=0) (k:=f) (Nat.zero_le _) (fun z hz=>by obtain⟨k,_,rfl⟩:=List.mem_map.1 hz;exact qC g f k);omega
theorem Cp.hgt:∀ (f F:Nat) {x y q:Int} {lx ly:List Int},Cp g g' f x y q lx ly→f≤F→Tr.hgt g' F y=Tr.hgt g f x
 | 0,_,_,_,_,_,_,h,_=>h.elim
 | f+1,0,_,_,_,_,_,_,hF=>by omega
 | f+1,F+1,x,y,q,lx,ly,h,hF=>by
  obtain⟨n,ys,l,m,e1,e2,h3,rfl,rfl⟩:=h;have a:=h3.maps (u:=Tr.hgt g f) (v:=Tr.hgt g' F) fun x y l m h=>Cp.hgt f F h (by omega);rw[Tr.hgt,Tr.hgt,e1,e2];simp only;rw[a]
theorem Cp.len:∀ (f:Nat) {x y q:Int} {lx ly:List Int},Cp g g' f x y q lx ly→lx.length=ly.length
 | 0,_,_,_,_,_,h=>h.elim
 | f+1,x,y,q,lx,ly,h=>by
  obtain⟨n,ys,l,m,e1,e2,h3,rfl,rfl⟩:=h;rw[List.length_cons,List.length_cons,h3.len fun x y l m h=>Cp.len f h]
theorem Cp.head {f:Nat} {x y q:Int} {lx ly:List Int} (h:Cp g g' f x y q lx ly):∃ l m,lx=x::l∧ly=y::m:=by
 cases f with
 | zero=>exact h.elim
 | succ f=>obtain⟨n,ys,l,m,e1,e2,h3,rfl,rfl⟩:=h;exact⟨l,m,rfl,rfl⟩
theorem Cp.live:∀ (f:Nat) {x y q:Int} {lx ly:List Int},Cp g g' f x y q lx ly→(∀ z∈lx,(g z).isSome)∧∀ z∈ly,(g' z).isSome
 | 0,_,_,_,_,_,h=>h.elim
 | f+1,x,y,q,lx,ly,h=>by
  obtain⟨n,ys,l,m,e1,e2,h3,rfl,rfl⟩:=h;have key:∀ {xs ys l m:List Int},rC (fun a b l m=>Cp g g' f a b y l m) xs ys l m→(∀ z∈l,(g z).isSome)∧∀ z∈m,(g' z).isSome:=by
   intro xs ys l m h
   induction h with
   | nil=>exact⟨fun z hz=>by simp at hz,fun z hz=>by simp at hz⟩
   | cons h1 h2 ih=>
    have k:=Cp.live f h1;exact⟨fun z hz=>(List.mem_append.1 hz).elim (k.1 z) (ih.1 z),fun z hz=>(List.mem_append.1 hz).elim (k.2 z) (ih.2 z)⟩
  obtain⟨a,b⟩:=key h3;refine⟨fun z hz=>?_,fun z hz=>?_⟩
  ·rcases List.mem_cons.1 hz with rfl | hz
   ·rw[e1];rfl
   ·exact a z hz
  ·rcases List.mem_cons.1 hz with rfl | hz
   ·rw[e2];rfl
   ·exact b z hz
theorem Cp.keep {a a':G}:∀ (f:Nat) {x y q:Int} {lx ly:List Int},Cp g g' f x y q lx ly→(∀ z∈lx,a z=g z)→(∀ z∈ly,a' z=g' z)→Cp a a' f x y q lx ly
 | 0,_,_,_,_,_,h,_,_=>h.elim
 | f+1,x,y,q,lx,ly,h,h1,h2=>by
  obtain⟨n,ys,l,m,e1,e2,h3,rfl,rfl⟩:=h;exact⟨n,ys,l,m,by rw[h1 x (by simp)];exact e1,by rw[h2 y (by simp)];exact e2,
   h3.mono fun a b l' m' _ hl hm h=>Cp.keep f h (fun z hz=>h1 z (List.mem_cons_of_mem _ (hl z hz))) (fun z hz=>h2 z (List.mem_cons_of_mem _ (hm z hz))),rfl,rfl⟩
theorem Cp.moved {a':G} {f:Nat} {x y q p:Int} {lx ly:List Int} (h:Cp g g' f x y q lx ly) (hn:ly.Nodup) (h1:∀ z∈ly,z≠y→a' z=g' z) (h2:a' y=(g' y).map fun n=>{ n with pa:=p }):Cp g a' f x y p lx ly:=by
 cases f with
 | zero=>exact h.elim
 | succ f=>
  obtain⟨n,ys,l,m,e1,e2,h3,rfl,rfl⟩:=h;have hy:∀ z∈m,z≠y:=fun z hz e=>(List.nodup_cons.1 hn).1 (e▸hz);exact⟨n,ys,l,m,e1,by rw[h2,e2];rfl,h3.mono fun a b l' m' _ hl hm h=>Cp.keep f h (fun _ _=>rfl) (fun z hz=>h1 z (List.mem_cons_of_mem _ (hm z hz)) (hy z (hm z hz))),rfl,rfl⟩
end
section
variable {ρ ρ':Int→Int} {a a' g g':G}
theorem ED {l1 l2 m1 m2:List Int} (h:l1++l2=m1++m2) (hl:l1.length=m1.length):l1=m1∧l2=m2:=List.append_inj h hl
theorem Cp.src:∀ (f:Nat) {x y p q d:Int} {lx ly la lg:List Int},Cp a a' f x y p lx ly→Cp g g' f (ρ x) d q la lg→(∀ z n,a z=some n→g (ρ z)=some (fC ρ n))→la=lx.map ρ
 | 0,_,_,_,_,_,_,_,_,_,h,_,_=>h.elim
 | f+1,x,y,p,q,d,lx,ly,la,lg,h,k,hi=>by
  obtain⟨n,ys,l,m,e1,e2,h3,rfl,rfl⟩:=h;obtain⟨n2,ds,l2,m2,k1,k2,k3,rfl,rfl⟩:=k;rw[hi x n e1] at k1;obtain rfl:=Option.some.inj k1;have hk:(fC ρ n).kids=n.kids.map ρ:=rfl;rw[hk] at k3;have key:∀ {xs ys l m:List Int},rC (fun a1 b l m=>Cp a a' f a1 b y l m) xs ys l m→∀ {ds l2 m2:List Int},rC (fun a b l m=>Cp g g' f a b d l m) (xs.map ρ) ds l2 m2→l2=l.map ρ:=by
   intro xs ys l m h
   induction h with
   | nil=>intro ds l2 m2 k;cases k;rfl
   | @cons x1 y1 xs ys l1 l3 m1 m3 h1 h2 ih=>
    intro ds l2 m2 k;rw[List.map_cons] at k;generalize hxs:xs.map ρ=xs' at k;cases k with
    | @cons _ d1 _ ds l4 l5 m4 m5 k1 k2=>
     have e2:=ih (ds:=ds) (l2:=l5) (m2:=m5) (by rw[hxs];exact k2);rw[Cp.src f h1 k1 hi,e2,List.map_append]
  rw[key h3 k3,List.map_cons]
theorem Cp.both:∀ (f:Nat) {x y p q d:Int} {lx ly la lg:List Int},Cp a a' f x y p lx ly→Cp g g' f (ρ x) d q la lg→(∀ z n,a z=some n→g (ρ z)=some (fC ρ n))→ly.map ρ'=lg→ρ' p=q→ρ' y=d∧∀ z∈ly,∃ n,a' z=some n∧g' (ρ' z)=some (fC ρ' n)
 | 0,_,_,_,_,_,_,_,_,_,h,_,_,_,_=>h.elim
 | f+1,x,y,p,q,d,lx,ly,la,lg,h,k,hi,hm,hp=>by
  obtain⟨n,ys,l,m,e1,e2,h3,rfl,rfl⟩:=h;obtain⟨n2,ds,l2,m2,k1,k2,k3,rfl,rfl⟩:=k;rw[hi x n e1] at k1;obtain rfl:=Option.some.inj k1;rw[List.map_cons] at hm;obtain⟨hm1,hm2⟩:=List.cons.inj hm;have hk:(fC ρ n).kids=n.kids.map ρ:=rfl;rw[hk] at k3;have key:∀ {xs ys l m:List Int},rC (fun a1 b l m=>Cp a a' f a1 b y l m) xs ys l m→∀ {ds l2 m2:List Int},rC (fun a b l m=>Cp g g' f a b d l m) (xs.map ρ) ds l2 m2→m.map ρ'=m2→ys.map ρ'=ds∧∀ z∈m,∃ n,a' z=some n∧g' (ρ' z)=some (fC ρ' n):=by
   intro xs ys l m h
   induction h with
   | nil=>intro ds l2 m2 k _;cases k;exact⟨rfl,fun z hz=>by simp at hz⟩
   | @cons x1 y1 xs ys l1 l3 m1 m3 h1 h2 ih=>
    intro ds l2 m2 k hm;rw[List.map_cons] at k;generalize hxs:xs.map ρ=xs' at k;cases k with
    | @cons _ d1 _ ds l4 l5 m4 m5 k1 k2=>
     rw[List.map_append] at hm;have hlen:(m1.map ρ').length=m4.length:=by
      have w1:=Cp.len f h1;have w2:=Cp.len f k1;have w3:l4.length=l1.length:=by rw[Cp.src f h1 k1 hi,List.length_map]
      rw[List.length_map];omega
     obtain⟨abd,abe⟩:=ED hm hlen;obtain⟨r1,r2⟩:=Cp.both f h1 k1 hi abd hm1;obtain⟨r3,r4⟩:=ih (by rw[hxs];exact k2) abe;exact⟨by rw[List.map_cons,r1,r3],fun z hz=>(List.mem_append.1 hz).elim (r2 z) (r4 z)⟩
  obtain⟨r1,r2⟩:=key h3 k3 hm2;refine⟨hm1,fun z hz=>?_⟩;rcases List.mem_cons.1 hz with rfl | hz
  ·refine⟨_,e2,?_⟩;rw[hm1,k2];unfold fC;rw[hp,r1]
  ·exact r2 z hz
theorem rC.inner {xs ys l m:List Int} {u:Int} {f:Nat} (h:rC (fun a b l m=>Cp g g' f a b u l m) xs ys l m) (key:∀ {x y q:Int} {lx ly:List Int},Cp g g' f x y q lx ly→∀ z∈ly,∃ n,g' z=some n∧(n.pa=q∨n.pa∈ly)∧∀ k∈n.kids,k∈ly):
  (∀ k∈ys,k∈m)∧∀ z∈m,∃ n,g' z=some n∧(n.pa=u∨n.pa∈m)∧∀ k∈n.kids,k∈m:=by
 induction h with
 | nil=>exact⟨fun k hk=>by simp at hk,fun z hz=>by simp at hz⟩
 | cons h1 h2 ih=>
  refine⟨fun k hk=>?_,fun z hz=>?_⟩
  ·rcases List.mem_cons.1 hk with rfl | hk
   ·obtain⟨_,_,_,e⟩:=h1.head;rw[e];simp
   ·exact List.mem_append_right _ (ih.1 k hk)
  ·rcases List.mem_append.1 hz with hz | hz
   ·obtain⟨n,e,hp,hk⟩:=key h1 z hz;exact⟨n,e,hp.elim .inl (fun h=>.inr (List.mem_append_left _ h)),fun k h=>List.mem_append_left _ (hk k h)⟩
   ·obtain⟨n,e,hp,hk⟩:=ih.2 z hz;exact⟨n,e,hp.elim .inl (fun h=>.inr (List.mem_append_right _ h)),fun k h=>List.mem_append_right _ (hk k h)⟩
theorem Cp.inner:∀ (f:Nat) {x y q:Int} {lx ly:List Int},Cp g g' f x y q lx ly→∀ z∈ly,∃ n,g' z=some n∧(n.pa=q∨n.pa∈ly)∧∀ k∈n.kids,k∈ly
 | 0,_,_,_,_,_,h=>h.elim
 | f+1,x,y,q,lx,ly,h=>by
  obtain⟨n,ys,l,m,e1,e2,h3,rfl,rfl⟩:=h;obtain⟨k1,k2⟩:=h3.inner fun h=>Cp.inner f h;intro z hz;rcases List.mem_cons.1 hz with rfl | hz
  ·exact⟨_,e2,.inl rfl,fun k hk=>List.mem_cons_of_mem _ (k1 k hk)⟩
  ·obtain⟨n',e,hp,hk⟩:=k2 z hz;refine⟨n',e,.inr ?_,fun k h=>List.mem_cons_of_mem _ (hk k h)⟩;rcases hp with hp | hp
   ·rw[hp];simp
   ·exact List.mem_cons_of_mem _ hp
theorem Im.copy (h:Im ρ a g) {f:Nat} {x k d:Int} {lx ly la lg:List Int} (hc:Cp a a' f x k (-1) lx ly) (hd:Cp g g' f (ρ x) d 0 la lg) (hρ:∀ y,y = -1∨(a y).isSome→ρ' y=ρ y) (hm:ly.map ρ'=lg)
  (ha:∀ z,z∉ly→a' z=a z) (hg:∀ z,z∉lg→g' z=g z) (fa:∀ z∈ly,a z=none∧z ≠ -1) (fg:∀ z∈lg,g z=none∧z≠0) (nd:lg.Nodup):Im ρ' a' g':=by
 have hz:ρ' (-1)=0:=by rw[hρ _ (.inl rfl)];exact h.zero
 obtain⟨hkd,hb⟩:=Cp.both f hc hd h.node hm hz;have hin:=Cp.inner f hc;have hmap:∀ y q,a y=some q→fC ρ' q=fC ρ q:=fun y q e=>by
  unfold fC;rw[hρ q.pa (h.pa y q e)];congr 1;exact List.map_congr_left fun k hk=>hρ k (.inr (h.kids y q e k hk))
 have hno:∀ y q,a y=some q→y∉ly:=fun y q e hy=>by rw[(fa y hy).1] at e;cases e
 have hgo:∀ y q,a y=some q→ρ y∉lg:=fun y q e hy=>by have:=h.node y q e;rw[(fg _ hy).1] at this;cases this
 have hl:∀ y,(a y).isSome→(a' y).isSome:=fun y hy=>by
  obtain⟨q,e⟩:=Option.isSome_iff_exists.1 hy;rw[ha y (hno y q e)];exact hy
 have hl2:∀ y∈ly,(a' y).isSome:=fun y hy=>by
  obtain⟨n,e,_⟩:=hb y hy;rw[e];rfl
 have hS:∀ y,(a' y).isSome→y∈ly∨(a y).isSome:=fun y hy=>by
  by_cases e:y∈ly
  ·exact .inl e
  ·rw[ha y e] at hy;exact .inr hy
 have hinl:∀ y∈ly,ρ' y∈lg:=fun y hy=>by rw[←hm];exact List.mem_map_of_mem hy
 constructor
 ·exact hz
 ·intro y n e;by_cases hy:y∈ly
  ·obtain⟨n',e1,e2⟩:=hb y hy;rw[e] at e1;obtain rfl:=Option.some.inj e1;exact e2
  ·rw[ha y hy] at e;rw[hρ y (.inr (bR e)),hg _ (hgo y n e),hmap y n e];exact h.node y n e
 ·intro y hy;by_cases e:y∈lg
  ·rw[←hm] at e;obtain⟨z,hz1,hz2⟩:=List.mem_map.1 e;exact⟨z,hl2 z hz1,hz2⟩
  ·rw[hg y e] at hy;obtain⟨z,h1,h2⟩:=h.dom y hy;exact⟨z,hl z h1,by rw[hρ z (.inr h1)];exact h2⟩
 ·intro y z hy hz' e;rcases hS y hy with hy1 | hy1
  ·rcases hS z hz' with hz1 | hz1
   ·have nd':(ly.map ρ').Nodup:=by rw[hm];exact nd
    exact MP nd' hy1 hz1 e
   ·obtain⟨q,eq⟩:=Option.isSome_iff_exists.1 hz1;have k:=hinl y hy1;rw[e,hρ z (.inr hz1)] at k;exact absurd k (hgo z q eq)
  ·obtain⟨q,eq⟩:=Option.isSome_iff_exists.1 hy1;rcases hS z hz' with hz1 | hz1
   ·have k:=hinl z hz1;rw[←e,hρ y (.inr hy1)] at k;exact absurd k (hgo y q eq)
   ·rw[hρ y (.inr hy1),hρ z (.inr hz1)] at e;exact h.inj y z hy1 hz1 e
 ·intro y hy;rcases hS y hy with hy1 | hy1
  ·exact (fg _ (hinl y hy1)).2
  ·rw[hρ y (.inr hy1)];exact h.nz y hy1
 ·rw[ha (-1) (fun e=>(fa _ e).2 rfl)];exact h.neg
 ·intro y q e;by_cases hy:y∈ly
  ·obtain⟨n,e1,hp,_⟩:=hin y hy;rw[e] at e1;obtain rfl:=Option.some.inj e1;exact hp.elim .inl (fun h=>.inr (hl2 _ h))
  ·rw[ha y hy] at e;exact (h.pa y q e).elim .inl (fun h=>.inr (hl _ h))
 ·intro y q e k hk;by_cases hy:y∈ly
  ·obtain⟨n,e1,_,hp⟩:=hin y hy;rw[e] at e1;obtain rfl:=Option.some.inj e1;exact hl2 _ (hp k hk)
  ·rw[ha y hy] at e;exact hl _ (h.kids y q e k hk)
where
 MP {l:List Int} {u:Int→Int} (hn:(l.map u).Nodup):∀ {y z:Int},y∈l→z∈l→u y=u z→y=z:=by
  intro y z hy hz e
  induction l with
  | nil=>simp at hy
  | cons b r ih=>
   rw[List.map_cons,List.nodup_cons] at hn;rcases List.mem_cons.1 hy with e1 | h1
   ·rcases List.mem_cons.1 hz with e2 | h2
    ·rw[e1,e2]
    ·exact absurd (by rw[←e1,e];exact List.mem_map_of_mem h2) hn.1
   ·rcases List.mem_cons.1 hz with e2 | h2
    ·exact absurd (by rw[←e2,←e];exact List.mem_map_of_mem h1) hn.1
    ·exact ih hn.2 h1 h2
end
end Tr
end
section
namespace Tr
open Go Go.RowKit
theorem qB {g gj:G}:∀ (f:Nat) (k:Int),(∀ z∈walk g f k,gj z=g z)→(∀ z∈walk g f k,∀ n,g z=some n→∀ x∈n.kids,(g x).isSome)→(g k).isSome→walk gj f k=walk g f k
 | 0,_,_,_,_=>rfl
 | f+1,k,h,hc,hk=>by
  obtain⟨n,e⟩:=Option.isSome_iff_exists.1 hk;have hin:k∈walk g (f+1) k:=by rw[walk,e];simp
  have e2:gj k=some n:=by rw[h k hin];exact e
  have hsub:∀ x∈n.kids,∀ z∈walk g f x,z∈walk g (f+1) k:=fun x hx z hz=>by rw[walk,e];exact List.mem_cons_of_mem _ (List.mem_flatMap.2 ⟨x,hx,hz⟩)
  have hkd:=hc k hin n e;rw[walk,walk,e,e2];simp only;congr 1;exact uT fun x hx=>qB f x (fun z hz=>h z (hsub x hx z hz)) (fun z hz=>hc z (hsub x hx z hz)) (hkd x hx)
structure vo (Z:Int) (g g0:G) (n:GN) (f:Nat) (d q:Int) (gj:G) (pre ys l m:List Int):Prop where
 self:gj d=some { n with pa:=q,kids:=ys }
 cp:rC (fun a b l m=>Cp g gj f a b d l m) pre ys l m
 nd:(d::m).Nodup
 fresh:∀ z∈d::m,g z=none∧z≠Z
 old:∀ z,z∉d::m→gj z=g0 z
section
variable {Z:Int} {g g0 gj g2:G} {n:GN} {f:Nat} {d q:Int} {pre ys l m:List Int}
theorem vo.start (h:gj d=some { n with pa:=q,kids:=[] }) (h1:g d=none) (h2:d≠Z) (h3:∀ z,z≠d→gj z=g0 z):vo Z g g0 n f d q gj [] [] [] []:=by
 refine⟨h,.nil,by simp,fun z hz=>?_,fun z hz=>h3 z (by simpa using hz)⟩;have e:z=d:=by simpa using hz
 rw[e];exact⟨h1,h2⟩
theorem vo.Xz (D:vo Z g g0 n f d q gj pre ys l m):∀ z∈d::m,(gj z).isSome:=by
 intro z hz;rcases List.mem_cons.1 hz with rfl | hz
 ·rw[D.self];rfl
 ·obtain⟨_,k⟩:=D.cp.inner fun h=>Cp.inner f h;obtain⟨n,e,_⟩:=k z hz;rw[e];rfl
theorem vo.step (D:vo Z g g0 n f d q gj pre ys l m) (hi:∀ z,(g0 z).isSome=(g z).isSome) {k c:Int} {lk mc:List Int} (hsrc:∀ z∈walk g f k,(g z).isSome∧g0 z=g z)
  (C:Cp gj g2 f k c d lk mc) (hnd:mc.Nodup) (hf:∀ z∈mc,gj z=none∧z≠Z) (hO:∀ z,z∉mc→g2 z=if z=d then (gj d).map fun n=>{ n with kids:=n.kids++[c] } else gj z) (YG:(g k).isSome)
  (hcl:∀ z∈walk g f k,∀ n,g z=some n→∀ x∈n.kids,(g x).isSome):
  vo Z g g0 n f d q g2 (pre++[k]) (ys++[c]) (l++walk g f k) (m++mc):=by
 have hdm:=D.Xz;have RL:∀ z∈mc,z∉d::m:=fun z hz h=>by have:=hdm z h;rw[(hf z hz).1] at this;cases this
 have hfr:∀ z∈mc,g z=none:=fun z hz=>by
  have h1:=D.old z (RL z hz);rw[(hf z hz).1] at h1;have h2:=hi z;rw[←h1] at h2;exact Option.not_isSome_iff_eq_none.1 (by rw[←h2];simp)
 have hsame:∀ z∈walk g f k,gj z=g z:=fun z hz=>by
  have hz1:=(hsrc z hz).1;rw[D.old z (fun h=>by rw[(D.fresh z h).1] at hz1;cases hz1)];exact (hsrc z hz).2
 have hlk:walk g f k=lk:=by rw[←qB f k hsame hcl YG];exact (Cp.walks f f C (Nat.le_refl _)).1
 have Od:d∉mc:=fun h=>RL d h (by simp);refine⟨?_,?_,?_,?_,?_⟩
 ·rw[hO d Od,if_pos rfl,D.self];rfl
 ·rw[hlk];refine rC.snoc ?_ ?_
  ·refine D.cp.mono fun a b l' m' _ _ hm h=>Cp.keep f h (fun _ _=>rfl) (fun z hz=>?_);have hzm:=hm z hz;rw[hO z (fun h=>RL z h (List.mem_cons_of_mem _ hzm)),if_neg];rintro rfl;exact (List.nodup_cons.1 D.nd).1 hzm
  ·exact Cp.keep f C (fun z hz=>(hsame z (by rw[hlk];exact hz)).symm) (fun _ _=>rfl)
 ·rw[←List.cons_append,List.nodup_append];exact⟨D.nd,hnd,fun a ha b hb e=>RL b hb (e▸ha)⟩
 ·intro z hz;rw[←List.cons_append] at hz;rcases List.mem_append.1 hz with hz | hz
  ·exact D.fresh z hz
  ·exact⟨hfr z hz,(hf z hz).2⟩
 ·intro z hz;rw[←List.cons_append,List.mem_append,not_or] at hz;rw[hO z hz.2,if_neg (fun e=>hz.1 (by rw[e];simp))];exact D.old z hz.1
theorem vo.finish (D:vo Z g g0 n f d q gj n.kids ys l m) {h:Int} (e:g h=some n):Cp g gj (f+1) h d q (h::l) (d::m):=⟨n,ys,l,m,e,D.self,D.cp,rfl,rfl⟩
theorem Oc {g gj:G} (w:WF 0 g) (w':WF 0 gj) (h:∀ z,(g z).isSome→gj z=g z) {k:Int} (hk:(g k).isSome):aY gj k=aY g k:=by
 have key:∀ {x:Int} {l:List Int},Up g x l→((g x).isSome∨x=0)→Up gj x l:=by
  intro x l u
  induction u with
  | out e=>
   rintro (h1 | rfl)
   ·rw[e] at h1;cases h1
   ·exact .out w'.zero
  | @node x n l e u ih=>
   intro _;refine .node (by rw[h x (by rw[e];rfl)];exact e) (ih ?_);rcases w.pa e with h1 | ⟨p,h1,_⟩
   ·exact .inr h1
   ·exact .inl (by rw[h1];rfl)
 exact w'.iq (key (w.bY k).1 (.inl hk))
theorem Cr {u:Int→List Int}:∀ {ks:List Int} {y:Int},y∈ks→(∀ k∈ks,1≤(u k).length)→(u y).length+ks.length≤(ks.flatMap u).length+1
 | [],y,h,_=>by simp at h
 | a::r,y,h,h1=>by
  rw[List.flatMap_cons,List.length_append,List.length_cons];have hr:∀ ks:List Int,(∀ k∈ks,1≤(u k).length)→ks.length≤(ks.flatMap u).length:=by
   intro ks
   induction ks with
   | nil=>intro _;exact Nat.zero_le _
   | cons b q ih=>
    intro hq;rw[List.flatMap_cons,List.length_append,List.length_cons];have:=ih fun k hk=>hq k (List.mem_cons_of_mem _ hk);have:=hq b (by simp);omega
  have h2:=hr r fun k hk=>h1 k (List.mem_cons_of_mem _ hk);have h3:=h1 a (by simp);rcases List.mem_cons.1 h with rfl | h
  ·omega
  ·have:=Cr h fun k hk=>h1 k (List.mem_cons_of_mem _ hk);omega
theorem rC.Uv {P:Int→Int→List Int→List Int→Prop} {xs ys l m:List Int} {D:Nat} (h:rC P xs ys l m) (hu:∀ x y l' m',P x y l' m'→l'.length≤D):l.length≤xs.length*D:=by
 induction h with
 | nil=>simp
 | cons h1 h2 ih=>
  rw[List.length_append,List.length_cons,Nat.succ_mul];have:=hu _ _ _ _ h1;omega
theorem rC.heads {P:Int→Int→List Int→List Int→Prop} {xs ys l m:List Int} (h:rC P xs ys l m):ys.length=xs.length:=by
 induction h with
 | nil=>rfl
 | cons _ _ ih=>rw[List.length_cons,List.length_cons,ih]
theorem LZ {n0 n1 N p D L x:Nat} (h0:n0+(N+D)*(N+D)≤99999) (h1:n1≤n0+1+L) (hL:L≤p*D) (hp:p+1≤N) (hx:x≤D):n1+x*x≤99999:=by
 have e1:x*x≤D*D:=Nat.mul_le_mul hx hx;have e2:p*D+D≤N*D:=by
  have:=Nat.mul_le_mul_right D hp;rw[Nat.add_mul,Nat.one_mul] at this;exact this
 have e3:(N+D)*(N+D)=N*N+N*D+(D*N+D*D):=by rw[Nat.add_mul,Nat.mul_add,Nat.mul_add]
 have e4:N≤N*N:=Nat.le_mul_of_pos_left N (by omega);rw[e3] at h0;omega
end
end Tr
end
section
open Go.RowKit
def jo (cs:List (List UInt8)) (k:Nat):Nat:=(cs.take k).flatten.length
theorem tN (cs:List (List UInt8)) (k:Nat):jo cs k≤cs.flatten.length:=by
 have h:cs.flatten=(cs.take k).flatten++(cs.drop k).flatten:=by rw[←List.flatten_append,List.take_append_drop]
 unfold jo;rw[h,List.length_append];omega
theorem qb (cs:List (List UInt8)) (k:Nat):cs.flatten.drop (jo cs k)=(cs.drop k).flatten:=by
 have h:cs.flatten=(cs.take k).flatten++(cs.drop k).flatten:=by rw[←List.flatten_append,List.take_append_drop]
 rw[h];exact List.drop_left
theorem Mr (cs:List (List UInt8)) (k:Nat):cs.flatten.take (jo cs k)=(cs.take k).flatten:=by
 have h:cs.flatten=(cs.take k).flatten++(cs.drop k).flatten:=by rw[←List.flatten_append,List.take_append_drop]
 rw[h];exact List.take_left
theorem Pp (cs:List (List UInt8)) {k:Nat} (h:cs.length≤k):jo cs k=cs.flatten.length:=by unfold jo;rw[List.take_of_length_le h]
theorem Db (cs:List (List UInt8)) {k:Nat} (h:k<cs.length):jo cs (k+1)=jo cs k+(cs[k]).length:=by
 unfold jo;rw[List.take_add_one,List.flatten_append,List.length_append,List.getElem?_eq_getElem h];simp
theorem MQ {c r:List UInt8} (h:bD.Good c):(bD.step (c++r)).2=c.length:=by
 have hb:=bD.Begins.other h r;rw[List.take_length] at hb;exact (bD.kE hb).1
theorem qJ (s:ByteArray) (cs:List (List UInt8)) (cnt:Nat) (w:World) (hs:s.size≤20000) (hc:cnt≤1000000) (hg:∀ c∈cs,bD.Good c) (hd:s.data.toList=cs.flatten):
  Calls Tryz.prog 75 #[.string s,.int .i64 (cnt:Int)] w fun e w'=>e=.returned (.int .i64 (jo cs cnt:Nat))∧Below w.heap.size w w':=by
 have hll:s.data.toList.length=s.size:=rfl;rw[hd] at hll
 go_enter Tryz.func75,Tryz.ntmps75
 go_wp2_with fail
 go_loopw [1] (fun u wr=>∃ k:Nat,u=.int .i64 ((cnt:Int) - k)∧k≤cnt∧k≤cs.length∧wr.heap[w.heap.size]?=some (.stringIter s (jo cs k))∧Below w.heap.size w wr) (fun _ wr=>s.size - wr.iterPos w.heap.size)
 case atStart=>
  exact⟨0,by simp,Nat.zero_le _,Nat.zero_le _,World.iter_heap w s 0,(Below.refl _ w).alloc (Nat.le_refl _) _⟩
 case round=>
  obtain⟨k,rfl,hkc,hkl,hit,hb⟩:=hrel;by_cases hp:jo cs k<s.size
  ·have hk:k<cs.length:=by
    rcases Nat.lt_or_ge k cs.length with h | h
    ·exact h
    ·rw[Pp cs h] at hp;omega
   have YG:=hg (cs[k]) (List.getElem_mem hk);have hdr:s.data.toList.drop (jo cs k)=cs[k]++(cs.drop (k+1)).flatten:=by
    rw[hd,qb,List.drop_eq_getElem_cons hk,List.flatten_cons]
   have hdec:=bD.oK s (jo cs k);rw[hdr] at hdec;have hst:=MQ (r:=(cs.drop (k+1)).flatten) YG;obtain⟨cp,hcp⟩:=eX ((bD.step (cs[k]++(cs.drop (k+1)).flatten)).1)
   have TS:bD.step (cs[k]++(cs.drop (k+1)).flatten)=(cp,cs[k].length):=by rw[←hcp,←hst]
   rw[TS] at hdec;have hnx:∀ ty,(Instr.next (.pointer (some ⟨w.heap.size,0,none⟩)) true ty).run Tryz.prog wr=_:=fun ty=>Lib.run_next_any_at wr w.heap.size s (jo cs k) ty hit hp;rw[hdec] at hnx;have hit2:=Lib.iterAt_heap wr w.heap.size s (jo cs k) (jo cs k+cs[k].length) hit;have hb2:Below w.heap.size w (wr.iterAt w.heap.size s (jo cs k+cs[k].length)):=hb.grown (show wr.grownBy _ (some w.heap.size) from grownBy_putObj' wr w.heap.size (.stringIter s (jo cs k+cs[k].length))) hb.size (fun j hj=>by injection hj with hj;omega);have Z8:s.size - wr.iterPos w.heap.size=s.size - jo cs k:=by simp only[World.iterPos,hit]
   rw[←Db cs hk] at hit2 hb2 hnx;have hsu:=Db cs hk;have hc1:=YG.fG;obtain⟨o1,ho1⟩:=eX (jo cs (k+1))
   obtain⟨o0,ho0⟩:=eX (jo cs k)
   have HO:=zh (And.intro ho0 ho1);have HD:=zh hd;have HG:=zh hg;rw[ho1] at hit2 hb2 hnx hsu;rw[ho0] at hsu Z8 hp hnx;have hlt:o0<o1:=by omega
   clear hdec hcp TS hst hdr YG hc1 hsu ho0 ho1 hd hg hit;by_cases he:cnt=k
   ·have q1:((cnt:Int) - (k:Int) == 0)=true:=by simp;omega
    go_wp2_with fail
    go_ret
    exact⟨by first | (rw[HO.out.1];rfl) | (rw[he,HO.out.1];rfl),hb2⟩
   ·have q1:((cnt:Int) - (k:Int) == 0)=false:=by simp;omega
    go_wp2_with fail
    go_roundw
    case rel=>exact⟨k+1,by go_num,by omega,by omega,by rw[HO.out.2];exact hit2,hb2⟩
    case measure=>
     rw[Z8];simp only[World.iterPos,hit2];omega
  ·have hfl:cs.flatten.length≤jo cs k:=by omega
   have hres:jo cs cnt=s.size:=by
    have h1:=tN cs cnt;have h2:jo cs k≤jo cs cnt:=by
     unfold jo;have:cs.take k=(cs.take cnt).take k:=by rw[List.take_take,Nat.min_eq_left hkc]
     rw[this];exact tN (cs.take cnt) k
    omega
   have hnx:∀ ty,(Instr.next (.pointer (some ⟨w.heap.size,0,none⟩)) true ty).run Tryz.prog wr=_:=fun ty=>Lib.run_next_end_at wr w.heap.size s (jo cs k) ty hit hp;have HR:=zh hres;clear hres hfl;go_wp2_with fail
   go_ret
   exact⟨by rw[HR.out];rfl,hb⟩
theorem RN:(Tryz.prog.info? 9).map (fun i=>(i.zero,i.size,i.bytes))=some (some (.string ByteArray.empty),1,16):=by kernel_rfl
def lu (l:List (List UInt8)):List Value:=l.map fun c=>.string (fF c)
theorem BN (l m:List (List UInt8)):lu (l++m)=lu l++lu m:=by simp[lu]
theorem Pq {cs:List (List UInt8)} (h:∀ c∈cs,bD.Good c):cs.length≤cs.flatten.length:=by
 induction cs with
 | nil=>simp
 | cons c cs ih=>
  have h1:=(h c List.mem_cons_self).fG;have h2:=ih (fun c' hc=>h c' (List.mem_cons_of_mem _ hc));simp only[List.length_cons,List.flatten_cons,List.length_append];omega
theorem sw (s:ByteArray) (cs:List (List UInt8)) (w:World) (hs:s.size≤10000) (hg:∀ c∈cs,bD.Good c) (hc:s.data.toList=cs.flatten):
  Calls Tryz.prog 76 #[.string s] w fun e w'=>∃ v,e=.returned v∧w'.ownsRow w.heap.size 9 1 v cs.length (lu cs)∧Below w.heap.size w w':=by
 obtain⟨i0,hi,hz0,hz1,hz2⟩:=info_parts RN;have hfl:=Pq hg;rw[←hc] at hfl;have hll:s.data.toList.length=s.size:=rfl;rw[hll] at hfl
 go_enter Tryz.func76,Tryz.ntmps76
 go_wp2_with fail
 go_loopw [3,4] (fun v i wr=>∃ (k:Nat) (d r:List (List UInt8)),cs=d++r∧k=d.flatten.length∧i=.int .i64 k∧wr.ownsRow w.heap.size 9 1 v d.length (lu d)∧Below w.heap.size w wr) (fun _ i _=>s.size - (intOf i).toNat)
 case atStart=>exact⟨0,[],cs,rfl,rfl,rfl,World.ownsRow_nil _ _ _ _,Below.refl _ _⟩
 case round=>
  obtain⟨k,d,r,hcs,hk,rfl,hown,hbel⟩:=hrel;obtain⟨A,cp,rfl⟩:=Ac hown;have hdl:d.length≤10000:=by have:=congrArg List.length hcs;rw[List.length_append] at this;omega
  have hkl:k≤s.size:=by
   have:=congrArg List.length hc;rw[hcs,List.flatten_append,List.length_append,hll] at this;omega
  have hdrop:s.data.toList.drop k=r.flatten:=by rw[hc,hcs,List.flatten_append,hk,List.drop_left]
  cases r with
  | cons c r=>
   have hgc:bD.Good c:=hg c (by rw[hcs];simp);have hb:=bD.Begins.other hgc r.flatten;rw[List.take_length,←List.flatten_cons,←hdrop] at hb;have hsz:=bD.gL hb;have Z9:=hgc.fG;have hle:=hb.le;rw[List.length_drop,hll] at hle;obtain⟨n,hn⟩:=eX (c.length)
   rw[hn] at hsz Z9 hle;have hex:s.extract k (k+n)=fF c:=by
    rw[←tL (s.extract k (k+n)),GZ,hdrop,List.flatten_cons,←hn,List.take_left]
   have hsl:∀ W:World,(Instr.slice 9 (.string s) (some (.int .i64 k)) (some (.int .i64 ((k:Int)+n))) none).run Tryz.prog W=.ok (.string (fF c)) W:=fun W=>by
    rw[run_slice_string W _ s _ _ _ _ Tryz.underlying9 (by omega) (by omega) (by omega),←hex];rfl
   have hmx:max (n:Int) 1=n:=by omega
   have HS:=zh hsz;have HC:=zh hcs;have HK:=zh hk;have HN:=zh hn;have hkb:k<s.size:=by omega
   clear hsz hcs hb hex hdrop hk hn;go_wp2_with fail;refine (Ay s k wr (by omega) (by omega)).mono ?_;rintro e w2 ⟨rfl,rfl⟩;rw[HS.out]
   go_wp2_with (at_builtin;refine wpList_append_own _ rfl (.tmp 14) (.tmp 21) 121 rfl w.heap.size 9 i0 (.string ByteArray.empty) 1 16 Tryz.underlying121 hi hz0 hz1 hz2 rfl (by decide) _ d.length (lu d) rfl (hown.alloc _) ⟨wr.heap.size,0,none⟩ 1 1 (lu [c]) rfl rfl ?c1 ?c2 ?c3 ?c4 ?c5 ?_)
   case c1=>intro j u hj;match j,hj with | 0,hj=>simp[lu] at hj;subst hj;simp[Addr.add]
   case c2=>intro u hu;simp[lu] at hu;subst hu;rfl
   case c3=>unfold maxLen;omega
   case c4=>omega
   case c5=>have:=hbel.size;simp;omega
   intro v2 w2 ho2 hg2 _;have hb2:Below w.heap.size w w2:=(hbel.alloc hbel.size _).grown hg2 (by have:=hbel.size;simp;omega) (fun j hj=>(hown.lt j hj).1);rw[←BN] at ho2;have HB:=zh hb2;have HO:=zh ho2;clear ho2 hg2 hb2;go_wp2_with fail
   go_roundw
   case rel=>exact⟨k+n,d++[c],r,by rw[HC.out,List.append_assoc];rfl,by rw[HK.out,List.flatten_append,List.length_append];simp[HN.out],by go_num,by rw[List.length_append];exact HO.out,HB.out⟩
   case measure=>simp[intOf];omega
  | nil=>
   have ek:¬ k<s.size:=by have:=congrArg List.length hdrop;rw[List.length_drop,hll] at this;simp at this;omega
   have hkk:k=s.size:=by omega
   have HC:Hid (d=cs):=by rw[hcs,List.append_nil];trivial
   clear hcs ek hdrop;subst hkk;go_wp2_with fail
   go_ret
   refine⟨_,rfl,?_,hbel⟩;rw[←HC.out];exact hown
def Ve (w:World) (A:Option Addr) (cs:List (List UInt8)):Prop:=
 ∀ i,i<cs.length→∃ b o,A=some ⟨b,o,none⟩∧b<w.heap.size∧w.cell? ⟨b,o+i,none⟩=some (.string (fF (cs.getD i [])))
theorem zV {w:World} {base:Nat} {v:Value} {cs:List (List UInt8)} (h:w.ownsRow base 9 1 v cs.length (lu cs)):∃ A c,v=.slice A cs.length c∧Ve w A cs:=by
 have h0:=h;rcases h.2 with ⟨rfl,hn⟩ | ⟨g,cap,cur,rfl,_,hg,_⟩
 ·refine⟨none,0,by rw[hn],fun i hi=>by omega⟩
 ·refine⟨_,_,rfl,fun i hi=>⟨g,0,rfl,lt_of_block hg,?_⟩⟩;rw[Nat.zero_add,h0.cellAt i (by omega)];simp[lu,List.getD,hi]
theorem CQ (A:Option Addr) (cap:Nat) (cs:List (List UInt8)) (a t:Int) (w:World) (hA:Ve w A cs) (hl:cs.flatten.length≤100000) (ha:a≤9223372036854775807) (ht:t≤9223372036854775807):
  Calls Tryz.prog 77 #[.slice A cs.length cap,.int .i64 a,.int .i64 t] w fun e w'=>e=.returned (.string (fF (seg cs a.toNat t.toNat).flatten))∧w=w':=by
 obtain⟨m,hm⟩:∃ m:Nat,m=a.toNat:=⟨_,rfl⟩
 have hmx:max a 0=(m:Int):=by omega
 have hmb:(m:Int)≤9223372036854775807:=by omega
 rw[←hm];clear hm
 go_enter Tryz.func77,Tryz.ntmps77
 go_wp2_with fail;have hse:=nN cs m m (Nat.le_refl _)
 go_loop [7,8] (fun v i=>∃ k:Nat,m≤k∧(k=m∨((k:Int)≤t∧k≤cs.length))∧i=.int .i64 k∧v=.string (fF (seg cs m k).flatten)) (fun _ i=>cs.length - (intOf i).toNat)
 case atStart=>exact⟨m,Nat.le_refl _,.inl rfl,rfl,by rw[hse];rfl⟩
 case round=>
  obtain⟨k,hmk,hor,rfl,rfl⟩:=hrel;by_cases hlt:(k:Int)<t∧k<cs.length
  ·obtain⟨b,o,rfl,hb,hc⟩:=hA k hlt.2;obtain⟨h1,h2⟩:=hlt;have h2':(k:Int)<(cs.length:Int):=by omega
   have hst:=GX cs m k hmk h2;have hsl:=yU cs m k;have hsl2:=yU cs m (k+1);have e1:∀ c:List UInt8,[c].flatten=c:=fun c=>by simp
   rw[hst,List.flatten_append,List.length_append,e1] at hsl2;obtain⟨c,hcc⟩:=eX (cs.getD k [])
   rw[hcc] at hc hst hsl2;obtain⟨L,hL⟩:=eX ((seg cs m k).flatten)
   rw[hL] at hsl hsl2 ⊢;have hcl:(fF c).size≤100000:=by rw[kg];omega
   have hLl:(fF L).size≤100000:=by rw[kg];omega
   have had:∀ W:World,(Op.stringOp .add (fF L) (fF c)).run Tryz.prog W=.ok (.string (fF L++fF c)) W:=fun W=>run_string_add_sum W _ _ (by omega);have hS:fF (seg cs m (k+1)).flatten=fF L++fF c:=by rw[hst,List.flatten_append,hL,mD,e1]
   have HS:=zh hS;clear hS e1 hst hcc hL hsl hsl2 hse;go_wp2_with fail
   go_round
   case rel=>exact⟨k+1,by omega,.inr ⟨by omega,by omega⟩,by go_num,by rw[HS.out]⟩
   case measure=>simp[intOf];omega
  ·have hfin:seg cs m k=seg cs m t.toNat:=by
    rcases hor with rfl | ⟨h1,h2⟩
    ·by_cases hkt:(k:Int)<t
     ·exact Ld cs k k _ (by omega) (by omega)
     ·rw[nN cs k k (Nat.le_refl _),nN cs k _ (by omega)]
    ·by_cases hkt:(k:Int)<t
     ·exact Ld cs m k _ (by omega) (by omega)
     ·rw[show k=t.toNat from by omega]
   have HF:=zh hfin;clear hfin hse;by_cases hkt:(k:Int)<t
   ·have hkl:¬ (k:Int)<(cs.length:Int):=by omega
    go_wp2_with fail
    go_ret
    exact⟨Vv (by rw[HF.out]),rfl⟩
   ·go_wp2_with fail
    go_ret
    exact⟨Vv (by rw[HF.out]),rfl⟩
end
section
open Go
def NJ (K:Act→World→Prop):Exit→Act→World→Prop
 | .normal,a,w=>K a w
 | _,_,_=>False
variable {P:Program} {ops:Array Oper} {Q:Exit→Act→World→Prop} {md:Region.Mode} {S:World→Prop} {K:Act→World→Prop} {l n:Nat}
theorem YH {i:Nat} {K1:Act→World→Prop} {a:Act} {w:World} (hnd:∀ (i:Nat) o c,ops[i]?=some o→o.op≠.defer c) (h:wpOp P ops (NoPanic (NJ K)) i K1 a w):wpOpIn (Fence.wide.inRound l) n P ops Q i K1 a w:=by
 unfold wpOp at h;unfold wpOpIn;cases e:ops[i]? with
 | none=>rw[e] at h;exact h
 | some o=>
  rw[e] at h;simp only at h ⊢
  split
  ·rename_i hw;rw[if_pos hw] at h;rcases h with h | ⟨-,a',w',hf⟩
   ·unfold Oper.wp at h;refine⟨fun f _=>trivial,?_⟩;rw[Oper.semAt_eq _ _ _ (fun c=>hnd i o c e)];generalize (execOp a.eval o).run P w=r at h;cases r with
    | ok x w'=>
     cases x<;>simp only[Oper.upon] at h
     case value u=>exact h
     case skip=>exact h
     case defer d=>exact h
     case enter f args=>
      refine⟨fun hd=>(by cases hd),CallsIn.inRound l (callsIn_wide.2 (h.mono fun e w2 he=>?_))⟩;cases e with
      | returned u=>exact he
      | panicked c=>exact (he:False).elim
      | outgrown=>obtain⟨_,_,hf⟩:=he;exact (hf:False).elim
     case row row args=>
      refine⟨fun hd=>(by cases hd),fun c cs _=>?_⟩;obtain⟨v,w2,r1,s1⟩:=h c cs;exact⟨v,w2,r1,stepsIn_wide.2 s1⟩
    | halt x w'=>
     cases x<;>simp only[Oper.upon] at h
     case panic u=>exact (h:False).elim
   ·exact (hf:False).elim
  ·rename_i hw;rw[if_neg hw] at h;exact⟨fun f _=>trivial,h⟩
theorem Pt (hnd:∀ (i:Nat) o c,ops[i]?=some o→o.op≠.defer c) (hQ:∀ a w,K a w→Q .normal a w):∀ (fuel:Nat) (listed:Array Bool) (a:Act) (w:World),wpAny P md ops (NoPanic (NJ K)) fuel listed a w→wpAnyIn (Fence.wide.inRound l) n P md ops Q fuel listed a w
 | 0,_,_,_,h=>⟨h.1,hQ _ _ h.2⟩
 | fuel+1,_,_,_,h=>⟨fun e=>hQ _ _ (h.1 e),fun i hi=>wpOpIn_mono (fun a' w' h'=>Pt hnd hQ fuel _ a' w' h') (YH hnd (h.2 i hi))⟩
theorem RO (h:(ops.toList.all fun o=>match o.op with | .defer _=>false | _=>true)=true):∀ (i:Nat) o c,ops[i]?=some o→o.op≠.defer c:=by
 intro i o c e hc;have hm:o∈ops.toList:=Array.mem_toList_iff.2 (Array.mem_of_getElem? e);have:=List.all_eq_true.1 h o hm;rw[hc] at this;cases this
theorem rV {id:Nat} {a:Act} {w:World} (hm:P.follows .mixedOrders=true) (hS:S w.drew) (hd:(ops.toList.all fun o=>match o.op with | .defer _=>false | _=>true)=true)
  (h:S w.drew→wpAnyH P .any ops (NoPanic (NJ (fun a w=>Q .normal a w))) S ops.size (Array.replicate ops.size false) a w.drew):(Code.region id ops true).wpIn (Fence.wide.inRound l) n P Q a w:=
 wpIn_region_any hm (Pt (K:=fun a w=>Q .normal a w) (RO hd) (fun _ _ h=>h) _ _ _ _ (wpAny_of_held _ _ _ _ (h hS)))
end
end Go.Proofs.YtjpbhkcjmdndjaaGreatDoor
