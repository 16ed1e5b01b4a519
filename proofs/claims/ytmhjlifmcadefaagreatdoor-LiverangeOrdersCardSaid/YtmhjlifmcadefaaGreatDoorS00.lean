/- Part of a proof about trees. -/
import Derived.Below
import Derived.BigQuiet
import Derived.Deep.DrawnRows
import Derived.Deep.Draws
import Derived.Deep.QuietTactic
import Derived.Deep.RegionHeld3
import Derived.Deep.RegionWith
import Derived.Laws.AppendOwnNone
import Derived.Laws.BytesArg
import Derived.Laws.IdiomStrings
import Derived.Laws.OwnMore
import Derived.Lib.AppendStr
import Derived.Lib.DecodeN
import Derived.Lib.Hide
import Derived.Lib.MinMax
import Derived.Lib.OthersKept
import Derived.Lib.RuneBytes
import Derived.Lib.RuneCount
import Derived.Lib.ValidLaws
import Derived.LoopIn
import Derived.LoopNIn
import Derived.OneCell
import Derived.OrdersIn
import Derived.OwnWalk
import Derived.OwnWalkIn
import Derived.RangeFuncBound
import Derived.RangeFuncCalls
import Derived.RangeFuncLeaves
import Derived.RangeFuncNested
import Derived.RangeFuncOwn
import Derived.Shelf.Abstract
import Derived.Shelf.RegionOpen
import Derived.Shelf.Unicode.DecodeSlow
import Derived.TacticsInMore
import Derived.Test.YtmhjlifmcadefaaGreatDoorProg
import Derived.WalkKit
set_option linter.unusedVariables false
set_option linter.unusedSimpArgs false
set_option linter.unusedSectionVars false
set_option maxHeartbeats 2000000
set_option maxRecDepth 100000
namespace Go.Proofs.YtmhjlifmcadefaaGreatDoor
section
namespace Ar
open Go Go.RowKit
def fJ (n:Int):Int:=min (max n 1) 1000
theorem ng (n:Int):1≤fJ n∧fJ n≤1000:=by unfold fJ;omega
def hdl (b s i:Int):Int:=if i<0∨2147483647<i then 0 else fJ b+fJ s*i
def idx (b s h:Int):Int:=if h<fJ b∨(h - fJ b) % fJ s≠0∨2147483647<(h - fJ b) / fJ s then -1 else (h - fJ b) / fJ s
theorem ET (s:Int) (i:Int) (h0:0≤i) (h1:i≤2147483647):0≤fJ s*i∧fJ s*i≤2147483647000:=by
 have:=ng s;constructor
 ·exact Int.mul_nonneg (by omega) h0
 ·calc fJ s*i≤1000*i:=Int.mul_le_mul_of_nonneg_right (by omega) h0
   _≤_:=by omega
theorem nR (b s i:Int) (h0:0≤i) (h1:i≤2147483647):idx b s (hdl b s i)=i:=by
 have hs:=ng s;have hm:=ET s i h0 h1;unfold hdl;rw[if_neg (by omega)];unfold idx;have e:fJ b+fJ s*i - fJ b=fJ s*i:=by omega
 rw[e,Int.mul_emod_right,Int.mul_ediv_cancel_left _ (by omega:fJ s≠0),if_neg (by omega)]
theorem AX (b s h:Int) (hi:idx b s h ≠ -1):0≤idx b s h∧idx b s h≤2147483647∧hdl b s (idx b s h)=h:=by
 have hs:=ng s;unfold idx at hi ⊢
 split at hi
 ·exact absurd rfl hi
 ·rename_i hc;rw[if_neg hc];have h1:¬ h<fJ b:=fun x=>hc (.inl x);have h2:(h - fJ b) % fJ s=0:=Classical.byContradiction fun x=>hc (.inr (.inl x));have h3:¬ 2147483647<(h - fJ b) / fJ s:=fun x=>hc (.inr (.inr x));have h4:0≤(h - fJ b) / fJ s:=Int.ediv_nonneg (by omega) (by omega);refine⟨h4,by omega,?_⟩;unfold hdl;rw[if_neg (by omega)];have:=Int.emod_add_mul_ediv (h - fJ b) (fJ s);omega
theorem Nj (b s i:Int):0≤hdl b s i∧hdl b s i≤2147483648000:=by
 unfold hdl
 split
 ·omega
 ·have:=ET s i (by omega) (by omega);have:=ng b;omega
theorem DT (b s h:Int) : -1≤idx b s h∧idx b s h≤2147483647:=by
 by_cases hi:idx b s h = -1
 ·omega
 ·have:=AX b s h hi;omega
theorem Nk (b s h:Int) (h0:fJ b≤h) (h1:h≤9223372036854775807):wrap64 (h - fJ b)=h - fJ b∧(h - fJ b).tmod (fJ s)=(h - fJ b) % fJ s∧wrap64 ((h - fJ b).tdiv (fJ s))=(h - fJ b) / fJ s:=by
 have hb:=ng b;have hs:=ng s;refine⟨by unfold wrap64;omega,Int.tmod_eq_emod_of_nonneg (by omega),?_⟩;rw[Int.tdiv_eq_ediv_of_nonneg (by omega)];have h2:0≤(h - fJ b) / fJ s:=Int.ediv_nonneg (by omega) (by omega);have h3:(h - fJ b) / fJ s≤h - fJ b:=Int.ediv_le_self _ (by omega);unfold wrap64;omega
theorem Qa (b s h:Int) (h1:h≤9223372036854775807):
  (h<fJ b∧idx b s h = -1)∨
  (¬ h<fJ b∧wrap64 (h - fJ b)=h - fJ b∧¬ (h - fJ b).tmod (fJ s)=0∧¬ (h - fJ b) % fJ s=0∧idx b s h = -1)∨
  (¬ h<fJ b∧wrap64 (h - fJ b)=h - fJ b∧(h - fJ b).tmod (fJ s)=0∧(h - fJ b) % fJ s=0∧∃ q,wrap64 ((h - fJ b).tdiv (fJ s))=q∧2147483647<q∧idx b s h = -1)∨
  (¬ h<fJ b∧wrap64 (h - fJ b)=h - fJ b∧(h - fJ b).tmod (fJ s)=0∧(h - fJ b) % fJ s=0∧∃ q,wrap64 ((h - fJ b).tdiv (fJ s))=q∧¬ 2147483647<q∧idx b s h=q):=by
 by_cases hlt:h<fJ b
 ·exact .inl ⟨hlt,by unfold idx;rw[if_pos (.inl hlt)]⟩
 ·obtain⟨e1,e2,e3⟩:=Nk b s h (by omega) h1;by_cases hr:(h - fJ b) % fJ s=0
  ·by_cases hq:2147483647<(h - fJ b) / fJ s
   ·exact .inr (.inr (.inl ⟨hlt,e1,by rw[e2,hr],hr,_,e3,hq,by unfold idx;rw[if_pos (.inr (.inr hq))]⟩))
   ·exact .inr (.inr (.inr ⟨hlt,e1,by rw[e2,hr],hr,_,e3,hq,by unfold idx;rw[if_neg (fun y=>y.elim hlt (fun z=>z.elim (fun u=>u hr) hq))]⟩))
  ·exact .inr (.inl ⟨hlt,e1,by rw[e2];exact hr,hr,by unfold idx;rw[if_pos (.inr (.inl hr))]⟩)
end Ar
end
section
open Go Go.RowKit
section
variable {P:Program} {ops:Array Oper} {Q:Exit→Act→World→Prop} {md:Region.Mode} {S:World→Prop}
/-- What is to be shown, and which operations are taken next. -/
def AG (is:List Nat) (G:Prop):Prop:=G
theorem bn (is:List Nat) {G:Prop} (h:AG is G):G:=h
theorem bq {G:Prop} (h:G):AG [] G:=h
theorem jf {is:List Nat} {i:Nat} {oi:Oper} {v:Value} {fuel:Nat} {listed:Array Bool} {a:Act} {w:World}
    (h:AG is (wpAnyH P md ops Q S fuel (listed.setIfInBounds i true) (a.put oi.dst v) w)) (hi:ops[i]?=some oi:=by rfl)
    (hc:(Region.noSelect ops && Region.free md ops listed i && (Region.ready md ops listed).contains i)=true:=by kernel_rfl)
    (hQ:∀ c a w,Q (.panic c) (a.put oi.dst v) w→Q (.panic c) a w:=by exact fun _ _ _ h=>h)
    (hy:YieldsIf P ops S oi v a:=by (refine .inl ⟨rfl,?_⟩;intro w' hSw;(try dsimp only at hSw);(repeat (obtain⟨_,hSw⟩:_∧_:=hSw));go_simp<;>with_reducible rfl)) (hS:S w:=by assumption):
    AG (i::is) (wpAnyH P md ops Q S (fuel+1) listed a w):=by
  rw[Bool.and_eq_true,Bool.and_eq_true] at hc
  exact wpAnyH_take hi hc.1.1 hc.1.2 hc.2 hQ hy hS h
theorem bG (i:Nat) {o:Oper} {fuel:Nat} {listed:Array Bool} {a:Act} {w:World}
    (h:∀ K':Act→World→Prop,Shut (∀ a w,S w→(S w→wpAnyH P md ops Q S fuel (listed.setIfInBounds i true) a w)→K' a w)→if Region.wanted o (yielded ops a.tmps)=true then Oper.wp P o a w K' Q else K' (a.put o.dst undef) w)
    (hr:Region.ready md ops listed=[i]:=by kernel_rfl) (ho:ops[i]?=some o:=by rfl):
    wpAnyH P md ops Q S (fuel+1) listed a w:=wpAnyH_ready (rs:=[i]) hr (by simp) (AllReadyH.cons ho h AllReadyH.nil)
theorem eY {fuel:Nat} {listed:Array Bool} {a:Act} {w:World} (h:Q .normal a w) (hr:Region.ready md ops listed=[]:=by kernel_rfl):wpAnyH P md ops (NoPanic Q) S fuel listed a w:=wpAnyH_done hr (NoPanic.normal h) _
theorem Lb (i:Nat) {F:Fence} {n:Nat} {o:Oper} {fuel:Nat} {listed:Array Bool} {a:Act} {w:World}
    (h:∀ K':Act→World→Prop,(∀ a w,wpAnyIn F n P md ops Q fuel (listed.setIfInBounds i true) a w→K' a w)→if Region.wanted o (yielded ops a.tmps)=true then Oper.wpIn F n P o a w K' Q else (∀ f,o.about P w a.eval=some f→F.fn f)∧K' (a.put o.dst undef) w)
    (hr:Region.ready md ops listed=[i]:=by kernel_rfl) (ho:ops[i]?=some o:=by rfl):wpAnyIn F n P md ops Q (fuel+1) listed a w:=wpAnyIn_ready (rs:=[i]) hr (by simp) (AllReadyIn.cons ho h AllReadyIn.nil)
theorem tkI (i:Nat) {F:Fence} {n:Nat} {oi:Oper} {v:Value} {fuel:Nat} {listed:Array Bool} {a:Act} {w:World}
    (h:wpAnyIn F n P md ops Q fuel (listed.setIfInBounds i true) (a.put oi.dst v) w) (hi:ops[i]?=some oi:=by rfl) (hro:F.round=none:=by rfl)
    (hs:Region.noSelect ops=true:=by kernel_rfl) (hf:Region.free md ops listed i=true:=by kernel_rfl) (hr:(Region.ready md ops listed).contains i=true:=by kernel_rfl)
    (hQ:∀ c a w,Q (.panic c) (a.put oi.dst v) w→Q (.panic c) a w:=by exact fun _ _ _ h=>h)
    (hy:YieldsFenced P ops oi v a:=by (refine⟨.inl ⟨by rfl,?_⟩,fun _=>rfl⟩;intro w';go_simp<;>with_reducible rfl)):wpAnyIn F n P md ops Q (fuel+1) listed a w:=wpAnyIn_take hro hi hs hf hr hQ hy h
theorem Jd (i j:Nat) {F:Fence} {n:Nat} {o o':Oper} {fuel:Nat} {listed:Array Bool} {a:Act} {w:World}
    (h:∀ K':Act→World→Prop,(∀ a w,wpAnyIn F n P md ops Q fuel (listed.setIfInBounds i true) a w→K' a w)→if Region.wanted o (yielded ops a.tmps)=true then Oper.wpIn F n P o a w K' Q else (∀ f,o.about P w a.eval=some f→F.fn f)∧K' (a.put o.dst undef) w)
    (h':∀ K':Act→World→Prop,(∀ a w,wpAnyIn F n P md ops Q fuel (listed.setIfInBounds j true) a w→K' a w)→if Region.wanted o' (yielded ops a.tmps)=true then Oper.wpIn F n P o' a w K' Q else (∀ f,o'.about P w a.eval=some f→F.fn f)∧K' (a.put o'.dst undef) w)
    (hr:Region.ready md ops listed=[i,j]:=by kernel_rfl) (ho:ops[i]?=some o:=by rfl) (ho':ops[j]?=some o':=by rfl):wpAnyIn F n P md ops Q (fuel+1) listed a w:=wpAnyIn_ready (rs:=[i,j]) hr (by simp) (AllReadyIn.cons ho h (AllReadyIn.cons ho' h' AllReadyIn.nil))
theorem zQ (i j:Nat) {o o':Oper} {fuel:Nat} {listed:Array Bool} {a:Act} {w:World}
    (h:∀ K':Act→World→Prop,Shut (∀ a w,S w→(S w→wpAnyH P md ops Q S fuel (listed.setIfInBounds i true) a w)→K' a w)→if Region.wanted o (yielded ops a.tmps)=true then Oper.wp P o a w K' Q else K' (a.put o.dst undef) w)
    (h':∀ K':Act→World→Prop,Shut (∀ a w,S w→(S w→wpAnyH P md ops Q S fuel (listed.setIfInBounds j true) a w)→K' a w)→if Region.wanted o' (yielded ops a.tmps)=true then Oper.wp P o' a w K' Q else K' (a.put o'.dst undef) w)
    (hr:Region.ready md ops listed=[i,j]:=by kernel_rfl) (ho:ops[i]?=some o:=by rfl) (ho':ops[j]?=some o':=by rfl):
    wpAnyH P md ops Q S (fuel+1) listed a w:=wpAnyH_ready (rs:=[i,j]) hr (by simp) (AllReadyH.cons ho h (AllReadyH.cons ho' h' AllReadyH.nil))
end
theorem pS:(∀ (a:Act) (d:Tmp) (v:Value),a.put (some d) v={ a with tmps:=a.tmps.setIfInBounds d v })∧(∀ {α:Type} (l:List α) (i:Nat) (a:α),l.toArray.setIfInBounds i a=(l.set i a).toArray)∧(∀ {α:Type} (a b:α) (l:List α),(a::l).set 0 b=b::l)∧
    (∀ {α:Type} (a b:α) (l:List α) (i:Nat),(a::l).set (i+1) b=a::l.set i b):=⟨fun _ _ _=>rfl,fun _ _ _=>List.setIfInBounds_toArray ..,fun _ _ _=>rfl,fun _ _ _ _=>rfl⟩
theorem pT:(∀ {α:Type} (l:List α),l.toArray.size=l.length)∧(∀ {α:Type} (a:α) (l:List α),(a::l).length=l.length+1)∧(∀ {α:Type},([]:List α).length=0)∧(∀ {α:Type} (n:Nat) (a:α),Array.replicate (n+1) a=(Array.replicate n a).push a)∧(∀ {α:Type} (a:α),Array.replicate 0 a=#[])∧
    (∀ {α:Type} (l:List α) (a:α),l.toArray.push a=(l++[a]).toArray)∧(∀ {α:Type} (l m:List α),l.toArray++m.toArray=(l++m).toArray)∧(∀ {α:Type} (l:List α),[]++l=l)∧(∀ {α:Type} (a:α) (l m:List α),(a::l)++m=a::(l++m)):=
  ⟨fun _=>List.size_toArray ..,fun _ _=>rfl,rfl,fun _ _=>Array.replicate_succ,fun _=>Array.replicate_zero,fun _ _=>List.push_toArray ..,fun _ _=>List.append_toArray ..,fun _=>rfl,fun _ _ _=>rfl⟩
theorem fI {w w':World} {o:Obj} (h:w.alloc o=w'):Below w.heap.size w w':=by rw[←h];exact (Below.refl _ w).alloc (Nat.le_refl _) _
theorem lW {w w':World} (h:w.drew=w'):Below w.heap.size w w':=by rw[←h];exact⟨rfl,rfl,rfl,Nat.le_refl _,fun _ _=>rfl⟩
theorem Jg {w w':World} {n:Nat} (h:w.drewN n=w'):Below w.heap.size w w':=by rw[←h];exact⟨rfl,rfl,rfl,Nat.le_refl _,fun _ _=>rfl⟩
theorem eX.{u} {α:Sort u} (e:α):∃ x,e=x:=⟨_,rfl⟩
theorem zh {A:Prop} (h:A):Hid A:=Lib.hid h
theorem jn5 {G:Prop} {α β γ δ ε:Type} {C T:α→β→γ→δ→ε→Prop} (h:Hid (∀ a b c d e,C a b c d e→T a b c d e)→G) (t:∀ a b c d e,C a b c d e→T a b c d e):G:=h (Lib.hid t)
/-- A call that leaves the world as it is. -/
theorem nO {P:Program} {f:FuncId} {args:Array Value} {w:World} {u:Ending} {Q:Ending→World→Prop} (h:Calls P f args w fun e w'=>e=u∧w'=w) (k:Q u w):Calls P f args w Q:=h.mono (by rintro e w' ⟨rfl,rfl⟩;exact k)
end
section
open Go Go.RowKit
def jE (l:List UInt8):List Value:=l.map fun b=>.int .u8 b.toNat
theorem uG (l m:List UInt8):jE (l++m)=jE l++jE m:=by simp[jE]
theorem J7 (s:ByteArray):Lib.strCells s=jE s.data.toList:=by
 simp[Lib.strCells,jE]
def Whole (w:World) (b:Nat) (cs:Array Value) (t:TypeId):Prop:=w.heap[b]?=some (.cells cs t (0,0))
section
variable {w w':World} {b:Nat} {cs:Array Value} {t:TypeId}
theorem Whole.lt (h:Whole w b cs t):b<w.heap.size:=lt_of_block h
theorem Whole.cell (h:Whole w b cs t) (i:Nat):w.cell? ⟨b,i,none⟩=cs[i]?:=cell_of_row w b i cs t (0,0) h
theorem Whole.free (h:Whole w b cs t) (i:Nat):w.frozen? ⟨b,i,none⟩=false:=frozen_of_row w b i cs t h
theorem Whole.alloc (h:Whole w b cs t) (o:Obj):Whole (w.alloc o) b cs t:=(Below.heap_alloc w o b h.lt).trans h
theorem Whole.new (w:World) (cs:Array Value) (t:TypeId):Whole (w.alloc (.cells cs t)) w.heap.size cs t:=heap_alloc_new w _
theorem Whole.put (h:Whole w b cs t) (i:Nat) (v:Value):Whole (w.setCell ⟨b,i,none⟩ v) b (cs.setIfInBounds i v) t:=heap_setCell_same w b i cs t v h
theorem Whole.other (h:Whole w b cs t) {a:Addr} (hn:b≠a.block) (v:Value):Whole (w.setCell a v) b cs t:=(heap_setCell_other w a b v hn).trans h
theorem Whole.below {B:Nat} (h:Whole w b cs t) (hb:Below B w w') (hlt:b<B):Whole w' b cs t:=(hb.block b hlt).trans h
theorem Whole.grown {row:Option Nat} (h:Whole w b cs t) (hg:w.grownBy w' row) (hn:some b≠row):Whole w' b cs t:=(hg.block b h.lt hn).trans h
theorem Whole.unlike {b':Nat} {cs':Array Value} {t':TypeId} (h:Whole w b cs t) (h':Whole w b' cs' t') (hn:t≠t'):b≠b':=by
 intro e;subst e;unfold Whole at h h';rw[h] at h';injection h' with h';injection h' with _ h2;exact hn h2
end
/-! 'grownBy w' (some b)': at most block b has turned, and there may be new ones. -/
section
variable {w w' w'':World} {b:Nat} {row:Option Nat}
theorem G6 (h:w.grownBy w' row) (k:w'.grownBy w'' row):w.grownBy w'' row:=
 ⟨k.os.trans h.os,k.tape.trans h.tape,k.output.trans h.output,Nat.le_trans h.size k.size,fun i hi hn=>(k.block i (Nat.lt_of_lt_of_le hi h.size) hn).trans (h.block i hi hn)⟩
theorem aJ (h:w.grownBy w' (some b)) (i:Nat) (v:Value):w.grownBy (w'.setCell ⟨b,i,none⟩ v) (some b):=
 G6 h ⟨rfl,rfl,rfl,by simp[World.setCell],fun k _ hn=>heap_setCell_other w' _ k v (fun e=>hn (by rw[e]))⟩
theorem ay (h:Below w.heap.size w w') (row:Option Nat):w.grownBy w' row:=⟨h.os,h.tape,h.output,h.size,fun k hk _=>h.block k hk⟩
end
section
variable {T E:TypeId} {w w':World} {base b:Nat} {l:List UInt8}
theorem AY {v:Value} {n:Nat} {xs:List Value} (h:w.ownsRow base E 1 v n xs):∃ A c,v=.slice A n c:=by
 rcases h.2 with ⟨rfl,rfl⟩ | ⟨g,cap,cur,rfl,_⟩
 ·exact⟨none,0,rfl⟩
 ·exact⟨_,_,rfl⟩
end
end
section
open Go Go.RowKit
variable {P:Program} {w:World}
def mP (w:World) (v v':Value):Prop:=v'.ownBlock=v.ownBlock∨∀ k,v'.ownBlock=some k→w.heap.size≤k
theorem EU (base:Nat) (t ty e:TypeId) (i:TypeInfo) (z:Value) (size bytes:Nat) (ht:P.underlying t=some (.slice e)) (hi:P.info? e=some i) (hz:i.zero=some z)
  (hsize:i.size=size) (hby:i.bytes=bytes) (hzs:z.cells.size=size) (hsz:0<size)
  (v:Value) (n:Nat) (xs:List Value) (hown:w.ownsRow base e size v n xs)
  (a:Addr) (m c:Nat) (news:List Value) (hl:news.length=m*size) (hnews:∀ j u,news[j]?=some u→w.cell? (a.add j)=some u) (h1:∀ u∈news,u.oneCell'=true)
  (h63:n+m≤maxLen) (hbytes:(n+m)*bytes≤140737488355328) {v':Value} {w':World}
  (hrun:(Builtin.append_ #[t,t] ty #[v,.slice (some a) m c]).run P w=.ok v' w'):mP w v v':=by
 have hsmall:n+m≤9223372036854775807:=by simp only[maxLen] at h63;omega
 rcases hown.2 with ⟨rfl,rfl⟩ | ⟨g,cap,cur,rfl,hbg,hg,hnc,hcm,hcs,htake⟩
 ·have hx:xs=[]:=List.eq_nil_of_length_eq_zero (by simpa using hown.1);subst hx;obtain⟨v2,w2,hr,h2,_,_⟩:=run_append_own (P:=P) w w.heap.size t ty e i z size bytes ht hi hz hsize hby hzs hsz _ _ _ (World.ownsRow_nil w w.heap.size e size) a m c news hl hnews h1 h63 hbytes (Nat.le_refl _);rw[hrun] at hr;injection hr with hv _;subst hv;exact .inr fun k hk=>(h2.lt k hk).1
 ·subst hsize;subst hby;by_cases hroom:n+m≤cap
  ·have hfit:n*i.size+news.length≤cur.size:=by rw[hl,hcs,←Nat.add_mul];exact Nat.mul_le_mul_right _ hroom
   have hr:=run_append_room (P:=P) w t ty e i ht hi g n cap cur hg a m c news hl hnews h1 hroom hfit;rw[hrun] at hr;injection hr with hv _;subst hv;exact .inl (by simp[Value.ownBlock])
  ·have holds:∀ j u,xs[j]?=some u→w.cell? ((⟨g,0,none⟩:Addr).add j)=some u:=hown.cells (g:=g) rfl;have hr:=run_append_grow (P:=P) w t ty e i z ht hi hz ⟨g,0,none⟩ n cap xs hown.1 holds a m c news hl hnews (by omega) (by omega) (growslice_fits (by omega) hbytes);rw[hrun] at hr;injection hr with hv _;subst hv;exact .inr fun k hk=>by simp[Value.ownBlock] at hk;omega
theorem rR (base AZ:Nat) (t ty e:TypeId) (i:TypeInfo) (z:Value) (size bytes:Nat) (ht:P.underlying t=some (.slice e)) (hi:P.info? e=some i) (hz:i.zero=some z)
  (hsize:i.size=size) (hby:i.bytes=bytes) (hzs:z.cells.size=size) (hsz:0<size)
  (v:Value) (n:Nat) (xs:List Value) (hown:w.ownsRow base e size v n xs) (v2:Value) (m:Nat) (ys:List Value) (hsrc:w.ownsRow AZ e size v2 m ys) (h1:∀ u∈ys,u.oneCell'=true)
  (h63:n+m≤maxLen) (hbytes:(n+m)*bytes≤140737488355328) (hbase:base≤w.heap.size):
  ∃ v' w',(Builtin.append_ #[t,t] ty #[v,v2]).run P w=.ok v' w'∧w'.ownsRow base e size v' (n+m) (xs++ys)∧w.grownBy w' v.ownBlock∧mP w v v':=by
 have hs:=hsrc;rcases hsrc.2 with ⟨rfl,rfl⟩ | ⟨g,cap,cur,rfl,_⟩
 ·have hy:ys=[]:=by
   have:=hsrc.1;rw[Nat.zero_mul] at this;exact List.eq_nil_of_length_eq_zero this
  subst hy;refine⟨v,w,run_append_owned_none w base t ty e i size ht hi v n xs hown,by rw[List.append_nil,Nat.add_zero];exact hown,⟨rfl,rfl,rfl,Nat.le_refl _,fun _ _ _=>rfl⟩,.inl rfl⟩
 ·obtain⟨v',w',hr,h2,h3,_⟩:=run_append_own (P:=P) w base t ty e i z size bytes ht hi hz hsize hby hzs hsz v n xs hown ⟨g,0,none⟩ m cap ys hs.1 (hs.cells rfl) h1 h63 hbytes hbase;exact⟨v',w',hr,h2,h3,EU base t ty e i z size bytes ht hi hz hsize hby hzs hsz v n xs hown ⟨g,0,none⟩ m cap ys hs.1 (hs.cells rfl) h1 h63 hbytes hr⟩
theorem dQ {ops:Array Oper} {rest:List Oper} {o:Oper} {a:Act} {Q:Exit→Act→World→Prop} (hgd:o.guard=none) (s x:Operand) (t:TypeId)
  (ho:o.op=.call { callee:=.builtin .append,args:=#[s,x],argTypes:=#[t,t] })
  (base AZ:Nat) (e:TypeId) (i:TypeInfo) (z:Value) (size bytes:Nat) (ht:P.underlying t=some (.slice e)) (hi:P.info? e=some i) (hz:i.zero=some z)
  (hsize:i.size=size) (hby:i.bytes=bytes) (hzs:z.cells.size=size) (hsz:0<size)
  (v:Value) (n:Nat) (xs:List Value) (hs:a.eval s=v) (hown:w.ownsRow base e size v n xs) (v2:Value) (m:Nat) (ys:List Value) (hx:a.eval x=v2) (hsrc:w.ownsRow AZ e size v2 m ys) (h1:∀ u∈ys,u.oneCell'=true)
  (h63:n+m≤maxLen) (hbytes:(n+m)*bytes≤140737488355328) (hbase:base≤w.heap.size)
  (h:∀ v' w',w'.ownsRow base e size v' (n+m) (xs++ys)→w.grownBy w' v.ownBlock→mP w v v'→wpList P ops Q rest (a.put o.dst v') w'):wpList P ops Q (o::rest) a w:=by
 refine wpList_plain hgd fun K hK=>?_;obtain⟨v',w',hr,h2,h3,h4⟩:=rR (P:=P) base AZ t o.type e i z size bytes ht hi hz hsize hby hzs hsz v n xs hown v2 m ys hsrc h1 h63 hbytes hbase;unfold Oper.wp execOp;simp only[ho,resolve,invoke,builtin,Sem.run_bind,Sem.run_pure,Result.andThen_ok,List.map_toArray,List.map_cons,List.map_nil,hs,hx,hr];exact hK _ _ (h v' w' h2 h3 h4)
theorem fZ {ops:Array Oper} {o:Oper} {a:Act} {K:Act→World→Prop} {Q:Exit→Act→World→Prop} {E:Prop} (hgd:o.guard=none) (s x:Operand) (t:TypeId)
  (ho:o.op=.call { callee:=.builtin .append,args:=#[s,x],argTypes:=#[t,t] })
  (base AZ:Nat) (e:TypeId) (i:TypeInfo) (z:Value) (size bytes:Nat) (ht:P.underlying t=some (.slice e)) (hi:P.info? e=some i) (hz:i.zero=some z)
  (hsize:i.size=size) (hby:i.bytes=bytes) (hzs:z.cells.size=size) (hsz:0<size)
  (v:Value) (n:Nat) (xs:List Value) (hs:a.eval s=v) (hown:w.ownsRow base e size v n xs) (v2:Value) (m:Nat) (ys:List Value) (hx:a.eval x=v2) (hsrc:w.ownsRow AZ e size v2 m ys) (h1:∀ u∈ys,u.oneCell'=true)
  (h63:n+m≤maxLen) (hbytes:(n+m)*bytes≤140737488355328) (hbase:base≤w.heap.size)
  (h:∀ v' w',w'.ownsRow base e size v' (n+m) (xs++ys)→w.grownBy w' v.ownBlock→mP w v v'→K (a.put o.dst v') w'):
  if Region.wanted o (yielded ops a.tmps)=true then Oper.wp P o a w K Q else E:=by
 have hw:Region.wanted o (yielded ops a.tmps)=true:=by simp[Region.wanted,hgd]
 rw[if_pos hw];obtain⟨v',w',hr,h2,h3,h4⟩:=rR (P:=P) base AZ t o.type e i z size bytes ht hi hz hsize hby hzs hsz v n xs hown v2 m ys hsrc h1 h63 hbytes hbase;unfold Oper.wp execOp;simp only[ho,resolve,invoke,builtin,Sem.run_bind,Sem.run_pure,Result.andThen_ok,List.map_toArray,List.map_cons,List.map_nil,hs,hx,hr];exact h v' w' h2 h3 h4
end
section
open Go Go.RowKit
def gI (n:Int):Prop := -9223372036854775808≤n∧n≤9223372036854775807
abbrev xV (b s:Int):Value:=.agg #[.int .i64 b,.int .i64 s]
theorem kD {a b:Int} (h:a=b):Ending.returned (.int .i64 a)=.returned (.int .i64 b):=by rw[h]
theorem gQ {a b:Bool} (h:a=b):Ending.returned (.bool a)=.returned (.bool b):=by rw[h]
theorem Zq {x:Int} (h1 : -9223372036854775808≤x) (h2:x≤9223372036854775807):IntKind.i64.wrap x=x:=by
 rw[IntKind.wrap_i64];omega
def nums (fr:List Nat):List Value:=fr.map fun (i:Nat)=>Value.int .i64 (i:Int)
theorem nums_append (a b:List Nat):nums (a++b)=nums a++nums b:=by simp[nums]
theorem aG {w:World} {B:Nat} {e:TypeId} {size:Nat} {v:Value} {n:Nat} {xs:List Value} (h:w.ownsRow B e size v n xs):w.ownsRow 0 e size v n xs:=by
 refine⟨h.1,?_⟩;rcases h.2 with hn | ⟨g,cap,cur,hv,_,hr⟩
 ·exact .inl hn
 ·exact .inr ⟨g,cap,cur,hv,Nat.zero_le _,hr⟩
theorem aF {w:World} {e:TypeId} {size:Nat} {v:Value} {n:Nat} {xs:List Value} (h:w.ownsRow 0 e size v n xs):∃ A c,v=.slice A n c:=by
 rcases h.2 with ⟨rfl,rfl⟩ | ⟨g,cap,cur,rfl,_⟩
 ·exact⟨none,0,rfl⟩
 ·exact⟨_,_,rfl⟩
theorem lC {w:World} {e:TypeId} {size:Nat} {A:Option Addr} {c n:Nat} {xs:List Value} (h:w.ownsRow 0 e size (.slice A n c) n xs) (hn:0<n):∃ g,A=some ⟨g,0,none⟩∧g<w.heap.size∧∀ j u,xs[j]?=some u→w.cell? ⟨g,j,none⟩=some u:=by
 have hh:=h;rcases h.2 with ⟨_,rfl⟩ | ⟨g,cap,cur,hv,_,hg,_⟩
 ·omega
 ·injection hv with hA _ _;subst hA;refine⟨g,rfl,(Array.getElem?_eq_some_iff.1 hg).1,fun j u hu=>?_⟩;have:=hh.cells rfl j u hu;have e:(⟨g,0,none⟩:Addr).add j=⟨g,j,none⟩:=by unfold Addr.add;split<;>simp_all
  rwa [e] at this
theorem bE {W:World} {B base size:Nat} {e T:TypeId} {cs:Array Value} {v:Value} {n:Nat} {xs:List Value} (h:W.ownsRow base e size v n xs) (hb:Whole W B cs T) (hn:e≠T):v.ownBlock≠some B:=by
 rcases h.2 with ⟨rfl,_⟩ | ⟨g,cap,cur,rfl,_,hg,_⟩
 ·simp[Value.ownBlock]
 ·intro x;have x':g=B:=by simpa [Value.ownBlock] using x
  exact Whole.unlike (cs:=cur) (t:=e) (show Whole W g cur e from hg) hb hn x'
theorem J8 {w:World} {B g n c:Nat} {e:TypeId} {size:Nat} {xs:List Value} (h:w.ownsRow B e size (.slice (some ⟨g,0,none⟩) n c) n xs) (m:Nat) (hm:m≤n):w.ownsRow B e size (.slice (some ⟨g,0,none⟩) m c) m (xs.take (m*size)):=by
 rcases h.2 with ⟨hv,_⟩ | ⟨g',cap,cur,hv,hb,hg,hn,hc,hs,ht⟩
 ·cases hv
 ·injection hv with h1 h2 h3;injection h1 with h1;injection h1 with h1 _ _;subst h1 h3;refine⟨?_,.inr ⟨_,_,cur,rfl,hb,hg,by omega,hc,hs,?_⟩⟩
  ·rw[List.length_take,h.1];exact Nat.min_eq_left (Nat.mul_le_mul_right _ hm)
  ·rw[←ht,List.take_take,Nat.min_eq_left (Nat.mul_le_mul_right _ hm)]
theorem SI {w:World} {B g n c:Nat} {e:TypeId} {size:Nat} {xs:List Value} (h:w.ownsRow B e size (.slice (some ⟨g,0,none⟩) n c) n xs):n≤c:=by
 rcases h.2 with ⟨hv,_⟩ | ⟨g',cap,cur,hv,_,_,hn,_⟩
 ·cases hv
 ·injection hv with _ _ h3;omega
theorem own_ne {w:World} {b1 b2 s1 s2 n1 n2:Nat} {e1 e2:TypeId} {v1 v2:Value} {x1 x2:List Value} (h1:w.ownsRow b1 e1 s1 v1 n1 x1) (h2:w.ownsRow b2 e2 s2 v2 n2 x2) (hn:e1≠e2):v1.ownBlock=none∨v1.ownBlock≠v2.ownBlock:=by
 rcases h1.2 with ⟨rfl,_⟩ | ⟨g,cap,cur,rfl,_,hg,_⟩
 ·exact .inl rfl
 ·refine .inr fun e=>?_;rcases h2.2 with ⟨rfl,_⟩ | ⟨g',cap',cur',rfl,_,hg',_⟩
  ·simp[Value.ownBlock] at e
  ·have e':g=g':=by simpa [Value.ownBlock] using e
   subst e';rw[hg] at hg';injection hg' with hg';injection hg' with _ h2;exact hn h2
structure Turns (S:Nat→Prop) (w w':World):Prop where
 os:w'.os=w.os
 tape:w'.tape=w.tape
 output:w'.output=w.output
 size:w.heap.size≤w'.heap.size
 block:∀ k,k<w.heap.size→¬ S k→w'.heap[k]?=w.heap[k]?
section
variable {w w' w'':World} {S S' U:Nat→Prop}
theorem Turns.of_below (h:Below w.heap.size w w'):Turns S w w':=⟨h.os,h.tape,h.output,h.size,fun k hk _=>h.block k hk⟩
theorem Turns.aU {row:Option Nat} (h:w.grownBy w' row) (hS:∀ k,row=some k→S k):Turns S w w':=⟨h.os,h.tape,h.output,h.size,fun k hk hn=>h.block k hk (fun e=>hn (hS k e.symm))⟩
theorem Turns.refl (S:Nat→Prop) (w:World):Turns S w w:=⟨rfl,rfl,rfl,Nat.le_refl _,fun _ _ _=>rfl⟩
theorem Turns.trans (h:Turns S w w') (h':Turns S' w' w'') (h1:∀ k,k<w.heap.size→S k→U k) (h2:∀ k,k<w.heap.size→S' k→U k):Turns U w w'':=
 ⟨h'.os.trans h.os,h'.tape.trans h.tape,h'.output.trans h.output,Nat.le_trans h.size h'.size,fun k hk hn=>(h'.block k (Nat.lt_of_lt_of_le hk h.size) (fun x=>hn (h2 k hk x))).trans (h.block k hk (fun x=>hn (h1 k hk x)))⟩
theorem Turns.below {B:Nat} (h:Turns S w w') (hB:B≤w.heap.size) (hS:∀ k,S k→B≤k):Below B w w':=
 ⟨h.os,h.tape,h.output,h.size,fun k hk=>h.block k (Nat.lt_of_lt_of_le hk hB) (fun x=>by have:=hS k x;omega)⟩
theorem Whole.turns {b:Nat} {cs:Array Value} {t:TypeId} (h:Whole w b cs t) (ht:Turns S w w') (hn:¬ S b):Whole w' b cs t:=(ht.block b h.lt hn).trans h
theorem bY {base size:Nat} {e:TypeId} {v:Value} {n:Nat} {xs:List Value} (h:w.ownsRow base e size v n xs) (ht:Turns S w w') (hn:∀ k,v.ownBlock=some k→¬ S k):w'.ownsRow base e size v n xs:=by
 refine⟨h.1,?_⟩;rcases h.2 with hv | ⟨g,cap,cur,rfl,hb,hg,hr⟩
 ·exact .inl hv
 ·exact .inr ⟨g,cap,cur,rfl,hb,(ht.block g (Array.getElem?_eq_some_iff.1 hg).1 (hn g (by simp[Value.ownBlock]))).trans hg,hr⟩
end
def aB (w w':World) (F F':Nat→Prop):Prop:=Turns F w w'∧∀ k,k<w.heap.size→F' k→F k
section
variable {w w' w'':World} {F F' F'' G:Nat→Prop}
theorem aB.apart (h:aB w w' F F') (hG:∀ k,G k→k<w.heap.size) (hn:∀ k,G k→¬ F k):∀ k,G k→¬ F' k:=fun k hg hf=>hn k hg (h.2 k (hG k hg) hf)
end
theorem aB.trans {w w1 w2:World} {F F1 F2:Nat→Prop} (h:aB w w1 F F1) (h':aB w1 w2 F1 F2):aB w w2 F F2:=
 ⟨h.1.trans h'.1 (fun _ _ x=>x) (fun k hk x=>h.2 k hk x),fun k hk x=>h.2 k hk (h'.2 k (Nat.lt_of_lt_of_le hk h.1.size) x)⟩
theorem aB.pR {w w1:World} {F:Nat→Prop} (h:Turns F w w1):aB w w1 F F:=⟨h,fun _ _ x=>x⟩
theorem aB.of_below {w w1:World} {F:Nat→Prop} (h:Below w.heap.size w w1):aB w w1 F F:=.pR (.of_below h)
def ints (l:List Int):List Value:=l.map fun i=>.int .i64 i
theorem gD (a b:List Int):ints (a++b)=ints a++ints b:=by simp[ints]
theorem eB (l:List Int):∀ u∈ints l,u.oneCell'=true:=by
 intro u hu;obtain⟨i,_,rfl⟩:=List.mem_map.1 hu;rfl
theorem eu {l:List Int} {i:Nat} {x:Int} (h:l[i]?=some x):(ints l)[i]?=some (.int .i64 x):=by simp[ints,h]
section
variable {E:TypeId} {base:Nat} {w w':World} {v v':Value} {l:List Int} {F F':Nat→Prop}
theorem row_one (w:World) (E:TypeId) (x:Int):(w.alloc (.cells #[.int .i64 x] E)).ownsRow 0 E 1 (.slice (some ⟨w.heap.size,0,none⟩) 1 1) 1 (ints [x]):=
 World.ownsRow_lit (base:=0) (e:=E) (size:=1) w #[.int .i64 x] 1 (by simp) (by unfold maxLen;omega) rfl
end
end
section
open Go.RowKit
theorem G7 (n:Int) (w:World):
  Calls Tryz.prog 139 #[.int .i64 n] w fun e w'=>e=.returned (.int .i64 (Ar.fJ n))∧w'=w:=by
 go_enter Tryz.func139,Tryz.ntmps139
 go_wp2
 all_goals go_ret
 all_goals exact⟨kD (by unfold Ar.fJ;omega),rfl⟩
theorem DU (b s:Int) (w:World):
  Calls Tryz.prog 106 #[xV b s] w fun e w'=>e=.returned (xV (Ar.fJ b) (Ar.fJ s))∧Below w.heap.size w w':=by
 have hb0:=(Below.refl _ w).alloc (Nat.le_refl _) (.cells #[.int .i64 b,.int .i64 s] 48)
 go_enter Tryz.func106,Tryz.ntmps106
 go_wp2_with fail
 go_region_with (go_at_call 139;refine (G7 _ _).mono ?_;rintro e w2 ⟨rfl,rfl⟩)
 all_goals go_wp2_with fail
 all_goals refine bodyPost_ret (v:=xV (Ar.fJ b) (Ar.fJ s)) ?_ rfl ⟨rfl,(hb0.alloc (by simp) _).trans ⟨rfl,rfl,rfl,Nat.le_refl _,fun _ _=>rfl⟩⟩
 all_goals simp[results,Tryz.f106,go_sem]
theorem G8 {w:World} {B:Nat} {b s:Int} (h:Whole w B #[.int .i64 b,.int .i64 s] 48) (x y:Int):
  ∃ w',(w.setCell ⟨B,0,none⟩ (.int .i64 x)).setCell ⟨B,1,none⟩ (.int .i64 y)=w'∧Whole w' B #[.int .i64 x,.int .i64 y] 48∧w.grownBy w' (some B):=
 ⟨_,rfl,(h.put 0 _).put 1 _,aJ (aJ (ay (Below.refl w.heap.size w) (some B)) 0 _) 1 _⟩
theorem G9 (b s i:Int) (w:World) (_hi:gI i):
  Calls Tryz.prog 58 #[xV b s,.int .i64 i] w fun e w'=>e=.returned (.int .i64 (Ar.hdl b s i))∧Below w.heap.size w w':=by
 have hb0:=(Below.refl _ w).alloc (Nat.le_refl _) (.cells #[.int .i64 b,.int .i64 s] 48);by_cases hc:i<0∨2147483647<i
 ·have hr:Ar.hdl b s i=0:=by unfold Ar.hdl;rw[if_pos hc]
  rw[hr];rcases hc with hc | hc
  ·go_enter Tryz.func58,Tryz.ntmps58
   go_wp2_with fail
   go_ret
   exact⟨rfl,hb0⟩
  ·have hc':¬ i<0:=by omega
   go_enter Tryz.func58,Tryz.ntmps58
   go_wp2_with fail
   go_ret
   exact⟨rfl,hb0⟩
 ·have hr:Ar.hdl b s i=Ar.fJ b+Ar.fJ s*i:=by unfold Ar.hdl;rw[if_neg hc]
  have hm:=Ar.ET s i (by omega) (by omega);have hn:=Ar.ng b;have h1:=Zq (x:=Ar.fJ s*i) (by omega) (by omega);have h2:=Zq (x:=Ar.fJ b+Ar.fJ s*i) (by omega) (by omega);have hc1:¬ i<0:=by omega
  have hc2:¬ 2147483647<i:=by omega
  rw[hr];clear hc hr
  go_enter Tryz.func58,Tryz.ntmps58
  go_wp2_with fail;refine (DU b s _).mono ?_;rintro e w2 ⟨rfl,hb2⟩;have hS2:Whole w2 w.heap.size #[.int .i64 b,.int .i64 s] 48:=Whole.below (Whole.new w _ _) hb2 (by simp);have k0:w2.cell? ⟨w.heap.size,0,none⟩=some (.int .i64 b):=hS2.cell 0;have k1:w2.cell? ⟨w.heap.size,1,none⟩=some (.int .i64 s):=hS2.cell 1;have z0:=hS2.free 0;have z1:=hS2.free 1;have hB2:Below w.heap.size w w2:=hb0.trans (hb2.mono (by simp));clear hb2 hb0;go_wp2_with fail;obtain⟨w3,hw3,Zr,g3⟩:=G8 hS2 (Ar.fJ b) (Ar.fJ s);rw[hw3];have a0:w3.cell? ⟨w.heap.size,0,none⟩=some (.int .i64 (Ar.fJ b)):=Zr.cell 0;have a1:w3.cell? ⟨w.heap.size,1,none⟩=some (.int .i64 (Ar.fJ s)):=Zr.cell 1;have hB3:=hB2.grown g3 hB2.size (fun j hj=>by simp at hj;omega);clear hw3 z0 z1 k0 k1;go_wp2_with fail
  go_ret
  exact⟨rfl,hB3⟩
theorem J9 (b s h:Int) (w:World) (hh:gI h):
  Calls Tryz.prog 157 #[xV b s,.int .i64 h] w fun e w'=>e=.returned (.int .i64 (Ar.idx b s h))∧Below w.heap.size w w':=by
 have hb0:=(Below.refl _ w).alloc (Nat.le_refl _) (.cells #[.int .i64 b,.int .i64 s] 48);have hs:=Ar.ng s;have hs0:¬ Ar.fJ s=0:=by omega
 have hw:=Ar.Qa b s h hh.2;obtain⟨I,hI⟩:=eX (Ar.idx b s h)
 rw[hI] at hw ⊢;have HW:=zh hw;clear hs hw hI
 go_enter Tryz.func157,Tryz.ntmps157
 go_wp2_with fail;refine (DU b s _).mono ?_;rintro e w2 ⟨rfl,hb2⟩;have hS2:Whole w2 w.heap.size #[.int .i64 b,.int .i64 s] 48:=Whole.below (Whole.new w _ _) hb2 (by simp);have k0:w2.cell? ⟨w.heap.size,0,none⟩=some (.int .i64 b):=hS2.cell 0;have k1:w2.cell? ⟨w.heap.size,1,none⟩=some (.int .i64 s):=hS2.cell 1;have z0:=hS2.free 0;have z1:=hS2.free 1;have hB2:Below w.heap.size w w2:=hb0.trans (hb2.mono (by simp));clear hb2 hb0;rcases HW.out with ⟨h1,h9⟩ | ⟨h1,h2,h3,h7,h9⟩ | ⟨h1,h2,h3,h7,q,h4,h6,h9⟩ | ⟨h1,h2,h3,h7,q,h4,h6,h9⟩
 all_goals (have hx:=zh h9)
 all_goals clear HW h9
 all_goals go_wp2_with fail
 all_goals obtain⟨w3,hw3,Zr,g3⟩:=G8 hS2 (Ar.fJ b) (Ar.fJ s)
 all_goals rw[hw3]
 all_goals have a0:w3.cell? ⟨w.heap.size,0,none⟩=some (.int .i64 (Ar.fJ b)):=Zr.cell 0
 all_goals have a1:w3.cell? ⟨w.heap.size,1,none⟩=some (.int .i64 (Ar.fJ s)):=Zr.cell 1
 all_goals have hB3:=hB2.grown g3 hB2.size (fun j hj=>by simp at hj;omega)
 all_goals clear hw3 z0 z1 k0 k1
 all_goals go_wp2_with fail
 all_goals go_ret
 all_goals first
  | exact⟨kD hx.out.symm,hB3⟩
  | exact⟨kD (hx.out▸(by first | exact h4 | (rw[h2];exact h4))),hB3⟩
end
section
open Go Go.RowKit
section
variable {α:Type} {sl:α→List Value} {n m:Nat}
def bW (sl:α→List Value) (m:Nat) (f:Nat→α):List Value:=(List.range m).flatMap fun i=>sl (f i)
theorem og (f:Nat→α):bW sl (m+1) f=bW sl m f++sl (f m):=by simp[bW,List.range_succ]
theorem iZ (hn:∀ c,(sl c).length=n) (f:Nat→α):(bW sl m f).length=m*n:=by
 induction m with
 | zero=>simp[bW]
 | succ m ih=>rw[og,List.length_append,ih,hn,Nat.add_mul,Nat.one_mul]
theorem jS (hn:∀ c,(sl c).length=n) (f:Nat→α) {i j:Nat} (hi:i<m) (hj:j<n):(bW sl m f)[i*n+j]?=(sl (f i))[j]?:=by
 induction m with
 | zero=>omega
 | succ m ih=>
  rw[og];by_cases h:i<m
  ·have:i*n+j<m*n:=by
    calc i*n+j<i*n+n:=by omega
     _=(i+1)*n:=by rw[Nat.add_mul];omega
     _≤m*n:=Nat.mul_le_mul_right _ h
   rw[List.getElem?_append_left (by rw[iZ hn];exact this),ih h]
  ·have e:i=m:=by omega
   subst e;rw[List.getElem?_append_right (by rw[iZ hn];omega),iZ hn,Nat.add_sub_cancel_left]
theorem jo {f g:Nat→α} (h:∀ i,i<m→f i=g i):bW sl m f=bW sl m g:=by
 unfold bW;rw[List.flatMap_def,List.flatMap_def];congr 1;exact List.map_congr_left fun i hi=>by rw[h i (List.mem_range.1 hi)]
theorem Ba (hn:∀ c,(sl c).length=n) (f:Nat→α) (l:List Value) (hl:l.length=m*n) (h:∀ i j,i<m→j<n→l[i*n+j]?=(sl (f i))[j]?):l=bW sl m f:=by
 apply List.ext_getElem?;intro k;by_cases hk:k<m*n
 ·have hn0:0<n:=Nat.pos_of_ne_zero fun e=>by subst e;omega
  have e:k=(k / n)*n+k % n:=by have:=Nat.div_add_mod k n;rw[Nat.mul_comm] at this;omega
  have h1:k / n<m:=Nat.div_lt_of_lt_mul (by rw[Nat.mul_comm];exact hk);have h2:k % n<n:=Nat.mod_lt _ hn0;rw[e,h _ _ h1 h2,jS hn f h1 h2]
 ·rw[List.getElem?_eq_none (by omega),List.getElem?_eq_none (by rw[iZ hn];omega)]
theorem qC (hn:∀ c,(sl c).length=n) (f:Nat→α) {i j:Nat} (x:α) (v:Value) (hi:i<m) (hj:j<n) (hx:sl x=(sl (f i)).set j v):
  (bW sl m f).set (i*n+j) v=bW sl m fun k=>if k=i then x else f k:=by
 apply Ba hn
 ·rw[List.length_set,iZ hn]
 ·intro a c ha hc;rw[List.getElem?_set,jS hn f ha hc,iZ hn];have hlt:i*n+j<m*n:=by
   calc i*n+j<i*n+n:=by omega
    _=(i+1)*n:=by rw[Nat.add_mul];omega
    _≤m*n:=Nat.mul_le_mul_right _ hi
  by_cases e:a=i
  ·subst e;rw[if_pos rfl,hx,List.getElem?_set,hn];by_cases e2:j=c
   ·subst e2;rw[if_pos rfl,if_pos rfl,if_pos hlt,if_pos hj]
   ·rw[if_neg (by omega),if_neg e2]
  ·rw[if_neg e,if_neg];intro h;have h1:i<a∨a<i:=by omega
   rcases h1 with h1 | h1
   ·have:(i+1)*n≤a*n:=Nat.mul_le_mul_right _ h1;rw[Nat.add_mul] at this;omega
   ·have:(a+1)*n≤i*n:=Nat.mul_le_mul_right _ h1;rw[Nat.add_mul] at this;omega
def qG (xs:List Value) (k:Nat):List Value→List Value
 | []=>xs
 | a::r=>qG (xs.set k a) (k+1) r
theorem Ka (us xs:List Value) (k:Nat):(qG xs k us).length=xs.length:=by
 induction us generalizing xs k with
 | nil=>rfl
 | cons a r ih=>rw[qG,ih,List.length_set]
theorem Kc (us xs:List Value) (k i:Nat) (h:k+us.length≤xs.length):(qG xs k us)[i]?=if k≤i∧i<k+us.length then us[i - k]? else xs[i]?:=by
 induction us generalizing xs k with
 | nil=>rw[qG,if_neg (by simp only[List.length_nil];omega)]
 | cons a r ih=>
  simp only[List.length_cons] at h ⊢;rw[qG,ih _ _ (by rw[List.length_set];omega),List.getElem?_set];by_cases h1:k+1≤i∧i<k+1+r.length
  ·rw[if_pos h1,if_pos (by omega),show i - k=(i - (k+1))+1 from by omega,List.getElem?_cons_succ]
  ·rw[if_neg h1];by_cases h2:k=i
   ·subst h2;rw[if_pos rfl,if_pos (by omega),if_pos (by omega),Nat.sub_self];rfl
   ·rw[if_neg h2,if_neg (by omega)]
theorem Cv (hn:∀ c,(sl c).length=n) (f:Nat→α) {i:Nat} (x:α) (hi:i<m):
  qG (bW sl m f) (i*n) (sl x)=bW sl m fun k=>if k=i then x else f k:=by
 have hle:i*n+n≤m*n:=by
  calc i*n+n=(i+1)*n:=by rw[Nat.add_mul];omega
   _≤m*n:=Nat.mul_le_mul_right _ hi
 apply Ba hn
 ·rw[Ka,iZ hn]
 ·intro a c ha hc;rw[Kc _ _ _ _ (by rw[hn,iZ hn];exact hle),hn,jS hn f ha hc];by_cases e:a=i
  ·subst e;rw[if_pos (by omega),if_pos rfl,Nat.add_sub_cancel_left]
  ·rw[if_neg e,if_neg];rintro⟨h1,h2⟩;have h3:i<a∨a<i:=by omega
   rcases h3 with h3 | h3
   ·have:(i+1)*n≤a*n:=Nat.mul_le_mul_right _ h3;rw[Nat.add_mul] at this;omega
   ·have:(a+1)*n≤i*n:=Nat.mul_le_mul_right _ h3;rw[Nat.add_mul] at this;omega
end
end
section
namespace Tr
open Go Go.RowKit
/-! Neighbours in a list. -/
def fs:List Int→Int
 | []=>0
 | a::_=>a
def nD:List Int→Int→Int
 | [],_=>0
 | a::r,x=>if a=x then fs r else nD r x
def prv (l:List Int) (x:Int):Int:=nD l.reverse x
def dF (l:List Int):Int:=fs l.reverse
theorem gT {l1 l2:List Int} {x:Int} (h:x∉l1):nD (l1++x::l2) x=fs l2:=by
 induction l1 with
 | nil=>simp[nD]
 | cons a r ih=>
  simp only[List.mem_cons,not_or] at h;rw[List.cons_append,nD,if_neg (fun e=>h.1 e.symm),ih h.2]
theorem lI {l1 l2:List Int} {x:Int} (h:x∉l2):prv (l1++x::l2) x=dF l1:=by
 unfold prv dF;rw[List.reverse_append,List.reverse_cons,List.append_assoc];exact gT (by simpa using h)
theorem SK:dF []=0:=rfl
theorem l7 (l:List Int) (x:Int):dF (l++[x])=x:=by simp[dF,fs]
theorem lJ (l m:List Int) (h:m≠[]):dF (l++m)=dF m:=by
 unfold dF;rw[List.reverse_append];cases e:m.reverse with
 | nil=>exact absurd (List.reverse_eq_nil_iff.1 e) h
 | cons a r=>rfl
theorem DV (l m:List Int) (h:l≠[]):fs (l++m)=fs l:=by cases l with | nil=>exact absurd rfl h | cons a r=>rfl
theorem xA {l:List Int} (h:fs l≠0):fs l∈l:=by cases l with | nil=>exact absurd rfl h | cons a r=>simp[fs]
theorem oz {l:List Int} (h:dF l≠0):dF l∈l:=by have:=xA (l:=l.reverse) h;simpa [dF] using this
theorem tK {l:List Int} (h0:0∉l) (h:fs l=0):l=[]:=by
 cases l with
 | nil=>rfl
 | cons a r=>simp only[fs] at h;exact absurd (by simp[h]) h0
theorem Bb {l:List Int} (h0:0∉l) (h:dF l=0):l=[]:=List.reverse_eq_nil_iff.1 (tK (by simpa using h0) h)
theorem EW {l:List Int} {x:Int} (h:nD l x≠0):nD l x∈l:=by
 induction l with
 | nil=>exact absurd rfl h
 | cons a r ih=>
  rw[nD] at h ⊢
  split at h
  ·rename_i e;rw[if_pos e];exact List.mem_cons_of_mem _ (xA h)
  ·rename_i e;rw[if_neg e];exact List.mem_cons_of_mem _ (ih h)
theorem LQ {l:List Int} {x:Int} (h:prv l x≠0):prv l x∈l:=by have:=EW (l:=l.reverse) h;simpa [prv] using this
theorem EX {l1 l2:List Int} {h y:Int} (hn:(l1++h::l2).Nodup) (h0:0∉l1++h::l2) (hy:y≠h):nD (l1++h::l2) y=if y=dF l1∧y≠0 then h else nD (l1++l2) y:=by
 by_cases hm:y∈l1
 ·obtain⟨a,b,rfl⟩:=List.append_of_mem hm;have hya:y∉a:=fun hx=>by
   have:=(List.nodup_append.1 (List.nodup_append.1 hn).1).2.2 y hx y (by simp);exact this rfl
  have hyb:y∉b:=fun hx=>by
   have:=(List.nodup_append.1 (List.nodup_append.1 hn).1).2.1;exact (List.nodup_cons.1 this).1 hx
  have hyz:y≠0:=fun e=>h0 (by simp[e]);rw[List.append_assoc,List.cons_append,gT hya,List.append_assoc,List.cons_append,gT hya];cases b with
  | nil=>rw[l7,if_pos ⟨rfl,hyz⟩];rfl
  | cons c r=>
   rw[if_neg]
   ·rfl
   ·rintro⟨e,_⟩;rw[show a++y::c::r=(a++[y])++(c::r) from by simp,lJ _ _ (by simp)] at e;exact hyb (by rw[e];exact oz (by rw[←e];exact hyz))
 ·have hl:¬ (y=dF l1∧y≠0):=by
   rintro⟨e,hz⟩;exact hm (by rw[e];exact oz (by rw[←e];exact hz))
  rw[if_neg hl];clear hl hn h0
  induction l1 with
  | nil=>rw[List.nil_append,List.nil_append,nD,if_neg (fun e=>hy e.symm)]
  | cons a r ih=>
   simp only[List.mem_cons,not_or] at hm;rw[List.cons_append,List.cons_append,nD,nD,if_neg (fun e=>hm.1 e.symm),if_neg (fun e=>hm.1 e.symm)];exact ih hm.2
theorem SQ (l:List Int):dF l.reverse=fs l:=by simp[dF]
theorem LU {l1 l2:List Int} {h y:Int} (hn:(l1++h::l2).Nodup) (h0:0∉l1++h::l2) (hy:y≠h):prv (l1++h::l2) y=if y=fs l2∧y≠0 then h else prv (l1++l2) y:=by
 unfold prv;have hn':(l2.reverse++h::l1.reverse).Nodup:=by
  have:(l1++h::l2).reverse.Nodup:=List.pairwise_reverse.2 (hn.imp fun a e=>a e.symm)
  rwa [List.reverse_append,List.reverse_cons,List.append_assoc] at this
 have h0':0∉l2.reverse++h::l1.reverse:=fun e=>h0 (by simp at e ⊢;rcases e with e | e | e<;>simp[e]);have:=EX hn' h0' hy;rw[SQ] at this;rw[List.reverse_append,List.reverse_cons,List.append_assoc,List.reverse_append];exact this
theorem WE (l1 l2:List Int) (h:Int) (h0:0∉l1):fs (l1++h::l2)=if dF l1=0 then h else fs (l1++l2):=by
 cases l1 with
 | nil=>rfl
 | cons a r=>
  rw[if_neg]
  ·rfl
  ·intro e;have:=Bb h0 e;cases this
theorem SS (l1 l2:List Int) (h:Int) (h0:0∉l2):dF (l1++h::l2)=if fs l2=0 then h else dF (l1++l2):=by
 cases l2 with
 | nil=>simp[dF,fs]
 | cons a r=>
  rw[if_neg]
  ·rw[show l1++h::a::r=(l1++[h])++(a::r) from by simp,lJ _ _ (by simp),lJ _ _ (by simp)]
  ·intro e;have:=tK h0 e;cases this
theorem yj {l1 l2:List Int} {h:Int} (hn:h∉l1):(l1++h::l2).erase h=l1++l2:=by
 rw[List.erase_append_right _ hn,List.erase_cons_head]
def iD:List Int→Int→Int→List Int
 | [],_,x=>[x]
 | a::r,b,x=>if a=b then x::a::r else a::iD r b x
theorem vE {l:List Int} {b x:Int} (h:b∉l):iD l b x=l++[x]:=by
 induction l with
 | nil=>rfl
 | cons a r ih=>
  simp only[List.mem_cons,not_or] at h;rw[iD,if_neg (fun e=>h.1 e.symm),ih h.2];rfl
theorem uS {l1 l2:List Int} {b x:Int} (h:b∉l1):iD (l1++b::l2) b x=l1++x::b::l2:=by
 induction l1 with
 | nil=>simp[iD]
 | cons a r ih=>
  simp only[List.mem_cons,not_or] at h;rw[List.cons_append,iD,if_neg (fun e=>h.1 e.symm),ih h.2];rfl
theorem Ke (l:List Int) (b:Int) (x:Int) (hb:b=0∨b∈l) (h0:0∉l) (hn:l.Nodup):∃ l1 l2,l=l1++l2∧fs l2=b∧iD l b x=l1++x::l2:=by
 rcases hb with rfl | hb
 ·exact⟨l,[],by simp,rfl,vE h0⟩
 ·obtain⟨l1,l2,rfl⟩:=List.append_of_mem hb;have:b∉l1:=fun hx=>(List.nodup_append.1 hn).2.2 b hx b (by simp) rfl;exact⟨l1,b::l2,rfl,rfl,uS this⟩
/-! Trees. -/
structure GN where
 kind:Int
 name:ByteArray
 attrs:List (ByteArray×ByteArray)
 data:ByteArray
 pa:Int
 kids:List Int
abbrev G:=Int→Option GN
def au (g:G) (h:Int):List Int:=match g h with | some n=>n.kids | none=>[]
def dI (g:G) (h:Int):Int:=match g h with | some n=>n.pa | none=>0
theorem aH {g:G} {h:Int} {n:GN} (e:g h=some n):au g h=n.kids:=by unfold au;rw[e]
theorem gH {g:G} {h:Int} (e:g h=none):au g h=[]:=by unfold au;rw[e]
theorem aO {g:G} {h:Int} {n:GN} (e:g h=some n):dI g h=n.pa:=by unfold dI;rw[e]
inductive Up (g:G):Int→List Int→Prop
 | out {h:Int}:g h=none→Up g h []
 | node {h:Int} {n:GN} {l:List Int}:g h=some n→Up g n.pa l→Up g h (h::l)
theorem Up.one {g:G} {h:Int} {l m:List Int} (a:Up g h l) (b:Up g h m):l=m:=by
 induction a generalizing m with
 | out e=>cases b with | out _=>rfl | node e' _=>rw[e] at e';cases e'
 | node e _ ih=>
  cases b with
  | out e'=>rw[e] at e';cases e'
  | node e' b=>rw[e] at e';obtain rfl:=Option.some.inj e';rw[ih b]
theorem Up.mem {g:G} {h x:Int} {l:List Int} (a:Up g h l) (hx:x∈l):(g x).isSome:=by
 induction a with
 | out=>cases hx
 | node e _ ih=>
  rcases List.mem_cons.1 hx with rfl | hx
  ·rw[e];rfl
  ·exact ih hx
structure WF (z:Int) (g:G):Prop where
 zero:g z=none
 up:∀ h n,g h=some n→n.pa≠z→∃ p,g n.pa=some p∧h∈p.kids
 down:∀ h n k,g h=some n→k∈n.kids→∃ m,g k=some m∧m.pa=h
 nodup:∀ h n,g h=some n→n.kids.Nodup
 chain:∀ h,∃ l,Up g h l∧l.length≤128
section
variable {z:Int} {g:G}
theorem WF.pa (w:WF z g) {h:Int} {n:GN} (e:g h=some n):n.pa=z∨∃ p,g n.pa=some p∧h∈p.kids:=by
 by_cases hz:n.pa=z
 ·exact .inl hz
 ·exact .inr (w.up h n e hz)
theorem WF.kQ (w:WF z g) {h:Int} {n:GN} (e:g h=some n):z∉n.kids:=fun hz=>by
 obtain⟨m,h1,_⟩:=w.down h n z e hz;rw[w.zero] at h1;cases h1
theorem WF.jr (w:WF z g) (h:Int):(au g h).Nodup:=by
 cases e:g h with
 | none=>rw[gH e];exact List.nodup_nil
 | some n=>rw[aH e];exact w.nodup h n e
theorem WF.l8 (w:WF z g) (h:Int):z∉au g h:=by
 cases e:g h with
 | none=>rw[gH e];simp
 | some n=>rw[aH e];exact w.kQ e
theorem WF.dL (w:WF z g) {h k:Int} (hk:k∈au g h):∃ m,g k=some m∧m.pa=h:=by
 cases e:g h with
 | none=>rw[gH e] at hk;cases hk
 | some n=>rw[aH e] at hk;exact w.down h n k e hk
theorem WF.tL (w:WF z g) {h:Int} {n:GN} (e:g h=some n) (hp:n.pa≠z):h∈au g n.pa:=by
 obtain⟨p,h1,h2⟩:=w.up h n e hp;rw[aH h1];exact h2
theorem WF.above (_w:WF z g) {h:Int} {n:GN} (e:g h=some n) {l:List Int} (hl:Up g n.pa l):h∉l:=by
 intro hm;have key:∀ (x:Int) (l:List Int),Up g x l→h∈l→∃ l1 l2,l=l1++h::l2:=fun x l _ hm=>List.append_of_mem hm;have len:∀ (x:Int) (l:List Int),Up g x l→∀ l1 l2,l=l1++h::l2→Up g h (h::l2):=by
  intro x l hu
  induction hu with
  | out _=>intro l1 l2 h1;cases l1<;>cases h1
  | @node y m l e' hu ih=>
   intro l1 l2 h1;cases l1 with
   | nil=>
    injection h1 with h1 h2;subst h1 h2;exact .node e' hu
   | cons a r=>
    injection h1 with h1 h2;exact ih r l2 h2
 obtain⟨l1,l2,e1⟩:=key _ _ hl hm;have u1:=len _ _ hl l1 l2 e1;have u2:Up g h (h::l):=.node e hl;have:=u1.one u2;injection this with _ this;have h3:=congrArg List.length this;have h4:=congrArg List.length e1;simp at h4;omega
theorem WF.iG (w:WF z g) {h:Int} {n:GN} (e:g h=some n):n.pa≠h:=by
 intro e1;obtain⟨l,hl,_⟩:=w.chain n.pa;have:=w.above e hl;rw[e1] at hl;cases hl with
 | out e2=>rw[e] at e2;cases e2
 | node _ _=>simp at this
theorem WF.vY (w:WF z g) (h:Int):h∉au g h:=fun hm=>by
 obtain⟨m,h1,h2⟩:=w.dL hm;exact w.iG h1 h2
end
/-! A node's links. -/
structure Sl where
 a:Option Addr
 n:Nat
 c:Nat
abbrev Sl.v (x:Sl):Value:=.slice x.a x.n x.c
structure Nd where
 kind:Int
 name:ByteArray
 av:Sl
 data:ByteArray
 pa:Int
 fi:Int
 la:Int
 pr:Int
 ne:Int
abbrev yX:Nd:=⟨0,⟨#[]⟩,⟨none,0,0⟩,⟨#[]⟩,0,0,0,0,0⟩
def dW (g:G) (av:Int→Sl) (h:Int) (n:GN):Nd:=⟨n.kind,n.name,av h,n.data,n.pa,fs n.kids,dF n.kids,prv (au g n.pa) h,nD (au g n.pa) h⟩
def raw (g:G) (av:Int→Sl) (h:Int):Option Nd:=(g h).map (dW g av h)
theorem aj {g:G} {av:Int→Sl} {h:Int} {n:GN} (e:g h=some n):raw g av h=some (dW g av h n):=by unfold raw;rw[e];rfl
theorem bF {g:G} {av:Int→Sl} {h:Int} (e:g h=none):raw g av h=none:=by unfold raw;rw[e];rfl
def upd (R:Int→Option Nd) (h:Int) (f:Nd→Nd):Int→Option Nd:=fun x=>if x=h then (R h).map f else R x
def pJ (R:Int→Option Nd) (h:Int) (o:Option Nd):Int→Option Nd:=fun x=>if x=h then o else R x
theorem sK {R:Int→Option Nd} {h:Int} {o:Option Nd}:pJ R h o h=o:=if_pos rfl
theorem EY {R:Int→Option Nd} {h x:Int} {o:Option Nd} (e:x≠h):pJ R h o x=R x:=if_neg e
theorem upd_same {R:Int→Option Nd} {h:Int} {f:Nd→Nd}:upd R h f h=(R h).map f:=if_pos rfl
theorem upd_ne {R:Int→Option Nd} {h x:Int} {f:Nd→Nd} (e:x≠h):upd R h f x=R x:=if_neg e
theorem kT {R:Int→Option Nd} {h:Int} {f:Nd→Nd} {n:Nd} (e:R h=some n):upd R h f h=some (f n):=by rw[upd_same,e];rfl
theorem dD {R:Int→Option Nd} {h x:Int} {f:Nd→Nd} (e:R x=none):upd R h f x=none:=by
 unfold upd;split
 ·rename_i e1;subst e1;rw[e];rfl
 ·exact e
def iU (g:G) (h:Int):G:=fun x=>if x=h then (g h).map fun n=>{ n with pa:=0 } else if x=dI g h then (g x).map fun n=>{ n with kids:=n.kids.erase h } else g x
def bO (g:G) (p h b:Int):G:=fun x=>if x=h then (g h).map fun n=>{ n with pa:=p } else if x=p then (g p).map fun n=>{ n with kids:=iD n.kids b h } else g x
def pY (R:Int→Option Nd) (p h b pv:Int):Int→Option Nd:=
 let R1:=upd R h fun n=>{ n with pa:=p,pr:=pv,ne:=b }
 let R2:=if pv=0 then upd R1 p fun n=>{ n with fi:=h } else upd R1 pv fun n=>{ n with ne:=h }
 if b=0 then upd R2 p fun n=>{ n with la:=h } else upd R2 b fun n=>{ n with pr:=h }
def vZ (R:Int→Option Nd) (h pa pr ne:Int):Int→Option Nd:=
 let R1:=if pr=0 then upd R pa fun n=>{ n with fi:=ne } else upd R pr fun n=>{ n with ne:=ne }
 let R2:=if ne=0 then upd R1 pa fun n=>{ n with la:=pr } else upd R1 ne fun n=>{ n with pr:=pr }
 upd R2 h fun n=>{ n with pa:=0,pr:=0,ne:=0 }
end Tr
end
section
namespace Tr
open Go Go.RowKit
section
variable {g:G} {av:Int→Sl} {p h b:Int} {n q:GN}
theorem He (ep:g p=some q) (hp:h≠p) (y:Int):au (bO g p h b) y=if y=p then iD q.kids b h else au g y:=by
 unfold au bO;by_cases h1:y=h
 ·subst h1;rw[if_pos rfl,if_neg hp];cases g y<;>rfl
 ·rw[if_neg h1];by_cases h2:y=p
  ·subst h2;rw[if_pos rfl,if_pos rfl,ep];rfl
  ·rw[if_neg h2,if_neg h2]
theorem Hf (w:WF 0 g) (eh:g h=some n) (hn:n.pa=0) (ep:g p=some q) (hp:h≠p) (hb:b=0∨b∈q.kids):
  raw (bO g p h b) av=pY (raw g av) p h b (if b=0 then dF q.kids else prv q.kids b):=by
 have hnk:h∉q.kids:=fun hm=>by
  obtain⟨m,h1,h2⟩:=w.down p q h ep hm;rw[eh] at h1;cases h1;rw[hn] at h2;rw[←h2,w.zero] at ep;cases ep
 have hz:h≠0:=fun e=>by rw[e,w.zero] at eh;cases eh
 have h0:=w.kQ ep;have hnd:=w.nodup p q ep;obtain⟨l1,l2,e1,e2,e3⟩:=Ke q.kids b h hb h0 hnd;have h01:0∉l1:=fun hx=>h0 (by rw[e1];simp[hx]);have h02:0∉l2:=fun hx=>h0 (by rw[e1];simp[hx]);have hpv:(if b=0 then dF q.kids else prv q.kids b)=dF l1:=by
  rw[e1] at hnd ⊢
  split
  ·rename_i hb0;have:l2=[]:=tK h02 (by rw[e2,hb0]);rw[this,List.append_nil]
  ·rename_i hb0;cases l2 with
   | nil=>exact absurd e2.symm hb0
   | cons c r=>
    simp only[fs] at e2;subst e2;exact lI (List.nodup_cons.1 (List.nodup_append.1 hnd).2.1).1
 rw[hpv];have WG:h∉l1++l2:=by rw[←e1];exact hnk
 have hnn:(l1++h::l2).Nodup:=by
  rw[e1] at hnd;simp only[List.mem_append,not_or] at WG;rw[List.nodup_append] at hnd ⊢;refine⟨hnd.1,List.nodup_cons.2 ⟨WG.2,hnd.2.1⟩,fun a ha c hc=>?_⟩;rcases List.mem_cons.1 hc with rfl | hc
  ·rintro rfl;exact WG.1 ha
  ·exact hnd.2.2 a ha c hc
 have h0':0∉l1++h::l2:=by
  simp only[List.mem_append,List.mem_cons,not_or];exact⟨h01,fun e=>hz e.symm,h02⟩
 have hpar:∀ y∈l1++l2,∃ m,g y=some m∧m.pa=p:=fun y hy=>w.down p q y ep (by rw[e1];exact hy);have hpp:p∉l1++l2:=fun hy=>by obtain⟨m,h1,h2⟩:=hpar p hy;exact w.iG h1 h2
 have hv1:dF l1≠0→dF l1∈l1++l2:=fun e=>List.mem_append_left _ (oz e);have hv2:b≠0→b∈l1++l2:=fun e=>List.mem_append_right _ (by rw[←e2] at e ⊢;exact xA e);have hk:=He (b:=b) ep hp;funext x;by_cases hx:x=h
 ·subst hx;have e4:bO g p x b x=some { n with pa:=p }:=by unfold bO;rw[if_pos rfl,eh];rfl
  have n1:dF l1≠0→x≠dF l1:=fun e e'=>WG (e'▸hv1 e);have n2:b≠0→x≠b:=fun e e'=>WG (e'▸hv2 e);have e5:pY (raw g av) p x b (dF l1) x=some { dW g av x n with pa:=p,pr:=dF l1,ne:=b }:=by
   unfold pY;by_cases c1:dF l1=0<;>by_cases c2:b=0
   ·simp only[if_pos c1,if_pos c2];rw[upd_ne hp,upd_ne hp,kT (aj eh)]
   ·simp only[if_pos c1,if_neg c2];rw[upd_ne (n2 c2),upd_ne hp,kT (aj eh)]
   ·simp only[if_neg c1,if_pos c2];rw[upd_ne hp,upd_ne (n1 c1),kT (aj eh)]
   ·simp only[if_neg c1,if_neg c2];rw[upd_ne (n2 c2),upd_ne (n1 c1),kT (aj eh)]
  rw[e5,aj e4];unfold dW;simp only;rw[hk p,if_pos rfl,e3,lI (fun hm=>WG (List.mem_append_right _ hm)),gT (fun hm=>WG (List.mem_append_left _ hm)),e2]
 ·by_cases hxp:x=p
  ·subst hxp;have e4:bO g x h b x=some { q with kids:=l1++h::l2 }:=by unfold bO;rw[if_neg hx,if_pos rfl,ep,←e3];rfl
   have n1:dF l1≠0→x≠dF l1:=fun e e'=>hpp (e'▸hv1 e);have n2:b≠0→x≠b:=fun e e'=>hpp (e'▸hv2 e);have e5:pY (raw g av) x h b (dF l1) x=some { dW g av x q with fi:=if dF l1=0 then h else fs q.kids,la:=if b=0 then h else dF q.kids }:=by
    unfold pY;by_cases c1:dF l1=0<;>by_cases c2:b=0
    ·simp only[if_pos c1,if_pos c2];rw[upd_same,upd_same,upd_ne hx,aj ep];rfl
    ·simp only[if_pos c1,if_neg c2];rw[upd_ne (n2 c2),upd_same,upd_ne hx,aj ep];rfl
    ·simp only[if_neg c1,if_pos c2];rw[upd_same,upd_ne (n1 c1),upd_ne hx,aj ep];rfl
    ·simp only[if_neg c1,if_neg c2];rw[upd_ne (n2 c2),upd_ne (n1 c1),upd_ne hx,aj ep];rfl
   rw[e5,aj e4];unfold dW;simp only;rw[hk q.pa,if_neg (w.iG ep),WE _ _ _ h01,SS _ _ _ h02,e2,←e1]
  ·have e4:bO g p h b x=g x:=by unfold bO;rw[if_neg hx,if_neg hxp]
   cases ex:g x with
   | none=>
    have e5:pY (raw g av) p h b (dF l1) x=none:=by
     unfold pY;by_cases c1:dF l1=0<;>by_cases c2:b=0
     ·simp only[if_pos c1,if_pos c2];exact dD (dD (dD (bF ex)))
     ·simp only[if_pos c1,if_neg c2];exact dD (dD (dD (bF ex)))
     ·simp only[if_neg c1,if_pos c2];exact dD (dD (dD (bF ex)))
     ·simp only[if_neg c1,if_neg c2];exact dD (dD (dD (bF ex)))
    rw[e5,bF (e4.trans ex)]
   | some m=>
    rw[aj (e4.trans ex)];have hz:x≠0:=fun e=>by rw[e,w.zero] at ex;cases ex
    have pm:∀ y∈l1++l2,x=y→m.pa=p:=fun y hy e=>by obtain⟨m',h1,h2⟩:=hpar y hy;rw[←e,ex] at h1;cases h1;exact h2
    have e5:pY (raw g av) p h b (dF l1) x=some { dW g av x m with pr:=if x=b then h else prv (au g m.pa) x,ne:=if x=dF l1 then h else nD (au g m.pa) x }:=by
     have key:∀ (c:Int) (R:Int→Option Nd) (d:Nd) (f k:Nd→Nd),R x=some d→(if c=0 then upd R p k else upd R c f) x=some (if x=c then f d else d):=by
      intro c R d f k e;by_cases c1:c=0
      ·rw[if_pos c1,if_neg (fun e=>hz (e.trans c1)),upd_ne hxp,e]
      ·rw[if_neg c1];by_cases c2:x=c
       ·subst c2;rw[if_pos rfl,kT e]
       ·rw[if_neg c2,upd_ne c2,e]
     unfold pY;simp only;rw[key b _ _ _ _ (key (dF l1) _ _ _ _ ((upd_ne hx).trans (aj ex)))];by_cases c1:x=dF l1<;>by_cases c2:x=b
     ·simp only[if_pos c1,if_pos c2]<;>rfl
     ·simp only[if_pos c1,if_neg c2]<;>rfl
     ·simp only[if_neg c1,if_pos c2]<;>rfl
     ·simp only[if_neg c1,if_neg c2]<;>rfl
    rw[e5];unfold dW;simp only;rw[hk m.pa];by_cases c:m.pa=p
    ·rw[if_pos c,e3,c,LU hnn h0' hx,EX hnn h0' hx,e2,aH ep,←e1];simp[hz]
    ·rw[if_neg c,if_neg (fun e=>c (pm _ (hv2 (by rw[←e];exact hz)) e)),if_neg (fun e=>c (pm _ (hv1 (by rw[←e];exact hz)) e))]
theorem Kg (y:Int) (hp:h≠dI g h):au (iU g h) y=if y=dI g h then (au g y).erase h else au g y:=by
 unfold au iU;by_cases h1:y=h
 ·subst h1;rw[if_pos rfl,if_neg hp];cases g y<;>rfl
 ·rw[if_neg h1];by_cases h2:y=dI g h
  ·subst h2;rw[if_pos rfl,if_pos rfl];cases g (dI g h)<;>rfl
  ·rw[if_neg h2,if_neg h2]
theorem LV (w:WF 0 g) (eh:g h=some n) (hn:n.pa≠0):
  raw (iU g h) av=vZ (raw g av) h n.pa (prv (au g n.pa) h) (nD (au g n.pa) h):=by
 obtain⟨q,ep,hk⟩:=w.up h n eh hn;have Ox:=aO eh;obtain⟨p,hpe⟩:=eX (n.pa)
 have hps:h≠p:=fun e=>w.iG eh (hpe.trans e.symm);rw[hpe] at hn ep Ox ⊢;have hq:=aH ep;obtain⟨l1,l2,e1⟩:=List.append_of_mem hk;have hnn:=w.nodup p q ep;have h0':=w.kQ ep;have hpar:∀ y∈q.kids,∃ m,g y=some m∧m.pa=p:=fun y hy=>w.down p q y ep hy;have hpp:p∉q.kids:=fun hy=>by obtain⟨m,h1,h2⟩:=hpar p hy;exact w.iG h1 h2
 rw[hq];rw[e1] at hnn h0';have h1n:h∉l1:=fun hx=>(List.nodup_append.1 hnn).2.2 h hx h (by simp) rfl;have h2n:h∉l2:=(List.nodup_cons.1 (List.nodup_append.1 hnn).2.1).1;have h01:0∉l1:=fun hx=>h0' (by simp[hx]);have h02:0∉l2:=fun hx=>h0' (by simp[hx]);rw[e1,lI h2n,gT h1n];have hv1:dF l1≠0→dF l1∈l1:=fun e=>oz e;have hv2:fs l2≠0→fs l2∈l2:=fun e=>xA e;have m1:∀ y∈l1,y∈q.kids:=fun y hy=>by rw[e1];simp[hy]
 have m2:∀ y∈l2,y∈q.kids:=fun y hy=>by rw[e1];simp[hy]
 have hkk:=fun y=>Kg (g:=g) (h:=h) y (by rw[Ox];exact hps);rw[Ox] at hkk;have hke:q.kids.erase h=l1++l2:=by rw[e1];exact yj h1n
 funext x;by_cases hx:x=h
 ·subst hx;have e4:iU g x x=some { n with pa:=0 }:=by unfold iU;rw[if_pos rfl,eh];rfl
  have n1:dF l1≠0→x≠dF l1:=fun e e'=>h1n (e'▸hv1 e);have n2:fs l2≠0→x≠fs l2:=fun e e'=>h2n (e'▸hv2 e);have e5:vZ (raw g av) x p (dF l1) (fs l2) x=some { dW g av x n with pa:=0,pr:=0,ne:=0 }:=by
   unfold vZ;simp only;rw[upd_same];by_cases c1:dF l1=0<;>by_cases c2:fs l2=0
   ·simp only[if_pos c1,if_pos c2];rw[upd_ne hps,upd_ne hps,aj eh];rfl
   ·simp only[if_pos c1,if_neg c2];rw[upd_ne (n2 c2),upd_ne hps,aj eh];rfl
   ·simp only[if_neg c1,if_pos c2];rw[upd_ne hps,upd_ne (n1 c1),aj eh];rfl
   ·simp only[if_neg c1,if_neg c2];rw[upd_ne (n2 c2),upd_ne (n1 c1),aj eh];rfl
  rw[e5,aj e4];unfold dW;simp only;have e6:au (iU g x) 0=[]:=by rw[hkk 0,if_neg (fun e=>hn e.symm)];exact gH w.zero
  rw[e6];rfl
 ·by_cases hxp:x=p
  ·subst hxp;have e4:iU g h x=some { q with kids:=l1++l2 }:=by unfold iU;rw[if_neg hx,if_pos Ox.symm,ep,←hke];rfl
   have n1:dF l1≠0→x≠dF l1:=fun e e'=>hpp (m1 _ (e'▸hv1 e));have n2:fs l2≠0→x≠fs l2:=fun e e'=>hpp (m2 _ (e'▸hv2 e));have e5:vZ (raw g av) h x (dF l1) (fs l2) x=some { dW g av x q with fi:=if dF l1=0 then fs l2 else fs q.kids,la:=if fs l2=0 then dF l1 else dF q.kids }:=by
    unfold vZ;simp only;rw[upd_ne hx];by_cases c1:dF l1=0<;>by_cases c2:fs l2=0
    ·simp only[if_pos c1,if_pos c2];rw[upd_same,upd_same,aj ep];rfl
    ·simp only[if_pos c1,if_neg c2];rw[upd_ne (n2 c2),upd_same,aj ep];rfl
    ·simp only[if_neg c1,if_pos c2];rw[upd_same,upd_ne (n1 c1),aj ep];rfl
    ·simp only[if_neg c1,if_neg c2];rw[upd_ne (n2 c2),upd_ne (n1 c1),aj ep];rfl
   rw[e5,aj e4];unfold dW;simp only;rw[hkk q.pa,if_neg (w.iG ep),e1];have f1:fs (l1++l2)=if dF l1=0 then fs l2 else fs (l1++h::l2):=by
    by_cases c1:dF l1=0
    ·rw[if_pos c1,Bb h01 c1];rfl
    ·rw[if_neg c1,DV _ _ (fun e=>c1 (by rw[e];rfl)),DV _ _ (fun e=>c1 (by rw[e];rfl))]
   have f2:dF (l1++l2)=if fs l2=0 then dF l1 else dF (l1++h::l2):=by
    by_cases c2:fs l2=0
    ·rw[if_pos c2,tK h02 c2,List.append_nil]
    ·have hne:l2≠[]:=fun e=>c2 (by rw[e];rfl);rw[if_neg c2,lJ _ _ hne,show l1++h::l2=(l1++[h])++l2 from by simp,lJ _ _ hne]
   rw[f1,f2]
  ·have e4:iU g h x=g x:=by unfold iU;rw[if_neg hx,if_neg (by rw[Ox];exact hxp)]
   cases ex:g x with
   | none=>
    have e5:vZ (raw g av) h p (dF l1) (fs l2) x=none:=by
     unfold vZ;refine dD ?_;by_cases c1:dF l1=0<;>by_cases c2:fs l2=0
     ·simp only[if_pos c1,if_pos c2];exact dD (dD (bF ex))
     ·simp only[if_pos c1,if_neg c2];exact dD (dD (bF ex))
     ·simp only[if_neg c1,if_pos c2];exact dD (dD (bF ex))
     ·simp only[if_neg c1,if_neg c2];exact dD (dD (bF ex))
    rw[e5,bF (e4.trans ex)]
   | some m=>
    rw[aj (e4.trans ex)];have hz:x≠0:=fun e=>by rw[e,w.zero] at ex;cases ex
    have pm:∀ y∈q.kids,x=y→m.pa=p:=fun y hy e=>by obtain⟨m',h1,h2⟩:=hpar y hy;rw[←e,ex] at h1;cases h1;exact h2
    have e5:vZ (raw g av) h p (dF l1) (fs l2) x=some { dW g av x m with pr:=if x=fs l2 then dF l1 else prv (au g m.pa) x,ne:=if x=dF l1 then fs l2 else nD (au g m.pa) x }:=by
     have key:∀ (c:Int) (R:Int→Option Nd) (d:Nd) (f k:Nd→Nd),R x=some d→(if c=0 then upd R p k else upd R c f) x=some (if x=c then f d else d):=by
      intro c R d f k e;by_cases c1:c=0
      ·rw[if_pos c1,if_neg (fun e=>hz (e.trans c1)),upd_ne hxp,e]
      ·rw[if_neg c1];by_cases c2:x=c
       ·subst c2;rw[if_pos rfl,kT e]
       ·rw[if_neg c2,upd_ne c2,e]
     unfold vZ;simp only;rw[upd_ne hx,key (fs l2) _ _ _ _ (key (dF l1) _ _ _ _ (aj ex))];by_cases c1:x=dF l1<;>by_cases c2:x=fs l2
     ·simp only[if_pos c1,if_pos c2]<;>rfl
     ·simp only[if_pos c1,if_neg c2]<;>rfl
     ·simp only[if_neg c1,if_pos c2]<;>rfl
     ·simp only[if_neg c1,if_neg c2]<;>rfl
    rw[e5];unfold dW;simp only;rw[hkk m.pa];by_cases c:m.pa=p
    ·rw[if_pos c,c,hq,hke,e1,LU hnn h0' hx,EX hnn h0' hx];have a1:nD (l1++l2) x=if x=dF l1 then fs l2 else if x=dF l1∧x≠0 then h else nD (l1++l2) x:=by
      by_cases d:x=dF l1
      ·rw[if_pos d];have hm:dF l1∈l1:=oz (by rw[←d];exact hz);obtain⟨a,c,e⟩:=List.append_of_mem hm;have hl:l1.Nodup:=(List.nodup_append.1 hnn).1;have hc:c=[]:=by
        cases c with
        | nil=>rfl
        | cons y r=>
         rw[e,show a++dF l1::y::r=(a++[dF l1])++(y::r) from by simp] at hl;have h3:dF l1∈y::r:=by
          have:dF l1=dF (y::r):=by
           have:=lJ (a++[dF l1]) (y::r) (by simp);rw[←this,show (a++[dF l1])++(y::r)=a++dF l1::y::r from by simp,←e]
          rw[this];exact oz (by rw[←this,←d];exact hz)
         exact absurd rfl ((List.nodup_append.1 hl).2.2 (dF l1) (by simp) (dF l1) h3)
       rw[hc] at e;have ha:dF l1∉a:=fun hx=>by
        rw[e] at hl;exact (List.nodup_append.1 hl).2.2 _ hx _ (by simp) rfl
       rw[d]
       conv=>lhs;arg 1;rw[e]
       rw[List.append_assoc];exact gT ha
      ·rw[if_neg d,if_neg (fun e=>d e.1)]
     have a2:prv (l1++l2) x=if x=fs l2 then dF l1 else if x=fs l2∧x≠0 then h else prv (l1++l2) x:=by
      by_cases d:x=fs l2
      ·rw[if_pos d];cases l2 with
       | nil=>exact absurd d hz
       | cons y r=>
        have d':x=y:=d;subst d';exact lI (List.nodup_cons.1 (List.nodup_cons.1 (List.nodup_append.1 hnn).2.1).2).1
      ·rw[if_neg d,if_neg (fun e=>d e.1)]
     rw[←a1,←a2]
    ·rw[if_neg c,if_neg (fun e=>c (pm _ (m2 _ (hv2 (by rw[←e];exact hz))) e)),if_neg (fun e=>c (pm _ (m1 _ (hv1 (by rw[←e];exact hz))) e))]
end
end Tr
end
section
open Go Go.RowKit
def EB (x:Bool×Tr.Nd):List Value:=[.bool x.1,.int .i64 x.2.kind,.string x.2.name,x.2.av.v,.string x.2.data,.int .i64 x.2.pa,.int .i64 x.2.fi,.int .i64 x.2.la,.int .i64 x.2.pr,.int .i64 x.2.ne]
theorem EZ:∀ c,(EB c).length=10:=fun _=>rfl
abbrev Uo (d:Tr.Nd):Value:=.agg #[.int .i64 d.kind,.string d.name,.slice d.av.a d.av.n d.av.c,.string d.data,.int .i64 d.pa,.int .i64 d.fi,.int .i64 d.la,.int .i64 d.pr,.int .i64 d.ne]
abbrev UY (d:Tr.Nd):Array Value:=#[.int .i64 d.kind,.string d.name,.slice d.av.a d.av.n d.av.c,.string d.data,.int .i64 d.pa,.int .i64 d.fi,.int .i64 d.la,.int .i64 d.pr,.int .i64 d.ne]
def so (o:Option Tr.Nd):Bool×Tr.Nd:=match o with | some d=>(true,d) | none=>(false,Tr.yX)
def mK (b s:Int) (n:Nat) (R:Int→Option Tr.Nd):List Value:=bW EB n fun i=>so (R (Ar.hdl b s (i:Int)))
theorem zy {b s:Int} {i j:Nat} (hi:i≤100000) (hj:j≤100000) (e:Ar.hdl b s (i:Int)=Ar.hdl b s (j:Int)):i=j:=by
 have h1:=Ar.nR b s i (by omega) (by omega);have h2:=Ar.nR b s j (by omega) (by omega);rw[e,h2] at h1;omega
theorem sV {b s:Int} {i:Nat} (hi:i≤100000):1≤Ar.hdl b s (i:Int)∧Ar.hdl b s (i:Int)≤2147483648000:=by
 have h1:=Ar.Nj b s i;have h2:=Ar.ng b;have h3:=Ar.ET s i (by omega) (by omega);unfold Ar.hdl at h1 ⊢;rw[if_neg (by omega)] at h1 ⊢;omega
structure Sound (b s:Int) (n:Nat) (R:Int→Option Tr.Nd) (fr:List Nat) (live:Nat):Prop where
 dom:∀ h,(R h).isSome→∃ i:Nat,i<n∧Ar.hdl b s (i:Int)=h
 nodup:fr.Nodup
 free:∀ i∈fr,i<n∧R (Ar.hdl b s (i:Int))=none
 count:live+fr.length=n
 le:n≤100000
theorem Sound.out {b s:Int} {n:Nat} {R:Int→Option Tr.Nd} {fr:List Nat} {live:Nat} (h:Sound b s n R fr live) {i:Nat} (hi:n≤i) (hi2:i≤100000):R (Ar.hdl b s (i:Int))=none:=by
 cases e:R (Ar.hdl b s (i:Int)) with
 | none=>rfl
 | some d=>
  obtain⟨j,h1,h2⟩:=h.dom _ (by rw[e];rfl);have:=zy (by have:=h.le;omega) hi2 h2;omega
theorem Sound.zero {b s:Int} {n:Nat} {R:Int→Option Tr.Nd} {fr:List Nat} {live:Nat} (h:Sound b s n R fr live) {x:Int} (hx:x≤0):R x=none:=by
 cases e:R x with
 | none=>rfl
 | some d=>
  obtain⟨j,h1,h2⟩:=h.dom x (by rw[e];rfl);have:=(sV (b:=b) (s:=s) (i:=j) (by have:=h.le;omega)).1;omega
theorem Sound.idx {b s:Int} {n:Nat} {R:Int→Option Tr.Nd} {fr:List Nat} {live:Nat} (h:Sound b s n R fr live) (x:Int):
  (∃ i:Nat,Ar.idx b s x=i∧i<n∧Ar.hdl b s (i:Int)=x)∨(R x=none∧(Ar.idx b s x<0∨(0≤Ar.idx b s x∧(n:Int)≤Ar.idx b s x))):=by
 have hr:=Ar.DT b s x;by_cases h1:Ar.idx b s x = -1
 ·refine .inr ⟨?_,.inl (by omega)⟩;cases e:R x with
  | none=>rfl
  | some d=>
   obtain⟨j,h2,h3⟩:=h.dom x (by rw[e];rfl);have:=Ar.nR b s j (by omega) (by have:=h.le;omega);rw[h3] at this;omega
 ·obtain⟨h2,h3,h4⟩:=Ar.AX b s x h1;by_cases h5:Ar.idx b s x<n
  ·exact .inl ⟨(Ar.idx b s x).toNat,by omega,by omega,by rw[Int.toNat_of_nonneg h2];exact h4⟩
  ·refine .inr ⟨?_,.inr ⟨h2,by omega⟩⟩;cases e:R x with
   | none=>rfl
   | some d=>
    obtain⟨j,h6,h7⟩:=h.dom x (by rw[e];rfl);have:=Ar.nR b s j (by omega) (by have:=h.le;omega);rw[h7] at this;omega
structure TV (base:Nat) (w:World) (B:Nat) (b s:Int) (vs:Value) (n:Nat) (R:Int→Option Tr.Nd) (vf:Value) (fr:List Nat) (live:Nat) (root:Int):Prop where
 var:Whole w B #[.int .i64 b,.int .i64 s,vs,vf,.int .i64 live,.int .i64 root] 58
 low:base≤B
 row:w.ownsRow base 130 10 vs n (mK b s n R)
 free:w.ownsRow base 3 1 vf fr.length (nums fr)
def aD (B:Nat) (vs vf:Value):Nat→Prop:=fun k=>k=B∨vs.ownBlock=some k∨vf.ownBlock=some k
section
variable {base B n live:Nat} {w w1 w5:World} {b s root:Int} {vs vf v5:Value} {R:Int→Option Tr.Nd} {fr fr':List Nat}
theorem TV.lt (h:TV base w B b s vs n R vf fr live root):∀ k,aD B vs vf k→base≤k∧k<w.heap.size:=by
 rintro k (rfl | hk | hk)
 ·exact⟨h.low,h.var.lt⟩
 ·exact h.row.lt k hk
 ·exact h.free.lt k hk
theorem TV.turns {S:Nat→Prop} (h:TV base w B b s vs n R vf fr live root) (ht:Turns S w w1) (hn:∀ k,aD B vs vf k→¬ S k):TV base w1 B b s vs n R vf fr live root:=
 ⟨h.var.turns ht (hn B (.inl rfl)),h.low,bY h.row ht (fun k hk=>hn k (.inr (.inl hk))),bY h.free ht (fun k hk=>hn k (.inr (.inr hk)))⟩
theorem TV.below (h:TV base w B b s vs n R vf fr live root) (hb:Below w.heap.size w w1):TV base w1 B b s vs n R vf fr live root:=
 h.turns (S:=fun _=>False) (.of_below hb) (fun _ _=>id)
theorem TV.cells (h:TV base w B b s vs n R vf fr live root):w.cell? ⟨B,0,none⟩=some (.int .i64 b)∧w.cell? ⟨B,1,none⟩=some (.int .i64 s)∧w.cell? ⟨B,2,none⟩=some vs∧w.cell? ⟨B,3,none⟩=some vf∧w.cell? ⟨B,4,none⟩=some (.int .i64 live)∧w.cell? ⟨B,5,none⟩=some (.int .i64 root):=
 ⟨h.var.cell 0,h.var.cell 1,h.var.cell 2,h.var.cell 3,h.var.cell 4,h.var.cell 5⟩
theorem TV.slices (h:TV base w B b s vs n R vf fr live root):∃ A c A' c',vs=.slice A n c∧vf=.slice A' fr.length c':=by
 obtain⟨A,c,e⟩:=aF (aG h.row);obtain⟨A',c',e'⟩:=aF (aG h.free);exact⟨A,c,A',c',e,e'⟩
theorem TV.Kh (h:TV base w B b s vs n R vf fr live root) (h1:Below w.heap.size w w1) (g:w1.grownBy w5 vs.ownBlock) (o:w5.ownsRow base 130 10 v5 (n+1) (mK b s (n+1) R)) (f:mP w1 vs v5):
  Whole w5 B #[.int .i64 b,.int .i64 s,vs,vf,.int .i64 live,.int .i64 root] 58∧TV base (w5.setCell ⟨B,2,none⟩ v5) B b s v5 (n+1) R vf fr live root∧aB w (w5.setCell ⟨B,2,none⟩ v5) (aD B vs vf) (aD B v5 vf):=by
 obtain⟨k1,k2,k3,k4⟩:=h.below h1;have t1:(130:TypeId)≠58:=by decide
 have t2:(3:TypeId)≠58:=by decide
 have t3:(3:TypeId)≠130:=by decide
 have hW:Whole w5 B #[.int .i64 b,.int .i64 s,vs,vf,.int .i64 live,.int .i64 root] 58:=k1.grown g (fun e=>bE k3 k1 t1 e.symm);have hvf:=k4.kept g (own_ne k4 k3 t3);have gp:w5.grownBy (w5.setCell ⟨B,2,none⟩ v5) (some B):=aJ (ay (Below.refl w5.heap.size w5) _) 2 v5;have o':=o.kept gp (.inr (bE o hW t1));have aa3:=hvf.kept gp (.inr (bE hvf hW t2));refine⟨hW,⟨hW.put 2 v5,k2,o',aa3⟩,?_,?_⟩
 ·have a1:Turns (aD B vs vf) w w1:=.of_below h1;have a2:Turns (aD B vs vf) w1 w5:=.aU g (fun k hk=>.inr (.inl hk));have a3:Turns (aD B vs vf) w5 (w5.setCell ⟨B,2,none⟩ v5):=.aU gp (fun k hk=>.inl (by simpa using hk.symm));exact (a1.trans a2 (fun _ _ x=>x) (fun _ _ x=>x)).trans a3 (fun _ _ x=>x) (fun _ _ x=>x)
 ·rintro k hk (rfl | hx | hx)
  ·exact .inl rfl
  ·rcases f with f | f
   ·exact .inr (.inl (f▸hx))
   ·exact absurd (Nat.lt_of_lt_of_le hk h1.size) (Nat.not_lt.2 (f k hx))
  ·exact .inr (.inr hx)
theorem TV.Dp (h:TV base w B b s vs n R vf fr live root) (h1:Below w.heap.size w w1) (g:w1.grownBy w5 vf.ownBlock) (o:w5.ownsRow base 3 1 v5 fr'.length (nums fr')) (f:mP w1 vf v5):
  Whole w5 B #[.int .i64 b,.int .i64 s,vs,vf,.int .i64 live,.int .i64 root] 58∧TV base (w5.setCell ⟨B,3,none⟩ v5) B b s vs n R v5 fr' live root∧aB w (w5.setCell ⟨B,3,none⟩ v5) (aD B vs vf) (aD B vs v5):=by
 obtain⟨k1,k2,k3,k4⟩:=h.below h1;have t1:(130:TypeId)≠58:=by decide
 have t2:(3:TypeId)≠58:=by decide
 have t3:(3:TypeId)≠130:=by decide
 have hW:Whole w5 B #[.int .i64 b,.int .i64 s,vs,vf,.int .i64 live,.int .i64 root] 58:=k1.grown g (fun e=>bE k4 k1 t2 e.symm);have hvs:=k3.kept g (own_ne k3 k4 t3.symm);have gp:w5.grownBy (w5.setCell ⟨B,3,none⟩ v5) (some B):=aJ (ay (Below.refl w5.heap.size w5) _) 3 v5;have o':=o.kept gp (.inr (bE o hW t2));have aa4:=hvs.kept gp (.inr (bE hvs hW t1));refine⟨hW,⟨hW.put 3 v5,k2,aa4,o'⟩,?_,?_⟩
 ·have a1:Turns (aD B vs vf) w w1:=.of_below h1;have a2:Turns (aD B vs vf) w1 w5:=.aU g (fun k hk=>.inr (.inr hk));have a3:Turns (aD B vs vf) w5 (w5.setCell ⟨B,3,none⟩ v5):=.aU gp (fun k hk=>.inl (by simpa using hk.symm));exact (a1.trans a2 (fun _ _ x=>x) (fun _ _ x=>x)).trans a3 (fun _ _ x=>x) (fun _ _ x=>x)
 ·rintro k hk (rfl | hx | hx)
  ·exact .inl rfl
  ·exact .inr (.inl hx)
  ·rcases f with f | f
   ·exact .inr (.inr (f▸hx))
   ·exact absurd (Nat.lt_of_lt_of_le hk h1.size) (Nat.not_lt.2 (f k hx))
theorem TV.counted (h:TV base w B b s vs n R vf fr live root) (aY:Nat) (z:Int) (hz:z=(aY:Int)):
  TV base (w.setCell ⟨B,4,none⟩ (.int .i64 z)) B b s vs n R vf fr aY root∧aB w (w.setCell ⟨B,4,none⟩ (.int .i64 z)) (aD B vs vf) (aD B vs vf):=by
 subst hz;have gp:w.grownBy (w.setCell ⟨B,4,none⟩ (.int .i64 aY)) (some B):=aJ (ay (Below.refl w.heap.size w) _) 4 _;exact⟨⟨h.var.put 4 _,h.low,h.row.kept gp (.inr (bE h.row h.var (by decide))),h.free.kept gp (.inr (bE h.free h.var (by decide)))⟩,.pR (.aU gp (fun k hk=>.inl (by simpa using hk.symm)))⟩
theorem TV.rooted (h:TV base w B b s vs n R vf fr live root) (root':Int):
  TV base (w.setCell ⟨B,5,none⟩ (.int .i64 root')) B b s vs n R vf fr live root'∧aB w (w.setCell ⟨B,5,none⟩ (.int .i64 root')) (aD B vs vf) (aD B vs vf):=by
 have gp:w.grownBy (w.setCell ⟨B,5,none⟩ (.int .i64 root')) (some B):=aJ (ay (Below.refl w.heap.size w) _) 5 _;exact⟨⟨h.var.put 5 _,h.low,h.row.kept gp (.inr (bE h.row h.var (by decide))),h.free.kept gp (.inr (bE h.free h.var (by decide)))⟩,.pR (.aU gp (fun k hk=>.inl (by simpa using hk.symm)))⟩
def storeAll (w:World) (g k:Nat):List Value→World
 | []=>w
 | a::r=>storeAll (w.setCell ⟨g,k,none⟩ a) g (k+1) r
theorem E5 {e:TypeId} {size g c n:Nat} (us:List Value):∀ {w:World} {k:Nat} {xs:List Value},w.ownsRow base e size (.slice (some ⟨g,0,none⟩) n c) n xs→
  (storeAll w g k us).ownsRow base e size (.slice (some ⟨g,0,none⟩) n c) n (qG xs k us)∧w.grownBy (storeAll w g k us) (some g):=by
 induction us with
 | nil=>intro w k xs h;exact⟨h,ay (Below.refl w.heap.size w) _⟩
 | cons a r ih=>
  intro w k xs h;obtain⟨o,gp⟩:=h.stored k a;obtain⟨o2,gp2⟩:=ih (k:=k+1) o;exact⟨o2,G6 gp gp2⟩
theorem TV.stored {g c:Nat} {R':Int→Option Tr.Nd} {w':World} (h:TV base w B b s (.slice (some ⟨g,0,none⟩) n c) n R vf fr live root)
  (o:w'.ownsRow base 130 10 (.slice (some ⟨g,0,none⟩) n c) n (mK b s n R')) (gp:w.grownBy w' (some g)):
  TV base w' B b s (.slice (some ⟨g,0,none⟩) n c) n R' vf fr live root∧aB w w' (aD B (.slice (some ⟨g,0,none⟩) n c) vf) (aD B (.slice (some ⟨g,0,none⟩) n c) vf):=by
 have hne:=bE h.row h.var (by decide);have hk4:=own_ne h.free h.row (by decide);exact⟨⟨h.var.grown gp (fun e=>hne (by simpa [Value.ownBlock] using e.symm)),h.low,o,h.free.kept gp (by simpa [Value.ownBlock] using hk4)⟩,.pR (.aU gp (fun k hk=>.inr (.inl (by simpa [Value.ownBlock] using hk))))⟩
theorem SV (d:Tr.Nd):so (some d)=(true,d):=rfl
theorem TV.FW {g c:Nat} {i:Nat} {o:Option Tr.Nd} (h:TV base w B b s (.slice (some ⟨g,0,none⟩) n c) n R vf fr live root) (hi:i<n) (hn:n≤100000) {w':World} (hw:storeAll w g (i*10) (EB (so o))=w'):
  TV base w' B b s (.slice (some ⟨g,0,none⟩) n c) n (Tr.pJ R (Ar.hdl b s (i:Int)) o) vf fr live root∧aB w w' (aD B (.slice (some ⟨g,0,none⟩) n c) vf) (aD B (.slice (some ⟨g,0,none⟩) n c) vf):=by
 obtain⟨o1,g1⟩:=E5 (EB (so o)) (k:=i*10) h.row;rw[hw] at o1 g1;refine h.stored ?_ g1;have e:qG (mK b s n R) (i*10) (EB (so o))=mK b s n (Tr.pJ R (Ar.hdl b s (i:Int)) o):=by
  unfold mK;rw[Cv EZ _ _ hi];refine jo fun j hj=>?_;by_cases e:j=i
  ·subst e;rw[if_pos rfl,Tr.sK]
  ·rw[if_neg e,Tr.EY (fun e'=>e (zy (by omega) (by omega) e'))]
 rw[←e];exact o1
theorem TV.Nl {g c:Nat} {i j:Nat} {d d':Tr.Nd} {v:Value} (h:TV base w B b s (.slice (some ⟨g,0,none⟩) n c) n R vf fr live root) (hi:i<n) (hn:n≤100000) (hj:j<10) (hd:R (Ar.hdl b s (i:Int))=some d) (f:Tr.Nd→Tr.Nd) (hf:f d=d') (hv:EB (true,d')=(EB (true,d)).set j v):
  TV base (w.setCell ⟨g,i*10+j,none⟩ v) B b s (.slice (some ⟨g,0,none⟩) n c) n (Tr.upd R (Ar.hdl b s (i:Int)) f) vf fr live root∧aB w (w.setCell ⟨g,i*10+j,none⟩ v) (aD B (.slice (some ⟨g,0,none⟩) n c) vf) (aD B (.slice (some ⟨g,0,none⟩) n c) vf):=by
 obtain⟨o1,g1⟩:=h.row.stored (i*10+j) v;refine h.stored ?_ g1;have e:(mK b s n R).set (i*10+j) v=mK b s n (Tr.upd R (Ar.hdl b s (i:Int)) f):=by
  unfold mK;rw[qC EZ _ (true,d') v hi hj (by rw[hd];exact hv)];refine jo fun k hk=>?_;by_cases e:k=i
  ·subst e;rw[if_pos rfl,Tr.kT hd,hf];rfl
  ·rw[if_neg e,Tr.upd_ne (fun e'=>e (zy (by omega) (by omega) e'))]
 rw[←e];exact o1
theorem TV.slot {A:Option Addr} {c:Nat} (h:TV base w B b s (.slice A n c) n R vf fr live root) (hl:0<n):∃ g,A=some ⟨g,0,none⟩∧g≠B∧g<w.heap.size∧∀ i j,i<n→j<10→w.cell? ⟨g,i*10+j,none⟩=(EB (so (R (Ar.hdl b s (i:Int)))))[j]?∧w.frozen? ⟨g,i*10+j,none⟩=false:=by
 obtain⟨g,rfl,hlt,_⟩:=lC (aG h.row) hl;refine⟨g,rfl,fun e=>bE h.row h.var (by decide) (by simp[Value.ownBlock,e]),hlt,fun i j hi hj=>⟨?_,h.row.frozenAt _⟩⟩;have hb:i*10+j<n*10:=by omega
 rw[h.row.cellAt _ hb];exact jS EZ _ hi hj
end
end
section
open Go.RowKit
theorem Nn:(Tryz.prog.info? 130).map (fun i=>(i.zero,i.size,i.bytes))=some (some (.agg #[.bool false,.int .i64 0,.string ⟨#[]⟩,.slice none 0 0,.string ⟨#[]⟩,.int .i64 0,.int .i64 0,.int .i64 0,.int .i64 0,.int .i64 0]),10,112):=by kernel_rfl
theorem Ld:(Tryz.prog.info? 3).map (fun i=>(i.zero,i.size,i.bytes))=some (some (.int .i64 0),1,8):=by kernel_rfl
def fu (n:Nat) (fr:List Nat):Nat×List Nat×Nat:=match fr.getLast? with | none=>(n+1,[],n) | some i=>(n,fr.dropLast,i)
theorem Bc (n:Nat):fu n []=(n+1,[],n):=rfl
theorem DW (n:Nat) (L:List Nat) (i:Nat):fu n (L++[i])=(n,L,i):=by unfold fu;simp
theorem Qb (base B:Nat) (b s root:Int) (live n:Nat) (R:Int→Option Tr.Nd) (fr:List Nat) (vs vf:Value) (w:World) (hM:TV base w B b s vs n R vf fr live root) (hS:Sound b s n R fr live) (hb:base≤w.heap.size) (hl:n<100000):
  Calls Tryz.prog 57 #[.pointer (some ⟨B,0,none⟩)] w fun e w'=>∃ vs' dw,e=.returned (.int .i64 ((fu n fr).2.2:Nat))∧TV base w' B b s vs' (fu n fr).1 R dw (fu n fr).2.1 live root∧aB w w' (aD B vs vf) (aD B vs' dw):=by
 obtain⟨A,c,A',c',rfl,rfl⟩:=hM.slices;obtain⟨_,_,k2,k3,_⟩:=hM.cells;obtain⟨i0,hi0,hz0,hz1,hz2⟩:=info_parts Nn
 go_enter Tryz.func57,Tryz.ntmps57
 by_cases hz:fr=[]
 ·subst hz;rw[Bc];simp only[List.length_nil] at hM k3 ⊢;have hout:=hS.out (i:=n) (Nat.le_refl _) (by omega);have hs1:(w.alloc (.cells #[.bool false,.int .i64 0,.string ⟨#[]⟩,.slice none 0 0,.string ⟨#[]⟩,.int .i64 0,.int .i64 0,.int .i64 0,.int .i64 0,.int .i64 0] 130)).ownsRow 0 130 10 (.slice (some ⟨w.heap.size,0,none⟩) 1 1) 1 (EB (false,Tr.yX)):=World.ownsRow_lit w #[.bool false,.int .i64 0,.string ⟨#[]⟩,.slice none 0 0,.string ⟨#[]⟩,.int .i64 0,.int .i64 0,.int .i64 0,.int .i64 0,.int .i64 0] 1 (Nat.zero_le _) (by unfold maxLen;omega) rfl;have hone:∀ u∈EB (false,Tr.yX),u.oneCell'=true:=fun u hu=>by
   simp only[EB,List.mem_cons,List.not_mem_nil,or_false] at hu;rcases hu with rfl | rfl | rfl | rfl | rfl | rfl | rfl | rfl | rfl | rfl<;>rfl
  have hB1:=(Below.refl _ w).alloc (Nat.le_refl _) (.cells #[.bool false,.int .i64 0,.string ⟨#[]⟩,.slice none 0 0,.string ⟨#[]⟩,.int .i64 0,.int .i64 0,.int .i64 0,.int .i64 0,.int .i64 0] 130);have hM1:=hM.below hB1;have hcb:base≤(w.alloc (.cells #[.bool false,.int .i64 0,.string ⟨#[]⟩,.slice none 0 0,.string ⟨#[]⟩,.int .i64 0,.int .i64 0,.int .i64 0,.int .i64 0,.int .i64 0] 130)).heap.size:=Nat.le_trans hb hB1.size;clear hS
  go_wp2_with (at_builtin;refine dQ rfl _ _ 54 rfl base 0 130 i0 (.agg #[.bool false,.int .i64 0,.string ⟨#[]⟩,.slice none 0 0,.string ⟨#[]⟩,.int .i64 0,.int .i64 0,.int .i64 0,.int .i64 0,.int .i64 0]) 10 112 Tryz.underlying54 hi0 hz0 hz1 hz2 rfl (by decide) _ _ _ rfl hM1.row _ 1 (EB (false,Tr.yX)) rfl hs1 hone ?c3 ?c4 hcb ?_)
  case c3=>unfold maxLen;omega
  case c4=>omega
  intro v5 w5 o5 g5 f5;have e5:mK b s n R++EB (false,Tr.yX)=mK b s (n+1) R:=by
   unfold mK;rw[og,hout];rfl
  rw[e5] at o5;obtain⟨A5,c5,rfl⟩:=aF (aG o5);obtain⟨FK,Le,hst⟩:=hM.Kh hB1 g5 o5 f5;obtain⟨w6,kZ⟩:=eX (w5.setCell ⟨B,2,none⟩ (.slice A5 (n+1) c5))
  have y2:w5.cell? ⟨B,2,none⟩=some (.slice A n c):=FK.cell 2;have z2:=FK.free 2;rw[kZ] at Le hst;obtain⟨_,_,q2,_,_⟩:=Le.cells;have HM:=zh Le;clear hM hM1 Le k2 k3 hs1 o5 g5 f5 FK e5 hout;go_wp2_with fail
  go_ret
  exact⟨_,_,by go_num,HM.out,hst⟩
 ·obtain⟨L,i,rfl⟩:∃ L i,fr=L++[i]:=⟨fr.dropLast,fr.getLast hz,(List.dropLast_concat_getLast hz).symm⟩
  rw[DW];have hfl:(L++[i]).length=L.length+1:=by simp
  have hcn:=hS.count;clear hz hS;have hvf:=hM.free;rw[hfl] at k3 hvf hcn;obtain⟨m,hm⟩:=eX (L.length)
  rw[hm] at k3 hvf hcn;obtain⟨g,hg,_,hc⟩:=lC (aG hvf) (by omega);subst hg;have hc':=hc m (.int .i64 (i:Int)) (by rw[nums_append,←hm];simp[nums]);have hcap:=SI hvf;have Zt:w.ownsRow base 3 1 (.slice (some ⟨g,0,none⟩) m c') L.length (nums L):=by
   have h:=J8 hvf m (by omega);have e:(nums (L++[i])).take (m*1)=nums L:=by rw[nums_append,Nat.mul_one];exact List.take_left' (by simp[nums,hm])
   rw[e] at h;rw[hm];exact h
  obtain⟨FK,Le,hst⟩:=hM.Dp (Below.refl _ w) (w5:=w) (by rw[hfl,hm];exact ay (Below.refl w.heap.size w) _) Zt (.inl (by simp[Value.ownBlock]));rw[hfl,hm] at FK hst;rw[hfl,hm];have y3:w.cell? ⟨B,3,none⟩=some (.slice (some ⟨g,0,none⟩) (m+1) c'):=FK.cell 3;have z3:=FK.free 3;obtain⟨w6,kZ⟩:=eX (w.setCell ⟨B,3,none⟩ (.slice (some ⟨g,0,none⟩) m c'))
  rw[kZ] at Le hst;have HM:=zh Le;have HF:=zh hfl;have WC:=zh hm;have hmb:m≤100000:=by omega
  clear hM Le hvf hc Zt FK hfl hm k3 hcn hl;go_wp2_with fail
  go_ret
  first | exact⟨_,_,rfl,HM.out,hst⟩ | exact⟨rfl,_,_,HM.out,hst⟩
def rC (b s:Int) (R:Int→Option Tr.Nd) (h:Int):Int:=match R h with | some _=>Ar.idx b s h | none => -1
theorem Dn (base B:Nat) (b s root h:Int) (live n:Nat) (R:Int→Option Tr.Nd) (fr:List Nat) (vs vf:Value) (w:World) (hm:TV base w B b s vs n R vf fr live root) (hS:Sound b s n R fr live) (hh:gI h):
  Calls Tryz.prog 133 #[.pointer (some ⟨B,0,none⟩),.int .i64 h] w fun e w'=>e=.returned (.int .i64 (rC b s R h))∧Below w.heap.size w w':=by
 obtain⟨A,c,A',c',rfl,rfl⟩:=hm.slices;obtain⟨k0,k1,_,_,_⟩:=hm.cells;have hcase:=hS.idx h;have hle:=hS.le;have hir:=Ar.DT b s h;clear hS
 go_enter Tryz.func133,Tryz.ntmps133
 go_wp2_with fail;refine (J9 b s h _ hh).mono ?_;rintro e w2 ⟨rfl,hb2⟩;have hm2:=hm.below hb2;obtain⟨_,_,c2,_,_⟩:=hm2.cells;clear k0 k1;rcases hcase with ⟨i,h1,h2,h3⟩ | ⟨hi,h1 | ⟨h1,h2⟩⟩
 ·obtain⟨g,rfl,_,_,hcell⟩:=hm2.slot (by omega);have hc3:=(hcell i 0 h2 (by omega)).1;rw[h3] at hc3;have q1:(i:Int)<(n:Int):=by omega
  have q2:¬ (n:Int)≤(i:Int):=by omega
  have q3:¬ (i:Int)<0:=by omega
  cases e:R h with
  | some d=>
   have hr:rC b s R h=(i:Int):=by unfold rC;rw[e,h1]
   rw[e] at hc3;have hc4:w2.cell? ⟨g,i*10,none⟩=some (.bool true):=hc3;rw[h1];have HR:=zh hr;clear hr h1 h3 e hc3 hm hm2 hcell hir;go_wp2_with fail
   go_ret
   exact⟨kD HR.out.symm,hb2⟩
  | none=>
   have hr:rC b s R h = -1:=by unfold rC;rw[e]
   rw[e] at hc3;have hc4:w2.cell? ⟨g,i*10,none⟩=some (.bool false):=hc3;rw[h1];have HR:=zh hr;clear hr h1 h3 e hc3 hm hm2 hcell hir;go_wp2_with fail
   go_ret
   exact⟨kD HR.out.symm,hb2⟩
 ·have hr:rC b s R h = -1:=by unfold rC;rw[hi]
  have HR:=zh hr;clear hr hi hm hm2 hir;go_wp2_with fail
  go_ret
  exact⟨kD HR.out.symm,hb2⟩
 ·have hr:rC b s R h = -1:=by unfold rC;rw[hi]
  have HR:=zh hr;have q1:¬ Ar.idx b s h<0:=by omega
  clear hr hi hm hm2 hir;go_wp2_with fail
  go_ret
  exact⟨kD HR.out.symm,hb2⟩
theorem nI {b s h:Int} {n live:Nat} {R:Int→Option Tr.Nd} {fr:List Nat} (hS:Sound b s n R fr live):(∃ (i:Nat) (d:Tr.Nd),R h=some d∧rC b s R h=(i:Int)∧i<n∧Ar.hdl b s (i:Int)=h)∨(R h=none∧rC b s R h = -1):=by
 cases e:R h with
 | none=>exact .inr ⟨rfl,by unfold rC;rw[e]⟩
 | some d=>
  rcases hS.idx h with ⟨i,h1,h2,h3⟩ | ⟨h1,_⟩
  ·exact .inl ⟨i,d,rfl,by unfold rC;rw[e];exact h1,h2,h3⟩
  ·rw[e] at h1;cases h1
def nodeAt (b s:Int) (vs:Value) (R:Int→Option Tr.Nd) (h:Int):Option Addr:=
 match R h,vs with
 | some _,.slice (some a) _ _=>some ⟨a.block,(Ar.idx b s h).toNat*10+1,none⟩
 | _,_=>none
theorem sM (base B:Nat) (b s root h:Int) (live n:Nat) (R:Int→Option Tr.Nd) (fr:List Nat) (vs vf:Value) (w:World) (hm:TV base w B b s vs n R vf fr live root) (hS:Sound b s n R fr live) (hh:gI h):
  Calls Tryz.prog 118 #[.pointer (some ⟨B,0,none⟩),.int .i64 h] w fun e w'=>e=.returned (.pointer (nodeAt b s vs R h))∧Below w.heap.size w w':=by
 go_enter Tryz.func118,Tryz.ntmps118
 go_wp2_with fail;refine (Dn base B b s root h live n R fr vs vf w hm hS hh).mono ?_;rintro e w2 ⟨rfl,hb2⟩;have hm2:=hm.below hb2;obtain⟨A,c,A',c',rfl,rfl⟩:=hm.slices;obtain⟨_,_,c2,_,_⟩:=hm2.cells;rcases nI (h:=h) hS with ⟨i,d,e1,e2,e3,e4⟩ | ⟨e1,e2⟩
 ·rw[e2];obtain⟨g,rfl,_,_⟩:=hm2.slot (by omega);have q:¬ (i:Int)<0:=by omega
  have q1:(i:Int)<(n:Int):=by omega
  have q2:nodeAt b s (.slice (some ⟨g,0,none⟩) n c) R h=some ⟨g,i*10+1,none⟩:=by
   have:Ar.idx b s h=i:=by unfold rC at e2;rw[e1] at e2;exact e2
   unfold nodeAt;rw[e1,this];rfl
  have HE:=zh q2;clear e1 e2 hm hm2 q2 e4 hS;go_wp2_with fail
  go_ret
  rw[HE.out];exact⟨rfl,hb2⟩
 ·rw[e2];have q2:nodeAt b s (.slice A n c) R h=none:=by unfold nodeAt;rw[e1]
  have HE:=zh q2;clear e1 e2 hm hm2 q2 hS;go_wp2_with fail
  go_ret
  rw[HE.out];exact⟨rfl,hb2⟩
theorem rH (base B:Nat) (b s root:Int) (live n:Nat) (R:Int→Option Tr.Nd) (fr:List Nat) (vs vf:Value) (w:World) (hm:TV base w B b s vs n R vf fr live root):
  Calls Tryz.prog 66 #[.pointer (some ⟨B,0,none⟩)] w fun e w'=>e=.returned (.int .i64 (live:Nat))∧w'=w:=by
 obtain⟨_,_,_,_,k4,_⟩:=hm.cells;clear hm
 go_enter Tryz.func66,Tryz.ntmps66
 go_wp2_with fail
 go_ret
 exact⟨rfl,rfl⟩
theorem lF {b s:Int} {n live:Nat} {R:Int→Option Tr.Nd} {fr:List Nat} (hS:Sound b s n R fr live) (hl:n<100000):
  (fu n fr).2.2<(fu n fr).1∧(fu n fr).1≤n+1∧n≤(fu n fr).1∧R (Ar.hdl b s ((fu n fr).2.2:Nat))=none∧∀ d,Sound b s (fu n fr).1 (Tr.pJ R (Ar.hdl b s ((fu n fr).2.2:Nat)) (some d)) (fu n fr).2.1 (live+1):=by
 by_cases hz:fr=[]
 ·subst hz;rw[Bc];refine⟨by show n<n+1;omega,Nat.le_refl _,Nat.le_succ _,hS.out (i:=n) (Nat.le_refl _) (by omega),fun d=>⟨fun h hh=>?_,List.nodup_nil,fun i hi=>by simp at hi,?_,by show n+1≤100000;omega⟩⟩
  ·unfold Tr.pJ at hh
   split at hh
   ·rename_i e;exact⟨n,Nat.lt_succ_self n,e.symm⟩
   ·obtain⟨i,h1,h2⟩:=hS.dom h hh;exact⟨i,Nat.lt_succ_of_lt h1,h2⟩
  ·have:=hS.count;simp at this ⊢;omega
 ·obtain⟨L,i,rfl⟩:∃ L i,fr=L++[i]:=⟨fr.dropLast,fr.getLast hz,(List.dropLast_concat_getLast hz).symm⟩
  rw[DW];obtain⟨h1,h2⟩:=hS.free i (by simp);refine⟨h1,Nat.le_succ _,Nat.le_refl _,h2,fun d=>⟨fun h hh=>?_,(List.nodup_append.1 hS.nodup).1,fun j hj=>?_,?_,hS.le⟩⟩
  ·unfold Tr.pJ at hh
   split at hh
   ·rename_i e;exact⟨i,h1,e.symm⟩
   ·exact hS.dom h hh
  ·obtain⟨h3,h4⟩:=hS.free j (by simp[show j∈L from hj]);refine⟨h3,?_⟩;rw[Tr.EY]
   ·exact h4
   ·intro e;have:=zy (i:=j) (j:=i) (by have:=hS.le;omega) (by have:=hS.le;omega) e;subst this;exact (List.nodup_append.1 hS.nodup).2.2 j hj j (by simp) rfl
  ·have:=hS.count;simp at this ⊢;omega
theorem bH {b s:Int} {n live:Nat} {R:Int→Option Tr.Nd} {fr:List Nat} (hS:Sound b s n R fr live) {h:Int} (hh:(R h).isSome):gI h∧0<h:=by
 obtain⟨i,h1,h2⟩:=hS.dom h hh;have h3:=hS.le;have:=sV (b:=b) (s:=s) (i:=i) (by omega);rw[h2] at this;exact⟨by constructor<;>omega,by omega⟩
theorem pK (base B:Nat) (b s root:Int) (live n:Nat) (R:Int→Option Tr.Nd) (fr:List Nat) (vs vf:Value) (d:Tr.Nd) (w:World) (h:TV base w B b s vs n R vf fr live root) (hS:Sound b s n R fr live) (hb:base≤w.heap.size) (hl:n<100000):
  Calls Tryz.prog 24 #[.pointer (some ⟨B,0,none⟩),Uo d] w fun e w'=>∃ vs' dw,e=.returned (.int .i64 (Ar.hdl b s ((fu n fr).2.2:Nat)))∧
   TV base w' B b s vs' (fu n fr).1 (Tr.pJ R (Ar.hdl b s ((fu n fr).2.2:Nat)) (some d)) dw (fu n fr).2.1 (live+1) root∧aB w w' (aD B vs vf) (aD B vs' dw):=by
 obtain⟨f1,f2,f3,f4,f5⟩:=lF hS hl;have hlv:live≤100000:=by have:=hS.count;omega
 have hBx:=(Below.refl _ w).alloc (Nat.le_refl _) (.cells (UY d) 82);have hlt:=h.lt;replace h:=h.below hBx;have hX:=Whole.new w (UY d) 82
 go_enter Tryz.func24,Tryz.ntmps24
 go_wp2_with fail;refine (Qb base B b s root live n R fr vs vf (w.alloc (.cells (UY d) 82)) h hS (Nat.le_trans hb (by simp)) hl).mono ?_;rintro e w2 ⟨vs2,Xz,rfl,hM2,Qc⟩;obtain⟨p,hp⟩:=eX (fu n fr)
 rw[hp] at hM2 f1 f2 f3 f4 ⊢;obtain⟨n',fr',i⟩:=p;simp only at hM2 f1 f2 f3 f4 ⊢;have HP:=zh hp;have hX2:=hX.turns Qc.1 (fun x=>by have:=(hlt _ x).2;omega);have x0:w2.cell? ⟨w.heap.size,0,none⟩=some (.int .i64 d.kind):=hX2.cell 0;have x1:w2.cell? ⟨w.heap.size,1,none⟩=some (.string d.name):=hX2.cell 1;have x2:w2.cell? ⟨w.heap.size,2,none⟩=some (.slice d.av.a d.av.n d.av.c):=hX2.cell 2;have x3:w2.cell? ⟨w.heap.size,3,none⟩=some (.string d.data):=hX2.cell 3;have x4:w2.cell? ⟨w.heap.size,4,none⟩=some (.int .i64 d.pa):=hX2.cell 4;have x5:w2.cell? ⟨w.heap.size,5,none⟩=some (.int .i64 d.fi):=hX2.cell 5;have x6:w2.cell? ⟨w.heap.size,6,none⟩=some (.int .i64 d.la):=hX2.cell 6;have x7:w2.cell? ⟨w.heap.size,7,none⟩=some (.int .i64 d.pr):=hX2.cell 7;have x8:w2.cell? ⟨w.heap.size,8,none⟩=some (.int .i64 d.ne):=hX2.cell 8;replace Qc:=(aB.of_below hBx).trans Qc;clear hX hX2 hBx hlt h hp f5 hS;obtain⟨A,c,A',c',rfl,rfl⟩:=hM2.slices;obtain⟨g,rfl,hgB,hgl,hcell⟩:=hM2.slot (by omega);obtain⟨_,_,c2,_,_⟩:=hM2.cells;have hc:∀ j,j<10→w2.cell? ⟨g,i*10+j,none⟩=(EB (false,Tr.yX))[j]?∧w2.frozen? ⟨g,i*10+j,none⟩=false:=fun j hj=>by
  have:=hcell i j f1 hj;rw[f4] at this;exact this
 have t0:w2.cell? ⟨g,i*10,none⟩=some (.bool false):=(hc 0 (by omega)).1;have t1:w2.cell? ⟨g,i*10+1,none⟩=some (.int .i64 0):=(hc 1 (by omega)).1;have t2:w2.cell? ⟨g,i*10+2,none⟩=some (.string ⟨#[]⟩):=(hc 2 (by omega)).1;have t3:w2.cell? ⟨g,i*10+3,none⟩=some (.slice none 0 0):=(hc 3 (by omega)).1;have t4:w2.cell? ⟨g,i*10+4,none⟩=some (.string ⟨#[]⟩):=(hc 4 (by omega)).1;have t5:w2.cell? ⟨g,i*10+5,none⟩=some (.int .i64 0):=(hc 5 (by omega)).1;have t6:w2.cell? ⟨g,i*10+6,none⟩=some (.int .i64 0):=(hc 6 (by omega)).1;have t7:w2.cell? ⟨g,i*10+7,none⟩=some (.int .i64 0):=(hc 7 (by omega)).1;have t8:w2.cell? ⟨g,i*10+8,none⟩=some (.int .i64 0):=(hc 8 (by omega)).1;have t9:w2.cell? ⟨g,i*10+9,none⟩=some (.int .i64 0):=(hc 9 (by omega)).1;have r0:w2.frozen? ⟨g,i*10,none⟩=false:=(hc 0 (by omega)).2;have r1:=(hc 1 (by omega)).2;have r2:=(hc 2 (by omega)).2;have r3:=(hc 3 (by omega)).2;have r4:=(hc 4 (by omega)).2;have r5:=(hc 5 (by omega)).2;have r6:=(hc 6 (by omega)).2;have r7:=(hc 7 (by omega)).2;have r8:=(hc 8 (by omega)).2;have r9:=(hc 9 (by omega)).2;obtain⟨w3,hw3⟩:=eX (((((((((((w2.setCell ⟨g,i*10,none⟩ (.bool true)).setCell ⟨g,i*10+1,none⟩ (.int .i64 d.kind)).setCell ⟨g,i*10+2,none⟩ (.string d.name)).setCell ⟨g,i*10+3,none⟩ (.slice d.av.a d.av.n d.av.c)).setCell ⟨g,i*10+4,none⟩ (.string d.data)).setCell ⟨g,i*10+5,none⟩ (.int .i64 d.pa)).setCell ⟨g,i*10+6,none⟩ (.int .i64 d.fi)).setCell ⟨g,i*10+7,none⟩ (.int .i64 d.la)).setCell ⟨g,i*10+8,none⟩ (.int .i64 d.pr)).setCell ⟨g,i*10+9,none⟩ (.int .i64 d.ne)))
 obtain⟨MN,sP⟩:=hM2.FW (o:=some d) f1 (by omega) (w':=w3) hw3;have hd3:Below w3.heap.size w3 w3.drew:=⟨rfl,rfl,rfl,Nat.le_refl _,fun _ _=>rfl⟩
 replace sP:=sP.trans (.of_below hd3);replace MN:=MN.below hd3;obtain⟨wd,hwd⟩:=eX (w3.drew)
 rw[hwd] at MN sP;clear hd3;have y4:=MN.cells.2.2.2.2.1;have z4:=MN.var.free 4;obtain⟨EP,s4⟩:=MN.counted (live+1) ((live:Int)+1) (by omega);obtain⟨w4,hw4⟩:=eX (wd.setCell ⟨B,4,none⟩ (.int .i64 ((live:Int)+1)))
 rw[hw4] at EP s4;obtain⟨q0,q1,_,_,_⟩:=EP.cells;have hii:(i:Int)<(n':Int):=by omega
 have hiI:gI (i:Int):=by constructor<;>omega
 have HM:=zh EP;have HS:=zh ((Qc.trans sP).trans s4);clear EP MN hM2 hcell hc f4 Qc sP s4;go_wp2_with fail
 go_region_with (fail)
 all_goals
  (try rw[hwd]);clear hwd hw3;go_wp2_with fail;refine (G9 b s i _ hiI).mono ?_;rintro e w5 ⟨rfl,hb5⟩;go_wp2_with fail
  go_ret
  rw[HP.out];exact⟨_,_,rfl,HM.out.below hb5,HS.out.trans (.of_below hb5)⟩
end
section
namespace Tr
open Go Go.RowKit
def walk (g:G):Nat→Int→List Int
 | 0,_=>[]
 | f+1,h=>match g h with | none=>[] | some n=>h::n.kids.flatMap (walk g f)
def hgt (g:G):Nat→Int→Nat
 | 0,_=>0
 | f+1,h=>match g h with | none=>0 | some n=>(n.kids.map (hgt g f)).foldl max 0+1
def ups (g:G):Nat→Int→List Int
 | 0,_=>[]
 | f+1,h=>match g h with | none=>[] | some n=>h::ups g f n.pa
def ak (g:G) (h:Int):List Int:=walk g 129 h
def gM (g:G) (h:Int):Nat:=hgt g 129 h
def aS (g:G) (h:Int):List Int:=ups g 129 h
theorem uW {f k:Int→List Int} {l:List Int} (h:∀ x∈l,f x=k x):l.flatMap f=l.flatMap k:=by
 rw[List.flatMap_def,List.flatMap_def,List.map_congr_left h]
theorem WH {g:G} {h:Int} {l:List Int} (u:Up g h l):∀ f,l.length≤f→ups g f h=l:=by
 induction u with
 | out e=>intro f _;cases f with | zero=>rfl | succ f=>rw[ups,e]
 | node e _ ih=>
  intro f hf;cases f with
  | zero=>simp at hf
  | succ f=>rw[ups,e];simp only;rw[ih f (by simpa using hf)]
theorem Up.suffix {g:G} {h:Int} {l2:List Int}:∀ (l1:List Int) {x:Int},Up g x (l1++h::l2)→Up g h (h::l2)
 | [],_,u=>by cases u with | node e u=>exact .node e u
 | _::r,_,u=>by cases u with | node _ u=>exact Up.suffix r u
theorem Up.parent {g:G} {x k h:Int} {l2:List Int} (u:Up g x (k::h::l2)):∃ m,g k=some m∧m.pa=h:=by
 cases u with
 | node e u=>
  refine⟨_,e,?_⟩;cases u with
  | node _ _=>rfl
section
variable {z:Int} {g:G}
theorem WF.cu (w:WF z g) (h:Int):Up g h (aS g h)∧(aS g h).length≤128:=by
 obtain⟨l,u,hl⟩:=w.chain h;have:aS g h=l:=WH u 129 (by omega);rw[this];exact⟨u,hl⟩
theorem WF.gU (w:WF z g) {h:Int} {l:List Int} (u:Up g h l):aS g h=l:=(w.cu h).1.one u
theorem WF.aT (w:WF z g) {h:Int} {n:GN} (e:g h=some n):aS g h=h::aS g n.pa:=w.gU (.node e (w.cu n.pa).1)
theorem WF.jI (w:WF z g) {h:Int} (e:g h=none):aS g h=[]:=w.gU (.out e)
theorem WF.jC (w:WF z g) {h k:Int} {n:GN} (e:g h=some n) (hk:k∈n.kids):aS g k=k::aS g h:=by
 obtain⟨m,e1,e2⟩:=w.down h n k e hk;rw[w.aT e1,e2]
theorem WF.induct (w:WF z g) {P:Int→Prop} (step:∀ h,(∀ n,g h=some n→∀ k∈n.kids,P k)→P h):∀ h,P h:=by
 have key:∀ f h,129≤f+(aS g h).length→P h:=by
  intro f
  induction f with
  | zero=>intro h hf;have:=(w.cu h).2;omega
  | succ f ih=>
   intro h hf;refine step h fun n e k hk=>ih k ?_;rw[w.jC e hk,List.length_cons];omega
 exact fun h=>key 129 h (by omega)
theorem WF.Dr (w:WF z g):∀ f h,129≤f+(aS g h).length→walk g (f+1) h=walk g f h:=by
 intro f
 induction f with
 | zero=>intro h hf;have:=(w.cu h).2;omega
 | succ f ih=>
  intro h hf;cases e:g h with
  | none=>rw[walk,walk,e]
  | some n=>
   rw[walk,walk,e];simp only;congr 1;rw[List.flatMap_def,List.flatMap_def];congr 1;refine List.map_congr_left fun k hk=>ih k ?_;rw[w.jC e hk,List.length_cons];omega
theorem WF.Qd (w:WF z g):∀ f h,129≤f+(aS g h).length→hgt g (f+1) h=hgt g f h:=by
 intro f
 induction f with
 | zero=>intro h hf;have:=(w.cu h).2;omega
 | succ f ih=>
  intro h hf;cases e:g h with
  | none=>rw[hgt,hgt,e]
  | some n=>
   rw[hgt,hgt,e];simp only;congr 2;refine List.map_congr_left fun k hk=>ih k ?_;rw[w.jC e hk,List.length_cons];omega
theorem WF.bR (w:WF z g) {h:Int} {n:GN} (e:g h=some n):ak g h=h::n.kids.flatMap (ak g):=by
 show walk g (128+1) h=_;rw[walk,e];simp only;refine congrArg (fun t=>h::t) (uW fun k hk=>?_);show walk g 128 k=walk g (128+1) k;refine (w.Dr 128 k ?_).symm;rw[w.jC e hk,w.aT e,List.length_cons,List.length_cons];omega
theorem jU {h:Int} (e:g h=none):ak g h=[]:=by
 show walk g (128+1) h=_;rw[walk,e]
theorem WF.kE (w:WF z g) {h:Int} {n:GN} (e:g h=some n):gM g h=(n.kids.map (gM g)).foldl max 0+1:=by
 show hgt g (128+1) h=_;rw[hgt,e];simp only;refine congrArg (fun t:List Nat=>t.foldl max 0+1) (List.map_congr_left fun k hk=>?_);show hgt g 128 k=hgt g (128+1) k;refine (w.Qd 128 k ?_).symm;rw[w.jC e hk,w.aT e,List.length_cons,List.length_cons];omega
theorem E8 {l:List Nat} {a b:Nat} (ha:a≤b) (h:∀ x∈l,x≤b):l.foldl max a≤b:=by
 induction l generalizing a with
 | nil=>exact ha
 | cons x r ih=>exact ih (Nat.max_le.2 ⟨ha,h x (by simp)⟩) fun y hy=>h y (by simp[hy])
theorem wm {l:List Nat} {a:Nat}:a≤l.foldl max a∧∀ x∈l,x≤l.foldl max a:=by
 induction l generalizing a with
 | nil=>exact⟨Nat.le_refl _,fun x hx=>by cases hx⟩
 | cons y r ih=>
  obtain⟨h1,h2⟩:=ih (a:=max a y);refine⟨Nat.le_trans (Nat.le_max_left _ _) h1,fun x hx=>?_⟩;rcases List.mem_cons.1 hx with rfl | hx
  ·exact Nat.le_trans (Nat.le_max_right _ _) h1
  ·exact h2 x hx
theorem WF.qz (w:WF z g):∀ h,gM g h+(aS g h).length≤129:=by
 refine w.induct fun h ih=>?_;cases e:g h with
 | none=>
  rw[w.jI e];show hgt g (128+1) h+_≤_;rw[hgt,e];simp
 | some n=>
  have hu:=(w.cu h).2;rw[w.aT e,List.length_cons] at hu;rw[w.kE e,w.aT e,List.length_cons];have:(n.kids.map (gM g)).foldl max 0≤127 - (aS g n.pa).length:=E8 (Nat.zero_le _) fun x hx=>by
   obtain⟨k,hk,rfl⟩:=List.mem_map.1 hx;have:=ih n e k hk;rw[w.jC e hk,w.aT e,List.length_cons,List.length_cons] at this;omega
  omega
theorem WF.eH (w:WF z g):∀ h x,x∈ak g h↔h∈aS g x:=by
 refine w.induct fun h ih=>fun x=>?_;cases e:g h with
 | none=>
  rw[jU e];refine⟨fun hx=>(List.not_mem_nil hx).elim,fun hx=>?_⟩;have:=(w.cu x).1.mem hx;rw[e] at this;cases this
 | some n=>
  rw[w.bR e,List.mem_cons,List.mem_flatMap];constructor
  ·rintro (rfl | ⟨k,hk,hx⟩)
   ·rw[w.aT e];simp
   ·obtain⟨l1,l2,e1⟩:=List.append_of_mem ((ih n e k hk x).1 hx);have u:=(w.cu x).1;rw[e1] at u;have u3:=(w.gU (u.suffix l1)).symm.trans (w.jC e hk);injection u3 with _ u3;rw[e1,u3,w.aT e];simp
  ·intro hx;by_cases hxh:x=h
   ·exact .inl hxh
   ·right;obtain⟨l1,l2,e1⟩:=List.append_of_mem hx;have u:=(w.cu x).1;by_cases hl1:l1=[]
    ·rw[e1,hl1] at u;cases u with
     | node e' u'=>exact absurd rfl hxh
    ·obtain⟨l3,k,hlk⟩:∃ l3 k,l1=l3++[k]:=⟨l1.dropLast,l1.getLast hl1,(List.dropLast_concat_getLast _).symm⟩
     rw[hlk,List.append_assoc] at e1;rw[e1] at u;have u2:=u.suffix l3;obtain⟨m,hm1,hm2⟩:=u2.parent;have hz:h≠z:=fun e'=>by rw[e',w.zero] at e;cases e
     have hkk:k∈n.kids:=by
      obtain⟨p,hp1,hp2⟩:=w.up k m hm1 (by rw[hm2];exact hz);rw[hm2,e] at hp1;obtain rfl:=Option.some.inj hp1;exact hp2
     exact⟨k,hkk,(ih n e k hkk x).2 (by rw[e1];simp)⟩
theorem WF.lY (w:WF z g) {h x:Int} (hx:x∈ak g h):(g x).isSome:=by
 have:=(w.eH h x).1 hx;cases e:g x with
 | some n=>rfl
 | none=>rw[w.jI e] at this;cases this
theorem WF.Bd (w:WF z g) (h:Int):(aS g h).Nodup:=by
 have key:∀ (x:Int) (l:List Int),Up g x l→l.Nodup:=by
  intro x l u
  induction u with
  | out _=>exact List.nodup_nil
  | node e u ih=>exact List.nodup_cons.2 ⟨w.above e u,ih⟩
 exact key _ _ (w.cu h).1
theorem WF.jV (w:WF z g):∀ h,(ak g h).Nodup:=by
 refine w.induct fun h ih=>?_;cases e:g h with
 | none=>rw[jU e];exact List.nodup_nil
 | some n=>
  rw[w.bR e,List.nodup_cons];refine⟨fun hm=>?_,?_⟩
  ·obtain⟨k,hk,hx⟩:=List.mem_flatMap.1 hm;have h1:=(w.eH k h).1 hx;rw[w.aT e] at h1;have h2:=w.jC e hk;have h3:=w.Bd k;rw[h2,w.aT e] at h3;rcases List.mem_cons.1 h1 with h1 | h1
   ·subst h1;exact (List.nodup_cons.1 h3).1 (by simp)
   ·exact (List.nodup_cons.1 h3).1 (by simp[h1])
  ·rw[List.flatMap_def];refine List.pairwise_flatten.2 ?_;refine⟨fun l hl=>?_,?_⟩
   ·obtain⟨k,hk,rfl⟩:=List.mem_map.1 hl;exact ih n e k hk
   ·rw[List.pairwise_map];refine (w.nodup h n e).imp_of_mem fun {a c} ha hc hne=>?_;intro x hx y hy exy;subst exy;have h1:=(w.eH a x).1 hx;have h2:=(w.eH c x).1 hy;have ua:=w.jC e ha;have uc:=w.jC e hc;obtain⟨l1,l2,e1⟩:=List.append_of_mem h1;obtain⟨l3,l4,e2⟩:=List.append_of_mem h2;have u:=(w.cu x).1;have v1:=(w.gU ((e1▸u).suffix l1)).symm.trans ua;have v2:=(w.gU ((e2▸u).suffix l3)).symm.trans uc;have hl:l2.length=l4.length:=by
     injection v1 with _ v1;injection v2 with _ v2;rw[v1,v2]
    have e3:=e1.symm.trans e2;have hlen:=congrArg List.length e3;simp at hlen;have:=(List.append_inj e3 (by omega)).2;injection this with this;exact hne this
theorem WF.xB (w:WF z g) (h:Int):z∉ak g h:=fun hm=>by
 have:=w.lY hm;rw[w.zero] at this;cases this
/-! What follows a node in a subtree. -/
def Jb:List Int→Int→List Int
 | [],_=>[]
 | a::r,x=>if a=x then r else Jb r x
theorem WI (l:List Int) (x:Int):fs (Jb l x)=nD l x:=by
 induction l with
 | nil=>rfl
 | cons a r ih=>
  rw[Jb,nD]
  split
  ·rfl
  ·exact ih
theorem xC {l1 l2:List Int} {x:Int} (h:x∉l1):Jb (l1++x::l2) x=l2:=by
 induction l1 with
 | nil=>simp[Jb]
 | cons a r ih=>
  simp only[List.mem_cons,not_or] at h;rw[List.cons_append,Jb,if_neg (fun e=>h.1 e.symm),ih h.2]
def rest (g:G) (t:Int):List Int→List Int
 | []=>[]
 | x::l=>if x=t then [] else (Jb (au g (dI g x)) x).flatMap (ak g)++rest g t l
theorem LW (w:WF 0 g) (l:List Int) (hl:∀ k∈l,(g k).isSome) (m:List Int):fs (l.flatMap (ak g)++m)=if l=[] then fs m else fs l:=by
 cases l with
 | nil=>rfl
 | cons a r=>
  obtain⟨n,e⟩:=Option.isSome_iff_exists.1 (hl a (by simp));rw[if_neg (by simp),List.flatMap_cons,w.bR e];rfl
def Hg (g:G) (t x:Int):Int:=fs ((au g x).flatMap (ak g)++rest g t (aS g x))
theorem E9 {l:List Int} {x y:Int} (h:y∈Jb l x):y∈l:=by
 induction l with
 | nil=>exact h
 | cons a r ih=>
  rw[Jb] at h
  split at h
  ·exact List.mem_cons_of_mem _ h
  ·exact List.mem_cons_of_mem _ (ih h)
theorem WF.rest_step (w:WF 0 g) {t h:Int} {n:GN} (e:g h=some n) (ht:h≠t) (l:List Int):fs (rest g t (h::l))=if nD (au g n.pa) h=0 then fs (rest g t l) else nD (au g n.pa) h:=by
 rw[rest,if_neg ht,aO e];have hk:∀ k∈Jb (au g n.pa) h,(g k).isSome:=fun k hk=>by
  obtain⟨m,e1,_⟩:=w.dL (E9 hk);rw[e1];rfl
 have h0:0∉Jb (au g n.pa) h:=fun hm=>w.l8 _ (E9 hm);rw[LW w _ hk,←WI];by_cases hz:fs (Jb (au g n.pa) h)=0
 ·rw[if_pos (tK h0 hz),if_pos hz]
 ·rw[if_neg (fun e=>hz (by rw[e];rfl)),if_neg hz]
theorem Bf {t:Int} {l:List Int}:rest g t (t::l)=[]:=by rw[rest,if_pos rfl]
theorem WF.Np (w:WF 0 g) {t:Int}:∀ (l:List Int) (h:Int),Up g h l→t∈l→∀ y r,rest g t l=y::r→(g y).isSome∧t∈aS g y∧r=(au g y).flatMap (ak g)++rest g t (aS g y):=by
 intro l
 induction l with
 | nil=>intro h _ ht;cases ht
 | cons a l ih=>
  intro h u ht y r er;cases u with
  | @node _ n _ e u=>
   by_cases hat:a=t
   ·rw[hat,Bf] at er;cases er
   ·rw[rest,if_neg hat,aO e] at er;have htl:t∈l:=by rcases List.mem_cons.1 ht with e1 | e1;exact absurd e1.symm hat;exact e1
    cases ha:Jb (au g n.pa) a with
    | nil=>
     rw[ha] at er;exact ih n.pa u htl y r er
    | cons c s=>
     have hpz:n.pa≠0:=fun e1=>by rw[e1,gH w.zero] at ha;cases ha
     have hcm:c∈au g n.pa:=E9 (by rw[ha];simp);obtain⟨mc,ec,ecp⟩:=w.dL hcm;obtain⟨A,B,eA⟩:=List.append_of_mem (w.tL e hpz);have hnd:=w.jr n.pa;have hA:a∉A:=fun hm=>by rw[eA] at hnd;exact (List.nodup_append.1 hnd).2.2 _ hm _ (by simp) rfl
     rw[eA,xC hA] at ha;rw[ha] at eA;have hac:Jb (au g n.pa) c=s:=by
      rw[eA,show A++a::c::s=(A++[a])++c::s from by simp];refine xC fun hm=>?_;rw[eA,show A++a::c::s=(A++[a])++c::s from by simp] at hnd;exact (List.nodup_append.1 hnd).2.2 _ hm _ (by simp) rfl
     rw[eA,show A++a::c::s=A++a::(c::s) from rfl,xC hA,List.flatMap_cons,w.bR ec] at er;have er2:c=y∧(mc.kids.flatMap (ak g)++s.flatMap (ak g))++rest g t l=r:=by
      simp only[List.cons_append] at er;injection er with e1 e2;exact⟨e1,e2⟩
     obtain⟨rfl,er2⟩:=er2;have hup:aS g c=c::l:=by rw[w.aT ec,ecp,w.gU u]
     have hct:c≠t:=fun e1=>by
      have:=w.above ec (ecp▸u);rw[e1] at this;exact this htl
     refine⟨by rw[ec];rfl,by rw[hup];exact List.mem_cons_of_mem _ htl,?_⟩;rw[hup,rest,if_neg hct,aO ec,ecp,hac,aH ec,←er2,List.append_assoc]
theorem WF.Qe (w:WF 0 g) {t x:Int} (ht:t∈aS g x) {y:Int} {r:List Int} (e:(au g x).flatMap (ak g)++rest g t (aS g x)=y::r):
  (g y).isSome∧t∈aS g y∧r=(au g y).flatMap (ak g)++rest g t (aS g y):=by
 cases hk:au g x with
 | nil=>
  rw[hk] at e;exact w.Np _ x (w.cu x).1 ht y r e
 | cons k s=>
  obtain⟨mk,ek,ekp⟩:=w.dL (show k∈au g x by rw[hk];simp);rw[hk,List.flatMap_cons,w.bR ek] at e;have e2:k=y∧(mk.kids.flatMap (ak g)++s.flatMap (ak g))++rest g t (aS g x)=r:=by
   simp only[List.cons_append] at e;injection e with e1 e2;exact⟨e1,e2⟩
  obtain⟨rfl,e2⟩:=e2;have hup:aS g k=k::aS g x:=by rw[w.aT ek,ekp]
  have hkt:k≠t:=fun e1=>by
   have:=w.above ek (w.cu mk.pa).1;rw[e1,ekp] at this;exact this ht
  have hak:Jb (au g x) k=s:=by rw[hk];simp[Jb]
  refine⟨by rw[ek];rfl,by rw[hup];exact List.mem_cons_of_mem _ ht,?_⟩;rw[hup,rest,if_neg hkt,aO ek,ekp,hak,aH ek,←e2,List.append_assoc]
end
end Tr
end
section
namespace Tr
open Go Go.RowKit
section
variable {g:G} {h p c:Int} {n q:GN}
theorem lK (e:g h=some n):iU g h h=some { n with pa:=0 }:=by unfold iU;rw[if_pos rfl,e];rfl
theorem LX (e:g h=some n) (hp:n.pa≠h) (eq:g n.pa=some q):iU g h n.pa=some { q with kids:=q.kids.erase h }:=by
 unfold iU;rw[if_neg hp,if_pos (aO e).symm,eq];rfl
theorem zA {x:Int} (h1:x≠h) (h2:x≠dI g h):iU g h x=g x:=by unfold iU;rw[if_neg h1,if_neg h2]
theorem ig {x:Int}:(iU g h x).isSome=(g x).isSome:=by
 unfold iU
 split
 ·rename_i e;rw[e];cases g h<;>rfl
 ·split
  ·cases g x<;>rfl
  ·rfl
theorem jW {x:Int} {m:GN} (e:iU g h x=some m) (hx:x≠h):∃ m0,g x=some m0∧m.pa=m0.pa∧(∀ k,k∈m.kids→k∈m0.kids)∧(x≠dI g h→m.kids=m0.kids)∧(x=dI g h→m.kids=m0.kids.erase h)∧m.kind=m0.kind:=by
 unfold iU at e;rw[if_neg hx] at e
 split at e
 ·rename_i hp;cases ex:g x with
  | none=>rw[ex] at e;cases e
  | some m0=>
   rw[ex] at e;obtain rfl:=Option.some.inj e;exact⟨m0,rfl,rfl,fun k hk=>List.mem_of_mem_erase hk,fun h=>absurd hp h,fun _=>rfl,rfl⟩
 ·rename_i hp;exact⟨m,e,rfl,fun _ h=>h,fun _=>rfl,fun h=>absurd h hp,rfl⟩
theorem WF.cut (w:WF 0 g) (e:g h=some n):WF 0 (iU g h):=by
 have hz:h≠0:=fun e1=>by rw[e1,w.zero] at e;cases e
 have hzero:iU g h 0=none:=by
  have:=ig (g:=g) (h:=h) (x:=0);rw[w.zero] at this;exact Option.not_isSome_iff_eq_none.1 (by rw[this];simp)
 have hps:n.pa≠h:=w.iG e;refine⟨hzero,?_,?_,?_,?_⟩
 ·intro x m em hm;by_cases hx:x=h
  ·rw[hx,lK e] at em;obtain rfl:=Option.some.inj em;exact absurd rfl hm
  ·obtain⟨m0,e0,h1,_⟩:=jW em hx;rw[h1] at hm ⊢;obtain⟨r,er,hr⟩:=w.up x m0 e0 hm;by_cases hq:m0.pa=h
   ·rw[hq] at er ⊢;rw[e] at er;obtain rfl:=Option.some.inj er;exact⟨_,lK e,hr⟩
   ·by_cases hq2:m0.pa=n.pa
    ·rw[hq2] at er ⊢;exact⟨_,LX e hps er,(List.mem_erase_of_ne hx).2 hr⟩
    ·exact⟨r,by rw[zA hq (by rw[aO e];exact hq2)];exact er,hr⟩
 ·intro x m k em hk;by_cases hx:x=h
  ·rw[hx,lK e] at em;obtain rfl:=Option.some.inj em;obtain⟨mk,e1,e2⟩:=w.down h n k e hk;have hkh:k≠h:=fun e3=>w.vY h (by rw[aH e];exact e3▸hk);have:=ig (g:=g) (h:=h) (x:=k);rw[e1] at this;obtain⟨m',em'⟩:=Option.isSome_iff_exists.1 this;obtain⟨m0,e0,h1,_⟩:=jW em' hkh;rw[e1] at e0;obtain rfl:=Option.some.inj e0;exact⟨m',em',by rw[h1,e2,hx]⟩
  ·obtain⟨m0,e0,h1,h2,h3,h4,_⟩:=jW em hx;obtain⟨mk,e1,e2⟩:=w.down x m0 k e0 (h2 k hk);have hkh:k≠h:=by
    intro e3;rw[e3,e] at e1;obtain rfl:=Option.some.inj e1;have hxp:x=dI g h:=by rw[aO e];exact e2.symm
    rw[h4 hxp,e3] at hk;exact ((w.nodup x m0 e0).mem_erase_iff.1 hk).1 rfl
   have:=ig (g:=g) (h:=h) (x:=k);rw[e1] at this;obtain⟨m',em'⟩:=Option.isSome_iff_exists.1 this;obtain⟨m1,e0',h1',_⟩:=jW em' hkh;rw[e1] at e0';obtain rfl:=Option.some.inj e0';exact⟨m',em',by rw[h1',e2]⟩
 ·intro x m em;by_cases hx:x=h
  ·rw[hx,lK e] at em;obtain rfl:=Option.some.inj em;exact w.nodup h n e
  ·obtain⟨m0,e0,_,_,h3,h4,_⟩:=jW em hx;by_cases hp:x=dI g h
   ·rw[h4 hp];exact (w.nodup x m0 e0).erase h
   ·rw[h3 hp];exact w.nodup x m0 e0
 ·intro x;obtain⟨l,u,hl⟩:=w.chain x;have key:∀ (x:Int) (l:List Int),Up g x l→∃ l',Up (iU g h) x l'∧l'.length≤l.length:=by
   intro x l u
   induction u with
   | @out y e1=>
    refine⟨[],.out ?_,Nat.le_refl _⟩;have:=ig (g:=g) (h:=h) (x:=y);rw[e1] at this;exact Option.not_isSome_iff_eq_none.1 (by rw[this];simp)
   | @node y m l e1 u ih=>
    by_cases hy:y=h
    ·subst hy;exact⟨[y],.node (lK e1) (.out hzero),by simp⟩
    ·have:=ig (g:=g) (h:=h) (x:=y);rw[e1] at this;obtain⟨m',em'⟩:=Option.isSome_iff_exists.1 this;obtain⟨m0,e0,h1,_⟩:=jW em' hy;rw[e1] at e0;obtain rfl:=Option.some.inj e0;obtain⟨l',u',hl'⟩:=ih;exact⟨y::l',.node em' (by rw[h1];exact u'),by simp;omega⟩
  obtain⟨l',u',hl'⟩:=key x l u;exact⟨l',u',by omega⟩
theorem iX (e:g h=some n):bO g p h c h=some { n with pa:=p }:=by unfold bO;rw[if_pos rfl,e];rfl
theorem p8 (e:g p=some q) (hp:p≠h):bO g p h c p=some { q with kids:=iD q.kids c h }:=by unfold bO;rw[if_neg hp,if_pos rfl,e];rfl
theorem Bg {x:Int} (h1:x≠h) (h2:x≠p):bO g p h c x=g x:=by unfold bO;rw[if_neg h1,if_neg h2]
theorem wu {x:Int} (hp:(g p).isSome):(bO g p h c x).isSome=(g x).isSome:=by
 unfold bO
 split
 ·rename_i e;rw[e];cases g h<;>rfl
 ·split
  ·rename_i e;rw[e];cases g p<;>rfl
  ·rfl
theorem rT {l:List Int} {b x y:Int}:y∈iD l b x↔y=x∨y∈l:=by
 induction l with
 | nil=>simp[iD]
 | cons a r ih=>
  rw[iD]
  split
  ·simp
  ·rw[List.mem_cons,ih,List.mem_cons];constructor
   ·rintro (h | h | h)
    ·exact .inr (.inl h)
    ·exact .inl h
    ·exact .inr (.inr h)
   ·rintro (h | h | h)
    ·exact .inr (.inl h)
    ·exact .inl h
    ·exact .inr (.inr h)
theorem Ki {l:List Int} {b x:Int} (hn:l.Nodup) (hx:x∉l):(iD l b x).Nodup:=by
 induction l with
 | nil=>simp[iD]
 | cons a r ih=>
  simp only[List.mem_cons,not_or] at hx;rw[List.nodup_cons] at hn;rw[iD]
  split
  ·exact List.nodup_cons.2 ⟨by simp[hx.1,hx.2],List.nodup_cons.2 hn⟩
  ·refine List.nodup_cons.2 ⟨fun hm=>?_,ih hn.2 hx.2⟩;rcases rT.1 hm with h1 | h1
   ·exact hx.1 h1.symm
   ·exact hn.1 h1
theorem WF.deep (w:WF 0 g):∀ h x,x∈ak g h→(aS g x).length+1≤(aS g h).length+gM g h:=by
 refine w.induct fun h ih=>fun x hx=>?_;cases e:g h with
 | none=>rw[jU e] at hx;cases hx
 | some m=>
  rw[w.bR e] at hx;rw[w.kE e];rcases List.mem_cons.1 hx with rfl | hx
  ·omega
  ·obtain⟨k,hk,hx⟩:=List.mem_flatMap.1 hx;have h1:=ih m e k hk x hx;rw[w.jC e hk,List.length_cons] at h1;have h2:gM g k≤(m.kids.map (gM g)).foldl max 0:=wm.2 _ (List.mem_map.2 ⟨k,hk,rfl⟩);omega
theorem WF.link (w:WF 0 g) (e:g h=some n) (hn:n.pa=0) (ep:g p=some q) (hu:h∉aS g p) (hd:(aS g p).length+gM g h≤128):WF 0 (bO g p h c):=by
 have hz:h≠0:=fun e1=>by rw[e1,w.zero] at e;cases e
 have hpz:p≠0:=fun e1=>by rw[e1,w.zero] at ep;cases ep
 have hps:p≠h:=fun e1=>by rw[w.aT ep,e1] at hu;exact hu (by simp)
 have hsome:=fun x=>wu (g:=g) (p:=p) (h:=h) (c:=c) (x:=x) (by rw[ep];rfl);have hzero:bO g p h c 0=none:=by
  have:=hsome 0;rw[w.zero] at this;exact Option.not_isSome_iff_eq_none.1 (by rw[this];simp)
 have hnk:h∉q.kids:=fun hm=>by
  obtain⟨m,h1,h2⟩:=w.down p q h ep hm;rw[e] at h1;obtain rfl:=Option.some.inj h1;exact hpz (by rw[←h2,hn])
 have of:∀ {x:Int} {m:GN},bO g p h c x=some m→x≠h→∃ m0,g x=some m0∧m.pa=m0.pa∧(x≠p→m.kids=m0.kids):=by
  intro x m em hx;by_cases hxp:x=p
  ·rw[hxp,p8 ep hps] at em;obtain rfl:=Option.some.inj em;exact⟨q,hxp▸ep,rfl,fun h=>absurd hxp h⟩
  ·rw[Bg hx hxp] at em;exact⟨m,em,rfl,fun _=>rfl⟩
 refine⟨hzero,?_,?_,?_,?_⟩
 ·intro x m em hm;by_cases hx:x=h
  ·rw[hx,iX e] at em;obtain rfl:=Option.some.inj em;exact⟨_,p8 ep hps,by rw[hx];exact rT.2 (.inl rfl)⟩
  ·obtain⟨m0,e0,h1,_⟩:=of em hx;rw[h1] at hm ⊢;obtain⟨r,er,hr⟩:=w.up x m0 e0 hm;by_cases hq:m0.pa=h
   ·rw[hq] at er ⊢;rw[e] at er;obtain rfl:=Option.some.inj er;exact⟨_,iX e,hr⟩
   ·by_cases hq2:m0.pa=p
    ·rw[hq2] at er ⊢;rw[ep] at er;obtain rfl:=Option.some.inj er;exact⟨_,p8 ep hps,rT.2 (.inr hr)⟩
    ·exact⟨r,by rw[Bg hq hq2];exact er,hr⟩
 ·intro x m k em hk;have kid:∀ m0,g x=some m0→k∈m0.kids→k≠h→∃ m',bO g p h c k=some m'∧m'.pa=x:=by
   intro m0 e0 hk hkh;obtain⟨mk,e1,e2⟩:=w.down x m0 k e0 hk;have:=hsome k;rw[e1] at this;obtain⟨m',em'⟩:=Option.isSome_iff_exists.1 this;obtain⟨m1,e3,h1,_⟩:=of em' hkh;rw[e1] at e3;obtain rfl:=Option.some.inj e3;exact⟨m',em',by rw[h1,e2]⟩
  by_cases hx:x=h
  ·rw[hx,iX e] at em;obtain rfl:=Option.some.inj em;exact kid n (hx▸e) hk (fun e3=>w.vY h (by rw[aH e];exact e3▸hk))
  ·by_cases hxp:x=p
   ·rw[hxp,p8 ep hps] at em;obtain rfl:=Option.some.inj em;rcases rT.1 hk with rfl | hk
    ·exact⟨_,iX e,hxp.symm⟩
    ·exact kid q (hxp▸ep) hk (fun e3=>hnk (e3▸hk))
   ·obtain⟨m0,e0,h1,h2⟩:=of em hx;rw[h2 hxp] at hk;refine kid m0 e0 hk (fun e3=>?_);obtain⟨mk,e1,e2⟩:=w.down x m0 k e0 hk;rw[e3,e] at e1;obtain rfl:=Option.some.inj e1;rw[hn] at e2;rw[←e2,w.zero] at e0;cases e0
 ·intro x m em;by_cases hx:x=h
  ·rw[hx,iX e] at em;obtain rfl:=Option.some.inj em;exact w.nodup h n e
  ·by_cases hxp:x=p
   ·rw[hxp,p8 ep hps] at em;obtain rfl:=Option.some.inj em;exact Ki (w.nodup p q ep) hnk
   ·obtain⟨m0,e0,h1,h2⟩:=of em hx;rw[h2 hxp];exact w.nodup x m0 e0
 ·intro x;have Zu:∀ (x:Int) (l:List Int),Up g x l→h∉l→Up (bO g p h c) x l:=by
   intro x l u
   induction u with
   | @out y e1=>
    intro _;refine .out ?_;have:=hsome y;rw[e1] at this;exact Option.not_isSome_iff_eq_none.1 (by rw[this];simp)
   | @node y m l e1 u ih=>
    intro hm;simp only[List.mem_cons,not_or] at hm;have:=hsome y;rw[e1] at this;obtain⟨m',em'⟩:=Option.isSome_iff_exists.1 this;obtain⟨m0,e0,h1,_⟩:=of em' (fun e2=>hm.1 e2.symm);rw[e1] at e0;obtain rfl:=Option.some.inj e0;exact .node em' (by rw[h1];exact ih hm.2)
  have aa5:∀ (x:Int) (l:List Int),Up g x l→h∈l→Up (bO g p h c) x (l++aS g p):=by
   intro x l u
   induction u with
   | out _=>intro hm;cases hm
   | @node y m l e1 u ih=>
    intro hm;by_cases hy:y=h
    ·subst hy;rw[e] at e1;obtain rfl:=Option.some.inj e1;rw[hn] at u;cases u with
     | out _=>exact .node (iX e) (Zu p _ (w.cu p).1 hu)
     | node e2 _=>rw[w.zero] at e2;cases e2
    ·have hm2:h∈l:=by rcases List.mem_cons.1 hm with h1 | h1;exact absurd h1.symm hy;exact h1
     have:=hsome y;rw[e1] at this;obtain⟨m',em'⟩:=Option.isSome_iff_exists.1 this;obtain⟨m0,e0,h1,_⟩:=of em' hy;rw[e1] at e0;obtain rfl:=Option.some.inj e0;exact .node em' (by rw[h1];exact ih hm2)
  have u:=(w.cu x).1;by_cases hm:h∈aS g x
  ·refine⟨_,aa5 _ _ u hm,?_⟩;have h1:=w.deep h x ((w.eH h x).2 hm);rw[w.aT e,hn,w.jI w.zero] at h1;rw[List.length_append];simp at h1;omega
  ·exact⟨_,Zu _ _ u hm,(w.cu x).2⟩
end
end Tr
end
section
namespace Tr
open Go Go.RowKit
def dK (g:G) (h:Int) (m:GN):G:=fun x=>if x=h then some m else g x
def fq (av:Int→Sl) (h:Int) (s:Sl):Int→Sl:=fun x=>if x=h then s else av x
theorem bQ (g:G) (h:Int) (m:GN):dK g h m h=some m:=by unfold dK;rw[if_pos rfl]
theorem bZ {g:G} {h x:Int} {m:GN} (e:x≠h):dK g h m x=g x:=by unfold dK;rw[if_neg e]
theorem lG (av:Int→Sl) (h:Int) (s:Sl):fq av h s h=s:=by unfold fq;rw[if_pos rfl]
theorem vC {av:Int→Sl} {h x:Int} {s:Sl} (e:x≠h):fq av h s x=av x:=by unfold fq;rw[if_neg e]
section
variable {g:G} {h:Int} {m:GN}
theorem WF.UZ (w:WF 0 g) (hn:g h=none) (h0:h≠0) {x:Int} {n:GN} (e:g x=some n):n.pa≠h:=fun e1=>by
 rcases w.pa e with h1 | ⟨p,h1,_⟩
 ·exact h0 (e1▸h1)
 ·rw[e1,hn] at h1;cases h1
theorem up_add (w:WF 0 g) (hn:g h=none) (h0:h≠0):∀ {l:List Int} {x:Int},x≠h→Up g x l→Up (dK g h m) x l:=by
 intro l
 induction l with
 | nil=>
  intro x hx u;cases u with
  | out e=>exact .out (by rw[bZ hx];exact e)
 | cons a r ih=>
  intro x hx u;cases u with
  | @node _ n _ e u=>exact .node (by rw[bZ hx];exact e) (ih (w.UZ hn h0 e) u)
theorem Bh (hk:m.kids=[]) (hn:g h=none) (p:Int):au (dK g h m) p=au g p:=by
 by_cases e:p=h
 ·subst e;rw[aH (bQ g p m),hk,gH hn]
 ·unfold au;rw[bZ e]
theorem WF.add (w:WF 0 g) (hn:g h=none) (h0:h≠0) (hp:m.pa=0) (hk:m.kids=[]):WF 0 (dK g h m) where
 zero:=by rw[bZ (Ne.symm h0)];exact w.zero
 up x n e hx:=by
  by_cases e1:x=h
  ·subst e1;rw[bQ] at e;obtain rfl:=Option.some.inj e;exact absurd hp hx
  ·rw[bZ e1] at e;obtain⟨p,h1,h2⟩:=w.up x n e hx;exact⟨p,by rw[bZ (w.UZ hn h0 e)];exact h1,h2⟩
 down x n k e hkk:=by
  by_cases e1:x=h
  ·subst e1;rw[bQ] at e;obtain rfl:=Option.some.inj e;rw[hk] at hkk;cases hkk
  ·rw[bZ e1] at e;obtain⟨mk,h1,h2⟩:=w.down x n k e hkk;have:k≠h:=fun e2=>by rw[e2,hn] at h1;cases h1
   exact⟨mk,by rw[bZ this];exact h1,h2⟩
 nodup x n e:=by
  by_cases e1:x=h
  ·subst e1;rw[bQ] at e;obtain rfl:=Option.some.inj e;rw[hk];exact List.nodup_nil
  ·rw[bZ e1] at e;exact w.nodup x n e
 chain x:=by
  by_cases e1:x=h
  ·subst e1;exact⟨[x],.node (bQ g x m) (by rw[hp];exact .out (by rw[bZ (Ne.symm h0)];exact w.zero)),by simp⟩
  ·obtain⟨l,h1,h2⟩:=w.chain x;exact⟨l,up_add w hn h0 e1 h1,h2⟩
theorem vB {av:Int→Sl} {s:Sl} (hn:g h=none) (h0:g 0=none) (hp:m.pa=0) (hk:m.kids=[]):raw (dK g h m) (fq av h s)=pJ (raw g av) h (some ⟨m.kind,m.name,s,m.data,0,0,0,0,0⟩):=by
 funext x;by_cases e:x=h
 ·subst e;rw[aj (bQ g x m),sK];unfold dW;rw[lG,hk,hp,Bh hk hn,gH h0];rfl
 ·rw[EY e];unfold raw;rw[bZ e];cases g x with
  | none=>rfl
  | some n=>
   show some _=some _;unfold dW;rw[vC e,Bh hk hn]
end
theorem WF.empty:WF 0 (fun _=>none) where
 zero:=rfl
 up _ _ e:=by cases e
 down _ _ _ e:=by cases e
 nodup _ _ e:=by cases e
 chain x:=⟨[],.out rfl,by simp⟩
end Tr
end
section
namespace Tr
open Go Go.RowKit
def eD (ρ:Int→Int) (n:GN):GN:={ n with pa:=ρ n.pa,kids:=n.kids.map ρ }
structure Im (ρ:Int→Int) (a g:G):Prop where
 zero:ρ (-1)=0
 node:∀ x n,a x=some n→g (ρ x)=some (eD ρ n)
 dom:∀ h,(g h).isSome→∃ x,(a x).isSome∧ρ x=h
 inj:∀ x y,(a x).isSome→(a y).isSome→ρ x=ρ y→x=y
 nz:∀ x,(a x).isSome→ρ x≠0
 neg:a (-1)=none
 pa:∀ x n,a x=some n→n.pa = -1∨(a n.pa).isSome
 kids:∀ x n,a x=some n→∀ k∈n.kids,(a k).isSome
section
variable {ρ:Int→Int} {a g:G}
theorem bS {a:G} {x:Int} {n:GN} (e:a x=some n):(a x).isSome:=by rw[e];rfl
def Lv (a:G) (x:Int):Prop:=x = -1∨(a x).isSome
theorem Im.WJ (h:Im ρ a g) {x y:Int} (hx:Lv a x) (hy:Lv a y) (e:ρ x=ρ y):x=y:=by
 rcases hx with rfl | hx
 ·rcases hy with rfl | hy
  ·rfl
  ·exact absurd (e.symm.trans h.zero) (h.nz y hy)
 ·rcases hy with rfl | hy
  ·exact absurd (e.trans h.zero) (h.nz x hx)
  ·exact h.inj x y hx hy e
theorem Im.from (h:Im ρ a g) {x:Int} {q:GN} (hx:(a x).isSome) (e:g (ρ x)=some q):∃ n,a x=some n∧q=eD ρ n:=by
 obtain⟨n,e1⟩:=Option.isSome_iff_exists.1 hx;rw[h.node x n e1] at e;exact⟨n,e1,(Option.some.inj e).symm⟩
theorem Im.mem (h:Im ρ a g) {l:List Int} (hl:∀ k∈l,(a k).isSome) {x:Int} (hx:(a x).isSome):ρ x∈l.map ρ↔x∈l:=by
 constructor
 ·intro hm;obtain⟨y,hy,e⟩:=List.mem_map.1 hm;rw[←h.inj y x (hl y hy) hx e];exact hy
 ·exact fun hm=>List.mem_map.2 ⟨x,hm,rfl⟩
theorem Im.up' (h:Im ρ a g) (w:WF 0 g):∀ {y:Int} {l:List Int},Up g y l→∀ x,Lv a x→ρ x=y→∃ l',Up a x l'∧l=l'.map ρ:=by
 intro y l u
 induction u with
 | @out y e=>
  intro x hx hy;subst hy;rcases hx with rfl | hx
  ·exact⟨[],.out h.neg,rfl⟩
  ·obtain⟨n,e1⟩:=Option.isSome_iff_exists.1 hx;rw[h.node x n e1] at e;cases e
 | @node y q l e u ih=>
  intro x hx hy;subst hy;rcases hx with rfl | hx
  ·rw[h.zero,w.zero] at e;cases e
  ·obtain⟨n,e1,rfl⟩:=h.from hx e;obtain⟨l',h1,h2⟩:=ih n.pa (h.pa x n e1) rfl;exact⟨x::l',.node e1 h1,by rw[h2];rfl⟩
theorem Im.pull (h:Im ρ a g) (w:WF 0 g):WF (-1) a where
 zero:=h.neg
 up x n e hp:=by
  rcases h.pa x n e with h1 | h1
  ·exact absurd h1 hp
  ·obtain⟨q,eq⟩:=Option.isSome_iff_exists.1 h1;refine⟨q,eq,?_⟩;rcases w.pa (h.node x n e) with h2 | ⟨p,h2,h3⟩
   ·exact absurd h2 (h.nz _ h1)
   ·rw[show (eD ρ n).pa=ρ n.pa from rfl,h.node _ _ eq] at h2;obtain rfl:=Option.some.inj h2;exact (h.mem (h.kids _ _ eq) (bS e)).1 h3
 down x n k e hk:=by
  have hks:=h.kids x n e k hk;obtain⟨q,h1,h2⟩:=w.down _ _ (ρ k) (h.node x n e) (List.mem_map.2 ⟨k,hk,rfl⟩);obtain⟨m,e1,rfl⟩:=h.from hks h1;exact⟨m,e1,h.WJ (h.pa k m e1) (.inr (bS e)) h2⟩
 nodup x n e:=List.Pairwise.of_map ρ (fun a b h e=>h (by rw[e])) (w.nodup _ _ (h.node x n e))
 chain x:=by
  cases e:a x with
  | none=>exact⟨[],.out e,by simp⟩
  | some n=>
   obtain⟨l,hl,h1⟩:=w.chain (ρ x);obtain⟨l',h2,h3⟩:=h.up' w hl x (.inr (bS e)) rfl;exact⟨l',h2,by rw[h3,List.length_map] at h1;exact h1⟩
theorem Im.up (h:Im ρ a g) (w:WF 0 g) {x:Int} (hx:Lv a x):aS g (ρ x)=(aS a x).map ρ:=by
 obtain⟨l',h2,h3⟩:=h.up' w (w.cu (ρ x)).1 x hx rfl;rw[h3,(h.pull w).gU h2]
theorem Im.LY (h:Im ρ a g) (w:WF 0 g) {x y:Int} (hy:y∈aS a x):(a y).isSome:=((h.pull w).cu x).1.mem hy
theorem Im.walk (h:Im ρ a g) (w:WF 0 g):∀ x,(a x).isSome→ak g (ρ x)=(ak a x).map ρ:=by
 refine (h.pull w).induct fun x ih hx=>?_;obtain⟨n,e⟩:=Option.isSome_iff_exists.1 hx;rw[w.bR (h.node x n e),(h.pull w).bR e,List.map_cons,List.map_flatMap];congr 1;rw[show (eD ρ n).kids=n.kids.map ρ from rfl,List.flatMap_map];exact Hl fun k hk=>ih n e k hk (h.kids x n e k hk)
where
 Hl {f k:Int→List Int} {l:List Int} (h:∀ x∈l,f x=k x):l.flatMap f=l.flatMap k:=uW h
theorem Im.hgt (h:Im ρ a g) (w:WF 0 g):∀ x,(a x).isSome→gM g (ρ x)=gM a x:=by
 refine (h.pull w).induct fun x ih hx=>?_;obtain⟨n,e⟩:=Option.isSome_iff_exists.1 hx;rw[w.kE (h.node x n e),(h.pull w).kE e,show (eD ρ n).kids=n.kids.map ρ from rfl,List.map_map];congr 2;exact List.map_congr_left fun k hk=>ih n e k hk (h.kids x n e k hk)
theorem Im.kid (h:Im ρ a g) {x:Int} {n:GN} (e:a x=some n):au g (ρ x)=n.kids.map ρ:=aH (h.node x n e)
theorem Im.dI (h:Im ρ a g) {x:Int} {n:GN} (e:a x=some n):dI g (ρ x)=ρ n.pa:=aO (h.node x n e)
theorem Nq {l:List Int} {x:Int} (hi:∀ y∈l,ρ y=ρ x→y=x):(l.erase x).map ρ=(l.map ρ).erase (ρ x):=by
 induction l with
 | nil=>rfl
 | cons b r ih=>
  by_cases e:b=x
  ·subst e;rw[List.erase_cons_head,List.map_cons,List.erase_cons_head]
  ·have e2:ρ b≠ρ x:=fun e2=>e (hi b (by simp) e2);rw[List.erase_cons_tail (by simpa using e),List.map_cons,List.map_cons,List.erase_cons_tail (by simpa using e2),ih fun y hy=>hi y (List.mem_cons_of_mem _ hy)]
theorem Qf {l:List Int} {c x:Int} (hi:∀ y∈l,ρ y=ρ c→y=c):(iD l c x).map ρ=iD (l.map ρ) (ρ c) (ρ x):=by
 induction l with
 | nil=>rfl
 | cons b r ih=>
  by_cases e:b=c
  ·subst e;rw[iD,if_pos rfl,List.map_cons,List.map_cons,iD,if_pos rfl]
  ·have e2:ρ b≠ρ c:=fun e2=>e (hi b (by simp) e2);rw[iD,if_neg e,List.map_cons,List.map_cons,iD,if_neg e2,ih fun y hy=>hi y (List.mem_cons_of_mem _ hy)]
theorem Nr {l:List Int} {x:Int} (hi:∀ y∈l,ρ y=ρ x→y=x):(l.map ρ).idxOf (ρ x)=l.idxOf x:=by
 induction l with
 | nil=>rfl
 | cons b r ih=>
  rw[List.map_cons,List.idxOf_cons,List.idxOf_cons,ih fun y hy=>hi y (List.mem_cons_of_mem _ hy)];by_cases e:b=x
  ·subst e;simp
  ·have e2:ρ b≠ρ x:=fun e2=>e (hi b (by simp) e2);have h1:(b == x)=false:=by simpa using e
   have h2:(ρ b == ρ x)=false:=by simpa using e2
   rw[h1,h2]
theorem Im.change (h:Im ρ a g) {a' g':G} (hd:∀ x,(a' x).isSome=(a x).isSome) (hd2:∀ x,(g' x).isSome=(g x).isSome)
  (hn:∀ x n,a' x=some n→g' (ρ x)=some (eD ρ n)) (hp:∀ x n,a' x=some n→n.pa = -1∨(a n.pa).isSome) (hk:∀ x n,a' x=some n→∀ k∈n.kids,(a k).isSome):Im ρ a' g' where
 zero:=h.zero
 node:=hn
 dom y hy:=by
  obtain⟨x,h1,h2⟩:=h.dom y (by rw[←hd2];exact hy);exact⟨x,by rw[hd];exact h1,h2⟩
 inj x y hx hy:=h.inj x y (by rw[←hd];exact hx) (by rw[←hd];exact hy)
 nz x hx:=h.nz x (by rw[←hd];exact hx)
 neg:=by
  have:=hd (-1);rw[h.neg] at this;exact Option.not_isSome_iff_eq_none.1 (by rw[this];simp)
 pa x n e:=by rw[hd];exact hp x n e
 kids x n e k hm:=by rw[hd];exact hk x n e k hm
def uh (a:G) (i:Int):G:=fun x=>if x=i then (a i).map fun n=>{ n with pa := -1 } else if x=Tr.dI a i then (a x).map fun n=>{ n with kids:=n.kids.erase i } else a x
theorem isSome_map {α β:Type} (o:Option α) (f:α→β):(o.map f).isSome=o.isSome:=by cases o<;>rfl
theorem Ho (a:G) (i x:Int):(uh a i x).isSome=(a x).isSome:=by
 unfold uh;split
 ·rename_i e;subst e;exact isSome_map _ _
 ·split
  ·exact isSome_map _ _
  ·rfl
theorem Im.cut (h:Im ρ a g) (w:WF 0 g) {i:Int} {n:GN} (ei:a i=some n) (hp:n.pa ≠ -1):Im ρ (uh a i) (iU g (ρ i)):=by
 have ep:=h.dI ei;have hps:(a n.pa).isSome:=by rcases h.pa i n ei with h1 | h1;exact absurd h1 hp;exact h1
 refine h.change (Ho a i) (fun x=>ig) ?_ ?_ ?_
 ·intro x q e;unfold uh at e;by_cases hx:x=i
  ·subst hx;rw[if_pos rfl,ei] at e;obtain rfl:=Option.some.inj e;rw[lK (h.node x n ei)];unfold eD;dsimp only;rw[h.zero]
  ·rw[if_neg hx] at e;have hxi:∀ q',a x=some q'→ρ x≠ρ i:=fun q' e' e2=>hx (h.inj x i (bS e') (bS ei) e2);by_cases hx2:x=Tr.dI a i
   ·rw[if_pos hx2] at e;cases eq:a x with
    | none=>rw[eq] at e;cases e
    | some q'=>
     rw[eq] at e;obtain rfl:=Option.some.inj e;have e3:Tr.dI g (ρ i)=ρ x:=by rw[ep,hx2,aO ei]
     unfold iU;rw[if_neg (hxi q' eq),if_pos e3.symm,h.node x q' eq];show some _=some _;congr 1;unfold eD;dsimp only;rw[Nq fun y hy e4=>h.inj y i (h.kids x q' eq y hy) (bS ei) e4]
   ·rw[if_neg hx2] at e;have e3:ρ x≠Tr.dI g (ρ i):=by
     rw[ep];intro e4;exact hx2 (by rw[aO ei];exact h.inj x n.pa (bS e) hps e4)
    rw[zA (hxi q e) e3];exact h.node x q e
 ·intro x q e;unfold uh at e
  split at e
  ·rename_i hx;subst hx;rw[ei] at e;obtain rfl:=Option.some.inj e;exact .inl rfl
  ·split at e
   ·cases eq:a x with
    | none=>rw[eq] at e;cases e
    | some q'=>rw[eq] at e;obtain rfl:=Option.some.inj e;exact h.pa x q' eq
   ·exact h.pa x q e
 ·intro x q e k hk;unfold uh at e
  split at e
  ·rename_i hx;subst hx;rw[ei] at e;obtain rfl:=Option.some.inj e;exact h.kids x n ei k hk
  ·split at e
   ·cases eq:a x with
    | none=>rw[eq] at e;cases e
    | some q'=>rw[eq] at e;obtain rfl:=Option.some.inj e;exact h.kids x q' eq k (List.mem_of_mem_erase hk)
   ·exact h.kids x q e k hk
def lu (a:G) (p i c:Int):G:=fun x=>if x=i then (a i).map fun n=>{ n with pa:=p } else if x=p then (a p).map fun n=>{ n with kids:=iD n.kids c i } else a x
theorem Fa (a:G) (p i c x:Int):(lu a p i c x).isSome=(a x).isSome:=by
 unfold lu;split
 ·rename_i e;subst e;exact isSome_map _ _
 ·split
  ·rename_i e;subst e;exact isSome_map _ _
  ·rfl
theorem Im.link (h:Im ρ a g) (w:WF 0 g) {p i c:Int} {n q:GN} (ei:a i=some n) (ep:a p=some q) (hpi:p≠i) (hc:Lv a c):Im ρ (lu a p i c) (bO g (ρ p) (ρ i) (ρ c)):=by
 have WK:ρ p≠ρ i:=fun e=>hpi (h.inj _ _ (bS ep) (bS ei) e);refine h.change (Fa a p i c) (fun x=>wu (bS (h.node p q ep))) ?_ ?_ ?_
 ·intro x q' e;unfold lu at e;by_cases hx:x=i
  ·subst hx;rw[if_pos rfl,ei] at e;obtain rfl:=Option.some.inj e;rw[iX (h.node x n ei)];rfl
  ·rw[if_neg hx] at e;by_cases hx2:x=p
   ·subst hx2;rw[if_pos rfl,ep] at e;obtain rfl:=Option.some.inj e;rw[p8 (h.node x q ep) WK];unfold eD;dsimp only;rw[Qf fun y hy e4=>h.WJ (.inr (h.kids x q ep y hy)) hc e4]
   ·rw[if_neg hx2] at e;rw[Bg (fun e2=>hx (h.inj x i (bS e) (bS ei) e2)) (fun e2=>hx2 (h.inj x p (bS e) (bS ep) e2))];exact h.node x q' e
 ·intro x q' e;unfold lu at e
  split at e
  ·rename_i hx;subst hx;rw[ei] at e;obtain rfl:=Option.some.inj e;exact .inr (bS ep)
  ·split at e
   ·rename_i hx;subst hx;rw[ep] at e;obtain rfl:=Option.some.inj e;exact h.pa x q ep
   ·exact h.pa x q' e
 ·intro x q' e k hk;unfold lu at e
  split at e
  ·rename_i hx;subst hx;rw[ei] at e;obtain rfl:=Option.some.inj e;exact h.kids x n ei k hk
  ·split at e
   ·rename_i hx;subst hx;rw[ep] at e;obtain rfl:=Option.some.inj e;rcases rT.1 hk with rfl | hk
    ·exact bS ei
    ·exact h.kids x q ep k hk
   ·exact h.kids x q' e k hk
def cK (g:G) (h:Int) (u:GN→GN):G:=fun x=>if x=h then (g h).map u else g x
theorem yI (g:G) (h:Int) (u:GN→GN) (x:Int):(cK g h u x).isSome=(g x).isSome:=by
 unfold cK;split
 ·rename_i e;subst e;exact isSome_map _ _
 ·rfl
theorem Im.put (h:Im ρ a g) {i:Int} (hi:(a i).isSome) (u:GN→GN) (hu:∀ n,(u n).pa=n.pa∧(u n).kids=n.kids) (hm:∀ n,u (eD ρ n)=eD ρ (u n)):Im ρ (cK a i u) (cK g (ρ i) u):=by
 refine h.change (yI a i u) (yI g _ u) ?_ ?_ ?_
 ·intro x q e;unfold cK at e ⊢;by_cases hx:x=i
  ·subst hx;obtain⟨n,en⟩:=Option.isSome_iff_exists.1 hi;rw[if_pos rfl,en] at e;obtain rfl:=Option.some.inj e;rw[if_pos rfl,h.node x n en];show some _=some _;rw[hm]
  ·rw[if_neg hx] at e;rw[if_neg (fun e2=>hx (h.inj x i (bS e) hi e2))];exact h.node x q e
 ·intro x q e;unfold cK at e
  split at e
  ·rename_i hx;subst hx;obtain⟨n,en⟩:=Option.isSome_iff_exists.1 hi;rw[en] at e;obtain rfl:=Option.some.inj e;rw[(hu n).1];exact h.pa x n en
  ·exact h.pa x q e
 ·intro x q e k hk;unfold cK at e
  split at e
  ·rename_i hx;subst hx;obtain⟨n,en⟩:=Option.isSome_iff_exists.1 hi;rw[en] at e;obtain rfl:=Option.some.inj e;rw[(hu n).2] at hk;exact h.kids x n en k hk
  ·exact h.kids x q e k hk
theorem Im.add (h:Im ρ a g) {ρ':Int→Int} {i x:Int} {n:GN} (hρ:∀ y,y = -1∨(a y).isSome→ρ' y=ρ y) (hi:a i=none) (hi1:i ≠ -1) (hx:g x=none) (hx0:x≠0) (ei:ρ' i=x) (hp:n.pa = -1) (hk:n.kids=[]):
  Im ρ' (dK a i n) (dK g x { n with pa:=0 }):=by
 have hmap:∀ y q,a y=some q→eD ρ' q=eD ρ q:=fun y q e=>by
  unfold eD;rw[hρ q.pa (h.pa y q e)];congr 1;exact List.map_congr_left fun k hk=>hρ k (.inr (h.kids y q e k hk))
 have hne:∀ y q,a y=some q→y≠i:=fun y q e e2=>by rw[e2,hi] at e;cases e
 have hρx:∀ y q,a y=some q→ρ y≠x:=fun y q e e2=>by
  have:=h.node y q e;rw[e2,hx] at this;cases this
 have hS:∀ y,(dK a i n y).isSome→y=i∨(a y).isSome:=fun y hy=>by
  by_cases e:y=i
  ·exact .inl e
  ·rw[bZ e] at hy;exact .inr hy
 have hup:∀ y,(a y).isSome→(dK a i n y).isSome:=fun y hy=>by
  obtain⟨q,e⟩:=Option.isSome_iff_exists.1 hy;rw[bZ (hne y q e)];exact hy
 constructor
 ·rw[hρ (-1) (.inl rfl)];exact h.zero
 ·intro y q e;by_cases hy:y=i
  ·subst hy;rw[bQ] at e;obtain rfl:=Option.some.inj e;rw[ei,bQ];unfold eD;rw[hp,hρ (-1) (.inl rfl),h.zero,hk];rfl
  ·rw[bZ hy] at e;rw[hρ y (.inr (bS e)),bZ (hρx y q e),hmap y q e];exact h.node y q e
 ·intro y hy;by_cases e:y=x
  ·exact⟨i,by rw[bQ];rfl,by rw[ei,e]⟩
  ·rw[bZ e] at hy;obtain⟨z,h1,h2⟩:=h.dom y hy;exact⟨z,hup z h1,by rw[hρ z (.inr h1)];exact h2⟩
 ·intro y z hy hz e;rcases hS y hy with hy1 | hy1
  ·rcases hS z hz with hz1 | hz1
   ·rw[hy1,hz1]
   ·obtain⟨q,eq⟩:=Option.isSome_iff_exists.1 hz1;rw[hy1,ei,hρ z (.inr hz1)] at e;exact absurd e.symm (hρx z q eq)
  ·obtain⟨q,eq⟩:=Option.isSome_iff_exists.1 hy1;rcases hS z hz with hz1 | hz1
   ·rw[hz1,ei,hρ y (.inr hy1)] at e;exact absurd e (hρx y q eq)
   ·rw[hρ y (.inr hy1),hρ z (.inr hz1)] at e;exact h.inj y z hy1 hz1 e
 ·intro y hy;rcases hS y hy with hy1 | hy1
  ·rw[hy1,ei];exact hx0
  ·rw[hρ y (.inr hy1)];exact h.nz y hy1
 ·rw[bZ (fun e=>hi1 e.symm)];exact h.neg
 ·intro y q e;by_cases hy:y=i
  ·subst hy;rw[bQ] at e;obtain rfl:=Option.some.inj e;exact .inl hp
  ·rw[bZ hy] at e;rcases h.pa y q e with h1 | h1
   ·exact .inl h1
   ·exact .inr (hup _ h1)
 ·intro y q e k hk';by_cases hy:y=i
  ·subst hy;rw[bQ] at e;obtain rfl:=Option.some.inj e;rw[hk] at hk';cases hk'
  ·rw[bZ hy] at e;exact hup k (h.kids y q e k hk')
end
end Tr
end
section
namespace bB
def cont (b:UInt8):Bool:=decide (128≤b.toNat) && decide (b.toNat≤191)
def snd (a b:UInt8):Bool:=
 if a.toNat=224 then decide (160≤b.toNat) && decide (b.toNat≤191)
 else if a.toNat=237 then decide (128≤b.toNat) && decide (b.toNat≤159)
 else if a.toNat=240 then decide (144≤b.toNat) && decide (b.toNat≤191)
 else if a.toNat=244 then decide (128≤b.toNat) && decide (b.toNat≤143)
 else cont b
theorem Qg {a b:UInt8} (h:snd a b=true):cont b=true:=by
 unfold snd at h
 repeat' split at h
 all_goals first | exact h | (simp[cont] at h ⊢;omega)
def size:List UInt8→Nat
 | []=>0
 | a::r=>
  if a.toNat≤127 then 1
  else if 194≤a.toNat∧a.toNat≤223 then (match r with | b::_=>if cont b then 2 else 0 | _=>0)
  else if 224≤a.toNat∧a.toNat≤239 then (match r with | b::c::_=>if snd a b && cont c then 3 else 0 | _=>0)
  else if 240≤a.toNat∧a.toNat≤244 then (match r with | b::c::d::_=>if snd a b && cont c && cont d then 4 else 0 | _=>0)
  else 0
inductive Begins:List UInt8→Nat→Prop
 | one (a r):a.toNat≤127→Begins (a::r) 1
 | two (a b r):194≤a.toNat→a.toNat≤223→cont b=true→Begins (a::b::r) 2
 | three (a b c r):224≤a.toNat→a.toNat≤239→snd a b=true→cont c=true→Begins (a::b::c::r) 3
 | four (a b c d r):240≤a.toNat→a.toNat≤244→snd a b=true→cont c=true→cont d=true→Begins (a::b::c::d::r) 4
theorem iq {l:List UInt8} {n:Nat} (h:Begins l n):size l=n:=by
 cases h with
 | one a r h=>simp[size,h]
 | two a b r h1 h2 h3=>
  have e:¬ a.toNat≤127:=by omega
  simp[size,h1,h2,h3,e]
 | three a b c r h1 h2 h3 h4=>
  have e:¬ a.toNat≤127:=by omega
  have e2:¬ (194≤a.toNat∧a.toNat≤223):=by omega
  simp only[size,if_neg e,if_neg e2,if_pos (And.intro h1 h2),h3,h4];rfl
 | four a b c d r h1 h2 h3 h4 h5=>
  have e:¬ a.toNat≤127:=by omega
  have e2:¬ (194≤a.toNat∧a.toNat≤223):=by omega
  have e3:¬ (224≤a.toNat∧a.toNat≤239):=by omega
  simp only[size,if_neg e,if_neg e2,if_neg e3,if_pos (And.intro h1 h2),h3,h4,h5];rfl
theorem lM {l:List UInt8} (h:size l≠0):Begins l (size l):=by
 cases l with
 | nil=>exact absurd rfl h
 | cons a r=>
  by_cases e:a.toNat≤127
  ·rw[iq (.one a r e)];exact .one a r e
  ·by_cases e2:194≤a.toNat∧a.toNat≤223
   ·simp only[size,if_neg e,if_pos e2] at h
    match r,h with
    | [],h=>exact absurd rfl h
    | b::r,h=>
     cases hb:cont b with
     | false=>simp[hb] at h
     | true=>have:=Begins.two a b r e2.1 e2.2 hb;rw[iq this];exact this
   ·by_cases e3:224≤a.toNat∧a.toNat≤239
    ·simp only[size,if_neg e,if_neg e2,if_pos e3] at h
     match r,h with
     | [],h=>exact absurd rfl h
     | [_],h=>exact absurd rfl h
     | b::c::r,h=>
      cases hb:snd a b && cont c with
      | false=>simp[hb] at h
      | true=>
       simp only[Bool.and_eq_true] at hb;have:=Begins.three a b c r e3.1 e3.2 hb.1 hb.2;rw[iq this];exact this
    ·by_cases e4:240≤a.toNat∧a.toNat≤244
     ·simp only[size,if_neg e,if_neg e2,if_neg e3,if_pos e4] at h
      match r,h with
      | [],h=>exact absurd rfl h
      | [_],h=>exact absurd rfl h
      | [_,_],h=>exact absurd rfl h
      | b::c::d::r,h=>
       cases hb:snd a b && cont c && cont d with
       | false=>simp[hb] at h
       | true=>
        simp only[Bool.and_eq_true] at hb;have:=Begins.four a b c d r e4.1 e4.2 hb.1.1 hb.1.2 hb.2;rw[iq this];exact this
     ·simp only[size,if_neg e,if_neg e2,if_neg e3,if_neg e4] at h;exact absurd rfl h
theorem Begins.le {l:List UInt8} {n:Nat} (h:Begins l n):n≤l.length:=by cases h<;>simp
theorem Begins.fC {l:List UInt8} {n:Nat} (h:Begins l n):1≤n∧n≤4:=by cases h<;>omega
theorem Begins.other {l:List UInt8} {n:Nat} (h:Begins l n) (r:List UInt8):Begins (l.take n++r) n:=by
 cases h with
 | one a t h=>exact .one a _ h
 | two a b t h1 h2 h3=>exact .two a b _ h1 h2 h3
 | three a b c t h1 h2 h3 h4=>exact .three a b c _ h1 h2 h3 h4
 | four a b c d t h1 h2 h3 h4 h5=>exact .four a b c d _ h1 h2 h3 h4 h5
theorem size_le (l:List UInt8):size l≤l.length:=by
 by_cases h:size l=0
 ·omega
 ·exact (lM h).le
theorem Ns (l:List UInt8):size l≤4:=by
 by_cases h:size l=0
 ·omega
 ·exact (lM h).fC.2
def bad:List UInt8:=[239,191,189]
theorem Bj (r:List UInt8):Begins (bad++r) 3:=.three 239 191 189 r (by decide) (by decide) (by decide) (by decide)
def chunks (l:List UInt8):List (List UInt8):=
 match l with
 | []=>[]
 | a::r=>if size (a::r)=0 then bad::chunks r else (a::r).take (size (a::r))::chunks ((a::r).drop (size (a::r)))
termination_by l.length
decreasing_by
 ·simp
 ·simp only[List.length_drop,List.length_cons];omega
def rep (l:List UInt8):List UInt8:=(chunks l).flatten
theorem iW:chunks []=[]:=by unfold chunks;rfl
theorem qH {a:UInt8} {r:List UInt8} (h:size (a::r)=0):chunks (a::r)=bad::chunks r:=by
 conv=>lhs;unfold chunks
 exact if_pos h
theorem l9 {l:List UInt8} (h:size l≠0):chunks l=l.take (size l)::chunks (l.drop (size l)):=by
 cases l with
 | nil=>exact absurd rfl h
 | cons a r=>
  conv=>lhs;unfold chunks
  exact if_neg h
theorem Cw {l:List UInt8} {n:Nat} (h:Begins l n):chunks l=l.take n::chunks (l.drop n):=by
 have e:=iq h;have:=h.fC;rw[l9 (by omega),e]
def Good (c:List UInt8):Prop:=Begins c c.length
theorem Qh:Good bad:=Bj []
theorem Nt {l:List UInt8} (h:size l≠0):Good (l.take (size l)):=by
 have hb:=(lM h).other [];have hl:(l.take (size l)).length=size l:=by rw[List.length_take];have:=size_le l;omega
 unfold Good;rw[hl];simpa using hb
theorem xD {c:List UInt8} (h:Good c) (r:List UInt8):chunks (c++r)=c::chunks r:=by
 have hb:=Begins.other h r;rw[List.take_length] at hb;rw[Cw hb,List.take_left,List.drop_left]
theorem bV (l:List UInt8):∀ c∈chunks l,Good c:=by
 induction h:l.length using Nat.strongRecOn generalizing l with
 | _ n ih=>
  cases l with
  | nil=>rw[iW];intro c hc;cases hc
  | cons a r=>
   by_cases h0:size (a::r)=0
   ·rw[qH h0];intro c hc;rcases List.mem_cons.1 hc with rfl | hc
    ·exact Qh
    ·exact ih r.length (by subst h;simp) r rfl c hc
   ·rw[l9 h0];intro c hc;rcases List.mem_cons.1 hc with rfl | hc
    ·exact Nt h0
    ·exact ih _ (by subst h;simp only[List.length_drop,List.length_cons];omega) _ rfl c hc
theorem xR {cs:List (List UInt8)} (h:∀ c∈cs,Good c) (u:List UInt8):chunks (cs.flatten++u)=cs++chunks u:=by
 induction cs with
 | nil=>rfl
 | cons c cs ih=>
  rw[List.flatten_cons,List.append_assoc,xD (h c List.mem_cons_self),ih (fun c' hc=>h c' (List.mem_cons_of_mem _ hc))];rfl
theorem wB (l u:List UInt8):chunks (rep l++u)=chunks l++chunks u:=xR (bV l) u
theorem Kj (l:List UInt8):chunks (rep l)=chunks l:=by
 have:=wB l []
 rwa [List.append_nil,iW,List.append_nil] at this
theorem tN:rep []=[]:=by unfold rep;rw[iW];rfl
theorem Lu (l:List UInt8):rep (rep l)=rep l:=by
 have:rep (rep l)=(chunks (rep l)).flatten:=rfl;rw[this,Kj];rfl
theorem Fb {a:UInt8} {r:List UInt8} (h:size (a::r)=0):rep (a::r)=bad++rep r:=by
 unfold rep;rw[qH h];rfl
theorem Bl {l:List UInt8} (h:size l≠0):rep l=l.take (size l)++rep (l.drop (size l)):=by
 unfold rep;rw[l9 h];rfl
theorem mV (l:List UInt8):(rep l).length≤3*l.length:=by
 induction h:l.length using Nat.strongRecOn generalizing l with
 | _ n ih=>
  cases l with
  | nil=>rw[tN];simp
  | cons a r=>
   subst h;by_cases h0:size (a::r)=0
   ·rw[Fb h0];have:=ih r.length (by simp) r rfl;simp only[List.length_append,List.length_cons,bad,List.length_nil];omega
   ·rw[Bl h0];have hl:=size_le (a::r);have:=ih ((a::r).drop (size (a::r))).length (by simp only[List.length_drop,List.length_cons];omega) _ rfl;simp only[List.length_append,List.length_take,List.length_drop] at this ⊢;omega
theorem iY (l:List UInt8):(chunks l).length≤l.length:=by
 induction h:l.length using Nat.strongRecOn generalizing l with
 | _ n ih=>
  cases l with
  | nil=>rw[iW];simp
  | cons a r=>
   subst h;by_cases h0:size (a::r)=0
   ·rw[qH h0];have:=ih r.length (by simp) r rfl;simp only[List.length_cons];omega
   ·rw[l9 h0];have hl:=size_le (a::r);have:=ih ((a::r).drop (size (a::r))).length (by simp only[List.length_drop,List.length_cons];omega) _ rfl;simp only[List.length_cons,List.length_drop] at this ⊢;omega
end bB
end
section
namespace bB
def sp (c:UInt8):Bool:=c.toNat == 9 || c.toNat == 10 || c.toNat == 12 || c.toNat == 13 || c.toNat == 32
def lo (c:UInt8):UInt8:=if 65≤c.toNat∧c.toNat≤90 then c+32 else c
def up (c:UInt8):UInt8:=if 97≤c.toNat∧c.toNat≤122 then c - 32 else c
end bB
end
section
open Go.RowKit
theorem Kk {a b:Bool} (h:a=b):Ending.returned (.bool a)=.returned (.bool b):=by rw[h]
theorem aa6 {a b:Int} (h:a=b):Ending.returned (.int .i64 a)=.returned (.int .i64 b):=by rw[h]
def oP (s:ByteArray) (i lo hi:Nat):Bool:=if h:i<s.size then decide (lo≤s[i].toNat) && decide (s[i].toNat≤hi) else false
theorem Fe (s:ByteArray) (i lo hi:Nat) (w:World):
  Calls Tryz.prog 134 #[.string s,.int .i64 i,.int .u8 lo,.int .u8 hi] w fun e w'=>e=.returned (.bool (oP s i lo hi))∧w=w':=by
 by_cases h:i<s.size
 ·have e:oP s i lo hi=(decide (lo≤s[i].toNat) && decide (s[i].toNat≤hi)):=dif_pos h;have HE:=zh e;clear e
  go_enter Tryz.func134,Tryz.ntmps134
  go_wp2
  all_goals go_ret
  all_goals refine⟨Kk ?_,rfl⟩
  all_goals rw[HE.out]
  all_goals simp[*]
 ·have e:oP s i lo hi=false:=dif_neg h;have HE:=zh e;clear e
  go_enter Tryz.func134,Tryz.ntmps134
  go_wp2
  all_goals go_ret
  all_goals exact⟨Kk HE.out.symm,rfl⟩
theorem WL (s:ByteArray) (i:Nat) (j lo hi:Int) (w:World) (hj:j=i) (h1:0≤lo) (h2:0≤hi):
  Calls Tryz.prog 134 #[.string s,.int .i64 j,.int .u8 lo,.int .u8 hi] w fun e w'=>e=.returned (.bool (oP s i lo.toNat hi.toNat))∧w=w':=by
 have:=Fe s i lo.toNat hi.toNat w;rw[Int.toNat_of_nonneg h1,Int.toNat_of_nonneg h2,←hj] at this;exact this
theorem Fg (s:ByteArray) (i lo hi:Nat) (j lo' hi':Int) (w:World) (hj:j=i) (h1:lo'=lo) (h2:hi'=hi):
  Calls Tryz.prog 134 #[.string s,.int .i64 j,.int .u8 lo',.int .u8 hi'] w fun e w'=>e=.returned (.bool (oP s i lo hi))∧w=w':=by
 subst hj h1 h2;exact Fe s i lo hi w
theorem LZ {s:ByteArray} {i lo hi:Nat} (h:oP s i lo hi=true):i<s.size:=by
 unfold oP at h
 split at h
 ·assumption
 ·cases h
def jF (s:ByteArray):Nat→Nat→Bool
 | _,0=>true
 | i,n+1=>oP s i 128 191 && jF s (i+1) n
theorem Nu {s:ByteArray} {i n k:Nat} (hk:k<n) (ht:jF s i n=jF s (i+k) (n - k)):jF s i n=(oP s (i+k) 128 191 && jF s (i+(k+1)) (n - (k+1))):=by
 rw[ht,show n - k=(n - (k+1))+1 from by omega];rfl
theorem Qi (s:ByteArray) (i n:Nat) (w:World) (hi:i≤281474976710656) (hn:n≤4):
  Calls Tryz.prog 135 #[.string s,.int .i64 i,.int .i64 n] w fun e w'=>e=.returned (.bool (jF s i n))∧w=w':=by
 go_enter Tryz.func135,Tryz.ntmps135
 go_wp2_with fail
 go_loop [7] (fun j=>∃ k:Nat,k≤n∧j=.int .i64 k∧jF s i n=jF s (i+k) (n - k)) (fun j=>n - (intOf j).toNat)
 case atStart=>exact⟨0,Nat.zero_le _,rfl,rfl⟩
 case round=>
  obtain⟨k,hk,rfl,ht⟩:=hrel;by_cases hlt:k<n
  ·have HT:=zh (Nu hlt ht);clear ht;cases hin:oP s (i+k) 128 191 with
   | false=>
    have HN:=zh hin;clear hin;go_wp2_with fail;refine (Fe s (i+k) 128 191 w).mono ?_;rintro e w' ⟨rfl,rfl⟩;rw[HN.out];go_wp2_with fail
    go_ret
    exact⟨Kk (by rw[HT.out,HN.out];rfl),rfl⟩
   | true=>
    have HN:=zh hin;clear hin;go_wp2_with fail;refine (Fe s (i+k) 128 191 w).mono ?_;rintro e w' ⟨rfl,rfl⟩;rw[HN.out];go_wp2_with fail
    go_round
    case rel=>exact⟨k+1,by omega,by go_num,by rw[HT.out,HN.out];rfl⟩
    case measure=>simp[intOf];omega
  ·have ek:k=n:=by omega
   have HT:=zh ht;subst ek;clear ht;go_wp2_with fail
   go_ret
   exact⟨Kk (by rw[HT.out,Nat.sub_self];rfl),rfl⟩
theorem Bn (s:ByteArray) (i n:Nat) (j n':Int) (w:World) (hj:j=i) (h1:n'=n) (hi:i≤281474976710656) (hn:n≤4):
  Calls Tryz.prog 135 #[.string s,.int .i64 j,.int .i64 n'] w fun e w'=>e=.returned (.bool (jF s i n))∧w=w':=by
 subst hj h1;exact Qi s i n w hi hn
def wC (s:ByteArray) (i:Nat):Bool:=if h:i+1<s.size then bB.snd s[i] s[i+1] else false
theorem Qj (s:ByteArray) (i lo hi:Nat) (h0:i<s.size) (h:∀ b:UInt8,bB.snd s[i] b=(decide (lo≤b.toNat) && decide (b.toNat≤hi))):oP s (i+1) lo hi=wC s i:=by
 unfold oP wC;by_cases h1:i+1<s.size
 ·rw[dif_pos h1,dif_pos h1,h]
 ·rw[dif_neg h1,dif_neg h1]
theorem Kl (s:ByteArray) (i:Nat) (w:World) (hi:i<s.size) (hs:s.size≤281474976710656):
  Calls Tryz.prog 136 #[.string s,.int .i64 i] w fun e w'=>e=.returned (.bool (wC s i))∧w=w':=by
 have HS:=zh (Qj s i)
 go_enter Tryz.func136,Tryz.ntmps136
 go_wp2_with fail;all_goals refine (WL s (i+1) _ _ _ w (by omega) (by decide) (by decide)).mono ?_
 all_goals rintro e w' ⟨rfl,rfl⟩
 all_goals go_wp2_with fail
 all_goals go_ret
 all_goals refine⟨Kk (HS.out _ _ hi fun b=>?_),rfl⟩
 all_goals simp only[beq_iff_eq,beq_eq_false_iff_ne,ne_eq] at*
 all_goals unfold bB.snd bB.cont
 all_goals repeat' split
 all_goals first | rfl | omega
theorem Km (c:UInt8) (w:World):
  Calls Tryz.prog 154 #[.int .u8 c.toNat] w fun e w'=>e=.returned (.bool (bB.sp c))∧w=w':=by
 go_enter Tryz.func154,Tryz.ntmps154
 go_wp2
 all_goals go_ret
 all_goals refine⟨Kk ?_,rfl⟩
 all_goals unfold bB.sp
 all_goals rw[Bool.eq_iff_iff]
 all_goals simp
 all_goals omega
theorem wD (c:UInt8) (w:World):
  Calls Tryz.prog 154 #[.int .u8 c.toNat] w fun e w'=>e=.returned (.bool (bB.sp c))∧Below w.heap.size w w':=by
 refine (Km c w).mono ?_;rintro e w2 ⟨rfl,rfl⟩;exact⟨rfl,Below.refl _ _⟩
end
section
open Go Go.RowKit
def Lit (w:World):Prop:=Lib.Utf8Tabs 0 1 w
theorem Bo {w w':World} {a:Addr} {v:Value} (h:w.cell? a=some v) (hb:Below w.heap.size w w'):w'.cell? a=some v:=(hb.cell (World.block_lt_of_cell? w a h)).trans h
theorem Lit.below {w w':World} (h:Lit w) (hb:Below w.heap.size w w'):Lit w':=
 ⟨fun c hc=>Bo (h.1 c hc) hb,fun i hi=>⟨Bo (h.2 i hi).1 hb,Bo (h.2 i hi).2 hb⟩⟩
end
section
namespace bB
def DX (l : List UInt8) (k : Nat) : Nat := (l.getD k 0).toNat
def step (l : List UInt8) : Nat × Nat := Lib.decodeN l.length (DX l 0) (DX l 1) (DX l 2) (DX l 3)
theorem Fh {a b : UInt8} (h : snd a b = true) : 128 ≤ b.toNat ∧ b.toNat ≤ 191 := by
 have := Qg h;simpa [cont] using this
theorem zB {a b : UInt8} (h : snd a b = true) : (a.toNat = 224 → 160 ≤ b.toNat) ∧ (a.toNat = 237 → b.toNat ≤ 159) ∧ (a.toNat = 240 → 144 ≤ b.toNat) ∧ (a.toNat = 244 → b.toNat ≤ 143) := by
 unfold snd at h;refine ⟨fun e => ?_, fun e => ?_, fun e => ?_, fun e => ?_⟩ <;> simp [e] at h <;> omega
theorem Qk {a b : UInt8} (h : 128 ≤ b.toNat ∧ b.toNat ≤ 191) (h1 : a.toNat = 224 → 160 ≤ b.toNat) (h2 : a.toNat = 237 → b.toNat ≤ 159) (h3 : a.toNat = 240 → 144 ≤ b.toNat) (h4 : a.toNat = 244 → b.toNat ≤ 143) : snd a b = true := by
 unfold snd cont
 repeat' split
 all_goals (simp; omega)
theorem jK (b : UInt8) : cont b = true ↔ 128 ≤ b.toNat ∧ b.toNat ≤ 191 := by simp [cont]
theorem nk {a b : UInt8} {l m : List UInt8} (h : a = b) (h2 : l = m) : a :: l = b :: m := by rw [h, h2]
theorem byte_of (x : Int) (b : UInt8) (h : x = b.toNat) : x.toNat.toUInt8 = b := by
 subst h;simp
theorem Hq (a : UInt8) (r : List UInt8) (h : a.toNat ≤ 127) : step (a :: r) = (a.toNat, 1) := by
 have : a.toNat < 128 := by omega
 simp [step, DX, Lib.decodeN, this]
theorem Hr (a b : UInt8) (r : List UInt8) (h1 : 194 ≤ a.toNat) (h2 : a.toNat ≤ 223) (h3 : cont b = true) : step (a :: b :: r) = (a.toNat % 32 * 64 + b.toNat % 64, 2) := by
 rw [jK] at h3;have e1 : ¬ a.toNat < 128 := by omega
 have e2 : a.toNat / 32 = 6 ∧ 1 < (a :: b :: r).length ∧ b.toNat / 64 = 2 := ⟨by omega, by simp, by omega⟩
 have e3 : a.toNat % 32 * 64 + b.toNat % 64 ≥ 128 := by omega
 show Lib.decodeN _ a.toNat b.toNat _ _ = _;unfold Lib.decodeN;rw [if_neg e1, if_pos e2, if_pos e3]
theorem Bp (a b c : UInt8) (r : List UInt8) (h1 : 224 ≤ a.toNat) (h2 : a.toNat ≤ 239) (h3 : snd a b = true) (h4 : cont c = true) :
  step (a :: b :: c :: r) = (a.toNat % 16 * 4096 + b.toNat % 64 * 64 + c.toNat % 64, 3) := by
 rw [jK] at h4;have hb := Fh h3;have hm := zB h3;have e1 : ¬ a.toNat < 128 := by omega
 have e2 : ¬ (a.toNat / 32 = 6 ∧ 1 < (a :: b :: c :: r).length ∧ b.toNat / 64 = 2) := fun h => by omega
 have e3 : a.toNat / 16 = 14 ∧ (1 < (a :: b :: c :: r).length ∧ b.toNat / 64 = 2) ∧ (2 < (a :: b :: c :: r).length ∧ c.toNat / 64 = 2) := ⟨by omega, ⟨by simp, by omega⟩, by simp, by omega⟩
 show Lib.decodeN _ a.toNat b.toNat c.toNat _ = _;unfold Lib.decodeN;rw [if_neg e1, if_neg e2, if_pos e3, if_pos (by omega)]
theorem DY (a b c d : UInt8) (r : List UInt8) (h1 : 240 ≤ a.toNat) (h2 : a.toNat ≤ 244) (h3 : snd a b = true) (h4 : cont c = true) (h5 : cont d = true) :
  step (a :: b :: c :: d :: r) = (a.toNat % 8 * 262144 + b.toNat % 64 * 4096 + c.toNat % 64 * 64 + d.toNat % 64, 4) := by
 rw [jK] at h4 h5;have hb := Fh h3;have hm := zB h3;have e1 : ¬ a.toNat < 128 := by omega
 have e2 : ¬ (a.toNat / 32 = 6 ∧ 1 < (a :: b :: c :: d :: r).length ∧ b.toNat / 64 = 2) := fun h => by omega
 have e3 : ¬ (a.toNat / 16 = 14 ∧ (1 < (a :: b :: c :: d :: r).length ∧ b.toNat / 64 = 2) ∧ (2 < (a :: b :: c :: d :: r).length ∧ c.toNat / 64 = 2)) := fun h => by omega
 have e4 : a.toNat / 8 = 30 ∧ (1 < (a :: b :: c :: d :: r).length ∧ b.toNat / 64 = 2) ∧ (2 < (a :: b :: c :: d :: r).length ∧ c.toNat / 64 = 2) ∧ (3 < (a :: b :: c :: d :: r).length ∧ d.toNat / 64 = 2) :=
  ⟨by omega, ⟨by simp, by omega⟩, ⟨by simp, by omega⟩, by simp, by omega⟩
 show Lib.decodeN _ a.toNat b.toNat c.toNat d.toNat = _;unfold Lib.decodeN;rw [if_neg e1, if_neg e2, if_neg e3, if_pos e4, if_pos (by omega)]
theorem kG {l : List UInt8} {n : Nat} (h : Begins l n) : (step l).2 = n ∧ Lib.encodeRune ((step l).1 : Nat) = l.take n ∧ (n = 1 → (step l).1 < 128) := by
 cases h with
 | one a r h =>
  rw [Hq a r h];refine ⟨rfl, ?_, fun _ => by show a.toNat < 128; omega⟩;show (Lib.encodeRuneZ (a.toNat : Nat)).map _ = [a]
  rw [Lib.encodeRuneZ_one (by omega) (by omega)];simp
 | two a b r h1 h2 h3 =>
  rw [Hr a b r h1 h2 h3];rw [jK] at h3;refine ⟨rfl, ?_, fun e => by omega⟩;show (Lib.encodeRuneZ ((a.toNat % 32 * 64 + b.toNat % 64 : Nat) : Int)).map _ = [a, b]
  rw [Lib.encodeRuneZ_two (by omega) (by omega)];exact nk (byte_of _ a (by omega)) (nk (byte_of _ b (by omega)) rfl)
 | three a b c r h1 h2 h3 h4 =>
  rw [Bp a b c r h1 h2 h3 h4];rw [jK] at h4;have hb := Fh h3;have hm := zB h3;refine ⟨rfl, ?_, fun e => by omega⟩;show (Lib.encodeRuneZ ((a.toNat % 16 * 4096 + b.toNat % 64 * 64 + c.toNat % 64 : Nat) : Int)).map _ = [a, b, c]
  rw [Lib.encodeRuneZ_three (by omega)];exact nk (byte_of _ a (by omega)) (nk (byte_of _ b (by omega)) (nk (byte_of _ c (by omega)) rfl))
 | four a b c d r h1 h2 h3 h4 h5 =>
  rw [DY a b c d r h1 h2 h3 h4 h5];rw [jK] at h4 h5;have hb := Fh h3;have hm := zB h3;refine ⟨rfl, ?_, fun e => by omega⟩;show (Lib.encodeRuneZ ((a.toNat % 8 * 262144 + b.toNat % 64 * 4096 + c.toNat % 64 * 64 + d.toNat % 64 : Nat) : Int)).map _ = [a, b, c, d]
  rw [Lib.encodeRuneZ_four (by omega) (by omega)];exact nk (byte_of _ a (by omega)) (nk (byte_of _ b (by omega)) (nk (byte_of _ c (by omega)) (nk (byte_of _ d (by omega)) rfl)))
theorem wE {l : List UInt8} (hne : l ≠ []) (h : size l = 0) : step l = (65533, 1) := by
 have no : ∀ n, ¬ Begins l n := fun n hb => by have := iq hb; have := hb.fC; omega
 unfold step Lib.decodeN
 match l, hne with
 | a :: r, _ =>
 have ha : DX (a :: r) 0 = a.toNat := rfl;have abW := a.toNat_lt;by_cases e1 : a.toNat < 128
 ·exact absurd (.one a r (by omega)) (no 1)
 rw [ha, if_neg e1];by_cases e2 : a.toNat / 32 = 6 ∧ (1 < (a :: r).length ∧ DX (a :: r) 1 / 64 = 2)
 ·rw [if_pos e2]
  match r, e2 with
  | b :: r, e2 =>
   have hb : DX (a :: b :: r) 1 = b.toNat := rfl;rw [hb] at e2 ⊢;have hb2 := b.toNat_lt;by_cases e3 : a.toNat % 32 * 64 + b.toNat % 64 ≥ 128
   ·exact absurd (.two a b r (by omega) (by omega) ((jK b).2 (by omega))) (no 2)
   ·rw [if_neg e3]
  | [], e2 => exact absurd e2.2.1 (by simp)
 rw [if_neg e2];by_cases e3 : a.toNat / 16 = 14 ∧ (1 < (a :: r).length ∧ DX (a :: r) 1 / 64 = 2) ∧ (2 < (a :: r).length ∧ DX (a :: r) 2 / 64 = 2)
 ·rw [if_pos e3]
  match r, e3 with
  | b :: c :: r, e3 =>
   have hb : DX (a :: b :: c :: r) 1 = b.toNat := rfl;have hc : DX (a :: b :: c :: r) 2 = c.toNat := rfl;rw [hb, hc] at e3 ⊢;have hb2 := b.toNat_lt;have hc2 := c.toNat_lt
   split
   ·rename_i e4;exact absurd (.three a b c r (by omega) (by omega) (Qk (by omega) (by omega) (by omega) (by omega) (by omega)) ((jK c).2 (by omega))) (no 3)
   ·rfl
  | [_], e3 => exact absurd e3.2.2.1 (by simp)
  | [], e3 => exact absurd e3.2.1.1 (by simp)
 rw [if_neg e3];by_cases e4 : a.toNat / 8 = 30 ∧ (1 < (a :: r).length ∧ DX (a :: r) 1 / 64 = 2) ∧ (2 < (a :: r).length ∧ DX (a :: r) 2 / 64 = 2) ∧ (3 < (a :: r).length ∧ DX (a :: r) 3 / 64 = 2)
 ·rw [if_pos e4]
  match r, e4 with
  | b :: c :: d :: r, e4 =>
   have hb : DX (a :: b :: c :: d :: r) 1 = b.toNat := rfl;have hc : DX (a :: b :: c :: d :: r) 2 = c.toNat := rfl;have hd : DX (a :: b :: c :: d :: r) 3 = d.toNat := rfl;rw [hb, hc, hd] at e4 ⊢;have hb2 := b.toNat_lt;have hc2 := c.toNat_lt;have hd2 := d.toNat_lt
   split
   ·rename_i e5;exact absurd (.four a b c d r (by omega) (by omega) (Qk (by omega) (by omega) (by omega) (by omega) (by omega)) ((jK c).2 (by omega)) ((jK d).2 (by omega))) (no 4)
   ·rfl
  | [_, _], e4 => exact absurd e4.2.2.2.1 (by simp)
  | [_], e4 => exact absurd e4.2.2.1.1 (by simp)
  | [], e4 => exact absurd e4.2.1.1 (by simp)
 rw [if_neg e4]
theorem SX : Lib.encodeRune ((65533 : Nat) : Int) = bad := by decide
theorem yJ {l : List UInt8} (hne : l ≠ []) : chunks l = Lib.encodeRune ((step l).1 : Nat) :: chunks (l.drop (step l).2) := by
 by_cases h : size l = 0
 ·rw [wE hne h, SX]
  match l, hne with
  | a :: r, _ => exact qH h
 ·have hb := lM h;obtain ⟨h1, h2, _⟩ := kG hb;rw [h1, h2];exact l9 h
theorem Bq {l : List UInt8} (hne : l ≠ []) : 1 ≤ (step l).2 ∧ (step l).2 ≤ l.length := by
 have hl : 1 ≤ l.length := List.length_pos_iff.2 hne;by_cases h : size l = 0
 ·rw [wE hne h]; exact ⟨Nat.le_refl _, hl⟩
 ·have hb := lM h;obtain ⟨h1, _, _⟩ := kG hb;rw [h1]; exact ⟨hb.fC.1, hb.le⟩
theorem aa7 (s : ByteArray) (k : Nat) : s.get! k = s.data.toList.getD k 0 := by
 cases s with
 | mk d =>
  show d[k]! = _;by_cases h : k < d.size
  ·rw [getElem!_pos d k h, List.getD_eq_getElem?_getD];simp [h]
  ·rw [getElem!_neg d k h, List.getD_eq_getElem?_getD];simp [h];rfl
theorem oC (s : ByteArray) (pos : Nat) : Utf8.decode s pos = step (s.data.toList.drop pos) := by
 rw [Lib.decode_at];have hk : ∀ k, (s.get! (pos + k)).toNat = DX (s.data.toList.drop pos) k := by
  intro k;rw [aa7];simp [DX, List.getD_eq_getElem?_getD]
 have h0 := hk 0;rw [Nat.add_zero] at h0;rw [h0, hk 1, hk 2, hk 3];unfold step;congr 1;rw [List.length_drop]; rfl
theorem runeCountFrom_eq (s : ByteArray) : ∀ fuel pos, s.size ≤ pos + fuel → Lib.runeCountFrom s fuel pos = (chunks (s.data.toList.drop pos)).length
 | 0, pos, h => by
  have : s.data.toList.drop pos = [] := List.drop_eq_nil_of_le (by show s.size ≤ _; omega);rw [this, iW]; rfl
 | f + 1, pos, h => by
  unfold Lib.runeCountFrom;by_cases hp : pos < s.size
  ·have hne : s.data.toList.drop pos ≠ [] := fun e => by have h2 : s.size ≤ pos := List.drop_eq_nil_iff.1 e; omega
   have hw := Bq hne;rw [if_pos hp, yJ hne, oC, runeCountFrom_eq s f _ (by omega), List.drop_drop];simp only [List.length_cons];omega
  ·have : s.data.toList.drop pos = [] := List.drop_eq_nil_of_le (by show s.size ≤ _; omega);rw [if_neg hp, this, iW]; rfl
theorem runeCount_eq (s : ByteArray) : Lib.runeCount s = (chunks s.data.toList).length := by
 have := runeCountFrom_eq s s.size 0 (by omega)
 rwa [List.drop_zero] at this
theorem WM {l : List UInt8} (hne : l ≠ []) (h : size l = 0) : rep l ≠ l := by
 match l, hne with
 | a :: r, _ =>
  rw [Fb h];intro e;simp only [bad, List.cons_append, List.nil_append, List.cons.injEq] at e;obtain ⟨e0, e⟩ := e;generalize rep r = t at e;subst e0 e;have h3 : size (239 :: 191 :: 189 :: t) = 3 := iq (Bj t);omega
theorem Fj (l : List UInt8) : Lib.decodeL l = step l := by
 unfold Lib.decodeL;rw [oC];rfl
theorem Nv (l : List UInt8) : Lib.validD l = decide (rep l = l) := by
 induction hn : l.length using Nat.strongRecOn generalizing l with
 | _ n ih =>
  by_cases hne : l = []
  ·subst hne; rw [tN]; rfl
  ·rw [Lib.validD_step l hne, Fj];by_cases h : size l = 0
   ·rw [wE hne h, if_pos ⟨rfl, rfl⟩, decide_eq_false (WM hne h)]
   ·have hb := lM h;obtain ⟨h1, h2, h3⟩ := kG hb;have hw := hb.fC;have hle := hb.le;rw [if_neg (fun e => by have := h3 (by omega); omega), h1, ih (l.drop (size l)).length (by rw [List.length_drop]; omega) _ rfl, Bl h];congr 1
    conv => rhs; rhs; rw [← List.take_append_drop (size l) l]
    rw [List.append_cancel_left_eq]
end bB
end
section
open Go Go.RowKit
def code:List UInt8→Nat
 | [a]=>a.toNat
 | [a,b]=>a.toNat % 32*64+b.toNat % 64
 | [a,b,c]=>a.toNat % 16*4096+b.toNat % 64*64+c.toNat % 64
 | [a,b,c,d]=>a.toNat % 8*262144+b.toNat % 64*4096+c.toNat % 64*64+d.toNat % 64
 | _=>0
def seg (cs:List (List UInt8)) (a t:Nat):List (List UInt8):=(cs.take t).drop a
theorem nG (cs:List (List UInt8)) (a t:Nat) (h:t≤a):seg cs a t=[]:=by
 unfold seg;exact List.drop_eq_nil_of_le (by rw[List.length_take];omega)
theorem Ht (cs:List (List UInt8)) (a k:Nat) (h:a≤k) (hk:k<cs.length):seg cs a (k+1)=seg cs a k++[cs.getD k []]:=by
 unfold seg;rw[List.take_succ_eq_append_getElem hk,List.drop_append_of_le_length (by rw[List.length_take];omega)];simp[List.getD,hk]
theorem L6 (cs:List (List UInt8)) (a k t:Nat) (h:cs.length≤k) (ht:cs.length≤t):seg cs a k=seg cs a t:=by
 unfold seg;rw[List.take_of_length_le h,List.take_of_length_le ht]
theorem zu (cs:List (List UInt8)) (a t:Nat):(seg cs a t).flatten.length≤cs.flatten.length:=by
 unfold seg;have h1:=congrArg (fun l:List (List UInt8)=>l.flatten.length) (List.take_append_drop a (cs.take t));have h2:=congrArg (fun l:List (List UInt8)=>l.flatten.length) (List.take_append_drop t cs);simp only[List.flatten_append,List.length_append] at h1 h2;omega
def enum (cs:List (List UInt8)):List (Nat×List UInt8):=(List.range cs.length).map fun i=>(i,cs.getD i [])
theorem mh (cs:List (List UInt8)):(enum cs).length=cs.length:=by simp[enum]
abbrev WO (x:Nat×List UInt8):Array Value:=#[.int .i64 (x.1:Nat),.int .i32 (code x.2:Nat)]
theorem SY (l:List UInt8):code l<2097152:=by
 unfold code
 split
 ·rename_i a;have:=a.toNat_lt;omega
 ·omega
 ·omega
 ·omega
 ·omega
theorem xE (cs:List (List UInt8)) (k:Nat):(enum cs).take k <+: enum cs:=List.take_prefix _ _
theorem drop_cons {cs:List (List UInt8)} {k:Nat} {c:List UInt8} {r:List (List UInt8)} (h:cs.drop k=c::r):
  k<cs.length∧cs.getD k []=c∧cs.drop (k+1)=r∧(enum cs).take (k+1)=(enum cs).take k++[(k,c)]:=by
 have hk:k<cs.length:=by
  have:=congrArg List.length h;rw[List.length_drop,List.length_cons] at this;omega
 rw[List.drop_eq_getElem_cons hk,List.cons.injEq] at h;have hc:cs.getD k []=c:=by simp[List.getD,hk,h.1]
 refine⟨hk,hc,h.2,?_⟩;have hke:k<(enum cs).length:=by rw[mh];exact hk
 rw[List.take_succ_eq_append_getElem hke];simp[enum,hk,h.1]
theorem DZ {l:List UInt8} (hne:l≠[]):code (Lib.encodeRune ((bB.step l).1:Nat))=(bB.step l).1:=by
 by_cases h:bB.size l=0
 ·rw[bB.wE hne h];decide
 ·have hb:=bB.lM h;rw[(bB.kG hb).2.1];generalize bB.size l=n at hb;cases hb with
  | one a r h'=>rw[bB.Hq a r h'];rfl
  | two a b r h1 h2 h3=>rw[bB.Hr a b r h1 h2 h3];rfl
  | three a b c r h1 h2 h3 h4=>rw[bB.Bp a b c r h1 h2 h3 h4];rfl
  | four a b c d r h1 h2 h3 h4 h5=>rw[bB.DY a b c d r h1 h2 h3 h4 h5];rfl
theorem Nw {c:List UInt8} (h:bB.Good c):Lib.encodeRune ((code c:Nat):Int)=c:=by
 have hs:=(bB.kG h).2.1;rw[List.take_length] at hs;have hne:c≠[]:=fun e=>by subst e;have:=h.fC.1;simp at this
 have h2:=DZ hne;rw[hs] at h2;rw[h2,hs]
theorem Kn {c:List UInt8} (h:bB.Good c):Lib.runeCells ((code c:Nat):Int)=Lib.byteCells c:=by
 rw[←Lib.byteCells_encodeRune,Nw h]
end
section
open Go.RowKit Go.Shelf
attribute [local go_sem] Oper.semAt_some
def Keep (m:Nat) (W W':World):Prop:=W.heap.size≤W'.heap.size∧∀ k o,W.heap[k]?=some o→k≠m→(o.isWalk=true∨∃ c t fz,t≠5∧o=.cells c t fz)→W'.heap[k]?=some o
theorem Keep.trans {m:Nat} {A B C:World} (h:Keep m A B) (k:Keep m B C):Keep m A C:=
 ⟨Nat.le_trans h.1 k.1,fun i o hi hm ho=>k.2 i o (h.2 i o hi hm ho) hm ho⟩
theorem Keep.put {m:Nat} {w:World} (W:World) (l:Nat) (o o':Obj) (_:w.heap.size≤l) (hl:W.heap[l]?=some o) (hc:o.isCells=false) (hw:o.isWalk=false):Keep m W (W.putObj l o'):=by
 have h:=grownBy_putObj' W l o';refine⟨h.size,fun k x hk _ hx=>?_⟩;by_cases e:k=l
 ·subst e;rw[hl] at hk;obtain rfl:=Option.some.inj hk;rcases hx with hx | ⟨c,t,fz,_,rfl⟩
  ·rw[hw] at hx;cases hx
  ·cases hc
 ·rw[World.putObj_heap_other e];exact hk
theorem Keep.of {m:Nat} {W W':World} (h:Lib.OthersKept 5 (some m) W W') (hs:W.heap.size≤W'.heap.size):Keep m W W':=
 ⟨hs,fun k o hk hm ho=>h k o hk (fun e=>hm (Option.some.inj e)) (fun c fz e=>by
  rcases ho with ho | ⟨c',t,fz',ht,rfl⟩
  ·subst e;cases ho
  ·cases e;exact ht rfl)⟩
theorem Ko (s:ByteArray) (hs:s.size≤20000) (l Bs m:Nat) (hm:m<Bs) (J Jx:List (Nat×List UInt8)→World→Prop) (W:World) (RH:W.heap[Bs]?=some (.cells #[.string s] 9 (0,0)))
  (hJ:AbidesFrom W.heap.size J)
  (hY:∀ pre x W1,J pre W1→pre.length<(bB.chunks s.data.toList).length→YieldAt Fence.wide (4 - 1) Tryz.prog l (WO x) W1 fun e W'=>
   (e=.returned (.bool true)∧J (pre++[x]) W'∧Keep m W1 W')∨(e=.returned (.bool false)∧Jx (pre++[x]) W'))
  (h0:J [] W):
  CallsIn Fence.wide 4 Tryz.prog 151 #[.func (.yield l) #[] #[],.pointer (some ⟨Bs,0,none⟩)] W fun e W'=>(∃ v,e=.returned v)∧
   ((∃ xs,xs=enum (bB.chunks s.data.toList)∧J xs W')∨(∃ pre,pre <+: enum (bB.chunks s.data.toList)∧Jx pre W')):=by
 have hcell:W.cell? ⟨Bs,0,none⟩=some (.string s):=cell_of_row W Bs 0 _ _ _ RH;have hBl:Bs<W.heap.size:=(Array.getElem?_eq_some_iff.1 RH).1;have hll:s.data.toList.length=s.size:=rfl;obtain⟨cs,hcs⟩:=eX (bB.chunks s.data.toList)
 have hcl:=bB.iY s.data.toList;rw[hcs] at hY hcl ⊢;refine callsIn_of_wp Tryz.func151 rfl trivial ?_ rfl;simp only[Tryz.ntmps151,pT,Nat.reduceAdd,Nat.reduceSub]
 gi_wp2
 gi_loopw [3] (fun i wr=>∃ (pos k:Nat),i=.int .i64 k∧k≤20000∧cs.drop k=bB.chunks (s.data.toList.drop pos)∧wr.heap[W.heap.size]?=some (.stringIter s pos)∧J ((enum cs).take k) wr)
  (fun _ wr=>s.size - wr.iterPos W.heap.size)
 case atStart=>
  refine⟨0,0,rfl,Nat.zero_le _,by rw[List.drop_zero,List.drop_zero,hcs],World.iter_heap W s 0,?_⟩;exact hJ _ _ _ none h0 (World.grownBy_alloc W _ none) (fun r e=>by cases e)
 case round=>
  obtain⟨pos,k,rfl,hk,hdr,hit,hJs⟩:=hrel;by_cases hp:pos<s.size
  ·have hne:s.data.toList.drop pos≠[]:=fun e=>by have h2:s.size≤pos:=List.drop_eq_nil_iff.1 e;omega
   have hw:=bB.Bq hne;have hcode:=DZ hne;have hst:=bB.yJ hne;have hdec:=bB.oC s pos;rw[List.drop_drop] at hst;obtain⟨n,hn⟩:=eX ((bB.step (s.data.toList.drop pos)).2)
   obtain⟨c,hc⟩:=eX (Lib.encodeRune ((bB.step (s.data.toList.drop pos)).1:Nat))
   rw[hc] at hcode hst;rw[hn] at hst hw;rw[hst] at hdr;obtain⟨hk2,_,aa8,htk⟩:=drop_cons hdr;have hnx:∀ ty,(Instr.next (.pointer (some ⟨W.heap.size,0,none⟩)) true ty).run Tryz.prog wr=_:=fun ty=>Lib.run_next_any_at wr W.heap.size s pos ty hit hp;rw[hdec,←hcode,hn] at hnx;have hit2:=Lib.iterAt_heap wr W.heap.size s pos (pos+n) hit;have hJ2:J ((enum cs).take k) (wr.iterAt W.heap.size s (pos+n)):=hJ _ wr _ (some W.heap.size) hJs (grownBy_putObj' wr W.heap.size (.stringIter s (pos+n))) (fun r e=>by cases e;exact⟨Nat.le_refl _,_,hit,rfl⟩);obtain⟨fn,tmps,assign,body,hy,hR⟩:=hY _ (k,c) _ hJ2 (by rw[List.length_take,mh];omega);dsimp only[WO] at hy;rw[←htk] at hR;have hip:s.size - wr.iterPos W.heap.size=s.size - pos:=by simp only[World.iterPos,hit]
   clear hdec hcode hst hY
   gi_wp2
   refine hR.mono ?_;rintro e W3 (⟨rfl,hJ3,hk3⟩ | ⟨rfl,hJx3⟩)
   ·have hit3:=hk3.2 W.heap.size _ hit2 (by omega) (.inl rfl)
    gi_wp2
    go_roundw
    case rel=>exact⟨pos+n,k+1,by go_num,by omega,aa8,hit3,hJ3⟩
    case measure=>
     rw[hip];simp only[World.iterPos,hit3];omega
   ·gi_wp2
    refine bodyPost_ret (results_none rfl _ _ _) rfl ?_;exact⟨⟨_,rfl⟩,.inr ⟨_,xE cs (k+1),hJx3⟩⟩
  ·have hd:s.data.toList.drop pos=[]:=List.drop_eq_nil_of_le (by omega);rw[hd,bB.iW] at hdr;have hkl:cs.length≤k:=List.drop_eq_nil_iff.1 hdr;rw[List.take_of_length_le (by rw[mh];exact hkl)] at hJs;have hnx:∀ ty,(Instr.next (.pointer (some ⟨W.heap.size,0,none⟩)) true ty).run Tryz.prog wr=_:=fun ty=>Lib.run_next_end_at wr W.heap.size s pos ty hit hp
   gi_wp2
   go_end0
   exact⟨⟨_,rfl⟩,.inl ⟨_,rfl,hJs⟩⟩
theorem Hu (s:ByteArray) (w:World) (hs:s.size≤20000):
  Calls Tryz.prog 112 #[.string s] w fun e w'=>∃ lb,e=.returned (.func (.func 151) #[] lb)∧w'=w.alloc (.cells #[.string s] 9)∧
   ∀ m,m<w.heap.size→SeqStopsK Fence.wide 4 Tryz.prog 151 lb WO (Keep m) (fun xs=>xs=enum (bB.chunks s.data.toList)) (fun pre=>pre <+: enum (bB.chunks s.data.toList)) (bB.chunks s.data.toList).length w':=by
 go_enter Tryz.func112,Tryz.ntmps112
 go_wp2
 go_ret
 refine⟨_,rfl,rfl,fun m hm l J Jx W hW hJ hJx hY h0=>?_⟩;exact Ko s hs l w.heap.size m hm J Jx W ((hW.block _ (by simp)).trans (World.alloc_heap_new w _)) hJ hY h0
end
section
open Go.RowKit
theorem drop_at (s:ByteArray) (k:Nat) (h:k<s.size):s.data.toList.drop k=s[k]::s.data.toList.drop (k+1):=by
 rw[List.drop_eq_getElem_cons (by simpa using h)];rfl
theorem rU (s:ByteArray) (k:Nat) (h:¬ k<s.size):s.data.toList.drop k=[]:=List.drop_eq_nil_of_le (by simp only[Array.length_toList];exact Nat.le_of_not_lt h)
theorem S9 (a x y z:Nat) (t:Bool):
  (if a≤127 then 1 else if 194≤a∧a≤223 then (if 128≤x∧x≤191 then 2 else 0) else if 224≤a∧a≤239 then (if t=true∧128≤y∧y≤191 then 3 else 0) else if 240≤a∧a≤244 then (if (t=true∧128≤y∧y≤191)∧128≤z∧z≤191 then 4 else 0) else 0)=
  (if a≤127 then 1 else if (194≤a∧a≤223)∧128≤x∧x≤191 then 2 else if ((224≤a∧a≤239)∧t=true)∧128≤y∧y≤191 then 3 else if ((240≤a∧a≤244)∧t=true)∧(128≤y∧y≤191)∧128≤z∧z≤191 then 4 else 0):=by
 cases t<;>(simp only[true_and,and_true,false_and,and_false,if_false,reduceCtorEq];repeat' split)<;>omega
theorem Ql (a x y:Nat) (t:Bool):
  (if a≤127 then 1 else if 194≤a∧a≤223 then (if 128≤x∧x≤191 then 2 else 0) else if 224≤a∧a≤239 then (if t=true∧128≤y∧y≤191 then 3 else 0) else 0)=
  (if a≤127 then 1 else if (194≤a∧a≤223)∧128≤x∧x≤191 then 2 else if ((224≤a∧a≤239)∧t=true)∧128≤y∧y≤191 then 3 else 0):=by
 cases t<;>(simp only[true_and,and_true,false_and,and_false,if_false,reduceCtorEq];repeat' split)<;>omega
theorem Qm (a x:Nat):
  (if a≤127 then 1 else if 194≤a∧a≤223 then (if 128≤x∧x≤191 then 2 else 0) else 0)=(if a≤127 then 1 else if (194≤a∧a≤223)∧128≤x∧x≤191 then 2 else 0):=by
 repeat' split
 all_goals omega
theorem Ny (s:ByteArray) (i:Nat):bB.size (s.data.toList.drop i)=
  if oP s i 0 127 then 1 else if oP s i 194 223 && jF s (i+1) 1 then 2 else if oP s i 224 239 && wC s i && jF s (i+2) 1 then 3 else if oP s i 240 244 && wC s i && jF s (i+2) 2 then 4 else 0:=by
 by_cases h0:i<s.size
 ·rw[drop_at s i h0];by_cases h1:i+1<s.size
  ·rw[drop_at s _ h1];by_cases h2:i+2<s.size
   ·rw[drop_at s _ h2];by_cases h3:i+3<s.size
    ·rw[drop_at s _ h3];simp[bB.size,oP,jF,wC,bB.cont,h0,h1,h2,h3];exact S9 _ _ _ _ _
    ·rw[rU s _ h3];simp[bB.size,oP,jF,wC,bB.cont,h0,h1,h2,h3];exact Ql _ _ _ _
   ·have h3:¬ i+3<s.size:=by omega
    rw[rU s _ h2];simp[bB.size,oP,jF,wC,bB.cont,h0,h1,h2,h3];exact Qm _ _
  ·have h2:¬ i+2<s.size:=by omega
   have h3:¬ i+3<s.size:=by omega
   rw[rU s _ h1];simp[bB.size,oP,jF,wC,h0,h1,h2,h3]
 ·rw[rU s i h0];simp[bB.size,oP,h0]
theorem Br (s:ByteArray) (i:Nat) (w:World) (hs:s.size≤140737488351232) (hi:i≤s.size):
  Calls Tryz.prog 99 #[.string s,.int .i64 i] w fun e w'=>e=.returned (.int .i64 (bB.size (s.data.toList.drop i):Nat))∧w=w':=by
 have HS:=zh (Ny s i)
 go_enter Tryz.func99,Tryz.ntmps99
 go_wp2_with fail;iterate 10 all_goals try first
  | (refine (Fg s i 0 127 _ _ _ w rfl (by decide) (by decide)).mono ?_;rintro e w9 ⟨rfl,rfl⟩;go_wp2_with fail)
  | (refine (Fg s i 194 223 _ _ _ w rfl (by decide) (by decide)).mono ?_;rintro e w9 ⟨rfl,rfl⟩;go_wp2_with fail)
  | (refine (Fg s i 224 239 _ _ _ w rfl (by decide) (by decide)).mono ?_;rintro e w9 ⟨rfl,rfl⟩;go_wp2_with fail)
  | (refine (Fg s i 240 244 _ _ _ w rfl (by decide) (by decide)).mono ?_;rintro e w9 ⟨rfl,rfl⟩;go_wp2_with fail)
  | (refine (Bn s (i+1) 1 _ _ w (by omega) (by decide) (by omega) (by decide)).mono ?_;rintro e w9 ⟨rfl,rfl⟩;go_wp2_with fail)
  | (refine (Bn s (i+2) 1 _ _ w (by omega) (by decide) (by omega) (by decide)).mono ?_;rintro e w9 ⟨rfl,rfl⟩;go_wp2_with fail)
  | (refine (Bn s (i+2) 2 _ _ w (by omega) (by decide) (by omega) (by decide)).mono ?_;rintro e w9 ⟨rfl,rfl⟩;go_wp2_with fail)
  | (refine (Kl s i w (by first | exact LZ (lo:=224) (hi:=239) (by assumption) | exact LZ (lo:=240) (hi:=244) (by assumption)) (by omega)).mono ?_;rintro e w9 ⟨rfl,rfl⟩;go_wp2_with fail)
 all_goals go_ret
 all_goals refine⟨aa6 ?_,rfl⟩
 all_goals rw[HS.out]
 all_goals simp[*]
theorem WQ:(Tryz.prog.info? 5).map (fun i=>(i.zero,i.size,i.bytes))=some (some (.int .u8 0),1,1):=by kernel_rfl
def fB (l:List UInt8):ByteArray:=⟨l.toArray⟩
theorem ko (l:List UInt8):(fB l).size=l.length:=by simp[fB,ByteArray.size]
theorem Dk (l:List UInt8):(fB l).data.toList=l:=rfl
theorem tC (s:ByteArray):fB s.data.toList=s:=rfl
theorem l6 (l m:List UInt8):fB l++fB m=fB (l++m):=ByteArray.mk_append_mk l m
theorem WR {a b:ByteArray} (h:a=b):Ending.returned (.string a)=.returned (.string b):=by rw[h]
theorem Fp (l:List UInt8):strOfNums (l.map fun b=>(b.toNat:Int))=fB l:=by
 unfold strOfNums fB;congr 2;rw[List.map_map]
 conv=>rhs;rw[←List.map_id l]
 congr 1;funext b;simp
theorem Nz {w:World} {base:Nat} {v:Value} {l:List UInt8} (h:w.ownsRow base 5 1 v l.length (jE l)):
  (convert 164 9 v).run Tryz.prog w=.ok (.string (fB l)) w:=by
 obtain⟨A,c,rfl⟩:=AY h;rcases h.2 with ⟨hv,hn⟩ | ⟨g,cap,cur,hv,_,_⟩
 ·injection hv with h1 h2 h3;subst h1;rw[run_convert_bytes_nil w 164 5 Tryz.underlying164 Tryz.underlying5 _ _ 9 Tryz.underlying9];rw[List.eq_nil_of_length_eq_zero hn];rfl
 ·injection hv with h1 h2 h3;subst h1;rw[run_convert_bytes_arg w 164 5 Tryz.underlying164 Tryz.underlying5 g 0 l.length c (l.map fun b=>(b.toNat:Int)) (by simp) ?_ 9 Tryz.underlying9,Fp];intro i hi;rw[Nat.zero_add,h.cellAt i (by omega)];simp[jE,hi]
theorem Hw (s:ByteArray) (k n:Nat):(s.extract k (k+n)).data.toList=(s.data.toList.drop k).take n:=by
 rw[ByteArray.data_extract,Array.toList_extract];simp
theorem kC (s:ByteArray) (w:World) (hs:s.size≤10000):
  Calls Tryz.prog 70 #[.string s] w fun e w'=>e=.returned (.string (fB (bB.rep s.data.toList)))∧Below w.heap.size w w':=by
 obtain⟨i0,hi,hz0,hz1,hz2⟩:=info_parts WQ;have hrl:=bB.mV s.data.toList;have hll:s.data.toList.length=s.size:=rfl;rw[hll] at hrl
 go_enter Tryz.func70,Tryz.ntmps70
 go_wp2_with fail
 go_loopw [3,4] (fun v i wr=>∃ (k:Nat) (L:List UInt8),k≤s.size∧i=.int .i64 k∧wr.ownsRow w.heap.size 5 1 v L.length (jE L)∧L++bB.rep (s.data.toList.drop k)=bB.rep s.data.toList∧Below w.heap.size w wr) (fun _ i _=>s.size - (intOf i).toNat)
 case atStart=>exact⟨0,[],Nat.zero_le _,rfl,World.ownsRow_nil _ _ _ _,rfl,Below.refl _ _⟩
 case round=>
  obtain⟨k,L,hk,rfl,hown,hL,hbel⟩:=hrel;have hLl:L.length≤30000:=by have:=congrArg List.length hL;rw[List.length_append] at this;omega
  obtain⟨A,c,rfl⟩:=AY hown;by_cases hlt:k<s.size
  ·obtain⟨n,hn⟩:=eX (bB.size (s.data.toList.drop k))
   have hn4:=bB.Ns (s.data.toList.drop k);have hnl:=bB.size_le (s.data.toList.drop k);rw[List.length_drop,hll] at hnl;rw[hn] at hn4 hnl;by_cases h0:n=0
   ·have hstep:L++bB.bad++bB.rep (s.data.toList.drop (k+1))=bB.rep s.data.toList:=by
     rw[←hL,drop_at s k hlt,bB.Fb (by rw[←drop_at s k hlt,hn,h0]),List.append_assoc]
    have HS:=zh hstep;have HN:=zh hn;clear hstep hL hn hn4 hnl;subst h0;go_wp2_with fail;refine (Br s k wr (by omega) (by omega)).mono ?_;rintro e w2 ⟨rfl,rfl⟩;rw[HN.out]
    go_wp2_with (at_builtin;refine wpList_append_own _ rfl (.tmp 15) (.tmp 16) 164 rfl w.heap.size 5 i0 (.int .u8 0) 1 1 Tryz.underlying164 hi hz0 hz1 hz2 rfl (by decide) _ L.length (jE L) rfl (hown.alloc _) ⟨wr.heap.size,0,none⟩ 3 3 (jE bB.bad) rfl rfl ?c1 ?c2 ?c3 ?c4 ?c5 ?_)
    case c1=>intro j u hj;match j,hj with | 0,hj=>simp[jE,bB.bad] at hj;subst hj;simp[Addr.add] | 1,hj=>simp[jE,bB.bad] at hj;subst hj;simp[Addr.add] | 2,hj=>simp[jE,bB.bad] at hj;subst hj;simp[Addr.add]
    case c2=>intro u hu;simp[jE,bB.bad] at hu;rcases hu with rfl | rfl | rfl<;>rfl
    case c3=>unfold maxLen;omega
    case c4=>omega
    case c5=>have:=hbel.size;simp;omega
    intro v2 w2 ho2 hg2 _;have hb2:Below w.heap.size w w2:=(hbel.alloc hbel.size _).grown hg2 (by have:=hbel.size;simp;omega) (fun j hj=>(hown.lt j hj).1);rw[←uG] at ho2;have HB:=zh hb2;have HO:=zh ho2;clear ho2 hg2 hb2;go_wp2_with fail
    go_roundw
    case rel=>exact⟨k+1,L++bB.bad,by omega,by go_num,by rw[List.length_append];exact HO.out,HS.out,HB.out⟩
    case measure=>simp[intOf];omega
   ·have hstep:L++(s.extract k (k+n)).data.toList++bB.rep (s.data.toList.drop (k+n))=bB.rep s.data.toList:=by
     have h:=bB.Bl (l:=s.data.toList.drop k) (by rw[hn];exact h0);rw[hn,List.drop_drop] at h;rw[←hL,h,Hw,List.append_assoc]
    have HS:=zh hstep;have HN:=zh hn;have hxs:(s.extract k (k+n)).size=n:=by rw[ByteArray.size_extract];omega
    have hnz:((n:Int) == 0)=false:=by simp;omega
    have hsl:∀ W:World,(Instr.slice 9 (.string s) (some (.int .i64 k)) (some (.int .i64 ((k:Int)+n))) none).run Tryz.prog W=.ok (.string (s.extract k (k+n))) W:=fun W=>run_slice_string W _ s _ _ _ _ Tryz.underlying9 (by omega) (by omega) (by omega);have hHO:=zh hown;clear hstep hL hn;go_wp2_with fail;refine (Br s k wr (by omega) (by omega)).mono ?_;rintro e w2 ⟨rfl,rfl⟩;rw[HN.out]
    go_wp2_with (at_builtin;refine Lib.wpList_append_own_string _ rfl (.tmp 20) (.tmp 26) 164 9 rfl w.heap.size 5 i0 Tryz.underlying164 Tryz.underlying9 hi hz0 hz1 hz2 _ L.length (jE L) rfl hHO.out (s.extract k (k+n)) rfl ?c3 ?c4 ?c5 ?_)
    case c3=>unfold maxLen;omega
    case c4=>omega
    case c5=>have:=hbel.size;omega
    intro v2 w2 ho2 hg2 _;have hb2:Below w.heap.size w w2:=hbel.grown hg2 hbel.size (fun j hj=>(hHO.out.lt j hj).1);rw[J7,←uG] at ho2;have HB:=zh hb2;have HO:=zh ho2;have hel:(L++(s.extract k (k+n)).data.toList).length=L.length+n:=by rw[List.length_append];show _+(s.extract k (k+n)).size=_;rw[hxs]
    have HE:=zh hel;clear ho2 hg2 hb2 hxs hel;go_wp2_with fail
    go_roundw
    case rel=>exact⟨k+n,L++(s.extract k (k+n)).data.toList,by omega,by go_num,by rw[HE.out];exact HO.out,HS.out,HB.out⟩
    case measure=>simp[intOf];omega
  ·have ek:k=s.size:=by omega
   subst ek;rw[rU s _ (by omega),bB.tN,List.append_nil] at hL;have abH:=Nz hown;have HL:=zh hL;clear hL;go_wp2_with fail
   go_ret
   exact⟨WR (by rw[HL.out]),hbel⟩
theorem D5 (c:UInt8) (w:World):
  Calls Tryz.prog 155 #[.int .u8 c.toNat] w fun e w'=>e=.returned (.bool (bB.sp c))∧w=w':=by
 go_enter Tryz.func155,Tryz.ntmps155
 go_wp2
 all_goals go_ret
 all_goals refine⟨Kk ?_,rfl⟩
 all_goals unfold bB.sp
 all_goals rw[Bool.eq_iff_iff]
 all_goals simp
 all_goals omega
end
section
namespace Tr
open Go Go.RowKit
inductive qR (P:Int→Int→List Int→List Int→Prop):List Int→List Int→List Int→List Int→Prop
 | nil:qR P [] [] [] []
 | cons {x y:Int} {xs ys l1 l2 m1 m2:List Int}:P x y l1 m1→qR P xs ys l2 m2→qR P (x::xs) (y::ys) (l1++l2) (m1++m2)
def Cp (g g':G):Nat→Int→Int→Int→List Int→List Int→Prop
 | 0,_,_,_,_,_=>False
 | f+1,x,y,q,lx,ly=>∃ n ys l m,g x=some n∧g' y=some { n with pa:=q,kids:=ys }∧qR (fun a b l m=>Cp g g' f a b y l m) n.kids ys l m∧lx=x::l∧ly=y::m
section
variable {g g' g2:G} {P Q:Int→Int→List Int→List Int→Prop}
theorem qR.mono {xs ys l m:List Int} (h:qR P xs ys l m) (hq:∀ x y l' m',x∈xs→(∀ z∈l',z∈l)→(∀ z∈m',z∈m)→P x y l' m'→Q x y l' m'):qR Q xs ys l m:=by
 induction h with
 | nil=>exact .nil
 | cons h1 h2 ih=>
  refine .cons (hq _ _ _ _ (by simp) (fun z hz=>List.mem_append_left _ hz) (fun z hz=>List.mem_append_left _ hz) h1) (ih fun x y l' m' hx hl hm=>hq x y l' m' (List.mem_cons_of_mem _ hx) (fun z hz=>List.mem_append_right _ (hl z hz)) (fun z hz=>List.mem_append_right _ (hm z hz)))
theorem qR.snoc {xs ys l m l1 m1:List Int} {x y:Int} (h:qR P xs ys l m) (h1:P x y l1 m1):qR P (xs++[x]) (ys++[y]) (l++l1) (m++m1):=by
 induction h with
 | nil=>simpa using qR.cons h1 qR.nil
 | cons h2 h3 ih=>rw[List.cons_append,List.cons_append,List.append_assoc,List.append_assoc];exact .cons h2 ih
theorem qR.flat {xs ys l m:List Int} {u v:Int→List Int} (h:qR P xs ys l m) (hu:∀ x y l' m',P x y l' m'→u x=l'∧v y=m'):xs.flatMap u=l∧ys.flatMap v=m:=by
 induction h with
 | nil=>exact⟨rfl,rfl⟩
 | cons h1 h2 ih=>
  obtain⟨e1,e2⟩:=hu _ _ _ _ h1;rw[List.flatMap_cons,List.flatMap_cons,e1,e2,ih.1,ih.2];exact⟨rfl,rfl⟩
theorem qR.len {xs ys l m:List Int} (h:qR P xs ys l m) (hu:∀ x y l' m',P x y l' m'→l'.length=m'.length):l.length=m.length:=by
 induction h with
 | nil=>rfl
 | cons h1 h2 ih=>rw[List.length_append,List.length_append,hu _ _ _ _ h1,ih]
theorem Cp.walks:∀ (f F:Nat) {x y q:Int} {lx ly:List Int},Cp g g' f x y q lx ly→f≤F→walk g F x=lx∧walk g' F y=ly
 | 0,_,_,_,_,_,_,h,_=>h.elim
 | f+1,0,_,_,_,_,_,_,hF=>by omega
 | f+1,F+1,x,y,q,lx,ly,h,hF=>by
  obtain⟨n,ys,l,m,e1,e2,h3,rfl,rfl⟩:=h;obtain⟨a,b⟩:=h3.flat fun x y l m h=>Cp.walks f F h (by omega);rw[walk,walk,e1,e2];exact⟨by simp only;rw[a],by simp only;rw[b]⟩
theorem qR.maps {xs ys l m:List Int} {u v:Int→Nat} (h:qR P xs ys l m) (hu:∀ x y l' m',P x y l' m'→v y=u x):ys.map v=xs.map u:=by
 induction h with
 | nil=>rfl
 | cons h1 h2 ih=>rw[List.map_cons,List.map_cons,hu _ _ _ _ h1,ih]
theorem Cx {l:List Nat} {n k:Nat} (hn:n≤k) (h:∀ x∈l,x≤k):l.foldl max n≤k:=by
 induction l generalizing n with
 | nil=>exact hn
 | cons a r ih=>exact ih (by have:=h a (by simp);omega) fun x hx=>h x (List.mem_cons_of_mem _ hx)
theorem qz (g:G):∀ (f:Nat) (x:Int),hgt g f x≤f
 | 0,_=>Nat.le_refl _
 | f+1,x=>by
  rw[hgt];cases g x with
  | none=>exact Nat.zero_le _
  | some n=>
   simp only;have:=Cx (l:=n.kids.map (hgt g f)) (n:=0) (k:=f) (Nat.zero_le _) (fun z hz=>by obtain⟨k,_,rfl⟩:=List.mem_map.1 hz;exact qz g f k);omega
theorem Cp.hgt:∀ (f F:Nat) {x y q:Int} {lx ly:List Int},Cp g g' f x y q lx ly→f≤F→Tr.hgt g' F y=Tr.hgt g f x
 | 0,_,_,_,_,_,_,h,_=>h.elim
 | f+1,0,_,_,_,_,_,_,hF=>by omega
 | f+1,F+1,x,y,q,lx,ly,h,hF=>by
  obtain⟨n,ys,l,m,e1,e2,h3,rfl,rfl⟩:=h;have a:=h3.maps (u:=Tr.hgt g f) (v:=Tr.hgt g' F) fun x y l m h=>Cp.hgt f F h (by omega);rw[Tr.hgt,Tr.hgt,e1,e2];simp only;rw[a]
theorem Cp.len:∀ (f:Nat) {x y q:Int} {lx ly:List Int},Cp g g' f x y q lx ly→lx.length=ly.length
 | 0,_,_,_,_,_,h=>h.elim
 | f+1,x,y,q,lx,ly,h=>by
  obtain⟨n,ys,l,m,e1,e2,h3,rfl,rfl⟩:=h;rw[List.length_cons,List.length_cons,h3.len fun x y l m h=>Cp.len f h]
theorem Cp.head {f:Nat} {x y q:Int} {lx ly:List Int} (h:Cp g g' f x y q lx ly):∃ l m,lx=x::l∧ly=y::m:=by
 cases f with
 | zero=>exact h.elim
 | succ f=>obtain⟨n,ys,l,m,e1,e2,h3,rfl,rfl⟩:=h;exact⟨l,m,rfl,rfl⟩
theorem Cp.live:∀ (f:Nat) {x y q:Int} {lx ly:List Int},Cp g g' f x y q lx ly→(∀ z∈lx,(g z).isSome)∧∀ z∈ly,(g' z).isSome
 | 0,_,_,_,_,_,h=>h.elim
 | f+1,x,y,q,lx,ly,h=>by
  obtain⟨n,ys,l,m,e1,e2,h3,rfl,rfl⟩:=h;have key:∀ {xs ys l m:List Int},qR (fun a b l m=>Cp g g' f a b y l m) xs ys l m→(∀ z∈l,(g z).isSome)∧∀ z∈m,(g' z).isSome:=by
   intro xs ys l m h
   induction h with
   | nil=>exact⟨fun z hz=>by simp at hz,fun z hz=>by simp at hz⟩
   | cons h1 h2 ih=>
    have k:=Cp.live f h1;exact⟨fun z hz=>(List.mem_append.1 hz).elim (k.1 z) (ih.1 z),fun z hz=>(List.mem_append.1 hz).elim (k.2 z) (ih.2 z)⟩
  obtain⟨a,b⟩:=key h3;refine⟨fun z hz=>?_,fun z hz=>?_⟩
  ·rcases List.mem_cons.1 hz with rfl | hz
   ·rw[e1];rfl
   ·exact a z hz
  ·rcases List.mem_cons.1 hz with rfl | hz
   ·rw[e2];rfl
   ·exact b z hz
theorem Cp.keep {a a':G}:∀ (f:Nat) {x y q:Int} {lx ly:List Int},Cp g g' f x y q lx ly→(∀ z∈lx,a z=g z)→(∀ z∈ly,a' z=g' z)→Cp a a' f x y q lx ly
 | 0,_,_,_,_,_,h,_,_=>h.elim
 | f+1,x,y,q,lx,ly,h,h1,h2=>by
  obtain⟨n,ys,l,m,e1,e2,h3,rfl,rfl⟩:=h;exact⟨n,ys,l,m,by rw[h1 x (by simp)];exact e1,by rw[h2 y (by simp)];exact e2,
   h3.mono fun a b l' m' _ hl hm h=>Cp.keep f h (fun z hz=>h1 z (List.mem_cons_of_mem _ (hl z hz))) (fun z hz=>h2 z (List.mem_cons_of_mem _ (hm z hz))),rfl,rfl⟩
theorem Cp.moved {a':G} {f:Nat} {x y q p:Int} {lx ly:List Int} (h:Cp g g' f x y q lx ly) (hn:ly.Nodup) (h1:∀ z∈ly,z≠y→a' z=g' z) (h2:a' y=(g' y).map fun n=>{ n with pa:=p }):Cp g a' f x y p lx ly:=by
 cases f with
 | zero=>exact h.elim
 | succ f=>
  obtain⟨n,ys,l,m,e1,e2,h3,rfl,rfl⟩:=h;have hy:∀ z∈m,z≠y:=fun z hz e=>(List.nodup_cons.1 hn).1 (e▸hz);exact⟨n,ys,l,m,e1,by rw[h2,e2];rfl,h3.mono fun a b l' m' _ hl hm h=>Cp.keep f h (fun _ _=>rfl) (fun z hz=>h1 z (List.mem_cons_of_mem _ (hm z hz)) (hy z (hm z hz))),rfl,rfl⟩
end
section
variable {ρ ρ':Int→Int} {a a' g g':G}
theorem Fq {l1 l2 m1 m2:List Int} (h:l1++l2=m1++m2) (hl:l1.length=m1.length):l1=m1∧l2=m2:=List.append_inj h hl
theorem Cp.src:∀ (f:Nat) {x y p q d:Int} {lx ly la lg:List Int},Cp a a' f x y p lx ly→Cp g g' f (ρ x) d q la lg→(∀ z n,a z=some n→g (ρ z)=some (eD ρ n))→la=lx.map ρ
 | 0,_,_,_,_,_,_,_,_,_,h,_,_=>h.elim
 | f+1,x,y,p,q,d,lx,ly,la,lg,h,k,hi=>by
  obtain⟨n,ys,l,m,e1,e2,h3,rfl,rfl⟩:=h;obtain⟨n2,ds,l2,m2,k1,k2,k3,rfl,rfl⟩:=k;rw[hi x n e1] at k1;obtain rfl:=Option.some.inj k1;have hk:(eD ρ n).kids=n.kids.map ρ:=rfl;rw[hk] at k3;have key:∀ {xs ys l m:List Int},qR (fun a1 b l m=>Cp a a' f a1 b y l m) xs ys l m→∀ {ds l2 m2:List Int},qR (fun a b l m=>Cp g g' f a b d l m) (xs.map ρ) ds l2 m2→l2=l.map ρ:=by
   intro xs ys l m h
   induction h with
   | nil=>intro ds l2 m2 k;cases k;rfl
   | @cons x1 y1 xs ys l1 l3 m1 m3 h1 h2 ih=>
    intro ds l2 m2 k;rw[List.map_cons] at k;generalize hxs:xs.map ρ=xs' at k;cases k with
    | @cons _ d1 _ ds l4 l5 m4 m5 k1 k2=>
     have e2:=ih (ds:=ds) (l2:=l5) (m2:=m5) (by rw[hxs];exact k2);rw[Cp.src f h1 k1 hi,e2,List.map_append]
  rw[key h3 k3,List.map_cons]
theorem Cp.both:∀ (f:Nat) {x y p q d:Int} {lx ly la lg:List Int},Cp a a' f x y p lx ly→Cp g g' f (ρ x) d q la lg→(∀ z n,a z=some n→g (ρ z)=some (eD ρ n))→ly.map ρ'=lg→ρ' p=q→ρ' y=d∧∀ z∈ly,∃ n,a' z=some n∧g' (ρ' z)=some (eD ρ' n)
 | 0,_,_,_,_,_,_,_,_,_,h,_,_,_,_=>h.elim
 | f+1,x,y,p,q,d,lx,ly,la,lg,h,k,hi,hm,hp=>by
  obtain⟨n,ys,l,m,e1,e2,h3,rfl,rfl⟩:=h;obtain⟨n2,ds,l2,m2,k1,k2,k3,rfl,rfl⟩:=k;rw[hi x n e1] at k1;obtain rfl:=Option.some.inj k1;rw[List.map_cons] at hm;obtain⟨hm1,hm2⟩:=List.cons.inj hm;have hk:(eD ρ n).kids=n.kids.map ρ:=rfl;rw[hk] at k3;have key:∀ {xs ys l m:List Int},qR (fun a1 b l m=>Cp a a' f a1 b y l m) xs ys l m→∀ {ds l2 m2:List Int},qR (fun a b l m=>Cp g g' f a b d l m) (xs.map ρ) ds l2 m2→m.map ρ'=m2→ys.map ρ'=ds∧∀ z∈m,∃ n,a' z=some n∧g' (ρ' z)=some (eD ρ' n):=by
   intro xs ys l m h
   induction h with
   | nil=>intro ds l2 m2 k _;cases k;exact⟨rfl,fun z hz=>by simp at hz⟩
   | @cons x1 y1 xs ys l1 l3 m1 m3 h1 h2 ih=>
    intro ds l2 m2 k hm;rw[List.map_cons] at k;generalize hxs:xs.map ρ=xs' at k;cases k with
    | @cons _ d1 _ ds l4 l5 m4 m5 k1 k2=>
     rw[List.map_append] at hm;have hlen:(m1.map ρ').length=m4.length:=by
      have w1:=Cp.len f h1;have w2:=Cp.len f k1;have w3:l4.length=l1.length:=by rw[Cp.src f h1 k1 hi,List.length_map]
      rw[List.length_map];omega
     obtain⟨aa9,abb⟩:=Fq hm hlen;obtain⟨r1,r2⟩:=Cp.both f h1 k1 hi aa9 hm1;obtain⟨r3,r4⟩:=ih (by rw[hxs];exact k2) abb;exact⟨by rw[List.map_cons,r1,r3],fun z hz=>(List.mem_append.1 hz).elim (r2 z) (r4 z)⟩
  obtain⟨r1,r2⟩:=key h3 k3 hm2;refine⟨hm1,fun z hz=>?_⟩;rcases List.mem_cons.1 hz with rfl | hz
  ·refine⟨_,e2,?_⟩;rw[hm1,k2];unfold eD;rw[hp,r1]
  ·exact r2 z hz
theorem qR.inner {xs ys l m:List Int} {u:Int} {f:Nat} (h:qR (fun a b l m=>Cp g g' f a b u l m) xs ys l m) (key:∀ {x y q:Int} {lx ly:List Int},Cp g g' f x y q lx ly→∀ z∈ly,∃ n,g' z=some n∧(n.pa=q∨n.pa∈ly)∧∀ k∈n.kids,k∈ly):
  (∀ k∈ys,k∈m)∧∀ z∈m,∃ n,g' z=some n∧(n.pa=u∨n.pa∈m)∧∀ k∈n.kids,k∈m:=by
 induction h with
 | nil=>exact⟨fun k hk=>by simp at hk,fun z hz=>by simp at hz⟩
 | cons h1 h2 ih=>
  refine⟨fun k hk=>?_,fun z hz=>?_⟩
  ·rcases List.mem_cons.1 hk with rfl | hk
   ·obtain⟨_,_,_,e⟩:=h1.head;rw[e];simp
   ·exact List.mem_append_right _ (ih.1 k hk)
  ·rcases List.mem_append.1 hz with hz | hz
   ·obtain⟨n,e,hp,hk⟩:=key h1 z hz;exact⟨n,e,hp.elim .inl (fun h=>.inr (List.mem_append_left _ h)),fun k h=>List.mem_append_left _ (hk k h)⟩
   ·obtain⟨n,e,hp,hk⟩:=ih.2 z hz;exact⟨n,e,hp.elim .inl (fun h=>.inr (List.mem_append_right _ h)),fun k h=>List.mem_append_right _ (hk k h)⟩
theorem Cp.inner:∀ (f:Nat) {x y q:Int} {lx ly:List Int},Cp g g' f x y q lx ly→∀ z∈ly,∃ n,g' z=some n∧(n.pa=q∨n.pa∈ly)∧∀ k∈n.kids,k∈ly
 | 0,_,_,_,_,_,h=>h.elim
 | f+1,x,y,q,lx,ly,h=>by
  obtain⟨n,ys,l,m,e1,e2,h3,rfl,rfl⟩:=h;obtain⟨k1,k2⟩:=h3.inner fun h=>Cp.inner f h;intro z hz;rcases List.mem_cons.1 hz with rfl | hz
  ·exact⟨_,e2,.inl rfl,fun k hk=>List.mem_cons_of_mem _ (k1 k hk)⟩
  ·obtain⟨n',e,hp,hk⟩:=k2 z hz;refine⟨n',e,.inr ?_,fun k h=>List.mem_cons_of_mem _ (hk k h)⟩;rcases hp with hp | hp
   ·rw[hp];simp
   ·exact List.mem_cons_of_mem _ hp
theorem Im.copy (h:Im ρ a g) {f:Nat} {x k d:Int} {lx ly la lg:List Int} (hc:Cp a a' f x k (-1) lx ly) (hd:Cp g g' f (ρ x) d 0 la lg) (hρ:∀ y,y = -1∨(a y).isSome→ρ' y=ρ y) (hm:ly.map ρ'=lg)
  (ha:∀ z,z∉ly→a' z=a z) (hg:∀ z,z∉lg→g' z=g z) (fa:∀ z∈ly,a z=none∧z ≠ -1) (fg:∀ z∈lg,g z=none∧z≠0) (nd:lg.Nodup):Im ρ' a' g':=by
 have hz:ρ' (-1)=0:=by rw[hρ _ (.inl rfl)];exact h.zero
 obtain⟨hkd,hb⟩:=Cp.both f hc hd h.node hm hz;have hin:=Cp.inner f hc;have hmap:∀ y q,a y=some q→eD ρ' q=eD ρ q:=fun y q e=>by
  unfold eD;rw[hρ q.pa (h.pa y q e)];congr 1;exact List.map_congr_left fun k hk=>hρ k (.inr (h.kids y q e k hk))
 have hno:∀ y q,a y=some q→y∉ly:=fun y q e hy=>by rw[(fa y hy).1] at e;cases e
 have hgo:∀ y q,a y=some q→ρ y∉lg:=fun y q e hy=>by have:=h.node y q e;rw[(fg _ hy).1] at this;cases this
 have hl:∀ y,(a y).isSome→(a' y).isSome:=fun y hy=>by
  obtain⟨q,e⟩:=Option.isSome_iff_exists.1 hy;rw[ha y (hno y q e)];exact hy
 have hl2:∀ y∈ly,(a' y).isSome:=fun y hy=>by
  obtain⟨n,e,_⟩:=hb y hy;rw[e];rfl
 have hS:∀ y,(a' y).isSome→y∈ly∨(a y).isSome:=fun y hy=>by
  by_cases e:y∈ly
  ·exact .inl e
  ·rw[ha y e] at hy;exact .inr hy
 have hinl:∀ y∈ly,ρ' y∈lg:=fun y hy=>by rw[←hm];exact List.mem_map_of_mem hy
 constructor
 ·exact hz
 ·intro y n e;by_cases hy:y∈ly
  ·obtain⟨n',e1,e2⟩:=hb y hy;rw[e] at e1;obtain rfl:=Option.some.inj e1;exact e2
  ·rw[ha y hy] at e;rw[hρ y (.inr (bS e)),hg _ (hgo y n e),hmap y n e];exact h.node y n e
 ·intro y hy;by_cases e:y∈lg
  ·rw[←hm] at e;obtain⟨z,hz1,hz2⟩:=List.mem_map.1 e;exact⟨z,hl2 z hz1,hz2⟩
  ·rw[hg y e] at hy;obtain⟨z,h1,h2⟩:=h.dom y hy;exact⟨z,hl z h1,by rw[hρ z (.inr h1)];exact h2⟩
 ·intro y z hy hz' e;rcases hS y hy with hy1 | hy1
  ·rcases hS z hz' with hz1 | hz1
   ·have nd':(ly.map ρ').Nodup:=by rw[hm];exact nd
    exact NA nd' hy1 hz1 e
   ·obtain⟨q,eq⟩:=Option.isSome_iff_exists.1 hz1;have k:=hinl y hy1;rw[e,hρ z (.inr hz1)] at k;exact absurd k (hgo z q eq)
  ·obtain⟨q,eq⟩:=Option.isSome_iff_exists.1 hy1;rcases hS z hz' with hz1 | hz1
   ·have k:=hinl z hz1;rw[←e,hρ y (.inr hy1)] at k;exact absurd k (hgo y q eq)
   ·rw[hρ y (.inr hy1),hρ z (.inr hz1)] at e;exact h.inj y z hy1 hz1 e
 ·intro y hy;rcases hS y hy with hy1 | hy1
  ·exact (fg _ (hinl y hy1)).2
  ·rw[hρ y (.inr hy1)];exact h.nz y hy1
 ·rw[ha (-1) (fun e=>(fa _ e).2 rfl)];exact h.neg
 ·intro y q e;by_cases hy:y∈ly
  ·obtain⟨n,e1,hp,_⟩:=hin y hy;rw[e] at e1;obtain rfl:=Option.some.inj e1;exact hp.elim .inl (fun h=>.inr (hl2 _ h))
  ·rw[ha y hy] at e;exact (h.pa y q e).elim .inl (fun h=>.inr (hl _ h))
 ·intro y q e k hk;by_cases hy:y∈ly
  ·obtain⟨n,e1,_,hp⟩:=hin y hy;rw[e] at e1;obtain rfl:=Option.some.inj e1;exact hl2 _ (hp k hk)
  ·rw[ha y hy] at e;exact hl _ (h.kids y q e k hk)
where
 NA {l:List Int} {u:Int→Int} (hn:(l.map u).Nodup):∀ {y z:Int},y∈l→z∈l→u y=u z→y=z:=by
  intro y z hy hz e
  induction l with
  | nil=>simp at hy
  | cons b r ih=>
   rw[List.map_cons,List.nodup_cons] at hn;rcases List.mem_cons.1 hy with e1 | h1
   ·rcases List.mem_cons.1 hz with e2 | h2
    ·rw[e1,e2]
    ·exact absurd (by rw[←e1,e];exact List.mem_map_of_mem h2) hn.1
   ·rcases List.mem_cons.1 hz with e2 | h2
    ·exact absurd (by rw[←e2,←e];exact List.mem_map_of_mem h1) hn.1
    ·exact ih hn.2 h1 h2
end
end Tr
end
section
namespace Tr
open Go Go.RowKit
theorem qy {g gj:G}:∀ (f:Nat) (k:Int),(∀ z∈walk g f k,gj z=g z)→(∀ z∈walk g f k,∀ n,g z=some n→∀ x∈n.kids,(g x).isSome)→(g k).isSome→walk gj f k=walk g f k
 | 0,_,_,_,_=>rfl
 | f+1,k,h,hc,hk=>by
  obtain⟨n,e⟩:=Option.isSome_iff_exists.1 hk;have hin:k∈walk g (f+1) k:=by rw[walk,e];simp
  have e2:gj k=some n:=by rw[h k hin];exact e
  have hsub:∀ x∈n.kids,∀ z∈walk g f x,z∈walk g (f+1) k:=fun x hx z hz=>by rw[walk,e];exact List.mem_cons_of_mem _ (List.mem_flatMap.2 ⟨x,hx,hz⟩)
  have hkd:=hc k hin n e;rw[walk,walk,e,e2];simp only;congr 1;exact uW fun x hx=>qy f x (fun z hz=>h z (hsub x hx z hz)) (fun z hz=>hc z (hsub x hx z hz)) (hkd x hx)
structure vD (Z:Int) (g g0:G) (n:GN) (f:Nat) (d q:Int) (gj:G) (pre ys l m:List Int):Prop where
 self:gj d=some { n with pa:=q,kids:=ys }
 cp:qR (fun a b l m=>Cp g gj f a b d l m) pre ys l m
 nd:(d::m).Nodup
 fresh:∀ z∈d::m,g z=none∧z≠Z
 old:∀ z,z∉d::m→gj z=g0 z
section
variable {Z:Int} {g g0 gj g2:G} {n:GN} {f:Nat} {d q:Int} {pre ys l m:List Int}
theorem vD.start (h:gj d=some { n with pa:=q,kids:=[] }) (h1:g d=none) (h2:d≠Z) (h3:∀ z,z≠d→gj z=g0 z):vD Z g g0 n f d q gj [] [] [] []:=by
 refine⟨h,.nil,by simp,fun z hz=>?_,fun z hz=>h3 z (by simpa using hz)⟩;have e:z=d:=by simpa using hz
 rw[e];exact⟨h1,h2⟩
theorem vD.Yv (D:vD Z g g0 n f d q gj pre ys l m):∀ z∈d::m,(gj z).isSome:=by
 intro z hz;rcases List.mem_cons.1 hz with rfl | hz
 ·rw[D.self];rfl
 ·obtain⟨_,k⟩:=D.cp.inner fun h=>Cp.inner f h;obtain⟨n,e,_⟩:=k z hz;rw[e];rfl
theorem vD.step (D:vD Z g g0 n f d q gj pre ys l m) (hi:∀ z,(g0 z).isSome=(g z).isSome) {k c:Int} {lk mc:List Int} (hsrc:∀ z∈walk g f k,(g z).isSome∧g0 z=g z)
  (C:Cp gj g2 f k c d lk mc) (hnd:mc.Nodup) (hf:∀ z∈mc,gj z=none∧z≠Z) (hO:∀ z,z∉mc→g2 z=if z=d then (gj d).map fun n=>{ n with kids:=n.kids++[c] } else gj z) (Zv:(g k).isSome)
  (hcl:∀ z∈walk g f k,∀ n,g z=some n→∀ x∈n.kids,(g x).isSome):
  vD Z g g0 n f d q g2 (pre++[k]) (ys++[c]) (l++walk g f k) (m++mc):=by
 have hdm:=D.Yv;have Ta:∀ z∈mc,z∉d::m:=fun z hz h=>by have:=hdm z h;rw[(hf z hz).1] at this;cases this
 have hfr:∀ z∈mc,g z=none:=fun z hz=>by
  have h1:=D.old z (Ta z hz);rw[(hf z hz).1] at h1;have h2:=hi z;rw[←h1] at h2;exact Option.not_isSome_iff_eq_none.1 (by rw[←h2];simp)
 have hsame:∀ z∈walk g f k,gj z=g z:=fun z hz=>by
  have hz1:=(hsrc z hz).1;rw[D.old z (fun h=>by rw[(D.fresh z h).1] at hz1;cases hz1)];exact (hsrc z hz).2
 have hlk:walk g f k=lk:=by rw[←qy f k hsame hcl Zv];exact (Cp.walks f f C (Nat.le_refl _)).1
 have OZ:d∉mc:=fun h=>Ta d h (by simp);refine⟨?_,?_,?_,?_,?_⟩
 ·rw[hO d OZ,if_pos rfl,D.self];rfl
 ·rw[hlk];refine qR.snoc ?_ ?_
  ·refine D.cp.mono fun a b l' m' _ _ hm h=>Cp.keep f h (fun _ _=>rfl) (fun z hz=>?_);have hzm:=hm z hz;rw[hO z (fun h=>Ta z h (List.mem_cons_of_mem _ hzm)),if_neg];rintro rfl;exact (List.nodup_cons.1 D.nd).1 hzm
  ·exact Cp.keep f C (fun z hz=>(hsame z (by rw[hlk];exact hz)).symm) (fun _ _=>rfl)
 ·rw[←List.cons_append,List.nodup_append];exact⟨D.nd,hnd,fun a ha b hb e=>Ta b hb (e▸ha)⟩
 ·intro z hz;rw[←List.cons_append] at hz;rcases List.mem_append.1 hz with hz | hz
  ·exact D.fresh z hz
  ·exact⟨hfr z hz,(hf z hz).2⟩
 ·intro z hz;rw[←List.cons_append,List.mem_append,not_or] at hz;rw[hO z hz.2,if_neg (fun e=>hz.1 (by rw[e];simp))];exact D.old z hz.1
theorem vD.finish (D:vD Z g g0 n f d q gj n.kids ys l m) {h:Int} (e:g h=some n):Cp g gj (f+1) h d q (h::l) (d::m):=⟨n,ys,l,m,e,D.self,D.cp,rfl,rfl⟩
theorem OY {g gj:G} (w:WF 0 g) (w':WF 0 gj) (h:∀ z,(g z).isSome→gj z=g z) {k:Int} (hk:(g k).isSome):aS gj k=aS g k:=by
 have key:∀ {x:Int} {l:List Int},Up g x l→((g x).isSome∨x=0)→Up gj x l:=by
  intro x l u
  induction u with
  | out e=>
   rintro (h1 | rfl)
   ·rw[e] at h1;cases h1
   ·exact .out w'.zero
  | @node x n l e u ih=>
   intro _;refine .node (by rw[h x (by rw[e];rfl)];exact e) (ih ?_);rcases w.pa e with h1 | ⟨p,h1,_⟩
   ·exact .inr h1
   ·exact .inl (by rw[h1];rfl)
 exact w'.gU (key (w.cu k).1 (.inl hk))
theorem Dt {u:Int→List Int}:∀ {ks:List Int} {y:Int},y∈ks→(∀ k∈ks,1≤(u k).length)→(u y).length+ks.length≤(ks.flatMap u).length+1
 | [],y,h,_=>by simp at h
 | a::r,y,h,h1=>by
  rw[List.flatMap_cons,List.length_append,List.length_cons];have hr:∀ ks:List Int,(∀ k∈ks,1≤(u k).length)→ks.length≤(ks.flatMap u).length:=by
   intro ks
   induction ks with
   | nil=>intro _;exact Nat.zero_le _
   | cons b q ih=>
    intro hq;rw[List.flatMap_cons,List.length_append,List.length_cons];have:=ih fun k hk=>hq k (List.mem_cons_of_mem _ hk);have:=hq b (by simp);omega
  have h2:=hr r fun k hk=>h1 k (List.mem_cons_of_mem _ hk);have h3:=h1 a (by simp);rcases List.mem_cons.1 h with rfl | h
  ·omega
  ·have:=Dt h fun k hk=>h1 k (List.mem_cons_of_mem _ hk);omega
theorem qR.Vw {P:Int→Int→List Int→List Int→Prop} {xs ys l m:List Int} {D:Nat} (h:qR P xs ys l m) (hu:∀ x y l' m',P x y l' m'→l'.length≤D):l.length≤xs.length*D:=by
 induction h with
 | nil=>simp
 | cons h1 h2 ih=>
  rw[List.length_append,List.length_cons,Nat.succ_mul];have:=hu _ _ _ _ h1;omega
theorem qR.heads {P:Int→Int→List Int→List Int→Prop} {xs ys l m:List Int} (h:qR P xs ys l m):ys.length=xs.length:=by
 induction h with
 | nil=>rfl
 | cons _ _ ih=>rw[List.length_cons,List.length_cons,ih]
theorem MP {n0 n1 N p D L x:Nat} (h0:n0+(N+D)*(N+D)≤99999) (h1:n1≤n0+1+L) (hL:L≤p*D) (hp:p+1≤N) (hx:x≤D):n1+x*x≤99999:=by
 have e1:x*x≤D*D:=Nat.mul_le_mul hx hx;have e2:p*D+D≤N*D:=by
  have:=Nat.mul_le_mul_right D hp;rw[Nat.add_mul,Nat.one_mul] at this;exact this
 have e3:(N+D)*(N+D)=N*N+N*D+(D*N+D*D):=by rw[Nat.add_mul,Nat.mul_add,Nat.mul_add]
 have e4:N≤N*N:=Nat.le_mul_of_pos_left N (by omega);rw[e3] at h0;omega
end
end Tr
end
section
open Go.RowKit
def jq (cs:List (List UInt8)) (k:Nat):Nat:=(cs.take k).flatten.length
theorem tF (cs:List (List UInt8)) (k:Nat):jq cs k≤cs.flatten.length:=by
 have h:cs.flatten=(cs.take k).flatten++(cs.drop k).flatten:=by rw[←List.flatten_append,List.take_append_drop]
 unfold jq;rw[h,List.length_append];omega
theorem pU (cs:List (List UInt8)) (k:Nat):cs.flatten.drop (jq cs k)=(cs.drop k).flatten:=by
 have h:cs.flatten=(cs.take k).flatten++(cs.drop k).flatten:=by rw[←List.flatten_append,List.take_append_drop]
 rw[h];exact List.drop_left
theorem Na (cs:List (List UInt8)) (k:Nat):cs.flatten.take (jq cs k)=(cs.take k).flatten:=by
 have h:cs.flatten=(cs.take k).flatten++(cs.drop k).flatten:=by rw[←List.flatten_append,List.take_append_drop]
 rw[h];exact List.take_left
theorem Qn (cs:List (List UInt8)) {k:Nat} (h:cs.length≤k):jq cs k=cs.flatten.length:=by unfold jq;rw[List.take_of_length_le h]
theorem D6 (cs:List (List UInt8)) {k:Nat} (h:k<cs.length):jq cs (k+1)=jq cs k+(cs[k]).length:=by
 unfold jq;rw[List.take_add_one,List.flatten_append,List.length_append,List.getElem?_eq_getElem h];simp
theorem NC {c r:List UInt8} (h:bB.Good c):(bB.step (c++r)).2=c.length:=by
 have hb:=bB.Begins.other h r;rw[List.take_length] at hb;exact (bB.kG hb).1
theorem qE (s:ByteArray) (cs:List (List UInt8)) (cnt:Nat) (w:World) (hs:s.size≤20000) (hc:cnt≤1000000) (hg:∀ c∈cs,bB.Good c) (hd:s.data.toList=cs.flatten):
  Calls Tryz.prog 91 #[.string s,.int .i64 (cnt:Int)] w fun e w'=>e=.returned (.int .i64 (jq cs cnt:Nat))∧Below w.heap.size w w':=by
 have hll:s.data.toList.length=s.size:=rfl;rw[hd] at hll
 go_enter Tryz.func91,Tryz.ntmps91
 go_wp2_with fail
 go_loopw [1] (fun u wr=>∃ k:Nat,u=.int .i64 ((cnt:Int) - k)∧k≤cnt∧k≤cs.length∧wr.heap[w.heap.size]?=some (.stringIter s (jq cs k))∧Below w.heap.size w wr) (fun _ wr=>s.size - wr.iterPos w.heap.size)
 case atStart=>
  exact⟨0,by simp,Nat.zero_le _,Nat.zero_le _,World.iter_heap w s 0,(Below.refl _ w).alloc (Nat.le_refl _) _⟩
 case round=>
  obtain⟨k,rfl,hkc,hkl,hit,hb⟩:=hrel;by_cases hp:jq cs k<s.size
  ·have hk:k<cs.length:=by
    rcases Nat.lt_or_ge k cs.length with h | h
    ·exact h
    ·rw[Qn cs h] at hp;omega
   have Zv:=hg (cs[k]) (List.getElem_mem hk);have hdr:s.data.toList.drop (jq cs k)=cs[k]++(cs.drop (k+1)).flatten:=by
    rw[hd,pU,List.drop_eq_getElem_cons hk,List.flatten_cons]
   have hdec:=bB.oC s (jq cs k);rw[hdr] at hdec;have hst:=NC (r:=(cs.drop (k+1)).flatten) Zv;obtain⟨cp,hcp⟩:=eX ((bB.step (cs[k]++(cs.drop (k+1)).flatten)).1)
   have U0:bB.step (cs[k]++(cs.drop (k+1)).flatten)=(cp,cs[k].length):=by rw[←hcp,←hst]
   rw[U0] at hdec;have hnx:∀ ty,(Instr.next (.pointer (some ⟨w.heap.size,0,none⟩)) true ty).run Tryz.prog wr=_:=fun ty=>Lib.run_next_any_at wr w.heap.size s (jq cs k) ty hit hp;rw[hdec] at hnx;have hit2:=Lib.iterAt_heap wr w.heap.size s (jq cs k) (jq cs k+cs[k].length) hit;have hb2:Below w.heap.size w (wr.iterAt w.heap.size s (jq cs k+cs[k].length)):=hb.grown (show wr.grownBy _ (some w.heap.size) from grownBy_putObj' wr w.heap.size (.stringIter s (jq cs k+cs[k].length))) hb.size (fun j hj=>by injection hj with hj;omega);have hip:s.size - wr.iterPos w.heap.size=s.size - jq cs k:=by simp only[World.iterPos,hit]
   rw[←D6 cs hk] at hit2 hb2 hnx;have hsu:=D6 cs hk;have hc1:=Zv.fC;obtain⟨o1,ho1⟩:=eX (jq cs (k+1))
   obtain⟨o0,ho0⟩:=eX (jq cs k)
   have HO:=zh (And.intro ho0 ho1);have HD:=zh hd;have HG:=zh hg;rw[ho1] at hit2 hb2 hnx hsu;rw[ho0] at hsu hip hp hnx;have hlt:o0<o1:=by omega
   clear hdec hcp U0 hst hdr Zv hc1 hsu ho0 ho1 hd hg hit;by_cases he:cnt=k
   ·have q1:((cnt:Int) - (k:Int) == 0)=true:=by simp;omega
    go_wp2_with fail
    go_ret
    exact⟨by first | (rw[HO.out.1];rfl) | (rw[he,HO.out.1];rfl),hb2⟩
   ·have q1:((cnt:Int) - (k:Int) == 0)=false:=by simp;omega
    go_wp2_with fail
    go_roundw
    case rel=>exact⟨k+1,by go_num,by omega,by omega,by rw[HO.out.2];exact hit2,hb2⟩
    case measure=>
     rw[hip];simp only[World.iterPos,hit2];omega
  ·have hfl:cs.flatten.length≤jq cs k:=by omega
   have hres:jq cs cnt=s.size:=by
    have h1:=tF cs cnt;have h2:jq cs k≤jq cs cnt:=by
     unfold jq;have:cs.take k=(cs.take cnt).take k:=by rw[List.take_take,Nat.min_eq_left hkc]
     rw[this];exact tF (cs.take cnt) k
    omega
   have hnx:∀ ty,(Instr.next (.pointer (some ⟨w.heap.size,0,none⟩)) true ty).run Tryz.prog wr=_:=fun ty=>Lib.run_next_end_at wr w.heap.size s (jq cs k) ty hit hp;have HR:=zh hres;clear hres hfl;go_wp2_with fail
   go_ret
   exact⟨by rw[HR.out];rfl,hb⟩
theorem Tc:(Tryz.prog.info? 9).map (fun i=>(i.zero,i.size,i.bytes))=some (some (.string ByteArray.empty),1,16):=by kernel_rfl
def kR (l:List (List UInt8)):List Value:=l.map fun c=>.string (fB c)
theorem Cy (l m:List (List UInt8)):kR (l++m)=kR l++kR m:=by simp[kR]
theorem Qo {cs:List (List UInt8)} (h:∀ c∈cs,bB.Good c):cs.length≤cs.flatten.length:=by
 induction cs with
 | nil=>simp
 | cons c cs ih=>
  have h1:=(h c List.mem_cons_self).fC;have h2:=ih (fun c' hc=>h c' (List.mem_cons_of_mem _ hc));simp only[List.length_cons,List.flatten_cons,List.length_append];omega
theorem oq (s:ByteArray) (cs:List (List UInt8)) (w:World) (hs:s.size≤10000) (hg:∀ c∈cs,bB.Good c) (hc:s.data.toList=cs.flatten):
  Calls Tryz.prog 47 #[.string s] w fun e w'=>∃ v,e=.returned v∧w'.ownsRow w.heap.size 9 1 v cs.length (kR cs)∧Below w.heap.size w w':=by
 obtain⟨i0,hi,hz0,hz1,hz2⟩:=info_parts Tc;have hfl:=Qo hg;rw[←hc] at hfl;have hll:s.data.toList.length=s.size:=rfl;rw[hll] at hfl
 go_enter Tryz.func47,Tryz.ntmps47
 go_wp2_with fail
 go_loopw [3,4] (fun v i wr=>∃ (k:Nat) (d r:List (List UInt8)),cs=d++r∧k=d.flatten.length∧i=.int .i64 k∧wr.ownsRow w.heap.size 9 1 v d.length (kR d)∧Below w.heap.size w wr) (fun _ i _=>s.size - (intOf i).toNat)
 case atStart=>exact⟨0,[],cs,rfl,rfl,rfl,World.ownsRow_nil _ _ _ _,Below.refl _ _⟩
 case round=>
  obtain⟨k,d,r,hcs,hk,rfl,hown,hbel⟩:=hrel;obtain⟨A,cp,rfl⟩:=AY hown;have hdl:d.length≤10000:=by have:=congrArg List.length hcs;rw[List.length_append] at this;omega
  have hkl:k≤s.size:=by
   have:=congrArg List.length hc;rw[hcs,List.flatten_append,List.length_append,hll] at this;omega
  have hdrop:s.data.toList.drop k=r.flatten:=by rw[hc,hcs,List.flatten_append,hk,List.drop_left]
  cases r with
  | cons c r=>
   have hgc:bB.Good c:=hg c (by rw[hcs];simp);have hb:=bB.Begins.other hgc r.flatten;rw[List.take_length,←List.flatten_cons,←hdrop] at hb;have hsz:=bB.iq hb;have hn4:=hgc.fC;have hle:=hb.le;rw[List.length_drop,hll] at hle;obtain⟨n,hn⟩:=eX (c.length)
   rw[hn] at hsz hn4 hle;have hex:s.extract k (k+n)=fB c:=by
    rw[←tC (s.extract k (k+n)),Hw,hdrop,List.flatten_cons,←hn,List.take_left]
   have hsl:∀ W:World,(Instr.slice 9 (.string s) (some (.int .i64 k)) (some (.int .i64 ((k:Int)+n))) none).run Tryz.prog W=.ok (.string (fB c)) W:=fun W=>by
    rw[run_slice_string W _ s _ _ _ _ Tryz.underlying9 (by omega) (by omega) (by omega),←hex];rfl
   have hmx:max (n:Int) 1=n:=by omega
   have HS:=zh hsz;have HC:=zh hcs;have HK:=zh hk;have HN:=zh hn;have hkb:k<s.size:=by omega
   clear hsz hcs hb hex hdrop hk hn;go_wp2_with fail;refine (Br s k wr (by omega) (by omega)).mono ?_;rintro e w2 ⟨rfl,rfl⟩;rw[HS.out]
   go_wp2_with (at_builtin;refine wpList_append_own _ rfl (.tmp 14) (.tmp 21) 114 rfl w.heap.size 9 i0 (.string ByteArray.empty) 1 16 Tryz.underlying114 hi hz0 hz1 hz2 rfl (by decide) _ d.length (kR d) rfl (hown.alloc _) ⟨wr.heap.size,0,none⟩ 1 1 (kR [c]) rfl rfl ?c1 ?c2 ?c3 ?c4 ?c5 ?_)
   case c1=>intro j u hj;match j,hj with | 0,hj=>simp[kR] at hj;subst hj;simp[Addr.add]
   case c2=>intro u hu;simp[kR] at hu;subst hu;rfl
   case c3=>unfold maxLen;omega
   case c4=>omega
   case c5=>have:=hbel.size;simp;omega
   intro v2 w2 ho2 hg2 _;have hb2:Below w.heap.size w w2:=(hbel.alloc hbel.size _).grown hg2 (by have:=hbel.size;simp;omega) (fun j hj=>(hown.lt j hj).1);rw[←Cy] at ho2;have HB:=zh hb2;have HO:=zh ho2;clear ho2 hg2 hb2;go_wp2_with fail
   go_roundw
   case rel=>exact⟨k+n,d++[c],r,by rw[HC.out,List.append_assoc];rfl,by rw[HK.out,List.flatten_append,List.length_append];simp[HN.out],by go_num,by rw[List.length_append];exact HO.out,HB.out⟩
   case measure=>simp[intOf];omega
  | nil=>
   have ek:¬ k<s.size:=by have:=congrArg List.length hdrop;rw[List.length_drop,hll] at this;simp at this;omega
   have hkk:k=s.size:=by omega
   have HC:Hid (d=cs):=by rw[hcs,List.append_nil];trivial
   clear hcs ek hdrop;subst hkk;go_wp2_with fail
   go_ret
   refine⟨_,rfl,?_,hbel⟩;rw[←HC.out];exact hown
def Wo (w:World) (A:Option Addr) (cs:List (List UInt8)):Prop:=
 ∀ i,i<cs.length→∃ b o,A=some ⟨b,o,none⟩∧b<w.heap.size∧w.cell? ⟨b,o+i,none⟩=some (.string (fB (cs.getD i [])))
theorem AL {w:World} {base:Nat} {v:Value} {cs:List (List UInt8)} (h:w.ownsRow base 9 1 v cs.length (kR cs)):∃ A c,v=.slice A cs.length c∧Wo w A cs:=by
 have h0:=h;rcases h.2 with ⟨rfl,hn⟩ | ⟨g,cap,cur,rfl,_,hg,_⟩
 ·refine⟨none,0,by rw[hn],fun i hi=>by omega⟩
 ·refine⟨_,_,rfl,fun i hi=>⟨g,0,rfl,lt_of_block hg,?_⟩⟩;rw[Nat.zero_add,h0.cellAt i (by omega)];simp[kR,List.getD,hi]
theorem DI (A:Option Addr) (cap:Nat) (cs:List (List UInt8)) (a t:Int) (w:World) (hA:Wo w A cs) (hl:cs.flatten.length≤100000) (ha:a≤9223372036854775807) (ht:t≤9223372036854775807):
  Calls Tryz.prog 92 #[.slice A cs.length cap,.int .i64 a,.int .i64 t] w fun e w'=>e=.returned (.string (fB (seg cs a.toNat t.toNat).flatten))∧w=w':=by
 obtain⟨m,hm⟩:∃ m:Nat,m=a.toNat:=⟨_,rfl⟩
 have hmx:max a 0=(m:Int):=by omega
 have hmb:(m:Int)≤9223372036854775807:=by omega
 rw[←hm];clear hm
 go_enter Tryz.func92,Tryz.ntmps92
 go_wp2_with fail;have hse:=nG cs m m (Nat.le_refl _)
 go_loop [7,8] (fun v i=>∃ k:Nat,m≤k∧(k=m∨((k:Int)≤t∧k≤cs.length))∧i=.int .i64 k∧v=.string (fB (seg cs m k).flatten)) (fun _ i=>cs.length - (intOf i).toNat)
 case atStart=>exact⟨m,Nat.le_refl _,.inl rfl,rfl,by rw[hse];rfl⟩
 case round=>
  obtain⟨k,hmk,hor,rfl,rfl⟩:=hrel;by_cases hlt:(k:Int)<t∧k<cs.length
  ·obtain⟨b,o,rfl,hb,hc⟩:=hA k hlt.2;obtain⟨h1,h2⟩:=hlt;have h2':(k:Int)<(cs.length:Int):=by omega
   have hst:=Ht cs m k hmk h2;have hsl:=zu cs m k;have hsl2:=zu cs m (k+1);have e1:∀ c:List UInt8,[c].flatten=c:=fun c=>by simp
   rw[hst,List.flatten_append,List.length_append,e1] at hsl2;obtain⟨c,hcc⟩:=eX (cs.getD k [])
   rw[hcc] at hc hst hsl2;obtain⟨L,hL⟩:=eX ((seg cs m k).flatten)
   rw[hL] at hsl hsl2 ⊢;have hcl:(fB c).size≤100000:=by rw[ko];omega
   have hLl:(fB L).size≤100000:=by rw[ko];omega
   have had:∀ W:World,(Op.stringOp .add (fB L) (fB c)).run Tryz.prog W=.ok (.string (fB L++fB c)) W:=fun W=>run_string_add_sum W _ _ (by omega);have hS:fB (seg cs m (k+1)).flatten=fB L++fB c:=by rw[hst,List.flatten_append,hL,l6,e1]
   have HS:=zh hS;clear hS e1 hst hcc hL hsl hsl2 hse;go_wp2_with fail
   go_round
   case rel=>exact⟨k+1,by omega,.inr ⟨by omega,by omega⟩,by go_num,by rw[HS.out]⟩
   case measure=>simp[intOf];omega
  ·have hfin:seg cs m k=seg cs m t.toNat:=by
    rcases hor with rfl | ⟨h1,h2⟩
    ·by_cases hkt:(k:Int)<t
     ·exact L6 cs k k _ (by omega) (by omega)
     ·rw[nG cs k k (Nat.le_refl _),nG cs k _ (by omega)]
    ·by_cases hkt:(k:Int)<t
     ·exact L6 cs m k _ (by omega) (by omega)
     ·rw[show k=t.toNat from by omega]
   have HF:=zh hfin;clear hfin hse;by_cases hkt:(k:Int)<t
   ·have hkl:¬ (k:Int)<(cs.length:Int):=by omega
    go_wp2_with fail
    go_ret
    exact⟨WR (by rw[HF.out]),rfl⟩
   ·go_wp2_with fail
    go_ret
    exact⟨WR (by rw[HF.out]),rfl⟩
end
end Go.Proofs.YtmhjlifmcadefaaGreatDoor
