/- Part of a proof about trees. -/
import Derived.ArgAppend
import Derived.Test.YtmhjlifmcadefaaGreatDoorS00
set_option linter.unusedVariables false
set_option linter.unusedSimpArgs false
set_option linter.unusedSectionVars false
namespace Go.Proofs.YtmhjlifmcadefaaGreatDoor
section
open Go Go.RowKit
def TR (w:World) (base:Nat) (e:TypeId) (size:Nat) (v:Value) (n:Nat) (xs:List Value):Prop:=
 xs.length=n*size∧
 ((v=.slice none 0 0∧n=0)∨
  ∃ g off cap cur,v=.slice (some ⟨g,off,none⟩) n cap∧base≤g∧w.heap[g]?=some (.cells cur e (0,0))∧n≤cap∧cap≤maxLen∧off+cap*size≤cur.size∧∀ j,j<n*size→cur[off+j]?=xs[j]?)
section
variable {w w':World} {base:Nat} {e:TypeId} {size:Nat} {v:Value} {n:Nat} {xs:List Value}
theorem TR.nil (w:World) (base:Nat) (e:TypeId) (size:Nat):TR w base e size (.slice none 0 0) 0 []:=⟨by simp,.inl ⟨rfl,rfl⟩⟩
theorem TR.jP (h:w.ownsRow base e size v n xs):TR w base e size v n xs:=by
 refine⟨h.1,?_⟩;rcases h.2 with h' | ⟨g,cap,cur,rfl,hb,hg,hn,hm,hs,ht⟩
 ·exact .inl h'
 ·refine .inr ⟨g,0,cap,cur,rfl,hb,hg,hn,hm,by omega,fun j hj=>?_⟩;rw[←ht,List.getElem?_take,if_pos hj];simp
theorem TR.lt (h:TR w base e size v n xs):∀ k,v.ownBlock=some k→base≤k∧k<w.heap.size:=by
 intro k hk;rcases h.2 with ⟨rfl,_⟩ | ⟨g,off,cap,cur,rfl,hb,hg,_⟩
 ·simp[Value.ownBlock] at hk
 ·simp[Value.ownBlock] at hk;subst hk;exact⟨hb,(Array.getElem?_eq_some_iff.1 hg).1⟩
theorem TR.turns {S:Nat→Prop} (h:TR w base e size v n xs) (ht:Turns S w w') (hn:∀ k,v.ownBlock=some k→¬ S k):TR w' base e size v n xs:=by
 refine⟨h.1,?_⟩;rcases h.2 with hv | ⟨g,off,cap,cur,rfl,hb,hg,hr⟩
 ·exact .inl hv
 ·exact .inr ⟨g,off,cap,cur,rfl,hb,(ht.block g (Array.getElem?_eq_some_iff.1 hg).1 (hn g (by simp[Value.ownBlock]))).trans hg,hr⟩
theorem TR.below (h:TR w base e size v n xs) (hb:Below w.heap.size w w'):TR w' base e size v n xs:=h.turns (S:=fun _=>False) (.of_below hb) fun _ _=>id
theorem TR.lower {B:Nat} (h:TR w base e size v n xs) (hB:B≤base):TR w B e size v n xs:=by
 refine⟨h.1,?_⟩;rcases h.2 with hv | ⟨g,off,cap,cur,rfl,hb,hr⟩
 ·exact .inl hv
 ·exact .inr ⟨g,off,cap,cur,rfl,by omega,hr⟩
theorem TR.form (h:TR w base e size v n xs):∃ A c,v=.slice A n c:=by
 rcases h.2 with ⟨rfl,rfl⟩ | ⟨g,off,cap,cur,rfl,_⟩
 ·exact⟨_,_,rfl⟩
 ·exact⟨_,_,rfl⟩
theorem TR.le {A:Option Addr} {c:Nat} (h:TR w base e size (.slice A n c) n xs):n≤c:=by
 rcases h.2 with ⟨_,rfl⟩ | ⟨g,off,cap,cur,hv,_,_,hnc,_⟩
 ·exact Nat.zero_le _
 ·injection hv with _ _ h3;omega
theorem TR.addr {A:Option Addr} {c:Nat} (h:TR w base e size (.slice A n c) n xs):(A=none∧n=0∧c=0)∨∃ g off,A=some ⟨g,off,none⟩:=by
 rcases h.2 with ⟨hv,rfl⟩ | ⟨g,off,cap,cur,hv,_⟩
 ·injection hv with h1 h2 h3;exact .inl ⟨h1,rfl,h3⟩
 ·injection hv with h1;exact .inr ⟨g,off,h1⟩
theorem TR.cells {A:Option Addr} {c:Nat} (h:TR w base e size (.slice A n c) n xs) (hn:0<n):∃ g off,A=some ⟨g,off,none⟩∧base≤g∧n≤c∧(∀ j u,j<n*size→xs[j]?=some u→w.cell? ⟨g,off+j,none⟩=some u)∧∀ j,w.frozen? ⟨g,j,none⟩=false:=by
 rcases h.2 with ⟨_,rfl⟩ | ⟨g,off,cap,cur,hv,hb,hg,hnc,hm,hs,hc⟩
 ·omega
 ·injection hv with h1 _ h3;subst h1 h3;refine⟨g,off,rfl,hb,hnc,fun j u hj hu=>?_,fun j=>frozen_of_row w g j cur e hg⟩;rw[cell_of_row w g (off+j) cur e (0,0) hg,hc j hj,hu]
theorem TR.cellAt {g off c:Nat} (h:TR w base e size (.slice (some ⟨g,off,none⟩) n c) n xs) (j:Nat) (u:Value) (hj:j<n*size) (hu:xs[j]?=some u):w.cell? ⟨g,off+j,none⟩=some u:=by
 have hn:0<n:=Nat.pos_of_ne_zero fun e=>by rw[e,Nat.zero_mul] at hj;omega
 obtain⟨g',off',hA,_,_,hc,_⟩:=h.cells hn;injection hA with hA;injection hA with h1 h2;subst h1 h2;exact hc j u hj hu
theorem TR.unlike {cs:Array Value} {t:TypeId} {b:Nat} (h:TR w base e size v n xs) (hb:Whole w b cs t) (hn:e≠t):v.ownBlock≠some b:=by
 intro hk;rcases h.2 with ⟨rfl,_⟩ | ⟨g,off,cap,cur,rfl,_,hg,_⟩
 ·simp[Value.ownBlock] at hk
 ·simp[Value.ownBlock] at hk;subst hk;exact Whole.unlike (show Whole w g cur e from hg) hb hn rfl
theorem TR.ne {b2 s2 n2:Nat} {e2:TypeId} {v2:Value} {x2:List Value} (h1:TR w base e size v n xs) (h2:TR w b2 e2 s2 v2 n2 x2) (hn:e≠e2):∀ k,v.ownBlock=some k→v2.ownBlock≠some k:=by
 intro k hk hk2;rcases h2.2 with ⟨rfl,_⟩ | ⟨g,off,cap,cur,rfl,_,hg,_⟩
 ·simp[Value.ownBlock] at hk2
 ·simp[Value.ownBlock] at hk2;subst hk2;exact h1.unlike (show Whole w g cur e2 from hg) hn hk
def tailV (v:Value) (k size:Nat):Value:=
 match v with
 | .slice A n c=>.slice (if c=k then A else A.map (·.add (k*size))) (n - k) (c - k)
 | v=>v
theorem TR.tail {k:Nat} (h:TR w base e size v n xs) (hk:k≤n):TR w base e size (tailV v k size) (n - k) (xs.drop (k*size)):=by
 have hl:(xs.drop (k*size)).length=(n - k)*size:=by rw[List.length_drop,h.1,Nat.mul_sub_right_distrib]
 refine⟨hl,?_⟩;rcases h.2 with ⟨rfl,rfl⟩ | ⟨g,off,cap,cur,rfl,hb,hg,hnc,hm,hs,hc⟩
 ·left;have:k=0:=by omega
  subst this;exact⟨rfl,rfl⟩
 ·right;have hms:n*size=k*size+(n - k)*size:=by rw[←Nat.add_mul];congr 1;omega
  have hmc:cap*size=k*size+(cap - k)*size:=by rw[←Nat.add_mul];congr 1;omega
  by_cases hck:cap=k
  ·refine⟨g,off,cap - k,cur,by simp[tailV,hck],hb,hg,by omega,by omega,by omega,fun j hj=>?_⟩;have:n - k=0:=by omega
   rw[this] at hj;omega
  ·refine⟨g,off+k*size,cap - k,cur,?_,hb,hg,by omega,by omega,by omega,fun j hj=>?_⟩
   ·have e:(⟨g,off,none⟩:Addr).add (k*size)=⟨g,off+k*size,none⟩:=by unfold Addr.add;split<;>simp_all
    simp[tailV,hck,e]
   ·rw[List.getElem?_drop,←hc (k*size+j) (by omega)];congr 1;omega
def Zi (v:Value) (k:Nat):Value:=
 match v with
 | .slice A _ c=>.slice A k c
 | v=>v
theorem TR.head {k:Nat} (h:TR w base e size v n xs) (hk:k≤n):TR w base e size (Zi v k) k (xs.take (k*size)):=by
 have hle:k*size≤n*size:=Nat.mul_le_mul_right _ hk;have hl:(xs.take (k*size)).length=k*size:=by rw[List.length_take,h.1];omega
 refine⟨hl,?_⟩;rcases h.2 with ⟨rfl,rfl⟩ | ⟨g,off,cap,cur,rfl,hb,hg,hnc,hm,hs,hc⟩
 ·left;have:k=0:=by omega
  subst this;exact⟨rfl,rfl⟩
 ·refine .inr ⟨g,off,cap,cur,rfl,hb,hg,by omega,hm,hs,fun j hj=>?_⟩;rw[List.getElem?_take,if_pos hj];exact hc j (by omega)
end
/-! Appending. -/
section
variable {P:Program} {w:World}
theorem um (t ty e:TypeId) (i:TypeInfo) (ht:P.underlying t=some (.slice e)) (hi:P.info? e=some i)
  (g off sLen sCap:Nat) (cur:Array Value) (hg:w.heap[g]?=some (.cells cur e (0,0)))
  (a:Addr) (m c:Nat) (news:List Value) (hl:news.length=m*i.size) (hnews:∀ j u,news[j]?=some u→w.cell? (a.add j)=some u) (h1:∀ u∈news,u.oneCell'=true)
  (hroom:sLen+m≤sCap) (hfit:off+sLen*i.size+news.length≤cur.size):
  (Builtin.append_ #[t,t] ty #[.slice (some ⟨g,off,none⟩) sLen sCap,.slice (some a) m c]).run P w=
   .ok (.slice (some ⟨g,off,none⟩) (sLen+m) sCap) (w.setRow g (cur.toList.take (off+sLen*i.size)++news++cur.toList.drop (off+sLen*i.size+news.length)).toArray):=by
 have hf:=run_firstCells_some (P:=P) w i.size m a m c news hl hnews;have hst:=run_storeCells_at P g (off+sLen*i.size) e news 0 cur w hg (by simpa using hfit) h1;simp only[Nat.add_zero] at hst;simp[Builtin.append_,run_underlying ht,sizeOf,typeInfo,hi,Builtin.lenOf,hroom,hf,Addr.add_lit,hst]
theorem mJ (base:Nat) (t ty e:TypeId) (i:TypeInfo) (z:Value) (size bytes:Nat) (ht:P.underlying t=some (.slice e)) (hi:P.info? e=some i) (hz:i.zero=some z)
  (hsize:i.size=size) (hby:i.bytes=bytes) (hzs:z.cells.size=size) (hsz:0<size)
  (v:Value) (n:Nat) (xs:List Value) (hown:TR w base e size v n xs) (v2:Value) (m:Nat) (ys:List Value) (hyl:ys.length=m*size)
  (hsrc:(v2=.slice none 0 0∧m=0)∨∃ a c,v2=.slice (some a) m c∧∀ j u,ys[j]?=some u→w.cell? (a.add j)=some u) (h1:∀ u∈ys,u.oneCell'=true)
  (h63:n+m≤maxLen) (hbytes:(n+m)*bytes≤140737488355328) (hbase:base≤w.heap.size):
  ∃ v' w',(Builtin.append_ #[t,t] ty #[v,v2]).run P w=.ok v' w'∧TR w' base e size v' (n+m) (xs++ys)∧w.grownBy w' v.ownBlock∧mP w v v':=by
 have hsmall:n+m≤9223372036854775807:=by simp only[maxLen] at h63;omega
 have hlen:(xs++ys).length=(n+m)*size:=by rw[List.length_append,hown.1,hyl,Nat.add_mul]
 rcases hsrc with ⟨rfl,rfl⟩ | ⟨a,c,rfl,hcells⟩
 ·have hy:ys=[]:=by
   rw[Nat.zero_mul] at hyl;exact List.eq_nil_of_length_eq_zero hyl
  subst hy;refine⟨v,w,?_,by rw[List.append_nil,Nat.add_zero];exact hown,⟨rfl,rfl,rfl,Nat.le_refl _,fun _ _ _=>rfl⟩,.inl rfl⟩;rcases hown.2 with ⟨rfl,rfl⟩ | ⟨g,off,cap,cur,rfl,_,_,hnc,_⟩
  ·simp[Builtin.append_,run_underlying ht,sizeOf,typeInfo,hi,Builtin.lenOf,Builtin.firstCells]
  ·simp[Builtin.append_,run_underlying ht,sizeOf,typeInfo,hi,Builtin.lenOf,Builtin.firstCells,hnc,storeCells]
 ·rcases hown.2 with ⟨rfl,rfl⟩ | ⟨g,off,cap,cur,rfl,hbg,hg,hnc,hcm,hcs,hc⟩
  ·have hx:xs=[]:=by
    have:=hown.1;rw[Nat.zero_mul] at this;exact List.eq_nil_of_length_eq_zero this
   subst hx;obtain⟨v',w',hr,h2,h3,_⟩:=run_append_own (P:=P) w w.heap.size t ty e i z size bytes ht hi hz hsize hby hzs hsz _ _ _ (World.ownsRow_nil w w.heap.size e size) a m c ys hyl hcells h1 h63 hbytes (Nat.le_refl _);exact⟨v',w',hr,(TR.jP h2).lower hbase,h3,.inr fun k hk=>(h2.lt k hk).1⟩
  ·by_cases hroom:n+m≤cap
   ·subst hsize;have hmul:(n+m)*i.size≤cap*i.size:=Nat.mul_le_mul_right _ hroom;rw[Nat.add_mul] at hmul;have hfit:off+n*i.size+ys.length≤cur.size:=by rw[hyl];omega
    have hr:=um (P:=P) (w:=w) t ty e i ht hi g off n cap cur hg a m c ys hyl hcells h1 hroom hfit;refine⟨_,_,hr,⟨hlen,.inr ⟨g,off,cap,_,rfl,hbg,setRow_heap w g cur _ e _ hg,hroom,hcm,?_,fun j hj=>?_⟩⟩,⟨rfl,rfl,rfl,by simp,fun k _ hk=>setRow_other w g k _ (fun e=>hk (by simp[Value.ownBlock,e]))⟩,.inl (by simp[Value.ownBlock])⟩
    ·simp only[List.size_toArray,List.length_append,List.length_take,List.length_drop,Array.length_toList];omega
    ·have hx:=hown.1;have htl:(cur.toList.take (off+n*i.size)).length=off+n*i.size:=by rw[List.length_take,Array.length_toList];omega
     rw[List.getElem?_toArray,List.append_assoc];rw[Nat.add_mul] at hj;by_cases hjn:j<n*i.size
     ·rw[List.getElem?_append_left (by omega),List.getElem?_take,if_pos (by omega),List.getElem?_append_left (by omega),←hc j hjn];simp
     ·rw[List.getElem?_append_right (by omega),htl,List.getElem?_append_left (by omega),List.getElem?_append_right (by omega),hx];congr 1;omega
   ·have holds:∀ j u,xs[j]?=some u→w.cell? ((⟨g,off,none⟩:Addr).add j)=some u:=fun j u hu=>by
     have hj:=(List.getElem?_eq_some_iff.1 hu).1;rw[hown.1] at hj;rw[Addr.add_lit,cell_of_row w g (off+j) cur e (0,0) hg,hc j hj,hu]
    obtain⟨v',w',hr,h2,h3⟩:=run_append_arg_grows (P:=P) w t ty e i z size bytes ht hi hz hsize hby hzs hsz ⟨g,off,none⟩ n cap xs hown.1 holds a m c ys hyl hcells (by omega) h63 hbytes;exact⟨v',w',hr,(TR.jP h2).lower hbase,⟨h3.os,h3.tape,h3.output,h3.size,fun k hk _=>h3.block k hk (by simp)⟩,.inr fun k hk=>(h2.lt k hk).1⟩
theorem bA {ops:Array Oper} {rest:List Oper} {o:Oper} {a:Act} {Q:Exit→Act→World→Prop} (hgd:o.guard=none) (s x:Operand) (t:TypeId)
  (ho:o.op=.call { callee:=.builtin .append,args:=#[s,x],argTypes:=#[t,t] })
  (base:Nat) (e:TypeId) (i:TypeInfo) (z:Value) (size bytes:Nat) (ht:P.underlying t=some (.slice e)) (hi:P.info? e=some i) (hz:i.zero=some z)
  (hsize:i.size=size) (hby:i.bytes=bytes) (hzs:z.cells.size=size) (hsz:0<size)
  (v:Value) (n:Nat) (xs:List Value) (hs:a.eval s=v) (hown:TR w base e size v n xs) (v2:Value) (m:Nat) (ys:List Value) (hx:a.eval x=v2) (hyl:ys.length=m*size)
  (hsrc:(v2=.slice none 0 0∧m=0)∨∃ a c,v2=.slice (some a) m c∧∀ j u,ys[j]?=some u→w.cell? (a.add j)=some u) (h1:∀ u∈ys,u.oneCell'=true)
  (h63:n+m≤maxLen) (hbytes:(n+m)*bytes≤140737488355328) (hbase:base≤w.heap.size)
  (h:∀ v' w',TR w' base e size v' (n+m) (xs++ys)→w.grownBy w' v.ownBlock→mP w v v'→wpList P ops Q rest (a.put o.dst v') w'):wpList P ops Q (o::rest) a w:=by
 refine wpList_plain hgd fun K hK=>?_;obtain⟨v',w',hr,h2,h3,h4⟩:=mJ (P:=P) base t o.type e i z size bytes ht hi hz hsize hby hzs hsz v n xs hown v2 m ys hyl hsrc h1 h63 hbytes hbase;unfold Oper.wp execOp;simp only[ho,resolve,invoke,builtin,Sem.run_bind,Sem.run_pure,Result.andThen_ok,List.map_toArray,List.map_cons,List.map_nil,hs,hx,hr];exact hK _ _ (h v' w' h2 h3 h4)
theorem aQ {ops:Array Oper} {o:Oper} {a:Act} {K:Act→World→Prop} {Q:Exit→Act→World→Prop} {E:Prop} (hgd:o.guard=none) (s x:Operand) (t:TypeId)
  (ho:o.op=.call { callee:=.builtin .append,args:=#[s,x],argTypes:=#[t,t] })
  (base:Nat) (e:TypeId) (i:TypeInfo) (z:Value) (size bytes:Nat) (ht:P.underlying t=some (.slice e)) (hi:P.info? e=some i) (hz:i.zero=some z)
  (hsize:i.size=size) (hby:i.bytes=bytes) (hzs:z.cells.size=size) (hsz:0<size)
  (v:Value) (n:Nat) (xs:List Value) (hs:a.eval s=v) (hown:TR w base e size v n xs) (v2:Value) (m:Nat) (ys:List Value) (hx:a.eval x=v2) (hyl:ys.length=m*size)
  (hsrc:(v2=.slice none 0 0∧m=0)∨∃ a c,v2=.slice (some a) m c∧∀ j u,ys[j]?=some u→w.cell? (a.add j)=some u) (h1:∀ u∈ys,u.oneCell'=true)
  (h63:n+m≤maxLen) (hbytes:(n+m)*bytes≤140737488355328) (hbase:base≤w.heap.size)
  (h:∀ v' w',TR w' base e size v' (n+m) (xs++ys)→w.grownBy w' v.ownBlock→mP w v v'→K (a.put o.dst v') w'):
  if Region.wanted o (yielded ops a.tmps)=true then Oper.wp P o a w K Q else E:=by
 have hw:Region.wanted o (yielded ops a.tmps)=true:=by simp[Region.wanted,hgd]
 rw[if_pos hw];obtain⟨v',w',hr,h2,h3,h4⟩:=mJ (P:=P) base t o.type e i z size bytes ht hi hz hsize hby hzs hsz v n xs hown v2 m ys hyl hsrc h1 h63 hbytes hbase;unfold Oper.wp execOp;simp only[ho,resolve,invoke,builtin,Sem.run_bind,Sem.run_pure,Result.andThen_ok,List.map_toArray,List.map_cons,List.map_nil,hs,hx,hr];exact h v' w' h2 h3 h4
end
theorem TR.source {w:World} {base:Nat} {e:TypeId} {size:Nat} {v:Value} {n:Nat} {xs:List Value} (h:TR w base e size v n xs):
  (v=.slice none 0 0∧n=0)∨∃ a c,v=.slice (some a) n c∧∀ j u,xs[j]?=some u→w.cell? (a.add j)=some u:=by
 rcases h.2 with h' | ⟨g,off,cap,cur,rfl,hb,hg,hnc,hm,hs,hc⟩
 ·exact .inl h'
 ·refine .inr ⟨_,_,rfl,fun j u hu=>?_⟩;have hj:=(List.getElem?_eq_some_iff.1 hu).1;rw[h.1] at hj;rw[Addr.add_lit,cell_of_row w g (off+j) cur e (0,0) hg,hc j hj,hu]
theorem nM (w:World) (E:TypeId) (cs:List Value):((.slice (some ⟨w.heap.size,0,none⟩) 1 1:Value)=.slice none 0 0∧1=0)∨∃ a c,(.slice (some ⟨w.heap.size,0,none⟩) 1 1:Value)=.slice (some a) 1 c∧∀ j u,cs[j]?=some u→(w.alloc (.cells cs.toArray E)).cell? (a.add j)=some u:=by
 refine .inr ⟨_,_,rfl,fun j u hu=>?_⟩;have hg:(w.alloc (.cells cs.toArray E)).heap[w.heap.size]?=some (.cells cs.toArray E (0,0)):=heap_alloc_new w _;rw[Addr.add_lit,cell_of_row _ _ _ _ E (0,0) hg];simpa using hu
theorem TR.stored {w:World} {base:Nat} {e:TypeId} {size:Nat} {g off n c:Nat} {xs:List Value} (h:TR w base e size (.slice (some ⟨g,off,none⟩) n c) n xs) (j:Nat) (u:Value):
  TR (w.setCell ⟨g,off+j,none⟩ u) base e size (.slice (some ⟨g,off,none⟩) n c) n (xs.set j u)∧w.grownBy (w.setCell ⟨g,off+j,none⟩ u) (some g):=by
 rcases h.2 with ⟨hv,_⟩ | ⟨g',off',cap,cur,hv,hb,hg,hnc,hm,hs,hc⟩
 ·cases hv
 ·injection hv with h1 h2 h3;injection h1 with h1;injection h1 with h1 h4 _;subst h1 h3 h4;refine⟨⟨by rw[List.length_set];exact h.1,.inr ⟨g,off,c,cur.setIfInBounds (off+j) u,rfl,hb,heap_setCell_same w g (off+j) cur e u hg,hnc,hm,by simpa using hs,fun k hk=>?_⟩⟩,aJ (ay (Below.refl w.heap.size w) _) _ _⟩;have hsz:off+k<cur.size:=by
   have:n*size≤c*size:=Nat.mul_le_mul_right _ hnc;omega
  rw[List.getElem?_set];by_cases e1:j=k
  ·subst e1;rw[if_pos rfl,if_pos (by rw[h.1];exact hk),Array.getElem?_setIfInBounds,if_pos rfl,if_pos hsz]
  ·rw[if_neg e1,Array.getElem?_setIfInBounds,if_neg (by omega)];exact hc k hk
theorem TR.frozen {w:World} {base:Nat} {e:TypeId} {size:Nat} {g off n c:Nat} {xs:List Value} (h:TR w base e size (.slice (some ⟨g,off,none⟩) n c) n xs) (j:Nat):w.frozen? ⟨g,j,none⟩=false:=by
 rcases h.2 with ⟨hv,_⟩ | ⟨g',off',cap,cur,hv,hb,hg,_⟩
 ·cases hv
 ·injection hv with h1 h2 h3;injection h1 with h1;injection h1 with h1 h4 _;subst h1;exact frozen_of_row w g j cur e hg
theorem TR.zero {w:World} {base:Nat} {e:TypeId} {size:Nat} {v:Value} {n:Nat} {xs:List Value} (h:TR w base e size v n xs):TR w 0 e size v n xs:=h.lower (Nat.zero_le _)
theorem TR.kept {w w':World} {row:Option Nat} {base:Nat} {e:TypeId} {size:Nat} {v:Value} {n:Nat} {xs:List Value} (h:TR w base e size v n xs) (hg:w.grownBy w' row) (hn:v.ownBlock=none∨v.ownBlock≠row):TR w' base e size v n xs:=
 h.turns (S:=fun k=>row=some k) (.aU hg (fun k hk=>hk)) (fun k hk e=>by
  rcases hn with hn | hn
  ·rw[hn] at hk;cases hk
  ·exact hn (hk.trans e.symm))
end
end Go.Proofs.YtmhjlifmcadefaaGreatDoor
