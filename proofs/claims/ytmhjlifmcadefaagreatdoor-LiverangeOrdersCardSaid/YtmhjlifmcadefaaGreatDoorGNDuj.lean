/- Part of a proof about trees. -/
import Derived.Deep.RegionHeld3
import Derived.Sort.CutIn
import Derived.Test.YtmhjlifmcadefaaGreatDoorGNRcut
set_option linter.unusedVariables false
set_option linter.unusedSimpArgs false
set_option linter.unusedSectionVars false
namespace Go.Proofs.YtmhjlifmcadefaaGreatDoor
section
open Go.RowKit Go.Shelf
attribute [local go_sem] Oper.semAt_some
def OX (base B X tb:Nat) (b s root:Int) (n:Nat) (g:Tr.G) (av:Int→Tr.Sl) (vs vf:Value) (nd:Tr.GN) (w:World) (d:Int) (W:World):Prop:=
 ∃ (vs' dw:Value) (n' aY:Nat) (fr':List Nat) (sl:Tr.Sl),g d=none∧d≠0∧n'≤n+1∧TV base W B b s vs' n' (Tr.raw (Tr.dK g d { nd with pa:=0,kids:=[] }) (Tr.fq av d sl)) dw fr' aY root∧
  Sound b s n' (Tr.raw (Tr.dK g d { nd with pa:=0,kids:=[] }) (Tr.fq av d sl)) fr' aY∧AT W (Tr.dK g d { nd with pa:=0,kids:=[] }) (Tr.fq av d sl)∧aB w W (aD B vs vf) (aD B vs' dw)∧
  Whole W tb #[.pointer (some ⟨B,0,none⟩)] 37∧Whole W X #[.int .i64 d] 3∧¬ aD B vs' dw X∧w.heap.size≤X
theorem TV.aV {base B n live:Nat} {w:World} {b s root:Int} {vs vf:Value} {R:Int→Option Tr.Nd} {fr:List Nat} {k:Nat} {cs:Array Value} {t:TypeId} (hM:TV base w B b s vs n R vf fr live root) (hX:Whole w k cs t) (h1:t≠58) (h2:130≠t) (h3:3≠t):¬ aD B vs vf k:=by
 rintro (rfl | hx | hx)
 ·exact hX.unlike hM.var h1 rfl
 ·exact bE hM.row hX h2 hx
 ·exact bE hM.free hX h3 hx
theorem zl (base B tb:Nat) (b s root h:Int) (live n:Nat) (g:Tr.G) (av:Int→Tr.Sl) (fr:List Nat) (vs vf:Value) (nd:Tr.GN) (sl:Tr.Sl) (w W W2 W3:World) {vs' dw:Value} {X:Nat} {x0:Value} (hw:Tr.WF 0 g) (hm:TV base w B b s vs n (Tr.raw g av) vf fr live root) (hS:Sound b s n (Tr.raw g av) fr live) (hn:n<100000) (ha:AT w g av)
  (hB:Below w.heap.size w W) (hT:Whole W tb #[.pointer (some ⟨B,0,none⟩)] 37) (hr:AR W 0 sl.v nd.attrs)
  (hV:TV base W2 B b s vs' (fu n fr).1 (Tr.pJ (Tr.raw g av) (Ar.hdl b s ((fu n fr).2.2:Nat)) (some ⟨nd.kind,nd.name,sl,nd.data,0,0,0,0,0⟩)) dw (fu n fr).2.1 (live+1) root) (st:aB W W2 (aD B vs vf) (aD B vs' dw))
  (hb3:Below W2.heap.size W2 W3) (hX:Whole W3 X #[x0] 3) (hXF:¬ aD B vs' dw X) (Yu:w.heap.size≤X) (hXT:X≠tb):
  OX base B X tb b s root n g av vs vf nd w (Ar.hdl b s ((fu n fr).2.2:Nat)) (W3.setCell ⟨X,0,none⟩ (.int .i64 (Ar.hdl b s ((fu n fr).2.2:Nat)))):=by
 obtain⟨f1,f2,f3,f4,f5⟩:=lF hS hn;obtain⟨d,hd⟩:=eX (Ar.hdl b s ((fu n fr).2.2:Nat))
 rw[hd] at hV f4 f5 ⊢;have hg:g d=none:=by
  have:=aK (g:=g) (av:=av) (h:=d);rw[f4] at this;exact Option.not_isSome_iff_eq_none.1 (by rw[←this];simp)
 have hd0:d≠0:=by
  have:=(bH (f5 ⟨0,⟨#[]⟩,⟨none,0,0⟩,⟨#[]⟩,0,0,0,0,0⟩) (h:=d) (by rw[Tr.sK];rfl)).2;omega
 have hraw:Tr.raw (Tr.dK g d { nd with pa:=0,kids:=[] }) (Tr.fq av d sl)=Tr.pJ (Tr.raw g av) d (some ⟨nd.kind,nd.name,sl,nd.data,0,0,0,0,0⟩):=Tr.vB hg hw.zero rfl rfl;have gX:W3.grownBy (W3.setCell ⟨X,0,none⟩ (.int .i64 d)) (some X):=aJ (ay (Below.refl W3.heap.size W3) _) 0 _;have EC:=hm.below hB;have Xy:Whole W2 tb #[.pointer (some ⟨B,0,none⟩)] 37:=hT.turns st.1 (EC.aV hT (by decide) (by decide) (by decide));have hr2:AR W2 0 sl.v nd.attrs:=TR.nJ hr EC st (by decide) (by decide) (by decide);have ha2:=(ha.below hB).step EC st;have hr3:=hr2.below hb3;have ha3:=ha2.below hb3;refine⟨vs',dw,(fu n fr).1,live+1,(fu n fr).2.1,sl,hg,hd0,f2,?_,?_,?_,?_,?_,?_,hXF,Yu⟩
 ·rw[hraw];exact (hV.below hb3).turns (S:=fun k=>some X=some k) (.aU gX (fun k hk=>hk)) (fun k hk e=>hXF (by injection e with e;rw[e];exact hk))
 ·rw[hraw];exact f5 _
 ·intro x m e;by_cases hx:x=d
  ·subst hx;rw[Tr.bQ] at e;obtain rfl:=Option.some.inj e;rw[Tr.lG];exact TR.kept hr3 gX (.inr (TR.unlike hr3 hX (by decide)))
  ·rw[Tr.bZ hx] at e;rw[Tr.vC hx];have:=ha3 x m e;exact TR.kept this gX (.inr (TR.unlike this hX (by decide)))
 ·exact (((aB.of_below hB).trans st).trans (.of_below hb3)).lH (S:=fun k=>some X=some k) (.aU gX (fun k hk=>hk)) (fun k hk=>by injection hk with hk;omega)
 ·exact (Xy.below hb3 Xy.lt).other (fun e=>hXT e.symm) _
 ·exact hX.put 0 _
theorem Tr.WF.Dq {z:Int} {g:Tr.G} (w:Tr.WF z g) {h:Int}:∀ (e f:Nat),129≤f+(Tr.aS g h).length→Tr.walk g (f+e) h=Tr.walk g f h
 | 0,_,_=>rfl
 | e+1,f,hf=>by rw[←Nat.add_assoc,w.Dr (f+e) h (by omega)];exact w.Dq e f hf
theorem Tr.WF.zV {z:Int} {g:Tr.G} (w:Tr.WF z g) {h:Int} {f:Nat} (hf:f+(Tr.aS g h).length=129):Tr.walk g f h=Tr.ak g h:=by
 have:=w.Dq (h:=h) (129 - f) f (by omega);rw[←this,show f+(129 - f)=129 by omega];rfl
theorem TV.Jt {base B n live:Nat} {W:World} {b s root:Int} {vs vf:Value} {R:Int→Option Tr.Nd} {fr:List Nat} (H:TV base W B b s vs n R vf fr live root) {k:Nat} (hk:aD B vs vf k):∃ cs t fz,W.heap[k]?=some (.cells cs t fz):=by
 rcases hk with rfl | hk | hk
 ·exact⟨_,_,_,H.var⟩
 ·rcases H.row.2 with ⟨e1,_⟩ | ⟨g',cap,cur,e1,_,hg',_⟩
  ·rw[e1] at hk;simp[Value.ownBlock] at hk
  ·rw[e1] at hk;have:g'=k:=by simpa [Value.ownBlock] using hk
   rw[←this];exact⟨_,_,_,hg'⟩
 ·rcases H.free.2 with ⟨e1,_⟩ | ⟨g',cap,cur,e1,_,hg',_⟩
  ·rw[e1] at hk;simp[Value.ownBlock] at hk
  ·rw[e1] at hk;have:g'=k:=by simpa [Value.ownBlock] using hk
   rw[←this];exact⟨_,_,_,hg'⟩
theorem FX {base B n live:Nat} {W W':World} {b s root:Int} {vs vf:Value} {R:Int→Option Tr.Nd} {fr:List Nat} {F':Nat→Prop} (H:TV base W B b s vs n R vf fr live root) (st:aB W W' (aD B vs vf) F'):KeepsOthers W W':=⟨st.1.size,fun k o hk hc=>by
 by_cases hf:aD B vs vf k
 ·obtain⟨cs,t,fz,e⟩:=H.Jt hf;rw[e] at hk;obtain rfl:=Option.some.inj hk;cases hc
 ·exact (st.1.block k (Array.getElem?_eq_some_iff.1 hk).1 hf).trans hk⟩
theorem AT.others {W W':World} {g:Tr.G} {av:Int→Tr.Sl} {row:Option Nat} (h:AT W g av) (hg:W.grownBy W' row) (hr:∀ r,row=some r→∃ o:Obj,W.heap[r]?=some o∧o.isCells=false):AT W' g av:=fun x m e=>by
 have h1:=h x m e;refine TR.kept h1 hg ?_;cases ho:(av x).v.ownBlock with
 | none=>exact .inl rfl
 | some k=>
  refine .inr fun e2=>?_;obtain⟨o,ho2,hc⟩:=hr k e2.symm;rcases h1.2 with ⟨e3,_⟩ | ⟨gb,off,cap,cur,e3,_,hgb,_⟩
  ·rw[e3] at ho;simp[Value.ownBlock] at ho
  ·rw[e3] at ho;have:gb=k:=by simpa [Value.ownBlock] using ho
   subst this;rw[hgb] at ho2;obtain rfl:=Option.some.inj ho2;cases hc
def Vt (B bt bh:Nat) (b s h:Int) (l:List Int) (W:World):Prop:=
 (∃ (base n live:Nat) (vs vf:Value) (R:Int→Option Tr.Nd) (fr:List Nat) (root:Int),TV base W B b s vs n R vf fr live root∧Sound b s n R fr live∧((R h).getD Tr.yX).fi=Tr.fs l∧∀ x∈l,∃ e,R x=some e∧e.ne=Tr.nD l x)∧
  Whole W bt #[.pointer (some ⟨B,0,none⟩)] 37∧Whole W bh #[.int .i64 h] 3
theorem dki (B bt bh:Nat) (b s h:Int) (l:List Int):Vu (Vt B bt bh b s h l) B bt bh b s h l where
 read W H:=H.1
 below W W' hb H:=by
  obtain⟨⟨base,n,live,vs,vf,R,fr,root,h1,h2⟩,h3,h4⟩:=H;exact⟨⟨base,n,live,vs,vf,R,fr,root,h1.below hb,h2⟩,h3.below hb h3.lt,h4.below hb h4.lt⟩
 box W H:=⟨H.2.1.cell 0,H.2.2.cell 0⟩
theorem MO {B bt bh:Nat} {b s h:Int} {l:List Int} (w:World):∀ (W:World) (k:Nat) (o o':Obj),w.heap.size≤k→W.heap[k]?=some o→o.isCells=false→o.isWalk=false→Vt B bt bh b s h l W→Vt B bt bh b s h l (W.putObj k o'):=
 fun W k o o' _ hl hc _ H=>by
  obtain⟨⟨base,n,live,vs,vf,R,fr,root,h1,h2⟩,h3,h4⟩:=H;have hr:∀ r,some k=some r→∃ o:Obj,W.heap[r]?=some o∧o.isCells=false:=fun r e=>by cases e;exact⟨o,hl,hc⟩
  exact⟨⟨base,n,live,vs,vf,R,fr,root,h1.others (grownBy_putObj' W k o') hr,h2⟩,bg h3 (grownBy_putObj' W k o') hr,bg h4 (grownBy_putObj' W k o') hr⟩
theorem RU {B bt bh:Nat} {b s h:Int} {l:List Int} (hh:gI h) (hnd:l.Nodup) (h0:0∉l) (k:Nat) (hk:2≤k) (w:World) (H:Vt B bt bh b s h l w):
  SeqStopsK Fence.wide k Tryz.prog 137 #[.pointer (some ⟨bt,0,none⟩),.pointer (some ⟨bh,0,none⟩)] (fun x:{x:Int // x∈l}=>#[.int .i64 x.1])
   (fun A B'=>Vt B bt bh b s h l A→Vt B bt bh b s h l B') (fun xs=>xs=l.attach) (fun pre=>pre <+: l.attach) l.length w:=
 fun lp J Jx W hW hJ _ hY h0'=>FY _ B bt bh lp k b s h l J Jx W (dki B bt bh b s h l) hh hnd h0 hk hJ hY ((dki B bt bh b s h l).below w W hW H) h0'
def Vv (base B:Nat) (b s root:Int) (n:Nat) (g:Tr.G) (vs vf:Value) (h:Int) (f:Nat) (w:World) (e:Ending) (w':World):Prop:=
 ∃ (d:Int) (ds:List Int) (vs' dw:Value) (n' aY:Nat) (fr':List Nat) (iK:Int→Tr.Sl) (g':Tr.G),e=.returned (.int .i64 d)∧n'≤n+ds.length∧TV base w' B b s vs' n' (Tr.raw g' iK) dw fr' aY root∧Sound b s n' (Tr.raw g' iK) fr' aY∧
  Tr.WF 0 g'∧AT w' g' iK∧aB w w' (aD B vs vf) (aD B vs' dw)∧Tr.Cp g g' f h d 0 (Tr.walk g f h) ds∧ds.Nodup∧(∀ z∈ds,g z=none∧z≠0)∧∀ z,z∉ds→g' z=g z
def DJ (base B X tb bt bh:Nat) (b s root h:Int) (n:Nat) (g:Tr.G) (nd:Tr.GN) (f:Nat) (d:Int) (vs vf:Value) (w:World) (pre:List Int) (W:World):Prop:=
 ∃ (vs' dw:Value) (n' aY:Nat) (fr':List Nat) (iK:Int→Tr.Sl) (gj:Tr.G) (ys l m:List Int),TV base W B b s vs' n' (Tr.raw gj iK) dw fr' aY root∧Sound b s n' (Tr.raw gj iK) fr' aY∧
  Tr.WF 0 gj∧AT W gj iK∧Tr.vD 0 g g nd f d 0 gj pre ys l m∧n'≤n+1+l.length∧aB w W (aD B vs vf) (aD B vs' dw)∧¬ aD B vs' dw X∧¬ aD B vs' dw bh∧
  Whole W tb #[.pointer (some ⟨B,0,none⟩)] 37∧Whole W X #[.int .i64 d] 3∧Whole W bt #[.pointer (some ⟨B,0,none⟩)] 37∧Whole W bh #[.int .i64 h] 3
section
variable {base B X tb bt bh n f:Nat} {b s root h d:Int} {g:Tr.G} {nd:Tr.GN} {vs vf:Value} {w W W':World} {pre:List Int}
theorem DJ.others {row:Option Nat} (H:DJ base B X tb bt bh b s root h n g nd f d vs vf w pre W) (hg:W.grownBy W' row) (hr:∀ r,row=some r→w.heap.size≤r∧∃ o:Obj,W.heap[r]?=some o∧o.isCells=false):DJ base B X tb bt bh b s root h n g nd f d vs vf w pre W':=by
 obtain⟨vs',dw,n',aY,fr',iK,gj,ys,l,m,h1,h2,h3,h4,h5,h6,h7,h8,h9,i1,i2,i3,i4⟩:=H;have hr':∀ r,row=some r→∃ o:Obj,W.heap[r]?=some o∧o.isCells=false:=fun r e=>(hr r e).2;exact⟨vs',dw,n',aY,fr',iK,gj,ys,l,m,h1.others hg hr',h2,h3,h4.others hg hr',h5,h6,h7.lH (S:=fun k=>row=some k) (.aU hg (fun k hk=>hk)) (fun k hk=>(hr k hk).1),h8,h9,bg i1 hg hr',bg i2 hg hr',bg i3 hg hr',bg i4 hg hr'⟩
theorem DJ.below (H:DJ base B X tb bt bh b s root h n g nd f d vs vf w pre W) (hb:Below W.heap.size W W'):DJ base B X tb bt bh b s root h n g nd f d vs vf w pre W':=by
 obtain⟨vs',dw,n',aY,fr',iK,gj,ys,l,m,h1,h2,h3,h4,h5,h6,h7,h8,h9,i1,i2,i3,i4⟩:=H;exact⟨vs',dw,n',aY,fr',iK,gj,ys,l,m,h1.below hb,h2,h3,h4.below hb,h5,h6,h7.trans (.of_below hb),h8,h9,i1.below hb i1.lt,i2.below hb i2.lt,i3.below hb i3.lt,i4.below hb i4.lt⟩
theorem DJ.kids (H:DJ base B X tb bt bh b s root h n g nd f d vs vf w pre W) (hw:Tr.WF 0 g) (eg:g h=some nd):Vt B bt bh b s h nd.kids W:=by
 obtain⟨vs',dw,n',aY,fr',iK,gj,ys,l,m,h1,h2,h3,h4,h5,h6,h7,h8,h9,i1,i2,i3,i4⟩:=H;have hold:∀ z,(g z).isSome→gj z=g z:=fun z hz=>h5.old z fun hm=>by rw[(h5.fresh z hm).1] at hz;cases hz
 have eh:gj h=some nd:=by rw[hold h (by rw[eg];rfl)];exact eg
 refine⟨⟨base,n',aY,vs',dw,Tr.raw gj iK,fr',root,h1,h2,?_,fun x hx=>?_⟩,i3,i4⟩
 ·rw[Tr.aj eh];rfl
 ·obtain⟨mx,e1,e2⟩:=hw.down h nd x eg hx;have e3:gj x=some mx:=by rw[hold x (by rw[e1];rfl)];exact e1
  refine⟨_,Tr.aj e3,?_⟩;show Tr.nD (Tr.au gj mx.pa) x=_;rw[e2,Tr.aH eh]
def aaf (base B X tb bt bh:Nat) (b s root h:Int) (n:Nat) (g:Tr.G) (nd:Tr.GN) (f:Nat) (d:Int) (vs vf:Value) (w:World) (pre:List Int) (x:Int) (W:World) (c:Int) (w4:World):Prop:=
 Whole w4 tb #[.pointer (some ⟨B,0,none⟩)] 37∧Whole w4 X #[.int .i64 d] 3∧KeepsOthers W w4∧
 Calls Tryz.prog 77 #[.pointer (some ⟨B,0,none⟩),.int .i64 d,.int .i64 c,.int .i64 0] w4 fun e w'=>(∃ u,e=.returned u)∧DJ base B X tb bt bh b s root h n g nd f d vs vf w (pre++[x]) w'∧KeepsOthers w4 w'
theorem DJ.call (H:DJ base B X tb bt bh b s root h n g nd f d vs vf w pre W) (hw:Tr.WF 0 g) (eg:g h=some nd) {x:Int} (hx:x∈nd.kids) (hf:f+1+(Tr.aS g h).length=129) (hlen:pre.length<nd.kids.length) (hpre:∀ y∈pre,y∈nd.kids)
  (hcap:n+(Tr.ak g h).length*(Tr.ak g h).length≤99999) (hat:∀ y∈Tr.ak g h,∀ m,g y=some m→m.attrs.length≤1000)
  (IH:∀ (live n:Nat) (g:Tr.G) (av:Int→Tr.Sl) (fr:List Nat) (vs vf:Value) (h:Int) (w:World),TV base w B b s vs n (Tr.raw g av) vf fr live root→Sound b s n (Tr.raw g av) fr live→AT w g av→Tr.WF 0 g→(g h).isSome→(∀ y∈Tr.ak g h,∀ m,g y=some m→m.attrs.length≤1000)→f+(Tr.aS g h).length=129→n+(Tr.ak g h).length*(Tr.ak g h).length≤99999→
   Calls Tryz.prog 128 #[.pointer (some ⟨B,0,none⟩),.int .i64 h,.bool true] w (Vv base B b s root n g vs vf h f w)):
  Calls Tryz.prog 128 #[.pointer (some ⟨B,0,none⟩),.int .i64 x,.bool true] W fun e w4=>∃ c,e=.returned (.int .i64 c)∧aaf base B X tb bt bh b s root h n g nd f d vs vf w pre x W c w4:=by
 obtain⟨vs',dw,n',aY,fr',iK,gj,ys,l,m,h1,h2,h3,h4,h5,h6,h7,h8,h9,i1,i2,i3,i4⟩:=H;have hold:∀ z,(g z).isSome→gj z=g z:=fun z hz=>h5.old z fun hm=>by rw[(h5.fresh z hm).1] at hz;cases hz
 obtain⟨mx,ex,epx⟩:=hw.down h nd x eg hx;have hxs:(g x).isSome:=by rw[ex];rfl
 have hup:Tr.aS gj x=Tr.aS g x:=Tr.OY hw h3 hold hxs;have aag:Tr.aS g x=x::Tr.aS g h:=hw.jC eg hx;have hfx:f+(Tr.aS g x).length=129:=by rw[aag,List.length_cons];omega
 have hwk:Tr.ak g x=Tr.walk g f x:=(hw.zV hfx).symm;have Ju:∀ y z,z∈Tr.ak g y→(g z).isSome:=fun y z hz=>hw.lY hz;have hcl:∀ z∈Tr.walk g f x,∀ q,g z=some q→∀ k∈q.kids,(g k).isSome:=fun z _ q e k hk=>by
  obtain⟨mk,e1,_⟩:=hw.down z q k e hk;rw[e1];rfl
 have hag:Tr.walk gj f x=Tr.walk g f x:=Tr.qy f x (fun z hz=>hold z (Ju x z (by rw[hwk];exact hz))) hcl hxs;have hwj:Tr.ak gj x=Tr.ak g x:=by rw[←h3.zV (by rw[hup];exact hfx),hag,hwk]
 have hsub:∀ z∈Tr.ak g x,z∈Tr.ak g h:=fun z hz=>by rw[hw.bR eg];exact List.mem_cons_of_mem _ (List.mem_flatMap.2 ⟨x,hx,hz⟩)
 have h1w:∀ k∈nd.kids,1≤(Tr.ak g k).length:=fun k hk=>by
  obtain⟨mk,e1,_⟩:=hw.down h nd k eg hk;rw[hw.bR e1];simp
 have hS:(Tr.ak g h).length=1+(nd.kids.flatMap (Tr.ak g)).length:=by rw[hw.bR eg,List.length_cons];omega
 have hpart:∀ y∈nd.kids,(Tr.ak g y).length+nd.kids.length≤(Tr.ak g h).length:=fun y hy=>by
  have:=Tr.Dt (u:=Tr.ak g) hy h1w;omega
 obtain⟨D,hD⟩:∃ D,(Tr.ak g h).length=nd.kids.length+D:=⟨(Tr.ak g h).length - nd.kids.length,by have:=hpart x hx;omega⟩
 have hL:l.length≤pre.length*D:=by
  refine (h5.cp.mono (Q:=fun a b l m=>l.length≤D) fun a b l' m' ha _ _ hc=>?_).Vw fun _ _ _ _ h=>h;have hak:=hpre a ha;obtain⟨ma,e1,_⟩:=hw.down h nd a eg hak;have e2:l'=Tr.ak g a:=by rw[←(Tr.Cp.walks f f hc (Nat.le_refl _)).1,hw.zV];rw[hw.jC eg hak,List.length_cons];omega
  have:=hpart a hak;rw[e2];omega
 have hroom:n'+(Tr.ak gj x).length*(Tr.ak gj x).length≤99999:=by
  rw[hwj];rw[hD] at hcap;exact Tr.MP hcap h6 hL (by omega) (by have:=hpart x hx;omega)
 refine (IH aY n' gj iK fr' vs' dw x W h1 h2 h4 h3 (by rw[hold x hxs];exact hxs) (fun y hy q e=>?_) (by rw[hup];exact hfx) hroom).mono ?_
 ·rw[hwj] at hy;exact hat y (hsub y hy) q (by rw[←hold y (Ju x y hy)];exact e)
 ·rintro e w4 ⟨c,mc,vs2,Xz,n2,Uq,fr2,av2,g2,rfl,j1,j2,j3,j4,j5,j6,j7,j8,j9,j10⟩;refine⟨c,rfl,?_⟩;obtain⟨lk0,mk0,_,hmc⟩:=j7.head;have hcm:c∈mc:=by rw[hmc];simp
  have hds:(gj d).isSome:=h5.Yv d (by simp);have OZ:d∉mc:=fun hm=>by rw[(j9 d hm).1] at hds;cases hds
  have hcd:c≠d:=fun e=>OZ (e▸hcm);have Vx:g2 d=some { nd with pa:=0,kids:=ys }:=by rw[j10 d OZ];exact h5.self
  obtain⟨nc,Vy,hnc⟩:∃ nc,g2 c=some nc∧nc.pa=0:=by
   cases f with
   | zero=>exact j7.elim
   | succ f=>obtain⟨q,ys',_,_,_,k2,_⟩:=j7;exact⟨_,k2,rfl⟩
  have hd0:d≠0:=(h5.fresh d (by simp)).2;have Yw:Tr.aS g2 d=[d]:=by rw[j4.aT Vx];rw[show ({ nd with pa:=0,kids:=ys }:Tr.GN).pa=0 from rfl,j4.jI j4.zero]
  have hcu:c∉Tr.aS g2 d:=by rw[Yw];simpa using hcd
  have wM:Tr.gM g2 c≤f:=by
   show Tr.hgt g2 129 c≤f;rw[Tr.Cp.hgt f 129 j7 (by omega)];exact Tr.qz gj f x
  have abL:f≤127:=by
   have:1≤(Tr.aS g h).length:=by rw[hw.aT eg];simp
   omega
  have XA:∀ k,¬ aD B vs' dw k→k<W.heap.size→¬ aD B vs2 Xz k:=fun k hk hl hk2=>hk (j6.2 k hl hk2);have htb:=i1.turns j6.1 (h1.aV i1 (by decide) (by decide) (by decide));have hbt:=i3.turns j6.1 (h1.aV i3 (by decide) (by decide) (by decide));have Ry:=i2.turns j6.1 h8;have hbh:=i4.turns j6.1 h9;have hX2:=XA X h8 i2.lt;have hb2:=XA bh h9 i4.lt;refine⟨htb,Ry,FX h1 j6,?_⟩;refine (sN base B b s root d c 0 Uq n2 g2 av2 fr2 vs2 Xz nc { nd with pa:=0,kids:=ys } w4 j2 j3 j4 Vy hnc Vx hcd (.inl rfl)).mono ?_;rintro e w5 ⟨hu,k1,k2⟩;refine⟨hu,⟨vs2,Xz,n2,Uq,fr2,av2,Tr.bO g2 d c 0,ys++[c],l++Tr.walk g f x,m++mc,k1,uN j3 j4 Vy hnc Vx hcd (.inl rfl),j4.link Vy hnc Vx hcu (by rw[Yw,List.length_singleton];omega),?_,?_,?_,(h7.trans j6).trans k2,hX2,hb2,?_,?_,?_,?_⟩,FX j2 k2⟩
  ·refine AT.same (j5.step j2 k2) fun y q e=>?_;unfold Tr.bO at e
   split at e
   ·rename_i hy;subst hy;rw[Vy] at e;obtain rfl:=Option.some.inj e;exact⟨nc,Vy,rfl⟩
   ·split at e
    ·rename_i hy;subst hy;rw[Vx] at e;obtain rfl:=Option.some.inj e;exact⟨_,Vx,rfl⟩
    ·exact⟨q,e,rfl⟩
  ·have hO:∀ z,z∉mc→Tr.bO g2 d c 0 z=if z=d then (gj d).map fun n=>{ n with kids:=n.kids++[c] } else gj z:=fun z hz=>by
    unfold Tr.bO;rw[if_neg (fun e=>hz (by rw[e];exact hcm))];by_cases e:z=d
    ·subst e;rw[if_pos rfl,if_pos rfl,Vx,h5.self];show some _=some _;have h0:(0:Int)∉ys:=fun hm=>by
      have:=(h5.cp.inner fun h=>Tr.Cp.inner f h).1 0 hm;exact (h5.fresh 0 (List.mem_cons_of_mem _ this)).2 rfl
     dsimp only;rw[Tr.vE h0]
    ·rw[if_neg e,if_neg e];exact j10 z hz
   refine h5.step (fun _=>rfl) (fun z hz=>⟨Ju x z (by rw[hwk];exact hz),rfl⟩) (lk:=Tr.walk gj f x) (mc:=mc) (Tr.Cp.moved j7 j8 (fun z hz hzc=>?_) ?_) j8 j9 hO hxs hcl
   ·unfold Tr.bO;rw[if_neg hzc,if_neg (fun e=>OZ (by rw[←e];exact hz))]
   ·unfold Tr.bO;rw[if_pos rfl]
  ·rw[List.length_append];have hcl':=Tr.Cp.len f j7;rw[hag] at hcl';omega
  ·exact htb.turns k2.1 (j2.aV htb (by decide) (by decide) (by decide))
  ·exact Ry.turns k2.1 hX2
  ·exact hbt.turns k2.1 (j2.aV hbt (by decide) (by decide) (by decide))
  ·exact hbh.turns k2.1 hb2
end
end
end Go.Proofs.YtmhjlifmcadefaaGreatDoor
