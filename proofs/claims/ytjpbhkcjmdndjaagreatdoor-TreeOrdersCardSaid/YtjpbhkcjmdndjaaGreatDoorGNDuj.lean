/- Part of a proof about trees. -/
import Derived.Deep.RegionHeld3
import Derived.Sort.CutIn
import Derived.Test.YtjpbhkcjmdndjaaGreatDoorGNRcut
set_option linter.unusedVariables false
set_option linter.unusedSimpArgs false
set_option linter.unusedSectionVars false
namespace Go.Proofs.YtjpbhkcjmdndjaaGreatDoor
section
open Go.RowKit Go.Shelf
attribute [local go_sem] Oper.semAt_some
def Ob (base B X tb:Nat) (b s root:Int) (n:Nat) (g:Tr.G) (av:Int→Tr.Sl) (vs vf:Value) (nd:Tr.GN) (w:World) (d:Int) (W:World):Prop:=
 ∃ (vs' bV:Value) (n' aW:Nat) (fr':List Nat) (sl:Tr.Sl),g d=none∧d≠0∧n'≤n+1∧TV base W B b s vs' n' (Tr.raw (Tr.dI g d { nd with pa:=0,kids:=[] }) (Tr.eZ av d sl)) bV fr' aW root∧
  Sound b s n' (Tr.raw (Tr.dI g d { nd with pa:=0,kids:=[] }) (Tr.eZ av d sl)) fr' aW∧AT W (Tr.dI g d { nd with pa:=0,kids:=[] }) (Tr.eZ av d sl)∧aB w W (aD B vs vf) (aD B vs' bV)∧
  Whole W tb #[.pointer (some ⟨B,0,none⟩)] 29∧Whole W X #[.int .i64 d] 3∧¬ aD B vs' bV X∧w.heap.size≤X
theorem TV.aU {base B n live:Nat} {w:World} {b s root:Int} {vs vf:Value} {R:Int→Option Tr.Nd} {fr:List Nat} {k:Nat} {cs:Array Value} {t:TypeId} (hM:TV base w B b s vs n R vf fr live root) (hX:Whole w k cs t) (h1:t≠66) (h2:131≠t) (h3:3≠t):¬ aD B vs vf k:=by
 rintro (rfl | hx | hx)
 ·exact hX.unlike hM.var h1 rfl
 ·exact bA hM.row hX h2 hx
 ·exact bA hM.free hX h3 hx
theorem yQ (base B tb:Nat) (b s root h:Int) (live n:Nat) (g:Tr.G) (av:Int→Tr.Sl) (fr:List Nat) (vs vf:Value) (nd:Tr.GN) (sl:Tr.Sl) (w W W2 W3:World) {vs' bV:Value} {X:Nat} {x0:Value} (hw:Tr.WF 0 g) (hm:TV base w B b s vs n (Tr.raw g av) vf fr live root) (hS:Sound b s n (Tr.raw g av) fr live) (hn:n<100000) (ha:AT w g av)
  (hB:Below w.heap.size w W) (hT:Whole W tb #[.pointer (some ⟨B,0,none⟩)] 29) (hr:AR W 0 sl.v nd.attrs)
  (hV:TV base W2 B b s vs' (dZ n fr).1 (Tr.pW (Tr.raw g av) (Ar.hdl b s ((dZ n fr).2.2:Nat)) (some ⟨nd.kind,nd.name,sl,nd.data,0,0,0,0,0⟩)) bV (dZ n fr).2.1 (live+1) root) (st:aB W W2 (aD B vs vf) (aD B vs' bV))
  (hb3:Below W2.heap.size W2 W3) (hX:Whole W3 X #[x0] 3) (hXF:¬ aD B vs' bV X) (Xy:w.heap.size≤X) (hXT:X≠tb):
  Ob base B X tb b s root n g av vs vf nd w (Ar.hdl b s ((dZ n fr).2.2:Nat)) (W3.setCell ⟨X,0,none⟩ (.int .i64 (Ar.hdl b s ((dZ n fr).2.2:Nat)))):=by
 obtain⟨f1,f2,f3,f4,f5⟩:=jN hS hn;obtain⟨d,hd⟩:=eX (Ar.hdl b s ((dZ n fr).2.2:Nat))
 rw[hd] at hV f4 f5 ⊢;have hg:g d=none:=by
  have:=aM (g:=g) (av:=av) (h:=d);rw[f4] at this;exact Option.not_isSome_iff_eq_none.1 (by rw[←this];simp)
 have hd0:d≠0:=by
  have:=(bN (f5 ⟨0,⟨#[]⟩,⟨none,0,0⟩,⟨#[]⟩,0,0,0,0,0⟩) (h:=d) (by rw[Tr.sZ];rfl)).2;omega
 have hraw:Tr.raw (Tr.dI g d { nd with pa:=0,kids:=[] }) (Tr.eZ av d sl)=Tr.pW (Tr.raw g av) d (some ⟨nd.kind,nd.name,sl,nd.data,0,0,0,0,0⟩):=Tr.tC hg hw.zero rfl rfl;have gX:W3.grownBy (W3.setCell ⟨X,0,none⟩ (.int .i64 d)) (some X):=aO (ay (Below.refl W3.heap.size W3) _) 0 _;have DN:=hm.below hB;have IC:Whole W2 tb #[.pointer (some ⟨B,0,none⟩)] 29:=hT.turns st.1 (DN.aU hT (by decide) (by decide) (by decide));have hr2:AR W2 0 sl.v nd.attrs:=TR.nQ hr DN st (by decide) (by decide) (by decide);have ha2:=(ha.below hB).step DN st;have hr3:=hr2.below hb3;have ha3:=ha2.below hb3;refine⟨vs',bV,(dZ n fr).1,live+1,(dZ n fr).2.1,sl,hg,hd0,f2,?_,?_,?_,?_,?_,?_,hXF,Xy⟩
 ·rw[hraw];exact (hV.below hb3).turns (S:=fun k=>some X=some k) (.aT gX (fun k hk=>hk)) (fun k hk e=>hXF (by injection e with e;rw[e];exact hk))
 ·rw[hraw];exact f5 _
 ·intro x m e;by_cases hx:x=d
  ·subst hx;rw[Tr.bL] at e;obtain rfl:=Option.some.inj e;rw[Tr.lK];exact TR.kept hr3 gX (.inr (TR.unlike hr3 hX (by decide)))
  ·rw[Tr.bS hx] at e;rw[Tr.vk hx];have:=ha3 x m e;exact TR.kept this gX (.inr (TR.unlike this hX (by decide)))
 ·exact (((aB.of_below hB).trans st).trans (.of_below hb3)).lM (S:=fun k=>some X=some k) (.aT gX (fun k hk=>hk)) (fun k hk=>by injection hk with hk;omega)
 ·exact (IC.below hb3 IC.lt).other (fun e=>hXT e.symm) _
 ·exact hX.put 0 _
theorem Tr.WF.Co {z:Int} {g:Tr.G} (w:Tr.WF z g) {h:Int}:∀ (e f:Nat),129≤f+(Tr.aY g h).length→Tr.walk g (f+e) h=Tr.walk g f h
 | 0,_,_=>rfl
 | e+1,f,hf=>by rw[←Nat.add_assoc,w.Cq (f+e) h (by omega)];exact w.Co e f hf
theorem Tr.WF.zx {z:Int} {g:Tr.G} (w:Tr.WF z g) {h:Int} {f:Nat} (hf:f+(Tr.aY g h).length=129):Tr.walk g f h=Tr.ak g h:=by
 have:=w.Co (h:=h) (129 - f) f (by omega);rw[←this,show f+(129 - f)=129 by omega];rfl
theorem TV.Jb {base B n live:Nat} {W:World} {b s root:Int} {vs vf:Value} {R:Int→Option Tr.Nd} {fr:List Nat} (H:TV base W B b s vs n R vf fr live root) {k:Nat} (hk:aD B vs vf k):∃ cs t fz,W.heap[k]?=some (.cells cs t fz):=by
 rcases hk with rfl | hk | hk
 ·exact⟨_,_,_,H.var⟩
 ·rcases H.row.2 with ⟨e1,_⟩ | ⟨g',cap,cur,e1,_,hg',_⟩
  ·rw[e1] at hk;simp[Value.ownBlock] at hk
  ·rw[e1] at hk;have:g'=k:=by simpa [Value.ownBlock] using hk
   rw[←this];exact⟨_,_,_,hg'⟩
 ·rcases H.free.2 with ⟨e1,_⟩ | ⟨g',cap,cur,e1,_,hg',_⟩
  ·rw[e1] at hk;simp[Value.ownBlock] at hk
  ·rw[e1] at hk;have:g'=k:=by simpa [Value.ownBlock] using hk
   rw[←this];exact⟨_,_,_,hg'⟩
theorem FC {base B n live:Nat} {W W':World} {b s root:Int} {vs vf:Value} {R:Int→Option Tr.Nd} {fr:List Nat} {F':Nat→Prop} (H:TV base W B b s vs n R vf fr live root) (st:aB W W' (aD B vs vf) F'):KeepsOthers W W':=⟨st.1.size,fun k o hk hc=>by
 by_cases hf:aD B vs vf k
 ·obtain⟨cs,t,fz,e⟩:=H.Jb hf;rw[e] at hk;obtain rfl:=Option.some.inj hk;cases hc
 ·exact (st.1.block k (Array.getElem?_eq_some_iff.1 hk).1 hf).trans hk⟩
theorem AT.others {W W':World} {g:Tr.G} {av:Int→Tr.Sl} {row:Option Nat} (h:AT W g av) (hg:W.grownBy W' row) (hr:∀ r,row=some r→∃ o:Obj,W.heap[r]?=some o∧o.isCells=false):AT W' g av:=fun x m e=>by
 have h1:=h x m e;refine TR.kept h1 hg ?_;cases ho:(av x).v.ownBlock with
 | none=>exact .inl rfl
 | some k=>
  refine .inr fun e2=>?_;obtain⟨o,ho2,hc⟩:=hr k e2.symm;rcases h1.2 with ⟨e3,_⟩ | ⟨gb,off,cap,cur,e3,_,hgb,_⟩
  ·rw[e3] at ho;simp[Value.ownBlock] at ho
  ·rw[e3] at ho;have:gb=k:=by simpa [Value.ownBlock] using ho
   subst this;rw[hgb] at ho2;obtain rfl:=Option.some.inj ho2;cases hc
def Us (B bt bh:Nat) (b s h:Int) (l:List Int) (W:World):Prop:=
 (∃ (base n live:Nat) (vs vf:Value) (R:Int→Option Tr.Nd) (fr:List Nat) (root:Int),TV base W B b s vs n R vf fr live root∧Sound b s n R fr live∧((R h).getD Tr.Bl).fi=Tr.fs l∧∀ x∈l,∃ e,R x=some e∧e.ne=Tr.nK l x)∧
  Whole W bt #[.pointer (some ⟨B,0,none⟩)] 29∧Whole W bh #[.int .i64 h] 3
theorem dki (B bt bh:Nat) (b s h:Int) (l:List Int):Ut (Us B bt bh b s h l) B bt bh b s h l where
 read W H:=H.1
 below W W' hb H:=by
  obtain⟨⟨base,n,live,vs,vf,R,fr,root,h1,h2⟩,h3,h4⟩:=H;exact⟨⟨base,n,live,vs,vf,R,fr,root,h1.below hb,h2⟩,h3.below hb h3.lt,h4.below hb h4.lt⟩
 box W H:=⟨H.2.1.cell 0,H.2.2.cell 0⟩
theorem LY {B bt bh:Nat} {b s h:Int} {l:List Int} (w:World):∀ (W:World) (k:Nat) (o o':Obj),w.heap.size≤k→W.heap[k]?=some o→o.isCells=false→o.isWalk=false→Us B bt bh b s h l W→Us B bt bh b s h l (W.putObj k o'):=
 fun W k o o' _ hl hc _ H=>by
  obtain⟨⟨base,n,live,vs,vf,R,fr,root,h1,h2⟩,h3,h4⟩:=H;have hr:∀ r,some k=some r→∃ o:Obj,W.heap[r]?=some o∧o.isCells=false:=fun r e=>by cases e;exact⟨o,hl,hc⟩
  exact⟨⟨base,n,live,vs,vf,R,fr,root,h1.others (grownBy_putObj' W k o') hr,h2⟩,aS h3 (grownBy_putObj' W k o') hr,aS h4 (grownBy_putObj' W k o') hr⟩
theorem QS {B bt bh:Nat} {b s h:Int} {l:List Int} (hh:kM h) (hnd:l.Nodup) (h0:0∉l) (k:Nat) (hk:2≤k) (w:World) (H:Us B bt bh b s h l w):
  SeqStopsK Fence.wide k Tryz.prog 116 #[.pointer (some ⟨bt,0,none⟩),.pointer (some ⟨bh,0,none⟩)] (fun x:{x:Int // x∈l}=>#[.int .i64 x.1])
   (fun A B'=>Us B bt bh b s h l A→Us B bt bh b s h l B') (fun xs=>xs=l.attach) (fun pre=>pre <+: l.attach) l.length w:=
 fun lp J Jx W hW hJ _ hY h0'=>FD _ B bt bh lp k b s h l J Jx W (dki B bt bh b s h l) hh hnd h0 hk hJ hY ((dki B bt bh b s h l).below w W hW H) h0'
def Uu (base B:Nat) (b s root:Int) (n:Nat) (g:Tr.G) (vs vf:Value) (h:Int) (f:Nat) (w:World) (e:Ending) (w':World):Prop:=
 ∃ (d:Int) (ds:List Int) (vs' bV:Value) (n' aW:Nat) (fr':List Nat) (iR:Int→Tr.Sl) (g':Tr.G),e=.returned (.int .i64 d)∧n'≤n+ds.length∧TV base w' B b s vs' n' (Tr.raw g' iR) bV fr' aW root∧Sound b s n' (Tr.raw g' iR) fr' aW∧
  Tr.WF 0 g'∧AT w' g' iR∧aB w w' (aD B vs vf) (aD B vs' bV)∧Tr.Cp g g' f h d 0 (Tr.walk g f h) ds∧ds.Nodup∧(∀ z∈ds,g z=none∧z≠0)∧∀ z,z∉ds→g' z=g z
def DJ (base B X tb bt bh:Nat) (b s root h:Int) (n:Nat) (g:Tr.G) (nd:Tr.GN) (f:Nat) (d:Int) (vs vf:Value) (w:World) (pre:List Int) (W:World):Prop:=
 ∃ (vs' bV:Value) (n' aW:Nat) (fr':List Nat) (iR:Int→Tr.Sl) (gj:Tr.G) (ys l m:List Int),TV base W B b s vs' n' (Tr.raw gj iR) bV fr' aW root∧Sound b s n' (Tr.raw gj iR) fr' aW∧
  Tr.WF 0 gj∧AT W gj iR∧Tr.vo 0 g g nd f d 0 gj pre ys l m∧n'≤n+1+l.length∧aB w W (aD B vs vf) (aD B vs' bV)∧¬ aD B vs' bV X∧¬ aD B vs' bV bh∧
  Whole W tb #[.pointer (some ⟨B,0,none⟩)] 29∧Whole W X #[.int .i64 d] 3∧Whole W bt #[.pointer (some ⟨B,0,none⟩)] 29∧Whole W bh #[.int .i64 h] 3
section
variable {base B X tb bt bh n f:Nat} {b s root h d:Int} {g:Tr.G} {nd:Tr.GN} {vs vf:Value} {w W W':World} {pre:List Int}
theorem DJ.others {row:Option Nat} (H:DJ base B X tb bt bh b s root h n g nd f d vs vf w pre W) (hg:W.grownBy W' row) (hr:∀ r,row=some r→w.heap.size≤r∧∃ o:Obj,W.heap[r]?=some o∧o.isCells=false):DJ base B X tb bt bh b s root h n g nd f d vs vf w pre W':=by
 obtain⟨vs',bV,n',aW,fr',iR,gj,ys,l,m,h1,h2,h3,h4,h5,h6,h7,h8,h9,i1,i2,i3,i4⟩:=H;have hr':∀ r,row=some r→∃ o:Obj,W.heap[r]?=some o∧o.isCells=false:=fun r e=>(hr r e).2;exact⟨vs',bV,n',aW,fr',iR,gj,ys,l,m,h1.others hg hr',h2,h3,h4.others hg hr',h5,h6,h7.lM (S:=fun k=>row=some k) (.aT hg (fun k hk=>hk)) (fun k hk=>(hr k hk).1),h8,h9,aS i1 hg hr',aS i2 hg hr',aS i3 hg hr',aS i4 hg hr'⟩
theorem DJ.below (H:DJ base B X tb bt bh b s root h n g nd f d vs vf w pre W) (hb:Below W.heap.size W W'):DJ base B X tb bt bh b s root h n g nd f d vs vf w pre W':=by
 obtain⟨vs',bV,n',aW,fr',iR,gj,ys,l,m,h1,h2,h3,h4,h5,h6,h7,h8,h9,i1,i2,i3,i4⟩:=H;exact⟨vs',bV,n',aW,fr',iR,gj,ys,l,m,h1.below hb,h2,h3,h4.below hb,h5,h6,h7.trans (.of_below hb),h8,h9,i1.below hb i1.lt,i2.below hb i2.lt,i3.below hb i3.lt,i4.below hb i4.lt⟩
theorem DJ.kids (H:DJ base B X tb bt bh b s root h n g nd f d vs vf w pre W) (hw:Tr.WF 0 g) (eg:g h=some nd):Us B bt bh b s h nd.kids W:=by
 obtain⟨vs',bV,n',aW,fr',iR,gj,ys,l,m,h1,h2,h3,h4,h5,h6,h7,h8,h9,i1,i2,i3,i4⟩:=H;have hold:∀ z,(g z).isSome→gj z=g z:=fun z hz=>h5.old z fun hm=>by rw[(h5.fresh z hm).1] at hz;cases hz
 have eh:gj h=some nd:=by rw[hold h (by rw[eg];rfl)];exact eg
 refine⟨⟨base,n',aW,vs',bV,Tr.raw gj iR,fr',root,h1,h2,?_,fun x hx=>?_⟩,i3,i4⟩
 ·rw[Tr.aj eh];rfl
 ·obtain⟨mx,e1,e2⟩:=hw.down h nd x eg hx;have e3:gj x=some mx:=by rw[hold x (by rw[e1];rfl)];exact e1
  refine⟨_,Tr.aj e3,?_⟩;show Tr.nK (Tr.au gj mx.pa) x=_;rw[e2,Tr.aH eh]
def aae (base B X tb bt bh:Nat) (b s root h:Int) (n:Nat) (g:Tr.G) (nd:Tr.GN) (f:Nat) (d:Int) (vs vf:Value) (w:World) (pre:List Int) (x:Int) (W:World) (c:Int) (w4:World):Prop:=
 Whole w4 tb #[.pointer (some ⟨B,0,none⟩)] 29∧Whole w4 X #[.int .i64 d] 3∧KeepsOthers W w4∧
 Calls Tryz.prog 57 #[.pointer (some ⟨B,0,none⟩),.int .i64 d,.int .i64 c,.int .i64 0] w4 fun e w'=>(∃ u,e=.returned u)∧DJ base B X tb bt bh b s root h n g nd f d vs vf w (pre++[x]) w'∧KeepsOthers w4 w'
theorem DJ.call (H:DJ base B X tb bt bh b s root h n g nd f d vs vf w pre W) (hw:Tr.WF 0 g) (eg:g h=some nd) {x:Int} (hx:x∈nd.kids) (hf:f+1+(Tr.aY g h).length=129) (hlen:pre.length<nd.kids.length) (hpre:∀ y∈pre,y∈nd.kids)
  (hcap:n+(Tr.ak g h).length*(Tr.ak g h).length≤99999) (hat:∀ y∈Tr.ak g h,∀ m,g y=some m→m.attrs.length≤1000)
  (IH:∀ (live n:Nat) (g:Tr.G) (av:Int→Tr.Sl) (fr:List Nat) (vs vf:Value) (h:Int) (w:World),TV base w B b s vs n (Tr.raw g av) vf fr live root→Sound b s n (Tr.raw g av) fr live→AT w g av→Tr.WF 0 g→(g h).isSome→(∀ y∈Tr.ak g h,∀ m,g y=some m→m.attrs.length≤1000)→f+(Tr.aY g h).length=129→n+(Tr.ak g h).length*(Tr.ak g h).length≤99999→
   Calls Tryz.prog 106 #[.pointer (some ⟨B,0,none⟩),.int .i64 h,.bool true] w (Uu base B b s root n g vs vf h f w)):
  Calls Tryz.prog 106 #[.pointer (some ⟨B,0,none⟩),.int .i64 x,.bool true] W fun e w4=>∃ c,e=.returned (.int .i64 c)∧aae base B X tb bt bh b s root h n g nd f d vs vf w pre x W c w4:=by
 obtain⟨vs',bV,n',aW,fr',iR,gj,ys,l,m,h1,h2,h3,h4,h5,h6,h7,h8,h9,i1,i2,i3,i4⟩:=H;have hold:∀ z,(g z).isSome→gj z=g z:=fun z hz=>h5.old z fun hm=>by rw[(h5.fresh z hm).1] at hz;cases hz
 obtain⟨mx,ex,epx⟩:=hw.down h nd x eg hx;have hxs:(g x).isSome:=by rw[ex];rfl
 have hup:Tr.aY gj x=Tr.aY g x:=Tr.Oc hw h3 hold hxs;have aaf:Tr.aY g x=x::Tr.aY g h:=hw.jA eg hx;have hfx:f+(Tr.aY g x).length=129:=by rw[aaf,List.length_cons];omega
 have hwk:Tr.ak g x=Tr.walk g f x:=(hw.zx hfx).symm;have Jc:∀ y z,z∈Tr.ak g y→(g z).isSome:=fun y z hz=>hw.jI hz;have hcl:∀ z∈Tr.walk g f x,∀ q,g z=some q→∀ k∈q.kids,(g k).isSome:=fun z _ q e k hk=>by
  obtain⟨mk,e1,_⟩:=hw.down z q k e hk;rw[e1];rfl
 have hag:Tr.walk gj f x=Tr.walk g f x:=Tr.qB f x (fun z hz=>hold z (Jc x z (by rw[hwk];exact hz))) hcl hxs;have hwj:Tr.ak gj x=Tr.ak g x:=by rw[←h3.zx (by rw[hup];exact hfx),hag,hwk]
 have hsub:∀ z∈Tr.ak g x,z∈Tr.ak g h:=fun z hz=>by rw[hw.dx eg];exact List.mem_cons_of_mem _ (List.mem_flatMap.2 ⟨x,hx,hz⟩)
 have h1w:∀ k∈nd.kids,1≤(Tr.ak g k).length:=fun k hk=>by
  obtain⟨mk,e1,_⟩:=hw.down h nd k eg hk;rw[hw.dx e1];simp
 have hS:(Tr.ak g h).length=1+(nd.kids.flatMap (Tr.ak g)).length:=by rw[hw.dx eg,List.length_cons];omega
 have hpart:∀ y∈nd.kids,(Tr.ak g y).length+nd.kids.length≤(Tr.ak g h).length:=fun y hy=>by
  have:=Tr.Cr (u:=Tr.ak g) hy h1w;omega
 obtain⟨D,hD⟩:∃ D,(Tr.ak g h).length=nd.kids.length+D:=⟨(Tr.ak g h).length - nd.kids.length,by have:=hpart x hx;omega⟩
 have hL:l.length≤pre.length*D:=by
  refine (h5.cp.mono (Q:=fun a b l m=>l.length≤D) fun a b l' m' ha _ _ hc=>?_).Uv fun _ _ _ _ h=>h;have hak:=hpre a ha;obtain⟨ma,e1,_⟩:=hw.down h nd a eg hak;have e2:l'=Tr.ak g a:=by rw[←(Tr.Cp.walks f f hc (Nat.le_refl _)).1,hw.zx];rw[hw.jA eg hak,List.length_cons];omega
  have:=hpart a hak;rw[e2];omega
 have hroom:n'+(Tr.ak gj x).length*(Tr.ak gj x).length≤99999:=by
  rw[hwj];rw[hD] at hcap;exact Tr.LZ hcap h6 hL (by omega) (by have:=hpart x hx;omega)
 refine (IH aW n' gj iR fr' vs' bV x W h1 h2 h4 h3 (by rw[hold x hxs];exact hxs) (fun y hy q e=>?_) (by rw[hup];exact hfx) hroom).mono ?_
 ·rw[hwj] at hy;exact hat y (hsub y hy) q (by rw[←hold y (Jc x y hy)];exact e)
 ·rintro e w4 ⟨c,mc,vs2,Td,n2,Te,Zy,av2,g2,rfl,j1,j2,j3,j4,j5,j6,j7,j8,j9,j10⟩;refine⟨c,rfl,?_⟩;obtain⟨lk0,mk0,_,hmc⟩:=j7.head;have hcm:c∈mc:=by rw[hmc];simp
  have hds:(gj d).isSome:=h5.Xz d (by simp);have Od:d∉mc:=fun hm=>by rw[(j9 d hm).1] at hds;cases hds
  have hcd:c≠d:=fun e=>Od (e▸hcm);have Uw:g2 d=some { nd with pa:=0,kids:=ys }:=by rw[j10 d Od];exact h5.self
  obtain⟨nc,Ux,hnc⟩:∃ nc,g2 c=some nc∧nc.pa=0:=by
   cases f with
   | zero=>exact j7.elim
   | succ f=>obtain⟨q,ys',_,_,_,k2,_⟩:=j7;exact⟨_,k2,rfl⟩
  have hd0:d≠0:=(h5.fresh d (by simp)).2;have XA:Tr.aY g2 d=[d]:=by rw[j4.bC Uw];rw[show ({ nd with pa:=0,kids:=ys }:Tr.GN).pa=0 from rfl,j4.kU j4.zero]
  have hcu:c∉Tr.aY g2 d:=by rw[XA];simpa using hcd
  have uX:Tr.gF g2 c≤f:=by
   show Tr.hgt g2 129 c≤f;rw[Tr.Cp.hgt f 129 j7 (by omega)];exact Tr.qC gj f x
  have abK:f≤127:=by
   have:1≤(Tr.aY g h).length:=by rw[hw.bC eg];simp
   omega
  have Wj:∀ k,¬ aD B vs' bV k→k<W.heap.size→¬ aD B vs2 Td k:=fun k hk hl hk2=>hk (j6.2 k hl hk2);have htb:=i1.turns j6.1 (h1.aU i1 (by decide) (by decide) (by decide));have hbt:=i3.turns j6.1 (h1.aU i3 (by decide) (by decide) (by decide));have Wm:=i2.turns j6.1 h8;have Zz:=i4.turns j6.1 h9;have hX2:=Wj X h8 i2.lt;have hb2:=Wj bh h9 i4.lt;refine⟨htb,Wm,FC h1 j6,?_⟩;refine (tF base B b s root d c 0 Te n2 g2 av2 Zy vs2 Td nc { nd with pa:=0,kids:=ys } w4 j2 j3 j4 Ux hnc Uw hcd (.inl rfl)).mono ?_;rintro e w5 ⟨hu,k1,k2⟩;refine⟨hu,⟨vs2,Td,n2,Te,Zy,av2,Tr.bg g2 d c 0,ys++[c],l++Tr.walk g f x,m++mc,k1,qD j3 j4 Ux hnc Uw hcd (.inl rfl),j4.link Ux hnc Uw hcu (by rw[XA,List.length_singleton];omega),?_,?_,?_,(h7.trans j6).trans k2,hX2,hb2,?_,?_,?_,?_⟩,FC j2 k2⟩
  ·refine AT.same (j5.step j2 k2) fun y q e=>?_;unfold Tr.bg at e
   split at e
   ·rename_i hy;subst hy;rw[Ux] at e;obtain rfl:=Option.some.inj e;exact⟨nc,Ux,rfl⟩
   ·split at e
    ·rename_i hy;subst hy;rw[Uw] at e;obtain rfl:=Option.some.inj e;exact⟨_,Uw,rfl⟩
    ·exact⟨q,e,rfl⟩
  ·have hO:∀ z,z∉mc→Tr.bg g2 d c 0 z=if z=d then (gj d).map fun n=>{ n with kids:=n.kids++[c] } else gj z:=fun z hz=>by
    unfold Tr.bg;rw[if_neg (fun e=>hz (by rw[e];exact hcm))];by_cases e:z=d
    ·subst e;rw[if_pos rfl,if_pos rfl,Uw,h5.self];show some _=some _;have h0:(0:Int)∉ys:=fun hm=>by
      have:=(h5.cp.inner fun h=>Tr.Cp.inner f h).1 0 hm;exact (h5.fresh 0 (List.mem_cons_of_mem _ this)).2 rfl
     dsimp only;rw[Tr.vv h0]
    ·rw[if_neg e,if_neg e];exact j10 z hz
   refine h5.step (fun _=>rfl) (fun z hz=>⟨Jc x z (by rw[hwk];exact hz),rfl⟩) (lk:=Tr.walk gj f x) (mc:=mc) (Tr.Cp.moved j7 j8 (fun z hz hzc=>?_) ?_) j8 j9 hO hxs hcl
   ·unfold Tr.bg;rw[if_neg hzc,if_neg (fun e=>Od (by rw[←e];exact hz))]
   ·unfold Tr.bg;rw[if_pos rfl]
  ·rw[List.length_append];have hcl':=Tr.Cp.len f j7;rw[hag] at hcl';omega
  ·exact htb.turns k2.1 (j2.aU htb (by decide) (by decide) (by decide))
  ·exact Wm.turns k2.1 hX2
  ·exact hbt.turns k2.1 (j2.aU hbt (by decide) (by decide) (by decide))
  ·exact Zz.turns k2.1 hb2
end
end
end Go.Proofs.YtjpbhkcjmdndjaaGreatDoor
