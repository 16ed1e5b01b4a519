/- Part of a proof about trees: NDuj. -/
import Derived.Deep.RegionHeld3
import Derived.Sort.CutIn
import Derived.Test.YtnbaadpgbcklaaaGreatDoorGNRcut
set_option linter.unusedVariables false
set_option linter.unusedSimpArgs false
set_option linter.unusedSectionVars false
namespace Go.Proofs.YtnbaadpgbcklaaaGreatDoor
section
open Go.RowKit Go.Shelf
attribute [local go_sem] Oper.semAt_some
def MF (base B X tb:Nat) (b s root:Int) (n:Nat) (g:Tr.G) (av:Int→Tr.Sl) (vs vf:Value) (nd:Tr.GN) (w:World) (d:Int) (W:World):Prop:=
 ∃ (vs' bN:Value) (n' aG:Nat) (fr':List Nat) (sl:Tr.Sl),g d=none∧d≠0∧n'≤n+1∧TV base W B b s vs' n' (Tr.raw (Tr.dJ g d { nd with pa:=0,kids:=[] }) (Tr.fC av d sl)) bN fr' aG root∧
  Sound b s n' (Tr.raw (Tr.dJ g d { nd with pa:=0,kids:=[] }) (Tr.fC av d sl)) fr' aG∧AT W (Tr.dJ g d { nd with pa:=0,kids:=[] }) (Tr.fC av d sl)∧ay w W (aD B vs vf) (aD B vs' bN)∧
  Whole W tb #[.pointer (some ⟨B,0,none⟩)] 29∧Whole W X #[.int .i64 d] 3∧¬ aD B vs' bN X∧w.heap.size≤X
theorem TV.aJ {base B n live:Nat} {w:World} {b s root:Int} {vs vf:Value} {R:Int→Option Tr.Nd} {fr:List Nat} {k:Nat} {cs:Array Value} {t:TypeId} (hM:TV base w B b s vs n R vf fr live root) (hX:Whole w k cs t) (h1:t≠83) (h2:158≠t) (h3:3≠t):¬ aD B vs vf k:=by
 rintro (rfl | hx | hx)
 ·exact hX.unlike hM.var h1 rfl
 ·exact bH hM.row hX h2 hx
 ·exact bH hM.free hX h3 hx
theorem yB (base B tb:Nat) (b s root h:Int) (live n:Nat) (g:Tr.G) (av:Int→Tr.Sl) (fr:List Nat) (vs vf:Value) (nd:Tr.GN) (sl:Tr.Sl) (w W W2 W3:World) {vs' bN:Value} {X:Nat} {x0:Value} (hw:Tr.WF 0 g) (hm:TV base w B b s vs n (Tr.raw g av) vf fr live root) (hS:Sound b s n (Tr.raw g av) fr live) (hn:n<100000) (ha:AT w g av)
  (hB:Below w.heap.size w W) (hT:Whole W tb #[.pointer (some ⟨B,0,none⟩)] 29) (hr:AR W 0 sl.v nd.attrs)
  (hV:TV base W2 B b s vs' (eB n fr).1 (Tr.pI (Tr.raw g av) (Ar.hdl b s ((eB n fr).2.2:Nat)) (some ⟨nd.kind,nd.name,sl,nd.data,0,0,0,0,0⟩)) bN (eB n fr).2.1 (live+1) root) (st:ay W W2 (aD B vs vf) (aD B vs' bN))
  (hb3:Below W2.heap.size W2 W3) (hX:Whole W3 X #[x0] 3) (hXF:¬ aD B vs' bN X) (Vf:w.heap.size≤X) (hXT:X≠tb):
  MF base B X tb b s root n g av vs vf nd w (Ar.hdl b s ((eB n fr).2.2:Nat)) (W3.setCell ⟨X,0,none⟩ (.int .i64 (Ar.hdl b s ((eB n fr).2.2:Nat)))):=by
 obtain⟨f1,f2,f3,f4,f5⟩:=jF hS hn;obtain⟨d,hd⟩:∃ d,Ar.hdl b s ((eB n fr).2.2:Nat)=d:=⟨_,rfl⟩
 rw[hd] at hV f4 f5 ⊢;have hg:g d=none:=by
  have:=aS (g:=g) (av:=av) (h:=d);rw[f4] at this;exact Option.not_isSome_iff_eq_none.1 (by rw[←this];simp)
 have hd0:d≠0:=by
  have:=(bR (f5 ⟨0,⟨#[]⟩,⟨none,0,0⟩,⟨#[]⟩,0,0,0,0,0⟩) (h:=d) (by rw[Tr.sS];rfl)).2;omega
 have hraw:Tr.raw (Tr.dJ g d { nd with pa:=0,kids:=[] }) (Tr.fC av d sl)=Tr.pI (Tr.raw g av) d (some ⟨nd.kind,nd.name,sl,nd.data,0,0,0,0,0⟩):=Tr.sV hg hw.zero rfl rfl;have gX:W3.grownBy (W3.setCell ⟨X,0,none⟩ (.int .i64 d)) (some X):=aL (ak (Below.refl W3.heap.size W3) _) 0 _;have C8:=hm.below hB;have QM:Whole W2 tb #[.pointer (some ⟨B,0,none⟩)] 29:=hT.turns st.1 (C8.aJ hT (by decide) (by decide) (by decide));have hr2:AR W2 0 sl.v nd.attrs:=TR.nK hr C8 st (by decide) (by decide) (by decide);have ha2:=(ha.below hB).step C8 st;have hr3:=hr2.below hb3;have ha3:=ha2.below hb3;refine⟨vs',bN,(eB n fr).1,live+1,(eB n fr).2.1,sl,hg,hd0,f2,?_,?_,?_,?_,?_,?_,hXF,Vf⟩
 ·rw[hraw];exact (hV.below hb3).turns (S:=fun k=>some X=some k) (.aZ gX (fun k hk=>hk)) (fun k hk e=>hXF (by injection e with e;rw[e];exact hk))
 ·rw[hraw];exact f5 _
 ·intro x m e;by_cases hx:x=d
  ·subst hx;rw[Tr.bX] at e;obtain rfl:=Option.some.inj e;rw[Tr.kW];exact TR.kept hr3 gX (.inr (TR.unlike hr3 hX (by decide)))
  ·rw[Tr.cu hx] at e;rw[Tr.uU hx];have:=ha3 x m e;exact TR.kept this gX (.inr (TR.unlike this hX (by decide)))
 ·exact (((ay.of_below hB).trans st).trans (.of_below hb3)).kZ (S:=fun k=>some X=some k) (.aZ gX (fun k hk=>hk)) (fun k hk=>by injection hk with hk;omega)
 ·exact (QM.below hb3 QM.lt).other (fun e=>hXT e.symm) _
 ·exact hX.put 0 _
theorem Tr.WF.BF {z:Int} {g:Tr.G} (w:Tr.WF z g) {h:Int}:∀ (e f:Nat),129≤f+(Tr.dz g h).length→Tr.walk g (f+e) h=Tr.walk g f h
 | 0,_,_=>rfl
 | e+1,f,hf=>by rw[←Nat.add_assoc,w.BG (f+e) h (by omega)];exact w.BF e f hf
theorem Tr.WF.yQ {z:Int} {g:Tr.G} (w:Tr.WF z g) {h:Int} {f:Nat} (hf:f+(Tr.dz g h).length=129):Tr.walk g f h=Tr.au g h:=by
 have:=w.BF (h:=h) (129 - f) f (by omega);rw[←this,show f+(129 - f)=129 by omega];rfl
theorem TV.Hl {base B n live:Nat} {W:World} {b s root:Int} {vs vf:Value} {R:Int→Option Tr.Nd} {fr:List Nat} (H:TV base W B b s vs n R vf fr live root) {k:Nat} (hk:aD B vs vf k):∃ cs t fz,W.heap[k]?=some (.cells cs t fz):=by
 rcases hk with rfl | hk | hk
 ·exact⟨_,_,_,H.var⟩
 ·rcases H.row.2 with ⟨e1,_⟩ | ⟨g',cap,cur,e1,_,hg',_⟩
  ·rw[e1] at hk;simp[Value.ownBlock] at hk
  ·rw[e1] at hk;have:g'=k:=by simpa [Value.ownBlock] using hk
   rw[←this];exact⟨_,_,_,hg'⟩
 ·rcases H.free.2 with ⟨e1,_⟩ | ⟨g',cap,cur,e1,_,hg',_⟩
  ·rw[e1] at hk;simp[Value.ownBlock] at hk
  ·rw[e1] at hk;have:g'=k:=by simpa [Value.ownBlock] using hk
   rw[←this];exact⟨_,_,_,hg'⟩
theorem EP {base B n live:Nat} {W W':World} {b s root:Int} {vs vf:Value} {R:Int→Option Tr.Nd} {fr:List Nat} {F':Nat→Prop} (H:TV base W B b s vs n R vf fr live root) (st:ay W W' (aD B vs vf) F'):KeepsOthers W W':=⟨st.1.size,fun k o hk hc=>by
 by_cases hf:aD B vs vf k
 ·obtain⟨cs,t,fz,e⟩:=H.Hl hf;rw[e] at hk;obtain rfl:=Option.some.inj hk;cases hc
 ·exact (st.1.block k (Array.getElem?_eq_some_iff.1 hk).1 hf).trans hk⟩
theorem AT.others {W W':World} {g:Tr.G} {av:Int→Tr.Sl} {row:Option Nat} (h:AT W g av) (hg:W.grownBy W' row) (hr:∀ r,row=some r→∃ o:Obj,W.heap[r]?=some o∧o.isCells=false):AT W' g av:=fun x m e=>by
 have h1:=h x m e;refine TR.kept h1 hg ?_;cases ho:(av x).v.ownBlock with
 | none=>exact .inl rfl
 | some k=>
  refine .inr fun e2=>?_;obtain⟨o,ho2,hc⟩:=hr k e2.symm;rcases h1.2 with ⟨e3,_⟩ | ⟨gb,off,cap,cur,e3,_,hgb,_⟩
  ·rw[e3] at ho;simp[Value.ownBlock] at ho
  ·rw[e3] at ho;have:gb=k:=by simpa [Value.ownBlock] using ho
   subst this;rw[hgb] at ho2;obtain rfl:=Option.some.inj ho2;cases hc
def RU (B bt bh:Nat) (b s h:Int) (l:List Int) (W:World):Prop:=
 (∃ (base n live:Nat) (vs vf:Value) (R:Int→Option Tr.Nd) (fr:List Nat) (root:Int),TV base W B b s vs n R vf fr live root∧Sound b s n R fr live∧((R h).getD Tr.wD).fi=Tr.fs l∧∀ x∈l,∃ e,R x=some e∧e.ne=Tr.nu l x)∧
  Whole W bt #[.pointer (some ⟨B,0,none⟩)] 29∧Whole W bh #[.int .i64 h] 3
theorem dki (B bt bh:Nat) (b s h:Int) (l:List Int):RV (RU B bt bh b s h l) B bt bh b s h l where
 read W H:=H.1
 below W W' hb H:=by
  obtain⟨⟨base,n,live,vs,vf,R,fr,root,h1,h2⟩,h3,h4⟩:=H;exact⟨⟨base,n,live,vs,vf,R,fr,root,h1.below hb,h2⟩,h3.below hb h3.lt,h4.below hb h4.lt⟩
 box W H:=⟨H.2.1.cell 0,H.2.2.cell 0⟩
theorem Kv {B bt bh:Nat} {b s h:Int} {l:List Int} (w:World):∀ (W:World) (k:Nat) (o o':Obj),w.heap.size≤k→W.heap[k]?=some o→o.isCells=false→o.isWalk=false→RU B bt bh b s h l W→RU B bt bh b s h l (W.putObj k o'):=
 fun W k o o' _ hl hc _ H=>by
  obtain⟨⟨base,n,live,vs,vf,R,fr,root,h1,h2⟩,h3,h4⟩:=H;have hr:∀ r,some k=some r→∃ o:Obj,W.heap[r]?=some o∧o.isCells=false:=fun r e=>by cases e;exact⟨o,hl,hc⟩
  exact⟨⟨base,n,live,vs,vf,R,fr,root,h1.others (grownBy_putObj' W k o') hr,h2⟩,bn h3 (grownBy_putObj' W k o') hr,bn h4 (grownBy_putObj' W k o') hr⟩
theorem Pk {B bt bh:Nat} {b s h:Int} {l:List Int} (hh:lU h) (hnd:l.Nodup) (h0:0∉l) (k:Nat) (hk:2≤k) (w:World) (H:RU B bt bh b s h l w):
  SeqStopsK Fence.wide k Tryz.prog 129 #[.pointer (some ⟨bt,0,none⟩),.pointer (some ⟨bh,0,none⟩)] (fun x:{x:Int // x∈l}=>#[.int .i64 x.1])
   (fun A B'=>RU B bt bh b s h l A→RU B bt bh b s h l B') (fun xs=>xs=l.attach) (fun pre=>pre <+: l.attach) l.length w:=
 fun lp J Jx W hW hJ _ hY h0'=>ER _ B bt bh lp k b s h l J Jx W (dki B bt bh b s h l) hh hnd h0 hk hJ hY ((dki B bt bh b s h l).below w W hW H) h0'
def RX (base B:Nat) (b s root:Int) (n:Nat) (g:Tr.G) (vs vf:Value) (h:Int) (f:Nat) (w:World) (e:Ending) (w':World):Prop:=
 ∃ (d:Int) (ds:List Int) (vs' bN:Value) (n' aG:Nat) (fr':List Nat) (dV:Int→Tr.Sl) (g':Tr.G),e=.returned (.int .i64 d)∧n'≤n+ds.length∧TV base w' B b s vs' n' (Tr.raw g' dV) bN fr' aG root∧Sound b s n' (Tr.raw g' dV) fr' aG∧
  Tr.WF 0 g'∧AT w' g' dV∧ay w w' (aD B vs vf) (aD B vs' bN)∧Tr.Cp g g' f h d 0 (Tr.walk g f h) ds∧ds.Nodup∧(∀ z∈ds,g z=none∧z≠0)∧∀ z,z∉ds→g' z=g z
def DJ (base B X tb bt bh:Nat) (b s root h:Int) (n:Nat) (g:Tr.G) (nd:Tr.GN) (f:Nat) (d:Int) (vs vf:Value) (w:World) (pre:List Int) (W:World):Prop:=
 ∃ (vs' bN:Value) (n' aG:Nat) (fr':List Nat) (dV:Int→Tr.Sl) (gj:Tr.G) (ys l m:List Int),TV base W B b s vs' n' (Tr.raw gj dV) bN fr' aG root∧Sound b s n' (Tr.raw gj dV) fr' aG∧
  Tr.WF 0 gj∧AT W gj dV∧Tr.uV 0 g g nd f d 0 gj pre ys l m∧n'≤n+1+l.length∧ay w W (aD B vs vf) (aD B vs' bN)∧¬ aD B vs' bN X∧¬ aD B vs' bN bh∧
  Whole W tb #[.pointer (some ⟨B,0,none⟩)] 29∧Whole W X #[.int .i64 d] 3∧Whole W bt #[.pointer (some ⟨B,0,none⟩)] 29∧Whole W bh #[.int .i64 h] 3
section
variable {base B X tb bt bh n f:Nat} {b s root h d:Int} {g:Tr.G} {nd:Tr.GN} {vs vf:Value} {w W W':World} {pre:List Int}
theorem DJ.others {row:Option Nat} (H:DJ base B X tb bt bh b s root h n g nd f d vs vf w pre W) (hg:W.grownBy W' row) (hr:∀ r,row=some r→w.heap.size≤r∧∃ o:Obj,W.heap[r]?=some o∧o.isCells=false):DJ base B X tb bt bh b s root h n g nd f d vs vf w pre W':=by
 obtain⟨vs',bN,n',aG,fr',dV,gj,ys,l,m,h1,h2,h3,h4,h5,h6,h7,h8,h9,i1,i2,i3,i4⟩:=H;have hr':∀ r,row=some r→∃ o:Obj,W.heap[r]?=some o∧o.isCells=false:=fun r e=>(hr r e).2;exact⟨vs',bN,n',aG,fr',dV,gj,ys,l,m,h1.others hg hr',h2,h3,h4.others hg hr',h5,h6,h7.kZ (S:=fun k=>row=some k) (.aZ hg (fun k hk=>hk)) (fun k hk=>(hr k hk).1),h8,h9,bn i1 hg hr',bn i2 hg hr',bn i3 hg hr',bn i4 hg hr'⟩
theorem DJ.below (H:DJ base B X tb bt bh b s root h n g nd f d vs vf w pre W) (hb:Below W.heap.size W W'):DJ base B X tb bt bh b s root h n g nd f d vs vf w pre W':=by
 obtain⟨vs',bN,n',aG,fr',dV,gj,ys,l,m,h1,h2,h3,h4,h5,h6,h7,h8,h9,i1,i2,i3,i4⟩:=H;exact⟨vs',bN,n',aG,fr',dV,gj,ys,l,m,h1.below hb,h2,h3,h4.below hb,h5,h6,h7.trans (.of_below hb),h8,h9,i1.below hb i1.lt,i2.below hb i2.lt,i3.below hb i3.lt,i4.below hb i4.lt⟩
theorem DJ.kids (H:DJ base B X tb bt bh b s root h n g nd f d vs vf w pre W) (hw:Tr.WF 0 g) (eg:g h=some nd):RU B bt bh b s h nd.kids W:=by
 obtain⟨vs',bN,n',aG,fr',dV,gj,ys,l,m,h1,h2,h3,h4,h5,h6,h7,h8,h9,i1,i2,i3,i4⟩:=H;have hold:∀ z,(g z).isSome→gj z=g z:=fun z hz=>h5.old z fun hm=>by rw[(h5.fresh z hm).1] at hz;cases hz
 have eh:gj h=some nd:=by rw[hold h (by rw[eg];rfl)];exact eg
 refine⟨⟨base,n',aG,vs',bN,Tr.raw gj dV,fr',root,h1,h2,?_,fun x hx=>?_⟩,i3,i4⟩
 ·rw[Tr.ah eh];rfl
 ·obtain⟨mx,e1,e2⟩:=hw.down h nd x eg hx;have e3:gj x=some mx:=by rw[hold x (by rw[e1];rfl)];exact e1
  refine⟨_,Tr.ah e3,?_⟩;show Tr.nu (Tr.aj gj mx.pa) x=_;rw[e2,Tr.aR eh]
def Yq (base B X tb bt bh:Nat) (b s root h:Int) (n:Nat) (g:Tr.G) (nd:Tr.GN) (f:Nat) (d:Int) (vs vf:Value) (w:World) (pre:List Int) (x:Int) (W:World) (c:Int) (w4:World):Prop:=
 Whole w4 tb #[.pointer (some ⟨B,0,none⟩)] 29∧Whole w4 X #[.int .i64 d] 3∧KeepsOthers W w4∧
 Calls Tryz.prog 74 #[.pointer (some ⟨B,0,none⟩),.int .i64 d,.int .i64 c,.int .i64 0] w4 fun e w'=>(∃ u,e=.returned u)∧DJ base B X tb bt bh b s root h n g nd f d vs vf w (pre++[x]) w'∧KeepsOthers w4 w'
theorem DJ.call (H:DJ base B X tb bt bh b s root h n g nd f d vs vf w pre W) (hw:Tr.WF 0 g) (eg:g h=some nd) {x:Int} (hx:x∈nd.kids) (hf:f+1+(Tr.dz g h).length=129) (hlen:pre.length<nd.kids.length) (hpre:∀ y∈pre,y∈nd.kids)
  (hcap:n+(Tr.au g h).length*(Tr.au g h).length≤99999) (hat:∀ y∈Tr.au g h,∀ m,g y=some m→m.attrs.length≤1000)
  (IH:∀ (live n:Nat) (g:Tr.G) (av:Int→Tr.Sl) (fr:List Nat) (vs vf:Value) (h:Int) (w:World),TV base w B b s vs n (Tr.raw g av) vf fr live root→Sound b s n (Tr.raw g av) fr live→AT w g av→Tr.WF 0 g→(g h).isSome→(∀ y∈Tr.au g h,∀ m,g y=some m→m.attrs.length≤1000)→f+(Tr.dz g h).length=129→n+(Tr.au g h).length*(Tr.au g h).length≤99999→
   Calls Tryz.prog 93 #[.pointer (some ⟨B,0,none⟩),.int .i64 h,.bool true] w (RX base B b s root n g vs vf h f w)):
  Calls Tryz.prog 93 #[.pointer (some ⟨B,0,none⟩),.int .i64 x,.bool true] W fun e w4=>∃ c,e=.returned (.int .i64 c)∧Yq base B X tb bt bh b s root h n g nd f d vs vf w pre x W c w4:=by
 obtain⟨vs',bN,n',aG,fr',dV,gj,ys,l,m,h1,h2,h3,h4,h5,h6,h7,h8,h9,i1,i2,i3,i4⟩:=H;have hold:∀ z,(g z).isSome→gj z=g z:=fun z hz=>h5.old z fun hm=>by rw[(h5.fresh z hm).1] at hz;cases hz
 obtain⟨mx,ex,epx⟩:=hw.down h nd x eg hx;have hxs:(g x).isSome:=by rw[ex];rfl
 have hup:Tr.dz gj x=Tr.dz g x:=Tr.MG hw h3 hold hxs;have Yr:Tr.dz g x=x::Tr.dz g h:=hw.jk eg hx;have hfx:f+(Tr.dz g x).length=129:=by rw[Yr,List.length_cons];omega
 have hwk:Tr.au g x=Tr.walk g f x:=(hw.yQ hfx).symm;have Ho:∀ y z,z∈Tr.au g y→(g z).isSome:=fun y z hz=>hw.nL hz;have hcl:∀ z∈Tr.walk g f x,∀ q,g z=some q→∀ k∈q.kids,(g k).isSome:=fun z _ q e k hk=>by
  obtain⟨mk,e1,_⟩:=hw.down z q k e hk;rw[e1];rfl
 have hag:Tr.walk gj f x=Tr.walk g f x:=Tr.qy f x (fun z hz=>hold z (Ho x z (by rw[hwk];exact hz))) hcl hxs;have hwj:Tr.au gj x=Tr.au g x:=by rw[←h3.yQ (by rw[hup];exact hfx),hag,hwk]
 have hsub:∀ z∈Tr.au g x,z∈Tr.au g h:=fun z hz=>by rw[hw.dR eg];exact List.mem_cons_of_mem _ (List.mem_flatMap.2 ⟨x,hx,hz⟩)
 have h1w:∀ k∈nd.kids,1≤(Tr.au g k).length:=fun k hk=>by
  obtain⟨mk,e1,_⟩:=hw.down h nd k eg hk;rw[hw.dR e1];simp
 have hS:(Tr.au g h).length=1+(nd.kids.flatMap (Tr.au g)).length:=by rw[hw.dR eg,List.length_cons];omega
 have hpart:∀ y∈nd.kids,(Tr.au g y).length+nd.kids.length≤(Tr.au g h).length:=fun y hy=>by
  have:=Tr.BH (u:=Tr.au g) hy h1w;omega
 obtain⟨D,hD⟩:∃ D,(Tr.au g h).length=nd.kids.length+D:=⟨(Tr.au g h).length - nd.kids.length,by have:=hpart x hx;omega⟩
 have hL:l.length≤pre.length*D:=by
  refine (h5.cp.mono (Q:=fun a b l m=>l.length≤D) fun a b l' m' ha _ _ hc=>?_).RY fun _ _ _ _ h=>h;have hak:=hpre a ha;obtain⟨ma,e1,_⟩:=hw.down h nd a eg hak;have e2:l'=Tr.au g a:=by rw[←(Tr.Cp.walks f f hc (Nat.le_refl _)).1,hw.yQ];rw[hw.jk eg hak,List.length_cons];omega
  have:=hpart a hak;rw[e2];omega
 have hroom:n'+(Tr.au gj x).length*(Tr.au gj x).length≤99999:=by
  rw[hwj];rw[hD] at hcap;exact Tr.Kw hcap h6 hL (by omega) (by have:=hpart x hx;omega)
 refine (IH aG n' gj dV fr' vs' bN x W h1 h2 h4 h3 (by rw[hold x hxs];exact hxs) (fun y hy q e=>?_) (by rw[hup];exact hfx) hroom).mono ?_
 ·rw[hwj] at hy;exact hat y (hsub y hy) q (by rw[←hold y (Ho x y hy)];exact e)
 ·rintro e w4 ⟨c,mc,vs2,QN,n2,QO,Xy,av2,g2,rfl,j1,j2,j3,j4,j5,j6,j7,j8,j9,j10⟩;refine⟨c,rfl,?_⟩;obtain⟨lk0,mk0,_,hmc⟩:=j7.head;have hcm:c∈mc:=by rw[hmc];simp
  have hds:(gj d).isSome:=h5.Vg d (by simp);have MH:d∉mc:=fun hm=>by rw[(j9 d hm).1] at hds;cases hds
  have hcd:c≠d:=fun e=>MH (e▸hcm);have RZ:g2 d=some { nd with pa:=0,kids:=ys }:=by rw[j10 d MH];exact h5.self
  obtain⟨nc,R3,hnc⟩:∃ nc,g2 c=some nc∧nc.pa=0:=by
   cases f with
   | zero=>exact j7.elim
   | succ f=>obtain⟨q,ys',_,_,_,k2,_⟩:=j7;exact⟨_,k2,rfl⟩
  have hd0:d≠0:=(h5.fresh d (by simp)).2;have Vh:Tr.dz g2 d=[d]:=by rw[j4.bQ RZ];rw[show ({ nd with pa:=0,kids:=ys }:Tr.GN).pa=0 from rfl,j4.lV j4.zero]
  have hcu:c∉Tr.dz g2 d:=by rw[Vh];simpa using hcd
  have uP:Tr.gB g2 c≤f:=by
   show Tr.hgt g2 129 c≤f;rw[Tr.Cp.hgt f 129 j7 (by omega)];exact Tr.qz gj f x
  have aaK:f≤127:=by
   have:1≤(Tr.dz g h).length:=by rw[hw.bQ eg];simp
   omega
  have Ue:∀ k,¬ aD B vs' bN k→k<W.heap.size→¬ aD B vs2 QN k:=fun k hk hl hk2=>hk (j6.2 k hl hk2);have htb:=i1.turns j6.1 (h1.aJ i1 (by decide) (by decide) (by decide));have hbt:=i3.turns j6.1 (h1.aJ i3 (by decide) (by decide) (by decide));have Uf:=i2.turns j6.1 h8;have Xz:=i4.turns j6.1 h9;have hX2:=Ue X h8 i2.lt;have hb2:=Ue bh h9 i4.lt;refine⟨htb,Uf,EP h1 j6,?_⟩;refine (sW base B b s root d c 0 QO n2 g2 av2 Xy vs2 QN nc { nd with pa:=0,kids:=ys } w4 j2 j3 j4 R3 hnc RZ hcd (.inl rfl)).mono ?_;rintro e w5 ⟨hu,k1,k2⟩;refine⟨hu,⟨vs2,QN,n2,QO,Xy,av2,Tr.bP g2 d c 0,ys++[c],l++Tr.walk g f x,m++mc,k1,qA j3 j4 R3 hnc RZ hcd (.inl rfl),j4.link R3 hnc RZ hcu (by rw[Vh,List.length_singleton];omega),?_,?_,?_,(h7.trans j6).trans k2,hX2,hb2,?_,?_,?_,?_⟩,EP j2 k2⟩
  ·refine AT.same (j5.step j2 k2) fun y q e=>?_;unfold Tr.bP at e
   split at e
   ·rename_i hy;subst hy;rw[R3] at e;obtain rfl:=Option.some.inj e;exact⟨nc,R3,rfl⟩
   ·split at e
    ·rename_i hy;subst hy;rw[RZ] at e;obtain rfl:=Option.some.inj e;exact⟨_,RZ,rfl⟩
    ·exact⟨q,e,rfl⟩
  ·have hO:∀ z,z∉mc→Tr.bP g2 d c 0 z=if z=d then (gj d).map fun n=>{ n with kids:=n.kids++[c] } else gj z:=fun z hz=>by
    unfold Tr.bP;rw[if_neg (fun e=>hz (by rw[e];exact hcm))];by_cases e:z=d
    ·subst e;rw[if_pos rfl,if_pos rfl,RZ,h5.self];show some _=some _;have h0:(0:Int)∉ys:=fun hm=>by
      have:=(h5.cp.inner fun h=>Tr.Cp.inner f h).1 0 hm;exact (h5.fresh 0 (List.mem_cons_of_mem _ this)).2 rfl
     dsimp only;rw[Tr.uW h0]
    ·rw[if_neg e,if_neg e];exact j10 z hz
   refine h5.step (fun _=>rfl) (fun z hz=>⟨Ho x z (by rw[hwk];exact hz),rfl⟩) (lk:=Tr.walk gj f x) (mc:=mc) (Tr.Cp.moved j7 j8 (fun z hz hzc=>?_) ?_) j8 j9 hO hxs hcl
   ·unfold Tr.bP;rw[if_neg hzc,if_neg (fun e=>MH (by rw[←e];exact hz))]
   ·unfold Tr.bP;rw[if_pos rfl]
  ·rw[List.length_append];have hcl':=Tr.Cp.len f j7;rw[hag] at hcl';omega
  ·exact htb.turns k2.1 (j2.aJ htb (by decide) (by decide) (by decide))
  ·exact Uf.turns k2.1 hX2
  ·exact hbt.turns k2.1 (j2.aJ hbt (by decide) (by decide) (by decide))
  ·exact Xz.turns k2.1 hb2
end
end
end Go.Proofs.YtnbaadpgbcklaaaGreatDoor
