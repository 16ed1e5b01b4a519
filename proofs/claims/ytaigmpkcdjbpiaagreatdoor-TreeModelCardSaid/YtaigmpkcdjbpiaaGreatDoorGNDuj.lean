/- Part of a proof about trees: NDuj. -/
import Derived.Deep.RegionHeld3
import Derived.Sort.CutIn
import Derived.Test.YtaigmpkcdjbpiaaGreatDoorGNRcut
set_option linter.unusedVariables false
set_option linter.unusedSimpArgs false
set_option linter.unusedSectionVars false
namespace Go.Proofs.YtaigmpkcdjbpiaaGreatDoor
section
open Go.RowKit Go.Shelf
attribute [local go_sem] Oper.semAt_some
def DupA (base B X tb:Nat) (b s root:Int) (n:Nat) (g:Tr.G) (av:Int→Tr.Sl) (vs vf:Value) (nd:Tr.GN) (w:World) (d:Int) (W:World):Prop:=
 ∃ (vs' vf':Value) (n' live':Nat) (fr':List Nat) (sl:Tr.Sl),g d=none∧d≠0∧n'≤n+1∧TV base W B b s vs' n' (Tr.raw (Tr.addG g d { nd with pa:=0,kids:=[] }) (Tr.addA av d sl)) vf' fr' live' root∧
  Sound b s n' (Tr.raw (Tr.addG g d { nd with pa:=0,kids:=[] }) (Tr.addA av d sl)) fr' live'∧AT W (Tr.addG g d { nd with pa:=0,kids:=[] }) (Tr.addA av d sl)∧AStep w W (Foot B vs vf) (Foot B vs' vf')∧
  Whole W tb #[.pointer (some ⟨B,0,none⟩)] 29∧Whole W X #[.int .i64 d] 3∧¬ Foot B vs' vf' X∧w.heap.size≤X
theorem TV.not_foot {base B n live:Nat} {w:World} {b s root:Int} {vs vf:Value} {R:Int→Option Tr.Nd} {fr:List Nat} {k:Nat} {cs:Array Value} {t:TypeId} (hM:TV base w B b s vs n R vf fr live root) (hX:Whole w k cs t) (h1:t≠83) (h2:148≠t) (h3:3≠t):¬ Foot B vs vf k:=by
 rintro (rfl | hx | hx)
 ·exact hX.unlike hM.var h1 rfl
 ·exact own_unlike hM.row hX h2 hx
 ·exact own_unlike hM.free hX h3 hx
theorem dup_fin (base B tb:Nat) (b s root h:Int) (live n:Nat) (g:Tr.G) (av:Int→Tr.Sl) (fr:List Nat) (vs vf:Value) (nd:Tr.GN) (sl:Tr.Sl) (w W W2 W3:World) {vs' vf':Value} {X:Nat} {x0:Value} (hw:Tr.WF 0 g) (hm:TV base w B b s vs n (Tr.raw g av) vf fr live root) (hS:Sound b s n (Tr.raw g av) fr live) (hn:n<100000) (ha:AT w g av)
  (hB:Below w.heap.size w W) (hT:Whole W tb #[.pointer (some ⟨B,0,none⟩)] 29) (hr:AR W 0 sl.v nd.attrs)
  (hV:TV base W2 B b s vs' (vacN n fr).1 (Tr.setO (Tr.raw g av) (Ar.hdl b s ((vacN n fr).2.2:Nat)) (some ⟨nd.kind,nd.name,sl,nd.data,0,0,0,0,0⟩)) vf' (vacN n fr).2.1 (live+1) root) (st:AStep W W2 (Foot B vs vf) (Foot B vs' vf'))
  (hb3:Below W2.heap.size W2 W3) (hX:Whole W3 X #[x0] 3) (hXF:¬ Foot B vs' vf' X) (hXw:w.heap.size≤X) (hXT:X≠tb):
  DupA base B X tb b s root n g av vs vf nd w (Ar.hdl b s ((vacN n fr).2.2:Nat)) (W3.setCell ⟨X,0,none⟩ (.int .i64 (Ar.hdl b s ((vacN n fr).2.2:Nat)))):=by
 obtain⟨f1,f2,f3,f4,f5⟩:=vacN_facts hS hn;obtain⟨d,hd⟩:∃ d,Ar.hdl b s ((vacN n fr).2.2:Nat)=d:=⟨_,rfl⟩
 rw[hd] at hV f4 f5 ⊢;have hg:g d=none:=by
  have:=raw_isSome (g:=g) (av:=av) (h:=d);rw[f4] at this;exact Option.not_isSome_iff_eq_none.1 (by rw[←this];simp)
 have hd0:d≠0:=by
  have:=(tmem_i64 (f5 ⟨0,⟨#[]⟩,⟨none,0,0⟩,⟨#[]⟩,0,0,0,0,0⟩) (h:=d) (by rw[Tr.setO_same];rfl)).2;omega
 have hraw:Tr.raw (Tr.addG g d { nd with pa:=0,kids:=[] }) (Tr.addA av d sl)=Tr.setO (Tr.raw g av) d (some ⟨nd.kind,nd.name,sl,nd.data,0,0,0,0,0⟩):=Tr.raw_add hg hw.zero rfl rfl;have gX:W3.grownBy (W3.setCell ⟨X,0,none⟩ (.int .i64 d)) (some X):=gb_put (gb_of_below (Below.refl W3.heap.size W3) _) 0 _;have hmW:=hm.below hB;have hT2:Whole W2 tb #[.pointer (some ⟨B,0,none⟩)] 29:=hT.turns st.1 (hmW.not_foot hT (by decide) (by decide) (by decide));have hr2:AR W2 0 sl.v nd.attrs:=TR.apart_step hr hmW st (by decide) (by decide) (by decide);have ha2:=(ha.below hB).step hmW st;have hr3:=hr2.below hb3;have ha3:=ha2.below hb3;refine⟨vs',vf',(vacN n fr).1,live+1,(vacN n fr).2.1,sl,hg,hd0,f2,?_,?_,?_,?_,?_,?_,hXF,hXw⟩
 ·rw[hraw];exact (hV.below hb3).turns (S:=fun k=>some X=some k) (.of_grown gX (fun k hk=>hk)) (fun k hk e=>hXF (by injection e with e;rw[e];exact hk))
 ·rw[hraw];exact f5 _
 ·intro x m e;by_cases hx:x=d
  ·subst hx;rw[Tr.addG_self] at e;obtain rfl:=Option.some.inj e;rw[Tr.addA_self];exact TR.kept hr3 gX (.inr (TR.unlike hr3 hX (by decide)))
  ·rw[Tr.addG_ne hx] at e;rw[Tr.addA_ne hx];have:=ha3 x m e;exact TR.kept this gX (.inr (TR.unlike this hX (by decide)))
 ·exact (((AStep.of_below hB).trans st).trans (.of_below hb3)).rec_grown (S:=fun k=>some X=some k) (.of_grown gX (fun k hk=>hk)) (fun k hk=>by injection hk with hk;omega)
 ·exact (hT2.below hb3 hT2.lt).other (fun e=>hXT e.symm) _
 ·exact hX.put 0 _
theorem Tr.WF.walk_less {z:Int} {g:Tr.G} (w:Tr.WF z g) {h:Int}:∀ (e f:Nat),129≤f+(Tr.upG g h).length→Tr.walk g (f+e) h=Tr.walk g f h
 | 0,_,_=>rfl
 | e+1,f,hf=>by rw[←Nat.add_assoc,w.walk_fuel (f+e) h (by omega)];exact w.walk_less e f hf
theorem Tr.WF.walk_f {z:Int} {g:Tr.G} (w:Tr.WF z g) {h:Int} {f:Nat} (hf:f+(Tr.upG g h).length=129):Tr.walk g f h=Tr.walkG g h:=by
 have:=w.walk_less (h:=h) (129 - f) f (by omega);rw[←this,show f+(129 - f)=129 by omega];rfl
theorem TV.foot_cells {base B n live:Nat} {W:World} {b s root:Int} {vs vf:Value} {R:Int→Option Tr.Nd} {fr:List Nat} (H:TV base W B b s vs n R vf fr live root) {k:Nat} (hk:Foot B vs vf k):∃ cs t fz,W.heap[k]?=some (.cells cs t fz):=by
 rcases hk with rfl | hk | hk
 ·exact⟨_,_,_,H.var⟩
 ·rcases H.row.2 with ⟨e1,_⟩ | ⟨g',cap,cur,e1,_,hg',_⟩
  ·rw[e1] at hk;simp[Value.ownBlock] at hk
  ·rw[e1] at hk;have:g'=k:=by simpa [Value.ownBlock] using hk
   rw[←this];exact⟨_,_,_,hg'⟩
 ·rcases H.free.2 with ⟨e1,_⟩ | ⟨g',cap,cur,e1,_,hg',_⟩
  ·rw[e1] at hk;simp[Value.ownBlock] at hk
  ·rw[e1] at hk;have:g'=k:=by simpa [Value.ownBlock] using hk
   rw[←this];exact⟨_,_,_,hg'⟩
theorem ko_astep {base B n live:Nat} {W W':World} {b s root:Int} {vs vf:Value} {R:Int→Option Tr.Nd} {fr:List Nat} {F':Nat→Prop} (H:TV base W B b s vs n R vf fr live root) (st:AStep W W' (Foot B vs vf) F'):KeepsOthers W W':=⟨st.1.size,fun k o hk hc=>by
 by_cases hf:Foot B vs vf k
 ·obtain⟨cs,t,fz,e⟩:=H.foot_cells hf;rw[e] at hk;obtain rfl:=Option.some.inj hk;cases hc
 ·exact (st.1.block k (Array.getElem?_eq_some_iff.1 hk).1 hf).trans hk⟩
theorem AT.others {W W':World} {g:Tr.G} {av:Int→Tr.Sl} {row:Option Nat} (h:AT W g av) (hg:W.grownBy W' row) (hr:∀ r,row=some r→∃ o:Obj,W.heap[r]?=some o∧o.isCells=false):AT W' g av:=fun x m e=>by
 have h1:=h x m e;refine TR.kept h1 hg ?_;cases ho:(av x).v.ownBlock with
 | none=>exact .inl rfl
 | some k=>
  refine .inr fun e2=>?_;obtain⟨o,ho2,hc⟩:=hr k e2.symm;rcases h1.2 with ⟨e3,_⟩ | ⟨gb,off,cap,cur,e3,_,hgb,_⟩
  ·rw[e3] at ho;simp[Value.ownBlock] at ho
  ·rw[e3] at ho;have:gb=k:=by simpa [Value.ownBlock] using ho
   subst this;rw[hgb] at ho2;obtain rfl:=Option.some.inj ho2;cases hc
def DKI (B bt bh:Nat) (b s h:Int) (l:List Int) (W:World):Prop:=
 (∃ (base n live:Nat) (vs vf:Value) (R:Int→Option Tr.Nd) (fr:List Nat) (root:Int),TV base W B b s vs n R vf fr live root∧Sound b s n R fr live∧((R h).getD Tr.zNd).fi=Tr.fs l∧∀ x∈l,∃ e,R x=some e∧e.ne=Tr.nxt l x)∧
  Whole W bt #[.pointer (some ⟨B,0,none⟩)] 29∧Whole W bh #[.int .i64 h] 3
theorem dki (B bt bh:Nat) (b s h:Int) (l:List Int):KIds (DKI B bt bh b s h l) B bt bh b s h l where
 read W H:=H.1
 below W W' hb H:=by
  obtain⟨⟨base,n,live,vs,vf,R,fr,root,h1,h2⟩,h3,h4⟩:=H;exact⟨⟨base,n,live,vs,vf,R,fr,root,h1.below hb,h2⟩,h3.below hb h3.lt,h4.below hb h4.lt⟩
 box W H:=⟨H.2.1.cell 0,H.2.2.cell 0⟩
theorem dki_keepB {B bt bh:Nat} {b s h:Int} {l:List Int} (w:World):∀ (W:World) (k:Nat) (o o':Obj),w.heap.size≤k→W.heap[k]?=some o→o.isCells=false→o.isWalk=false→DKI B bt bh b s h l W→DKI B bt bh b s h l (W.putObj k o'):=
 fun W k o o' _ hl hc _ H=>by
  obtain⟨⟨base,n,live,vs,vf,R,fr,root,h1,h2⟩,h3,h4⟩:=H;have hr:∀ r,some k=some r→∃ o:Obj,W.heap[r]?=some o∧o.isCells=false:=fun r e=>by cases e;exact⟨o,hl,hc⟩
  exact⟨⟨base,n,live,vs,vf,R,fr,root,h1.others (grownBy_putObj' W k o') hr,h2⟩,whole_others h3 (grownBy_putObj' W k o') hr,whole_others h4 (grownBy_putObj' W k o') hr⟩
theorem dki_seq {B bt bh:Nat} {b s h:Int} {l:List Int} (hh:I64 h) (hnd:l.Nodup) (h0:0∉l) (k:Nat) (hk:2≤k) (w:World) (H:DKI B bt bh b s h l w):
  SeqStopsK Fence.wide k Tryz.prog 111 #[.pointer (some ⟨bt,0,none⟩),.pointer (some ⟨bh,0,none⟩)] (fun x:{x:Int // x∈l}=>#[.int .i64 x.1])
   (fun A B'=>DKI B bt bh b s h l A→DKI B bt bh b s h l B') (fun xs=>xs=l.attach) (fun pre=>pre <+: l.attach) l.length w:=
 fun lp J Jx W hW hJ _ hY h0'=>kids1_in _ B bt bh lp k b s h l J Jx W (dki B bt bh b s h l) hh hnd h0 hk hJ hY ((dki B bt bh b s h l).below w W hW H) h0'
def DupD (base B:Nat) (b s root:Int) (n:Nat) (g:Tr.G) (vs vf:Value) (h:Int) (f:Nat) (w:World) (e:Ending) (w':World):Prop:=
 ∃ (d:Int) (ds:List Int) (vs' vf':Value) (n' live':Nat) (fr':List Nat) (av':Int→Tr.Sl) (g':Tr.G),e=.returned (.int .i64 d)∧n'≤n+ds.length∧TV base w' B b s vs' n' (Tr.raw g' av') vf' fr' live' root∧Sound b s n' (Tr.raw g' av') fr' live'∧
  Tr.WF 0 g'∧AT w' g' av'∧AStep w w' (Foot B vs vf) (Foot B vs' vf')∧Tr.Cp g g' f h d 0 (Tr.walk g f h) ds∧ds.Nodup∧(∀ z∈ds,g z=none∧z≠0)∧∀ z,z∉ds→g' z=g z
def DJ (base B X tb bt bh:Nat) (b s root h:Int) (n:Nat) (g:Tr.G) (nd:Tr.GN) (f:Nat) (d:Int) (vs vf:Value) (w:World) (pre:List Int) (W:World):Prop:=
 ∃ (vs' vf':Value) (n' live':Nat) (fr':List Nat) (av':Int→Tr.Sl) (gj:Tr.G) (ys l m:List Int),TV base W B b s vs' n' (Tr.raw gj av') vf' fr' live' root∧Sound b s n' (Tr.raw gj av') fr' live'∧
  Tr.WF 0 gj∧AT W gj av'∧Tr.DupS 0 g g nd f d 0 gj pre ys l m∧n'≤n+1+l.length∧AStep w W (Foot B vs vf) (Foot B vs' vf')∧¬ Foot B vs' vf' X∧¬ Foot B vs' vf' bh∧
  Whole W tb #[.pointer (some ⟨B,0,none⟩)] 29∧Whole W X #[.int .i64 d] 3∧Whole W bt #[.pointer (some ⟨B,0,none⟩)] 29∧Whole W bh #[.int .i64 h] 3
section
variable {base B X tb bt bh n f:Nat} {b s root h d:Int} {g:Tr.G} {nd:Tr.GN} {vs vf:Value} {w W W':World} {pre:List Int}
theorem DJ.others {row:Option Nat} (H:DJ base B X tb bt bh b s root h n g nd f d vs vf w pre W) (hg:W.grownBy W' row) (hr:∀ r,row=some r→w.heap.size≤r∧∃ o:Obj,W.heap[r]?=some o∧o.isCells=false):DJ base B X tb bt bh b s root h n g nd f d vs vf w pre W':=by
 obtain⟨vs',vf',n',live',fr',av',gj,ys,l,m,h1,h2,h3,h4,h5,h6,h7,h8,h9,i1,i2,i3,i4⟩:=H;have hr':∀ r,row=some r→∃ o:Obj,W.heap[r]?=some o∧o.isCells=false:=fun r e=>(hr r e).2;exact⟨vs',vf',n',live',fr',av',gj,ys,l,m,h1.others hg hr',h2,h3,h4.others hg hr',h5,h6,h7.rec_grown (S:=fun k=>row=some k) (.of_grown hg (fun k hk=>hk)) (fun k hk=>(hr k hk).1),h8,h9,whole_others i1 hg hr',whole_others i2 hg hr',whole_others i3 hg hr',whole_others i4 hg hr'⟩
theorem DJ.below (H:DJ base B X tb bt bh b s root h n g nd f d vs vf w pre W) (hb:Below W.heap.size W W'):DJ base B X tb bt bh b s root h n g nd f d vs vf w pre W':=by
 obtain⟨vs',vf',n',live',fr',av',gj,ys,l,m,h1,h2,h3,h4,h5,h6,h7,h8,h9,i1,i2,i3,i4⟩:=H;exact⟨vs',vf',n',live',fr',av',gj,ys,l,m,h1.below hb,h2,h3,h4.below hb,h5,h6,h7.trans (.of_below hb),h8,h9,i1.below hb i1.lt,i2.below hb i2.lt,i3.below hb i3.lt,i4.below hb i4.lt⟩
theorem DJ.kids (H:DJ base B X tb bt bh b s root h n g nd f d vs vf w pre W) (hw:Tr.WF 0 g) (eg:g h=some nd):DKI B bt bh b s h nd.kids W:=by
 obtain⟨vs',vf',n',live',fr',av',gj,ys,l,m,h1,h2,h3,h4,h5,h6,h7,h8,h9,i1,i2,i3,i4⟩:=H;have hold:∀ z,(g z).isSome→gj z=g z:=fun z hz=>h5.old z fun hm=>by rw[(h5.fresh z hm).1] at hz;cases hz
 have eh:gj h=some nd:=by rw[hold h (by rw[eg];rfl)];exact eg
 refine⟨⟨base,n',live',vs',vf',Tr.raw gj av',fr',root,h1,h2,?_,fun x hx=>?_⟩,i3,i4⟩
 ·rw[Tr.raw_some eh];rfl
 ·obtain⟨mx,e1,e2⟩:=hw.down h nd x eg hx;have e3:gj x=some mx:=by rw[hold x (by rw[e1];rfl)];exact e1
  refine⟨_,Tr.raw_some e3,?_⟩;show Tr.nxt (Tr.kidsOf gj mx.pa) x=_;rw[e2,Tr.kidsOf_some eh]
def DMid (base B X tb bt bh:Nat) (b s root h:Int) (n:Nat) (g:Tr.G) (nd:Tr.GN) (f:Nat) (d:Int) (vs vf:Value) (w:World) (pre:List Int) (x:Int) (W:World) (c:Int) (w4:World):Prop:=
 Whole w4 tb #[.pointer (some ⟨B,0,none⟩)] 29∧Whole w4 X #[.int .i64 d] 3∧KeepsOthers W w4∧
 Calls Tryz.prog 68 #[.pointer (some ⟨B,0,none⟩),.int .i64 d,.int .i64 c,.int .i64 0] w4 fun e w'=>(∃ u,e=.returned u)∧DJ base B X tb bt bh b s root h n g nd f d vs vf w (pre++[x]) w'∧KeepsOthers w4 w'
theorem DJ.call (H:DJ base B X tb bt bh b s root h n g nd f d vs vf w pre W) (hw:Tr.WF 0 g) (eg:g h=some nd) {x:Int} (hx:x∈nd.kids) (hf:f+1+(Tr.upG g h).length=129) (hlen:pre.length<nd.kids.length) (hpre:∀ y∈pre,y∈nd.kids)
  (hcap:n+(Tr.walkG g h).length*(Tr.walkG g h).length≤99999) (hat:∀ y∈Tr.walkG g h,∀ m,g y=some m→m.attrs.length≤1000)
  (IH:∀ (live n:Nat) (g:Tr.G) (av:Int→Tr.Sl) (fr:List Nat) (vs vf:Value) (h:Int) (w:World),TV base w B b s vs n (Tr.raw g av) vf fr live root→Sound b s n (Tr.raw g av) fr live→AT w g av→Tr.WF 0 g→(g h).isSome→(∀ y∈Tr.walkG g h,∀ m,g y=some m→m.attrs.length≤1000)→f+(Tr.upG g h).length=129→n+(Tr.walkG g h).length*(Tr.walkG g h).length≤99999→
   Calls Tryz.prog 87 #[.pointer (some ⟨B,0,none⟩),.int .i64 h,.bool true] w (DupD base B b s root n g vs vf h f w)):
  Calls Tryz.prog 87 #[.pointer (some ⟨B,0,none⟩),.int .i64 x,.bool true] W fun e w4=>∃ c,e=.returned (.int .i64 c)∧DMid base B X tb bt bh b s root h n g nd f d vs vf w pre x W c w4:=by
 obtain⟨vs',vf',n',live',fr',av',gj,ys,l,m,h1,h2,h3,h4,h5,h6,h7,h8,h9,i1,i2,i3,i4⟩:=H;have hold:∀ z,(g z).isSome→gj z=g z:=fun z hz=>h5.old z fun hm=>by rw[(h5.fresh z hm).1] at hz;cases hz
 obtain⟨mx,ex,epx⟩:=hw.down h nd x eg hx;have hxs:(g x).isSome:=by rw[ex];rfl
 have hup:Tr.upG gj x=Tr.upG g x:=Tr.up_agree hw h3 hold hxs;have hupx:Tr.upG g x=x::Tr.upG g h:=hw.up_kid eg hx;have hfx:f+(Tr.upG g x).length=129:=by rw[hupx,List.length_cons];omega
 have hwk:Tr.walkG g x=Tr.walk g f x:=(hw.walk_f hfx).symm;have hwlive:∀ y z,z∈Tr.walkG g y→(g z).isSome:=fun y z hz=>hw.walk_sub hz;have hcl:∀ z∈Tr.walk g f x,∀ q,g z=some q→∀ k∈q.kids,(g k).isSome:=fun z _ q e k hk=>by
  obtain⟨mk,e1,_⟩:=hw.down z q k e hk;rw[e1];rfl
 have hag:Tr.walk gj f x=Tr.walk g f x:=Tr.walk_agree f x (fun z hz=>hold z (hwlive x z (by rw[hwk];exact hz))) hcl hxs;have hwj:Tr.walkG gj x=Tr.walkG g x:=by rw[←h3.walk_f (by rw[hup];exact hfx),hag,hwk]
 have hsub:∀ z∈Tr.walkG g x,z∈Tr.walkG g h:=fun z hz=>by rw[hw.walkG_some eg];exact List.mem_cons_of_mem _ (List.mem_flatMap.2 ⟨x,hx,hz⟩)
 have h1w:∀ k∈nd.kids,1≤(Tr.walkG g k).length:=fun k hk=>by
  obtain⟨mk,e1,_⟩:=hw.down h nd k eg hk;rw[hw.walkG_some e1];simp
 have hS:(Tr.walkG g h).length=1+(nd.kids.flatMap (Tr.walkG g)).length:=by rw[hw.walkG_some eg,List.length_cons];omega
 have hpart:∀ y∈nd.kids,(Tr.walkG g y).length+nd.kids.length≤(Tr.walkG g h).length:=fun y hy=>by
  have:=Tr.flat_part (u:=Tr.walkG g) hy h1w;omega
 obtain⟨D,hD⟩:∃ D,(Tr.walkG g h).length=nd.kids.length+D:=⟨(Tr.walkG g h).length - nd.kids.length,by have:=hpart x hx;omega⟩
 have hL:l.length≤pre.length*D:=by
  refine (h5.cp.mono (Q:=fun a b l m=>l.length≤D) fun a b l' m' ha _ _ hc=>?_).len_le fun _ _ _ _ h=>h;have hak:=hpre a ha;obtain⟨ma,e1,_⟩:=hw.down h nd a eg hak;have e2:l'=Tr.walkG g a:=by rw[←(Tr.Cp.walks f f hc (Nat.le_refl _)).1,hw.walk_f];rw[hw.up_kid eg hak,List.length_cons];omega
  have:=hpart a hak;rw[e2];omega
 have hroom:n'+(Tr.walkG gj x).length*(Tr.walkG gj x).length≤99999:=by
  rw[hwj];rw[hD] at hcap;exact Tr.room_step hcap h6 hL (by omega) (by have:=hpart x hx;omega)
 refine (IH live' n' gj av' fr' vs' vf' x W h1 h2 h4 h3 (by rw[hold x hxs];exact hxs) (fun y hy q e=>?_) (by rw[hup];exact hfx) hroom).mono ?_
 ·rw[hwj] at hy;exact hat y (hsub y hy) q (by rw[←hold y (hwlive x y hy)];exact e)
 ·rintro e w4 ⟨c,mc,vs2,vf2,n2,live2,fr2,av2,g2,rfl,j1,j2,j3,j4,j5,j6,j7,j8,j9,j10⟩;refine⟨c,rfl,?_⟩;obtain⟨lk0,mk0,_,hmc⟩:=j7.head;have hcm:c∈mc:=by rw[hmc];simp
  have hds:(gj d).isSome:=h5.in_m d (by simp);have hdmc:d∉mc:=fun hm=>by rw[(j9 d hm).1] at hds;cases hds
  have hcd:c≠d:=fun e=>hdmc (e▸hcm);have e2d:g2 d=some { nd with pa:=0,kids:=ys }:=by rw[j10 d hdmc];exact h5.self
  obtain⟨nc,e2c,hnc⟩:∃ nc,g2 c=some nc∧nc.pa=0:=by
   cases f with
   | zero=>exact j7.elim
   | succ f=>obtain⟨q,ys',_,_,_,k2,_⟩:=j7;exact⟨_,k2,rfl⟩
  have hd0:d≠0:=(h5.fresh d (by simp)).2;have hupd:Tr.upG g2 d=[d]:=by rw[j4.upG_some e2d];rw[show ({ nd with pa:=0,kids:=ys }:Tr.GN).pa=0 from rfl,j4.upG_none j4.zero]
  have hcu:c∉Tr.upG g2 d:=by rw[hupd];simpa using hcd
  have hhg:Tr.hgtG g2 c≤f:=by
   show Tr.hgt g2 129 c≤f;rw[Tr.Cp.hgt f 129 j7 (by omega)];exact Tr.hgt_le gj f x
  have hfle:f≤127:=by
   have:1≤(Tr.upG g h).length:=by rw[hw.upG_some eg];simp
   omega
  have hF4:∀ k,¬ Foot B vs' vf' k→k<W.heap.size→¬ Foot B vs2 vf2 k:=fun k hk hl hk2=>hk (j6.2 k hl hk2);have htb:=i1.turns j6.1 (h1.not_foot i1 (by decide) (by decide) (by decide));have hbt:=i3.turns j6.1 (h1.not_foot i3 (by decide) (by decide) (by decide));have hXX:=i2.turns j6.1 h8;have hbh:=i4.turns j6.1 h9;have hX2:=hF4 X h8 i2.lt;have hb2:=hF4 bh h9 i4.lt;refine⟨htb,hXX,ko_astep h1 j6,?_⟩;refine (link_tree base B b s root d c 0 live2 n2 g2 av2 fr2 vs2 vf2 nc { nd with pa:=0,kids:=ys } w4 j2 j3 j4 e2c hnc e2d hcd (.inl rfl)).mono ?_;rintro e w5 ⟨hu,k1,k2⟩;refine⟨hu,⟨vs2,vf2,n2,live2,fr2,av2,Tr.linkG g2 d c 0,ys++[c],l++Tr.walk g f x,m++mc,k1,sound_link j3 j4 e2c hnc e2d hcd (.inl rfl),j4.link e2c hnc e2d hcu (by rw[hupd,List.length_singleton];omega),?_,?_,?_,(h7.trans j6).trans k2,hX2,hb2,?_,?_,?_,?_⟩,ko_astep j2 k2⟩
  ·refine AT.same (j5.step j2 k2) fun y q e=>?_;unfold Tr.linkG at e
   split at e
   ·rename_i hy;subst hy;rw[e2c] at e;obtain rfl:=Option.some.inj e;exact⟨nc,e2c,rfl⟩
   ·split at e
    ·rename_i hy;subst hy;rw[e2d] at e;obtain rfl:=Option.some.inj e;exact⟨_,e2d,rfl⟩
    ·exact⟨q,e,rfl⟩
  ·have hO:∀ z,z∉mc→Tr.linkG g2 d c 0 z=if z=d then (gj d).map fun n=>{ n with kids:=n.kids++[c] } else gj z:=fun z hz=>by
    unfold Tr.linkG;rw[if_neg (fun e=>hz (by rw[e];exact hcm))];by_cases e:z=d
    ·subst e;rw[if_pos rfl,if_pos rfl,e2d,h5.self];show some _=some _;have h0:(0:Int)∉ys:=fun hm=>by
      have:=(h5.cp.inner fun h=>Tr.Cp.inner f h).1 0 hm;exact (h5.fresh 0 (List.mem_cons_of_mem _ this)).2 rfl
     dsimp only;rw[Tr.insB_end h0]
    ·rw[if_neg e,if_neg e];exact j10 z hz
   refine h5.step (fun _=>rfl) (fun z hz=>⟨hwlive x z (by rw[hwk];exact hz),rfl⟩) (lk:=Tr.walk gj f x) (mc:=mc) (Tr.Cp.moved j7 j8 (fun z hz hzc=>?_) ?_) j8 j9 hO hxs hcl
   ·unfold Tr.linkG;rw[if_neg hzc,if_neg (fun e=>hdmc (by rw[←e];exact hz))]
   ·unfold Tr.linkG;rw[if_pos rfl]
  ·rw[List.length_append];have hcl':=Tr.Cp.len f j7;rw[hag] at hcl';omega
  ·exact htb.turns k2.1 (j2.not_foot htb (by decide) (by decide) (by decide))
  ·exact hXX.turns k2.1 hX2
  ·exact hbt.turns k2.1 (j2.not_foot hbt (by decide) (by decide) (by decide))
  ·exact hbh.turns k2.1 hb2
end
end
end Go.Proofs.YtaigmpkcdjbpiaaGreatDoor
