/- Part of a proof about trees. -/
import Derived.ChangeSame
import Derived.Deep.CutBlock
import Derived.Deep.DeepCutAuto
import Derived.Deep.Slices
import Derived.Lib.SmallJoins
import Derived.ProofKit
import Derived.Test.YtmhjlifmcadefaaGreatDoorGNDod
import Derived.Test.YtmhjlifmcadefaaGreatDoorGNDoi
import Derived.Test.YtmhjlifmcadefaaGreatDoorS07
set_option linter.unusedVariables false
set_option linter.unusedSimpArgs false
set_option linter.unusedSectionVars false
set_option maxHeartbeats 2000000
set_option maxRecDepth 100000
namespace Go.Proofs.YtmhjlifmcadefaaGreatDoor
section
open Go.RowKit
variable [mQ]
theorem En {x:Int} {m:Nat} {i j:Nat} (h1:x.tmod (m:Int)=(i:Int)) (h2:x.tmod (m:Int)=(j:Int)):i=j:=by omega
theorem Xo (base bM T B M:Nat) (b s:Int) (vs vf aP vh:Value) (n live m:Nat) (fr:List Nat) (av:Int→Tr.Sl) (f:Nat→RS) (hs:List Int) (g:Tr.G) (K:Nat) (o:qp) (w:World) (H:TW w base bM T B M b s vs vf aP vh n live m fr av f hs g K) (ho:pE o) (hm:m≤300) (hK:K≤60) (hT:Lit w):
  uL base bM T B M b s K o w:=by
 obtain⟨k,hk,hk10⟩:=aR (m:=10) ho.kind.1 (by omega);have hk':o.kind.tmod 10=(k:Int):=hk;have hcase:k=0∨k=1∨k=2∨k=3∨k=4∨k=5∨k=6∨k=7∨k=8∨k=9:=by omega
 rcases hcase with rfl | rfl | rfl | rfl | rfl | rfl | rfl | rfl | rfl | rfl
 ·by_cases hn:0<o.n
  ·exact BS base bM T B M b s vs vf aP vh n live m fr av f hs g K o w H ho 0 2 (by omega) hk' hn hm hK hT
  ·exact BR base bM T B M b s vs vf aP vh n live m fr av f hs g K o w H ho 0 2 (by omega) hk' hn hm hK hT
 ·by_cases hn:0<o.n
  ·exact BS base bM T B M b s vs vf aP vh n live m fr av f hs g K o w H ho 1 3 (by omega) hk' hn hm hK hT
  ·exact BR base bM T B M b s vs vf aP vh n live m fr av f hs g K o w H ho 1 3 (by omega) hk' hn hm hK hT
 ·by_cases hn:0<o.n
  ·exact BS base bM T B M b s vs vf aP vh n live m fr av f hs g K o w H ho 2 4 (by omega) hk' hn hm hK hT
  ·exact BR base bM T B M b s vs vf aP vh n live m fr av f hs g K o w H ho 2 4 (by omega) hk' hn hm hK hT
 ·obtain⟨ia,hia,aI⟩:=aR ho.a.1 H.m0;obtain⟨ib,hib,iT⟩:=aR ho.b.1 H.m0;obtain⟨ic,hic,qw⟩:=aR (m:=m+1) ho.c.1 (by omega);rw[Int.natCast_add] at hic;have ka:∀ q,(f ia).gone=q→∀ i:Nat,o.a.tmod (m:Int)=(i:Int)→(f i).gone=q:=fun q hq i hi=>by rw[En hi hia];exact hq
  have kb:∀ q,(f ib).gone=q→∀ i:Nat,o.b.tmod (m:Int)=(i:Int)→(f i).gone=q:=fun q hq i hi=>by rw[En hi hib];exact hq
  rcases Nat.eq_zero_or_pos ic with rfl | hpos
  ·have hcz:o.c.tmod ((m:Int)+1)=0:=hic;cases ga:(f ia).gone with
   | true=>exact Om base bM T B M b s vs vf aP vh n live m fr av f hs g K o w H ho hk' hcz (ka _ ga) hm hK hT
   | false=>
    cases gb:(f ib).gone with
    | true=>exact Oo base bM T B M b s vs vf aP vh n live m fr av f hs g K o w H ho hk' hcz (ka _ ga) (kb _ gb) hm hK hT
    | false=>exact Oq base bM T B M b s vs vf aP vh n live m fr av f hs g K o w H ho hk' hcz (ka _ ga) (kb _ gb) hm hK hT
  ·obtain⟨jc,rfl⟩:∃ jc,ic=jc+1:=⟨ic - 1,by omega⟩
   have hcz:o.c.tmod ((m:Int)+1)=(jc:Int)+1:=hic;have hjl:jc<m:=by omega
   cases ga:(f ia).gone with
   | true=>exact MG base bM T B M b s vs vf aP vh n live m fr av f hs g K o w H ho hk' jc hjl hcz (ka _ ga) hm hK hT
   | false=>
    cases gb:(f ib).gone with
    | true=>exact MH base bM T B M b s vs vf aP vh n live m fr av f hs g K o w H ho hk' jc hjl hcz (ka _ ga) (kb _ gb) hm hK hT
    | false=>
     cases gc:(f jc).gone with
     | true=>exact MJ base bM T B M b s vs vf aP vh n live m fr av f hs g K o w H ho hk' jc hjl hcz (ka _ ga) (kb _ gb) gc hm hK hT
     | false=>exact MK base bM T B M b s vs vf aP vh n live m fr av f hs g K o w H ho hk' jc hjl hcz (ka _ ga) (kb _ gb) gc hm hK hT
 ·exact ME base bM T B M b s vs vf aP vh n live m fr av f hs g K o w H ho hk' hm hK hT
 ·exact Jh base bM T B M b s vs vf aP vh n live m fr av f hs g K o w H ho hk' hm hK hT
 ·exact IC base bM T B M b s vs vf aP vh n live m fr av f hs g K o w H ho hk' hm hK hT
 ·exact Js base bM T B M b s vs vf aP vh n live m fr av f hs g K o w H ho hk' hm hK hT
 ·exact Ue base bM T B M b s vs vf aP vh n live m fr av f hs g K o w H ho hk' hm hK hT
 ·exact TY base bM T B M b s vs vf aP vh n live m fr av f hs g K o w H ho hk' hm hK hT
end
section
open Go.RowKit
variable [mQ]
structure XO (o:qp):Prop where
 kind:0≤o.kind∧o.kind<256
 a:0≤o.a∧o.a<256
 b:0≤o.b∧o.b<256
 c:0≤o.c∧o.c<256
 n : -128≤o.n∧o.n<128
 k : -128≤o.k∧o.k<128
theorem XO.ok {o:qp} (h:XO o) (hs:o.s.size≤40∧o.t.size≤40):pE o:=⟨h.kind,h.a,h.b,h.c,hs.1,hs.2,h.n,h.k⟩
def MS (T B M base bM:Nat) (b s:Int) (m:Nat) (Ah:Option Addr) (ch i:Nat) (w:World):Prop:=
 ∃ (vs vf aP:Value) (n live:Nat) (fr:List Nat) (av:Int→Tr.Sl) (f:Nat→RS) (hs:List Int) (g:Tr.G),TW w base bM T B M b s vs vf aP (.slice Ah m ch) n live m fr av f hs g i
theorem TW.ms {w:World} {base bM T B M:Nat} {b s:Int} {vs vf aP vh:Value} {n live m:Nat} {fr:List Nat} {av:Int→Tr.Sl} {f:Nat→RS} {hs:List Int} {g:Tr.G} {K:Nat} (H:TW w base bM T B M b s vs vf aP vh n live m fr av f hs g K):∃ Ah ch,MS T B M base bM b s m Ah ch K w:=by
 obtain⟨A,c,rfl⟩:=H.tw.row.form;rw[H.len] at H;exact⟨A,c,vs,vf,aP,n,live,fr,av,f,hs,g,H⟩
theorem MS.cell {T B M base bM:Nat} {b s:Int} {m:Nat} {Ah:Option Addr} {ch i:Nat} {w:World} (H:MS T B M base bM b s m Ah ch i w):w.cell? ⟨T,2,none⟩=some (.slice Ah m ch)∧m≤700∧Below mQ.L mQ.w0 w:=by
 obtain⟨vs,vf,aP,n,live,fr,av,f,hs,g,h⟩:=H;exact⟨h.tw.var.cell 2,h.ml,h.kp.1⟩
theorem MS.op {T B M base bM:Nat} {b s:Int} {m:Nat} {Ah:Option Addr} {ch i:Nat} {w:World} (H:MS T B M base bM b s m Ah ch i w) (o:qp) (ho:pE o) (hm:m≤300) (hi:i≤60) (hT:Lit w):
  Calls Tryz.prog 16 #[.pointer (some ⟨T,0,none⟩),.agg #[.int .u8 o.kind,.int .u8 o.a,.int .u8 o.b,.int .u8 o.c,.string o.s,.string o.t,.int .i8 o.n,.int .i8 o.k]] w fun e w'=>∃ lv m' Ah' ch',e=.returned (.tuple #[lv,.bool true])∧MS T B M base bM b s m' Ah' ch' (i+1) w':=by
 obtain⟨vs,vf,aP,n,live,fr,av,f,hs,g,h⟩:=H;refine (Xo base bM T B M b s vs vf aP _ n live m fr av f hs g i o w h ho hm hi hT).mono ?_;rintro e w' ⟨lv,lp,vs',dw,dP,lV,n',aY,m',fr',iK,f',hs',g',rfl,h'⟩;obtain⟨A,c,hms⟩:=h'.ms;exact⟨lv,m',A,c,rfl,hms⟩
end
section
open Go.RowKit
variable [mQ]
def nX (n:RS) (sb:Int):Int:=if n.gone=true then sb else sb.tmod ((Ej n:Int)+1)
theorem Uf {w:World} {X:Nat} {t:TypeId} {c0 c1:Value} (h:Whole w X #[c0,c1] t) (d0 d1:Value):∃ W,(w.setCell ⟨X,0,none⟩ d0).setCell ⟨X,1,none⟩ d1=W∧Whole W X #[d0,d1] t∧w.grownBy W (some X):=by
 refine⟨_,rfl,?_,?_⟩
 ·have h0:Whole _ X #[d0,c1] t:=h.put 0 d0;exact h0.put 1 d1
 ·exact aJ (aJ (ay (Below.refl w.heap.size w) _) 0 d0) 1 d1
theorem yH (base bM T B M:Nat) (b s:Int) (vs vf aP:Value) (n live m:Nat) (fr:List Nat) (av:Int→Tr.Sl) (f:Nat→RS) (hs:List Int) (g:Tr.G) (K gh oh ch:Nat) (w:World) (H:TW w base bM T B M b s vs vf aP (.slice (some ⟨gh,oh,none⟩) m ch) n live m fr av f hs g K) (sa sb:Int) (ha:0≤sa∧sa≤255) (hb:0≤sb∧sb≤255) (hK:K≤60) (x:Nat) (hx:sa.tmod (m:Int)=(x:Int)) (hxm:x<m):
  Calls Tryz.prog 7 #[.pointer (some ⟨T,0,none⟩),.agg #[.int .u8 sa,.int .u8 sb]] w fun e w'=>e=.returned (.tuple #[.agg #[.int .i64 (x:Int),.int .i64 (nX (f x) sb)],.agg #[.int .i64 (hof hs (x:Int)),.int .i64 (nX (f x) sb)]])∧Below w.heap.size w w':=by
 obtain⟨hx',hhx⟩:∃ v,hof hs (x:Int)=v:=⟨_,rfl⟩
 have hml:=H.ml;have hm0:=H.m0;obtain⟨R,hR⟩:=eX (nX (f x) sb)
 rw[hhx,hR];obtain⟨w3,hw3⟩:=eX (((w.alloc (.cells #[.int .u8 sa,.int .u8 sb] 24)).alloc (.cells #[.int .i64 0,.int .i64 0] 30)).alloc (.cells #[.int .i64 0,.int .i64 0] 31))
 have hX0:Whole w3 w.heap.size #[.int .u8 sa,.int .u8 sb] 24:=by rw[←hw3];exact ((Whole.new w _ _).alloc _).alloc _
 have hX1:Whole w3 (w.heap.size+1) #[.int .i64 0,.int .i64 0] 30:=by
  rw[←hw3];have:=(Whole.new (w.alloc (.cells #[.int .u8 sa,.int .u8 sb] 24)) #[.int .i64 0,.int .i64 0] 30).alloc (.cells #[.int .i64 0,.int .i64 0] 31)
  rwa [World.size_alloc] at this
 have hX2:Whole w3 (w.heap.size+2) #[.int .i64 0,.int .i64 0] 31:=by
  rw[←hw3];have:=Whole.new ((w.alloc (.cells #[.int .u8 sa,.int .u8 sb] 24)).alloc (.cells #[.int .i64 0,.int .i64 0] 30)) #[.int .i64 0,.int .i64 0] 31
  rwa [World.size_alloc,World.size_alloc] at this
 have hz3:w3.heap.size=w.heap.size+3:=by rw[←hw3];simp
 have hb3:Below w.heap.size w w3:=by rw[←hw3];exact (((Below.refl _ w).alloc (Nat.le_refl _) _).alloc (by simp) _).alloc (by simp;omega) _
 have HW3:=zh hw3;have HH:Hid (∀ W,Below w3.heap.size w3 W→TW W base bM T B M b s vs vf aP (.slice (some ⟨gh,oh,none⟩) m ch) n live m fr av f hs g K):=zh fun W hb=>(H.below hb3).below hb;have Cj:Hid (∀ W,Below w3.heap.size w3 W→Whole W (w.heap.size+1) #[.int .i64 0,.int .i64 0] 30∧Whole W (w.heap.size+2) #[.int .i64 0,.int .i64 0] 31):=zh fun W hb=>⟨hX1.below hb hX1.lt,hX2.below hb hX2.lt⟩
 have uo:=zh (fun (W:World) (hb:Below w3.heap.size w3 W)=>hb3.trans (hb.mono hb3.size));have uJ:Hid (T<w.heap.size∧gh<w.heap.size):=zh ⟨H.tw.var.lt,(H.tw.row.lt gh (by simp[Value.ownBlock])).2⟩;have HC:Hid (∀ W,Below w3.heap.size w3 W→W.cell? ⟨w.heap.size,0,none⟩=some (.int .u8 sa)∧W.cell? ⟨w.heap.size,1,none⟩=some (.int .u8 sb)∧W.cell? ⟨T,1,none⟩=some (.pointer (some ⟨M,0,none⟩))∧W.cell? ⟨T,2,none⟩=some (.slice (some ⟨gh,oh,none⟩) m ch)∧W.cell? ⟨gh,oh+x,none⟩=some (.int .i64 hx')):=zh fun W hb=>by
  have h1:=hX0.below hb hX0.lt;have h2:=HH.out W hb;have hr:=h2.tw.row;rw[h2.len] at hr;exact⟨h1.cell 0,h1.cell 1,h2.tw.var.cell 1,h2.tw.var.cell 2,by rw[←hhx];exact hr.cellAt x _ (by omega) (eu (h2.bJ hxm))⟩
 have HR:=zh hR;have x0:(0:Int)≤(x:Int):=by omega
 have x1:(x:Int)<(m:Int):=by omega
 have m1:(0:Int)<(m:Int):=by omega
 have m2:((m:Int) == 0)=false:=by simp;omega
 have m3:¬ (m:Int)=0:=by omega
 have m4:¬ m=0:=by omega
 have wa:IntKind.i64.wrap sa=sa:=by rw[IntKind.wrap_i64];omega
 have wb:IntKind.i64.wrap sb=sb:=by rw[IntKind.wrap_i64];omega
 obtain⟨gx,hgx⟩:=eX ((f x).gone)
 have HG:=zh hgx;have dZ:=zh (fun W (hb:Below w3.heap.size w3 W)=>show Calls Tryz.prog 9 #[.pointer (some ⟨M,0,none⟩),.int .i64 (x:Int)] W fun e w'=>e=.returned (.bool (!gx))∧w'=W from by rw[←hgx];exact bX bM M m aP f x W (HH.out W hb).mv hxm (by omega));have Vd:gx=false→Hid (∀ W,Below w3.heap.size w3 W→Calls Tryz.prog 17 #[.pointer (some ⟨M,0,none⟩),.int .i64 (x:Int)] W fun e w'=>e=.returned (.int .i64 (Ej (f x):Nat))∧Below W.heap.size W w'):=fun hg=>zh fun W hb=>by
  have h2:=HH.out W hb;have hbd:=h2.bd x hxm;have hkl:=eP (h2.im.pull h2.wf) hxm (by rw[hgx,hg]);exact El bM M m aP f x W h2.mv hxm (by omega) hbd.2.2 (by omega)
 have Xp:gx=false→Ej (f x)≤10000:=fun hg=>by
  have hbd:=H.bd x hxm;have hkl:=eP (H.im.pull H.wf) hxm (by rw[hgx,hg]);unfold Ej
  split
  ·have h5:=bB.iY (f x).data.data.toList;have h6:(f x).data.data.toList.length=(f x).data.size:=rfl;unfold nE;omega
  ·omega
 obtain⟨V,hV⟩:=eX (w3.drew)
 have bK:=zh (lW hV);clear hw3 hX0 hX1 hX2 hb3 H hhx hR hgx hz3
 go_enter Tryz.func7,Tryz.ntmps7
 go_upto_region 1 with fail
 rw[HW3.out];clear HW3;refine wp_region_noPanic ?_;refine wp_region_held_drew (S:=(fun W=>W.cell? ⟨w.heap.size,0,none⟩=some (.int .u8 sa)∧W.cell? ⟨w.heap.size,1,none⟩=some (.int .u8 sb)∧W.cell? ⟨T,1,none⟩=some (.pointer (some ⟨M,0,none⟩))∧W.cell? ⟨T,2,none⟩=some (.slice (some ⟨gh,oh,none⟩) m ch)∧W.cell? ⟨gh,oh+x,none⟩=some (.int .i64 hx'))) (by kernel_rfl) ?_ (fun ah=>?_)
 ·exact (by rw[hV];exact HC.out V bK.out)
 rw[hV] at ah ⊢;refine bn [0,1,2,3,4,5,6,7,8,9] ?_;iterate 10 (refine cZ ?_;try simp only[pS])
 refine bq ?_;refine eY ?_;clear ah;obtain⟨c0,c1,c2,c3,c4⟩:=HC.out V bK.out;go_wp2_with fail;refine (dZ.out V bK.out).mono ?_;rintro e w4 ⟨rfl,hw4⟩;rw[hw4];clear hw4 w4;cases gx with
 | true=>
  clear Vd Xp;obtain⟨V5,Xq⟩:=eX (V.drew)
  have nU:=zh (bK.out.trans ((lW Xq).mono bK.out.size));obtain⟨WA,Ce,Rn,gA⟩:=Uf (Cj.out V5 nU.out).1 (.int .i64 (x:Int)) (.int .i64 sb);have xM:Whole WA (w.heap.size+2) #[.int .i64 0,.int .i64 0] 31:=(Cj.out V5 nU.out).2.grown gA (by simp);obtain⟨WB,Ve,uz,gB⟩:=Uf xM (.int .i64 hx') (.int .i64 sb);have KX:=Rn.grown gB (by simp);have Xr:WA.cell? ⟨w.heap.size,0,none⟩=some (.int .u8 sa)∧WA.cell? ⟨w.heap.size,1,none⟩=some (.int .u8 sb)∧WA.cell? ⟨T,1,none⟩=some (.pointer (some ⟨M,0,none⟩))∧WA.cell? ⟨T,2,none⟩=some (.slice (some ⟨gh,oh,none⟩) m ch)∧WA.cell? ⟨gh,oh+x,none⟩=some (.int .i64 hx'):=by
   obtain⟨d0,d1,d2,d3,d4⟩:=HC.out V5 nU.out;have:=uJ.out;exact⟨gA.cell d0 (by simp),gA.cell d1 (by simp),gA.cell d2 (by simp;omega),gA.cell d3 (by simp;omega),gA.cell d4 (by simp;omega)⟩
  have hSB:WB.cell? ⟨w.heap.size,0,none⟩=some (.int .u8 sa)∧WB.cell? ⟨w.heap.size,1,none⟩=some (.int .u8 sb)∧WB.cell? ⟨T,1,none⟩=some (.pointer (some ⟨M,0,none⟩))∧WB.cell? ⟨T,2,none⟩=some (.slice (some ⟨gh,oh,none⟩) m ch)∧WB.cell? ⟨gh,oh+x,none⟩=some (.int .i64 hx'):=by
   obtain⟨d0,d1,d2,d3,d4⟩:=Xr;have:=uJ.out;exact⟨gB.cell d0 (by simp),gB.cell d1 (by simp),gB.cell d2 (by simp;omega),gB.cell d3 (by simp;omega),gB.cell d4 (by simp;omega)⟩
  have y0:=(Cj.out V5 nU.out).1.cell 0;have y1:=(Cj.out V5 nU.out).1.cell 1;have yZ:=(Cj.out V5 nU.out).1.free 0;have za:=(Cj.out V5 nU.out).1.free 1;have z0:=xM.cell 0;have z1:=xM.cell 1;have YF:=xM.free 0;have YG:=xM.free 1;have HFB:Hid (WB.cell? ⟨w.heap.size+1,0,none⟩=some (.int .i64 (x:Int))∧WB.cell? ⟨w.heap.size+1,1,none⟩=some (.int .i64 sb)∧WB.cell? ⟨w.heap.size+2,0,none⟩=some (.int .i64 hx')∧WB.cell? ⟨w.heap.size+2,1,none⟩=some (.int .i64 sb)∧Below w.heap.size w WB):=zh ⟨KX.cell 0,KX.cell 1,uz.cell 0,uz.cell 1,((uo.out V5 nU.out).grown gA (uo.out V5 nU.out).size (fun k hk=>by injection hk with hk;omega)).grown gB (Nat.le_trans (uo.out V5 nU.out).size gA.size) (fun k hk=>by injection hk with hk;omega)⟩;have gV:=zh (And.intro Xr hSB);clear Rn xM uz KX Xr hSB gA gB c0 c1 c2 c3 c4
  go_upto_region 5 with fail
  refine wp_region_noPanic ?_;refine wp_region_held_drew (S:=(fun W=>W.cell? ⟨w.heap.size,0,none⟩=some (.int .u8 sa)∧W.cell? ⟨w.heap.size,1,none⟩=some (.int .u8 sb)∧W.cell? ⟨T,1,none⟩=some (.pointer (some ⟨M,0,none⟩))∧W.cell? ⟨T,2,none⟩=some (.slice (some ⟨gh,oh,none⟩) m ch)∧W.cell? ⟨gh,oh+x,none⟩=some (.int .i64 hx'))) (by kernel_rfl) ?_ (fun ah=>?_)
  ·exact (by rw[Xq];exact HC.out V5 nU.out)
  rw[Xq] at ah ⊢;refine bn [0,1,2,3,4,5,6,7,8,9,10,11] ?_;iterate 12 (refine cZ ?_;try simp only[pS])
  refine bq ?_;refine bG 12 fun K hK=>?_;go_simp;(try rw[Ce]);refine hK.out _ _ gV.out.1 fun ah=>?_;clear hK K;(try simp only[pS]);refine bG 13 fun K hK=>?_;go_simp;(try rw[Ve]);refine hK.out _ _ gV.out.2 fun ah=>?_;clear hK K;(try simp only[pS]);refine eY ?_;clear ah;obtain⟨r0,r1,r2,r3,rb⟩:=HFB.out;have TL:=zh rb;clear rb y0 y1 yZ za z0 z1 YF YG;have HVR:=zh (show R=sb from by rw[←HR.out];unfold nX;rw[if_pos HG.out]);go_wp2_with fail;refine⟨rfl,_,by simp[results,Tryz.results7,go_sem,r0,r1,r2,r3];rfl,?_⟩;exact⟨by rw[HVR.out],TL.out⟩
 | false=>
  have HZ:=Vd rfl;have hzb:=Xp rfl;obtain⟨z,hz⟩:=eX (Ej (f x))
  rw[hz] at HZ hzb;obtain⟨q,hq⟩:=eX (sb.tmod ((z:Int)+1))
  have w1:IntKind.i64.wrap ((z:Int)+1)=(z:Int)+1:=by rw[IntKind.wrap_i64];omega
  have w2:((z:Int)+1 == 0)=false:=by simp;omega
  have w3':¬ (z:Int)+1=0:=by omega
  have HQ:=zh (And.intro hz hq);clear Vd Xp hz;go_wp2_with fail;refine (HZ.out V bK.out).mono ?_;rintro e w5 ⟨rfl,hb5⟩;have jg:=zh (bK.out.trans (hb5.mono bK.out.size));clear hb5
  go_upto_region 5 with fail
  obtain⟨V5,Xq⟩:=eX (w5.drew)
  have nU:=zh (jg.out.trans ((lW Xq).mono jg.out.size));obtain⟨WA,Ce,Rn,gA⟩:=Uf (Cj.out V5 nU.out).1 (.int .i64 (x:Int)) (.int .i64 q);have xM:Whole WA (w.heap.size+2) #[.int .i64 0,.int .i64 0] 31:=(Cj.out V5 nU.out).2.grown gA (by simp);obtain⟨WB,Ve,uz,gB⟩:=Uf xM (.int .i64 hx') (.int .i64 q);have KX:=Rn.grown gB (by simp);have Xr:WA.cell? ⟨w.heap.size,0,none⟩=some (.int .u8 sa)∧WA.cell? ⟨w.heap.size,1,none⟩=some (.int .u8 sb)∧WA.cell? ⟨T,1,none⟩=some (.pointer (some ⟨M,0,none⟩))∧WA.cell? ⟨T,2,none⟩=some (.slice (some ⟨gh,oh,none⟩) m ch)∧WA.cell? ⟨gh,oh+x,none⟩=some (.int .i64 hx'):=by
   obtain⟨d0,d1,d2,d3,d4⟩:=HC.out V5 nU.out;have:=uJ.out;exact⟨gA.cell d0 (by simp),gA.cell d1 (by simp),gA.cell d2 (by simp;omega),gA.cell d3 (by simp;omega),gA.cell d4 (by simp;omega)⟩
  have hSB:WB.cell? ⟨w.heap.size,0,none⟩=some (.int .u8 sa)∧WB.cell? ⟨w.heap.size,1,none⟩=some (.int .u8 sb)∧WB.cell? ⟨T,1,none⟩=some (.pointer (some ⟨M,0,none⟩))∧WB.cell? ⟨T,2,none⟩=some (.slice (some ⟨gh,oh,none⟩) m ch)∧WB.cell? ⟨gh,oh+x,none⟩=some (.int .i64 hx'):=by
   obtain⟨d0,d1,d2,d3,d4⟩:=Xr;have:=uJ.out;exact⟨gB.cell d0 (by simp),gB.cell d1 (by simp),gB.cell d2 (by simp;omega),gB.cell d3 (by simp;omega),gB.cell d4 (by simp;omega)⟩
  have y0:=(Cj.out V5 nU.out).1.cell 0;have y1:=(Cj.out V5 nU.out).1.cell 1;have yZ:=(Cj.out V5 nU.out).1.free 0;have za:=(Cj.out V5 nU.out).1.free 1;have z0:=xM.cell 0;have z1:=xM.cell 1;have YF:=xM.free 0;have YG:=xM.free 1;have HFB:Hid (WB.cell? ⟨w.heap.size+1,0,none⟩=some (.int .i64 (x:Int))∧WB.cell? ⟨w.heap.size+1,1,none⟩=some (.int .i64 q)∧WB.cell? ⟨w.heap.size+2,0,none⟩=some (.int .i64 hx')∧WB.cell? ⟨w.heap.size+2,1,none⟩=some (.int .i64 q)∧Below w.heap.size w WB):=zh ⟨KX.cell 0,KX.cell 1,uz.cell 0,uz.cell 1,((uo.out V5 nU.out).grown gA (uo.out V5 nU.out).size (fun k hk=>by injection hk with hk;omega)).grown gB (Nat.le_trans (uo.out V5 nU.out).size gA.size) (fun k hk=>by injection hk with hk;omega)⟩;have gV:=zh (And.intro Xr hSB);clear Rn xM uz KX Xr hSB gA gB;refine wp_region_noPanic ?_;refine wp_region_held_drew (S:=(fun W=>W.cell? ⟨w.heap.size,0,none⟩=some (.int .u8 sa)∧W.cell? ⟨w.heap.size,1,none⟩=some (.int .u8 sb)∧W.cell? ⟨T,1,none⟩=some (.pointer (some ⟨M,0,none⟩))∧W.cell? ⟨T,2,none⟩=some (.slice (some ⟨gh,oh,none⟩) m ch)∧W.cell? ⟨gh,oh+x,none⟩=some (.int .i64 hx'))) (by kernel_rfl) ?_ (fun ah=>?_)
  ·exact (by rw[Xq];exact HC.out V5 nU.out)
  rw[Xq] at ah ⊢;refine bn [0,1,2,3,4,5,6,7,8,9,10,11] ?_;iterate 12 (refine cZ ?_;try simp only[pS])
  refine bq ?_;refine bG 12 fun K hK=>?_;go_simp;(try rw[Ce]);refine hK.out _ _ gV.out.1 fun ah=>?_;clear hK K;(try simp only[pS]);refine bG 13 fun K hK=>?_;go_simp;(try rw[Ve]);refine hK.out _ _ gV.out.2 fun ah=>?_;clear hK K;(try simp only[pS]);refine eY ?_;clear ah;obtain⟨r0,r1,r2,r3,rb⟩:=HFB.out;have TL:=zh rb;clear rb y0 y1 yZ za z0 z1 YF YG;have HVR:=zh (show R=q from by rw[←HR.out];unfold nX;rw[if_neg (by rw[HG.out];decide),HQ.out.1,HQ.out.2]);go_wp2_with fail;refine⟨rfl,_,by simp[results,Tryz.results7,go_sem,r0,r1,r2,r3];rfl,?_⟩;exact⟨by rw[HVR.out],TL.out⟩
end
section
open Go.RowKit
variable [mQ]
theorem TW.lv {w:World} {base bM T B M:Nat} {b s:Int} {vs vf aP vh:Value} {n live m:Nat} {fr:List Nat} {av:Int→Tr.Sl} {f:Nat→RS} {hs:List Int} {g:Tr.G} {K:Nat} (H:TW w base bM T B M b s vs vf aP vh n live m fr av f hs g K) (hK:K≤62):KN base B b s (hof hs 0) live n g av fr vs vf w:=by
 have key:∀ h q,g h=some q→∃ i,i<m∧(f i).gone=false∧q=Tr.eD (hof hs) (jZ (f i)):=fun h q e=>by
  obtain⟨y,hy,rfl⟩:=H.im.dom h (by rw[e];rfl);obtain⟨i,rfl,hi,hg,-⟩:=jv hy;rw[H.dx hi hg] at e;exact⟨i,hi,hg,(Option.some.inj e).symm⟩
 refine⟨H.tv,H.so,H.wf,H.at',fun h q e=>?_,fun h q e=>?_,fun h q e=>?_,fun h q e h2=>?_,fun h q e=>?_⟩
 ·obtain⟨i,hi,hg,rfl⟩:=key h q e;have:=(H.bd i hi).1;show (f i).at'.length≤1000;omega
 ·obtain⟨i,hi,hg,rfl⟩:=key h q e;have:=(H.bd i hi).2.1;show (f i).data.size≤10000;omega
 ·obtain⟨i,hi,hg,rfl⟩:=key h q e;have h1:=eP (H.im.pull H.wf) hi hg;have h3:=H.ml;show ((f i).kids.map (hof hs)).length≤100000;rw[List.length_map];omega
 ·rcases (H.ok.1 h q e).1 with h1 | h1 | h1
  ·omega
  ·omega
  ·exact h1
 ·obtain⟨i,hi,hg,rfl⟩:=key h q e;show (f i).kind≤4;by_cases h0:i=0
  ·subst h0;have:=H.km.1;omega
  ·have:=H.km.2 i hi h0;omega
end
section
open Go.RowKit
variable [mQ]
section
variable {w:World} {base bM T B M:Nat} {b s:Int} {vs vf aP vh:Value} {n live m:Nat} {fr:List Nat} {av:Int→Tr.Sl} {f:Nat→RS} {hs:List Int} {g:Tr.G} {K:Nat}
theorem TW.qK (H:TW w base bM T B M b s vs vf aP vh n live m fr av f hs g K) (x:Nat):Lv.qK nE (jZ (f x))=Ej (f x)∧Lv.qK nE (Tr.eD (hof hs) (jZ (f x)))=Ej (f x):=by
 refine⟨rfl,?_⟩;show (if 2<(f x).kind then nE (f x).data else ((f x).kids.map (hof hs)).length)=_;rw[List.length_map];rfl
theorem LG {n:RS} {sb:Int} (hb:0≤sb) (hg:n.gone=false):∃ k:Nat,nX n sb=(k:Int)∧k≤Ej n:=by
 unfold nX;rw[hg,if_neg (by decide)];have h1:0≤sb.tmod ((Ej n:Int)+1):=Int.tmod_nonneg _ hb;have h2:sb.tmod ((Ej n:Int)+1)<(Ej n:Int)+1:=Int.tmod_lt_of_pos _ (by omega);exact⟨(sb.tmod ((Ej n:Int)+1)).toNat,by omega,by omega⟩
theorem TW.zx (H:TW w base bM T B M b s vs vf aP vh n live m fr av f hs g K) {x:Nat} (hx:x<m) {sb:Int} (hb:0≤sb):oV g (hof hs (x:Int)) (nX (f x) sb)=if (f x).gone=true then 6 else 0:=by
 unfold oV;cases hg:(f x).gone with
 | true=>
  rw[if_pos rfl];have h1:hof hs (x:Int) = -1:=oO (H.gn x hx hg);have h2:g (-1)=none:=by
   have h3:=H.so.zero (x := -1) (by omega);cases h4:g (-1) with
   | none=>rfl
   | some q=>
    have h5:=(aK (g:=g) (av:=av) (h:=(-1:Int)))
    rw[h3,h4] at h5;simp at h5
  rw[h1,h2]
 | false=>
  obtain⟨k,e,hk⟩:=LG (n:=f x) (sb:=sb) hb hg;rw[H.dx hx hg,e];show (if (k:Int)<0∨(Lv.qK nE (Tr.eD (hof hs) (jZ (f x))):Int)<(k:Int) then (2:Int) else 0)=_;rw[(H.qK x).2,if_neg (by omega),if_neg (by decide)]
theorem TW.Sz (H:TW w base bM T B M b s vs vf aP vh n live m fr av f hs g K) (hK:K≤62) {x y:Nat} (hx:x<m) (hy:y<m) {sa sb:Int} (ha:0≤sa) (hb:0≤sb) (gx:(f x).gone=false) (gy:(f y).gone=false):
  ∃ t u:Int,Tr.dF (Tr.aS (mg m f) (x:Int))=t∧Tr.dF (Tr.aS (mg m f) (y:Int))=u∧(mg m f t).isSome∧
   (t≠u→rP g (hof hs (x:Int)) (nX (f x) sa) (hof hs (y:Int)) (nX (f y) sb)=(0,6))∧
   (t=u→rP g (hof hs (x:Int)) (nX (f x) sa) (hof hs (y:Int)) (nX (f y) sb)=(ou ((Lv.cO nE (mg m f) t).idxOf ((x:Int),nX (f x) sa):Nat) ((Lv.cO nE (mg m f) t).idxOf ((y:Int),nX (f y) sb):Nat),0)∧
    ((x:Int),nX (f x) sa)∈Lv.cO nE (mg m f) t∧((y:Int),nX (f y) sb)∈Lv.cO nE (mg m f) t∧(Lv.cO nE (mg m f) t).length≤1000000000):=by
 have ex:=aM (m:=m) (f:=f) hx gx;have ey:=aM (m:=m) (f:=f) hy gy;have sx:(mg m f (x:Int)).isSome:=by rw[ex];rfl
 have sy:(mg m f (y:Int)).isSome:=by rw[ey];rfl
 have w1:=H.im.pull H.wf;obtain⟨t,l1,-,h1,h2,h3,h4,h5⟩:=QO H.im H.wf sx;obtain⟨u,l2,-,k1,k2,k3,k4,k5⟩:=QO H.im H.wf sy;have pe1:oV g (hof hs (x:Int)) (nX (f x) sa)=0:=by rw[H.zx hx ha,gx];rfl
 have pe2:oV g (hof hs (y:Int)) (nX (f y) sb)=0:=by rw[H.zx hy hb,gy];rfl
 refine⟨t,u,h1,k1,h3,fun hne=>?_,fun he=>?_⟩
 ·unfold rP;rw[pe1,pe2,if_neg (by simp),h4,k4,if_pos (fun e=>hne (H.im.inj t u h3 k3 e))]
 ·subst he;have hlf:=Lv.QU H.im (H.lv hK).lf;obtain⟨i,ei,hi⟩:=LG (n:=f x) (sb:=sa) ha gx;obtain⟨j,ej,hj⟩:=LG (n:=f y) (sb:=sb) hb gy;refine⟨?_,?_,?_,?_⟩
  ·unfold rP;rw[pe1,pe2,if_neg (by simp),h4,k4,if_neg (fun h=>h rfl),Lv.Mj H.im H.wf h3 sx,Lv.Mj H.im H.wf h3 sy]
  ·rw[ei];exact (Lv.nu w1 hlf t _ h5).subset (Lv.tV w1 ex (by rw[(H.qK x).1];exact hi))
  ·rw[ej];exact (Lv.nu w1 hlf t _ k5).subset (Lv.tV w1 ey (by rw[(H.qK y).1];exact hj))
  ·have c1:=Lv.Mr (P:=nE) w1 (C:=10000) (fun h q e=>by
    obtain⟨z,rfl,hz,hg,-⟩:=jv (by rw[e];rfl:(mg m f h).isSome);have e2:=aM (m:=m) (f:=f) hz hg;rw[e2] at e;obtain rfl:=Option.some.inj e;rw[(H.qK z).1];unfold Ej
    split
    ·have h1:=(H.bd z hz).2.1;have h2:=bB.iY (f z).data.data.toList;unfold nE;have:(f z).data.data.toList.length=(f z).data.size:=rfl;omega
    ·have h1:=eP w1 hz hg;have h2:=H.ml
     omega) t
   have c2:=zJ w1 t;have c3:=H.ml;have c4:(Tr.ak (mg m f) t).length*(10000+1)≤700*(10000+1):=Nat.mul_le_mul_right _ (by omega);omega
end
end
section
open Go.RowKit
variable [mQ]
theorem GV (v:Value) (n:Nat) (F:Nat→qp) (w:World) (H:JY w v n F) (hn:n≤9223372036854775807) (hF:∀ i,i<n→XO (F i)) (PW:n≤60∧∀ i,i<n→(F i).s.size≤40∧(F i).t.size≤40) (hT:Lit w) (hL:mQ.L=w.heap.size) (h0:mQ.w0=w) (hS0:∀ k,¬ mQ.S k):
  Calls Tryz.prog 6 #[v] w fun e w'=>∃ (T B M base bM i m ch:Nat) (Ah:Option Addr),e=.returned (.pointer (some ⟨T,0,none⟩))∧i≤60∧MS T B M base bM 2 2 m Ah ch i w':=by
 have HH:=zh (fun (W:World) (hb:Below w.heap.size w W)=>H.below hb);have HT:=zh (fun (W:World) (hb:Below w.heap.size w W)=>hT.below hb);have HF:=zh hF;have Zl:=zh PW;have HL:=zh (And.intro hL (And.intro h0 hS0));obtain⟨A,c,rfl,-⟩:=H;clear hT hF hL h0 hS0 PW
 go_enter Tryz.func6,Tryz.ntmps6
 go_wp2_with fail;refine (Od 2 2 w).mono ?_;rintro e w3 hS;obtain⟨T,B,M,base,bM,vs,vf,aP,vh,rfl,CP⟩:=Rb 2 2 w w3 e hS (by rw[HL.out.1,HL.out.2.1];exact Below.refl _ _) (by rw[HL.out.1];exact Nat.le_refl _) HL.out.2.2;obtain⟨Ah,ch,hms⟩:=CP.ms;have HMS:=zh hms;clear hS CP hms;go_wp2_with fail
 go_loopw [4] (fun u wr=>∃ (i m ch:Nat) (Ah:Option Addr),u=.int .i64 (i:Int)∧i≤n∧Hid (MS T B M base bM 2 2 m Ah ch i wr)) (fun u _=>n - (intOf u).toNat)
 case atStart=>exact⟨0,1,ch,Ah,rfl,Nat.zero_le _,HMS⟩
 case round=>
  clear HMS;obtain⟨wo,hwo⟩:∃ wo:World,wo=wr:=⟨_,rfl⟩
  subst hwo;obtain⟨i,m,ch,Ah,rfl,hi,HM⟩:=hrel;obtain⟨t2,hml,hbk⟩:=HM.out.cell;rw[HL.out.1,HL.out.2.1] at hbk;have HBK:=zh hbk;have acn:=Zl.out.1;clear hbk;by_cases hin:i<n
  ·have y0:(0:Int)≤(i:Int):=by omega
   have y1:(i:Int)<(n:Int):=by omega
   by_cases Ja:m<120
   ·have y2:(m:Int)<120:=by omega
    obtain⟨A',c',e1,h2⟩:=HH.out wo HBK.out;injection e1 with e1 e2 e3;obtain⟨go,oo,hA,hcells⟩:=h2 (by omega);rw[←e1] at hA;subst hA;have ho:=(HF.out i hin).ok (Zl.out.2 i hin);have k0:wo.cell? ⟨go,oo+i*8,none⟩=some (.int .u8 (F i).kind):=hcells i 0 _ hin rfl;have k1:wo.cell? ⟨go,oo+i*8+1,none⟩=some (.int .u8 (F i).a):=hcells i 1 _ hin rfl;have k2:wo.cell? ⟨go,oo+i*8+2,none⟩=some (.int .u8 (F i).b):=hcells i 2 _ hin rfl;have k3:wo.cell? ⟨go,oo+i*8+3,none⟩=some (.int .u8 (F i).c):=hcells i 3 _ hin rfl;have k4:wo.cell? ⟨go,oo+i*8+4,none⟩=some (.string (F i).s):=hcells i 4 _ hin rfl;have k5:wo.cell? ⟨go,oo+i*8+5,none⟩=some (.string (F i).t):=hcells i 5 _ hin rfl;have k6:wo.cell? ⟨go,oo+i*8+6,none⟩=some (.int .i8 (F i).n):=hcells i 6 _ hin rfl;have k7:wo.cell? ⟨go,oo+i*8+7,none⟩=some (.int .i8 (F i).k):=hcells i 7 _ hin rfl;have HOP:=zh (HM.out.op (F i) ho (by omega) (by omega) (HT.out wo HBK.out));clear e1 e2 e3 hcells h2 ho HM;go_wp2_with fail;refine HOP.out.mono ?_;rintro e w5 ⟨lv,m',Ah',ch',rfl,hms⟩;have HMS:=zh hms;clear hms HOP;go_wp2_with fail
    go_roundw
    case rel=>exact⟨i+1,m',ch',Ah',by go_num,by omega,HMS⟩
    case measure=>simp[intOf];omega
   ·have y2:¬ (m:Int)<120:=by omega
    go_wp2_with fail
    go_ret
    exact⟨T,rfl,B,M,base,bM,i,by omega,m,ch,Ah,HM.out⟩
  ·have y1:¬ (i:Int)<(n:Int):=by omega
   go_wp2_with fail
   go_ret
   exact⟨T,rfl,B,M,base,bM,i,by omega,m,ch,Ah,HM.out⟩
end
section
open Go Go.RowKit Go.Joins Go.ChangeShapes Go.WideShapes Go.Deep
theorem Ug {n:Int} (h:(Lit.int .u8 n).wf=true):0≤n∧n<256:=by
 have:0≤n∧n≤255:=by simpa [Lit.wf,IntKind.min,IntKind.max,IntKind.bits,IntKind.signed] using h
 omega
theorem Vi {n:Int} (h:(Lit.int .i8 n).wf=true) : -128≤n∧n<128:=by
 have : -128≤n∧n≤127:=by simpa [Lit.wf,IntKind.min,IntKind.max,IntKind.bits,IntKind.signed] using h
 omega
theorem Rt {α:Type} [Inhabited α] {Q:Nat→α→Prop} {n:Nat} (h:∀ i,i<n→∃ x,Q i x):∃ f:Nat→α,∀ i,i<n→Q i (f i):=by
 have h2:∀ i,∃ x,i<n→Q i x:=fun i=>by
  by_cases hi:i<n
  ·obtain⟨x,hx⟩:=h i hi;exact⟨x,fun _=>hx⟩
  ·exact⟨default,fun h'=>absurd h' hi⟩
 exact Classical.axiomOfChoice h2
theorem KZ (b o j:Nat):(⟨b,o,none⟩:Addr).add j=⟨b,o+j,none⟩:=by unfold Addr.add;split<;>simp_all
instance:Inhabited qp:=⟨⟨0,0,0,0,⟨#[]⟩,⟨#[]⟩,0,0⟩⟩
theorem Ms {H:Type} {enc:TypeId×Value→H} {w:World} {base:Nat} {spare:Nat→Bool} {held:Bool} {r:Reach} {b0:Nat} {v:Value} {d:DataW H} {p:List MemPlace}
  (hv:Value.okWide Tryz.prog w r b0 22 v) (h:DataW.Trod enc Tryz.prog w base spare held 22 v d p):
  ∃ (n:Nat) (F:Nat→qp),JY w v n F∧(∀ i,i<n→XO (F i))∧n≤9223372036854775807:=by
 obtain⟨A,Xt,cap0,rfl⟩:=okWide_slice Tryz.underlying22 hv;obtain⟨fuel,hf⟩:=h;have hC:Tryz.prog.cellsOf 62=8:=by kernel_rfl
 have hC0:Tryz.prog.cellsOf 5=1:=by kernel_rfl
 have hC1:Tryz.prog.cellsOf 9=1:=by kernel_rfl
 have hC2:Tryz.prog.cellsOf 60=1:=by kernel_rfl
 rcases open_slice Tryz.underlying22 hf with ⟨hcs,_⟩ | ⟨a,len,cap,m,n,D,Pl,hcs,_,hl,hmx,hm,_,hi⟩
 ·simp[Value.cells] at hcs;obtain⟨rfl,rfl,rfl⟩:=hcs;exact⟨0,fun _=>default,⟨none,0,rfl,fun h=>absurd h (Nat.lt_irrefl 0)⟩,fun i hi=>absurd hi (Nat.not_lt_zero i),Nat.zero_le _⟩
 ·simp[Value.cells] at hcs;obtain⟨rfl,rfl,rfl⟩:=hcs;rw[hC] at hi;have hlm:Xt≤m:=by rw[hm];split<;>omega
  have key:∀ i,i<Xt→∃ x:qp,XO x∧w.cell? ((a.add (i*8)).add 0)=some (.int .u8 x.kind)∧w.cell? ((a.add (i*8)).add 1)=some (.int .u8 x.a)∧w.cell? ((a.add (i*8)).add 2)=some (.int .u8 x.b)∧w.cell? ((a.add (i*8)).add 3)=some (.int .u8 x.c)∧
    w.cell? ((a.add (i*8)).add 4)=some (.string x.s)∧w.cell? ((a.add (i*8)).add 5)=some (.string x.t)∧w.cell? ((a.add (i*8)).add 6)=some (.int .i8 x.n)∧w.cell? ((a.add (i*8)).add 7)=some (.int .i8 x.k):=by
   intro i hil;obtain⟨cs,hc,ht⟩:=hi i (by omega);obtain⟨_,hcl,hat⟩:=World.cells?_some hc;obtain⟨xs,n',_,_,_,hxl,hg⟩:=DataW.trod_struct Tryz.underlying62 ht
   match cs,hcl,xs,hxl with
   | [c0,c1,c2,c3,c4,c5,c6,c7],_,[z0,z1,z2,z3,z4,z5,z6,z7],_=>
    have g0:=hg 0 _ rfl;have g1:=hg 1 _ rfl;have g2:=hg 2 _ rfl;have g3:=hg 3 _ rfl;have g4:=hg 4 _ rfl;have g5:=hg 5 _ rfl;have g6:=hg 6 _ rfl;have g7:=hg 7 _ rfl;simp[hC0,hC1,hC2] at g0 g1 g2 g3 g4 g5 g6 g7;obtain⟨x0,e0,_,v0⟩:=DataW.trod_int Tryz.underlying5 g0;obtain⟨x1,e1,_,v1⟩:=DataW.trod_int Tryz.underlying5 g1;obtain⟨x2,e2,_,v2⟩:=DataW.trod_int Tryz.underlying5 g2;obtain⟨x3,e3,_,v3⟩:=DataW.trod_int Tryz.underlying5 g3;obtain⟨x4,e4,_,v4⟩:=DataW.trod_string Tryz.underlying9 g4;obtain⟨x5,e5,_,v5⟩:=DataW.trod_string Tryz.underlying9 g5;obtain⟨x6,e6,_,v6⟩:=DataW.trod_int Tryz.underlying60 g6;obtain⟨x7,e7,_,v7⟩:=DataW.trod_int Tryz.underlying60 g7;simp only[List.cons.injEq,and_true] at e0 e1 e2 e3 e4 e5 e6 e7;subst e0 e1 e2 e3 e4 e5 e6 e7;exact⟨⟨x0,x1,x2,x3,x4,x5,x6,x7⟩,⟨Ug v0,Ug v1,Ug v2,Ug v3,Vi v6,Vi v7⟩,hat 0 (by omega),hat 1 (by omega),hat 2 (by omega),hat 3 (by omega),hat 4 (by omega),hat 5 (by omega),hat 6 (by omega),hat 7 (by omega)⟩
  obtain⟨F,hF⟩:=Rt key;refine⟨Xt,F,⟨some a,cap0,rfl,fun hn=>?_⟩,fun i hi=>(hF i hi).1,by unfold maxLen at hmx;omega⟩;obtain⟨b,o,sp⟩:=a;have hsp:sp=none:=by
   obtain⟨_,j0,_⟩:=hF 0 hn;simpa [Addr.add] using World.cell?_spot j0
  subst hsp;refine⟨b,o,rfl,fun i j u hi hj=>?_⟩;obtain⟨_,k0,k1,k2,k3,k4,k5,k6,k7⟩:=hF i hi;simp only[KZ] at k0 k1 k2 k3 k4 k5 k6 k7;have hj8:j<8:=(List.getElem?_eq_some_iff.1 hj).1
  match j,hj8,hj with
  | 0,_,hj=>obtain rfl:=Option.some.inj hj;exact k0
  | 1,_,hj=>obtain rfl:=Option.some.inj hj;exact k1
  | 2,_,hj=>obtain rfl:=Option.some.inj hj;exact k2
  | 3,_,hj=>obtain rfl:=Option.some.inj hj;exact k3
  | 4,_,hj=>obtain rfl:=Option.some.inj hj;exact k4
  | 5,_,hj=>obtain rfl:=Option.some.inj hj;exact k5
  | 6,_,hj=>obtain rfl:=Option.some.inj hj;exact k6
  | 7,_,hj=>obtain rfl:=Option.some.inj hj;exact k7
end
end Go.Proofs.YtmhjlifmcadefaaGreatDoor
