/- Part of a proof about trees. -/
import Derived.BigQuiet
import Derived.ChangeSame
import Derived.Deep.RegionHeld3
import Derived.Deep.Slices
import Derived.Lib.SmallJoins
import Derived.ProofKit
import Derived.Test.YtnbaadpgbcklaaaGreatDoorGNCpw
import Derived.Test.YtnbaadpgbcklaaaGreatDoorGNDod
import Derived.Test.YtnbaadpgbcklaaaGreatDoorGNDoi
set_option linter.unusedVariables false
set_option linter.unusedSimpArgs false
set_option linter.unusedSectionVars false
set_option maxHeartbeats 8000000
set_option maxRecDepth 100000
namespace Go.Proofs.YtnbaadpgbcklaaaGreatDoor
section
open Go.RowKit
variable [oQ]
theorem P5 (base bM T B M:Nat) (b s:Int) (vs vf aT vh:Value) (n live m:Nat) (fr:List Nat) (av:Int→Tr.Sl) (f:Nat→RS) (hs:List Int) (g:Tr.G) (K:Nat) (ia:Nat) (deep:Bool) (w:World) (H:TW w base bM T B M b s vs vf aT vh n live m fr av f hs g K) (hia:ia<m) (hm:m≤300) (hK:K≤60):
  Calls Tryz.prog 55 #[.pointer (some ⟨T,0,none⟩),.int .i64 (ia:Int),.bool deep] w fun e w'=>∃ (vs' bV dP mJ:Value) (n' aW m':Nat) (fr':List Nat) (iL:Int→Tr.Sl) (f':Nat→RS) (hs':List Int) (g':Tr.G),e=.returned (.bool true)∧TW w' base bM T B M b s vs' bV dP mJ n' aW m' fr' iL f' hs' g' (K+1):=by
 cases hg:(f ia).gone with
 | true=>exact KU base bM T B M b s vs vf aT vh n live m fr av f hs g K ia deep w H hia hg hm hK
 | false=>
  by_cases h0:ia=0
  ·exact KV base bM T B M b s vs vf aT vh n live m fr av f hs g K ia deep w H hia hg h0 hm hK
  ·exact KW base bM T B M b s vs vf aT vh n live m fr av f hs g K ia deep w H hia hg h0 hm hK
theorem RF (base bM T B M:Nat) (b s:Int) (vs vf aT vh:Value) (n live m:Nat) (fr:List Nat) (av:Int→Tr.Sl) (f:Nat→RS) (hs:List Int) (g:Tr.G) (K:Nat) (o:qM) (w:World) (H:TW w base bM T B M b s vs vf aT vh n live m fr av f hs g K) (ho:pE o) (hkd:o.kind.tmod 10=8) (hm:m≤300) (hK:K≤60) (hT:Lit w):
  uo base bM T B M b s K o w:=by
 unfold uo;obtain⟨ia,hia,aL⟩:=aS ho.a.1 H.m0;obtain⟨ib,hib,iU⟩:=aS ho.b.1 H.m0;obtain⟨ic,hic,ql⟩:=aS (m:=m+1) ho.c.1 (by omega);rw[Int.natCast_add] at hic;have hlen:=H.len;have hm0:=H.m0;obtain⟨w1,gh,oh,ch,rfl,mz,G9,He,Hf,hw1,fu,HB1,H1,p8,jI,HLEN,qX,qh,t0,t1,t2,x0,x1,x2,x3,x4,x5,x6,x7,Hg,Hl,Ho,Hq,Hr,Ht,Hu,Hw⟩:=iB H ho hT;have yF:=zh (fun (W:World) (hb:Below w.heap.size w W)=>H.mv.below hb);have eO:=zh (fun (W:World) (hb:Below w.heap.size w W) (j:Nat) (hj:j<m)=>dF bM M m aT f j W (H.mv.below hb) hj (by omega));clear H ho hT
 go_enter Tryz.func13,Tryz.ntmps13
 go_wp2_with fail;(try rw[hw1]);try go_wp2_with fail
 go_quiet (fail)
 obtain⟨V,hV⟩:=eX (w1.drewN nq)
 have eH:Below w1.heap.size w1 V:=Hy hV;have bW:=zh (HB1.out.trans (eH.mono HB1.out.size));have cZ:=zh (fu.out.below eH fu.out.lt);have HV:=zh (H1.out.below eH);have uq:=zh (jI.out.below eH);obtain⟨t0',t1',t2'⟩:=qh.out V bW.out;have z0:V.cell? ⟨w.heap.size,0,none⟩=some (.int .u8 o.kind):=cZ.out.cell 0;have z4:V.cell? ⟨w.heap.size,4,none⟩=some (.string o.s):=cZ.out.cell 4;have z5:V.cell? ⟨w.heap.size,5,none⟩=some (.string o.t):=cZ.out.cell 5;have z6:V.cell? ⟨w.heap.size,6,none⟩=some (.int .i8 o.n):=cZ.out.cell 6;have z7:V.cell? ⟨w.heap.size,7,none⟩=some (.int .i8 o.k):=cZ.out.cell 7;clear t0 t1 t2 x0 x1 x2 x3 x4 x5 x6 x7 eH;(try rw[hV]);go_wp2_with fail;refine (eO.out V bW.out ia aL).mono ?_;rintro e w2 ⟨rfl,hw2⟩;rw[hw2];clear hw2;obtain⟨zn0,zn1⟩:=p8.out.n;have HC:=zh (fun (W:World) (hW:TW W base bM T B M b s vs vf aT (.slice (some ⟨gh,oh,none⟩) hs.length ch) n live m fr av f hs g K) (dp:Bool)=>P5 base bM T B M b s vs vf aT _ n live m fr av f hs g K ia dp W hW aL hm hK);go_wp2_with fail;refine (HC.out V HV.out _).mono ?_;rintro e w3 ⟨vs',bV,dP,mJ,n',aW,m',fr',iL,f',hs',g',rfl,Y9⟩;have bf:=zh Y9;clear Y9 HC;go_wp2_with fail;go_ret2;exact⟨_,[],_,_,_,_,_,_,_,_,_,_,_,_,rfl,bf.out⟩
end
section
open Go.RowKit
variable [oQ]
theorem Df {x:Int} {m:Nat} {i j:Nat} (h1:x.tmod (m:Int)=(i:Int)) (h2:x.tmod (m:Int)=(j:Int)):i=j:=by omega
theorem U6 (base bM T B M:Nat) (b s:Int) (vs vf aT vh:Value) (n live m:Nat) (fr:List Nat) (av:Int→Tr.Sl) (f:Nat→RS) (hs:List Int) (g:Tr.G) (K:Nat) (o:qM) (w:World) (H:TW w base bM T B M b s vs vf aT vh n live m fr av f hs g K) (ho:pE o) (hm:m≤300) (hK:K≤60) (hT:Lit w):
  uo base bM T B M b s K o w:=by
 obtain⟨k,hk,hk10⟩:=aS (m:=10) ho.kind.1 (by omega);have hk':o.kind.tmod 10=(k:Int):=hk;have hcase:k=0∨k=1∨k=2∨k=3∨k=4∨k=5∨k=6∨k=7∨k=8∨k=9:=by omega
 rcases hcase with rfl | rfl | rfl | rfl | rfl | rfl | rfl | rfl | rfl | rfl
 ·by_cases hn:0<o.n
  ·exact AA base bM T B M b s vs vf aT vh n live m fr av f hs g K o w H ho 0 2 (by omega) hk' hn hm hK hT
  ·exact Ay base bM T B M b s vs vf aT vh n live m fr av f hs g K o w H ho 0 2 (by omega) hk' hn hm hK hT
 ·by_cases hn:0<o.n
  ·exact AA base bM T B M b s vs vf aT vh n live m fr av f hs g K o w H ho 1 3 (by omega) hk' hn hm hK hT
  ·exact Ay base bM T B M b s vs vf aT vh n live m fr av f hs g K o w H ho 1 3 (by omega) hk' hn hm hK hT
 ·by_cases hn:0<o.n
  ·exact AA base bM T B M b s vs vf aT vh n live m fr av f hs g K o w H ho 2 4 (by omega) hk' hn hm hK hT
  ·exact Ay base bM T B M b s vs vf aT vh n live m fr av f hs g K o w H ho 2 4 (by omega) hk' hn hm hK hT
 ·obtain⟨ia,hia,aL⟩:=aS ho.a.1 H.m0;obtain⟨ib,hib,iU⟩:=aS ho.b.1 H.m0;obtain⟨ic,hic,ql⟩:=aS (m:=m+1) ho.c.1 (by omega);rw[Int.natCast_add] at hic;have ka:∀ q,(f ia).gone=q→∀ i:Nat,o.a.tmod (m:Int)=(i:Int)→(f i).gone=q:=fun q hq i hi=>by rw[Df hi hia];exact hq
  have kb:∀ q,(f ib).gone=q→∀ i:Nat,o.b.tmod (m:Int)=(i:Int)→(f i).gone=q:=fun q hq i hi=>by rw[Df hi hib];exact hq
  rcases Nat.eq_zero_or_pos ic with rfl | hpos
  ·have hcz:o.c.tmod ((m:Int)+1)=0:=hic;cases ga:(f ia).gone with
   | true=>exact M6 base bM T B M b s vs vf aT vh n live m fr av f hs g K o w H ho hk' hcz (ka _ ga) hm hK hT
   | false=>
    cases gb:(f ib).gone with
    | true=>exact M7 base bM T B M b s vs vf aT vh n live m fr av f hs g K o w H ho hk' hcz (ka _ ga) (kb _ gb) hm hK hT
    | false=>exact M8 base bM T B M b s vs vf aT vh n live m fr av f hs g K o w H ho hk' hcz (ka _ ga) (kb _ gb) hm hK hT
  ·obtain⟨jc,rfl⟩:∃ jc,ic=jc+1:=⟨ic - 1,by omega⟩
   have hcz:o.c.tmod ((m:Int)+1)=(jc:Int)+1:=hic;have hjl:jc<m:=by omega
   cases ga:(f ia).gone with
   | true=>exact K6 base bM T B M b s vs vf aT vh n live m fr av f hs g K o w H ho hk' jc hjl hcz (ka _ ga) hm hK hT
   | false=>
    cases gb:(f ib).gone with
    | true=>exact K7 base bM T B M b s vs vf aT vh n live m fr av f hs g K o w H ho hk' jc hjl hcz (ka _ ga) (kb _ gb) hm hK hT
    | false=>
     cases gc:(f jc).gone with
     | true=>exact K9 base bM T B M b s vs vf aT vh n live m fr av f hs g K o w H ho hk' jc hjl hcz (ka _ ga) (kb _ gb) gc hm hK hT
     | false=>exact La base bM T B M b s vs vf aT vh n live m fr av f hs g K o w H ho hk' jc hjl hcz (ka _ ga) (kb _ gb) gc hm hK hT
 ·exact K5 base bM T B M b s vs vf aT vh n live m fr av f hs g K o w H ho hk' hm hK hT
 ·exact Ic base bM T B M b s vs vf aT vh n live m fr av f hs g K o w H ho hk' hm hK hT
 ·exact GZ base bM T B M b s vs vf aT vh n live m fr av f hs g K o w H ho hk' hm hK hT
 ·exact Iq base bM T B M b s vs vf aT vh n live m fr av f hs g K o w H ho hk' hm hK hT
 ·exact RF base bM T B M b s vs vf aT vh n live m fr av f hs g K o w H ho hk' hm hK hT
 ·exact RB base bM T B M b s vs vf aT vh n live m fr av f hs g K o w H ho hk' hm hK hT
end
section
open Go.RowKit
variable [oQ]
structure Xu (o:qM):Prop where
 kind:0≤o.kind∧o.kind<256
 a:0≤o.a∧o.a<256
 b:0≤o.b∧o.b<256
 c:0≤o.c∧o.c<256
 n : -128≤o.n∧o.n<128
 k : -128≤o.k∧o.k<128
theorem Xu.ok {o:qM} (h:Xu o) (hs:o.s.size≤40∧o.t.size≤40):pE o:=⟨h.kind,h.a,h.b,h.c,hs.1,hs.2,h.n,h.k⟩
def MS (T B M base bM:Nat) (b s:Int) (m:Nat) (Ah:Option Addr) (ch i:Nat) (w:World):Prop:=
 ∃ (vs vf aT:Value) (n live:Nat) (fr:List Nat) (av:Int→Tr.Sl) (f:Nat→RS) (hs:List Int) (g:Tr.G),TW w base bM T B M b s vs vf aT (.slice Ah m ch) n live m fr av f hs g i
theorem TW.ms {w:World} {base bM T B M:Nat} {b s:Int} {vs vf aT vh:Value} {n live m:Nat} {fr:List Nat} {av:Int→Tr.Sl} {f:Nat→RS} {hs:List Int} {g:Tr.G} {K:Nat} (H:TW w base bM T B M b s vs vf aT vh n live m fr av f hs g K):∃ Ah ch,MS T B M base bM b s m Ah ch K w:=by
 obtain⟨A,c,rfl⟩:=H.tw.row.form;rw[H.len] at H;exact⟨A,c,vs,vf,aT,n,live,fr,av,f,hs,g,H⟩
theorem MS.below {T B M base bM:Nat} {b s:Int} {m:Nat} {Ah:Option Addr} {ch i:Nat} {w w':World} (H:MS T B M base bM b s m Ah ch i w) (hb:Below w.heap.size w w'):MS T B M base bM b s m Ah ch i w':=by
 obtain⟨vs,vf,aT,n,live,fr,av,f,hs,g,h⟩:=H;exact⟨vs,vf,aT,n,live,fr,av,f,hs,g,h.below hb⟩
theorem MS.cell {T B M base bM:Nat} {b s:Int} {m:Nat} {Ah:Option Addr} {ch i:Nat} {w:World} (H:MS T B M base bM b s m Ah ch i w):w.cell? ⟨T,2,none⟩=some (.slice Ah m ch)∧m≤700∧Below oQ.L oQ.w0 w:=by
 obtain⟨vs,vf,aT,n,live,fr,av,f,hs,g,h⟩:=H;exact⟨h.tw.var.cell 2,h.ml,h.kp.1⟩
theorem MS.op {T B M base bM:Nat} {b s:Int} {m:Nat} {Ah:Option Addr} {ch i:Nat} {w:World} (H:MS T B M base bM b s m Ah ch i w) (o:qM) (ho:pE o) (hm:m≤300) (hi:i≤60) (hT:Lit w):
  Calls Tryz.prog 13 #[.pointer (some ⟨T,0,none⟩),.agg #[.int .u8 o.kind,.int .u8 o.a,.int .u8 o.b,.int .u8 o.c,.string o.s,.string o.t,.int .i8 o.n,.int .i8 o.k]] w fun e w'=>∃ lv m' Ah' ch',e=.returned (.tuple #[lv,.bool true])∧MS T B M base bM b s m' Ah' ch' (i+1) w':=by
 obtain⟨vs,vf,aT,n,live,fr,av,f,hs,g,h⟩:=H;refine (U6 base bM T B M b s vs vf aT _ n live m fr av f hs g i o w h ho hm hi hT).mono ?_;rintro e w' ⟨lv,lp,vs',bV,dP,mJ,n',aW,m',fr',iL,f',hs',g',rfl,h'⟩;obtain⟨A,c,hms⟩:=h'.ms;exact⟨lv,m',A,c,rfl,hms⟩
end
section
open Go Go.RowKit Go.Joins Go.ChangeShapes Go.WideShapes Go.Deep
theorem RG {n:Int} (h:(Lit.int .u8 n).wf=true):0≤n∧n<256:=by
 have:0≤n∧n≤255:=by simpa [Lit.wf,IntKind.min,IntKind.max,IntKind.bits,IntKind.signed] using h
 omega
theorem SQ {n:Int} (h:(Lit.int .i8 n).wf=true) : -128≤n∧n<128:=by
 have : -128≤n∧n≤127:=by simpa [Lit.wf,IntKind.min,IntKind.max,IntKind.bits,IntKind.signed] using h
 omega
theorem P6 {α:Type} [Inhabited α] {Q:Nat→α→Prop} {n:Nat} (h:∀ i,i<n→∃ x,Q i x):∃ f:Nat→α,∀ i,i<n→Q i (f i):=by
 have h2:∀ i,∃ x,i<n→Q i x:=fun i=>by
  by_cases hi:i<n
  ·obtain⟨x,hx⟩:=h i hi;exact⟨x,fun _=>hx⟩
  ·exact⟨default,fun h'=>absurd h' hi⟩
 exact Classical.axiomOfChoice h2
theorem JO (b o j:Nat):(⟨b,o,none⟩:Addr).add j=⟨b,o+j,none⟩:=by unfold Addr.add;split<;>simp_all
instance:Inhabited qM:=⟨⟨0,0,0,0,⟨#[]⟩,⟨#[]⟩,0,0⟩⟩
theorem KS {H:Type} {enc:TypeId×Value→H} {w:World} {base:Nat} {spare:Nat→Bool} {held:Bool} {r:Reach} {b0:Nat} {v:Value} {d:DataW H} {p:List MemPlace}
  (hv:Value.okWide Tryz.prog w r b0 22 v) (h:DataW.Trod enc Tryz.prog w base spare held 22 v d p):
  ∃ (n:Nat) (F:Nat→qM),LU w v n F∧(∀ i,i<n→Xu (F i))∧n≤9223372036854775807:=by
 obtain⟨A,U7,cap0,rfl⟩:=okWide_slice Tryz.underlying22 hv;obtain⟨fuel,hf⟩:=h;have hC:Tryz.prog.cellsOf 39=8:=by kernel_rfl
 have hC0:Tryz.prog.cellsOf 5=1:=by kernel_rfl
 have Vf:Tryz.prog.cellsOf 9=1:=by kernel_rfl
 have hC2:Tryz.prog.cellsOf 37=1:=by kernel_rfl
 rcases open_slice Tryz.underlying22 hf with ⟨hcs,_⟩ | ⟨a,len,cap,m,n,D,Pl,hcs,_,hl,hmx,hm,_,hi⟩
 ·simp[Value.cells] at hcs;obtain⟨rfl,rfl,rfl⟩:=hcs;exact⟨0,fun _=>default,⟨none,0,rfl,fun h=>absurd h (Nat.lt_irrefl 0)⟩,fun i hi=>absurd hi (Nat.not_lt_zero i),Nat.zero_le _⟩
 ·simp[Value.cells] at hcs;obtain⟨rfl,rfl,rfl⟩:=hcs;rw[hC] at hi;have hlm:U7≤m:=by rw[hm];split<;>omega
  have key:∀ i,i<U7→∃ x:qM,Xu x∧w.cell? ((a.add (i*8)).add 0)=some (.int .u8 x.kind)∧w.cell? ((a.add (i*8)).add 1)=some (.int .u8 x.a)∧w.cell? ((a.add (i*8)).add 2)=some (.int .u8 x.b)∧w.cell? ((a.add (i*8)).add 3)=some (.int .u8 x.c)∧
    w.cell? ((a.add (i*8)).add 4)=some (.string x.s)∧w.cell? ((a.add (i*8)).add 5)=some (.string x.t)∧w.cell? ((a.add (i*8)).add 6)=some (.int .i8 x.n)∧w.cell? ((a.add (i*8)).add 7)=some (.int .i8 x.k):=by
   intro i hil;obtain⟨cs,hc,ht⟩:=hi i (by omega);obtain⟨_,hcl,hat⟩:=World.cells?_some hc;obtain⟨xs,n',_,_,_,hxl,hg⟩:=DataW.trod_struct Tryz.underlying39 ht
   match cs,hcl,xs,hxl with
   | [c0,c1,c2,c3,c4,c5,c6,c7],_,[z0,z1,z2,z3,z4,z5,z6,z7],_=>
    have g0:=hg 0 _ rfl;have g1:=hg 1 _ rfl;have g2:=hg 2 _ rfl;have g3:=hg 3 _ rfl;have g4:=hg 4 _ rfl;have g5:=hg 5 _ rfl;have g6:=hg 6 _ rfl;have g7:=hg 7 _ rfl;simp[hC0,Vf,hC2] at g0 g1 g2 g3 g4 g5 g6 g7;obtain⟨x0,e0,_,v0⟩:=DataW.trod_int Tryz.underlying5 g0;obtain⟨x1,e1,_,v1⟩:=DataW.trod_int Tryz.underlying5 g1;obtain⟨x2,e2,_,v2⟩:=DataW.trod_int Tryz.underlying5 g2;obtain⟨x3,e3,_,v3⟩:=DataW.trod_int Tryz.underlying5 g3;obtain⟨x4,e4,_,v4⟩:=DataW.trod_string Tryz.underlying9 g4;obtain⟨x5,e5,_,v5⟩:=DataW.trod_string Tryz.underlying9 g5;obtain⟨x6,e6,_,v6⟩:=DataW.trod_int Tryz.underlying37 g6;obtain⟨x7,e7,_,v7⟩:=DataW.trod_int Tryz.underlying37 g7;simp only[List.cons.injEq,and_true] at e0 e1 e2 e3 e4 e5 e6 e7;subst e0 e1 e2 e3 e4 e5 e6 e7;exact⟨⟨x0,x1,x2,x3,x4,x5,x6,x7⟩,⟨RG v0,RG v1,RG v2,RG v3,SQ v6,SQ v7⟩,hat 0 (by omega),hat 1 (by omega),hat 2 (by omega),hat 3 (by omega),hat 4 (by omega),hat 5 (by omega),hat 6 (by omega),hat 7 (by omega)⟩
  obtain⟨F,hF⟩:=P6 key;refine⟨U7,F,⟨some a,cap0,rfl,fun hn=>?_⟩,fun i hi=>(hF i hi).1,by unfold maxLen at hmx;omega⟩;obtain⟨b,o,sp⟩:=a;have hsp:sp=none:=by
   obtain⟨_,j0,_⟩:=hF 0 hn;simpa [Addr.add] using World.cell?_spot j0
  subst hsp;refine⟨b,o,rfl,fun i j u hi hj=>?_⟩;obtain⟨_,k0,k1,k2,k3,k4,k5,k6,k7⟩:=hF i hi;simp only[JO] at k0 k1 k2 k3 k4 k5 k6 k7;have hj8:j<8:=(List.getElem?_eq_some_iff.1 hj).1
  match j,hj8,hj with
  | 0,_,hj=>obtain rfl:=Option.some.inj hj;exact k0
  | 1,_,hj=>obtain rfl:=Option.some.inj hj;exact k1
  | 2,_,hj=>obtain rfl:=Option.some.inj hj;exact k2
  | 3,_,hj=>obtain rfl:=Option.some.inj hj;exact k3
  | 4,_,hj=>obtain rfl:=Option.some.inj hj;exact k4
  | 5,_,hj=>obtain rfl:=Option.some.inj hj;exact k5
  | 6,_,hj=>obtain rfl:=Option.some.inj hj;exact k6
  | 7,_,hj=>obtain rfl:=Option.some.inj hj;exact k7
end
end Go.Proofs.YtnbaadpgbcklaaaGreatDoor
