/- Part of a proof about trees. -/
import Derived.BigQuiet
import Derived.ChangeSame
import Derived.Deep.RegionHeld3
import Derived.Deep.Slices
import Derived.Lib.SmallJoins
import Derived.ProofKit
import Derived.Test.YtjpbhkcjmdndjaaGreatDoorGNCpw
import Derived.Test.YtjpbhkcjmdndjaaGreatDoorGNDod
import Derived.Test.YtjpbhkcjmdndjaaGreatDoorGNDoi
set_option linter.unusedVariables false
set_option linter.unusedSimpArgs false
set_option linter.unusedSectionVars false
set_option maxHeartbeats 8000000
set_option maxRecDepth 100000
namespace Go.Proofs.YtjpbhkcjmdndjaaGreatDoor
section
open Go.RowKit
variable [mY]
theorem Qw (base bM T B M:Nat) (b s:Int) (vs vf aQ vh:Value) (n live m:Nat) (fr:List Nat) (av:Int→Tr.Sl) (f:Nat→RS) (hs:List Int) (g:Tr.G) (K:Nat) (ia:Nat) (deep:Bool) (w:World) (H:TW w base bM T B M b s vs vf aQ vh n live m fr av f hs g K) (hia:ia<m) (hm:m≤300) (hK:K≤60):
  Calls Tryz.prog 32 #[.pointer (some ⟨T,0,none⟩),.int .i64 (ia:Int),.bool deep] w fun e w'=>∃ (vs' bV dS l7:Value) (n' aW m':Nat) (fr':List Nat) (iR:Int→Tr.Sl) (f':Nat→RS) (hs':List Int) (g':Tr.G),e=.returned (.bool true)∧TW w' base bM T B M b s vs' bV dS l7 n' aW m' fr' iR f' hs' g' (K+1):=by
 cases hg:(f ia).gone with
 | true=>exact LB base bM T B M b s vs vf aQ vh n live m fr av f hs g K ia deep w H hia hg hm hK
 | false=>
  by_cases h0:ia=0
  ·exact LC base bM T B M b s vs vf aQ vh n live m fr av f hs g K ia deep w H hia hg h0 hm hK
  ·exact LD base bM T B M b s vs vf aQ vh n live m fr av f hs g K ia deep w H hia hg h0 hm hK
theorem SI (base bM T B M:Nat) (b s:Int) (vs vf aQ vh:Value) (n live m:Nat) (fr:List Nat) (av:Int→Tr.Sl) (f:Nat→RS) (hs:List Int) (g:Tr.G) (K:Nat) (o:qQ) (w:World) (H:TW w base bM T B M b s vs vf aQ vh n live m fr av f hs g K) (ho:pQ o) (hkd:o.kind.tmod 10=8) (hm:m≤300) (hK:K≤60) (hT:Lit w):
  uF base bM T B M b s K o w:=by
 unfold uF;obtain⟨ia,hia,aI⟩:=aR ho.a.1 H.m0;obtain⟨ib,hib,iY⟩:=aR ho.b.1 H.m0;obtain⟨ic,hic,qz⟩:=aR (m:=m+1) ho.c.1 (by omega);rw[Int.natCast_add] at hic;have hlen:=H.len;have hm0:=H.m0;obtain⟨w1,gh,oh,ch,rfl,mz,Ik,Il,Io,hw1,eP,HB1,H1,qp,jL,HLEN,qy,sU,t0,t1,t2,x0,x1,x2,x3,x4,x5,x6,x7,Ip,Iq,Ir,Iu,Iw,Iy,Iz,IB⟩:=iH H ho hT;have yP:=zh (fun (W:World) (hb:Below w.heap.size w W)=>H.mv.below hb);have eT:=zh (fun (W:World) (hb:Below w.heap.size w W) (j:Nat) (hj:j<m)=>bX bM M m aQ f j W (H.mv.below hb) hj (by omega));clear H ho hT
 go_enter Tryz.func7,Tryz.ntmps7
 go_wp2_with fail;(try rw[hw1]);try go_wp2_with fail
 go_quiet (fail)
 obtain⟨V,hV⟩:=eX (w1.drewN nq)
 have eH:Below w1.heap.size w1 V:=IV hV;have cZ:=zh (HB1.out.trans (eH.mono HB1.out.size));have dw:=zh (eP.out.below eH eP.out.lt);have HV:=zh (H1.out.below eH);have uG:=zh (jL.out.below eH);obtain⟨t0',t1',t2'⟩:=sU.out V cZ.out;have z0:V.cell? ⟨w.heap.size,0,none⟩=some (.int .u8 o.kind):=dw.out.cell 0;have z4:V.cell? ⟨w.heap.size,4,none⟩=some (.string o.s):=dw.out.cell 4;have z5:V.cell? ⟨w.heap.size,5,none⟩=some (.string o.t):=dw.out.cell 5;have z6:V.cell? ⟨w.heap.size,6,none⟩=some (.int .i8 o.n):=dw.out.cell 6;have z7:V.cell? ⟨w.heap.size,7,none⟩=some (.int .i8 o.k):=dw.out.cell 7;clear t0 t1 t2 x0 x1 x2 x3 x4 x5 x6 x7 eH;(try rw[hV]);go_wp2_with fail;refine (eT.out V cZ.out ia aI).mono ?_;rintro e w2 ⟨rfl,hw2⟩;rw[hw2];clear hw2;obtain⟨zn0,zn1⟩:=qp.out.n;have HC:=zh (fun (W:World) (hW:TW W base bM T B M b s vs vf aQ (.slice (some ⟨gh,oh,none⟩) hs.length ch) n live m fr av f hs g K) (dp:Bool)=>Qw base bM T B M b s vs vf aQ _ n live m fr av f hs g K ia dp W hW aI hm hK);go_wp2_with fail;refine (HC.out V HV.out _).mono ?_;rintro e w3 ⟨vs',bV,dS,l7,n',aW,m',fr',iR,f',hs',g',rfl,hT3⟩;have bf:=zh hT3;clear hT3 HC;go_wp2_with fail;go_ret2;exact⟨_,[],_,_,_,_,_,_,_,_,_,_,_,_,rfl,bf.out⟩
end
section
open Go.RowKit
variable [mY]
theorem Dt {x:Int} {m:Nat} {i j:Nat} (h1:x.tmod (m:Int)=(i:Int)) (h2:x.tmod (m:Int)=(j:Int)):i=j:=by omega
theorem V6 (base bM T B M:Nat) (b s:Int) (vs vf aQ vh:Value) (n live m:Nat) (fr:List Nat) (av:Int→Tr.Sl) (f:Nat→RS) (hs:List Int) (g:Tr.G) (K:Nat) (o:qQ) (w:World) (H:TW w base bM T B M b s vs vf aQ vh n live m fr av f hs g K) (ho:pQ o) (hm:m≤300) (hK:K≤60) (hT:Lit w):
  uF base bM T B M b s K o w:=by
 obtain⟨k,hk,hk10⟩:=aR (m:=10) ho.kind.1 (by omega);have hk':o.kind.tmod 10=(k:Int):=hk;have hcase:k=0∨k=1∨k=2∨k=3∨k=4∨k=5∨k=6∨k=7∨k=8∨k=9:=by omega
 rcases hcase with rfl | rfl | rfl | rfl | rfl | rfl | rfl | rfl | rfl | rfl
 ·by_cases hn:0<o.n
  ·exact Bj base bM T B M b s vs vf aQ vh n live m fr av f hs g K o w H ho 0 2 (by omega) hk' hn hm hK hT
  ·exact Bh base bM T B M b s vs vf aQ vh n live m fr av f hs g K o w H ho 0 2 (by omega) hk' hn hm hK hT
 ·by_cases hn:0<o.n
  ·exact Bj base bM T B M b s vs vf aQ vh n live m fr av f hs g K o w H ho 1 3 (by omega) hk' hn hm hK hT
  ·exact Bh base bM T B M b s vs vf aQ vh n live m fr av f hs g K o w H ho 1 3 (by omega) hk' hn hm hK hT
 ·by_cases hn:0<o.n
  ·exact Bj base bM T B M b s vs vf aQ vh n live m fr av f hs g K o w H ho 2 4 (by omega) hk' hn hm hK hT
  ·exact Bh base bM T B M b s vs vf aQ vh n live m fr av f hs g K o w H ho 2 4 (by omega) hk' hn hm hK hT
 ·obtain⟨ia,hia,aI⟩:=aR ho.a.1 H.m0;obtain⟨ib,hib,iY⟩:=aR ho.b.1 H.m0;obtain⟨ic,hic,qz⟩:=aR (m:=m+1) ho.c.1 (by omega);rw[Int.natCast_add] at hic;have ka:∀ q,(f ia).gone=q→∀ i:Nat,o.a.tmod (m:Int)=(i:Int)→(f i).gone=q:=fun q hq i hi=>by rw[Dt hi hia];exact hq
  have kb:∀ q,(f ib).gone=q→∀ i:Nat,o.b.tmod (m:Int)=(i:Int)→(f i).gone=q:=fun q hq i hi=>by rw[Dt hi hib];exact hq
  rcases Nat.eq_zero_or_pos ic with rfl | hpos
  ·have hcz:o.c.tmod ((m:Int)+1)=0:=hic;cases ga:(f ia).gone with
   | true=>exact Nv base bM T B M b s vs vf aQ vh n live m fr av f hs g K o w H ho hk' hcz (ka _ ga) hm hK hT
   | false=>
    cases gb:(f ib).gone with
    | true=>exact Nw base bM T B M b s vs vf aQ vh n live m fr av f hs g K o w H ho hk' hcz (ka _ ga) (kb _ gb) hm hK hT
    | false=>exact Ny base bM T B M b s vs vf aQ vh n live m fr av f hs g K o w H ho hk' hcz (ka _ ga) (kb _ gb) hm hK hT
  ·obtain⟨jc,rfl⟩:∃ jc,ic=jc+1:=⟨ic - 1,by omega⟩
   have hcz:o.c.tmod ((m:Int)+1)=(jc:Int)+1:=hic;have hjl:jc<m:=by omega
   cases ga:(f ia).gone with
   | true=>exact LM base bM T B M b s vs vf aQ vh n live m fr av f hs g K o w H ho hk' jc hjl hcz (ka _ ga) hm hK hT
   | false=>
    cases gb:(f ib).gone with
    | true=>exact LP base bM T B M b s vs vf aQ vh n live m fr av f hs g K o w H ho hk' jc hjl hcz (ka _ ga) (kb _ gb) hm hK hT
    | false=>
     cases gc:(f jc).gone with
     | true=>exact LU base bM T B M b s vs vf aQ vh n live m fr av f hs g K o w H ho hk' jc hjl hcz (ka _ ga) (kb _ gb) gc hm hK hT
     | false=>exact LV base bM T B M b s vs vf aQ vh n live m fr av f hs g K o w H ho hk' jc hjl hcz (ka _ ga) (kb _ gb) gc hm hK hT
 ·exact LK base bM T B M b s vs vf aQ vh n live m fr av f hs g K o w H ho hk' hm hK hT
 ·exact IW base bM T B M b s vs vf aQ vh n live m fr av f hs g K o w H ho hk' hm hK hT
 ·exact Ih base bM T B M b s vs vf aQ vh n live m fr av f hs g K o w H ho hk' hm hK hT
 ·exact Ja base bM T B M b s vs vf aQ vh n live m fr av f hs g K o w H ho hk' hm hK hT
 ·exact SI base bM T B M b s vs vf aQ vh n live m fr av f hs g K o w H ho hk' hm hK hT
 ·exact SG base bM T B M b s vs vf aQ vh n live m fr av f hs g K o w H ho hk' hm hK hT
end
section
open Go.RowKit
variable [mY]
structure XK (o:qQ):Prop where
 kind:0≤o.kind∧o.kind<256
 a:0≤o.a∧o.a<256
 b:0≤o.b∧o.b<256
 c:0≤o.c∧o.c<256
 n : -128≤o.n∧o.n<128
 k : -128≤o.k∧o.k<128
theorem XK.ok {o:qQ} (h:XK o) (hs:o.s.size≤40∧o.t.size≤40):pQ o:=⟨h.kind,h.a,h.b,h.c,hs.1,hs.2,h.n,h.k⟩
def MS (T B M base bM:Nat) (b s:Int) (m:Nat) (Ah:Option Addr) (ch i:Nat) (w:World):Prop:=
 ∃ (vs vf aQ:Value) (n live:Nat) (fr:List Nat) (av:Int→Tr.Sl) (f:Nat→RS) (hs:List Int) (g:Tr.G),TW w base bM T B M b s vs vf aQ (.slice Ah m ch) n live m fr av f hs g i
theorem TW.ms {w:World} {base bM T B M:Nat} {b s:Int} {vs vf aQ vh:Value} {n live m:Nat} {fr:List Nat} {av:Int→Tr.Sl} {f:Nat→RS} {hs:List Int} {g:Tr.G} {K:Nat} (H:TW w base bM T B M b s vs vf aQ vh n live m fr av f hs g K):∃ Ah ch,MS T B M base bM b s m Ah ch K w:=by
 obtain⟨A,c,rfl⟩:=H.tw.row.form;rw[H.len] at H;exact⟨A,c,vs,vf,aQ,n,live,fr,av,f,hs,g,H⟩
theorem MS.below {T B M base bM:Nat} {b s:Int} {m:Nat} {Ah:Option Addr} {ch i:Nat} {w w':World} (H:MS T B M base bM b s m Ah ch i w) (hb:Below w.heap.size w w'):MS T B M base bM b s m Ah ch i w':=by
 obtain⟨vs,vf,aQ,n,live,fr,av,f,hs,g,h⟩:=H;exact⟨vs,vf,aQ,n,live,fr,av,f,hs,g,h.below hb⟩
theorem MS.cell {T B M base bM:Nat} {b s:Int} {m:Nat} {Ah:Option Addr} {ch i:Nat} {w:World} (H:MS T B M base bM b s m Ah ch i w):w.cell? ⟨T,2,none⟩=some (.slice Ah m ch)∧m≤700∧Below mY.L mY.w0 w:=by
 obtain⟨vs,vf,aQ,n,live,fr,av,f,hs,g,h⟩:=H;exact⟨h.tw.var.cell 2,h.ml,h.kp.1⟩
theorem MS.box {T B M base bM:Nat} {b s:Int} {m:Nat} {Ah:Option Addr} {ch i:Nat} {w:World} (H:MS T B M base bM b s m Ah ch i w) {X:Nat} {cs:Array Value} {t:TypeId} (hX:mY.S X) (hW:Whole mY.w0 X cs t):Whole w X cs t:=by
 obtain⟨vs,vf,aQ,n,live,fr,av,f,hs,g,h⟩:=H;exact (h.ks X hX).2.1.trans hW
theorem MS.op {T B M base bM:Nat} {b s:Int} {m:Nat} {Ah:Option Addr} {ch i:Nat} {w:World} (H:MS T B M base bM b s m Ah ch i w) (o:qQ) (ho:pQ o) (hm:m≤300) (hi:i≤60) (hT:Lit w):
  Calls Tryz.prog 7 #[.pointer (some ⟨T,0,none⟩),.agg #[.int .u8 o.kind,.int .u8 o.a,.int .u8 o.b,.int .u8 o.c,.string o.s,.string o.t,.int .i8 o.n,.int .i8 o.k]] w fun e w'=>∃ lv m' Ah' ch',e=.returned (.tuple #[lv,.bool true])∧MS T B M base bM b s m' Ah' ch' (i+1) w':=by
 obtain⟨vs,vf,aQ,n,live,fr,av,f,hs,g,h⟩:=H;refine (V6 base bM T B M b s vs vf aQ _ n live m fr av f hs g i o w h ho hm hi hT).mono ?_;rintro e w' ⟨lv,lp,vs',bV,dS,l7,n',aW,m',fr',iR,f',hs',g',rfl,h'⟩;obtain⟨A,c,hms⟩:=h'.ms;exact⟨lv,m',A,c,rfl,hms⟩
omit [mY] in
theorem TW.re {k1 k2:mY} {w:World} {base bM T B M:Nat} {b s:Int} {vs vf aQ vh:Value} {n live m:Nat} {fr:List Nat} {av:Int→Tr.Sl} {f:Nat→RS} {hs:List Int} {g:Tr.G} {K:Nat} (H:@TW k1 w base bM T B M b s vs vf aQ vh n live m fr av f hs g K) (hL:k2.L≤k1.L) (hb:Below k2.L k2.w0 w) (hs':@KS k2 w (aD B vs vf) (aC M aQ m f) T vh):@TW k2 w base bM T B M b s vs vf aQ vh n live m fr av f hs g K:=by
 obtain⟨h1,h2,h3,h4,h5,h6,h7,h8,h9,h10,h11,h12,h13,h14,h15,h16,h17,h18,h19,h20,-⟩:=H;exact⟨h1,h2,h3,h4,h5,h6,h7,h8,h9,h10,h11,h12,h13,h14,h15,h16,h17,⟨hb,Nat.le_trans hL h18.2.1,Nat.le_trans hL h18.2.2.1,Nat.le_trans hL h18.2.2.2.1,fun k hk=>Nat.le_trans hL (h18.2.2.2.2 k hk)⟩,h19,h20,hs'⟩
omit [mY] in
theorem TW.keep {k1 k2:mY} {w w':World} {base bM T B M:Nat} {b s:Int} {vs vf aQ vh:Value} {n live m:Nat} {fr:List Nat} {av:Int→Tr.Sl} {f:Nat→RS} {hs:List Int} {g:Tr.G} {K:Nat} (H:@TW k1 w base bM T B M b s vs vf aQ vh n live m fr av f hs g K) (hb:Below w.heap.size w w') (hlt:w.heap.size<w'.heap.size) (e1:k2.L=k1.L) (e2:k2.w0=w') (e3:k2.S=fun k=>k=w.heap.size):@TW k2 w' base bM T B M b s vs vf aQ vh n live m fr av f hs g K:=by
 have H2:@TW k1 w' base bM T B M b s vs vf aQ vh n live m fr av f hs g K:=by
  letI:=k1
  exact TW.below H hb
 obtain⟨q1,q2,-,-,-,q6,-⟩:=H;refine TW.re H2 (Nat.le_of_eq e1) (by rw[e2];exact Below.refl _ _) fun k hk=>?_;rw[e3] at hk;obtain rfl:k=w.heap.size:=hk;exact⟨hlt,by rw[e2],fun h=>Nat.lt_irrefl _ (q2.lt _ h).2,fun h=>Nat.lt_irrefl _ (q6.lt _ h).2,fun h=>by have:=q1.var.lt;omega,fun h=>Nat.lt_irrefl _ (q1.row.lt _ h).2⟩
end
section
open Go.RowKit
def pos (l:List Int) (x:Int) (k:Nat):Int:=if x∈l.take k then (l.idxOf x:Nat) else -1
theorem FY (l:List Int) (x:Int):pos l x 0 = -1:=by unfold pos;simp
theorem D5 {l:List Int} {x:Int} {k:Nat} (hd:l.Nodup) (h:l[k]?=some x):pos l x (k+1)=(k:Nat):=by
 obtain⟨hk,e⟩:=List.getElem?_eq_some_iff.1 h;have e2:l=l.take k++x::l.drop (k+1):=by rw[←e,List.getElem_cons_drop hk,List.take_append_drop]
 have hx:x∉l.take k:=fun hm=>by
  rw[e2] at hd;exact (List.nodup_append.1 hd).2.2 _ hm _ (List.mem_cons_self ..) rfl
 have hl:(l.take k).length=k:=by rw[List.length_take];omega
 have h1:l.idxOf x=k:=by
  have:=Tr.dX (l2:=l.drop (k+1)) hx;rw[←e2,hl] at this;exact this
 unfold pos;rw[if_pos (by rw[List.take_add_one,h];simp),h1]
theorem zD {l:List Int} {x y:Int} {k:Nat} (h:l[k]?=some y) (hn:y≠x):pos l x (k+1)=pos l x k:=by
 unfold pos;rw[List.take_add_one,h];have:(x∈l.take k++(some y).toList)↔x∈l.take k:=by
  simp only[Option.toList_some,List.mem_append,List.mem_singleton];exact⟨fun e=>e.resolve_right (fun e=>hn e.symm),.inl⟩
 simp only[this]
theorem KR (l:List Int) (x:Int) {k:Nat} (h:k=l.length):pos l x k=if x∈l then ((l.idxOf x:Nat):Int) else -1:=by
 unfold pos;rw[h,List.take_length]
theorem zF {α:Type} {l pre:List α} {x:α} (h:pre++[x] <+: l):pre <+: l∧l[pre.length]?=some x:=by
 obtain⟨r,rfl⟩:=h;exact⟨⟨[x]++r,by simp⟩,by simp⟩
variable [mY]
section
variable {w w':World} {base bM T B M:Nat} {b s:Int} {vs vf aQ vh:Value} {n live m:Nat} {fr:List Nat} {av:Int→Tr.Sl} {f:Nat→RS} {hs:List Int} {g:Tr.G} {K:Nat}
theorem TW.cmp (H:TW w base bM T B M b s vs vf aQ vh n live m fr av f hs g K) {x y:Nat} (hx:x<m) (hy:y<m):
  ∃ c er:Int,(∀ W,Below w.heap.size w W→Calls Tryz.prog 8 #[.pointer (some ⟨B,0,none⟩),.int .i64 (hof hs (x:Int)),.int .i64 (hof hs (y:Int))] W fun e W'=>e=.returned (.tuple #[.int .i64 c,.int .i64 er])∧Below W.heap.size W W')∧
   ((f x).gone=true∨(f y).gone=true→c=0∧er=6∧decide (hof hs (x:Int)∈Tr.aY g (hof hs (y:Int)))=false)∧
   ((f x).gone=false→(f y).gone=false→∃ t:Nat,t<m∧(f t).gone=false∧Tr.dN (Tr.aY (mg m f) x)=(t:Int)∧Tr.dN (Tr.aY g (hof hs (x:Int)))=hof hs (t:Int)∧(x:Int)∈Tr.ak (mg m f) t∧
    decide (hof hs (x:Int)∈Tr.aY g (hof hs (y:Int)))=decide ((x:Int)∈Tr.aY (mg m f) y)∧
    ((y:Int)∉Tr.ak (mg m f) t→c=0∧er=6)∧
    ((y:Int)∈Tr.ak (mg m f) t→er=0∧c=AZ ((Tr.ak (mg m f) t).idxOf (x:Int):Nat) ((Tr.ak (mg m f) t).idxOf (y:Int):Nat))):=by
 have hne:Tr.dN (Tr.aY g (hof hs (x:Int)))=0∨Tr.dN (Tr.aY g (hof hs (x:Int)))≠Tr.dN (Tr.aY g (hof hs (y:Int)))→∀ W,Below w.heap.size w W→Calls Tryz.prog 8 #[.pointer (some ⟨B,0,none⟩),.int .i64 (hof hs (x:Int)),.int .i64 (hof hs (y:Int))] W fun e W'=>e=.returned (.tuple #[.int .i64 0,.int .i64 6])∧Below W.heap.size W W':=fun hq W hb=>
  P5 base B b s _ _ _ live n g av fr vs vf W (H.below hb).tv H.so H.wf (H.i64 hx) (H.i64 hy) hq
 by_cases gx:(f x).gone=true
 ·obtain⟨e1,e2⟩:=H.kL hx gx;have u1:Tr.aY g (hof hs (x:Int))=[]:=by rw[e1];exact H.wf.kU e2
  refine⟨0,6,hne (.inl (by rw[u1];rfl)),fun _=>⟨rfl,rfl,decide_eq_false fun hm=>?_⟩,fun h=>by rw[gx] at h;cases h⟩;have:=(H.wf.bY _).1.mem hm;rw[e1,e2] at this;cases this
 ·have gx':(f x).gone=false:=by simpa using gx
  have sx:(mg m f (x:Int)).isSome:=by rw[eB hx,gx'];rfl
  obtain⟨t0,l,e0,e1,e2,st,e3,hw⟩:=Ba H.im H.wf sx;obtain⟨t,rfl,ht,gt,-⟩:=jq st;by_cases gy:(f y).gone=true
  ·obtain⟨e4,e5⟩:=H.kL hy gy;have u1:Tr.aY g (hof hs (y:Int))=[]:=by rw[e4];exact H.wf.kU e5
   refine⟨0,6,hne (.inr ?_),fun _=>⟨rfl,rfl,by rw[u1];rfl⟩,fun _ h=>by rw[gy] at h;cases h⟩;rw[u1,e3];exact H.im.nz _ st
  ·have gy':(f y).gone=false:=by simpa using gy
   have sy:(mg m f (y:Int)).isSome:=by rw[eB hy,gy'];rfl
   have hap:=Qb H.im H.wf sx sy e1;have hct:=Hz H.im H.wf sx sy;by_cases hyw:(y:Int)∈Tr.ak (mg m f) t
   ·obtain⟨q1,q2,q3⟩:=VT H.im H.wf sx sy e1 (hap.1.1 hyw);refine⟨_,0,fun W hb=>?_,fun h=>by rcases h with h | h;exact absurd h gx;exact absurd h gy,fun _ _=>⟨t,ht,gt,e1,e3,hw,hct,fun h=>absurd hyw h,fun _=>⟨rfl,rfl⟩⟩⟩;have:=Sk base B b s _ _ _ live n g av fr vs vf W (H.below hb).tv H.so H.wf (H.i64 hx) (H.i64 hy) q1 q2;rw[q3] at this;exact this
   ·exact⟨0,6,hne (.inr (hap.2 hyw)),fun h=>by rcases h with h | h;exact absurd h gx;exact absurd h gy,fun _ _=>⟨t,ht,gt,e1,e3,hw,hct,fun _=>⟨rfl,rfl⟩,fun h=>absurd h hyw⟩⟩
end
end
section
open Go Go.RowKit Go.Joins Go.ChangeShapes Go.WideShapes Go.Deep
theorem SK {n:Int} (h:(Lit.int .u8 n).wf=true):0≤n∧n<256:=by
 have:0≤n∧n≤255:=by simpa [Lit.wf,IntKind.min,IntKind.max,IntKind.bits,IntKind.signed] using h
 omega
theorem Ug {n:Int} (h:(Lit.int .i8 n).wf=true) : -128≤n∧n<128:=by
 have : -128≤n∧n≤127:=by simpa [Lit.wf,IntKind.min,IntKind.max,IntKind.bits,IntKind.signed] using h
 omega
theorem Qx {α:Type} [Inhabited α] {Q:Nat→α→Prop} {n:Nat} (h:∀ i,i<n→∃ x,Q i x):∃ f:Nat→α,∀ i,i<n→Q i (f i):=by
 have h2:∀ i,∃ x,i<n→Q i x:=fun i=>by
  by_cases hi:i<n
  ·obtain⟨x,hx⟩:=h i hi;exact⟨x,fun _=>hx⟩
  ·exact⟨default,fun h'=>absurd h' hi⟩
 exact Classical.axiomOfChoice h2
theorem Ko (b o j:Nat):(⟨b,o,none⟩:Addr).add j=⟨b,o+j,none⟩:=by unfold Addr.add;split<;>simp_all
instance:Inhabited qQ:=⟨⟨0,0,0,0,⟨#[]⟩,⟨#[]⟩,0,0⟩⟩
theorem LA {H:Type} {enc:TypeId×Value→H} {w:World} {base:Nat} {spare:Nat→Bool} {held:Bool} {r:Reach} {b0:Nat} {v:Value} {d:DataW H} {p:List MemPlace}
  (hv:Value.okWide Tryz.prog w r b0 22 v) (h:DataW.Trod enc Tryz.prog w base spare held 22 v d p):
  ∃ (n:Nat) (F:Nat→qQ),Mc w v n F∧(∀ i,i<n→XK (F i))∧n≤9223372036854775807:=by
 obtain⟨A,V7,cap0,rfl⟩:=okWide_slice Tryz.underlying22 hv;obtain⟨fuel,hf⟩:=h;have hC:Tryz.prog.cellsOf 39=8:=by kernel_rfl
 have hC0:Tryz.prog.cellsOf 5=1:=by kernel_rfl
 have X0:Tryz.prog.cellsOf 9=1:=by kernel_rfl
 have hC2:Tryz.prog.cellsOf 37=1:=by kernel_rfl
 rcases open_slice Tryz.underlying22 hf with ⟨hcs,_⟩ | ⟨a,len,cap,m,n,D,Pl,hcs,_,hl,hmx,hm,_,hi⟩
 ·simp[Value.cells] at hcs;obtain⟨rfl,rfl,rfl⟩:=hcs;exact⟨0,fun _=>default,⟨none,0,rfl,fun h=>absurd h (Nat.lt_irrefl 0)⟩,fun i hi=>absurd hi (Nat.not_lt_zero i),Nat.zero_le _⟩
 ·simp[Value.cells] at hcs;obtain⟨rfl,rfl,rfl⟩:=hcs;rw[hC] at hi;have hlm:V7≤m:=by rw[hm];split<;>omega
  have key:∀ i,i<V7→∃ x:qQ,XK x∧w.cell? ((a.add (i*8)).add 0)=some (.int .u8 x.kind)∧w.cell? ((a.add (i*8)).add 1)=some (.int .u8 x.a)∧w.cell? ((a.add (i*8)).add 2)=some (.int .u8 x.b)∧w.cell? ((a.add (i*8)).add 3)=some (.int .u8 x.c)∧
    w.cell? ((a.add (i*8)).add 4)=some (.string x.s)∧w.cell? ((a.add (i*8)).add 5)=some (.string x.t)∧w.cell? ((a.add (i*8)).add 6)=some (.int .i8 x.n)∧w.cell? ((a.add (i*8)).add 7)=some (.int .i8 x.k):=by
   intro i hil;obtain⟨cs,hc,ht⟩:=hi i (by omega);obtain⟨_,hcl,hat⟩:=World.cells?_some hc;obtain⟨xs,n',_,_,_,hxl,hg⟩:=DataW.trod_struct Tryz.underlying39 ht
   match cs,hcl,xs,hxl with
   | [c0,c1,c2,c3,c4,c5,c6,c7],_,[z0,z1,z2,z3,z4,z5,z6,z7],_=>
    have g0:=hg 0 _ rfl;have g1:=hg 1 _ rfl;have g2:=hg 2 _ rfl;have g3:=hg 3 _ rfl;have g4:=hg 4 _ rfl;have g5:=hg 5 _ rfl;have g6:=hg 6 _ rfl;have g7:=hg 7 _ rfl;simp[hC0,X0,hC2] at g0 g1 g2 g3 g4 g5 g6 g7;obtain⟨x0,e0,_,v0⟩:=DataW.trod_int Tryz.underlying5 g0;obtain⟨x1,e1,_,v1⟩:=DataW.trod_int Tryz.underlying5 g1;obtain⟨x2,e2,_,v2⟩:=DataW.trod_int Tryz.underlying5 g2;obtain⟨x3,e3,_,v3⟩:=DataW.trod_int Tryz.underlying5 g3;obtain⟨x4,e4,_,v4⟩:=DataW.trod_string Tryz.underlying9 g4;obtain⟨x5,e5,_,v5⟩:=DataW.trod_string Tryz.underlying9 g5;obtain⟨x6,e6,_,v6⟩:=DataW.trod_int Tryz.underlying37 g6;obtain⟨x7,e7,_,v7⟩:=DataW.trod_int Tryz.underlying37 g7;simp only[List.cons.injEq,and_true] at e0 e1 e2 e3 e4 e5 e6 e7;subst e0 e1 e2 e3 e4 e5 e6 e7;exact⟨⟨x0,x1,x2,x3,x4,x5,x6,x7⟩,⟨SK v0,SK v1,SK v2,SK v3,Ug v6,Ug v7⟩,hat 0 (by omega),hat 1 (by omega),hat 2 (by omega),hat 3 (by omega),hat 4 (by omega),hat 5 (by omega),hat 6 (by omega),hat 7 (by omega)⟩
  obtain⟨F,hF⟩:=Qx key;refine⟨V7,F,⟨some a,cap0,rfl,fun hn=>?_⟩,fun i hi=>(hF i hi).1,by unfold maxLen at hmx;omega⟩;obtain⟨b,o,sp⟩:=a;have hsp:sp=none:=by
   obtain⟨_,j0,_⟩:=hF 0 hn;simpa [Addr.add] using World.cell?_spot j0
  subst hsp;refine⟨b,o,rfl,fun i j u hi hj=>?_⟩;obtain⟨_,k0,k1,k2,k3,k4,k5,k6,k7⟩:=hF i hi;simp only[Ko] at k0 k1 k2 k3 k4 k5 k6 k7;have hj8:j<8:=(List.getElem?_eq_some_iff.1 hj).1
  match j,hj8,hj with
  | 0,_,hj=>obtain rfl:=Option.some.inj hj;exact k0
  | 1,_,hj=>obtain rfl:=Option.some.inj hj;exact k1
  | 2,_,hj=>obtain rfl:=Option.some.inj hj;exact k2
  | 3,_,hj=>obtain rfl:=Option.some.inj hj;exact k3
  | 4,_,hj=>obtain rfl:=Option.some.inj hj;exact k4
  | 5,_,hj=>obtain rfl:=Option.some.inj hj;exact k5
  | 6,_,hj=>obtain rfl:=Option.some.inj hj;exact k6
  | 7,_,hj=>obtain rfl:=Option.some.inj hj;exact k7
end
end Go.Proofs.YtjpbhkcjmdndjaaGreatDoor
