/- Part of a proof about trees. -/
import Derived.Deep.RegionHeld3
import Derived.Sort.CutIn
import Derived.Test.YtmhjlifmcadefaaGreatDoorGNRsa
set_option linter.unusedVariables false
set_option linter.unusedSimpArgs false
set_option linter.unusedSectionVars false
set_option maxHeartbeats 4000000
set_option maxRecDepth 100000
namespace Go.Proofs.YtmhjlifmcadefaaGreatDoor
section
open Go.RowKit
def hof (hs:List Int) (x:Int):Int:=if x<0 then 0 else hs.getD x.toNat 0
structure oW (w:World) (T B M:Nat) (vh:Value) (hs:List Int):Prop where
 var:Whole w T #[.pointer (some ⟨B,0,none⟩),.pointer (some ⟨M,0,none⟩),vh] 41
 row:TR w 0 3 1 vh hs.length (ints hs)
theorem oW.below {w w':World} {T B M:Nat} {vh:Value} {hs:List Int} (h:oW w T B M vh hs) (hb:Below w.heap.size w w'):oW w' T B M vh hs:=⟨h.var.below hb h.var.lt,h.row.below hb⟩
theorem Ml {hs:List Int} {x:Int} (h:x<0):hof hs x=0:=if_pos h
theorem TM {hs:List Int} {x:Int} (h:(hs.length:Int)≤x):hof hs x=0:=by
 unfold hof;rw[if_neg (by omega),List.getD_eq_getElem?_getD,List.getElem?_eq_none (by omega)];rfl
theorem oO {hs:List Int} {j:Nat} {x:Int} (h:hs[j]?=some x):hof hs (j:Int)=x:=by
 unfold hof;rw[if_neg (by omega),List.getD_eq_getElem?_getD,Int.toNat_natCast,h];rfl
theorem fM (T B M:Nat) (vh:Value) (hs:List Int) (x:Int) (w:World) (H:oW w T B M vh hs):
  Calls Tryz.prog 33 #[.pointer (some ⟨T,0,none⟩),.int .i64 x] w fun e w'=>e=.returned (.int .i64 (hof hs x))∧w'=w:=by
 obtain⟨A,c,rfl⟩:=H.row.form;have c2:w.cell? ⟨T,2,none⟩=some (.slice A hs.length c):=H.var.cell 2;obtain⟨n,hn⟩:=eX (hs.length)
 have HN:=zh hn;by_cases h0:x<0
 ·have HE:=zh (Ml (hs:=hs) h0);clear H hn
  go_enter Tryz.func33,Tryz.ntmps33
  go_wp2_with fail
  go_ret
  exact⟨by rw[HE.out];rfl,rfl⟩
 ·obtain⟨j,rfl⟩:=Int.eq_ofNat_of_zero_le (by omega:0≤x);have j0:(0:Int)≤(j:Int):=by omega
  rw[hn] at c2;by_cases hj:j<n
  ·obtain⟨y,hy⟩:∃ y,hs[j]?=some y:=⟨hs[j]'(by omega),by simp⟩
   have HE:=zh (oO hy);have hlen:0<hs.length:=by omega
   obtain⟨g,o,rfl,-,-,hcs,-⟩:=H.row.cells hlen;have ck:=hcs j _ (by omega) (eu hy);have j1:¬ (n:Int)≤(j:Int):=by omega
   have j2:(j:Int)<(n:Int):=by omega
   clear H hn hy hcs hlen
   go_enter Tryz.func33,Tryz.ntmps33
   go_wp2_with fail
   go_ret
   exact⟨by rw[HE.out];rfl,rfl⟩
  ·have HE:=zh (TM (hs:=hs) (x:=(j:Int)) (by omega));have j1:(n:Int)≤(j:Int):=by omega
   clear H hn
   go_enter Tryz.func33,Tryz.ntmps33
   go_wp2_with fail
   go_ret
   exact⟨by rw[HE.out];rfl,rfl⟩
def Ky:RS:=⟨1,⟨#[]⟩,⟨none,0,0⟩,[],⟨#[]⟩,-1,⟨none,0,0⟩,[],false⟩
theorem Q5 (w:World):
  Calls Tryz.prog 29 #[] w fun e w'=>∃ M vs,e=.returned (.pointer (some ⟨M,0,none⟩))∧MV w.heap.size w' M vs 1 (fun _=>Ky)∧Below w.heap.size w w':=by
 obtain⟨w1,hw1⟩:=eX (w.alloc (.cells #[.int .i64 1,.string ⟨#[]⟩,.slice none 0 0,.string ⟨#[]⟩,.int .i64 (-1),.slice none 0 0,.bool false] 75))
 have hrow:w1.ownsRow w.heap.size 75 7 (.slice (some ⟨w.heap.size,0,none⟩) 1 1) 1 (bW qO 1 fun _=>Ky):=by
  rw[←hw1];exact World.ownsRow_lit (base:=w.heap.size) (e:=75) (size:=7) w #[.int .i64 1,.string ⟨#[]⟩,.slice none 0 0,.string ⟨#[]⟩,.int .i64 (-1),.slice none 0 0,.bool false] 1 (Nat.le_refl _) (by unfold maxLen;omega) rfl
 have hs1:w1.heap.size=w.heap.size+1:=by rw[←hw1];simp
 have hb1:Below w.heap.size w w1:=fI hw1;have hX:=Whole.new w1 #[.slice (some ⟨w.heap.size,0,none⟩) 1 1] 72;have hM:MV w.heap.size (w1.alloc (.cells #[.slice (some ⟨w.heap.size,0,none⟩) 1 1] 72)) w1.heap.size (.slice (some ⟨w.heap.size,0,none⟩) 1 1) 1 (fun _=>Ky):=
  ⟨by omega,hX,hrow.alloc _,fun i _=>TR.nil _ _ _ _,fun i _=>TR.nil _ _ _ _,fun i j h1 h2 h3=>by omega,fun i j h1 h2 h3=>by omega⟩
 rw[hs1] at hM;have HM:=zh (And.intro hM (hb1.alloc (by omega) (.cells #[.slice (some ⟨w.heap.size,0,none⟩) 1 1] 72)));clear hM hX hrow hb1
 go_enter Tryz.func29,Tryz.ntmps29
 go_wp2_with fail;(try rw[hw1]);try go_wp2_with fail
 go_ret
 exact⟨_,_,rfl,HM.out.1,HM.out.2⟩
theorem oW.made {W:World} {B M:Nat} {r:Int} {b0:Nat} (hrow:W.ownsRow b0 3 1 (.slice (some ⟨b0,0,none⟩) 1 1) 1 (ints [r])):oW (W.alloc (.cells #[.pointer (some ⟨B,0,none⟩),.pointer (some ⟨M,0,none⟩),.slice (some ⟨b0,0,none⟩) 1 1] 41)) W.heap.size B M (.slice (some ⟨b0,0,none⟩) 1 1) [r]:=
 ⟨Whole.new W _ _,(TR.jP (hrow.alloc _)).zero⟩
def Fy (b s:Int) (w:World) (e:Ending) (w':World):Prop:=∃ (T B M:Nat) (vs vf aP vh:Value),e=.returned (.pointer (some ⟨T,0,none⟩))∧oW w' T B M vh [Ar.hdl b s 0]∧
 (∃ bT,w.heap.size≤bT∧TV bT w' B b s vs 1 (Tr.raw (Tr.dK xH (Ar.hdl b s 0) lN) CF) vf [] 1 (Ar.hdl b s 0))∧Sound b s 1 (Tr.raw (Tr.dK xH (Ar.hdl b s 0) lN) CF) [] 1∧Tr.WF 0 (Tr.dK xH (Ar.hdl b s 0) lN)∧
 (∃ bM,MV bM w' M aP 1 (fun _=>Ky)∧∀ k,aD B vs vf k→k<bM)∧Below w.heap.size w w'∧w.heap.size≤T∧∀ k,vh.ownBlock=some k→w.heap.size≤k∧¬ aD B vs vf k∧¬ aC M aP 1 (fun _=>Ky) k
theorem TN {b s:Int} {w w0 w1 W2:World} {B M:Nat} {vs vf aP:Value} (hT:TV w0.heap.size w1 B b s vs 1 (Tr.raw (Tr.dK xH (Ar.hdl b s 0) lN) CF) vf [] 1 (Ar.hdl b s 0)) (h0:w.heap.size≤w0.heap.size) (hSW:Sound b s 1 (Tr.raw (Tr.dK xH (Ar.hdl b s 0) lN) CF) [] 1∧Tr.WF 0 (Tr.dK xH (Ar.hdl b s 0) lN)) (hB1:Below w.heap.size w w1)
  (hM:MV w1.drew.heap.size W2 M aP 1 (fun _=>Ky)∧Below w1.drew.heap.size w1.drew W2):
  Fy b s w (.returned (.pointer (some ⟨W2.heap.size+1,0,none⟩))) ((W2.alloc (.cells #[.int .i64 (Ar.hdl b s 0)] 3)).alloc (.cells #[.pointer (some ⟨B,0,none⟩),.pointer (some ⟨M,0,none⟩),.slice (some ⟨W2.heap.size,0,none⟩) 1 1] 41)):=by
 have eO:Below w1.heap.size w1 W2:=(bf _ w1).trans hM.2;have hs:=hB1.size;have hs2:=eO.size;have hrow:(W2.alloc (.cells #[.int .i64 (Ar.hdl b s 0)] 3)).ownsRow W2.heap.size 3 1 (.slice (some ⟨W2.heap.size,0,none⟩) 1 1) 1 (ints [Ar.hdl b s 0]):=World.ownsRow_lit (base:=W2.heap.size) (e:=3) (size:=1) W2 #[.int .i64 (Ar.hdl b s 0)] 1 (Nat.le_refl _) (by unfold maxLen;omega) rfl;have CP:=oW.made (B:=B) (M:=M) hrow;rw[World.size_alloc] at CP;have Xd:Below W2.heap.size W2 ((W2.alloc (.cells #[.int .i64 (Ar.hdl b s 0)] 3)).alloc (.cells #[.pointer (some ⟨B,0,none⟩),.pointer (some ⟨M,0,none⟩),.slice (some ⟨W2.heap.size,0,none⟩) 1 1] 41)):=((Below.refl _ W2).alloc (Nat.le_refl _) _).alloc (by simp) _;exact⟨_,B,M,vs,vf,aP,_,rfl,CP,⟨_,h0,(hT.below eO).below Xd⟩,hSW.1,hSW.2,⟨w1.heap.size,hM.1.below Xd,fun k hk=>(hT.lt k hk).2⟩,(hB1.trans (eO.mono hs)).trans (Xd.mono (Nat.le_trans hs hs2)),by omega,fun k hk=>by
  have e:W2.heap.size=k:=by simpa [Value.ownBlock] using hk
  subst e
  exact⟨by omega,fun hf=>by have:=(hT.lt _ hf).2;omega,fun hf=>by have:=(hM.1.lt _ hf).2;omega⟩⟩
theorem TP {b s:Int} {w w0 w1 W2:World} {B M:Nat} {vs vf aP:Value} (hT:TV w0.heap.size w1 B b s vs 1 (Tr.raw (Tr.dK xH (Ar.hdl b s 0) lN) CF) vf [] 1 (Ar.hdl b s 0)) (h0:w.heap.size≤w0.heap.size) (hSW:Sound b s 1 (Tr.raw (Tr.dK xH (Ar.hdl b s 0) lN) CF) [] 1∧Tr.WF 0 (Tr.dK xH (Ar.hdl b s 0) lN)) (hB1:Below w.heap.size w w1)
  (hM:MV (w1.drew.alloc (.cells #[.int .i64 (Ar.hdl b s 0)] 3)).heap.size W2 M aP 1 (fun _=>Ky)∧Below (w1.drew.alloc (.cells #[.int .i64 (Ar.hdl b s 0)] 3)).heap.size (w1.drew.alloc (.cells #[.int .i64 (Ar.hdl b s 0)] 3)) W2):
  Fy b s w (.returned (.pointer (some ⟨W2.heap.size,0,none⟩))) (W2.alloc (.cells #[.pointer (some ⟨B,0,none⟩),.pointer (some ⟨M,0,none⟩),.slice (some ⟨w1.heap.size,0,none⟩) 1 1] 41)):=by
 have Z0:Below w1.heap.size w1 (w1.drew.alloc (.cells #[.int .i64 (Ar.hdl b s 0)] 3)):=(bf _ w1).alloc (Nat.le_refl _) _;have hsa:=Z0.size;have eO:Below w1.heap.size w1 W2:=Z0.trans (hM.2.mono hsa);have hs:=hB1.size;have hs2:=eO.size;have nZ:(w1.drew.alloc (.cells #[.int .i64 (Ar.hdl b s 0)] 3)).ownsRow w1.heap.size 3 1 (.slice (some ⟨w1.heap.size,0,none⟩) 1 1) 1 (ints [Ar.hdl b s 0]):=World.ownsRow_lit (base:=w1.heap.size) (e:=3) (size:=1) w1.drew #[.int .i64 (Ar.hdl b s 0)] 1 (Nat.le_refl _) (by unfold maxLen;omega) rfl;have hrow:W2.ownsRow w1.heap.size 3 1 (.slice (some ⟨w1.heap.size,0,none⟩) 1 1) 1 (ints [Ar.hdl b s 0]):=nZ.kept (ay hM.2 none) (.inr (by simp[Value.ownBlock]));have CP:=oW.made (B:=B) (M:=M) hrow;have Xd:Below W2.heap.size W2 (W2.alloc (.cells #[.pointer (some ⟨B,0,none⟩),.pointer (some ⟨M,0,none⟩),.slice (some ⟨w1.heap.size,0,none⟩) 1 1] 41)):=(Below.refl _ W2).alloc (Nat.le_refl _) _;exact⟨_,B,M,vs,vf,aP,_,rfl,CP,⟨_,h0,(hT.below eO).below Xd⟩,hSW.1,hSW.2,⟨_,hM.1.below Xd,fun k hk=>Nat.lt_of_lt_of_le (hT.lt k hk).2 hsa⟩,(hB1.trans (eO.mono hs)).trans (Xd.mono (Nat.le_trans hs hs2)),by omega,fun k hk=>by
  have e:w1.heap.size=k:=by simpa [Value.ownBlock] using hk
  subst e;refine⟨by omega,fun hf=>by have:=(hT.lt _ hf).2;omega,fun hf=>?_⟩;have h1:=(hM.1.lt _ hf).1;rw[World.size_alloc] at h1;have h2:w1.drew.heap.size=w1.heap.size:=rfl
  omega⟩
theorem Od (b s:Int) (w:World):
  Calls Tryz.prog 15 #[xV b s] w fun e w'=>Fy b s w e w':=by
 obtain⟨w0,hw0⟩:=eX (w.alloc (.cells #[.int .i64 b,.int .i64 s] 48))
 have hb0:Below w.heap.size w w0:=fI hw0;have hX:Whole w0 w.heap.size #[.int .i64 b,.int .i64 s] 48:=by rw[←hw0];exact Whole.new w _ _
 have s0:w0.cell? ⟨w.heap.size,0,none⟩=some (.int .i64 b):=hX.cell 0;have s1:w0.cell? ⟨w.heap.size,1,none⟩=some (.int .i64 s):=hX.cell 1;have HN:=zh (Ma b s w0);have HB0:=zh hb0;have HW0:=zh hw0;clear hX hb0 hw0
 go_enter Tryz.func15,Tryz.ntmps15
 go_wp2_with fail;(try rw[HW0.out]);(try go_wp2_with fail);refine HN.out.mono ?_;rintro e w1 ⟨B,vs,vf,rfl,hT,hS,hW,hb1⟩;have r0:=hT.cells.2.2.2.2.2;have HT:=zh hT;have HSW:=zh (And.intro hS hW);have HB1:=zh (HB0.out.trans (hb1.mono HB0.out.size));clear HN hT hS hW hb1;go_wp2_with fail;have hBl:B<w1.heap.size:=HT.out.var.lt
 go_region_with (refine (Q5 _).mono ?_;rintro e W2 ⟨M,aP,rfl,hMV,hbM⟩;(try have r2:W2.cell? ⟨B,5,none⟩=some (.int .i64 (Ar.hdl b s 0)):=(hbM.cell (p:=⟨B,5,none⟩) hBl).trans r0);have ze:=zh (And.intro hMV hbM);clear hMV hbM)
 all_goals go_wp2_with fail
 all_goals go_ret
 all_goals first | exact TN HT.out HB0.out.size HSW.out HB1.out ze.out | exact TP HT.out HB0.out.size HSW.out HB1.out ze.out
theorem wK {hs:List Int} {h x:Int} (hx:x<(hs.length:Int)):hof (hs++[h]) x=hof hs x:=by
 unfold hof;by_cases e:x<0
 ·rw[if_pos e,if_pos e]
 ·rw[if_neg e,if_neg e,List.getD_eq_getElem?_getD,List.getD_eq_getElem?_getD,List.getElem?_append_left (by omega)]
theorem Fz {hs:List Int} {h:Int}:hof (hs++[h]) (hs.length:Int)=h:=by
 unfold hof;rw[if_neg (by omega),List.getD_eq_getElem?_getD,Int.toNat_natCast,List.getElem?_append_right (Nat.le_refl _),Nat.sub_self];rfl
theorem mF {hs:List Int}:hof hs (-1)=0:=Ml (by omega)
theorem zJ {m:Nat} {f:Nat→RS} (hw:Tr.WF (-1) (mg m f)) (h:Int):(Tr.ak (mg m f) h).length≤m:=by
 have hlive:∀ x∈Tr.ak (mg m f) h,∃ i:Nat,x=(i:Int)∧i<m:=fun x hx=>by
  obtain⟨i,h1,h2,_⟩:=jv (hw.lY hx);exact⟨i,h1,h2⟩
 have hnd:=hw.jV h;have QA:((Tr.ak (mg m f) h).map Int.toNat).Nodup:=by
  rw[List.nodup_iff_pairwise_ne,List.pairwise_map];refine (List.pairwise_iff_forall_sublist.2 ?_);intro a b hab e;obtain⟨j,h4,_⟩:=hlive a (hab.subset (by simp));obtain⟨j',h5,_⟩:=hlive b (hab.subset (by simp));have:a=b:=by rw[h4,h5] at e ⊢;simp at e;rw[e]
  exact (List.pairwise_iff_forall_sublist.1 (List.nodup_iff_pairwise_ne.1 hnd)) hab this
 have:=pI m _ QA (fun x hx=>by
  obtain⟨y,hy,rfl⟩:=List.mem_map.1 hx;obtain⟨j,h4,h5⟩:=hlive y hy
  rw[h4];simpa using h5)
 simpa using this
def nS (a:Tr.G) (h:Int) (l:List Int):List Int:=h::l.flatMap (Tr.ak a)
theorem Kz (a:Tr.G) (h:Int) (l:List Int) (k:Int):nS a h (l++[k])=nS a h l++Tr.ak a k:=by
 unfold nS;rw[List.flatMap_append];simp
theorem Q6 (a:Tr.G) (h:Int) (l l':List Int):(nS a h l).length≤(nS a h (l++l')).length:=by
 unfold nS;rw[List.flatMap_append];simp
theorem Oe (base M m:Nat) (vs:Value) (f:Nat→RS) (hw:Tr.WF (-1) (mg m f)) (hm:m≤100000):∀ h,(mg m f h).isSome→∀ w,MV base w M vs m f→
  Calls Tryz.prog 98 #[.pointer (some ⟨M,0,none⟩),.int .i64 h] w fun e w'=>∃ v,e=.returned v∧TR w' w.heap.size 3 1 v (Tr.ak (mg m f) h).length (ints (Tr.ak (mg m f) h))∧Below w.heap.size w w':=by
 obtain⟨i0,hi0,hz0,hz1,hz2⟩:=info_parts lZ;refine hw.induct ?_;intro h ih hs w H;obtain⟨i,rfl,hi,hg,U7⟩:=jv hs;have hle:=eP hw hi hg;obtain⟨A,c,rfl⟩:=H.form;have hr:Tr.ak (mg m f) (i:Int)=nS (mg m f) i (f i).kids:=hw.bR U7;have QB:=zJ hw (i:Int);obtain⟨n,hn⟩:=eX ((f i).kids.length)
 rw[hn] at hle;obtain⟨g,rfl,-⟩:=H.read hi;have q1:(0:Int)≤(i:Int):=by omega
 have q2:(i:Int)<(m:Int):=by omega
 have Rw:=zh (fun (W:World) (hb:Below w.heap.size w W)=>show W.cell? ⟨M,0,none⟩=some (.slice (some ⟨g,0,none⟩) m c)∧W.cell? ⟨g,i*7+5,none⟩=some (.slice (f i).k.a n (f i).k.c) from by
  obtain⟨x,-,-,-,-,-,y,-⟩:=(H.below hb).rd hi
  rw[hn] at y;exact⟨x,y⟩)
 have HKC:=zh (fun (W:World) (hb:Below w.heap.size w W) (j:Nat) (k:Int) (hj:(f i).kids[j]?=some k)=>(H.below hb).kid hi hj);have XG:=zh (fun (W:World) (hb:Below w.heap.size w W)=>H.below hb);have HI:=zh ih;have HR:=zh hr;have HB:=zh QB;have HW:=zh hw;have HN:=zh hn;have HG:=zh hg;obtain⟨w1,hw1⟩:=eX (w.alloc (.cells #[.int .i64 (i:Int)] 3))
 have hb1:Below w.heap.size w w1:=fI hw1;have Va:TR w1 w.heap.size 3 1 (.slice (some ⟨w.heap.size,0,none⟩) 1 1) 1 (ints [(i:Int)]):=by
  rw[←hw1];exact TR.jP (World.ownsRow_lit (base:=w.heap.size) (e:=3) (size:=1) w #[.int .i64 (i:Int)] 1 (Nat.le_refl _) (by unfold maxLen;omega) rfl)
 have HRW:=zh Va;have HB1:=zh hb1;clear H ih hr QB hw U7 hs hn hg Va hb1
 go_enter Tryz.func98,Tryz.ntmps98
 go_wp2_with fail;(try rw[hw1]);go_wp2_with fail
 go_loopw [5,6] (fun v u wr=>∃ j:Nat,u=.int .i64 (j:Int)∧j≤n∧TR wr w.heap.size 3 1 v (nS (mg m f) i ((f i).kids.take j)).length (ints (nS (mg m f) i ((f i).kids.take j)))∧Below w.heap.size w wr) (fun _ u _=>n - (intOf u).toNat)
 case atStart=>exact⟨0,rfl,Nat.zero_le _,HRW.out,HB1.out⟩
 case round=>
  obtain⟨j,rfl,hj,o,hbr⟩:=hrel;obtain⟨k0,c5⟩:=Rw.out _ hbr;have j0:(0:Int)≤(j:Int):=by omega
  by_cases hjn:j<n
  ·have j1:(j:Int)<(n:Int):=by omega
   obtain⟨k,hk⟩:∃ k,(f i).kids[j]?=some k:=⟨(f i).kids[j]'(by rw[HN.out];exact hjn),by simp⟩
   obtain⟨ga,oa,hA,ck⟩:=HKC.out _ hbr j k hk;rw[hA] at c5;have hkm:k∈(f i).kids:=List.mem_of_getElem? hk;obtain⟨i',hki,hi',hg',_⟩:=Live.kid HW.out hi HG.out hkm;have hcall:=HI.out _ (aM hi HG.out) k hkm (by rw[hki,jm hi',hg'];rfl) _ (XG.out _ hbr);have htk:(f i).kids.take (j+1)=(f i).kids.take j++[k]:=by rw[List.take_add_one,hk];rfl
   have hsn:nS (mg m f) i ((f i).kids.take (j+1))=nS (mg m f) i ((f i).kids.take j)++Tr.ak (mg m f) k:=by rw[htk,Kz]
   have hl1:(nS (mg m f) i ((f i).kids.take (j+1))).length≤m:=by
    have h1:=Q6 (mg m f) i ((f i).kids.take (j+1)) ((f i).kids.drop (j+1));rw[List.take_append_drop,←HR.out] at h1;have:=HB.out;omega
   have HX:=zh hsn;have HC:=zh hcall;obtain⟨P,hP⟩:=eX (nS (mg m f) i ((f i).kids.take j))
   obtain⟨Q,hQ⟩:=eX (Tr.ak (mg m f) k)
   have HPQ:=zh (And.intro hP hQ);rw[hP] at o;rw[hsn,hP,hQ,List.length_append] at hl1;rw[hQ] at HC;clear hcall hsn htk hk hkm hki hA hP hQ;go_wp2_with fail;refine HC.out.mono ?_;rintro e w2 ⟨v2,rfl,o2,hb2⟩;have dV:=hbr.trans (hb2.mono hbr.size);have o':=o.below hb2;have src:=o2.source;have hyl:=o2.1;have hbs:=dV.size;clear HC o o2
   go_wp2_with (at_builtin;refine bA rfl _ _ 39 rfl w.heap.size 3 i0 (.int .i64 0) 1 8 Tryz.underlying39 hi0 hz0 hz1 hz2 rfl (by decide) _ P.length (ints P) rfl o' _ Q.length (ints Q) rfl hyl src (eB _) ?c3 ?c4 hbs ?_)
   case c3=>unfold maxLen;omega
   case c4=>omega
   intro v5 w5 o5 g5 f5;have hb5:=dV.grown g5 hbs (fun j hj=>(o'.lt j hj).1);have OU:TR w5 w.heap.size 3 1 v5 (nS (mg m f) i ((f i).kids.take (j+1))).length (ints (nS (mg m f) i ((f i).kids.take (j+1)))):=by
    rw[HX.out,HPQ.out.1,HPQ.out.2,List.length_append,gD];exact o5
   have HO:=zh OU;clear o5 OU g5 f5 o' src hyl hbr dV hb2;go_wp2_with fail
   go_roundw
   case rel=>exact⟨j+1,by go_num,by omega,HO.out,hb5⟩
   case measure=>simp[intOf];omega
  ·have rX:j=n:=by omega
   subst rX;have htk:(f i).kids.take j=(f i).kids:=by rw[List.take_of_length_le];rw[HN.out];exact Nat.le_refl _
   rw[htk,←HR.out] at o;have HO:=zh o;clear o htk;have j1:¬ (j:Int)<(j:Int):=by omega
   go_wp2_with fail
   go_ret
   exact⟨_,rfl,HO.out,hbr⟩
def iR (f:Nat→RS) (l:List Int):Nat→RS:=fun j=>if (j:Int)∈l then { f j with gone:=true } else f j
theorem Og (f:Nat→RS):iR f []=f:=by funext j;unfold iR;simp
theorem KC (f:Nat→RS) (l:List Int) (i:Nat):iR f (l++[(i:Int)])=aX (iR f l) i fun n=>{ n with gone:=true }:=by
 funext j;unfold iR aX;by_cases e:j=i
 ·subst e;rw[if_pos (by simp),if_pos rfl];dsimp only;by_cases hl:(j:Int)∈l
  ·rw[if_pos hl]
  ·rw[if_neg hl]
 ·rw[if_neg e];have hiff:((j:Int)∈l++[(i:Int)])↔(j:Int)∈l:=by
   rw[List.mem_append,List.mem_singleton];exact⟨fun h=>by rcases h with h | h;exact h;omega,.inl⟩
  dsimp only;by_cases hl:(j:Int)∈l
  ·rw[if_pos (hiff.2 hl),if_pos hl]
  ·rw[if_neg (fun h=>hl (hiff.1 h)),if_neg hl]
theorem yL (f:Nat→RS) (l:List Int) (j:Nat):(iR f l j).a=(f j).a∧(iR f l j).k=(f j).k:=by
 unfold iR;split<;>exact⟨rfl,rfl⟩
theorem nT (M m:Nat) (vs:Value) (f:Nat→RS) (l:List Int):aC M vs m (iR f l)=aC M vs m f:=by
 funext x;unfold aC;simp only[(yL f l _).1,(yL f l _).2]
theorem Io (base M m:Nat) (vs:Value) (f:Nat→RS) (i:Nat) (w:World) (H:MV base w M vs m f) (hi:i<m) (h0:i=0∨∃ p:Nat,(f i).pa=(p:Int)):
  Calls Tryz.prog 45 #[.pointer (some ⟨M,0,none⟩),.int .i64 (i:Int)] w fun e w'=>e=.returned (.int .i64 7)∧w'=w:=by
 obtain⟨A,c,rfl⟩:=H.form;obtain⟨g,rfl,-⟩:=H.read hi;obtain⟨k0,-,-,-,-,c4,-⟩:=H.rd hi;by_cases hi0:i=0
 ·subst hi0;clear H h0
  go_enter Tryz.func45,Tryz.ntmps45
  go_wp2_with fail
  go_ret
  exact⟨rfl,rfl⟩
 ·obtain⟨p,hp⟩:∃ p:Nat,(f i).pa=(p:Int):=by rcases h0 with e | e;exact absurd e hi0;exact e
  rw[hp] at c4;have q1:(0:Int)≤(i:Int):=by omega
  have q2:(i:Int)<(m:Int):=by omega
  have q3:((i:Int) == 0)=false:=cB (by omega);have q4:(0:Int)≤(p:Int):=by omega
  clear H h0 hp
  go_enter Tryz.func45,Tryz.ntmps45
  go_wp2_with fail
  go_ret
  exact⟨rfl,rfl⟩
theorem Q7 (base M m:Nat) (vs:Value) (f:Nat→RS) (i:Nat) (w:World) (H:MV base w M vs m f) (hw:Tr.WF (-1) (mg m f)) (hi:i<m) (hg:(f i).gone=false) (hm:m≤100000) (h0:i≠0) (hp:(f i).pa = -1):
  Calls Tryz.prog 45 #[.pointer (some ⟨M,0,none⟩),.int .i64 (i:Int)] w fun e w'=>e=.returned (.int .i64 0)∧MV base w' M vs m (iR f (Tr.ak (mg m f) i))∧aB w w' (aC M vs m f) (aC M vs m (iR f (Tr.ak (mg m f) i))):=by
 have hWK:=Oe base M m vs f hw hm (i:Int) (by rw[jm hi,hg];rfl) w H;have hlive:∀ x∈Tr.ak (mg m f) (i:Int),∃ j:Nat,x=(j:Int)∧j<m:=fun x hx=>by
  obtain⟨j,h1,h2,_⟩:=jv (hw.lY hx);exact⟨j,h1,h2⟩
 have hwl:=zJ hw (i:Int);obtain⟨L,hL⟩:=eX (Tr.ak (mg m f) (i:Int))
 rw[hL] at hWK hlive hwl ⊢;obtain⟨n,hn⟩:=eX (L.length)
 rw[hn] at hWK hwl;obtain⟨A,c,rfl⟩:=H.form;obtain⟨g,rfl,-⟩:=H.read hi;obtain⟨k0,-,-,-,-,c4,-⟩:=H.rd hi;rw[hp] at c4;have q1:(0:Int)≤(i:Int):=by omega
 have q2:(i:Int)<(m:Int):=by omega
 have q3:((i:Int) == 0)=false:=cB (by omega);have HWK:=zh hWK;have HH:=zh H;have vv:=zh hlive;have HN:=zh hn;have hgl:g<w.heap.size:=(H.row.lt g rfl).2;clear H hw hWK hlive hL hn hp hg h0
 go_enter Tryz.func45,Tryz.ntmps45
 go_wp2_with fail;refine HWK.out.mono ?_;rintro e w1 ⟨v1,rfl,o1,hb1⟩;obtain⟨A1,c1,rfl⟩:=o1.form;have XI:=zh (HH.out.below hb1);have PE:=zh o1;have HB1:=zh hb1;clear HWK o1 hb1;go_wp2_with fail
 go_loopw [6] (fun u wr=>∃ j:Nat,u=.int .i64 (j:Int)∧j≤n∧MV base wr M (.slice (some ⟨g,0,none⟩) m c) m (iR f (L.take j))∧TR wr w.heap.size 3 1 (.slice A1 n c1) n (ints L)∧aB w wr (aC M (.slice (some ⟨g,0,none⟩) m c) m f) (aC M (.slice (some ⟨g,0,none⟩) m c) m f)) (fun u _=>n - (intOf u).toNat)
 case atStart=>exact⟨0,rfl,Nat.zero_le _,by rw[List.take_zero,Og];exact XI.out,PE.out,.of_below HB1.out⟩
 case round=>
  obtain⟨j,rfl,hj,hmr,o,st⟩:=hrel;have j0:(0:Int)≤(j:Int):=by omega
  by_cases hjn:j<n
  ·have j1:(j:Int)<(n:Int):=by omega
   obtain⟨k,hk⟩:∃ k,L[j]?=some k:=⟨L[j]'(by rw[HN.out];exact hjn),by simp⟩
   obtain⟨x,rfl,hxm⟩:=vv.out k (List.mem_of_getElem? hk);obtain⟨ga,oa,rfl,hga,-,hcs,-⟩:=o.cells (by omega);have ck:=hcs j _ (by omega) (eu hk);obtain⟨kr,-,-,-,-,-,-,c6⟩:=hmr.rd hxm;have f6:=hmr.fz (x*7+6);have x0:(0:Int)≤(x:Int):=by omega
   have x1:(x:Int)<(m:Int):=by omega
   obtain⟨hm2,st2⟩:=hmr.put (j:=6) (v:=.bool true) hxm (by omega) (fun n=>{ n with gone:=true }) rfl ⟨rfl,rfl,rfl,rfl⟩;have htk:L.take (j+1)=L.take j++[(x:Int)]:=by rw[List.take_add_one,hk];rfl
   rw[←KC,←htk] at hm2 st2;rw[nT,nT] at st2;obtain⟨wo,hwo⟩:∃ wo:World,wo=wr:=⟨_,rfl⟩
   subst hwo;obtain⟨w3,hw3⟩:=eX ((wo.setCell ⟨g,x*7+6,none⟩ (.bool true)).drew)
   have hbd:Below (wo.setCell ⟨g,x*7+6,none⟩ (.bool true)).heap.size (wo.setCell ⟨g,x*7+6,none⟩ (.bool true)) w3:=by rw[←hw3];exact bf _ _
   have g3:wo.grownBy (wo.setCell ⟨g,x*7+6,none⟩ (.bool true)) (some g):=aJ (ay (Below.refl wo.heap.size wo) _) _ _;have o3:=(o.kept g3 (.inr (fun e=>by simp[Value.ownBlock] at e;omega))).below hbd;have HF:=zh (And.intro (hm2.below hbd) (And.intro o3 (st.trans (st2.trans (.of_below hbd)))));clear hmr hm2 st2 st o o3 hbd g3 hk htk hcs;go_wp2_with fail
   go_region
   (try rw[hw3]);go_wp2_with fail
   go_roundw
   case rel=>exact⟨j+1,by go_num,by omega,HF.out.1,HF.out.2.1,HF.out.2.2⟩
   case measure=>simp[intOf];omega
  ·have rX:j=n:=by omega
   subst rX;have htk:L.take j=L:=by rw[List.take_of_length_le];rw[HN.out];exact Nat.le_refl _
   rw[htk] at hmr;have HF:=zh (And.intro hmr st);clear hmr st o htk;have j1:¬ (j:Int)<(j:Int):=by omega
   go_wp2_with fail
   go_ret
   refine⟨rfl,HF.out.1,?_⟩;rw[nT];exact HF.out.2
theorem Q8 {m:Nat} {f:Nat→RS} {i:Int}:mg m (iR f (Tr.ak (mg m f) i))=Tr.iw (mg m f) i:=by
 funext x;by_cases hx:x<0
 ·have h1:∀ f':Nat→RS,mg m f' x=none:=fun f'=>by unfold mg;rw[if_neg];rintro⟨h,_⟩;omega
  unfold Tr.iw;rw[h1,h1];split<;>rfl
 ·obtain⟨j,rfl⟩:=Int.eq_ofNat_of_zero_le (by omega:0≤x);unfold Tr.iw;rw[jH,jH];unfold iR;by_cases hm:(j:Int)∈Tr.ak (mg m f) i
  ·rw[if_pos hm,if_pos hm,if_neg];rintro⟨_,h⟩;cases h
  ·rw[if_neg hm,if_neg hm]
theorem KD (base B:Nat) (b s root h:Int) (live n:Nat) (R:Int→Option Tr.Nd) (fr:List Nat) (vs vf:Value) (w:World) (hm:TV base w B b s vs n R vf fr live root) (hS:Sound b s n R fr live) (hh:gI h) (e1:R h=none):
  Calls Tryz.prog 44 #[.pointer (some ⟨B,0,none⟩),.int .i64 h] w fun e w'=>e=.returned (.int .i64 6)∧Below w.heap.size w w':=by
 have hA:=jX base B b s root h live n R fr vs vf w hm hS hh;rw[e1] at hA
 go_enter Tryz.func44,Tryz.ntmps44
 go_wp2_with fail;refine hA.mono ?_;rintro e w1 ⟨g,o,rfl,hnp,hb⟩;have c0:w1.cell? ⟨g,o,none⟩=some (.int .i64 0):=hnp.cells.1;clear hm hA hnp;go_wp2_with fail
 go_ret
 exact⟨rfl,hb⟩
theorem Ip (base B:Nat) (b s root h:Int) (live n:Nat) (g:Tr.G) (av:Int→Tr.Sl) (fr:List Nat) (vs vf:Value) (nd:Tr.GN) (w:World) (hm:TV base w B b s vs n (Tr.raw g av) vf fr live root) (hS:Sound b s n (Tr.raw g av) fr live) (eg:g h=some nd) (h0:nd.kind≠0) (hk:nd.kind=1∨nd.pa≠0):
  Calls Tryz.prog 44 #[.pointer (some ⟨B,0,none⟩),.int .i64 h] w fun e w'=>e=.returned (.int .i64 7)∧Below w.heap.size w w':=by
 have hA:=gW base B b s root h live n _ fr vs vf _ w hm hS (Tr.aj eg);have q0:(nd.kind == 0)=false:=cB h0;have HP:=zh (fun (W:World) (gb o:Nat) (hb:Below w.heap.size w W) (hpt:PtrTo b s vs n gb o h)=>show W.cell? ⟨gb,o,none⟩=some (.int .i64 nd.kind)∧W.cell? ⟨gb,o+4,none⟩=some (.int .i64 nd.pa) from
  have hc:=((hm.below hb).np hpt (Tr.aj eg)).cells
  ⟨hc.1,hc.2.2.2.2.1⟩)
 clear hm hS;by_cases h1:nd.kind=1
 ·clear hk q0
  go_enter Tryz.func44,Tryz.ntmps44
  go_wp2_with fail;refine hA.mono ?_;rintro e w1 ⟨gb,o,rfl,hpt,hb⟩;obtain⟨c0,c4⟩:=HP.out _ _ _ hb hpt;rw[h1] at c0;clear hA hpt HP;go_wp2_with fail
  go_ret
  exact⟨rfl,hb⟩
 ·have q1:(nd.kind == 1)=false:=cB h1;have q2:(nd.pa == 0)=false:=cB (hk.resolve_left h1)
  go_enter Tryz.func44,Tryz.ntmps44
  go_wp2_with fail;refine hA.mono ?_;rintro e w1 ⟨gb,o,rfl,hpt,hb⟩;obtain⟨c0,c4⟩:=HP.out _ _ _ hb hpt;clear hA hpt HP;go_wp2_with fail
  go_ret
  exact⟨rfl,hb⟩
theorem Q9 (base B:Nat) (b s root h:Int) (live n:Nat) (g:Tr.G) (av:Int→Tr.Sl) (fr:List Nat) (vs vf:Value) (nd:Tr.GN) (w:World) (hm:TV base w B b s vs n (Tr.raw g av) vf fr live root) (hS:Sound b s n (Tr.raw g av) fr live) (hw:Tr.WF 0 g) (hbs:base≤w.heap.size) (eg:g h=some nd) (h0:nd.kind≠0) (h1:nd.kind≠1) (hp:nd.pa=0) (zG:(Tr.ak g h).length≤100000):
  Calls Tryz.prog 44 #[.pointer (some ⟨B,0,none⟩),.int .i64 h] w fun e w'=>∃ (vs' dw:Value) (fr':List Nat) (L:Nat),e=.returned (.int .i64 0)∧TV base w' B b s vs' n (Tr.raw (Tr.iw g h) av) dw fr' L root∧Sound b s n (Tr.raw (Tr.iw g h) av) fr' L∧aB w w' (aD B vs vf) (aD B vs' dw):=by
 have hh:gI h:=(bH hS (h:=h) (by rw[Tr.aj eg];rfl)).1;have hA:=gW base B b s root h live n _ fr vs vf _ w hm hS (Tr.aj eg);have HE:=zh (hw.QE rfl eg hp av);have HND:=zh (hw.jV h);have XU:=zh (fun x (hx:x∈Tr.ak g h)=>hw.lY hx);have q0:(nd.kind == 0)=false:=cB h0;have q1:(nd.kind == 1)=false:=cB h1;have uJ:=zh hm.lt;have HC:=zh (fun (W:World) (hb:Below w.heap.size w W)=>N7 base B b s root h live n g av fr vs vf W (hm.below hb) hS hw hh zG);obtain⟨D,hD⟩:=eX (Tr.ak g h)
 rw[hD] at HE HND XU HC zG;obtain⟨N,hN⟩:=eX (D.length)
 rw[hN] at HC zG;have HN:=zh hN;have HM:=zh hm;have HS:=zh hS;have HP:=zh (fun (W:World) (gb o:Nat) (hb:Below w.heap.size w W) (hpt:PtrTo b s vs n gb o h)=>show W.cell? ⟨gb,o,none⟩=some (.int .i64 nd.kind)∧W.cell? ⟨gb,o+4,none⟩=some (.int .i64 0) from
  have hc:=((hm.below hb).np hpt (Tr.aj eg)).cells
  ⟨hc.1,by have:=hc.2.2.2.2.1;rw[show (Tr.dW g av h nd).pa=0 from hp] at this;exact this⟩)
 clear hm hS hw eg hp hD hN
 go_enter Tryz.func44,Tryz.ntmps44
 go_wp2_with fail;refine hA.mono ?_;rintro e w1 ⟨gb,o,rfl,hpt,hb⟩;obtain⟨c0,c4⟩:=HP.out _ _ _ hb hpt;have hWM:=wQ B h w1;have LK:=zh (HC.out w1 hb);clear hA hpt HP HC;go_wp2_with fail;refine hWM.mono ?_;rintro e w2 ⟨rfl,rfl⟩;clear hWM;go_wp2_with fail;refine LK.out.mono ?_;rintro e w3 ⟨v3,rfl,o3,hb3⟩;obtain⟨A3,c3,rfl⟩:=aF (aG o3);have pO:=hb.trans (hb3.mono hb.size);have hr3:=(TR.jP o3).lower hb.size;have HF0:=zh (fun k (hk:(Value.slice A3 N c3).ownBlock=some k)=>(hr3.lt k hk));have HR3:=zh hr3;have Vr:=zh (HM.out.below pO);have HB3:=zh pO;clear LK o3 hb3 hb hr3 c0 c4;go_wp2_with fail
 go_loopw [35] (fun u wr=>∃ (j:Nat) (vs' dw:Value) (fr':List Nat) (L:Nat),u=.int .i64 (j:Int)∧j≤N∧TV base wr B b s vs' n (Tr.oD (Tr.raw g av) (D.take j)) dw fr' L root∧Sound b s n (Tr.oD (Tr.raw g av) (D.take j)) fr' L∧TR wr w.heap.size 3 1 (.slice A3 N c3) N (ints D)∧aB w3 wr (aD B vs vf) (aD B vs' dw)) (fun u _=>N - (intOf u).toNat)
 case atStart=>exact⟨0,vs,vf,fr,live,rfl,Nat.zero_le _,by rw[List.take_zero,Tr.Ec];exact Vr.out,by rw[List.take_zero,Tr.Ec];exact HS.out,HR3.out,.of_below (Below.refl _ _)⟩
 case round=>
  obtain⟨j,vs1,Ur,OA,L1,rfl,hj,hmr,hsr,o,st⟩:=hrel;have j0:(0:Int)≤(j:Int):=by omega
  by_cases hjn:j<N
  ·have j1:(j:Int)<(N:Int):=by omega
   obtain⟨k,hk⟩:∃ k,D[j]?=some k:=⟨D[j]'(by rw[HN.out];exact hjn),by simp⟩
   obtain⟨ga,oa,rfl,hga,-,hcs,-⟩:=o.cells (by omega);have ck:=hcs j _ (by omega) (eu hk);have hkD:k∈D:=List.mem_of_getElem? hk;have hkt:k∉D.take j:=fun hm'=>by
    have h8:=HND.out.sublist (List.take_sublist (j+1) D);rw[List.take_add_one,hk] at h8;exact (List.nodup_append.1 h8).2.2 _ hm' _ (by simp) rfl
   obtain⟨d,hd⟩:∃ d,Tr.oD (Tr.raw g av) (D.take j) k=some d:=by
    rw[Tr.NV hkt];obtain⟨m',hm'⟩:=Option.isSome_iff_exists.1 (XU.out k hkD);exact⟨_,Tr.aj hm'⟩
   have hlo:=hmr.low;have ab2:w.heap.size≤wr.heap.size:=Nat.le_trans HB3.out.size st.1.size;have hdr:=ML base B b s root k L1 n _ OA vs1 Ur d wr hmr hsr (by omega) hd;have htk:D.take (j+1)=D.take j++[k]:=by rw[List.take_add_one,hk];rfl
   have Lj:=zh (show Tr.pJ (Tr.oD (Tr.raw g av) (D.take j)) k none=Tr.oD (Tr.raw g av) (D.take (j+1)) from by rw[htk,Tr.Kr]);have HSD:=zh (fun (i L:Nat) (hi:i<n) (e1:Ar.hdl b s (i:Int)=k) (e2:L1=L+1)=>show Sound b s n (Tr.pJ (Tr.oD (Tr.raw g av) (D.take j)) k none) (OA++[i]) L from by
    obtain⟨L',e3,e4⟩:=hsr.drop (by rw[hd];rfl) hi e1;obtain rfl:L'=L:=by omega
    exact e4)
   have HO:=zh o;have HST:=zh st;have HNF:=zh (st.apart (G:=fun k=>(Value.slice (some ⟨ga,oa,none⟩) N c3).ownBlock=some k) (fun k hk=>(HR3.out.lt k hk).2) (fun k hk hf=>by have h1:=(HF0.out k hk).1;have h2:=(uJ.out k hf).2;omega));clear hmr hsr o st hk hkD hkt hd htk hcs;go_wp2_with fail;refine hdr.mono ?_;rintro e w5 ⟨i,L,vs2,Xz,rfl,hi,hie,VU,hm2,st2⟩;have hs2:=HSD.out i L hi hie VU;rw[Lj.out] at hm2 hs2;have HF:=zh (And.intro hm2 (And.intro hs2 (And.intro (HO.out.turns st2.1 HNF.out) (HST.out.trans st2))));clear hdr hm2 hs2 st2;go_wp2_with fail
   go_roundw
   case rel=>exact⟨j+1,vs2,Xz,OA++[i],L,by go_num,by omega,HF.out.1,HF.out.2.1,HF.out.2.2.1,HF.out.2.2.2⟩
   case measure=>simp[intOf];omega
  ·have rX:j=N:=by omega
   subst rX;have htk:D.take j=D:=by rw[List.take_of_length_le];rw[HN.out];exact Nat.le_refl _
   rw[htk,HE.out] at hmr hsr;have HF:=zh (And.intro hmr (And.intro hsr ((aB.of_below (F:=aD B vs vf) HB3.out).trans st)));clear hmr hsr st o htk;have j1:¬ (j:Int)<(j:Int):=by omega
   go_wp2_with fail
   go_ret
   exact⟨rfl,vs1,Ur,OA,L1,HF.out.1,HF.out.2.1,HF.out.2.2⟩
theorem wY:(Tryz.prog.info? 75).map (fun i=>(i.zero,i.size,i.bytes))=some (some (.agg #[.int .i64 0,.string ⟨#[]⟩,.slice none 0 0,.string ⟨#[]⟩,.int .i64 0,.slice none 0 0,.bool false]),7,104):=by kernel_rfl
theorem BO (base M m:Nat) (vs vA:Value) (f:Nat→RS) (k:Int) (nm dt:ByteArray) (w:World) (H:MV base w M vs m f) (hk:k≠2) (hbase:base≤w.heap.size) (hm:m≤100000) (hs:dt.size≤6000):
  Calls Tryz.prog 31 #[.pointer (some ⟨M,0,none⟩),.int .i64 k,.string nm,.string dt,vA] w fun e w'=>∃ vs',e=.returned (.int .i64 0)∧MV base w' M vs' (m+1) (gZ m f ⟨k,⟨#[]⟩,⟨none,0,0⟩,[],aZ dt,-1,⟨none,0,0⟩,[],false⟩)∧aB w w' (aC M vs m f) (aC M vs' (m+1) (gZ m f ⟨k,⟨#[]⟩,⟨none,0,0⟩,[],aZ dt,-1,⟨none,0,0⟩,[],false⟩)):=by
 obtain⟨i0,hi0,hz0,hz1,hz2⟩:=info_parts wY;obtain⟨A,c,rfl⟩:=H.form;obtain⟨w1,hw1⟩:=eX (w.alloc (.cells #[.int .i64 k,.string ⟨#[]⟩,.slice none 0 0,.string ⟨#[]⟩,.int .i64 (-1),.slice none 0 0,.bool false] 75))
 have hb1:Below w.heap.size w w1:=fI hw1;have hX1:Whole w1 w.heap.size #[.int .i64 k,.string ⟨#[]⟩,.slice none 0 0,.string ⟨#[]⟩,.int .i64 (-1),.slice none 0 0,.bool false] 75:=by rw[←hw1];exact Whole.new w _ _
 have q2:(k == 2)=false:=cB hk;have hR:=kC dt w1 (by omega);obtain⟨rv,mW⟩:=eX (aZ dt)
 rw[show fB (bB.rep dt.data.toList)=rv from mW] at hR;rw[mW];have HR:=zh hR;have fQ:=zh hX1;have HB1:=zh hb1;have HW1:=zh hw1;have HM:=zh (fun (W:World) (hb:Below w.heap.size w W)=>H.below hb);have YL:M<w.heap.size:=H.var.lt;have V4:=zh (fun x (hx:(Value.slice A m c).ownBlock=some x)=>(H.lt x (Or.inr (Or.inl hx))).2);clear hR hX1 hb1 hw1 H mW hs
 go_enter Tryz.func31,Tryz.ntmps31
 go_wp2_with fail;rw[HW1.out];refine HR.out.mono ?_;rintro e w2 ⟨rfl,hb2⟩;have hX2:=fQ.out.below hb2 fQ.out.lt;have dV:=HB1.out.trans (hb2.mono HB1.out.size);have y3:w2.cell? ⟨w.heap.size,3,none⟩=some (.string ⟨#[]⟩):=hX2.cell 3;have f3:=hX2.free 3;obtain⟨w4,hw4⟩:=eX (w2.setCell ⟨w.heap.size,3,none⟩ (.string rv))
 have bI:Whole w4 w.heap.size #[.int .i64 k,.string ⟨#[]⟩,.slice none 0 0,.string rv,.int .i64 (-1),.slice none 0 0,.bool false] 75:=by rw[←hw4];exact hX2.put 3 (.string rv)
 have g4:w2.grownBy w4 (some w.heap.size):=by rw[←hw4];exact aJ (ay (Below.refl w2.heap.size w2) _) _ _
 have bU:=dV.grown g4 dV.size (fun j hj=>by simp at hj;omega);have EP:=HM.out w4 bU;have c0:w4.cell? ⟨M,0,none⟩=some (.slice A m c):=EP.var.cell 0;have z0:=EP.var.free 0;have x0:w4.cell? ⟨w.heap.size,0,none⟩=some (.int .i64 k):=bI.cell 0;have x1:w4.cell? ⟨w.heap.size,1,none⟩=some (.string ⟨#[]⟩):=bI.cell 1;have x2:w4.cell? ⟨w.heap.size,2,none⟩=some (.slice none 0 0):=bI.cell 2;have x3:w4.cell? ⟨w.heap.size,3,none⟩=some (.string rv):=bI.cell 3;have x4:w4.cell? ⟨w.heap.size,4,none⟩=some (.int .i64 (-1)):=bI.cell 4;have x5:w4.cell? ⟨w.heap.size,5,none⟩=some (.slice none 0 0):=bI.cell 5;have x6:w4.cell? ⟨w.heap.size,6,none⟩=some (.bool false):=bI.cell 6;obtain⟨w5,fE⟩:=eX (w4.drew.alloc (.cells #[.int .i64 k,.string ⟨#[]⟩,.slice none 0 0,.string rv,.int .i64 (-1),.slice none 0 0,.bool false] 75))
 have eZ:Below w4.heap.size w4 w5:=by rw[←fE];exact (bf _ w4).alloc (Nat.le_refl _) _
 have dM:=bI.below eZ bI.lt;have Rv:=EP.below eZ;have c5:w5.cell? ⟨M,0,none⟩=some (.slice A m c):=Rv.var.cell 0;have z5:=Rv.var.free 0;have hsrc:w5.ownsRow w4.heap.size 75 7 (.slice (some ⟨w4.heap.size,0,none⟩) 1 1) 1 [.int .i64 k,.string ⟨#[]⟩,.slice none 0 0,.string rv,.int .i64 (-1),.slice none 0 0,.bool false]:=by
  rw[←fE];exact World.ownsRow_lit (base:=w4.heap.size) (e:=75) (size:=7) w4.drew #[.int .i64 k,.string ⟨#[]⟩,.slice none 0 0,.string rv,.int .i64 (-1),.slice none 0 0,.bool false] 1 (Nat.le_refl _) (by unfold maxLen;omega) rfl
 have Wn:base≤w5.heap.size:=by have:=eZ.size;have:=bU.size;omega
 have Lp:=zh (show w4.drew.cell? ⟨w.heap.size,0,none⟩=some (.int .i64 k)∧w4.drew.cell? ⟨w.heap.size,1,none⟩=some (.string ⟨#[]⟩)∧w4.drew.cell? ⟨w.heap.size,2,none⟩=some (.slice none 0 0)∧w4.drew.cell? ⟨w.heap.size,3,none⟩=some (.string rv)∧w4.drew.cell? ⟨w.heap.size,4,none⟩=some (.int .i64 (-1))∧w4.drew.cell? ⟨w.heap.size,5,none⟩=some (.slice none 0 0)∧w4.drew.cell? ⟨w.heap.size,6,none⟩=some (.bool false) from⟨bI.cell 0,bI.cell 1,bI.cell 2,bI.cell 3,bI.cell 4,bI.cell 5,bI.cell 6⟩);have JI:=zh (show w5.cell? ⟨w.heap.size,0,none⟩=some (.int .i64 k)∧w5.cell? ⟨w.heap.size,1,none⟩=some (.string ⟨#[]⟩)∧w5.cell? ⟨w.heap.size,2,none⟩=some (.slice none 0 0)∧w5.cell? ⟨w.heap.size,3,none⟩=some (.string rv)∧w5.cell? ⟨w.heap.size,4,none⟩=some (.int .i64 (-1))∧w5.cell? ⟨w.heap.size,5,none⟩=some (.slice none 0 0)∧w5.cell? ⟨w.heap.size,6,none⟩=some (.bool false) from⟨dM.cell 0,dM.cell 1,dM.cell 2,dM.cell 3,dM.cell 4,dM.cell 5,dM.cell 6⟩);have iJ:=zh dM;have Te:=zh EP;have yT:=zh bU;have JJ:=zh eZ;have xq:=Rv.row;clear hX2 bI dM g4 dV hb2 EP bU eZ HR;go_wp2_with fail;(try rw[hw4]);(try go_wp2_with fail);refine wp_region_noPanic ?_;refine wp_region_held_drew (S:=(fun W=>W.cell? ⟨w.heap.size,0,none⟩=some (.int .i64 k)∧W.cell? ⟨w.heap.size,1,none⟩=some (.string ⟨#[]⟩)∧W.cell? ⟨w.heap.size,2,none⟩=some (.slice none 0 0)∧W.cell? ⟨w.heap.size,3,none⟩=some (.string rv)∧W.cell? ⟨w.heap.size,4,none⟩=some (.int .i64 (-1))∧W.cell? ⟨w.heap.size,5,none⟩=some (.slice none 0 0)∧W.cell? ⟨w.heap.size,6,none⟩=some (.bool false))) (by kernel_rfl) ?_ (fun ah=>?_)
 ·exact Lp.out
 refine bn [0,1,2,3,5] ?_;iterate 5 (refine jf ?_;try simp only[pS])
 refine bq ?_;apply Dh
 ·intro KEY;refine zQ 4 6 (fun K hK=>?_) fun K hK=>?_
  ·go_simp;refine hK.out _ _ (Lp.out) fun ah=>?_;clear hK K;(try simp only[pS]);refine bG 6 fun K hK=>?_;go_simp;(try rw[fE]);refine hK.out _ _ (JI.out) fun ah=>?_;clear hK K;(try simp only[pS]);exact KEY
  ·go_simp;(try rw[fE]);refine hK.out _ _ (JI.out) fun ah=>?_;clear hK K;(try simp only[pS]);refine bG 4 fun K hK=>?_;go_simp;refine hK.out _ _ (JI.out) fun ah=>?_;clear hK K;(try simp only[pS]);exact KEY
 refine bG 7 fun K hK=>?_;refine fZ rfl _ _ 70 rfl base w4.heap.size 75 i0 (.agg #[.int .i64 0,.string ⟨#[]⟩,.slice none 0 0,.string ⟨#[]⟩,.int .i64 0,.slice none 0 0,.bool false]) 7 104 Tryz.underlying70 hi0 hz0 hz1 hz2 rfl (by decide) _ m (bW qO m f) rfl xq _ 1 [.int .i64 k,.string ⟨#[]⟩,.slice none 0 0,.string rv,.int .i64 (-1),.slice none 0 0,.bool false] rfl hsrc ?c3 ?c4 ?c5 Wn ?_
 case c3=>exact sW ⟨k,⟨#[]⟩,⟨none,0,0⟩,[],rv,-1,⟨none,0,0⟩,[],false⟩
 case c4=>unfold maxLen;omega
 case c5=>omega
 intro v6 w6 o6 g6 f6;obtain⟨A6,c6,rfl⟩:=aF (aG o6);have hpush:=Te.out.push (x:=⟨k,⟨#[]⟩,⟨none,0,0⟩,[],rv,-1,⟨none,0,0⟩,[],false⟩) JJ.out g6 o6 f6 rfl rfl (TR.nil _ _ _ _);obtain⟨v6,qM,yP⟩:=hpush;have k6:w6.cell? ⟨M,0,none⟩=some (.slice A m c):=v6.cell 0;have k6f:=v6.free 0;have gL:=iJ.out.grown g6 (fun e=>by have:=V4.out _ e.symm;omega);obtain⟨w7,hw7⟩:=eX (w6.setCell ⟨M,0,none⟩ (.slice A6 (m+1) c6))
 rw[hw7] at qM yP;have aL:Whole w7 w.heap.size #[.int .i64 k,.string ⟨#[]⟩,.slice none 0 0,.string rv,.int .i64 (-1),.slice none 0 0,.bool false] 75:=by rw[←hw7];exact gL.other (by show w.heap.size≠M;omega) _
 have UL:=(⟨gL.cell 0,gL.cell 1,gL.cell 2,gL.cell 3,gL.cell 4,gL.cell 5,gL.cell 6⟩:w6.cell? ⟨w.heap.size,0,none⟩=some (.int .i64 k)∧w6.cell? ⟨w.heap.size,1,none⟩=some (.string ⟨#[]⟩)∧w6.cell? ⟨w.heap.size,2,none⟩=some (.slice none 0 0)∧w6.cell? ⟨w.heap.size,3,none⟩=some (.string rv)∧w6.cell? ⟨w.heap.size,4,none⟩=some (.int .i64 (-1))∧w6.cell? ⟨w.heap.size,5,none⟩=some (.slice none 0 0)∧w6.cell? ⟨w.heap.size,6,none⟩=some (.bool false))
 have vg:=(⟨aL.cell 0,aL.cell 1,aL.cell 2,aL.cell 3,aL.cell 4,aL.cell 5,aL.cell 6⟩:w7.cell? ⟨w.heap.size,0,none⟩=some (.int .i64 k)∧w7.cell? ⟨w.heap.size,1,none⟩=some (.string ⟨#[]⟩)∧w7.cell? ⟨w.heap.size,2,none⟩=some (.slice none 0 0)∧w7.cell? ⟨w.heap.size,3,none⟩=some (.string rv)∧w7.cell? ⟨w.heap.size,4,none⟩=some (.int .i64 (-1))∧w7.cell? ⟨w.heap.size,5,none⟩=some (.slice none 0 0)∧w7.cell? ⟨w.heap.size,6,none⟩=some (.bool false))
 have bC:=zh (And.intro qM ((aB.of_below yT.out).trans yP));clear qM yP aL gL o6 g6 f6 v6;refine hK.out _ _ (UL) fun ah=>?_;clear hK K;(try simp only[pS]);refine bn [8,9] ?_;iterate 2 (refine jf ?_;try simp only[pS])
 refine bq ?_;refine bG 10 fun K hK=>?_;go_simp;(try rw[hw7]);refine hK.out _ _ (vg) fun ah=>?_;clear hK K;(try simp only[pS]);refine eY ?_;go_wp2_with fail
 go_ret
 exact⟨_,rfl,bC.out.1,bC.out.2⟩
theorem KE (M:Nat) (vA:Value) (nm dt:ByteArray) (w:World) (hs:nm.size≤10000) (he:Nm.elem nm=false):
  Calls Tryz.prog 31 #[.pointer (some ⟨M,0,none⟩),.int .i64 2,.string nm,.string dt,vA] w fun e w'=>e=.returned (.int .i64 1)∧Below w.heap.size w w':=by
 obtain⟨w1,hw1⟩:=eX (w.alloc (.cells #[.int .i64 2,.string ⟨#[]⟩,.slice none 0 0,.string ⟨#[]⟩,.int .i64 (-1),.slice none 0 0,.bool false] 75))
 have hb1:Below w.heap.size w w1:=fI hw1;have hR:=vR nm w1 hs;rw[he] at hR;have HR:=zh hR;have HB1:=zh hb1;have HW1:=zh hw1;clear hR hb1 hw1
 go_enter Tryz.func31,Tryz.ntmps31
 go_wp2_with fail;rw[HW1.out];refine HR.out.mono ?_;rintro e w2 ⟨rfl,hb2⟩;have hbF:=HB1.out.trans (hb2.mono HB1.out.size);have TL:=zh hbF;clear hb2 hbF HR;go_wp2_with fail
 go_ret
 exact⟨rfl,TL.out⟩
structure qp where
 kind:Int
 a:Int
 b:Int
 c:Int
 s:ByteArray
 t:ByteArray
 n:Int
 k:Int
def abv (o:qp):List Value:=[.int .u8 o.kind,.int .u8 o.a,.int .u8 o.b,.int .u8 o.c,.string o.s,.string o.t,.int .i8 o.n,.int .i8 o.k]
def JY (w:World) (v:Value) (n:Nat) (F:Nat→qp):Prop:=∃ A c,v=.slice A n c∧(0<n→∃ g o,A=some ⟨g,o,none⟩∧∀ i j u,i<n→(abv (F i))[j]?=some u→w.cell? ⟨g,o+i*8+j,none⟩=some u)
theorem JY.below {w w':World} {v:Value} {n:Nat} {F:Nat→qp} (h:JY w v n F) (hb:Below w.heap.size w w'):JY w' v n F:=by
 obtain⟨A,c,rfl,h2⟩:=h;refine⟨A,c,rfl,fun hn=>?_⟩;obtain⟨g,o,hA,h3⟩:=h2 hn;refine⟨g,o,hA,fun i j u hi hu=>?_⟩;have h4:=h3 i j u hi hu;exact (hb.cell (p:=⟨g,o+i*8+j,none⟩) (World.block_lt_of_cell? w _ h4)).trans h4
def abw (n:Nat) (F:Nat→qp) (w:World) (e:Ending) (w':World):Prop:=∃ r:Bool,e=.returned (.bool r)∧w'=w∧(r=true→n≤60∧∀ i,i<n→(F i).s.size≤40∧(F i).t.size≤40)
theorem Sy (v:Value) (n:Nat) (F:Nat→qp) (w:World) (H:JY w v n F) (hn:n≤9223372036854775807):
  Calls Tryz.prog 5 #[v] w fun e w'=>abw n F w e w':=by
 obtain⟨A,c,rfl,hc⟩:=H;have HC:=zh hc;clear hc
 go_enter Tryz.func5,Tryz.ntmps5
 go_wp2_with fail
 go_loopw [3] (fun u wr=>∃ j:Nat,u=.int .i64 (j:Int)∧j≤n∧wr=w∧∀ i,i<j→(F i).s.size≤40∧(F i).t.size≤40) (fun u _=>n - (intOf u).toNat)
 case atStart=>exact⟨0,rfl,Nat.zero_le _,rfl,fun i hi=>absurd hi (Nat.not_lt_zero _)⟩
 case round=>
  obtain⟨j,rfl,hj,rfl,hall⟩:=hrel;have wZ:=zh hall;clear hall;have j0:(0:Int)≤(j:Int):=by omega
  by_cases hjn:j<n
  ·have j1:(j:Int)<(n:Int):=by omega
   obtain⟨g,o,rfl,hcell⟩:=HC.out (by omega);have c4:=hcell j 4 _ hjn rfl;have c5:=hcell j 5 _ hjn rfl;clear hcell;by_cases h1:(40:Int)<((F j).s.size:Int)
   ·go_wp2_with fail
    go_ret
    exact⟨false,rfl,rfl,fun h=>by cases h⟩
   ·by_cases h2:(40:Int)<((F j).t.size:Int)
    ·go_wp2_with fail
     go_ret
     exact⟨false,rfl,rfl,fun h=>by cases h⟩
    ·go_wp2_with fail
     go_roundw
     case rel=>exact⟨j+1,by go_num,by omega,by trivial,fun i hi=>by
      by_cases e:i=j
      ·subst e;omega
      ·exact wZ.out i (by omega)⟩
     case measure=>simp[intOf];omega
  ·have rX:j=n:=by omega
   subst rX;have j1:¬ (j:Int)<(j:Int):=by omega
   go_wp2_with fail
   go_ret
   exact⟨decide ((j:Int)≤60),rfl,rfl,fun h=>⟨by have:=of_decide_eq_true h;omega,wZ.out⟩⟩
end
section
open Go Go.RowKit
abbrev zL3 (T B M gh oh m ch:Nat) (W:World):Prop:=W.cell? ⟨T,0,none⟩=some (.pointer (some ⟨B,0,none⟩))∧W.cell? ⟨T,1,none⟩=some (.pointer (some ⟨M,0,none⟩))∧W.cell? ⟨T,2,none⟩=some (.slice (some ⟨gh,oh,none⟩) m ch)
abbrev Iq (T B M gh oh m ch X:Nat) (o:qp) (W:World):Prop:=W.cell? ⟨T,0,none⟩=some (.pointer (some ⟨B,0,none⟩))∧W.cell? ⟨T,1,none⟩=some (.pointer (some ⟨M,0,none⟩))∧W.cell? ⟨T,2,none⟩=some (.slice (some ⟨gh,oh,none⟩) m ch)∧W.cell? ⟨X,4,none⟩=some (.string o.s)∧W.cell? ⟨X,5,none⟩=some (.string o.t)
abbrev jw (T B M gh oh m ch X ia:Nat) (h:Int) (o:qp) (W:World):Prop:=W.cell? ⟨T,0,none⟩=some (.pointer (some ⟨B,0,none⟩))∧W.cell? ⟨T,1,none⟩=some (.pointer (some ⟨M,0,none⟩))∧W.cell? ⟨T,2,none⟩=some (.slice (some ⟨gh,oh,none⟩) m ch)∧W.cell? ⟨gh,oh+ia,none⟩=some (.int .i64 h)∧W.cell? ⟨X,4,none⟩=some (.string o.s)∧W.cell? ⟨X,5,none⟩=some (.string o.t)∧W.cell? ⟨X,6,none⟩=some (.int .i8 o.n)∧W.cell? ⟨X,7,none⟩=some (.int .i8 o.k)
abbrev BZ (T B M gh oh m ch X ia:Nat) (h:Int) (o:qp) (ib:Nat) (p:Int) (W:World):Prop:=W.cell? ⟨T,0,none⟩=some (.pointer (some ⟨B,0,none⟩))∧W.cell? ⟨T,1,none⟩=some (.pointer (some ⟨M,0,none⟩))∧W.cell? ⟨T,2,none⟩=some (.slice (some ⟨gh,oh,none⟩) m ch)∧W.cell? ⟨gh,oh+ia,none⟩=some (.int .i64 h)∧W.cell? ⟨X,4,none⟩=some (.string o.s)∧W.cell? ⟨X,5,none⟩=some (.string o.t)∧W.cell? ⟨X,6,none⟩=some (.int .i8 o.n)∧W.cell? ⟨X,7,none⟩=some (.int .i8 o.k)∧W.cell? ⟨gh,oh+ib,none⟩=some (.int .i64 p)
/-- An operation of the law as it lies in memory. -/
abbrev zOp (o:qp):Array Value:=#[.int .u8 o.kind,.int .u8 o.a,.int .u8 o.b,.int .u8 o.c,.string o.s,.string o.t,.int .i8 o.n,.int .i8 o.k]
end
section
open Go.RowKit
theorem FB (base M m:Nat) (vs:Value) (f:Nat→RS) (p h:Nat) (c:Int) (w:World) (H:MV base w M vs m f) (hw:Tr.WF (-1) (mg m f)) (hpm:p<m) (hpg:(f p).gone=false) (hhm:h<m) (JK:(f 0).gone=false) (hm:m≤100000)
  (hno:jR m f p h=false∨∃ j:Nat,c=(j:Int)∧j<m∧(f j).pa≠(p:Int)):
  Calls Tryz.prog 34 #[.pointer (some ⟨M,0,none⟩),.int .i64 (p:Int),.int .i64 (h:Int),.int .i64 c] w fun e w'=>e=.returned (nW 10)∧w'=w:=by
 obtain⟨A,c0,rfl⟩:=H.form;obtain⟨g,rfl,-⟩:=H.read hpm;have hCH:=uT base M m _ f p h w H hw hpm hpg hhm JK hm;obtain⟨k0,-⟩:=H.rd hpm;cases hch:jR m f p h with
 | false=>
  rw[hch] at hCH;have sG:=zh hCH;clear H hw hno hCH hch
  go_enter Tryz.func34,Tryz.ntmps34
  go_wp2_with fail;refine nO sG.out ?_;clear sG;go_wp2_with fail;go_ret2;exact⟨rfl,rfl⟩
 | true=>
  obtain⟨j,rfl,hj,hjp⟩:∃ j:Nat,c=(j:Int)∧j<m∧(f j).pa≠(p:Int):=by
   rcases hno with e | e
   ·rw[hch] at e;cases e
   ·exact e
  rw[hch] at hCH;have sG:=zh hCH;obtain⟨-,-,-,-,-,c4,-⟩:=H.rd hj;obtain⟨x,hx⟩:=eX ((f j).pa)
  rw[hx] at c4 hjp;have q0:(0:Int)≤(j:Int):=by omega
  have q1:(j:Int)<(m:Int):=by omega
  have q2:(x != (p:Int))=true:=bne_true hjp;clear H hw hno hCH hch hx hjp
  go_enter Tryz.func34,Tryz.ntmps34
  go_wp2_with fail;refine nO sG.out ?_;clear sG;go_wp2_with fail;go_ret2;exact⟨rfl,rfl⟩
theorem CO (base M m:Nat) (vs:Value) (f:Nat→RS) (p h:Nat) (c:Int) (w:World) (H:MV base w M vs m f) (hw:Tr.WF (-1) (mg m f)) (hpm:p<m) (hpg:(f p).gone=false) (hhm:h<m) (wM:(f h).gone=false) (JK:(f 0).gone=false) (hm:m≤100000)
  (hch:jR m f p h=true) (hc:c = -1∨∃ j:Nat,c=(j:Int)∧j<m∧(f j).pa=(p:Int)) (hlim:128<(Tr.aS (mg m f) (p:Int)).length+Tr.gM (mg m f) (h:Int)):
  Calls Tryz.prog 34 #[.pointer (some ⟨M,0,none⟩),.int .i64 (p:Int),.int .i64 (h:Int),.int .i64 c] w fun e w'=>e=.returned (nW 5)∧w'=w:=by
 obtain⟨A,c0,rfl⟩:=H.form;obtain⟨g,rfl,-⟩:=H.read hpm;have hup:=(hw.cu (p:Int)).2;have Xe:=hw.qz (h:Int);obtain⟨dp,hdp⟩:=eX ((Tr.aS (mg m f) (p:Int)).length)
 obtain⟨ht,hht⟩:=eX (Tr.gM (mg m f) (h:Int))
 have sG:=zh (uT base M m _ f p h w H hw hpm hpg hhm JK hm);rw[hch] at sG;have Sd:=zh (Ay base M m _ f (p:Int) w H hw (.inr (by rw[jm hpm,hpg];rfl)) hm);have Gg:=zh (yu base M m _ f hw hm (h:Int) (by rw[jm hhm,wM];rfl) w H);rw[hdp] at Sd hlim hup;rw[hht] at Gg hlim Xe;have YS:(128:Int)<(dp:Int)+(ht:Int):=by omega
 have ab3:ht≤129:=by omega
 obtain⟨k0,-⟩:=H.rd hpm;rcases hc with rfl | ⟨j,rfl,hj,hjp⟩
 ·clear H hw hch hdp hht Xe hlim
  go_enter Tryz.func34,Tryz.ntmps34
  go_wp2_with fail;refine nO sG.out ?_;go_wp2_with fail;refine nO Sd.out ?_;go_wp2_with fail;refine nO Gg.out ?_;clear sG Sd Gg;go_wp2_with fail;go_ret2;exact⟨rfl,rfl⟩
 ·obtain⟨-,-,-,-,-,c4,-⟩:=H.rd hj;rw[hjp] at c4;have q0:(0:Int)≤(j:Int):=by omega
  have q1:(j:Int)<(m:Int):=by omega
  clear H hw hch hdp hht Xe hlim hjp
  go_enter Tryz.func34,Tryz.ntmps34
  go_wp2_with fail;refine nO sG.out ?_;go_wp2_with fail;refine nO Sd.out ?_;go_wp2_with fail;refine nO Gg.out ?_;clear sG Sd Gg;go_wp2_with fail;go_ret2;exact⟨rfl,rfl⟩
end
section
open Go.RowKit
def Ux (base M m nb:Nat) (vs:Value) (f:Nat→RS) (i:Nat) (q:Int) (w W:World):Prop:=
 ∃ vs' sl,MV base W M vs' (m+1) (gZ m f ⟨(f i).kind,(f i).name,sl,(f i).at',(f i).data,q,⟨none,0,0⟩,[],false⟩)∧aB w W (aC M vs m f) (aC M vs' (m+1) (gZ m f ⟨(f i).kind,(f i).name,sl,(f i).at',(f i).data,q,⟨none,0,0⟩,[],false⟩))∧Whole W nb #[.int .i64 (f i).kind,.string (f i).name,.slice (f i).a.a (f i).at'.length (f i).a.c,.string (f i).data,.int .i64 (f i).pa,.slice (f i).k.a (f i).kids.length (f i).k.c,.bool (f i).gone] 75∧¬ aC M vs' (m+1) (gZ m f ⟨(f i).kind,(f i).name,sl,(f i).at',(f i).data,q,⟨none,0,0⟩,[],false⟩) nb
section
variable {base M m nb:Nat} {vs:Value} {f:Nat→RS} {i:Nat} {q:Int} {F:Nat} {w W W':World}
theorem Ir (hi:i<m) (hg:(f i).gone=false) {sl:Tr.Sl} {fj:Nat→RS} (h0:Gz m f fj q (m:Int)) (hm:fj m=⟨(f i).kind,(f i).name,sl,(f i).at',(f i).data,q,⟨none,0,0⟩,[],false⟩):
  Tr.vD (-1) (mg m f) (Cr (mg m f) q (m:Int)) (jZ (f i)) F (m:Int) q (mg (m+1+0) fj) [] [] [] (oN (m+1) 0):=by
 have e0:oN (m+1) 0=[]:=rfl;rw[e0];refine Tr.vD.start ?_ ?_ (by omega) fun z hz=>h0.tree (k:=1) z fun hm=>?_
 ·show mg (m+1) fj (m:Int)=_;rw[aM (by omega) (by rw[hm]),hm];rfl
 ·rw[jH,if_neg (fun h=>by omega)]
 ·obtain⟨j,rfl,h1,h2⟩:=nQ.1 hm;exact hz (by omega)
theorem Ux.start (H:Ux base M m nb vs f i (-1) w W) (hi:i<m) (hg:(f i).gone=false):Gl base M m nb vs f i (-1) F w [] W:=by
 obtain⟨vs',sl,h1,h2,h3,h4⟩:=H;have hO:Gz m f (gZ m f ⟨(f i).kind,(f i).name,sl,(f i).at',(f i).data,-1,⟨none,0,0⟩,[],false⟩) (-1) (m:Int):=⟨fun j hj _=>dY hj,fun j hj e=>by omega⟩
 refine⟨vs',0,_,[],[],h1,h2,hO,?_,Ir hi hg hO dO,h3,h4⟩;intro j e1 e2;have e:j=m:=by omega
 rw[e,dO]
theorem Gl.reads {pre:List Int} (H:Gl base M m nb vs f i q F w pre W) (hi:i<m) (hq:(i:Int)≠q):W.cell? ⟨nb,5,none⟩=some (.slice (f i).k.a (f i).kids.length (f i).k.c)∧∀ j k,(f i).kids[j]?=some k→∃ g o,(f i).k.a=some ⟨g,o,none⟩∧W.cell? ⟨g,o+j,none⟩=some (.int .i64 k):=by
 obtain⟨vs',k,fj,ys,l,h1,h2,h3,h4,h5,h6,h7⟩:=H;refine⟨h6.cell 5,fun j k hk=>?_⟩;have hr:=h1.kr i (by omega);rw[h3.1 i hi hq] at hr;have hlt:=(List.getElem?_eq_some_iff.1 hk).1;obtain⟨A,c,e⟩:=hr.form;rw[e] at hr;obtain⟨g,o,hA,_,_,hc,_⟩:=hr.cells (by omega);refine⟨g,o,?_,hc j _ (by omega) (eu hk)⟩;unfold Tr.Sl.v at e;injection e with e1 e2 e3;rw[e1,hA]
theorem Gl.final (H:Gl base M m nb vs f i q F w (f i).kids W) (hi:i<m) (hg:(f i).gone=false) (u:Value):YJ base M m vs f (i:Int) q (F+1) w (.returned u) W:=by
 obtain⟨vs',k,fj,ys,l,h1,h2,h3,h4,h5,h6,h7⟩:=H;have e:m+(k+1)=m+1+k:=by omega
 have hf:=h5.finish (h:=(i:Int)) (aM hi hg);refine⟨u,vs',k+1,fj,rfl,by rw[e];exact h1,by rw[e];exact h2,h3,fun j h1 h2=>h4 j h1 (by omega),?_⟩;rw[e,DK,(Tr.Cp.walks (F+1) (F+1) hf (Nat.le_refl _)).1];exact hf
end
theorem Ux.kid {base M m nb p:Nat} {vs:Value} {f f1:Nat→RS} {i:Nat} {F:Nat} {w W w2:World} {g1 c1:Nat} {sl1 sl:Tr.Sl} (hi:i<m) (hg:(f i).gone=false) (hp:p<m) (hpg:(f p).gone=false)
  (h1:MV base W M (.slice (some ⟨g1,0,none⟩) (m+1) c1) (m+1) f1) (hf1:f1=gZ m f ⟨(f i).kind,(f i).name,sl1,(f i).at',(f i).data,(p:Int),⟨none,0,0⟩,[],false⟩) (h2:aB w W (aC M vs m f) (aC M (.slice (some ⟨g1,0,none⟩) (m+1) c1) (m+1) f1))
  (h3:Whole W nb #[.int .i64 (f i).kind,.string (f i).name,.slice (f i).a.a (f i).at'.length (f i).a.c,.string (f i).data,.int .i64 (f i).pa,.slice (f i).k.a (f i).kids.length (f i).k.c,.bool (f i).gone] 75) (h4:¬ aC M (.slice (some ⟨g1,0,none⟩) (m+1) c1) (m+1) f1 nb)
  (k1:MV base w2 M (.slice (some ⟨g1,0,none⟩) (m+1) c1) (m+1) (aX f1 p fun n=>{ n with k:=sl,kids:=(f p).kids++[(m:Int)] })) (k2:aB W w2 (aC M (.slice (some ⟨g1,0,none⟩) (m+1) c1) (m+1) f1) (aC M (.slice (some ⟨g1,0,none⟩) (m+1) c1) (m+1) (aX f1 p fun n=>{ n with k:=sl,kids:=(f p).kids++[(m:Int)] }))):
  Gl base M m nb vs f i (p:Int) F w [] w2:=by
 have e1:∀ j,j<m→f1 j=f j:=fun j hj=>by rw[hf1,dY hj]
 have em:aX f1 p (fun n=>{ n with k:=sl,kids:=(f p).kids++[(m:Int)] }) m=⟨(f i).kind,(f i).name,sl1,(f i).at',(f i).data,(p:Int),⟨none,0,0⟩,[],false⟩:=by rw[iP (by omega),hf1,dO]
 have hO:Gz m f (aX f1 p fun n=>{ n with k:=sl,kids:=(f p).kids++[(m:Int)] }) (p:Int) (m:Int):=by
  refine⟨fun j hj hq=>by rw[iP (by omega),e1 j hj],fun j hj hq=>⟨sl,?_⟩⟩;have e:j=p:=by omega
  subst e;unfold aX;rw[if_pos rfl,e1 j hj]
 have hnb:=h3.lt;refine⟨_,0,_,[],[],k1,h2.trans k2,hO,?_,Ir hi hg hO em,h3.turns k2.1 h4,fun h=>h4 (k2.2 nb hnb h)⟩;intro j a1 a2;have e:j=m:=by omega
 rw[e,em]
theorem sZ {base M m m':Nat} {vs v':Value} {f f':Nat→RS} {w w1 w':World} {cs:Array Value} {tX:TypeId} (st1:aB w1 w' (aC M vs m f) (aC M v' m' f')) (hX:Whole w1 w.heap.size cs tX) (hl:∀ x,aC M vs m f x→base≤x∧x<w.heap.size):¬ aC M v' m' f' w.heap.size:=by
 intro h;have h1:=st1.2 _ hX.lt h;have:=(hl _ h1).2;omega
end
section
open Go.RowKit
theorem Oh (k:Nat) (hk:k≤4000) (w:World):
  Calls Tryz.prog 107 #[.slice none 0 0,.int .i64 (k:Int)] w fun e w'=>∃ v,e=.returned v∧TR w' w.heap.size 3 1 v 0 []∧Below w.heap.size w w':=by
 obtain⟨i0,hi0,hz0,hz1,hz2⟩:=info_parts lZ;by_cases h0:k=0
 ·subst h0
  go_enter Tryz.func107,Tryz.ntmps107
  go_wp2_with fail
  go_ret
  exact⟨_,rfl,TR.nil _ _ _ _,Below.refl _ _⟩
 ·have h:=fun ty=>Lib.run_append_grow_zeros w 39 3 ty 3 i0 _ .i64 .i64 Tryz.underlying39 Tryz.underlying3 hi0 hz0 none 0 0 [] (by rw[hz1];rfl) k (by omega) (by omega) (by omega) (by omega) (by rw[hz2];omega) (by rw[hz2];exact growslice_fits (by omega) (by omega));obtain⟨G,hG⟩:=eX (grownCap w (0+k) 0 3)
  have hGn:0+k≤G:=by rw[←hG];exact grownCap_ge w _ _ _
  have hG63:G≤maxLen:=by rw[←hG];exact grownCap_le_maxLen w (0+k) 0 3 (by unfold maxLen;omega)
  rw[hG] at h;obtain⟨ROW,hROW⟩:∃ ROW:Array Value,(([]:List Value).toArray++Builtin.zeroCells (Value.int .i64 0).cells k++Builtin.zeroCells (Value.int .i64 0).cells (G - (0+k)))=ROW:=⟨_,rfl⟩
  rw[hROW] at h;have hRl:ROW.size=G*1:=by
   rw[←hROW,Array.size_append,Array.size_append,wJ,wJ,show (Value.int .i64 0).cells.size=1 from rfl];simp;omega
  rw[Nat.zero_add] at h hGn;obtain⟨w1,hw1⟩:=eX (w.drew.alloc (.cells ROW 3))
  rw[hw1] at h;have hb1:Below w.heap.size w w1:=by rw[←hw1];exact (bf _ w).alloc (Nat.le_refl _) _
  have hg1:w1.heap[w.heap.size]?=some (.cells ROW 3 (0,0)):=by rw[←hw1];exact heap_alloc_new w.drew _
  have q1:(0:Int)<(k:Int):=by omega
  have q2:¬ (k:Int)<0:=by omega
  have HF:=zh (And.intro hGn (And.intro hG63 hRl));clear hGn hG63 hRl hROW hG hw1
  go_enter Tryz.func107,Tryz.ntmps107
  go_wp2_with (at_builtin;refine wpList_append_run rfl _ _ 39 3 rfl (.slice none 0 0) (.int .i64 (k:Int)) _ rfl rfl (h _) ?_)
  go_wp2_with fail
  go_ret
  refine⟨_,rfl,⟨rfl,.inr ⟨w.heap.size,0,G,ROW,rfl,Nat.le_refl _,hg1,Nat.zero_le _,HF.out.2.1,by rw[HF.out.2.2];omega,fun j hj=>by omega⟩⟩,hb1⟩
theorem Iu (S:Nat) (va vb:Value) (la lb:List Int) (w:World) (h0:w.cell? ⟨S,0,none⟩=some va) (h1:w.cell? ⟨S,1,none⟩=some vb) (hlt:S<w.heap.size) (ha:TR w 0 3 1 va la.length (ints la)) (hb:TR w 0 3 1 vb lb.length (ints lb)) (hla:la.length≤1000) (hlb:lb.length≤1000):
  Calls Tryz.prog 60 #[.slice (some ⟨S,0,none⟩) 2 2] w fun e w'=>∃ v,e=.returned v∧TR w' w.heap.size 3 1 v (la++lb).length (ints (la++lb))∧Below w.heap.size w w':=by
 obtain⟨i0,hi0,hz0,hz1,hz2⟩:=info_parts lZ;obtain⟨Aa,ca,rfl⟩:=ha.form;obtain⟨Ab,cb,rfl⟩:=hb.form;obtain⟨a,hA⟩:=eX (la.length)
 obtain⟨b,hB⟩:=eX (lb.length)
 have HA:=zh ha;have HB:=zh hb;have HL:=zh (And.intro hA hB);rw[hA] at h0 hla;rw[hB] at h1 hlb;clear ha hb hA hB
 go_enter Tryz.func60,Tryz.ntmps60
 go_wp2_with fail
 go_loopw [11,3] (fun j z wr=>((j=.int .i64 0∧z=.int .i64 0)∨(j=.int .i64 1∧z=.int .i64 (a:Nat))∨(j=.int .i64 2∧z=.int .i64 ((a:Int)+(b:Int))))∧wr=w) (fun j _ _=>2 - (intOf j).toNat)
 case atStart=>exact⟨.inl ⟨rfl,rfl⟩,rfl⟩
 case round=>
  obtain⟨hj,rfl⟩:=hrel;rcases hj with ⟨rfl,rfl⟩ | ⟨rfl,rfl⟩ | ⟨rfl,rfl⟩
  ·have q:¬ (a:Int)<0:=by omega
   go_wp2_with fail
   go_roundw
   case rel=>exact⟨.inr (.inl ⟨rfl,by simp⟩),trivial⟩
   case measure=>simp[intOf]
  ·have q:¬ (a:Int)+(b:Int)<0:=by omega
   go_wp2_with fail
   go_roundw
   case rel=>exact⟨.inr (.inr ⟨rfl,rfl⟩),trivial⟩
   case measure=>simp[intOf]
  ·have HG:=zh (Oh (a+b) (by omega) wr);rw[show ((a+b:Nat):Int)=(a:Int)+(b:Int) by omega] at HG;go_wp2_with fail;refine HG.out.mono ?_;rintro e w1 ⟨v1,rfl,o1,hb1⟩;clear HG;obtain⟨wo,hwo⟩:∃ wo:World,wo=wr:=⟨_,rfl⟩
   subst hwo;go_wp2_with fail
   go_loopw [27,6] (fun j z wr=>((j=.int .i64 0∧TR wr wo.heap.size 3 1 z 0 [])∨(j=.int .i64 1∧TR wr wo.heap.size 3 1 z a (ints la))∨(j=.int .i64 2∧TR wr wo.heap.size 3 1 z (a+b) (ints la++ints lb)))∧Below wo.heap.size wo wr) (fun j _ _=>2 - (intOf j).toNat)
   case atStart=>exact⟨.inl ⟨rfl,o1⟩,hb1⟩
   case round=>
    obtain⟨hj,hbr⟩:=hrel;have k0:=hbr.cell (p:=⟨S,0,none⟩) hlt;have k1:=hbr.cell (p:=⟨S,1,none⟩) hlt;rw[h0] at k0;rw[h1] at k1;have hbs:=hbr.size;rcases hj with ⟨rfl,o⟩ | ⟨rfl,o⟩ | ⟨rfl,o⟩
    ·obtain⟨Az,cz,rfl⟩:=o.form;have hsa:=HA.out.below hbr;rw[HL.out.1] at hsa;have src:=hsa.source;have hsl:=hsa.1;clear hsa
     go_wp2_with (at_builtin;refine bA rfl _ _ 39 rfl wo.heap.size 3 i0 (.int .i64 0) 1 8 Tryz.underlying39 hi0 hz0 hz1 hz2 rfl (by decide) _ 0 [] rfl o _ a (ints la) rfl hsl src (eB _) ?c3 ?c4 hbs ?_)
     case c3=>unfold maxLen;omega
     case c4=>omega
     intro v5 w5 o5 g5 f5;have hb5:=hbr.grown g5 hbs (fun j hj=>(o.lt j hj).1);have OU:TR w5 wo.heap.size 3 1 v5 a (ints la):=by simpa using o5
     clear o5 g5 f5 o;go_wp2_with fail
     go_roundw
     case rel=>exact⟨.inr (.inl ⟨rfl,OU⟩),hb5⟩
     case measure=>simp[intOf]
    ·obtain⟨Az,cz,rfl⟩:=o.form;have hsa:=HB.out.below hbr;rw[HL.out.2] at hsa;have src:=hsa.source;have hsl:=hsa.1;clear hsa
     go_wp2_with (at_builtin;refine bA rfl _ _ 39 rfl wo.heap.size 3 i0 (.int .i64 0) 1 8 Tryz.underlying39 hi0 hz0 hz1 hz2 rfl (by decide) _ a (ints la) rfl o _ b (ints lb) rfl hsl src (eB _) ?c5 ?c6 hbs ?_)
     case c5=>unfold maxLen;omega
     case c6=>omega
     intro v5 w5 o5 g5 f5;have hb5:=hbr.grown g5 hbs (fun j hj=>(o.lt j hj).1);clear g5 f5 o;go_wp2_with fail
     go_roundw
     case rel=>exact⟨.inr (.inr ⟨rfl,o5⟩),hb5⟩
     case measure=>simp[intOf]
    ·have HO:=zh o;clear o;go_wp2_with fail
     go_ret
     refine⟨_,rfl,?_,hbr⟩;show TR _ _ _ _ _ (la++lb).length (ints (la++lb));rw[List.length_append,HL.out.1,HL.out.2,gD];exact HO.out
end
end Go.Proofs.YtmhjlifmcadefaaGreatDoor
