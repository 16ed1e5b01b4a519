/- Part of a proof about trees. -/
import Derived.Test.YtnbaadpgbcklaaaGreatDoorGNRsa
import Derived.Test.YtnbaadpgbcklaaaGreatDoorGNVal
set_option linter.unusedVariables false
set_option linter.unusedSimpArgs false
set_option maxHeartbeats 4000000
set_option maxRecDepth 100000
namespace Go.Proofs.YtnbaadpgbcklaaaGreatDoor
section
open Go.RowKit
def hof (hs:List Int) (x:Int):Int:=if x<0 then 0 else hs.getD x.toNat 0
structure oU (w:World) (T B M:Nat) (vh:Value) (hs:List Int):Prop where
 var:Whole w T #[.pointer (some ⟨B,0,none⟩),.pointer (some ⟨M,0,none⟩),vh] 33
 row:TR w 0 3 1 vh hs.length (ints hs)
theorem oU.below {w w':World} {T B M:Nat} {vh:Value} {hs:List Int} (h:oU w T B M vh hs) (hb:Below w.heap.size w w'):oU w' T B M vh hs:=⟨h.var.below hb h.var.lt,h.row.below hb⟩
theorem KO {hs:List Int} {x:Int} (h:x<0):hof hs x=0:=if_pos h
theorem Rq {hs:List Int} {x:Int} (h:(hs.length:Int)≤x):hof hs x=0:=by
 unfold hof;rw[if_neg (by omega),List.getD_eq_getElem?_getD,List.getElem?_eq_none (by omega)];rfl
theorem sj {hs:List Int} {j:Nat} {x:Int} (h:hs[j]?=some x):hof hs (j:Int)=x:=by
 unfold hof;rw[if_neg (by omega),List.getD_eq_getElem?_getD,Int.toNat_natCast,h];rfl
theorem fM (T B M:Nat) (vh:Value) (hs:List Int) (x:Int) (w:World) (H:oU w T B M vh hs):
  Calls Tryz.prog 49 #[.pointer (some ⟨T,0,none⟩),.int .i64 x] w fun e w'=>e=.returned (.int .i64 (hof hs x))∧w'=w:=by
 obtain⟨A,c,rfl⟩:=H.row.form;have c2:w.cell? ⟨T,2,none⟩=some (.slice A hs.length c):=H.var.cell 2;obtain⟨n,hn⟩:=eX (hs.length)
 have HN:=zh hn;by_cases h0:x<0
 ·have HE:=zh (KO (hs:=hs) h0);clear H hn
  go_enter Tryz.func49,Tryz.ntmps49
  go_wp2_with fail
  go_ret
  exact⟨by rw[HE.out];rfl,rfl⟩
 ·obtain⟨j,rfl⟩:=Int.eq_ofNat_of_zero_le (by omega:0≤x);have j0:(0:Int)≤(j:Int):=by omega
  rw[hn] at c2;by_cases hj:j<n
  ·obtain⟨y,hy⟩:∃ y,hs[j]?=some y:=⟨hs[j]'(by omega),by simp⟩
   have HE:=zh (sj hy);have hlen:0<hs.length:=by omega
   obtain⟨g,o,rfl,-,-,hcs,-⟩:=H.row.cells hlen;have ck:=hcs j _ (by omega) (dX hy);have j1:¬ (n:Int)≤(j:Int):=by omega
   have j2:(j:Int)<(n:Int):=by omega
   clear H hn hy hcs hlen
   go_enter Tryz.func49,Tryz.ntmps49
   go_wp2_with fail
   go_ret
   exact⟨by rw[HE.out];rfl,rfl⟩
  ·have HE:=zh (Rq (hs:=hs) (x:=(j:Int)) (by omega));have j1:(n:Int)≤(j:Int):=by omega
   clear H hn
   go_enter Tryz.func49,Tryz.ntmps49
   go_wp2_with fail
   go_ret
   exact⟨by rw[HE.out];rfl,rfl⟩
def JE:RS:=⟨1,⟨#[]⟩,⟨none,0,0⟩,[],⟨#[]⟩,-1,⟨none,0,0⟩,[],false⟩
theorem PD (w:World):
  Calls Tryz.prog 47 #[] w fun e w'=>∃ M vs,e=.returned (.pointer (some ⟨M,0,none⟩))∧MV w.heap.size w' M vs 1 (fun _=>JE)∧Below w.heap.size w w':=by
 obtain⟨w1,hw1⟩:=eX (w.alloc (.cells #[.int .i64 1,.string ⟨#[]⟩,.slice none 0 0,.string ⟨#[]⟩,.int .i64 (-1),.slice none 0 0,.bool false] 67))
 have hrow:w1.ownsRow w.heap.size 67 7 (.slice (some ⟨w.heap.size,0,none⟩) 1 1) 1 (bO pQ 1 fun _=>JE):=by
  rw[←hw1];exact World.ownsRow_lit (base:=w.heap.size) (e:=67) (size:=7) w #[.int .i64 1,.string ⟨#[]⟩,.slice none 0 0,.string ⟨#[]⟩,.int .i64 (-1),.slice none 0 0,.bool false] 1 (Nat.le_refl _) (by unfold maxLen;omega) rfl
 have hs1:w1.heap.size=w.heap.size+1:=by rw[←hw1];simp
 have hb1:Below w.heap.size w w1:=gP hw1;have hX:=Whole.new w1 #[.slice (some ⟨w.heap.size,0,none⟩) 1 1] 70;have hM:MV w.heap.size (w1.alloc (.cells #[.slice (some ⟨w.heap.size,0,none⟩) 1 1] 70)) w1.heap.size (.slice (some ⟨w.heap.size,0,none⟩) 1 1) 1 (fun _=>JE):=
  ⟨by omega,hX,hrow.alloc _,fun i _=>TR.nil _ _ _ _,fun i _=>TR.nil _ _ _ _,fun i j h1 h2 h3=>by omega,fun i j h1 h2 h3=>by omega⟩
 rw[hs1] at hM;have HM:=zh (And.intro hM (hb1.alloc (by omega) (.cells #[.slice (some ⟨w.heap.size,0,none⟩) 1 1] 70)));clear hM hX hrow hb1
 go_enter Tryz.func47,Tryz.ntmps47
 go_wp2_with fail;(try rw[hw1]);try go_wp2_with fail
 go_ret
 exact⟨_,_,rfl,HM.out.1,HM.out.2⟩
theorem oU.made {W:World} {B M:Nat} {r:Int} {b0:Nat} (hrow:W.ownsRow b0 3 1 (.slice (some ⟨b0,0,none⟩) 1 1) 1 (ints [r])):oU (W.alloc (.cells #[.pointer (some ⟨B,0,none⟩),.pointer (some ⟨M,0,none⟩),.slice (some ⟨b0,0,none⟩) 1 1] 33)) W.heap.size B M (.slice (some ⟨b0,0,none⟩) 1 1) [r]:=
 ⟨Whole.new W _ _,(TR.jN (hrow.alloc _)).zero⟩
def Ev (b s:Int) (w:World) (e:Ending) (w':World):Prop:=∃ (T B M:Nat) (vs vf aT vh:Value),e=.returned (.pointer (some ⟨T,0,none⟩))∧oU w' T B M vh [Ar.hdl b s 0]∧
 (∃ bT,w.heap.size≤bT∧TV bT w' B b s vs 1 (Tr.raw (Tr.dI AQ (Ar.hdl b s 0) oO) wB) vf [] 1 (Ar.hdl b s 0))∧Sound b s 1 (Tr.raw (Tr.dI AQ (Ar.hdl b s 0) oO) wB) [] 1∧Tr.WF 0 (Tr.dI AQ (Ar.hdl b s 0) oO)∧
 (∃ bM,MV bM w' M aT 1 (fun _=>JE)∧∀ k,aD B vs vf k→k<bM)∧Below w.heap.size w w'∧w.heap.size≤T∧∀ k,vh.ownBlock=some k→w.heap.size≤k∧¬ aD B vs vf k∧¬ aC M aT 1 (fun _=>JE) k
theorem Rs {b s:Int} {w w0 w1 W2:World} {B M:Nat} {vs vf aT:Value} (hT:TV w0.heap.size w1 B b s vs 1 (Tr.raw (Tr.dI AQ (Ar.hdl b s 0) oO) wB) vf [] 1 (Ar.hdl b s 0)) (h0:w.heap.size≤w0.heap.size) (hSW:Sound b s 1 (Tr.raw (Tr.dI AQ (Ar.hdl b s 0) oO) wB) [] 1∧Tr.WF 0 (Tr.dI AQ (Ar.hdl b s 0) oO)) (hB1:Below w.heap.size w w1)
  (hM:MV w1.drew.heap.size W2 M aT 1 (fun _=>JE)∧Below w1.drew.heap.size w1.drew W2):
  Ev b s w (.returned (.pointer (some ⟨W2.heap.size+1,0,none⟩))) ((W2.alloc (.cells #[.int .i64 (Ar.hdl b s 0)] 3)).alloc (.cells #[.pointer (some ⟨B,0,none⟩),.pointer (some ⟨M,0,none⟩),.slice (some ⟨W2.heap.size,0,none⟩) 1 1] 33)):=by
 have eF:Below w1.heap.size w1 W2:=(aZ _ w1).trans hM.2;have hs:=hB1.size;have hs2:=eF.size;have hrow:(W2.alloc (.cells #[.int .i64 (Ar.hdl b s 0)] 3)).ownsRow W2.heap.size 3 1 (.slice (some ⟨W2.heap.size,0,none⟩) 1 1) 1 (ints [Ar.hdl b s 0]):=World.ownsRow_lit (base:=W2.heap.size) (e:=3) (size:=1) W2 #[.int .i64 (Ar.hdl b s 0)] 1 (Nat.le_refl _) (by unfold maxLen;omega) rfl;have Nn:=oU.made (B:=B) (M:=M) hrow;rw[World.size_alloc] at Nn;have UR:Below W2.heap.size W2 ((W2.alloc (.cells #[.int .i64 (Ar.hdl b s 0)] 3)).alloc (.cells #[.pointer (some ⟨B,0,none⟩),.pointer (some ⟨M,0,none⟩),.slice (some ⟨W2.heap.size,0,none⟩) 1 1] 33)):=((Below.refl _ W2).alloc (Nat.le_refl _) _).alloc (by simp) _;exact⟨_,B,M,vs,vf,aT,_,rfl,Nn,⟨_,h0,(hT.below eF).below UR⟩,hSW.1,hSW.2,⟨w1.heap.size,hM.1.below UR,fun k hk=>(hT.lt k hk).2⟩,(hB1.trans (eF.mono hs)).trans (UR.mono (Nat.le_trans hs hs2)),by omega,fun k hk=>by
  have e:W2.heap.size=k:=by simpa [Value.ownBlock] using hk
  subst e
  exact⟨by omega,fun hf=>by have:=(hT.lt _ hf).2;omega,fun hf=>by have:=(hM.1.lt _ hf).2;omega⟩⟩
theorem Rt {b s:Int} {w w0 w1 W2:World} {B M:Nat} {vs vf aT:Value} (hT:TV w0.heap.size w1 B b s vs 1 (Tr.raw (Tr.dI AQ (Ar.hdl b s 0) oO) wB) vf [] 1 (Ar.hdl b s 0)) (h0:w.heap.size≤w0.heap.size) (hSW:Sound b s 1 (Tr.raw (Tr.dI AQ (Ar.hdl b s 0) oO) wB) [] 1∧Tr.WF 0 (Tr.dI AQ (Ar.hdl b s 0) oO)) (hB1:Below w.heap.size w w1)
  (hM:MV (w1.drew.alloc (.cells #[.int .i64 (Ar.hdl b s 0)] 3)).heap.size W2 M aT 1 (fun _=>JE)∧Below (w1.drew.alloc (.cells #[.int .i64 (Ar.hdl b s 0)] 3)).heap.size (w1.drew.alloc (.cells #[.int .i64 (Ar.hdl b s 0)] 3)) W2):
  Ev b s w (.returned (.pointer (some ⟨W2.heap.size,0,none⟩))) (W2.alloc (.cells #[.pointer (some ⟨B,0,none⟩),.pointer (some ⟨M,0,none⟩),.slice (some ⟨w1.heap.size,0,none⟩) 1 1] 33)):=by
 have Ye:Below w1.heap.size w1 (w1.drew.alloc (.cells #[.int .i64 (Ar.hdl b s 0)] 3)):=(aZ _ w1).alloc (Nat.le_refl _) _;have hsa:=Ye.size;have eF:Below w1.heap.size w1 W2:=Ye.trans (hM.2.mono hsa);have hs:=hB1.size;have hs2:=eF.size;have rV:(w1.drew.alloc (.cells #[.int .i64 (Ar.hdl b s 0)] 3)).ownsRow w1.heap.size 3 1 (.slice (some ⟨w1.heap.size,0,none⟩) 1 1) 1 (ints [Ar.hdl b s 0]):=World.ownsRow_lit (base:=w1.heap.size) (e:=3) (size:=1) w1.drew #[.int .i64 (Ar.hdl b s 0)] 1 (Nat.le_refl _) (by unfold maxLen;omega) rfl;have hrow:W2.ownsRow w1.heap.size 3 1 (.slice (some ⟨w1.heap.size,0,none⟩) 1 1) 1 (ints [Ar.hdl b s 0]):=rV.kept (au hM.2 none) (.inr (by simp[Value.ownBlock]));have Nn:=oU.made (B:=B) (M:=M) hrow;have UR:Below W2.heap.size W2 (W2.alloc (.cells #[.pointer (some ⟨B,0,none⟩),.pointer (some ⟨M,0,none⟩),.slice (some ⟨w1.heap.size,0,none⟩) 1 1] 33)):=(Below.refl _ W2).alloc (Nat.le_refl _) _;exact⟨_,B,M,vs,vf,aT,_,rfl,Nn,⟨_,h0,(hT.below eF).below UR⟩,hSW.1,hSW.2,⟨_,hM.1.below UR,fun k hk=>Nat.lt_of_lt_of_le (hT.lt k hk).2 hsa⟩,(hB1.trans (eF.mono hs)).trans (UR.mono (Nat.le_trans hs hs2)),by omega,fun k hk=>by
  have e:w1.heap.size=k:=by simpa [Value.ownBlock] using hk
  subst e;refine⟨by omega,fun hf=>by have:=(hT.lt _ hf).2;omega,fun hf=>?_⟩;have h1:=(hM.1.lt _ hf).1;rw[World.size_alloc] at h1;have h2:w1.drew.heap.size=w1.heap.size:=rfl
  omega⟩
theorem LV (b s:Int) (w:World):
  Calls Tryz.prog 12 #[xD b s] w fun e w'=>Ev b s w e w':=by
 obtain⟨w0,hw0⟩:=eX (w.alloc (.cells #[.int .i64 b,.int .i64 s] 28))
 have hb0:Below w.heap.size w w0:=gP hw0;have hX:Whole w0 w.heap.size #[.int .i64 b,.int .i64 s] 28:=by rw[←hw0];exact Whole.new w _ _
 have s0:w0.cell? ⟨w.heap.size,0,none⟩=some (.int .i64 b):=hX.cell 0;have s1:w0.cell? ⟨w.heap.size,1,none⟩=some (.int .i64 s):=hX.cell 1;have HN:=zh (KH b s w0);have HB0:=zh hb0;have HW0:=zh hw0;clear hX hb0 hw0
 go_enter Tryz.func12,Tryz.ntmps12
 go_wp2_with fail;(try rw[HW0.out]);(try go_wp2_with fail);refine HN.out.mono ?_;rintro e w1 ⟨B,vs,vf,rfl,hT,hS,hW,hb1⟩;have r0:=hT.cells.2.2.2.2.2;have HT:=zh hT;have HSW:=zh (And.intro hS hW);have HB1:=zh (HB0.out.trans (hb1.mono HB0.out.size));clear HN hT hS hW hb1;go_wp2_with fail;have hBl:B<w1.heap.size:=HT.out.var.lt
 go_region_with (refine (PD _).mono ?_;rintro e W2 ⟨M,aT,rfl,hMV,hbM⟩;(try have r2:W2.cell? ⟨B,5,none⟩=some (.int .i64 (Ar.hdl b s 0)):=(hbM.cell (p:=⟨B,5,none⟩) hBl).trans r0);have yF:=zh (And.intro hMV hbM);clear hMV hbM)
 all_goals go_wp2_with fail
 all_goals go_ret
 all_goals first | exact Rs HT.out HB0.out.size HSW.out HB1.out yF.out | exact Rt HT.out HB0.out.size HSW.out HB1.out yF.out
theorem vV {hs:List Int} {h x:Int} (hx:x<(hs.length:Int)):hof (hs++[h]) x=hof hs x:=by
 unfold hof;by_cases e:x<0
 ·rw[if_pos e,if_pos e]
 ·rw[if_neg e,if_neg e,List.getD_eq_getElem?_getD,List.getD_eq_getElem?_getD,List.getElem?_append_left (by omega)]
theorem Ew {hs:List Int} {h:Int}:hof (hs++[h]) (hs.length:Int)=h:=by
 unfold hof;rw[if_neg (by omega),List.getD_eq_getElem?_getD,Int.toNat_natCast,List.getElem?_append_right (Nat.le_refl _),Nat.sub_self];rfl
theorem mq {hs:List Int}:hof hs (-1)=0:=KO (by omega)
theorem KQ {m:Nat} {f:Nat→RS} (hw:Tr.WF (-1) (mg m f)) (h:Int):(Tr.ay (mg m f) h).length≤m:=by
 have hlive:∀ x∈Tr.ay (mg m f) h,∃ i:Nat,x=(i:Int)∧i<m:=fun x hx=>by
  obtain⟨i,h1,h2,_⟩:=jE (hw.nE hx);exact⟨i,h1,h2⟩
 have hnd:=hw.qI h;have Pj:((Tr.ay (mg m f) h).map Int.toNat).Nodup:=by
  rw[List.nodup_iff_pairwise_ne,List.pairwise_map];refine (List.pairwise_iff_forall_sublist.2 ?_);intro a b hab e;obtain⟨j,h4,_⟩:=hlive a (hab.subset (by simp));obtain⟨j',h5,_⟩:=hlive b (hab.subset (by simp));have:a=b:=by rw[h4,h5] at e ⊢;simp at e;rw[e]
  exact (List.pairwise_iff_forall_sublist.1 (List.nodup_iff_pairwise_ne.1 hnd)) hab this
 have:=pI m _ Pj (fun x hx=>by
  obtain⟨y,hy,rfl⟩:=List.mem_map.1 hx;obtain⟨j,h4,h5⟩:=hlive y hy
  rw[h4];simpa using h5)
 simpa using this
def nR (a:Tr.G) (h:Int) (l:List Int):List Int:=h::l.flatMap (Tr.ay a)
theorem JF (a:Tr.G) (h:Int) (l:List Int) (k:Int):nR a h (l++[k])=nR a h l++Tr.ay a k:=by
 unfold nR;rw[List.flatMap_append];simp
theorem PE (a:Tr.G) (h:Int) (l l':List Int):(nR a h l).length≤(nR a h (l++l')).length:=by
 unfold nR;rw[List.flatMap_append];simp
theorem MU (base M m:Nat) (vs:Value) (f:Nat→RS) (hw:Tr.WF (-1) (mg m f)) (hm:m≤100000):∀ h,(mg m f h).isSome→∀ w,MV base w M vs m f→
  Calls Tryz.prog 30 #[.pointer (some ⟨M,0,none⟩),.int .i64 h] w fun e w'=>∃ v,e=.returned v∧TR w' w.heap.size 3 1 v (Tr.ay (mg m f) h).length (ints (Tr.ay (mg m f) h))∧Below w.heap.size w w':=by
 obtain⟨i0,hi0,hz0,hz1,hz2⟩:=info_parts rU;refine hw.induct ?_;intro h ih hs w H;obtain⟨i,rfl,hi,hg,X4⟩:=jE hs;have hle:=lI hw hi hg;obtain⟨A,c,rfl⟩:=H.form;have hr:Tr.ay (mg m f) (i:Int)=nR (mg m f) i (f i).kids:=hw.dU X4;have IC:=KQ hw (i:Int);obtain⟨n,hn⟩:=eX ((f i).kids.length)
 rw[hn] at hle;obtain⟨g,rfl,-⟩:=H.read hi;have q1:(0:Int)≤(i:Int):=by omega
 have q2:(i:Int)<(m:Int):=by omega
 have RP:=zh (fun (W:World) (hb:Below w.heap.size w W)=>show W.cell? ⟨M,0,none⟩=some (.slice (some ⟨g,0,none⟩) m c)∧W.cell? ⟨g,i*7+5,none⟩=some (.slice (f i).k.a n (f i).k.c) from by
  obtain⟨x,-,-,-,-,-,y,-⟩:=(H.below hb).rd hi
  rw[hn] at y;exact⟨x,y⟩)
 have HKC:=zh (fun (W:World) (hb:Below w.heap.size w W) (j:Nat) (k:Int) (hj:(f i).kids[j]?=some k)=>(H.below hb).kid hi hj);have YU:=zh (fun (W:World) (hb:Below w.heap.size w W)=>H.below hb);have HI:=zh ih;have HR:=zh hr;have HB:=zh IC;have HW:=zh hw;have HN:=zh hn;have HG:=zh hg;obtain⟨w1,hw1⟩:=eX (w.alloc (.cells #[.int .i64 (i:Int)] 3))
 have hb1:Below w.heap.size w w1:=gP hw1;have SH:TR w1 w.heap.size 3 1 (.slice (some ⟨w.heap.size,0,none⟩) 1 1) 1 (ints [(i:Int)]):=by
  rw[←hw1];exact TR.jN (World.ownsRow_lit (base:=w.heap.size) (e:=3) (size:=1) w #[.int .i64 (i:Int)] 1 (Nat.le_refl _) (by unfold maxLen;omega) rfl)
 have HRW:=zh SH;have HB1:=zh hb1;clear H ih hr IC hw X4 hs hn hg SH hb1
 go_enter Tryz.func30,Tryz.ntmps30
 go_wp2_with fail;(try rw[hw1]);go_wp2_with fail
 go_loopw [5,6] (fun v u wr=>∃ j:Nat,u=.int .i64 (j:Int)∧j≤n∧TR wr w.heap.size 3 1 v (nR (mg m f) i ((f i).kids.take j)).length (ints (nR (mg m f) i ((f i).kids.take j)))∧Below w.heap.size w wr) (fun _ u _=>n - (intOf u).toNat)
 case atStart=>exact⟨0,rfl,Nat.zero_le _,HRW.out,HB1.out⟩
 case round=>
  obtain⟨j,rfl,hj,o,hbr⟩:=hrel;obtain⟨k0,c5⟩:=RP.out _ hbr;have j0:(0:Int)≤(j:Int):=by omega
  by_cases hjn:j<n
  ·have j1:(j:Int)<(n:Int):=by omega
   obtain⟨k,hk⟩:∃ k,(f i).kids[j]?=some k:=⟨(f i).kids[j]'(by rw[HN.out];exact hjn),by simp⟩
   obtain⟨ga,oa,hA,ck⟩:=HKC.out _ hbr j k hk;rw[hA] at c5;have hkm:k∈(f i).kids:=List.mem_of_getElem? hk;obtain⟨i',hki,hi',hg',_⟩:=Live.kid HW.out hi HG.out hkm;have hcall:=HI.out _ (aQ hi HG.out) k hkm (by rw[hki,jX hi',hg'];rfl) _ (YU.out _ hbr);have htk:(f i).kids.take (j+1)=(f i).kids.take j++[k]:=by rw[List.take_add_one,hk];rfl
   have hsn:nR (mg m f) i ((f i).kids.take (j+1))=nR (mg m f) i ((f i).kids.take j)++Tr.ay (mg m f) k:=by rw[htk,JF]
   have hl1:(nR (mg m f) i ((f i).kids.take (j+1))).length≤m:=by
    have h1:=PE (mg m f) i ((f i).kids.take (j+1)) ((f i).kids.drop (j+1));rw[List.take_append_drop,←HR.out] at h1;have:=HB.out;omega
   have HX:=zh hsn;have HC:=zh hcall;obtain⟨P,hP⟩:=eX (nR (mg m f) i ((f i).kids.take j))
   obtain⟨Q,hQ⟩:=eX (Tr.ay (mg m f) k)
   have HPQ:=zh (And.intro hP hQ);rw[hP] at o;rw[hsn,hP,hQ,List.length_append] at hl1;rw[hQ] at HC;clear hcall hsn htk hk hkm hki hA hP hQ;go_wp2_with fail;refine HC.out.mono ?_;rintro e w2 ⟨v2,rfl,o2,hb2⟩;have eP:=hbr.trans (hb2.mono hbr.size);have o':=o.below hb2;have src:=o2.source;have hyl:=o2.1;have hbs:=eP.size;clear HC o o2
   go_wp2_with (at_builtin;refine dK rfl _ _ 31 rfl w.heap.size 3 i0 (.int .i64 0) 1 8 Tryz.underlying31 hi0 hz0 hz1 hz2 rfl (by decide) _ P.length (ints P) rfl o' _ Q.length (ints Q) rfl hyl src (gB _) ?c3 ?c4 hbs ?_)
   case c3=>unfold maxLen;omega
   case c4=>omega
   intro v5 w5 o5 g5 f5;have hb5:=eP.grown g5 hbs (fun j hj=>(o'.lt j hj).1);have Tf:TR w5 w.heap.size 3 1 v5 (nR (mg m f) i ((f i).kids.take (j+1))).length (ints (nR (mg m f) i ((f i).kids.take (j+1)))):=by
    rw[HX.out,HPQ.out.1,HPQ.out.2,List.length_append,gY];exact o5
   have HO:=zh Tf;clear o5 Tf g5 f5 o' src hyl hbr eP hb2;go_wp2_with fail
   go_roundw
   case rel=>exact⟨j+1,by go_num,by omega,HO.out,hb5⟩
   case measure=>simp[intOf];omega
  ·have sI:j=n:=by omega
   subst sI;have htk:(f i).kids.take j=(f i).kids:=by rw[List.take_of_length_le];rw[HN.out];exact Nat.le_refl _
   rw[htk,←HR.out] at o;have HO:=zh o;clear o htk;have j1:¬ (j:Int)<(j:Int):=by omega
   go_wp2_with fail
   go_ret
   exact⟨_,rfl,HO.out,hbr⟩
def iT (f:Nat→RS) (l:List Int):Nat→RS:=fun j=>if (j:Int)∈l then { f j with gone:=true } else f j
theorem MW (f:Nat→RS):iT f []=f:=by funext j;unfold iT;simp
theorem JG (f:Nat→RS) (l:List Int) (i:Nat):iT f (l++[(i:Int)])=aV (iT f l) i fun n=>{ n with gone:=true }:=by
 funext j;unfold iT aV;by_cases e:j=i
 ·subst e;rw[if_pos (by simp),if_pos rfl];dsimp only;by_cases hl:(j:Int)∈l
  ·rw[if_pos hl]
  ·rw[if_neg hl]
 ·rw[if_neg e];have hiff:((j:Int)∈l++[(i:Int)])↔(j:Int)∈l:=by
   rw[List.mem_append,List.mem_singleton];exact⟨fun h=>by rcases h with h | h;exact h;omega,.inl⟩
  dsimp only;by_cases hl:(j:Int)∈l
  ·rw[if_pos (hiff.2 hl),if_pos hl]
  ·rw[if_neg (fun h=>hl (hiff.1 h)),if_neg hl]
theorem xZ (f:Nat→RS) (l:List Int) (j:Nat):(iT f l j).a=(f j).a∧(iT f l j).k=(f j).k:=by
 unfold iT;split<;>exact⟨rfl,rfl⟩
theorem nS (M m:Nat) (vs:Value) (f:Nat→RS) (l:List Int):aC M vs m (iT f l)=aC M vs m f:=by
 funext x;unfold aC;simp only[(xZ f l _).1,(xZ f l _).2]
theorem GK (base M m:Nat) (vs:Value) (f:Nat→RS) (i:Nat) (w:World) (H:MV base w M vs m f) (hi:i<m) (h0:i=0∨∃ p:Nat,(f i).pa=(p:Int)):
  Calls Tryz.prog 56 #[.pointer (some ⟨M,0,none⟩),.int .i64 (i:Int)] w fun e w'=>e=.returned (.int .i64 7)∧w'=w:=by
 obtain⟨A,c,rfl⟩:=H.form;obtain⟨g,rfl,-⟩:=H.read hi;obtain⟨k0,-,-,-,-,c4,-⟩:=H.rd hi;by_cases hi0:i=0
 ·subst hi0;clear H h0
  go_enter Tryz.func56,Tryz.ntmps56
  go_wp2_with fail
  go_ret
  exact⟨rfl,rfl⟩
 ·obtain⟨p,hp⟩:∃ p:Nat,(f i).pa=(p:Int):=by rcases h0 with e | e;exact absurd e hi0;exact e
  rw[hp] at c4;have q1:(0:Int)≤(i:Int):=by omega
  have q2:(i:Int)<(m:Int):=by omega
  have q3:((i:Int) == 0)=false:=bY (by omega);have q4:(0:Int)≤(p:Int):=by omega
  clear H h0 hp
  go_enter Tryz.func56,Tryz.ntmps56
  go_wp2_with fail
  go_ret
  exact⟨rfl,rfl⟩
theorem PG (base M m:Nat) (vs:Value) (f:Nat→RS) (i:Nat) (w:World) (H:MV base w M vs m f) (hw:Tr.WF (-1) (mg m f)) (hi:i<m) (hg:(f i).gone=false) (hm:m≤100000) (h0:i≠0) (hp:(f i).pa = -1):
  Calls Tryz.prog 56 #[.pointer (some ⟨M,0,none⟩),.int .i64 (i:Int)] w fun e w'=>e=.returned (.int .i64 0)∧MV base w' M vs m (iT f (Tr.ay (mg m f) i))∧aB w w' (aC M vs m f) (aC M vs m (iT f (Tr.ay (mg m f) i))):=by
 have Y8:=MU base M m vs f hw hm (i:Int) (by rw[jX hi,hg];rfl) w H;have hlive:∀ x∈Tr.ay (mg m f) (i:Int),∃ j:Nat,x=(j:Int)∧j<m:=fun x hx=>by
  obtain⟨j,h1,h2,_⟩:=jE (hw.nE hx);exact⟨j,h1,h2⟩
 have hwl:=KQ hw (i:Int);obtain⟨L,hL⟩:=eX (Tr.ay (mg m f) (i:Int))
 rw[hL] at Y8 hlive hwl ⊢;obtain⟨n,hn⟩:=eX (L.length)
 rw[hn] at Y8 hwl;obtain⟨A,c,rfl⟩:=H.form;obtain⟨g,rfl,-⟩:=H.read hi;obtain⟨k0,-,-,-,-,c4,-⟩:=H.rd hi;rw[hp] at c4;have q1:(0:Int)≤(i:Int):=by omega
 have q2:(i:Int)<(m:Int):=by omega
 have q3:((i:Int) == 0)=false:=bY (by omega);have HWK:=zh Y8;have HH:=zh H;have uq:=zh hlive;have HN:=zh hn;have hgl:g<w.heap.size:=(H.row.lt g rfl).2;clear H hw Y8 hlive hL hn hp hg h0
 go_enter Tryz.func56,Tryz.ntmps56
 go_wp2_with fail;refine HWK.out.mono ?_;rintro e w1 ⟨v1,rfl,o1,hb1⟩;obtain⟨A1,c1,rfl⟩:=o1.form;have HM1:=zh (HH.out.below hb1);have Oj:=zh o1;have HB1:=zh hb1;clear HWK o1 hb1;go_wp2_with fail
 go_loopw [6] (fun u wr=>∃ j:Nat,u=.int .i64 (j:Int)∧j≤n∧MV base wr M (.slice (some ⟨g,0,none⟩) m c) m (iT f (L.take j))∧TR wr w.heap.size 3 1 (.slice A1 n c1) n (ints L)∧aB w wr (aC M (.slice (some ⟨g,0,none⟩) m c) m f) (aC M (.slice (some ⟨g,0,none⟩) m c) m f)) (fun u _=>n - (intOf u).toNat)
 case atStart=>exact⟨0,rfl,Nat.zero_le _,by rw[List.take_zero,MW];exact HM1.out,Oj.out,.of_below HB1.out⟩
 case round=>
  obtain⟨j,rfl,hj,hmr,o,st⟩:=hrel;have j0:(0:Int)≤(j:Int):=by omega
  by_cases hjn:j<n
  ·have j1:(j:Int)<(n:Int):=by omega
   obtain⟨k,hk⟩:∃ k,L[j]?=some k:=⟨L[j]'(by rw[HN.out];exact hjn),by simp⟩
   obtain⟨x,rfl,hxm⟩:=uq.out k (List.mem_of_getElem? hk);obtain⟨ga,oa,rfl,hga,-,hcs,-⟩:=o.cells (by omega);have ck:=hcs j _ (by omega) (dX hk);obtain⟨kr,-,-,-,-,-,-,c6⟩:=hmr.rd hxm;have f6:=hmr.fz (x*7+6);have x0:(0:Int)≤(x:Int):=by omega
   have x1:(x:Int)<(m:Int):=by omega
   obtain⟨hm2,st2⟩:=hmr.put (j:=6) (v:=.bool true) hxm (by omega) (fun n=>{ n with gone:=true }) rfl ⟨rfl,rfl,rfl,rfl⟩;have htk:L.take (j+1)=L.take j++[(x:Int)]:=by rw[List.take_add_one,hk];rfl
   rw[←JG,←htk] at hm2 st2;rw[nS,nS] at st2;obtain⟨wo,hwo⟩:∃ wo:World,wo=wr:=⟨_,rfl⟩
   subst hwo;obtain⟨w3,hw3⟩:=eX ((wo.setCell ⟨g,x*7+6,none⟩ (.bool true)).drew)
   have hbd:Below (wo.setCell ⟨g,x*7+6,none⟩ (.bool true)).heap.size (wo.setCell ⟨g,x*7+6,none⟩ (.bool true)) w3:=by rw[←hw3];exact aZ _ _
   have g3:wo.grownBy (wo.setCell ⟨g,x*7+6,none⟩ (.bool true)) (some g):=aK (au (Below.refl wo.heap.size wo) _) _ _;have o3:=(o.kept g3 (.inr (fun e=>by simp[Value.ownBlock] at e;omega))).below hbd;have HF:=zh (And.intro (hm2.below hbd) (And.intro o3 (st.trans (st2.trans (.of_below hbd)))));clear hmr hm2 st2 st o o3 hbd g3 hk htk hcs;go_wp2_with fail
   go_region
   (try rw[hw3]);go_wp2_with fail
   go_roundw
   case rel=>exact⟨j+1,by go_num,by omega,HF.out.1,HF.out.2.1,HF.out.2.2⟩
   case measure=>simp[intOf];omega
  ·have sI:j=n:=by omega
   subst sI;have htk:L.take j=L:=by rw[List.take_of_length_le];rw[HN.out];exact Nat.le_refl _
   rw[htk] at hmr;have HF:=zh (And.intro hmr st);clear hmr st o htk;have j1:¬ (j:Int)<(j:Int):=by omega
   go_wp2_with fail
   go_ret
   refine⟨rfl,HF.out.1,?_⟩;rw[nS];exact HF.out.2
theorem PI {m:Nat} {f:Nat→RS} {i:Int}:mg m (iT f (Tr.ay (mg m f) i))=Tr.iy (mg m f) i:=by
 funext x;by_cases hx:x<0
 ·have h1:∀ f':Nat→RS,mg m f' x=none:=fun f'=>by unfold mg;rw[if_neg];rintro⟨h,_⟩;omega
  unfold Tr.iy;rw[h1,h1];split<;>rfl
 ·obtain⟨j,rfl⟩:=Int.eq_ofNat_of_zero_le (by omega:0≤x);unfold Tr.iy;rw[jv,jv];unfold iT;by_cases hm:(j:Int)∈Tr.ay (mg m f) i
  ·rw[if_pos hm,if_pos hm,if_neg];rintro⟨_,h⟩;cases h
  ·rw[if_neg hm,if_neg hm]
theorem JH (base B:Nat) (b s root h:Int) (live n:Nat) (R:Int→Option Tr.Nd) (fr:List Nat) (vs vf:Value) (w:World) (hm:TV base w B b s vs n R vf fr live root) (hS:Sound b s n R fr live) (hh:lQ h) (e1:R h=none):
  Calls Tryz.prog 36 #[.pointer (some ⟨B,0,none⟩),.int .i64 h] w fun e w'=>e=.returned (.int .i64 6)∧Below w.heap.size w w':=by
 have hA:=iD base B b s root h live n R fr vs vf w hm hS hh;rw[e1] at hA
 go_enter Tryz.func36,Tryz.ntmps36
 go_wp2_with fail;refine hA.mono ?_;rintro e w1 ⟨g,o,rfl,hnp,hb⟩;have c0:w1.cell? ⟨g,o,none⟩=some (.int .i64 0):=hnp.cells.1;clear hm hA hnp;go_wp2_with fail
 go_ret
 exact⟨rfl,hb⟩
theorem GL (base B:Nat) (b s root h:Int) (live n:Nat) (g:Tr.G) (av:Int→Tr.Sl) (fr:List Nat) (vs vf:Value) (nd:Tr.GN) (w:World) (hm:TV base w B b s vs n (Tr.raw g av) vf fr live root) (hS:Sound b s n (Tr.raw g av) fr live) (eg:g h=some nd) (h0:nd.kind≠0) (hk:nd.kind=1∨nd.pa≠0):
  Calls Tryz.prog 36 #[.pointer (some ⟨B,0,none⟩),.int .i64 h] w fun e w'=>e=.returned (.int .i64 7)∧Below w.heap.size w w':=by
 have hA:=gZ base B b s root h live n _ fr vs vf _ w hm hS (Tr.aj eg);have q0:(nd.kind == 0)=false:=bY h0;have HP:=zh (fun (W:World) (gb o:Nat) (hb:Below w.heap.size w W) (hpt:PtrTo b s vs n gb o h)=>show W.cell? ⟨gb,o,none⟩=some (.int .i64 nd.kind)∧W.cell? ⟨gb,o+4,none⟩=some (.int .i64 nd.pa) from
  have hc:=((hm.below hb).np hpt (Tr.aj eg)).cells
  ⟨hc.1,hc.2.2.2.2.1⟩)
 clear hm hS;by_cases h1:nd.kind=1
 ·clear hk q0
  go_enter Tryz.func36,Tryz.ntmps36
  go_wp2_with fail;refine hA.mono ?_;rintro e w1 ⟨gb,o,rfl,hpt,hb⟩;obtain⟨c0,c4⟩:=HP.out _ _ _ hb hpt;rw[h1] at c0;clear hA hpt HP;go_wp2_with fail
  go_ret
  exact⟨rfl,hb⟩
 ·have q1:(nd.kind == 1)=false:=bY h1;have q2:(nd.pa == 0)=false:=bY (hk.resolve_left h1)
  go_enter Tryz.func36,Tryz.ntmps36
  go_wp2_with fail;refine hA.mono ?_;rintro e w1 ⟨gb,o,rfl,hpt,hb⟩;obtain⟨c0,c4⟩:=HP.out _ _ _ hb hpt;clear hA hpt HP;go_wp2_with fail
  go_ret
  exact⟨rfl,hb⟩
theorem PK (base B:Nat) (b s root h:Int) (live n:Nat) (g:Tr.G) (av:Int→Tr.Sl) (fr:List Nat) (vs vf:Value) (nd:Tr.GN) (w:World) (hm:TV base w B b s vs n (Tr.raw g av) vf fr live root) (hS:Sound b s n (Tr.raw g av) fr live) (hw:Tr.WF 0 g) (hbs:base≤w.heap.size) (eg:g h=some nd) (h0:nd.kind≠0) (h1:nd.kind≠1) (hp:nd.pa=0) (ED:(Tr.ay g h).length≤100000):
  Calls Tryz.prog 36 #[.pointer (some ⟨B,0,none⟩),.int .i64 h] w fun e w'=>∃ (vs' bV:Value) (fr':List Nat) (L:Nat),e=.returned (.int .i64 0)∧TV base w' B b s vs' n (Tr.raw (Tr.iy g h) av) bV fr' L root∧Sound b s n (Tr.raw (Tr.iy g h) av) fr' L∧aB w w' (aD B vs vf) (aD B vs' bV):=by
 have hh:lQ h:=(bC hS (h:=h) (by rw[Tr.aj eg];rfl)).1;have hA:=gZ base B b s root h live n _ fr vs vf _ w hm hS (Tr.aj eg);have HE:=zh (hw.Pn rfl eg hp av);have Y0:=zh (hw.qI h);have Y7:=zh (fun x (hx:x∈Tr.ay g h)=>hw.nE hx);have q0:(nd.kind == 0)=false:=bY h0;have q1:(nd.kind == 1)=false:=bY h1;have rA:=zh hm.lt;have HC:=zh (fun (W:World) (hb:Below w.heap.size w W)=>MO base B b s root h live n g av fr vs vf W (hm.below hb) hS hw hh ED);obtain⟨D,hD⟩:=eX (Tr.ay g h)
 rw[hD] at HE Y0 Y7 HC ED;obtain⟨N,hN⟩:=eX (D.length)
 rw[hN] at HC ED;have HN:=zh hN;have HM:=zh hm;have HS:=zh hS;have HP:=zh (fun (W:World) (gb o:Nat) (hb:Below w.heap.size w W) (hpt:PtrTo b s vs n gb o h)=>show W.cell? ⟨gb,o,none⟩=some (.int .i64 nd.kind)∧W.cell? ⟨gb,o+4,none⟩=some (.int .i64 0) from
  have hc:=((hm.below hb).np hpt (Tr.aj eg)).cells
  ⟨hc.1,by have:=hc.2.2.2.2.1;rw[show (Tr.bU g av h nd).pa=0 from hp] at this;exact this⟩)
 clear hm hS hw eg hp hD hN
 go_enter Tryz.func36,Tryz.ntmps36
 go_wp2_with fail;refine hA.mono ?_;rintro e w1 ⟨gb,o,rfl,hpt,hb⟩;obtain⟨c0,c4⟩:=HP.out _ _ _ hb hpt;have hWM:=wE B h w1;have Uo:=zh (HC.out w1 hb);clear hA hpt HP HC;go_wp2_with fail;refine hWM.mono ?_;rintro e w2 ⟨rfl,rfl⟩;clear hWM;go_wp2_with fail;refine Uo.out.mono ?_;rintro e w3 ⟨v3,rfl,o3,hb3⟩;obtain⟨A3,c3,rfl⟩:=aG (aH o3);have mE:=hb.trans (hb3.mono hb.size);have hr3:=(TR.jN o3).lower hb.size;have HF0:=zh (fun k (hk:(Value.slice A3 N c3).ownBlock=some k)=>(hr3.lt k hk));have HR3:=zh hr3;have Yv:=zh (HM.out.below mE);have HB3:=zh mE;clear Uo o3 hb3 hb hr3 c0 c4;go_wp2_with fail
 go_loopw [35] (fun u wr=>∃ (j:Nat) (vs' bV:Value) (fr':List Nat) (L:Nat),u=.int .i64 (j:Int)∧j≤N∧TV base wr B b s vs' n (Tr.oC (Tr.raw g av) (D.take j)) bV fr' L root∧Sound b s n (Tr.oC (Tr.raw g av) (D.take j)) fr' L∧TR wr w.heap.size 3 1 (.slice A3 N c3) N (ints D)∧aB w3 wr (aD B vs vf) (aD B vs' bV)) (fun u _=>N - (intOf u).toNat)
 case atStart=>exact⟨0,vs,vf,fr,live,rfl,Nat.zero_le _,by rw[List.take_zero,Tr.C8];exact Yv.out,by rw[List.take_zero,Tr.C8];exact HS.out,HR3.out,.of_below (Below.refl _ _)⟩
 case round=>
  obtain⟨j,vs1,RY,Nc,L1,rfl,hj,hmr,hsr,o,st⟩:=hrel;have j0:(0:Int)≤(j:Int):=by omega
  by_cases hjn:j<N
  ·have j1:(j:Int)<(N:Int):=by omega
   obtain⟨k,hk⟩:∃ k,D[j]?=some k:=⟨D[j]'(by rw[HN.out];exact hjn),by simp⟩
   obtain⟨ga,oa,rfl,hga,-,hcs,-⟩:=o.cells (by omega);have ck:=hcs j _ (by omega) (dX hk);have hkD:k∈D:=List.mem_of_getElem? hk;have hkt:k∉D.take j:=fun hm'=>by
    have h8:=Y0.out.sublist (List.take_sublist (j+1) D);rw[List.take_add_one,hk] at h8;exact (List.nodup_append.1 h8).2.2 _ hm' _ (by simp) rfl
   obtain⟨d,hd⟩:∃ d,Tr.oC (Tr.raw g av) (D.take j) k=some d:=by
    rw[Tr.MJ hkt];obtain⟨m',hm'⟩:=Option.isSome_iff_exists.1 (Y7.out k hkD);exact⟨_,Tr.aj hm'⟩
   have hlo:=hmr.low;have abP:w.heap.size≤wr.heap.size:=Nat.le_trans HB3.out.size st.1.size;have hdr:=Lb base B b s root k L1 n _ Nc vs1 RY d wr hmr hsr (by omega) hd;have htk:D.take (j+1)=D.take j++[k]:=by rw[List.take_add_one,hk];rfl
   have Kc:=zh (show Tr.pJ (Tr.oC (Tr.raw g av) (D.take j)) k none=Tr.oC (Tr.raw g av) (D.take (j+1)) from by rw[htk,Tr.JA]);have HSD:=zh (fun (i L:Nat) (hi:i<n) (e1:Ar.hdl b s (i:Int)=k) (e2:L1=L+1)=>show Sound b s n (Tr.pJ (Tr.oC (Tr.raw g av) (D.take j)) k none) (Nc++[i]) L from by
    obtain⟨L',e3,e4⟩:=hsr.drop (by rw[hd];rfl) hi e1;obtain rfl:L'=L:=by omega
    exact e4)
   have HO:=zh o;have HST:=zh st;have HNF:=zh (st.apart (G:=fun k=>(Value.slice (some ⟨ga,oa,none⟩) N c3).ownBlock=some k) (fun k hk=>(HR3.out.lt k hk).2) (fun k hk hf=>by have h1:=(HF0.out k hk).1;have h2:=(rA.out k hf).2;omega));clear hmr hsr o st hk hkD hkt hd htk hcs;go_wp2_with fail;refine hdr.mono ?_;rintro e w5 ⟨i,L,vs2,RU,rfl,hi,hie,TN,hm2,st2⟩;have hs2:=HSD.out i L hi hie TN;rw[Kc.out] at hm2 hs2;have HF:=zh (And.intro hm2 (And.intro hs2 (And.intro (HO.out.turns st2.1 HNF.out) (HST.out.trans st2))));clear hdr hm2 hs2 st2;go_wp2_with fail
   go_roundw
   case rel=>exact⟨j+1,vs2,RU,Nc++[i],L,by go_num,by omega,HF.out.1,HF.out.2.1,HF.out.2.2.1,HF.out.2.2.2⟩
   case measure=>simp[intOf];omega
  ·have sI:j=N:=by omega
   subst sI;have htk:D.take j=D:=by rw[List.take_of_length_le];rw[HN.out];exact Nat.le_refl _
   rw[htk,HE.out] at hmr hsr;have HF:=zh (And.intro hmr (And.intro hsr ((aB.of_below (F:=aD B vs vf) HB3.out).trans st)));clear hmr hsr st o htk;have j1:¬ (j:Int)<(j:Int):=by omega
   go_wp2_with fail
   go_ret
   exact⟨rfl,vs1,RY,Nc,L1,HF.out.1,HF.out.2.1,HF.out.2.2⟩
theorem sZ:(Tryz.prog.info? 67).map (fun i=>(i.zero,i.size,i.bytes))=some (some (.agg #[.int .i64 0,.string ⟨#[]⟩,.slice none 0 0,.string ⟨#[]⟩,.int .i64 0,.slice none 0 0,.bool false]),7,104):=by kernel_rfl
theorem Aq (base M m:Nat) (vs vA:Value) (f:Nat→RS) (k:Int) (nm dt:ByteArray) (w:World) (H:MV base w M vs m f) (hk:k≠2) (hbase:base≤w.heap.size) (hm:m≤100000) (hs:dt.size≤6000):
  Calls Tryz.prog 48 #[.pointer (some ⟨M,0,none⟩),.int .i64 k,.string nm,.string dt,vA] w fun e w'=>∃ vs',e=.returned (.int .i64 0)∧MV base w' M vs' (m+1) (iq m f ⟨k,⟨#[]⟩,⟨none,0,0⟩,[],aX dt,-1,⟨none,0,0⟩,[],false⟩)∧aB w w' (aC M vs m f) (aC M vs' (m+1) (iq m f ⟨k,⟨#[]⟩,⟨none,0,0⟩,[],aX dt,-1,⟨none,0,0⟩,[],false⟩)):=by
 obtain⟨i0,hi0,hz0,hz1,hz2⟩:=info_parts sZ;obtain⟨A,c,rfl⟩:=H.form;obtain⟨w1,hw1⟩:=eX (w.alloc (.cells #[.int .i64 k,.string ⟨#[]⟩,.slice none 0 0,.string ⟨#[]⟩,.int .i64 (-1),.slice none 0 0,.bool false] 67))
 have hb1:Below w.heap.size w w1:=gP hw1;have hX1:Whole w1 w.heap.size #[.int .i64 k,.string ⟨#[]⟩,.slice none 0 0,.string ⟨#[]⟩,.int .i64 (-1),.slice none 0 0,.bool false] 67:=by rw[←hw1];exact Whole.new w _ _
 have q2:(k == 2)=false:=bY hk;have hR:=jZ dt w1 (by omega);obtain⟨rv,mQ⟩:=eX (aX dt)
 rw[show fA (bD.rep dt.data.toList)=rv from mQ] at hR;rw[mQ];have HR:=zh hR;have fu:=zh hX1;have HB1:=zh hb1;have HW1:=zh hw1;have HM:=zh (fun (W:World) (hb:Below w.heap.size w W)=>H.below hb);have Vi:M<w.heap.size:=H.var.lt;have TY:=zh (fun x (hx:(Value.slice A m c).ownBlock=some x)=>(H.lt x (Or.inr (Or.inl hx))).2);clear hR hX1 hb1 hw1 H mQ hs
 go_enter Tryz.func48,Tryz.ntmps48
 go_wp2_with fail;rw[HW1.out];refine HR.out.mono ?_;rintro e w2 ⟨rfl,hb2⟩;have hX2:=fu.out.below hb2 fu.out.lt;have eP:=HB1.out.trans (hb2.mono HB1.out.size);have y3:w2.cell? ⟨w.heap.size,3,none⟩=some (.string ⟨#[]⟩):=hX2.cell 3;have f3:=hX2.free 3;obtain⟨w4,hw4⟩:=eX (w2.setCell ⟨w.heap.size,3,none⟩ (.string rv))
 have bg:Whole w4 w.heap.size #[.int .i64 k,.string ⟨#[]⟩,.slice none 0 0,.string rv,.int .i64 (-1),.slice none 0 0,.bool false] 67:=by rw[←hw4];exact hX2.put 3 (.string rv)
 have g4:w2.grownBy w4 (some w.heap.size):=by rw[←hw4];exact aK (au (Below.refl w2.heap.size w2) _) _ _
 have bR:=eP.grown g4 eP.size (fun j hj=>by simp at hj;omega);have DX:=HM.out w4 bR;have c0:w4.cell? ⟨M,0,none⟩=some (.slice A m c):=DX.var.cell 0;have z0:=DX.var.free 0;have x0:w4.cell? ⟨w.heap.size,0,none⟩=some (.int .i64 k):=bg.cell 0;have x1:w4.cell? ⟨w.heap.size,1,none⟩=some (.string ⟨#[]⟩):=bg.cell 1;have x2:w4.cell? ⟨w.heap.size,2,none⟩=some (.slice none 0 0):=bg.cell 2;have x3:w4.cell? ⟨w.heap.size,3,none⟩=some (.string rv):=bg.cell 3;have x4:w4.cell? ⟨w.heap.size,4,none⟩=some (.int .i64 (-1)):=bg.cell 4;have x5:w4.cell? ⟨w.heap.size,5,none⟩=some (.slice none 0 0):=bg.cell 5;have x6:w4.cell? ⟨w.heap.size,6,none⟩=some (.bool false):=bg.cell 6;obtain⟨w5,fU⟩:=eX (w4.drew.alloc (.cells #[.int .i64 k,.string ⟨#[]⟩,.slice none 0 0,.string rv,.int .i64 (-1),.slice none 0 0,.bool false] 67))
 have eY:Below w4.heap.size w4 w5:=by rw[←fU];exact (aZ _ w4).alloc (Nat.le_refl _) _
 have dR:=bg.below eY bg.lt;have P8:=DX.below eY;have c5:w5.cell? ⟨M,0,none⟩=some (.slice A m c):=P8.var.cell 0;have z5:=P8.var.free 0;have hsrc:w5.ownsRow w4.heap.size 67 7 (.slice (some ⟨w4.heap.size,0,none⟩) 1 1) 1 [.int .i64 k,.string ⟨#[]⟩,.slice none 0 0,.string rv,.int .i64 (-1),.slice none 0 0,.bool false]:=by
  rw[←fU];exact World.ownsRow_lit (base:=w4.heap.size) (e:=67) (size:=7) w4.drew #[.int .i64 k,.string ⟨#[]⟩,.slice none 0 0,.string rv,.int .i64 (-1),.slice none 0 0,.bool false] 1 (Nat.le_refl _) (by unfold maxLen;omega) rfl
 have Ue:base≤w5.heap.size:=by have:=eY.size;have:=bR.size;omega
 have Kj:=zh (show w4.drew.cell? ⟨w.heap.size,0,none⟩=some (.int .i64 k)∧w4.drew.cell? ⟨w.heap.size,1,none⟩=some (.string ⟨#[]⟩)∧w4.drew.cell? ⟨w.heap.size,2,none⟩=some (.slice none 0 0)∧w4.drew.cell? ⟨w.heap.size,3,none⟩=some (.string rv)∧w4.drew.cell? ⟨w.heap.size,4,none⟩=some (.int .i64 (-1))∧w4.drew.cell? ⟨w.heap.size,5,none⟩=some (.slice none 0 0)∧w4.drew.cell? ⟨w.heap.size,6,none⟩=some (.bool false) from⟨bg.cell 0,bg.cell 1,bg.cell 2,bg.cell 3,bg.cell 4,bg.cell 5,bg.cell 6⟩);have IY:=zh (show w5.cell? ⟨w.heap.size,0,none⟩=some (.int .i64 k)∧w5.cell? ⟨w.heap.size,1,none⟩=some (.string ⟨#[]⟩)∧w5.cell? ⟨w.heap.size,2,none⟩=some (.slice none 0 0)∧w5.cell? ⟨w.heap.size,3,none⟩=some (.string rv)∧w5.cell? ⟨w.heap.size,4,none⟩=some (.int .i64 (-1))∧w5.cell? ⟨w.heap.size,5,none⟩=some (.slice none 0 0)∧w5.cell? ⟨w.heap.size,6,none⟩=some (.bool false) from⟨dR.cell 0,dR.cell 1,dR.cell 2,dR.cell 3,dR.cell 4,dR.cell 5,dR.cell 6⟩);have gL:=zh dR;have UG:=zh DX;have yA:=zh bR;have IZ:=zh eY;have wS:=P8.row;clear hX2 bg dR g4 eP hb2 DX bR eY HR;go_wp2_with fail;(try rw[hw4]);(try go_wp2_with fail);refine wp_region_noPanic ?_;refine wp_region_held_drew (S:=(fun W=>W.cell? ⟨w.heap.size,0,none⟩=some (.int .i64 k)∧W.cell? ⟨w.heap.size,1,none⟩=some (.string ⟨#[]⟩)∧W.cell? ⟨w.heap.size,2,none⟩=some (.slice none 0 0)∧W.cell? ⟨w.heap.size,3,none⟩=some (.string rv)∧W.cell? ⟨w.heap.size,4,none⟩=some (.int .i64 (-1))∧W.cell? ⟨w.heap.size,5,none⟩=some (.slice none 0 0)∧W.cell? ⟨w.heap.size,6,none⟩=some (.bool false))) (by kernel_rfl) ?_ (fun ah=>?_)
 ·exact Kj.out
 refine bE [0,1,2,3,5] ?_;iterate 5 (refine jf ?_;try simp only[pS])
 refine bF ?_;apply yU
 ·intro KEY;refine yg 4 6 (fun K hK=>?_) fun K hK=>?_
  ·go_simp;refine hK.out _ _ (Kj.out) fun ah=>?_;clear hK K;(try simp only[pS]);refine bI 6 fun K hK=>?_;go_simp;(try rw[fU]);refine hK.out _ _ (IY.out) fun ah=>?_;clear hK K;(try simp only[pS]);exact KEY
  ·go_simp;(try rw[fU]);refine hK.out _ _ (IY.out) fun ah=>?_;clear hK K;(try simp only[pS]);refine bI 4 fun K hK=>?_;go_simp;refine hK.out _ _ (IY.out) fun ah=>?_;clear hK K;(try simp only[pS]);exact KEY
 refine bI 7 fun K hK=>?_;refine cu rfl _ _ 68 rfl base w4.heap.size 67 i0 (.agg #[.int .i64 0,.string ⟨#[]⟩,.slice none 0 0,.string ⟨#[]⟩,.int .i64 0,.slice none 0 0,.bool false]) 7 104 Tryz.underlying68 hi0 hz0 hz1 hz2 rfl (by decide) _ m (bO pQ m f) rfl wS _ 1 [.int .i64 k,.string ⟨#[]⟩,.slice none 0 0,.string rv,.int .i64 (-1),.slice none 0 0,.bool false] rfl hsrc ?c3 ?c4 ?c5 Ue ?_
 case c3=>exact lT ⟨k,⟨#[]⟩,⟨none,0,0⟩,[],rv,-1,⟨none,0,0⟩,[],false⟩
 case c4=>unfold maxLen;omega
 case c5=>omega
 intro v6 w6 o6 g6 f6;obtain⟨A6,c6,rfl⟩:=aG (aH o6);have hpush:=UG.out.push (x:=⟨k,⟨#[]⟩,⟨none,0,0⟩,[],rv,-1,⟨none,0,0⟩,[],false⟩) IZ.out g6 o6 f6 rfl rfl (TR.nil _ _ _ _);obtain⟨v6,qQ,yh⟩:=hpush;have k6:w6.cell? ⟨M,0,none⟩=some (.slice A m c):=v6.cell 0;have k6f:=v6.free 0;have fQ:=gL.out.grown g6 (fun e=>by have:=TY.out _ e.symm;omega);obtain⟨w7,hw7⟩:=eX (w6.setCell ⟨M,0,none⟩ (.slice A6 (m+1) c6))
 rw[hw7] at qQ yh;have aP:Whole w7 w.heap.size #[.int .i64 k,.string ⟨#[]⟩,.slice none 0 0,.string rv,.int .i64 (-1),.slice none 0 0,.bool false] 67:=by rw[←hw7];exact fQ.other (by show w.heap.size≠M;omega) _
 have Sn:=(⟨fQ.cell 0,fQ.cell 1,fQ.cell 2,fQ.cell 3,fQ.cell 4,fQ.cell 5,fQ.cell 6⟩:w6.cell? ⟨w.heap.size,0,none⟩=some (.int .i64 k)∧w6.cell? ⟨w.heap.size,1,none⟩=some (.string ⟨#[]⟩)∧w6.cell? ⟨w.heap.size,2,none⟩=some (.slice none 0 0)∧w6.cell? ⟨w.heap.size,3,none⟩=some (.string rv)∧w6.cell? ⟨w.heap.size,4,none⟩=some (.int .i64 (-1))∧w6.cell? ⟨w.heap.size,5,none⟩=some (.slice none 0 0)∧w6.cell? ⟨w.heap.size,6,none⟩=some (.bool false))
 have qR:=(⟨aP.cell 0,aP.cell 1,aP.cell 2,aP.cell 3,aP.cell 4,aP.cell 5,aP.cell 6⟩:w7.cell? ⟨w.heap.size,0,none⟩=some (.int .i64 k)∧w7.cell? ⟨w.heap.size,1,none⟩=some (.string ⟨#[]⟩)∧w7.cell? ⟨w.heap.size,2,none⟩=some (.slice none 0 0)∧w7.cell? ⟨w.heap.size,3,none⟩=some (.string rv)∧w7.cell? ⟨w.heap.size,4,none⟩=some (.int .i64 (-1))∧w7.cell? ⟨w.heap.size,5,none⟩=some (.slice none 0 0)∧w7.cell? ⟨w.heap.size,6,none⟩=some (.bool false))
 have bf:=zh (And.intro qQ ((aB.of_below yA.out).trans yh));clear qQ yh aP fQ o6 g6 f6 v6;refine hK.out _ _ (Sn) fun ah=>?_;clear hK K;(try simp only[pS]);refine bE [8,9] ?_;iterate 2 (refine jf ?_;try simp only[pS])
 refine bF ?_;refine bI 10 fun K hK=>?_;go_simp;(try rw[hw7]);refine hK.out _ _ (qR) fun ah=>?_;clear hK K;(try simp only[pS]);refine gq ?_;go_wp2_with fail
 go_ret
 exact⟨_,rfl,bf.out.1,bf.out.2⟩
theorem JI (M:Nat) (vA:Value) (nm dt:ByteArray) (w:World) (hs:nm.size≤10000) (he:Nm.elem nm=false):
  Calls Tryz.prog 48 #[.pointer (some ⟨M,0,none⟩),.int .i64 2,.string nm,.string dt,vA] w fun e w'=>e=.returned (.int .i64 1)∧Below w.heap.size w w':=by
 obtain⟨w1,hw1⟩:=eX (w.alloc (.cells #[.int .i64 2,.string ⟨#[]⟩,.slice none 0 0,.string ⟨#[]⟩,.int .i64 (-1),.slice none 0 0,.bool false] 67))
 have hb1:Below w.heap.size w w1:=gP hw1;have hR:=vw nm w1 hs;rw[he] at hR;have HR:=zh hR;have HB1:=zh hb1;have HW1:=zh hw1;clear hR hb1 hw1
 go_enter Tryz.func48,Tryz.ntmps48
 go_wp2_with fail;rw[HW1.out];refine HR.out.mono ?_;rintro e w2 ⟨rfl,hb2⟩;have hbF:=HB1.out.trans (hb2.mono HB1.out.size);have Yb:=zh hbF;clear hb2 hbF HR;go_wp2_with fail
 go_ret
 exact⟨rfl,Yb.out⟩
structure qM where
 kind:Int
 a:Int
 b:Int
 c:Int
 s:ByteArray
 t:ByteArray
 n:Int
 k:Int
def abb (o:qM):List Value:=[.int .u8 o.kind,.int .u8 o.a,.int .u8 o.b,.int .u8 o.c,.string o.s,.string o.t,.int .i8 o.n,.int .i8 o.k]
def LU (w:World) (v:Value) (n:Nat) (F:Nat→qM):Prop:=∃ A c,v=.slice A n c∧(0<n→∃ g o,A=some ⟨g,o,none⟩∧∀ i j u,i<n→(abb (F i))[j]?=some u→w.cell? ⟨g,o+i*8+j,none⟩=some u)
theorem LU.below {w w':World} {v:Value} {n:Nat} {F:Nat→qM} (h:LU w v n F) (hb:Below w.heap.size w w'):LU w' v n F:=by
 obtain⟨A,c,rfl,h2⟩:=h;refine⟨A,c,rfl,fun hn=>?_⟩;obtain⟨g,o,hA,h3⟩:=h2 hn;refine⟨g,o,hA,fun i j u hi hu=>?_⟩;have h4:=h3 i j u hi hu;exact (hb.cell (p:=⟨g,o+i*8+j,none⟩) (World.block_lt_of_cell? w _ h4)).trans h4
def abd (n:Nat) (F:Nat→qM) (w:World) (e:Ending) (w':World):Prop:=∃ r:Bool,e=.returned (.bool r)∧w'=w∧(r=true→n≤60∧∀ i,i<n→(F i).s.size≤40∧(F i).t.size≤40)
theorem QH (v:Value) (n:Nat) (F:Nat→qM) (w:World) (H:LU w v n F) (hn:n≤9223372036854775807):
  Calls Tryz.prog 11 #[v] w fun e w'=>abd n F w e w':=by
 obtain⟨A,c,rfl,hc⟩:=H;have HC:=zh hc;clear hc
 go_enter Tryz.func11,Tryz.ntmps11
 go_wp2_with fail
 go_loopw [3] (fun u wr=>∃ j:Nat,u=.int .i64 (j:Int)∧j≤n∧wr=w∧∀ i,i<j→(F i).s.size≤40∧(F i).t.size≤40) (fun u _=>n - (intOf u).toNat)
 case atStart=>exact⟨0,rfl,Nat.zero_le _,rfl,fun i hi=>absurd hi (Nat.not_lt_zero _)⟩
 case round=>
  obtain⟨j,rfl,hj,rfl,hall⟩:=hrel;have wP:=zh hall;clear hall;have j0:(0:Int)≤(j:Int):=by omega
  by_cases hjn:j<n
  ·have j1:(j:Int)<(n:Int):=by omega
   obtain⟨g,o,rfl,hcell⟩:=HC.out (by omega);have c4:=hcell j 4 _ hjn rfl;have c5:=hcell j 5 _ hjn rfl;clear hcell;by_cases h1:(40:Int)<((F j).s.size:Int)
   ·go_wp2_with fail
    go_ret
    exact⟨false,rfl,rfl,fun h=>by cases h⟩
   ·by_cases h2:(40:Int)<((F j).t.size:Int)
    ·go_wp2_with fail
     go_ret
     exact⟨false,rfl,rfl,fun h=>by cases h⟩
    ·go_wp2_with fail
     go_roundw
     case rel=>exact⟨j+1,by go_num,by omega,by trivial,fun i hi=>by
      by_cases e:i=j
      ·subst e;omega
      ·exact wP.out i (by omega)⟩
     case measure=>simp[intOf];omega
  ·have sI:j=n:=by omega
   subst sI;have j1:¬ (j:Int)<(j:Int):=by omega
   go_wp2_with fail
   go_ret
   exact⟨decide ((j:Int)≤60),rfl,rfl,fun h=>⟨by have:=of_decide_eq_true h;omega,wP.out⟩⟩
end
section
open Go Go.RowKit
abbrev zL3 (T B M gh oh m ch:Nat) (W:World):Prop:=W.cell? ⟨T,0,none⟩=some (.pointer (some ⟨B,0,none⟩))∧W.cell? ⟨T,1,none⟩=some (.pointer (some ⟨M,0,none⟩))∧W.cell? ⟨T,2,none⟩=some (.slice (some ⟨gh,oh,none⟩) m ch)
abbrev GQ (T B M gh oh m ch X:Nat) (o:qM) (W:World):Prop:=W.cell? ⟨T,0,none⟩=some (.pointer (some ⟨B,0,none⟩))∧W.cell? ⟨T,1,none⟩=some (.pointer (some ⟨M,0,none⟩))∧W.cell? ⟨T,2,none⟩=some (.slice (some ⟨gh,oh,none⟩) m ch)∧W.cell? ⟨X,4,none⟩=some (.string o.s)∧W.cell? ⟨X,5,none⟩=some (.string o.t)
abbrev jl (T B M gh oh m ch X ia:Nat) (h:Int) (o:qM) (W:World):Prop:=W.cell? ⟨T,0,none⟩=some (.pointer (some ⟨B,0,none⟩))∧W.cell? ⟨T,1,none⟩=some (.pointer (some ⟨M,0,none⟩))∧W.cell? ⟨T,2,none⟩=some (.slice (some ⟨gh,oh,none⟩) m ch)∧W.cell? ⟨gh,oh+ia,none⟩=some (.int .i64 h)∧W.cell? ⟨X,4,none⟩=some (.string o.s)∧W.cell? ⟨X,5,none⟩=some (.string o.t)∧W.cell? ⟨X,6,none⟩=some (.int .i8 o.n)∧W.cell? ⟨X,7,none⟩=some (.int .i8 o.k)
abbrev AB (T B M gh oh m ch X ia:Nat) (h:Int) (o:qM) (ib:Nat) (p:Int) (W:World):Prop:=W.cell? ⟨T,0,none⟩=some (.pointer (some ⟨B,0,none⟩))∧W.cell? ⟨T,1,none⟩=some (.pointer (some ⟨M,0,none⟩))∧W.cell? ⟨T,2,none⟩=some (.slice (some ⟨gh,oh,none⟩) m ch)∧W.cell? ⟨gh,oh+ia,none⟩=some (.int .i64 h)∧W.cell? ⟨X,4,none⟩=some (.string o.s)∧W.cell? ⟨X,5,none⟩=some (.string o.t)∧W.cell? ⟨X,6,none⟩=some (.int .i8 o.n)∧W.cell? ⟨X,7,none⟩=some (.int .i8 o.k)∧W.cell? ⟨gh,oh+ib,none⟩=some (.int .i64 p)
/-- An operation of the law as it lies in memory. -/
abbrev zOp (o:qM):Array Value:=#[.int .u8 o.kind,.int .u8 o.a,.int .u8 o.b,.int .u8 o.c,.string o.s,.string o.t,.int .i8 o.n,.int .i8 o.k]
end
section
open Go.RowKit
theorem Ey (base M m:Nat) (vs:Value) (f:Nat→RS) (p h:Nat) (c:Int) (w:World) (H:MV base w M vs m f) (hw:Tr.WF (-1) (mg m f)) (hpm:p<m) (hpg:(f p).gone=false) (hhm:h<m) (I4:(f 0).gone=false) (hm:m≤100000)
  (hno:jP m f p h=false∨∃ j:Nat,c=(j:Int)∧j<m∧(f j).pa≠(p:Int)):
  Calls Tryz.prog 50 #[.pointer (some ⟨M,0,none⟩),.int .i64 (p:Int),.int .i64 (h:Int),.int .i64 c] w fun e w'=>e=.returned (nU 10)∧w'=w:=by
 obtain⟨A,c0,rfl⟩:=H.form;obtain⟨g,rfl,-⟩:=H.read hpm;have hCH:=uG base M m _ f p h w H hw hpm hpg hhm I4 hm;obtain⟨k0,-⟩:=H.rd hpm;cases hch:jP m f p h with
 | false=>
  rw[hch] at hCH;have qX:=zh hCH;clear H hw hno hCH hch
  go_enter Tryz.func50,Tryz.ntmps50
  go_wp2_with fail;refine nN qX.out ?_;clear qX;go_wp2_with fail;go_ret2;exact⟨rfl,rfl⟩
 | true=>
  obtain⟨j,rfl,hj,hjp⟩:∃ j:Nat,c=(j:Int)∧j<m∧(f j).pa≠(p:Int):=by
   rcases hno with e | e
   ·rw[hch] at e;cases e
   ·exact e
  rw[hch] at hCH;have qX:=zh hCH;obtain⟨-,-,-,-,-,c4,-⟩:=H.rd hj;obtain⟨x,hx⟩:=eX ((f j).pa)
  rw[hx] at c4 hjp;have q0:(0:Int)≤(j:Int):=by omega
  have q1:(j:Int)<(m:Int):=by omega
  have q2:(x != (p:Int))=true:=bne_true hjp;clear H hw hno hCH hch hx hjp
  go_enter Tryz.func50,Tryz.ntmps50
  go_wp2_with fail;refine nN qX.out ?_;clear qX;go_wp2_with fail;go_ret2;exact⟨rfl,rfl⟩
theorem BI (base M m:Nat) (vs:Value) (f:Nat→RS) (p h:Nat) (c:Int) (w:World) (H:MV base w M vs m f) (hw:Tr.WF (-1) (mg m f)) (hpm:p<m) (hpg:(f p).gone=false) (hhm:h<m) (uM:(f h).gone=false) (I4:(f 0).gone=false) (hm:m≤100000)
  (hch:jP m f p h=true) (hc:c = -1∨∃ j:Nat,c=(j:Int)∧j<m∧(f j).pa=(p:Int)) (hlim:128<(Tr.dw (mg m f) (p:Int)).length+Tr.gu (mg m f) (h:Int)):
  Calls Tryz.prog 50 #[.pointer (some ⟨M,0,none⟩),.int .i64 (p:Int),.int .i64 (h:Int),.int .i64 c] w fun e w'=>e=.returned (nU 5)∧w'=w:=by
 obtain⟨A,c0,rfl⟩:=H.form;obtain⟨g,rfl,-⟩:=H.read hpm;have hup:=(hw.dY (p:Int)).2;have UU:=hw.qw (h:Int);obtain⟨dp,hdp⟩:=eX ((Tr.dw (mg m f) (p:Int)).length)
 obtain⟨ht,hht⟩:=eX (Tr.gu (mg m f) (h:Int))
 have qX:=zh (uG base M m _ f p h w H hw hpm hpg hhm I4 hm);rw[hch] at qX;have Qz:=zh (zC base M m _ f (p:Int) w H hw (.inr (by rw[jX hpm,hpg];rfl)) hm);have Fx:=zh (xL base M m _ f hw hm (h:Int) (by rw[jX hhm,uM];rfl) w H);rw[hdp] at Qz hlim hup;rw[hht] at Fx hlim UU;have WT:(128:Int)<(dp:Int)+(ht:Int):=by omega
 have abQ:ht≤129:=by omega
 obtain⟨k0,-⟩:=H.rd hpm;rcases hc with rfl | ⟨j,rfl,hj,hjp⟩
 ·clear H hw hch hdp hht UU hlim
  go_enter Tryz.func50,Tryz.ntmps50
  go_wp2_with fail;refine nN qX.out ?_;go_wp2_with fail;refine nN Qz.out ?_;go_wp2_with fail;refine nN Fx.out ?_;clear qX Qz Fx;go_wp2_with fail;go_ret2;exact⟨rfl,rfl⟩
 ·obtain⟨-,-,-,-,-,c4,-⟩:=H.rd hj;rw[hjp] at c4;have q0:(0:Int)≤(j:Int):=by omega
  have q1:(j:Int)<(m:Int):=by omega
  clear H hw hch hdp hht UU hlim hjp
  go_enter Tryz.func50,Tryz.ntmps50
  go_wp2_with fail;refine nN qX.out ?_;go_wp2_with fail;refine nN Qz.out ?_;go_wp2_with fail;refine nN Fx.out ?_;clear qX Qz Fx;go_wp2_with fail;go_ret2;exact⟨rfl,rfl⟩
theorem MX (base B:Nat) (b s root p h:Int) (live n:Nat) (g:Tr.G) (fr:List Nat) (vs vf:Value) (c d l r:List Int) (ok:ByteArray→Prop) (w:World) (hm:TV base w B b s vs n (Tr.raw g wB) vf fr live root) (hS:Sound b s n (Tr.raw g wB) fr live) (D:Tr.Deep g root c d ok)
  (hp:Tr.Line g 0 (l++[p])) (hh:Tr.Line g 0 (h::r)) (hn:((l++[p])++h::r).Nodup) (hr:h≠root) (hlim:(l++[p]).length+(h::r).length≤128):
  Calls Tryz.prog 19 #[.pointer (some ⟨B,0,none⟩),.int .i64 p,.int .i64 h,.int .i64 0] w fun e w'=>∃ v,e=.returned (.tuple #[v,.int .i64 0])∧bG w.heap.size w' v [Tr.jL (Tr.bn g p h 0) 1 h]∧
   TV base w' B b s vs n (Tr.raw (Tr.bn g p h 0) wB) vf fr live root∧Sound b s n (Tr.raw (Tr.bn g p h 0) wB) fr live∧aB w w' (aD B vs vf) (aD B vs vf):=by
 obtain⟨h0,ip,ih,hpa,hnu,hlen,hw',hl',_⟩:=D.joined hp hh hn hr hlim;obtain⟨mp,ep⟩:=Option.isSome_iff_exists.1 ip;obtain⟨mh,eh⟩:=Option.isSome_iff_exists.1 ih;have H:rM base B b s root p h 0 live n g wB fr vs vf mp mh w:=⟨hm,hS,D.wf,ep,eh,fun e=>absurd rfl e⟩
 have hi:=Cg base B b s root p h 0 live n g wB fr vs vf mp mh w H (D.may hp eh hr) hnu (fun e=>absurd rfl e) (by rw[hlen];exact hlim);rw[Tr.MF hpa,Tr.MG h0,show Tr.fJ g h=[] from if_pos hpa,List.nil_append] at hi;have wJ:h≠p:=fun e=>by rw[D.wf.bJ ep,e] at hnu;exact hnu (by simp)
 have hS':=qx hS D.wf eh (by rw[←Tr.aM eh];exact hpa) ep wJ (c:=0) (.inl rfl);refine hi.mono ?_;rintro e w' ⟨v,he,hrr,h1,h2⟩;exact⟨v,he,hrr,h1,hS',h2⟩
theorem F3 {b s:Int} {n live:Nat} {g:Tr.G} {av:Int→Tr.Sl} {fr:List Nat} (hS:Sound b s n (Tr.raw g av) fr live) (hw:Tr.WF 0 g) (h:Int):(Tr.ak g h).length≤n:=by
 have h1:=Tr.qK (m:=(gV b s (Tr.raw g av) n).map (·.1)) (hw.gF h) fun x hx=>by
  obtain⟨m,e,_⟩:=hw.bS hx;exact (Fw hS x).2 (by rw[e];rfl)
 rw[List.length_map] at h1;exact Nat.le_trans h1 (Fv b s (Tr.raw g av) n)
def UW (nm:ByteArray):Prop:=nm.size≤20000∧Nm.elem nm=true
theorem Ru (base B:Nat) (b s root:Int) (live n:Nat) (g:Tr.G) (fr:List Nat) (vs vf:Value) (c d:List Int) (nm:ByteArray) (w:World) (hm:TV base w B b s vs n (Tr.raw g wB) vf fr live root) (hS:Sound b s n (Tr.raw g wB) fr live) (D:Tr.Deep g root c d UW) (hbase:base≤w.heap.size) (hn:n<100000) (hl:live<20000) (hok:UW nm) (hT:Lit w):
  Calls Tryz.prog 46 #[.pointer (some ⟨B,0,none⟩),.int .i64 2,.string nm,.string ⟨#[]⟩,.slice none 0 0] w fun e w'=>∃ (h:Int) (g':Tr.G) (vs' bV:Value) (n':Nat) (fr':List Nat),e=.returned (.tuple #[.int .i64 h,.int .i64 0])∧n'≤n+1∧h≠0∧h∉(root::c)++d∧
   TV base w' B b s vs' n' (Tr.raw g' wB) bV fr' (live+1) root∧Sound b s n' (Tr.raw g' wB) fr' (live+1)∧Tr.Deep g' root c d UW∧Tr.Line g' 0 [h]∧aB w w' (aD B vs vf) (aD B vs' bV):=by
 refine (MC base B b s root live n g wB fr vs vf nm w hm hS D.wf hbase hn hl hok.1 hok.2 hT).mono ?_;rintro e w' ⟨h,vs',bV,n',fr',he,h1,h2,h3,h4,h5,_,h7⟩;rw[KG] at h4 h5;obtain⟨k1,k2⟩:=D.add h2 h3 (nm:=nm) hok;exact⟨h,_,vs',bV,n',fr',he,h1,h3,D.not_mem h2,h4,h5,k1,k2,h7⟩
theorem Rv {base:Nat} {w:World} {v:Value} {r:Tr.Rec} (h:bG base w v [r]):∃ g c,v=.slice (some ⟨g,0,none⟩) 1 c∧w.cell? ⟨g,0,none⟩=some (.int .i64 r.kind):=by
 obtain⟨A,c,rfl⟩:=aG (aH h);obtain⟨g,rfl,_,hc⟩:=iJ (aH h) (show 0<[r].length by simp);exact⟨g,c,rfl,hc 0 _ rfl⟩
theorem MZ {a:UInt8} (h:a.toNat≤127) (r:List UInt8):bD.rep (a::r)=a::bD.rep r:=by
 have hs:bD.size (a::r)=1:=bD.gG (.one a r h);rw[bD.vN (by omega),hs];rfl
theorem GR {c:UInt8} (h1:97≤c.toNat) (h2:c.toNat≤122) (h3:Nm.bad c=false):Nm.elem ⟨#[c]⟩=true:=by
 unfold Nm.elem;show (decide (97≤c.toNat) && decide (c.toNat≤122) && Nm.plain ⟨#[c]⟩)=true;rw[decide_eq_true h1,decide_eq_true h2];unfold Nm.plain;rw[show (⟨#[c]⟩:ByteArray).data.toList=[c] from rfl,MZ (by omega),bD.ow];simp[h3]
theorem Rw {c:UInt8} (h:Nm.elem ⟨#[c]⟩=true):UW ⟨#[c]⟩:=⟨by show 1≤20000;omega,h⟩
theorem abe:UW ⟨#[112]⟩:=Rw (GR (by decide) (by decide) (by decide))
theorem Cx (w:World) (hT:Lit w):
  Calls Tryz.prog 10 #[] w fun e w'=>e=.returned (.bool true)∧Below w.heap.size w w':=by
 go_enter Tryz.func10,Tryz.ntmps10
 go_wp2_with fail;refine (KH 0 0 w).mono ?_;rintro e w1 ⟨B,vs,vf,rfl,hm,hS,hw,hb1⟩;have hH:Ar.hdl 0 0 0≠0:=by have:=(og (b:=0) (s:=0) (i:=0) (by omega)).1;intro e;rw[show ((0:Nat):Int)=0 from rfl,e] at this;omega
 obtain⟨root,hroot⟩:=eX (Ar.hdl 0 0 0)
 rw[hroot] at hm hS hw hH;have D:Tr.Deep (Tr.dI AQ root oO) root [] [] UW:=Tr.Deep.start hH;obtain⟨g,hg⟩:=eX (Tr.dI AQ root oO)
 rw[hg] at hm hS D;obtain⟨_,_,_,_,_,r5⟩:=hm.cells;have HMK:=zh (Ru w.heap.size B 0 0 root 1 1 g [] vs vf [] [] ⟨#[112]⟩ w1 hm hS D hb1.size (by omega) (by omega) abe (hT.below hb1));have hlo:=fun k hk=>(hm.lt k hk).1;clear hS hw hroot hg;go_wp2_with fail;refine HMK.out.mono ?_;rintro e w2 ⟨h,g2,vs2,RU,n2,Yw,rfl,h1,h2,h3,hm2,hS2,D2,L2,hst⟩;have hb2:Below w.heap.size w w2:=hb1.trans (hst.1.below hb1.size hlo);obtain⟨_,_,_,_,_,r52⟩:=hm2.cells;have hlen1:(([]:List Int)++[root]).length+[h].length≤128:=by simp
 have hr:h≠root:=fun e=>h3 (by rw[e];simp);have HI:=zh (MX w.heap.size B 0 0 root root h 2 n2 g2 Yw vs2 RU [] [] [] [] UW w2 hm2 hS2 D2 D2.main L2 (by simp[Ne.symm hr]) hr hlen1);have hlo2:=fun k hk=>(hm2.lt k hk).1;have hq:(h == 0)=false:=by simpa using h2
 have hq2:(h != 0)=true:=by simpa using h2
 clear hm hS2 D L2 r5 hlo D2 h3 hr HMK hst h2;go_wp2_with fail;refine HI.out.mono ?_;rintro e w3 ⟨v,rfl,hrr,_,_,Yf⟩;obtain⟨gr,cr,rfl,hk⟩:=Rv hrr;have hk1:w3.cell? ⟨gr,0,none⟩=some (.int .i64 1):=hk;have hb3:Below w.heap.size w w3:=hb2.trans (Yf.1.below hb2.size hlo2);clear HI hrr Yf hk;go_wp2_with fail
 go_ret
 exact⟨rfl,hb3⟩
end
end Go.Proofs.YtnbaadpgbcklaaaGreatDoor
