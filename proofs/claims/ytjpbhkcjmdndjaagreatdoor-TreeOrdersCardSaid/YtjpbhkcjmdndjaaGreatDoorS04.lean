/- Part of a proof about trees. -/
import Derived.Test.YtjpbhkcjmdndjaaGreatDoorGNRsa
set_option linter.unusedVariables false
set_option linter.unusedSimpArgs false
set_option maxHeartbeats 4000000
set_option maxRecDepth 100000
namespace Go.Proofs.YtjpbhkcjmdndjaaGreatDoor
section
open Go.RowKit
def hof (hs:List Int) (x:Int):Int:=if x<0 then 0 else hs.getD x.toNat 0
structure pF (w:World) (T B M:Nat) (vh:Value) (hs:List Int):Prop where
 var:Whole w T #[.pointer (some ⟨B,0,none⟩),.pointer (some ⟨M,0,none⟩),vh] 33
 row:TR w 0 3 1 vh hs.length (ints hs)
theorem pF.below {w w':World} {T B M:Nat} {vh:Value} {hs:List Int} (h:pF w T B M vh hs) (hb:Below w.heap.size w w'):pF w' T B M vh hs:=⟨h.var.below hb h.var.lt,h.row.below hb⟩
theorem Lu {hs:List Int} {x:Int} (h:x<0):hof hs x=0:=if_pos h
theorem Sy {hs:List Int} {x:Int} (h:(hs.length:Int)≤x):hof hs x=0:=by
 unfold hof;rw[if_neg (by omega),List.getD_eq_getElem?_getD,List.getElem?_eq_none (by omega)];rfl
theorem sF {hs:List Int} {j:Nat} {x:Int} (h:hs[j]?=some x):hof hs (j:Int)=x:=by
 unfold hof;rw[if_neg (by omega),List.getD_eq_getElem?_getD,Int.toNat_natCast,h];rfl
theorem fZ (T B M:Nat) (vh:Value) (hs:List Int) (x:Int) (w:World) (H:pF w T B M vh hs):
  Calls Tryz.prog 22 #[.pointer (some ⟨T,0,none⟩),.int .i64 x] w fun e w'=>e=.returned (.int .i64 (hof hs x))∧w'=w:=by
 obtain⟨A,c,rfl⟩:=H.row.form;have c2:w.cell? ⟨T,2,none⟩=some (.slice A hs.length c):=H.var.cell 2;obtain⟨n,hn⟩:=eX (hs.length)
 have HN:=zh hn;by_cases h0:x<0
 ·have HE:=zh (Lu (hs:=hs) h0);clear H hn
  go_enter Tryz.func22,Tryz.ntmps22
  go_wp2_with fail
  go_ret
  exact⟨by rw[HE.out];rfl,rfl⟩
 ·obtain⟨j,rfl⟩:=Int.eq_ofNat_of_zero_le (by omega:0≤x);have j0:(0:Int)≤(j:Int):=by omega
  rw[hn] at c2;by_cases hj:j<n
  ·obtain⟨y,hy⟩:∃ y,hs[j]?=some y:=⟨hs[j]'(by omega),by simp⟩
   have HE:=zh (sF hy);have hlen:0<hs.length:=by omega
   obtain⟨g,o,rfl,-,-,hcs,-⟩:=H.row.cells hlen;have ck:=hcs j _ (by omega) (dP hy);have j1:¬ (n:Int)≤(j:Int):=by omega
   have j2:(j:Int)<(n:Int):=by omega
   clear H hn hy hcs hlen
   go_enter Tryz.func22,Tryz.ntmps22
   go_wp2_with fail
   go_ret
   exact⟨by rw[HE.out];rfl,rfl⟩
  ·have HE:=zh (Sy (hs:=hs) (x:=(j:Int)) (by omega));have j1:(n:Int)≤(j:Int):=by omega
   clear H hn
   go_enter Tryz.func22,Tryz.ntmps22
   go_wp2_with fail
   go_ret
   exact⟨by rw[HE.out];rfl,rfl⟩
def Kc:RS:=⟨1,⟨#[]⟩,⟨none,0,0⟩,[],⟨#[]⟩,-1,⟨none,0,0⟩,[],false⟩
theorem Qi (w:World):
  Calls Tryz.prog 20 #[] w fun e w'=>∃ M vs,e=.returned (.pointer (some ⟨M,0,none⟩))∧MV w.heap.size w' M vs 1 (fun _=>Kc)∧Below w.heap.size w w':=by
 obtain⟨w1,hw1⟩:=eX (w.alloc (.cells #[.int .i64 1,.string ⟨#[]⟩,.slice none 0 0,.string ⟨#[]⟩,.int .i64 (-1),.slice none 0 0,.bool false] 52))
 have hrow:w1.ownsRow w.heap.size 52 7 (.slice (some ⟨w.heap.size,0,none⟩) 1 1) 1 (bQ p8 1 fun _=>Kc):=by
  rw[←hw1];exact World.ownsRow_lit (base:=w.heap.size) (e:=52) (size:=7) w #[.int .i64 1,.string ⟨#[]⟩,.slice none 0 0,.string ⟨#[]⟩,.int .i64 (-1),.slice none 0 0,.bool false] 1 (Nat.le_refl _) (by unfold maxLen;omega) rfl
 have hs1:w1.heap.size=w.heap.size+1:=by rw[←hw1];simp
 have hb1:Below w.heap.size w w1:=gU hw1;have hX:=Whole.new w1 #[.slice (some ⟨w.heap.size,0,none⟩) 1 1] 55;have hM:MV w.heap.size (w1.alloc (.cells #[.slice (some ⟨w.heap.size,0,none⟩) 1 1] 55)) w1.heap.size (.slice (some ⟨w.heap.size,0,none⟩) 1 1) 1 (fun _=>Kc):=
  ⟨by omega,hX,hrow.alloc _,fun i _=>TR.nil _ _ _ _,fun i _=>TR.nil _ _ _ _,fun i j h1 h2 h3=>by omega,fun i j h1 h2 h3=>by omega⟩
 rw[hs1] at hM;have HM:=zh (And.intro hM (hb1.alloc (by omega) (.cells #[.slice (some ⟨w.heap.size,0,none⟩) 1 1] 55)));clear hM hX hrow hb1
 go_enter Tryz.func20,Tryz.ntmps20
 go_wp2_with fail;(try rw[hw1]);try go_wp2_with fail
 go_ret
 exact⟨_,_,rfl,HM.out.1,HM.out.2⟩
theorem pF.made {W:World} {B M:Nat} {r:Int} {b0:Nat} (hrow:W.ownsRow b0 3 1 (.slice (some ⟨b0,0,none⟩) 1 1) 1 (ints [r])):pF (W.alloc (.cells #[.pointer (some ⟨B,0,none⟩),.pointer (some ⟨M,0,none⟩),.slice (some ⟨b0,0,none⟩) 1 1] 33)) W.heap.size B M (.slice (some ⟨b0,0,none⟩) 1 1) [r]:=
 ⟨Whole.new W _ _,(TR.jQ (hrow.alloc _)).zero⟩
def EL (b s:Int) (w:World) (e:Ending) (w':World):Prop:=∃ (T B M:Nat) (vs vf aQ vh:Value),e=.returned (.pointer (some ⟨T,0,none⟩))∧pF w' T B M vh [Ar.hdl b s 0]∧
 (∃ bT,w.heap.size≤bT∧TV bT w' B b s vs 1 (Tr.raw (Tr.dI Bu (Ar.hdl b s 0) pz) wM) vf [] 1 (Ar.hdl b s 0))∧Sound b s 1 (Tr.raw (Tr.dI Bu (Ar.hdl b s 0) pz) wM) [] 1∧Tr.WF 0 (Tr.dI Bu (Ar.hdl b s 0) pz)∧
 (∃ bM,MV bM w' M aQ 1 (fun _=>Kc)∧∀ k,aD B vs vf k→k<bM)∧Below w.heap.size w w'∧w.heap.size≤T∧∀ k,vh.ownBlock=some k→w.heap.size≤k∧¬ aD B vs vf k∧¬ aC M aQ 1 (fun _=>Kc) k
theorem Sz {b s:Int} {w w0 w1 W2:World} {B M:Nat} {vs vf aQ:Value} (hT:TV w0.heap.size w1 B b s vs 1 (Tr.raw (Tr.dI Bu (Ar.hdl b s 0) pz) wM) vf [] 1 (Ar.hdl b s 0)) (h0:w.heap.size≤w0.heap.size) (hSW:Sound b s 1 (Tr.raw (Tr.dI Bu (Ar.hdl b s 0) pz) wM) [] 1∧Tr.WF 0 (Tr.dI Bu (Ar.hdl b s 0) pz)) (hB1:Below w.heap.size w w1)
  (hM:MV w1.drew.heap.size W2 M aQ 1 (fun _=>Kc)∧Below w1.drew.heap.size w1.drew W2):
  EL b s w (.returned (.pointer (some ⟨W2.heap.size+1,0,none⟩))) ((W2.alloc (.cells #[.int .i64 (Ar.hdl b s 0)] 3)).alloc (.cells #[.pointer (some ⟨B,0,none⟩),.pointer (some ⟨M,0,none⟩),.slice (some ⟨W2.heap.size,0,none⟩) 1 1] 33)):=by
 have eG:Below w1.heap.size w1 W2:=(aZ _ w1).trans hM.2;have hs:=hB1.size;have hs2:=eG.size;have hrow:(W2.alloc (.cells #[.int .i64 (Ar.hdl b s 0)] 3)).ownsRow W2.heap.size 3 1 (.slice (some ⟨W2.heap.size,0,none⟩) 1 1) 1 (ints [Ar.hdl b s 0]):=World.ownsRow_lit (base:=W2.heap.size) (e:=3) (size:=1) W2 #[.int .i64 (Ar.hdl b s 0)] 1 (Nat.le_refl _) (by unfold maxLen;omega) rfl;have Nz:=pF.made (B:=B) (M:=M) hrow;rw[World.size_alloc] at Nz;have VU:Below W2.heap.size W2 ((W2.alloc (.cells #[.int .i64 (Ar.hdl b s 0)] 3)).alloc (.cells #[.pointer (some ⟨B,0,none⟩),.pointer (some ⟨M,0,none⟩),.slice (some ⟨W2.heap.size,0,none⟩) 1 1] 33)):=((Below.refl _ W2).alloc (Nat.le_refl _) _).alloc (by simp) _;exact⟨_,B,M,vs,vf,aQ,_,rfl,Nz,⟨_,h0,(hT.below eG).below VU⟩,hSW.1,hSW.2,⟨w1.heap.size,hM.1.below VU,fun k hk=>(hT.lt k hk).2⟩,(hB1.trans (eG.mono hs)).trans (VU.mono (Nat.le_trans hs hs2)),by omega,fun k hk=>by
  have e:W2.heap.size=k:=by simpa [Value.ownBlock] using hk
  subst e
  exact⟨by omega,fun hf=>by have:=(hT.lt _ hf).2;omega,fun hf=>by have:=(hM.1.lt _ hf).2;omega⟩⟩
theorem SA {b s:Int} {w w0 w1 W2:World} {B M:Nat} {vs vf aQ:Value} (hT:TV w0.heap.size w1 B b s vs 1 (Tr.raw (Tr.dI Bu (Ar.hdl b s 0) pz) wM) vf [] 1 (Ar.hdl b s 0)) (h0:w.heap.size≤w0.heap.size) (hSW:Sound b s 1 (Tr.raw (Tr.dI Bu (Ar.hdl b s 0) pz) wM) [] 1∧Tr.WF 0 (Tr.dI Bu (Ar.hdl b s 0) pz)) (hB1:Below w.heap.size w w1)
  (hM:MV (w1.drew.alloc (.cells #[.int .i64 (Ar.hdl b s 0)] 3)).heap.size W2 M aQ 1 (fun _=>Kc)∧Below (w1.drew.alloc (.cells #[.int .i64 (Ar.hdl b s 0)] 3)).heap.size (w1.drew.alloc (.cells #[.int .i64 (Ar.hdl b s 0)] 3)) W2):
  EL b s w (.returned (.pointer (some ⟨W2.heap.size,0,none⟩))) (W2.alloc (.cells #[.pointer (some ⟨B,0,none⟩),.pointer (some ⟨M,0,none⟩),.slice (some ⟨w1.heap.size,0,none⟩) 1 1] 33)):=by
 have Zg:Below w1.heap.size w1 (w1.drew.alloc (.cells #[.int .i64 (Ar.hdl b s 0)] 3)):=(aZ _ w1).alloc (Nat.le_refl _) _;have hsa:=Zg.size;have eG:Below w1.heap.size w1 W2:=Zg.trans (hM.2.mono hsa);have hs:=hB1.size;have hs2:=eG.size;have oF:(w1.drew.alloc (.cells #[.int .i64 (Ar.hdl b s 0)] 3)).ownsRow w1.heap.size 3 1 (.slice (some ⟨w1.heap.size,0,none⟩) 1 1) 1 (ints [Ar.hdl b s 0]):=World.ownsRow_lit (base:=w1.heap.size) (e:=3) (size:=1) w1.drew #[.int .i64 (Ar.hdl b s 0)] 1 (Nat.le_refl _) (by unfold maxLen;omega) rfl;have hrow:W2.ownsRow w1.heap.size 3 1 (.slice (some ⟨w1.heap.size,0,none⟩) 1 1) 1 (ints [Ar.hdl b s 0]):=oF.kept (ay hM.2 none) (.inr (by simp[Value.ownBlock]));have Nz:=pF.made (B:=B) (M:=M) hrow;have VU:Below W2.heap.size W2 (W2.alloc (.cells #[.pointer (some ⟨B,0,none⟩),.pointer (some ⟨M,0,none⟩),.slice (some ⟨w1.heap.size,0,none⟩) 1 1] 33)):=(Below.refl _ W2).alloc (Nat.le_refl _) _;exact⟨_,B,M,vs,vf,aQ,_,rfl,Nz,⟨_,h0,(hT.below eG).below VU⟩,hSW.1,hSW.2,⟨_,hM.1.below VU,fun k hk=>Nat.lt_of_lt_of_le (hT.lt k hk).2 hsa⟩,(hB1.trans (eG.mono hs)).trans (VU.mono (Nat.le_trans hs hs2)),by omega,fun k hk=>by
  have e:w1.heap.size=k:=by simpa [Value.ownBlock] using hk
  subst e;refine⟨by omega,fun hf=>by have:=(hT.lt _ hf).2;omega,fun hf=>?_⟩;have h1:=(hM.1.lt _ hf).1;rw[World.size_alloc] at h1;have h2:w1.drew.heap.size=w1.heap.size:=rfl
  omega⟩
theorem Md (b s:Int) (w:World):
  Calls Tryz.prog 6 #[xS b s] w fun e w'=>EL b s w e w':=by
 obtain⟨w0,hw0⟩:=eX (w.alloc (.cells #[.int .i64 b,.int .i64 s] 28))
 have hb0:Below w.heap.size w w0:=gU hw0;have hX:Whole w0 w.heap.size #[.int .i64 b,.int .i64 s] 28:=by rw[←hw0];exact Whole.new w _ _
 have s0:w0.cell? ⟨w.heap.size,0,none⟩=some (.int .i64 b):=hX.cell 0;have s1:w0.cell? ⟨w.heap.size,1,none⟩=some (.int .i64 s):=hX.cell 1;have HN:=zh (Lh b s w0);have HB0:=zh hb0;have HW0:=zh hw0;clear hX hb0 hw0
 go_enter Tryz.func6,Tryz.ntmps6
 go_wp2_with fail;(try rw[HW0.out]);(try go_wp2_with fail);refine HN.out.mono ?_;rintro e w1 ⟨B,vs,vf,rfl,hT,hS,hW,hb1⟩;have r0:=hT.cells.2.2.2.2.2;have HT:=zh hT;have HSW:=zh (And.intro hS hW);have HB1:=zh (HB0.out.trans (hb1.mono HB0.out.size));clear HN hT hS hW hb1;go_wp2_with fail;have hBl:B<w1.heap.size:=HT.out.var.lt
 go_region_with (refine (Qi _).mono ?_;rintro e W2 ⟨M,aQ,rfl,hMV,hbM⟩;(try have r2:W2.cell? ⟨B,5,none⟩=some (.int .i64 (Ar.hdl b s 0)):=(hbM.cell (p:=⟨B,5,none⟩) hBl).trans r0);have yP:=zh (And.intro hMV hbM);clear hMV hbM)
 all_goals go_wp2_with fail
 all_goals go_ret
 all_goals first | exact Sz HT.out HB0.out.size HSW.out HB1.out yP.out | exact SA HT.out HB0.out.size HSW.out HB1.out yP.out
theorem wH {hs:List Int} {h x:Int} (hx:x<(hs.length:Int)):hof (hs++[h]) x=hof hs x:=by
 unfold hof;by_cases e:x<0
 ·rw[if_pos e,if_pos e]
 ·rw[if_neg e,if_neg e,List.getD_eq_getElem?_getD,List.getD_eq_getElem?_getD,List.getElem?_append_left (by omega)]
theorem EM {hs:List Int} {h:Int}:hof (hs++[h]) (hs.length:Int)=h:=by
 unfold hof;rw[if_neg (by omega),List.getD_eq_getElem?_getD,Int.toNat_natCast,List.getElem?_append_right (Nat.le_refl _),Nat.sub_self];rfl
theorem mK {hs:List Int}:hof hs (-1)=0:=Lu (by omega)
theorem yR {m:Nat} {f:Nat→RS} (hw:Tr.WF (-1) (mg m f)) (h:Int):(Tr.ak (mg m f) h).length≤m:=by
 have hlive:∀ x∈Tr.ak (mg m f) h,∃ i:Nat,x=(i:Int)∧i<m:=fun x hx=>by
  obtain⟨i,h1,h2,_⟩:=jq (hw.jI hx);exact⟨i,h1,h2⟩
 have hnd:=hw.lN h;have PS:((Tr.ak (mg m f) h).map Int.toNat).Nodup:=by
  rw[List.nodup_iff_pairwise_ne,List.pairwise_map];refine (List.pairwise_iff_forall_sublist.2 ?_);intro a b hab e;obtain⟨j,h4,_⟩:=hlive a (hab.subset (by simp));obtain⟨j',h5,_⟩:=hlive b (hab.subset (by simp));have:a=b:=by rw[h4,h5] at e ⊢;simp at e;rw[e]
  exact (List.pairwise_iff_forall_sublist.1 (List.nodup_iff_pairwise_ne.1 hnd)) hab this
 have:=pV m _ PS (fun x hx=>by
  obtain⟨y,hy,rfl⟩:=List.mem_map.1 hx;obtain⟨j,h4,h5⟩:=hlive y hy
  rw[h4];simpa using h5)
 simpa using this
def og (a:Tr.G) (h:Int) (l:List Int):List Int:=h::l.flatMap (Tr.ak a)
theorem Ke (a:Tr.G) (h:Int) (l:List Int) (k:Int):og a h (l++[k])=og a h l++Tr.ak a k:=by
 unfold og;rw[List.flatMap_append];simp
theorem Qj (a:Tr.G) (h:Int) (l l':List Int):(og a h l).length≤(og a h (l++l')).length:=by
 unfold og;rw[List.flatMap_append];simp
theorem wW (base M m:Nat) (vs:Value) (f:Nat→RS) (hw:Tr.WF (-1) (mg m f)) (hm:m≤100000):∀ h,(mg m f h).isSome→∀ w,MV base w M vs m f→
  Calls Tryz.prog 14 #[.pointer (some ⟨M,0,none⟩),.int .i64 h] w fun e w'=>∃ v,e=.returned v∧TR w' w.heap.size 3 1 v (Tr.ak (mg m f) h).length (ints (Tr.ak (mg m f) h))∧Below w.heap.size w w':=by
 obtain⟨i0,hi0,hz0,hz1,hz2⟩:=info_parts rZ;refine hw.induct ?_;intro h ih hs w H;obtain⟨i,rfl,hi,hg,Y2⟩:=jq hs;have hle:=lS hw hi hg;obtain⟨A,c,rfl⟩:=H.form;have hr:Tr.ak (mg m f) (i:Int)=og (mg m f) i (f i).kids:=hw.dx Y2;have PU:=yR hw (i:Int);obtain⟨n,hn⟩:=eX ((f i).kids.length)
 rw[hn] at hle;obtain⟨g,rfl,-⟩:=H.read hi;have q1:(0:Int)≤(i:Int):=by omega
 have q2:(i:Int)<(m:Int):=by omega
 have Ta:=zh (fun (W:World) (hb:Below w.heap.size w W)=>show W.cell? ⟨M,0,none⟩=some (.slice (some ⟨g,0,none⟩) m c)∧W.cell? ⟨g,i*7+5,none⟩=some (.slice (f i).k.a n (f i).k.c) from by
  obtain⟨x,-,-,-,-,-,y,-⟩:=(H.below hb).rd hi
  rw[hn] at y;exact⟨x,y⟩)
 have HKC:=zh (fun (W:World) (hb:Below w.heap.size w W) (j:Nat) (k:Int) (hj:(f i).kids[j]?=some k)=>(H.below hb).kid hi hj);have Z5:=zh (fun (W:World) (hb:Below w.heap.size w W)=>H.below hb);have HI:=zh ih;have HR:=zh hr;have HB:=zh PU;have HW:=zh hw;have HN:=zh hn;have HG:=zh hg;obtain⟨w1,hw1⟩:=eX (w.alloc (.cells #[.int .i64 (i:Int)] 3))
 have hb1:Below w.heap.size w w1:=gU hw1;have Uc:TR w1 w.heap.size 3 1 (.slice (some ⟨w.heap.size,0,none⟩) 1 1) 1 (ints [(i:Int)]):=by
  rw[←hw1];exact TR.jQ (World.ownsRow_lit (base:=w.heap.size) (e:=3) (size:=1) w #[.int .i64 (i:Int)] 1 (Nat.le_refl _) (by unfold maxLen;omega) rfl)
 have HRW:=zh Uc;have HB1:=zh hb1;clear H ih hr PU hw Y2 hs hn hg Uc hb1
 go_enter Tryz.func14,Tryz.ntmps14
 go_wp2_with fail;(try rw[hw1]);go_wp2_with fail
 go_loopw [5,6] (fun v u wr=>∃ j:Nat,u=.int .i64 (j:Int)∧j≤n∧TR wr w.heap.size 3 1 v (og (mg m f) i ((f i).kids.take j)).length (ints (og (mg m f) i ((f i).kids.take j)))∧Below w.heap.size w wr) (fun _ u _=>n - (intOf u).toNat)
 case atStart=>exact⟨0,rfl,Nat.zero_le _,HRW.out,HB1.out⟩
 case round=>
  obtain⟨j,rfl,hj,o,hbr⟩:=hrel;obtain⟨k0,c5⟩:=Ta.out _ hbr;have j0:(0:Int)≤(j:Int):=by omega
  by_cases hjn:j<n
  ·have j1:(j:Int)<(n:Int):=by omega
   obtain⟨k,hk⟩:∃ k,(f i).kids[j]?=some k:=⟨(f i).kids[j]'(by rw[HN.out];exact hjn),by simp⟩
   obtain⟨ga,oa,hA,ck⟩:=HKC.out _ hbr j k hk;rw[hA] at c5;have hkm:k∈(f i).kids:=List.mem_of_getElem? hk;obtain⟨i',hki,hi',hg',_⟩:=Live.kid HW.out hi HG.out hkm;have hcall:=HI.out _ (aP hi HG.out) k hkm (by rw[hki,eB hi',hg'];rfl) _ (Z5.out _ hbr);have htk:(f i).kids.take (j+1)=(f i).kids.take j++[k]:=by rw[List.take_add_one,hk];rfl
   have hsn:og (mg m f) i ((f i).kids.take (j+1))=og (mg m f) i ((f i).kids.take j)++Tr.ak (mg m f) k:=by rw[htk,Ke]
   have hl1:(og (mg m f) i ((f i).kids.take (j+1))).length≤m:=by
    have h1:=Qj (mg m f) i ((f i).kids.take (j+1)) ((f i).kids.drop (j+1));rw[List.take_append_drop,←HR.out] at h1;have:=HB.out;omega
   have HX:=zh hsn;have HC:=zh hcall;obtain⟨P,hP⟩:=eX (og (mg m f) i ((f i).kids.take j))
   obtain⟨Q,hQ⟩:=eX (Tr.ak (mg m f) k)
   have HPQ:=zh (And.intro hP hQ);rw[hP] at o;rw[hsn,hP,hQ,List.length_append] at hl1;rw[hQ] at HC;clear hcall hsn htk hk hkm hki hA hP hQ;go_wp2_with fail;refine HC.out.mono ?_;rintro e w2 ⟨v2,rfl,o2,hb2⟩;have eU:=hbr.trans (hb2.mono hbr.size);have o':=o.below hb2;have src:=o2.source;have hyl:=o2.1;have hbs:=eU.size;clear HC o o2
   go_wp2_with (at_builtin;refine dM rfl _ _ 31 rfl w.heap.size 3 i0 (.int .i64 0) 1 8 Tryz.underlying31 hi0 hz0 hz1 hz2 rfl (by decide) _ P.length (ints P) rfl o' _ Q.length (ints Q) rfl hyl src (gH _) ?c3 ?c4 hbs ?_)
   case c3=>unfold maxLen;omega
   case c4=>omega
   intro v5 w5 o5 g5 f5;have hb5:=eU.grown g5 hbs (fun j hj=>(o'.lt j hj).1);have Uq:TR w5 w.heap.size 3 1 v5 (og (mg m f) i ((f i).kids.take (j+1))).length (ints (og (mg m f) i ((f i).kids.take (j+1)))):=by
    rw[HX.out,HPQ.out.1,HPQ.out.2,List.length_append,iB];exact o5
   have HO:=zh Uq;clear o5 Uq g5 f5 o' src hyl hbr eU hb2;go_wp2_with fail
   go_roundw
   case rel=>exact⟨j+1,by go_num,by omega,HO.out,hb5⟩
   case measure=>simp[intOf];omega
  ·have sQ:j=n:=by omega
   subst sQ;have htk:(f i).kids.take j=(f i).kids:=by rw[List.take_of_length_le];rw[HN.out];exact Nat.le_refl _
   rw[htk,←HR.out] at o;have HO:=zh o;clear o htk;have j1:¬ (j:Int)<(j:Int):=by omega
   go_wp2_with fail
   go_ret
   exact⟨_,rfl,HO.out,hbr⟩
def iX (f:Nat→RS) (l:List Int):Nat→RS:=fun j=>if (j:Int)∈l then { f j with gone:=true } else f j
theorem Nr (f:Nat→RS):iX f []=f:=by funext j;unfold iX;simp
theorem Kg (f:Nat→RS) (l:List Int) (i:Nat):iX f (l++[(i:Int)])=aV (iX f l) i fun n=>{ n with gone:=true }:=by
 funext j;unfold iX aV;by_cases e:j=i
 ·subst e;rw[if_pos (by simp),if_pos rfl];dsimp only;by_cases hl:(j:Int)∈l
  ·rw[if_pos hl]
  ·rw[if_neg hl]
 ·rw[if_neg e];have hiff:((j:Int)∈l++[(i:Int)])↔(j:Int)∈l:=by
   rw[List.mem_append,List.mem_singleton];exact⟨fun h=>by rcases h with h | h;exact h;omega,.inl⟩
  dsimp only;by_cases hl:(j:Int)∈l
  ·rw[if_pos (hiff.2 hl),if_pos hl]
  ·rw[if_neg (fun h=>hl (hiff.1 h)),if_neg hl]
theorem yG (f:Nat→RS) (l:List Int) (j:Nat):(iX f l j).a=(f j).a∧(iX f l j).k=(f j).k:=by
 unfold iX;split<;>exact⟨rfl,rfl⟩
theorem om (M m:Nat) (vs:Value) (f:Nat→RS) (l:List Int):aC M vs m (iX f l)=aC M vs m f:=by
 funext x;unfold aC;simp only[(yG f l _).1,(yG f l _).2]
theorem H8 (base M m:Nat) (vs:Value) (f:Nat→RS) (i:Nat) (w:World) (H:MV base w M vs m f) (hi:i<m) (h0:i=0∨∃ p:Nat,(f i).pa=(p:Int)):
  Calls Tryz.prog 34 #[.pointer (some ⟨M,0,none⟩),.int .i64 (i:Int)] w fun e w'=>e=.returned (.int .i64 7)∧w'=w:=by
 obtain⟨A,c,rfl⟩:=H.form;obtain⟨g,rfl,-⟩:=H.read hi;obtain⟨k0,-,-,-,-,c4,-⟩:=H.rd hi;by_cases hi0:i=0
 ·subst hi0;clear H h0
  go_enter Tryz.func34,Tryz.ntmps34
  go_wp2_with fail
  go_ret
  exact⟨rfl,rfl⟩
 ·obtain⟨p,hp⟩:∃ p:Nat,(f i).pa=(p:Int):=by rcases h0 with e | e;exact absurd e hi0;exact e
  rw[hp] at c4;have q1:(0:Int)≤(i:Int):=by omega
  have q2:(i:Int)<(m:Int):=by omega
  have q3:((i:Int) == 0)=false:=bZ (by omega);have q4:(0:Int)≤(p:Int):=by omega
  clear H h0 hp
  go_enter Tryz.func34,Tryz.ntmps34
  go_wp2_with fail
  go_ret
  exact⟨rfl,rfl⟩
theorem Qk (base M m:Nat) (vs:Value) (f:Nat→RS) (i:Nat) (w:World) (H:MV base w M vs m f) (hw:Tr.WF (-1) (mg m f)) (hi:i<m) (hg:(f i).gone=false) (hm:m≤100000) (h0:i≠0) (hp:(f i).pa = -1):
  Calls Tryz.prog 34 #[.pointer (some ⟨M,0,none⟩),.int .i64 (i:Int)] w fun e w'=>e=.returned (.int .i64 0)∧MV base w' M vs m (iX f (Tr.ak (mg m f) i))∧aB w w' (aC M vs m f) (aC M vs m (iX f (Tr.ak (mg m f) i))):=by
 have hWK:=wW base M m vs f hw hm (i:Int) (by rw[eB hi,hg];rfl) w H;have hlive:∀ x∈Tr.ak (mg m f) (i:Int),∃ j:Nat,x=(j:Int)∧j<m:=fun x hx=>by
  obtain⟨j,h1,h2,_⟩:=jq (hw.jI hx);exact⟨j,h1,h2⟩
 have hwl:=yR hw (i:Int);obtain⟨L,hL⟩:=eX (Tr.ak (mg m f) (i:Int))
 rw[hL] at hWK hlive hwl ⊢;obtain⟨n,hn⟩:=eX (L.length)
 rw[hn] at hWK hwl;obtain⟨A,c,rfl⟩:=H.form;obtain⟨g,rfl,-⟩:=H.read hi;obtain⟨k0,-,-,-,-,c4,-⟩:=H.rd hi;rw[hp] at c4;have q1:(0:Int)≤(i:Int):=by omega
 have q2:(i:Int)<(m:Int):=by omega
 have q3:((i:Int) == 0)=false:=bZ (by omega);have HWK:=zh hWK;have HH:=zh H;have uG:=zh hlive;have HN:=zh hn;have hgl:g<w.heap.size:=(H.row.lt g rfl).2;clear H hw hWK hlive hL hn hp hg h0
 go_enter Tryz.func34,Tryz.ntmps34
 go_wp2_with fail;refine HWK.out.mono ?_;rintro e w1 ⟨v1,rfl,o1,hb1⟩;obtain⟨A1,c1,rfl⟩:=o1.form;have WH:=zh (HH.out.below hb1);have OW:=zh o1;have HB1:=zh hb1;clear HWK o1 hb1;go_wp2_with fail
 go_loopw [6] (fun u wr=>∃ j:Nat,u=.int .i64 (j:Int)∧j≤n∧MV base wr M (.slice (some ⟨g,0,none⟩) m c) m (iX f (L.take j))∧TR wr w.heap.size 3 1 (.slice A1 n c1) n (ints L)∧aB w wr (aC M (.slice (some ⟨g,0,none⟩) m c) m f) (aC M (.slice (some ⟨g,0,none⟩) m c) m f)) (fun u _=>n - (intOf u).toNat)
 case atStart=>exact⟨0,rfl,Nat.zero_le _,by rw[List.take_zero,Nr];exact WH.out,OW.out,.of_below HB1.out⟩
 case round=>
  obtain⟨j,rfl,hj,hmr,o,st⟩:=hrel;have j0:(0:Int)≤(j:Int):=by omega
  by_cases hjn:j<n
  ·have j1:(j:Int)<(n:Int):=by omega
   obtain⟨k,hk⟩:∃ k,L[j]?=some k:=⟨L[j]'(by rw[HN.out];exact hjn),by simp⟩
   obtain⟨x,rfl,hxm⟩:=uG.out k (List.mem_of_getElem? hk);obtain⟨ga,oa,rfl,hga,-,hcs,-⟩:=o.cells (by omega);have ck:=hcs j _ (by omega) (dP hk);obtain⟨kr,-,-,-,-,-,-,c6⟩:=hmr.rd hxm;have f6:=hmr.fz (x*7+6);have x0:(0:Int)≤(x:Int):=by omega
   have x1:(x:Int)<(m:Int):=by omega
   obtain⟨hm2,st2⟩:=hmr.put (j:=6) (v:=.bool true) hxm (by omega) (fun n=>{ n with gone:=true }) rfl ⟨rfl,rfl,rfl,rfl⟩;have htk:L.take (j+1)=L.take j++[(x:Int)]:=by rw[List.take_add_one,hk];rfl
   rw[←Kg,←htk] at hm2 st2;rw[om,om] at st2;obtain⟨wo,hwo⟩:∃ wo:World,wo=wr:=⟨_,rfl⟩
   subst hwo;obtain⟨w3,hw3⟩:=eX ((wo.setCell ⟨g,x*7+6,none⟩ (.bool true)).drew)
   have hbd:Below (wo.setCell ⟨g,x*7+6,none⟩ (.bool true)).heap.size (wo.setCell ⟨g,x*7+6,none⟩ (.bool true)) w3:=by rw[←hw3];exact aZ _ _
   have g3:wo.grownBy (wo.setCell ⟨g,x*7+6,none⟩ (.bool true)) (some g):=aO (ay (Below.refl wo.heap.size wo) _) _ _;have o3:=(o.kept g3 (.inr (fun e=>by simp[Value.ownBlock] at e;omega))).below hbd;have HF:=zh (And.intro (hm2.below hbd) (And.intro o3 (st.trans (st2.trans (.of_below hbd)))));clear hmr hm2 st2 st o o3 hbd g3 hk htk hcs;go_wp2_with fail
   go_region
   (try rw[hw3]);go_wp2_with fail
   go_roundw
   case rel=>exact⟨j+1,by go_num,by omega,HF.out.1,HF.out.2.1,HF.out.2.2⟩
   case measure=>simp[intOf];omega
  ·have sQ:j=n:=by omega
   subst sQ;have htk:L.take j=L:=by rw[List.take_of_length_le];rw[HN.out];exact Nat.le_refl _
   rw[htk] at hmr;have HF:=zh (And.intro hmr st);clear hmr st o htk;have j1:¬ (j:Int)<(j:Int):=by omega
   go_wp2_with fail
   go_ret
   refine⟨rfl,HF.out.1,?_⟩;rw[om];exact HF.out.2
theorem Ql {m:Nat} {f:Nat→RS} {i:Int}:mg m (iX f (Tr.ak (mg m f) i))=Tr.iG (mg m f) i:=by
 funext x;by_cases hx:x<0
 ·have h1:∀ f':Nat→RS,mg m f' x=none:=fun f'=>by unfold mg;rw[if_neg];rintro⟨h,_⟩;omega
  unfold Tr.iG;rw[h1,h1];split<;>rfl
 ·obtain⟨j,rfl⟩:=Int.eq_ofNat_of_zero_le (by omega:0≤x);unfold Tr.iG;rw[jC,jC];unfold iX;by_cases hm:(j:Int)∈Tr.ak (mg m f) i
  ·rw[if_pos hm,if_pos hm,if_neg];rintro⟨_,h⟩;cases h
  ·rw[if_neg hm,if_neg hm]
theorem Kh (base B:Nat) (b s root h:Int) (live n:Nat) (R:Int→Option Tr.Nd) (fr:List Nat) (vs vf:Value) (w:World) (hm:TV base w B b s vs n R vf fr live root) (hS:Sound b s n R fr live) (hh:kM h) (e1:R h=none):
  Calls Tryz.prog 33 #[.pointer (some ⟨B,0,none⟩),.int .i64 h] w fun e w'=>e=.returned (.int .i64 6)∧Below w.heap.size w w':=by
 have hA:=jW base B b s root h live n R fr vs vf w hm hS hh;rw[e1] at hA
 go_enter Tryz.func33,Tryz.ntmps33
 go_wp2_with fail;refine hA.mono ?_;rintro e w1 ⟨g,o,rfl,hnp,hb⟩;have c0:w1.cell? ⟨g,o,none⟩=some (.int .i64 0):=hnp.cells.1;clear hm hA hnp;go_wp2_with fail
 go_ret
 exact⟨rfl,hb⟩
theorem H9 (base B:Nat) (b s root h:Int) (live n:Nat) (g:Tr.G) (av:Int→Tr.Sl) (fr:List Nat) (vs vf:Value) (nd:Tr.GN) (w:World) (hm:TV base w B b s vs n (Tr.raw g av) vf fr live root) (hS:Sound b s n (Tr.raw g av) fr live) (eg:g h=some nd) (h0:nd.kind≠0) (hk:nd.kind=1∨nd.pa≠0):
  Calls Tryz.prog 33 #[.pointer (some ⟨B,0,none⟩),.int .i64 h] w fun e w'=>e=.returned (.int .i64 7)∧Below w.heap.size w w':=by
 have hA:=gW base B b s root h live n _ fr vs vf _ w hm hS (Tr.aj eg);have q0:(nd.kind == 0)=false:=bZ h0;have HP:=zh (fun (W:World) (gb o:Nat) (hb:Below w.heap.size w W) (hpt:PtrTo b s vs n gb o h)=>show W.cell? ⟨gb,o,none⟩=some (.int .i64 nd.kind)∧W.cell? ⟨gb,o+4,none⟩=some (.int .i64 nd.pa) from
  have hc:=((hm.below hb).np hpt (Tr.aj eg)).cells
  ⟨hc.1,hc.2.2.2.2.1⟩)
 clear hm hS;by_cases h1:nd.kind=1
 ·clear hk q0
  go_enter Tryz.func33,Tryz.ntmps33
  go_wp2_with fail;refine hA.mono ?_;rintro e w1 ⟨gb,o,rfl,hpt,hb⟩;obtain⟨c0,c4⟩:=HP.out _ _ _ hb hpt;rw[h1] at c0;clear hA hpt HP;go_wp2_with fail
  go_ret
  exact⟨rfl,hb⟩
 ·have q1:(nd.kind == 1)=false:=bZ h1;have q2:(nd.pa == 0)=false:=bZ (hk.resolve_left h1)
  go_enter Tryz.func33,Tryz.ntmps33
  go_wp2_with fail;refine hA.mono ?_;rintro e w1 ⟨gb,o,rfl,hpt,hb⟩;obtain⟨c0,c4⟩:=HP.out _ _ _ hb hpt;clear hA hpt HP;go_wp2_with fail
  go_ret
  exact⟨rfl,hb⟩
theorem Qm (base B:Nat) (b s root h:Int) (live n:Nat) (g:Tr.G) (av:Int→Tr.Sl) (fr:List Nat) (vs vf:Value) (nd:Tr.GN) (w:World) (hm:TV base w B b s vs n (Tr.raw g av) vf fr live root) (hS:Sound b s n (Tr.raw g av) fr live) (hw:Tr.WF 0 g) (hbs:base≤w.heap.size) (eg:g h=some nd) (h0:nd.kind≠0) (h1:nd.kind≠1) (hp:nd.pa=0) (AQ:(Tr.ak g h).length≤100000):
  Calls Tryz.prog 33 #[.pointer (some ⟨B,0,none⟩),.int .i64 h] w fun e w'=>∃ (vs' bV:Value) (fr':List Nat) (L:Nat),e=.returned (.int .i64 0)∧TV base w' B b s vs' n (Tr.raw (Tr.iG g h) av) bV fr' L root∧Sound b s n (Tr.raw (Tr.iG g h) av) fr' L∧aB w w' (aD B vs vf) (aD B vs' bV):=by
 have hh:kM h:=(bN hS (h:=h) (by rw[Tr.aj eg];rfl)).1;have hA:=gW base B b s root h live n _ fr vs vf _ w hm hS (Tr.aj eg);have HE:=zh (hw.PX rfl eg hp av);have Wv:=zh (hw.lN h);have HIN:=zh (fun x (hx:x∈Tr.ak g h)=>hw.jI hx);have q0:(nd.kind == 0)=false:=bZ h0;have q1:(nd.kind == 1)=false:=bZ h1;have rD:=zh hm.lt;have HC:=zh (fun (W:World) (hb:Below w.heap.size w W)=>Nj base B b s root h live n g av fr vs vf W (hm.below hb) hS hw hh AQ);obtain⟨D,hD⟩:=eX (Tr.ak g h)
 rw[hD] at HE Wv HIN HC AQ;obtain⟨N,hN⟩:=eX (D.length)
 rw[hN] at HC AQ;have HN:=zh hN;have HM:=zh hm;have HS:=zh hS;have HP:=zh (fun (W:World) (gb o:Nat) (hb:Below w.heap.size w W) (hpt:PtrTo b s vs n gb o h)=>show W.cell? ⟨gb,o,none⟩=some (.int .i64 nd.kind)∧W.cell? ⟨gb,o+4,none⟩=some (.int .i64 0) from
  have hc:=((hm.below hb).np hpt (Tr.aj eg)).cells
  ⟨hc.1,by have:=hc.2.2.2.2.1;rw[show (Tr.fA g av h nd).pa=0 from hp] at this;exact this⟩)
 clear hm hS hw eg hp hD hN
 go_enter Tryz.func33,Tryz.ntmps33
 go_wp2_with fail;refine hA.mono ?_;rintro e w1 ⟨gb,o,rfl,hpt,hb⟩;obtain⟨c0,c4⟩:=HP.out _ _ _ hb hpt;have hWM:=pI B h w1;have Zc:=zh (HC.out w1 hb);clear hA hpt HP HC;go_wp2_with fail;refine hWM.mono ?_;rintro e w2 ⟨rfl,rfl⟩;clear hWM;go_wp2_with fail;refine Zc.out.mono ?_;rintro e w3 ⟨v3,rfl,o3,hb3⟩;obtain⟨A3,c3,rfl⟩:=aF (aG o3);have mO:=hb.trans (hb3.mono hb.size);have hr3:=(TR.jQ o3).lower hb.size;have HF0:=zh (fun k (hk:(Value.slice A3 N c3).ownBlock=some k)=>(hr3.lt k hk));have HR3:=zh hr3;have Uo:=zh (HM.out.below mO);have HB3:=zh mO;clear Zc o3 hb3 hb hr3 c0 c4;go_wp2_with fail
 go_loopw [35] (fun u wr=>∃ (j:Nat) (vs' bV:Value) (fr':List Nat) (L:Nat),u=.int .i64 (j:Int)∧j≤N∧TV base wr B b s vs' n (Tr.oL (Tr.raw g av) (D.take j)) bV fr' L root∧Sound b s n (Tr.oL (Tr.raw g av) (D.take j)) fr' L∧TR wr w.heap.size 3 1 (.slice A3 N c3) N (ints D)∧aB w3 wr (aD B vs vf) (aD B vs' bV)) (fun u _=>N - (intOf u).toNat)
 case atStart=>exact⟨0,vs,vf,fr,live,rfl,Nat.zero_le _,by rw[List.take_zero,Tr.Dj];exact Uo.out,by rw[List.take_zero,Tr.Dj];exact HS.out,HR3.out,.of_below (Below.refl _ _)⟩
 case round=>
  obtain⟨j,vs1,Tg,NH,L1,rfl,hj,hmr,hsr,o,st⟩:=hrel;have j0:(0:Int)≤(j:Int):=by omega
  by_cases hjn:j<N
  ·have j1:(j:Int)<(N:Int):=by omega
   obtain⟨k,hk⟩:∃ k,D[j]?=some k:=⟨D[j]'(by rw[HN.out];exact hjn),by simp⟩
   obtain⟨ga,oa,rfl,hga,-,hcs,-⟩:=o.cells (by omega);have ck:=hcs j _ (by omega) (dP hk);have hkD:k∈D:=List.mem_of_getElem? hk;have hkt:k∉D.take j:=fun hm'=>by
    have h8:=Wv.out.sublist (List.take_sublist (j+1) D);rw[List.take_add_one,hk] at h8;exact (List.nodup_append.1 h8).2.2 _ hm' _ (by simp) rfl
   obtain⟨d,hd⟩:∃ d,Tr.oL (Tr.raw g av) (D.take j) k=some d:=by
    rw[Tr.Ng hkt];obtain⟨m',hm'⟩:=Option.isSome_iff_exists.1 (HIN.out k hkD);exact⟨_,Tr.aj hm'⟩
   have hlo:=hmr.low;have ab4:w.heap.size≤wr.heap.size:=Nat.le_trans HB3.out.size st.1.size;have hdr:=LW base B b s root k L1 n _ NH vs1 Tg d wr hmr hsr (by omega) hd;have htk:D.take (j+1)=D.take j++[k]:=by rw[List.take_add_one,hk];rfl
   have IE:=zh (show Tr.pW (Tr.oL (Tr.raw g av) (D.take j)) k none=Tr.oL (Tr.raw g av) (D.take (j+1)) from by rw[htk,Tr.J6]);have ZL:=zh (fun (i L:Nat) (hi:i<n) (e1:Ar.hdl b s (i:Int)=k) (e2:L1=L+1)=>show Sound b s n (Tr.pW (Tr.oL (Tr.raw g av) (D.take j)) k none) (NH++[i]) L from by
    obtain⟨L',e3,e4⟩:=hsr.drop (by rw[hd];rfl) hi e1;obtain rfl:L'=L:=by omega
    exact e4)
   have HO:=zh o;have HST:=zh st;have HNF:=zh (st.apart (G:=fun k=>(Value.slice (some ⟨ga,oa,none⟩) N c3).ownBlock=some k) (fun k hk=>(HR3.out.lt k hk).2) (fun k hk hf=>by have h1:=(HF0.out k hk).1;have h2:=(rD.out k hf).2;omega));clear hmr hsr o st hk hkD hkt hd htk hcs;go_wp2_with fail;refine hdr.mono ?_;rintro e w5 ⟨i,L,vs2,Td,rfl,hi,hie,UY,hm2,st2⟩;have hs2:=ZL.out i L hi hie UY;rw[IE.out] at hm2 hs2;have HF:=zh (And.intro hm2 (And.intro hs2 (And.intro (HO.out.turns st2.1 HNF.out) (HST.out.trans st2))));clear hdr hm2 hs2 st2;go_wp2_with fail
   go_roundw
   case rel=>exact⟨j+1,vs2,Td,NH++[i],L,by go_num,by omega,HF.out.1,HF.out.2.1,HF.out.2.2.1,HF.out.2.2.2⟩
   case measure=>simp[intOf];omega
  ·have sQ:j=N:=by omega
   subst sQ;have htk:D.take j=D:=by rw[List.take_of_length_le];rw[HN.out];exact Nat.le_refl _
   rw[htk,HE.out] at hmr hsr;have HF:=zh (And.intro hmr (And.intro hsr ((aB.of_below (F:=aD B vs vf) HB3.out).trans st)));clear hmr hsr st o htk;have j1:¬ (j:Int)<(j:Int):=by omega
   go_wp2_with fail
   go_ret
   exact⟨rfl,vs1,Tg,NH,L1,HF.out.1,HF.out.2.1,HF.out.2.2⟩
theorem tJ:(Tryz.prog.info? 52).map (fun i=>(i.zero,i.size,i.bytes))=some (some (.agg #[.int .i64 0,.string ⟨#[]⟩,.slice none 0 0,.string ⟨#[]⟩,.int .i64 0,.slice none 0 0,.bool false]),7,104):=by kernel_rfl
theorem Bd (base M m:Nat) (vs vA:Value) (f:Nat→RS) (k:Int) (nm dt:ByteArray) (w:World) (H:MV base w M vs m f) (hk:k≠2) (hbase:base≤w.heap.size) (hm:m≤100000) (hs:dt.size≤6000):
  Calls Tryz.prog 21 #[.pointer (some ⟨M,0,none⟩),.int .i64 k,.string nm,.string dt,vA] w fun e w'=>∃ vs',e=.returned (.int .i64 0)∧MV base w' M vs' (m+1) (iD m f ⟨k,⟨#[]⟩,⟨none,0,0⟩,[],aX dt,-1,⟨none,0,0⟩,[],false⟩)∧aB w w' (aC M vs m f) (aC M vs' (m+1) (iD m f ⟨k,⟨#[]⟩,⟨none,0,0⟩,[],aX dt,-1,⟨none,0,0⟩,[],false⟩)):=by
 obtain⟨i0,hi0,hz0,hz1,hz2⟩:=info_parts tJ;obtain⟨A,c,rfl⟩:=H.form;obtain⟨w1,hw1⟩:=eX (w.alloc (.cells #[.int .i64 k,.string ⟨#[]⟩,.slice none 0 0,.string ⟨#[]⟩,.int .i64 (-1),.slice none 0 0,.bool false] 52))
 have hb1:Below w.heap.size w w1:=gU hw1;have hX1:Whole w1 w.heap.size #[.int .i64 k,.string ⟨#[]⟩,.slice none 0 0,.string ⟨#[]⟩,.int .i64 (-1),.slice none 0 0,.bool false] 52:=by rw[←hw1];exact Whole.new w _ _
 have q2:(k == 2)=false:=bZ hk;have hR:=kC dt w1 (by omega);obtain⟨rv,nu⟩:=eX (aX dt)
 rw[show fF (bD.rep dt.data.toList)=rv from nu] at hR;rw[nu];have HR:=zh hR;have eP:=zh hX1;have HB1:=zh hb1;have HW1:=zh hw1;have HM:=zh (fun (W:World) (hb:Below w.heap.size w W)=>H.below hb);have WC:M<w.heap.size:=H.var.lt;have U5:=zh (fun x (hx:(Value.slice A m c).ownBlock=some x)=>(H.lt x (Or.inr (Or.inl hx))).2);clear hR hX1 hb1 hw1 H nu hs
 go_enter Tryz.func21,Tryz.ntmps21
 go_wp2_with fail;rw[HW1.out];refine HR.out.mono ?_;rintro e w2 ⟨rfl,hb2⟩;have hX2:=eP.out.below hb2 eP.out.lt;have eU:=HB1.out.trans (hb2.mono HB1.out.size);have y3:w2.cell? ⟨w.heap.size,3,none⟩=some (.string ⟨#[]⟩):=hX2.cell 3;have f3:=hX2.free 3;obtain⟨w4,hw4⟩:=eX (w2.setCell ⟨w.heap.size,3,none⟩ (.string rv))
 have bB:Whole w4 w.heap.size #[.int .i64 k,.string ⟨#[]⟩,.slice none 0 0,.string rv,.int .i64 (-1),.slice none 0 0,.bool false] 52:=by rw[←hw4];exact hX2.put 3 (.string rv)
 have g4:w2.grownBy w4 (some w.heap.size):=by rw[←hw4];exact aO (ay (Below.refl w2.heap.size w2) _) _ _
 have bU:=eU.grown g4 eU.size (fun j hj=>by simp at hj;omega);have Ef:=HM.out w4 bU;have c0:w4.cell? ⟨M,0,none⟩=some (.slice A m c):=Ef.var.cell 0;have z0:=Ef.var.free 0;have x0:w4.cell? ⟨w.heap.size,0,none⟩=some (.int .i64 k):=bB.cell 0;have x1:w4.cell? ⟨w.heap.size,1,none⟩=some (.string ⟨#[]⟩):=bB.cell 1;have x2:w4.cell? ⟨w.heap.size,2,none⟩=some (.slice none 0 0):=bB.cell 2;have x3:w4.cell? ⟨w.heap.size,3,none⟩=some (.string rv):=bB.cell 3;have x4:w4.cell? ⟨w.heap.size,4,none⟩=some (.int .i64 (-1)):=bB.cell 4;have x5:w4.cell? ⟨w.heap.size,5,none⟩=some (.slice none 0 0):=bB.cell 5;have x6:w4.cell? ⟨w.heap.size,6,none⟩=some (.bool false):=bB.cell 6;obtain⟨w5,fT⟩:=eX (w4.drew.alloc (.cells #[.int .i64 k,.string ⟨#[]⟩,.slice none 0 0,.string rv,.int .i64 (-1),.slice none 0 0,.bool false] 52))
 have fB:Below w4.heap.size w4 w5:=by rw[←fT];exact (aZ _ w4).alloc (Nat.le_refl _) _
 have dU:=bB.below fB bB.lt;have Qy:=Ef.below fB;have c5:w5.cell? ⟨M,0,none⟩=some (.slice A m c):=Qy.var.cell 0;have z5:=Qy.var.free 0;have hsrc:w5.ownsRow w4.heap.size 52 7 (.slice (some ⟨w4.heap.size,0,none⟩) 1 1) 1 [.int .i64 k,.string ⟨#[]⟩,.slice none 0 0,.string rv,.int .i64 (-1),.slice none 0 0,.bool false]:=by
  rw[←fT];exact World.ownsRow_lit (base:=w4.heap.size) (e:=52) (size:=7) w4.drew #[.int .i64 k,.string ⟨#[]⟩,.slice none 0 0,.string rv,.int .i64 (-1),.slice none 0 0,.bool false] 1 (Nat.le_refl _) (by unfold maxLen;omega) rfl
 have Vb:base≤w5.heap.size:=by have:=fB.size;have:=bU.size;omega
 have D6:=zh (show w4.drew.cell? ⟨w.heap.size,0,none⟩=some (.int .i64 k)∧w4.drew.cell? ⟨w.heap.size,1,none⟩=some (.string ⟨#[]⟩)∧w4.drew.cell? ⟨w.heap.size,2,none⟩=some (.slice none 0 0)∧w4.drew.cell? ⟨w.heap.size,3,none⟩=some (.string rv)∧w4.drew.cell? ⟨w.heap.size,4,none⟩=some (.int .i64 (-1))∧w4.drew.cell? ⟨w.heap.size,5,none⟩=some (.slice none 0 0)∧w4.drew.cell? ⟨w.heap.size,6,none⟩=some (.bool false) from⟨bB.cell 0,bB.cell 1,bB.cell 2,bB.cell 3,bB.cell 4,bB.cell 5,bB.cell 6⟩);have Ju:=zh (show w5.cell? ⟨w.heap.size,0,none⟩=some (.int .i64 k)∧w5.cell? ⟨w.heap.size,1,none⟩=some (.string ⟨#[]⟩)∧w5.cell? ⟨w.heap.size,2,none⟩=some (.slice none 0 0)∧w5.cell? ⟨w.heap.size,3,none⟩=some (.string rv)∧w5.cell? ⟨w.heap.size,4,none⟩=some (.int .i64 (-1))∧w5.cell? ⟨w.heap.size,5,none⟩=some (.slice none 0 0)∧w5.cell? ⟨w.heap.size,6,none⟩=some (.bool false) from⟨dU.cell 0,dU.cell 1,dU.cell 2,dU.cell 3,dU.cell 4,dU.cell 5,dU.cell 6⟩);have gT:=zh dU;have RQ:=zh Ef;have yN:=zh bU;have Jv:=zh fB;have xq:=Qy.row;clear hX2 bB dU g4 eU hb2 Ef bU fB HR;go_wp2_with fail;(try rw[hw4]);(try go_wp2_with fail);refine wp_region_noPanic ?_;refine wp_region_held_drew (S:=(fun W=>W.cell? ⟨w.heap.size,0,none⟩=some (.int .i64 k)∧W.cell? ⟨w.heap.size,1,none⟩=some (.string ⟨#[]⟩)∧W.cell? ⟨w.heap.size,2,none⟩=some (.slice none 0 0)∧W.cell? ⟨w.heap.size,3,none⟩=some (.string rv)∧W.cell? ⟨w.heap.size,4,none⟩=some (.int .i64 (-1))∧W.cell? ⟨w.heap.size,5,none⟩=some (.slice none 0 0)∧W.cell? ⟨w.heap.size,6,none⟩=some (.bool false))) (by kernel_rfl) ?_ (fun ah=>?_)
 ·exact D6.out
 refine bE [0,1,2,3,5] ?_;iterate 5 (refine jl ?_;try simp only[pS])
 refine bF ?_;apply Ce
 ·intro KEY;refine zm 4 6 (fun K hK=>?_) fun K hK=>?_
  ·go_simp;refine hK.out _ _ (D6.out) fun ah=>?_;clear hK K;(try simp only[pS]);refine bO 6 fun K hK=>?_;go_simp;(try rw[fT]);refine hK.out _ _ (Ju.out) fun ah=>?_;clear hK K;(try simp only[pS]);exact KEY
  ·go_simp;(try rw[fT]);refine hK.out _ _ (Ju.out) fun ah=>?_;clear hK K;(try simp only[pS]);refine bO 4 fun K hK=>?_;go_simp;refine hK.out _ _ (Ju.out) fun ah=>?_;clear hK K;(try simp only[pS]);exact KEY
 refine bO 7 fun K hK=>?_;refine cK rfl _ _ 53 rfl base w4.heap.size 52 i0 (.agg #[.int .i64 0,.string ⟨#[]⟩,.slice none 0 0,.string ⟨#[]⟩,.int .i64 0,.slice none 0 0,.bool false]) 7 104 Tryz.underlying53 hi0 hz0 hz1 hz2 rfl (by decide) _ m (bQ p8 m f) rfl xq _ 1 [.int .i64 k,.string ⟨#[]⟩,.slice none 0 0,.string rv,.int .i64 (-1),.slice none 0 0,.bool false] rfl hsrc ?c3 ?c4 ?c5 Vb ?_
 case c3=>exact lZ ⟨k,⟨#[]⟩,⟨none,0,0⟩,[],rv,-1,⟨none,0,0⟩,[],false⟩
 case c4=>unfold maxLen;omega
 case c5=>omega
 intro v6 w6 o6 g6 f6;obtain⟨A6,c6,rfl⟩:=aF (aG o6);have hpush:=RQ.out.push (x:=⟨k,⟨#[]⟩,⟨none,0,0⟩,[],rv,-1,⟨none,0,0⟩,[],false⟩) Jv.out g6 o6 f6 rfl rfl (TR.nil _ _ _ _);obtain⟨v6,qW,yJ⟩:=hpush;have k6:w6.cell? ⟨M,0,none⟩=some (.slice A m c):=v6.cell 0;have k6f:=v6.free 0;have gI:=gT.out.grown g6 (fun e=>by have:=U5.out _ e.symm;omega);obtain⟨w7,hw7⟩:=eX (w6.setCell ⟨M,0,none⟩ (.slice A6 (m+1) c6))
 rw[hw7] at qW yJ;have aK:Whole w7 w.heap.size #[.int .i64 k,.string ⟨#[]⟩,.slice none 0 0,.string rv,.int .i64 (-1),.slice none 0 0,.bool false] 52:=by rw[←hw7];exact gI.other (by show w.heap.size≠M;omega) _
 have TI:=(⟨gI.cell 0,gI.cell 1,gI.cell 2,gI.cell 3,gI.cell 4,gI.cell 5,gI.cell 6⟩:w6.cell? ⟨w.heap.size,0,none⟩=some (.int .i64 k)∧w6.cell? ⟨w.heap.size,1,none⟩=some (.string ⟨#[]⟩)∧w6.cell? ⟨w.heap.size,2,none⟩=some (.slice none 0 0)∧w6.cell? ⟨w.heap.size,3,none⟩=some (.string rv)∧w6.cell? ⟨w.heap.size,4,none⟩=some (.int .i64 (-1))∧w6.cell? ⟨w.heap.size,5,none⟩=some (.slice none 0 0)∧w6.cell? ⟨w.heap.size,6,none⟩=some (.bool false))
 have pO:=(⟨aK.cell 0,aK.cell 1,aK.cell 2,aK.cell 3,aK.cell 4,aK.cell 5,aK.cell 6⟩:w7.cell? ⟨w.heap.size,0,none⟩=some (.int .i64 k)∧w7.cell? ⟨w.heap.size,1,none⟩=some (.string ⟨#[]⟩)∧w7.cell? ⟨w.heap.size,2,none⟩=some (.slice none 0 0)∧w7.cell? ⟨w.heap.size,3,none⟩=some (.string rv)∧w7.cell? ⟨w.heap.size,4,none⟩=some (.int .i64 (-1))∧w7.cell? ⟨w.heap.size,5,none⟩=some (.slice none 0 0)∧w7.cell? ⟨w.heap.size,6,none⟩=some (.bool false))
 have bf:=zh (And.intro qW ((aB.of_below yN.out).trans yJ));clear qW yJ aK gI o6 g6 f6 v6;refine hK.out _ _ (TI) fun ah=>?_;clear hK K;(try simp only[pS]);refine bE [8,9] ?_;iterate 2 (refine jl ?_;try simp only[pS])
 refine bF ?_;refine bO 10 fun K hK=>?_;go_simp;(try rw[hw7]);refine hK.out _ _ (pO) fun ah=>?_;clear hK K;(try simp only[pS]);refine gQ ?_;go_wp2_with fail
 go_ret
 exact⟨_,rfl,bf.out.1,bf.out.2⟩
theorem Ki (M:Nat) (vA:Value) (nm dt:ByteArray) (w:World) (hs:nm.size≤10000) (he:Nm.elem nm=false):
  Calls Tryz.prog 21 #[.pointer (some ⟨M,0,none⟩),.int .i64 2,.string nm,.string dt,vA] w fun e w'=>e=.returned (.int .i64 1)∧Below w.heap.size w w':=by
 obtain⟨w1,hw1⟩:=eX (w.alloc (.cells #[.int .i64 2,.string ⟨#[]⟩,.slice none 0 0,.string ⟨#[]⟩,.int .i64 (-1),.slice none 0 0,.bool false] 52))
 have hb1:Below w.heap.size w w1:=gU hw1;have hR:=vN nm w1 hs;rw[he] at hR;have HR:=zh hR;have HB1:=zh hb1;have HW1:=zh hw1;clear hR hb1 hw1
 go_enter Tryz.func21,Tryz.ntmps21
 go_wp2_with fail;rw[HW1.out];refine HR.out.mono ?_;rintro e w2 ⟨rfl,hb2⟩;have hbF:=HB1.out.trans (hb2.mono HB1.out.size);have Zd:=zh hbF;clear hb2 hbF HR;go_wp2_with fail
 go_ret
 exact⟨rfl,Zd.out⟩
structure qQ where
 kind:Int
 a:Int
 b:Int
 c:Int
 s:ByteArray
 t:ByteArray
 n:Int
 k:Int
def abx (o:qQ):List Value:=[.int .u8 o.kind,.int .u8 o.a,.int .u8 o.b,.int .u8 o.c,.string o.s,.string o.t,.int .i8 o.n,.int .i8 o.k]
def Mc (w:World) (v:Value) (n:Nat) (F:Nat→qQ):Prop:=∃ A c,v=.slice A n c∧(0<n→∃ g o,A=some ⟨g,o,none⟩∧∀ i j u,i<n→(abx (F i))[j]?=some u→w.cell? ⟨g,o+i*8+j,none⟩=some u)
theorem Mc.below {w w':World} {v:Value} {n:Nat} {F:Nat→qQ} (h:Mc w v n F) (hb:Below w.heap.size w w'):Mc w' v n F:=by
 obtain⟨A,c,rfl,h2⟩:=h;refine⟨A,c,rfl,fun hn=>?_⟩;obtain⟨g,o,hA,h3⟩:=h2 hn;refine⟨g,o,hA,fun i j u hi hu=>?_⟩;have h4:=h3 i j u hi hu;exact (hb.cell (p:=⟨g,o+i*8+j,none⟩) (World.block_lt_of_cell? w _ h4)).trans h4
def aby (n:Nat) (F:Nat→qQ) (w:World) (e:Ending) (w':World):Prop:=∃ r:Bool,e=.returned (.bool r)∧w'=w∧(r=true→n≤60∧∀ i,i<n→(F i).s.size≤40∧(F i).t.size≤40)
theorem Q0 (v:Value) (n:Nat) (F:Nat→qQ) (w:World) (H:Mc w v n F) (hn:n≤9223372036854775807):
  Calls Tryz.prog 5 #[v] w fun e w'=>aby n F w e w':=by
 obtain⟨A,c,rfl,hc⟩:=H;have HC:=zh hc;clear hc
 go_enter Tryz.func5,Tryz.ntmps5
 go_wp2_with fail
 go_loopw [3] (fun u wr=>∃ j:Nat,u=.int .i64 (j:Int)∧j≤n∧wr=w∧∀ i,i<j→(F i).s.size≤40∧(F i).t.size≤40) (fun u _=>n - (intOf u).toNat)
 case atStart=>exact⟨0,rfl,Nat.zero_le _,rfl,fun i hi=>absurd hi (Nat.not_lt_zero _)⟩
 case round=>
  obtain⟨j,rfl,hj,rfl,hall⟩:=hrel;have wZ:=zh hall;clear hall;have j0:(0:Int)≤(j:Int):=by omega
  by_cases hjn:j<n
  ·have j1:(j:Int)<(n:Int):=by omega
   obtain⟨g,o,rfl,hcell⟩:=HC.out (by omega);have c4:=hcell j 4 _ hjn rfl;have c5:=hcell j 5 _ hjn rfl;clear hcell;by_cases h1:(40:Int)<((F j).s.size:Int)
   ·go_wp2_with fail
    go_ret
    exact⟨false,rfl,rfl,fun h=>by cases h⟩
   ·by_cases h2:(40:Int)<((F j).t.size:Int)
    ·go_wp2_with fail
     go_ret
     exact⟨false,rfl,rfl,fun h=>by cases h⟩
    ·go_wp2_with fail
     go_roundw
     case rel=>exact⟨j+1,by go_num,by omega,by trivial,fun i hi=>by
      by_cases e:i=j
      ·subst e;omega
      ·exact wZ.out i (by omega)⟩
     case measure=>simp[intOf];omega
  ·have sQ:j=n:=by omega
   subst sQ;have j1:¬ (j:Int)<(j:Int):=by omega
   go_wp2_with fail
   go_ret
   exact⟨decide ((j:Int)≤60),rfl,rfl,fun h=>⟨by have:=of_decide_eq_true h;omega,wZ.out⟩⟩
end
section
open Go Go.RowKit
abbrev zL3 (T B M gh oh m ch:Nat) (W:World):Prop:=W.cell? ⟨T,0,none⟩=some (.pointer (some ⟨B,0,none⟩))∧W.cell? ⟨T,1,none⟩=some (.pointer (some ⟨M,0,none⟩))∧W.cell? ⟨T,2,none⟩=some (.slice (some ⟨gh,oh,none⟩) m ch)
abbrev Ia (T B M gh oh m ch X:Nat) (o:qQ) (W:World):Prop:=W.cell? ⟨T,0,none⟩=some (.pointer (some ⟨B,0,none⟩))∧W.cell? ⟨T,1,none⟩=some (.pointer (some ⟨M,0,none⟩))∧W.cell? ⟨T,2,none⟩=some (.slice (some ⟨gh,oh,none⟩) m ch)∧W.cell? ⟨X,4,none⟩=some (.string o.s)∧W.cell? ⟨X,5,none⟩=some (.string o.t)
abbrev jr (T B M gh oh m ch X ia:Nat) (h:Int) (o:qQ) (W:World):Prop:=W.cell? ⟨T,0,none⟩=some (.pointer (some ⟨B,0,none⟩))∧W.cell? ⟨T,1,none⟩=some (.pointer (some ⟨M,0,none⟩))∧W.cell? ⟨T,2,none⟩=some (.slice (some ⟨gh,oh,none⟩) m ch)∧W.cell? ⟨gh,oh+ia,none⟩=some (.int .i64 h)∧W.cell? ⟨X,4,none⟩=some (.string o.s)∧W.cell? ⟨X,5,none⟩=some (.string o.t)∧W.cell? ⟨X,6,none⟩=some (.int .i8 o.n)∧W.cell? ⟨X,7,none⟩=some (.int .i8 o.k)
abbrev Bo (T B M gh oh m ch X ia:Nat) (h:Int) (o:qQ) (ib:Nat) (p:Int) (W:World):Prop:=W.cell? ⟨T,0,none⟩=some (.pointer (some ⟨B,0,none⟩))∧W.cell? ⟨T,1,none⟩=some (.pointer (some ⟨M,0,none⟩))∧W.cell? ⟨T,2,none⟩=some (.slice (some ⟨gh,oh,none⟩) m ch)∧W.cell? ⟨gh,oh+ia,none⟩=some (.int .i64 h)∧W.cell? ⟨X,4,none⟩=some (.string o.s)∧W.cell? ⟨X,5,none⟩=some (.string o.t)∧W.cell? ⟨X,6,none⟩=some (.int .i8 o.n)∧W.cell? ⟨X,7,none⟩=some (.int .i8 o.k)∧W.cell? ⟨gh,oh+ib,none⟩=some (.int .i64 p)
/-- An operation of the law as it lies in memory. -/
abbrev zOp (o:qQ):Array Value:=#[.int .u8 o.kind,.int .u8 o.a,.int .u8 o.b,.int .u8 o.c,.string o.s,.string o.t,.int .i8 o.n,.int .i8 o.k]
end
section
open Go.RowKit
theorem EN (base M m:Nat) (vs:Value) (f:Nat→RS) (p h:Nat) (c:Int) (w:World) (H:MV base w M vs m f) (hw:Tr.WF (-1) (mg m f)) (hpm:p<m) (hpg:(f p).gone=false) (hhm:h<m) (Jw:(f 0).gone=false) (hm:m≤100000)
  (hno:jS m f p h=false∨∃ j:Nat,c=(j:Int)∧j<m∧(f j).pa≠(p:Int)):
  Calls Tryz.prog 23 #[.pointer (some ⟨M,0,none⟩),.int .i64 (p:Int),.int .i64 (h:Int),.int .i64 c] w fun e w'=>e=.returned (ou 10)∧w'=w:=by
 obtain⟨A,c0,rfl⟩:=H.form;obtain⟨g,rfl,-⟩:=H.read hpm;have hCH:=uQ base M m _ f p h w H hw hpm hpg hhm Jw hm;obtain⟨k0,-⟩:=H.rd hpm;cases hch:jS m f p h with
 | false=>
  rw[hch] at hCH;have qy:=zh hCH;clear H hw hno hCH hch
  go_enter Tryz.func23,Tryz.ntmps23
  go_wp2_with fail;refine nV qy.out ?_;clear qy;go_wp2_with fail;go_ret2;exact⟨rfl,rfl⟩
 | true=>
  obtain⟨j,rfl,hj,hjp⟩:∃ j:Nat,c=(j:Int)∧j<m∧(f j).pa≠(p:Int):=by
   rcases hno with e | e
   ·rw[hch] at e;cases e
   ·exact e
  rw[hch] at hCH;have qy:=zh hCH;obtain⟨-,-,-,-,-,c4,-⟩:=H.rd hj;obtain⟨x,hx⟩:=eX ((f j).pa)
  rw[hx] at c4 hjp;have q0:(0:Int)≤(j:Int):=by omega
  have q1:(j:Int)<(m:Int):=by omega
  have q2:(x != (p:Int))=true:=bne_true hjp;clear H hw hno hCH hch hx hjp
  go_enter Tryz.func23,Tryz.ntmps23
  go_wp2_with fail;refine nV qy.out ?_;clear qy;go_wp2_with fail;go_ret2;exact⟨rfl,rfl⟩
theorem BR (base M m:Nat) (vs:Value) (f:Nat→RS) (p h:Nat) (c:Int) (w:World) (H:MV base w M vs m f) (hw:Tr.WF (-1) (mg m f)) (hpm:p<m) (hpg:(f p).gone=false) (hhm:h<m) (uX:(f h).gone=false) (Jw:(f 0).gone=false) (hm:m≤100000)
  (hch:jS m f p h=true) (hc:c = -1∨∃ j:Nat,c=(j:Int)∧j<m∧(f j).pa=(p:Int)) (hlim:128<(Tr.aY (mg m f) (p:Int)).length+Tr.gF (mg m f) (h:Int)):
  Calls Tryz.prog 23 #[.pointer (some ⟨M,0,none⟩),.int .i64 (p:Int),.int .i64 (h:Int),.int .i64 c] w fun e w'=>e=.returned (ou 5)∧w'=w:=by
 obtain⟨A,c0,rfl⟩:=H.form;obtain⟨g,rfl,-⟩:=H.read hpm;have hup:=(hw.bY (p:Int)).2;have VW:=hw.qC (h:Int);obtain⟨dp,hdp⟩:=eX ((Tr.aY (mg m f) (p:Int)).length)
 obtain⟨ht,hht⟩:=eX (Tr.gF (mg m f) (h:Int))
 have qy:=zh (uQ base M m _ f p h w H hw hpm hpg hhm Jw hm);rw[hch] at qy;have Ro:=zh (zQ base M m _ f (p:Int) w H hw (.inr (by rw[eB hpm,hpg];rfl)) hm);have FW:=zh (yg base M m _ f hw hm (h:Int) (by rw[eB hhm,uX];rfl) w H);rw[hdp] at Ro hlim hup;rw[hht] at FW hlim VW;have Yc:(128:Int)<(dp:Int)+(ht:Int):=by omega
 have ab5:ht≤129:=by omega
 obtain⟨k0,-⟩:=H.rd hpm;rcases hc with rfl | ⟨j,rfl,hj,hjp⟩
 ·clear H hw hch hdp hht VW hlim
  go_enter Tryz.func23,Tryz.ntmps23
  go_wp2_with fail;refine nV qy.out ?_;go_wp2_with fail;refine nV Ro.out ?_;go_wp2_with fail;refine nV FW.out ?_;clear qy Ro FW;go_wp2_with fail;go_ret2;exact⟨rfl,rfl⟩
 ·obtain⟨-,-,-,-,-,c4,-⟩:=H.rd hj;rw[hjp] at c4;have q0:(0:Int)≤(j:Int):=by omega
  have q1:(j:Int)<(m:Int):=by omega
  clear H hw hch hdp hht VW hlim hjp
  go_enter Tryz.func23,Tryz.ntmps23
  go_wp2_with fail;refine nV qy.out ?_;go_wp2_with fail;refine nV Ro.out ?_;go_wp2_with fail;refine nV FW.out ?_;clear qy Ro FW;go_wp2_with fail;go_ret2;exact⟨rfl,rfl⟩
end
end Go.Proofs.YtjpbhkcjmdndjaaGreatDoor
