/- Part of a proof about trees: NHan, NRnw, NSta, NHof, NTwn, NTst, NTws, NFew, NSab, NRwd, NPdr, NTwd, NRie, NTwm, NRmk, NRmn. -/
import Derived.Test.YtnbaadpgbcklaaaGreatDoorGNDuj
import Derived.Test.YtnbaadpgbcklaaaGreatDoorGNRsa
set_option linter.unusedVariables false
set_option linter.unusedSimpArgs false
set_option linter.unusedSectionVars false
set_option maxHeartbeats 4000000
set_option maxRecDepth 100000
namespace Go.Proofs.YtnbaadpgbcklaaaGreatDoor
section
open Go.RowKit
def hof (hs:List Int) (x:Int):Int:=if x<0 then 0 else hs.getD x.toNat 0
structure nV (w:World) (T B M:Nat) (vh:Value) (hs:List Int):Prop where
 var:Whole w T #[.pointer (some ⟨B,0,none⟩),.pointer (some ⟨M,0,none⟩),vh] 33
 row:TR w 0 3 1 vh hs.length (ints hs)
theorem nV.below {w w':World} {T B M:Nat} {vh:Value} {hs:List Int} (h:nV w T B M vh hs) (hb:Below w.heap.size w w'):nV w' T B M vh hs:=⟨h.var.below hb h.var.lt,h.row.below hb⟩
theorem J5 {hs:List Int} {x:Int} (h:x<0):hof hs x=0:=if_pos h
theorem Qw {hs:List Int} {x:Int} (h:(hs.length:Int)≤x):hof hs x=0:=by
 unfold hof;rw[if_neg (by omega),List.getD_eq_getElem?_getD,List.getElem?_eq_none (by omega)];rfl
theorem sw {hs:List Int} {j:Nat} {x:Int} (h:hs[j]?=some x):hof hs (j:Int)=x:=by
 unfold hof;rw[if_neg (by omega),List.getD_eq_getElem?_getD,Int.toNat_natCast,h];rfl
theorem fD (T B M:Nat) (vh:Value) (hs:List Int) (x:Int) (w:World) (H:nV w T B M vh hs):
  Calls Tryz.prog 49 #[.pointer (some ⟨T,0,none⟩),.int .i64 x] w fun e w'=>e=.returned (.int .i64 (hof hs x))∧w'=w:=by
 obtain⟨A,c,rfl⟩:=H.row.form;have c2:w.cell? ⟨T,2,none⟩=some (.slice A hs.length c):=H.var.cell 2;obtain⟨n,hn⟩:∃ n,hs.length=n:=⟨_,rfl⟩
 have HN:=zh hn;by_cases h0:x<0
 ·have HE:=zh (J5 (hs:=hs) h0);clear H hn
  go_enter Tryz.func49,Tryz.ntmps49
  go_wp2_with fail
  go_ret
  exact⟨by rw[HE.out];rfl,rfl⟩
 ·obtain⟨j,rfl⟩:=Int.eq_ofNat_of_zero_le (by omega:0≤x);have j0:(0:Int)≤(j:Int):=by omega
  rw[hn] at c2;by_cases hj:j<n
  ·obtain⟨y,hy⟩:∃ y,hs[j]?=some y:=⟨hs[j]'(by omega),by simp⟩
   have HE:=zh (sw hy);have hlen:0<hs.length:=by omega
   obtain⟨g,o,rfl,-,-,hcs,-⟩:=H.row.cells hlen;have ck:=hcs j _ (by omega) (aY hy);have j1:¬ (n:Int)≤(j:Int):=by omega
   have j2:(j:Int)<(n:Int):=by omega
   clear H hn hy hcs hlen
   go_enter Tryz.func49,Tryz.ntmps49
   go_wp2_with fail
   go_ret
   exact⟨by rw[HE.out];rfl,rfl⟩
  ·have HE:=zh (Qw (hs:=hs) (x:=(j:Int)) (by omega));have j1:(n:Int)≤(j:Int):=by omega
   clear H hn
   go_enter Tryz.func49,Tryz.ntmps49
   go_wp2_with fail
   go_ret
   exact⟨by rw[HE.out];rfl,rfl⟩
def I8:RS:=⟨1,⟨#[]⟩,⟨none,0,0⟩,[],⟨#[]⟩,-1,⟨none,0,0⟩,[],false⟩
theorem OA (w:World):
  Calls Tryz.prog 47 #[] w fun e w'=>∃ M vs,e=.returned (.pointer (some ⟨M,0,none⟩))∧MV w.heap.size w' M vs 1 (fun _=>I8)∧Below w.heap.size w w':=by
 obtain⟨w1,hw1⟩:∃ w1,w.alloc (.cells #[.int .i64 1,.string ⟨#[]⟩,.slice none 0 0,.string ⟨#[]⟩,.int .i64 (-1),.slice none 0 0,.bool false] 67)=w1:=⟨_,rfl⟩
 have hrow:w1.ownsRow w.heap.size 67 7 (.slice (some ⟨w.heap.size,0,none⟩) 1 1) 1 (bS pR 1 fun _=>I8):=by
  rw[←hw1];exact World.ownsRow_lit (base:=w.heap.size) (e:=67) (size:=7) w #[.int .i64 1,.string ⟨#[]⟩,.slice none 0 0,.string ⟨#[]⟩,.int .i64 (-1),.slice none 0 0,.bool false] 1 (Nat.le_refl _) (by unfold maxLen;omega) rfl
 have hs1:w1.heap.size=w.heap.size+1:=by rw[←hw1];simp
 have hb1:Below w.heap.size w w1:=eP hw1;have hX:=Whole.new w1 #[.slice (some ⟨w.heap.size,0,none⟩) 1 1] 70;have hM:MV w.heap.size (w1.alloc (.cells #[.slice (some ⟨w.heap.size,0,none⟩) 1 1] 70)) w1.heap.size (.slice (some ⟨w.heap.size,0,none⟩) 1 1) 1 (fun _=>I8):=
  ⟨by omega,hX,hrow.alloc _,fun i _=>TR.nil _ _ _ _,fun i _=>TR.nil _ _ _ _,fun i j h1 h2 h3=>by omega,fun i j h1 h2 h3=>by omega⟩
 rw[hs1] at hM;have HM:=zh (And.intro hM (hb1.alloc (by omega) (.cells #[.slice (some ⟨w.heap.size,0,none⟩) 1 1] 70)));clear hM hX hrow hb1
 go_enter Tryz.func47,Tryz.ntmps47
 go_wp2_with fail;(try rw[hw1]);try go_wp2_with fail
 go_ret
 exact⟨_,_,rfl,HM.out.1,HM.out.2⟩
theorem nV.made {W:World} {B M:Nat} {r:Int} {b0:Nat} (hrow:W.ownsRow b0 3 1 (.slice (some ⟨b0,0,none⟩) 1 1) 1 (ints [r])):nV (W.alloc (.cells #[.pointer (some ⟨B,0,none⟩),.pointer (some ⟨M,0,none⟩),.slice (some ⟨b0,0,none⟩) 1 1] 33)) W.heap.size B M (.slice (some ⟨b0,0,none⟩) 1 1) [r]:=
 ⟨Whole.new W _ _,(TR.jJ (hrow.alloc _)).zero⟩
def Eb (b s:Int) (w:World) (e:Ending) (w':World):Prop:=∃ (T B M:Nat) (vs vf aT vh:Value),e=.returned (.pointer (some ⟨T,0,none⟩))∧nV w' T B M vh [Ar.hdl b s 0]∧
 (∃ bT,w.heap.size≤bT∧TV bT w' B b s vs 1 (Tr.raw (Tr.dJ AA (Ar.hdl b s 0) p8) wB) vf [] 1 (Ar.hdl b s 0))∧Sound b s 1 (Tr.raw (Tr.dJ AA (Ar.hdl b s 0) p8) wB) [] 1∧Tr.WF 0 (Tr.dJ AA (Ar.hdl b s 0) p8)∧
 (∃ bM,MV bM w' M aT 1 (fun _=>I8)∧∀ k,aD B vs vf k→k<bM)∧Below w.heap.size w w'∧w.heap.size≤T∧∀ k,vh.ownBlock=some k→w.heap.size≤k∧¬ aD B vs vf k∧¬ aB M aT 1 (fun _=>I8) k
theorem Qx {b s:Int} {w w0 w1 W2:World} {B M:Nat} {vs vf aT:Value} (hT:TV w0.heap.size w1 B b s vs 1 (Tr.raw (Tr.dJ AA (Ar.hdl b s 0) p8) wB) vf [] 1 (Ar.hdl b s 0)) (h0:w.heap.size≤w0.heap.size) (hSW:Sound b s 1 (Tr.raw (Tr.dJ AA (Ar.hdl b s 0) p8) wB) [] 1∧Tr.WF 0 (Tr.dJ AA (Ar.hdl b s 0) p8)) (hB1:Below w.heap.size w w1)
  (hM:MV w1.drew.heap.size W2 M aT 1 (fun _=>I8)∧Below w1.drew.heap.size w1.drew W2):
  Eb b s w (.returned (.pointer (some ⟨W2.heap.size+1,0,none⟩))) ((W2.alloc (.cells #[.int .i64 (Ar.hdl b s 0)] 3)).alloc (.cells #[.pointer (some ⟨B,0,none⟩),.pointer (some ⟨M,0,none⟩),.slice (some ⟨W2.heap.size,0,none⟩) 1 1] 33)):=by
 have eU:Below w1.heap.size w1 W2:=(bB _ w1).trans hM.2;have hs:=hB1.size;have hs2:=eU.size;have hrow:(W2.alloc (.cells #[.int .i64 (Ar.hdl b s 0)] 3)).ownsRow W2.heap.size 3 1 (.slice (some ⟨W2.heap.size,0,none⟩) 1 1) 1 (ints [Ar.hdl b s 0]):=World.ownsRow_lit (base:=W2.heap.size) (e:=3) (size:=1) W2 #[.int .i64 (Ar.hdl b s 0)] 1 (Nat.le_refl _) (by unfold maxLen;omega) rfl;have Ml:=nV.made (B:=B) (M:=M) hrow;rw[World.size_alloc] at Ml;have TQ:Below W2.heap.size W2 ((W2.alloc (.cells #[.int .i64 (Ar.hdl b s 0)] 3)).alloc (.cells #[.pointer (some ⟨B,0,none⟩),.pointer (some ⟨M,0,none⟩),.slice (some ⟨W2.heap.size,0,none⟩) 1 1] 33)):=((Below.refl _ W2).alloc (Nat.le_refl _) _).alloc (by simp) _;exact⟨_,B,M,vs,vf,aT,_,rfl,Ml,⟨_,h0,(hT.below eU).below TQ⟩,hSW.1,hSW.2,⟨w1.heap.size,hM.1.below TQ,fun k hk=>(hT.lt k hk).2⟩,(hB1.trans (eU.mono hs)).trans (TQ.mono (Nat.le_trans hs hs2)),by omega,fun k hk=>by
  have e:W2.heap.size=k:=by simpa [Value.ownBlock] using hk
  subst e
  exact⟨by omega,fun hf=>by have:=(hT.lt _ hf).2;omega,fun hf=>by have:=(hM.1.lt _ hf).2;omega⟩⟩
theorem Qy {b s:Int} {w w0 w1 W2:World} {B M:Nat} {vs vf aT:Value} (hT:TV w0.heap.size w1 B b s vs 1 (Tr.raw (Tr.dJ AA (Ar.hdl b s 0) p8) wB) vf [] 1 (Ar.hdl b s 0)) (h0:w.heap.size≤w0.heap.size) (hSW:Sound b s 1 (Tr.raw (Tr.dJ AA (Ar.hdl b s 0) p8) wB) [] 1∧Tr.WF 0 (Tr.dJ AA (Ar.hdl b s 0) p8)) (hB1:Below w.heap.size w w1)
  (hM:MV (w1.drew.alloc (.cells #[.int .i64 (Ar.hdl b s 0)] 3)).heap.size W2 M aT 1 (fun _=>I8)∧Below (w1.drew.alloc (.cells #[.int .i64 (Ar.hdl b s 0)] 3)).heap.size (w1.drew.alloc (.cells #[.int .i64 (Ar.hdl b s 0)] 3)) W2):
  Eb b s w (.returned (.pointer (some ⟨W2.heap.size,0,none⟩))) (W2.alloc (.cells #[.pointer (some ⟨B,0,none⟩),.pointer (some ⟨M,0,none⟩),.slice (some ⟨w1.heap.size,0,none⟩) 1 1] 33)):=by
 have Xk:Below w1.heap.size w1 (w1.drew.alloc (.cells #[.int .i64 (Ar.hdl b s 0)] 3)):=(bB _ w1).alloc (Nat.le_refl _) _;have hsa:=Xk.size;have eU:Below w1.heap.size w1 W2:=Xk.trans (hM.2.mono hsa);have hs:=hB1.size;have hs2:=eU.size;have rX:(w1.drew.alloc (.cells #[.int .i64 (Ar.hdl b s 0)] 3)).ownsRow w1.heap.size 3 1 (.slice (some ⟨w1.heap.size,0,none⟩) 1 1) 1 (ints [Ar.hdl b s 0]):=World.ownsRow_lit (base:=w1.heap.size) (e:=3) (size:=1) w1.drew #[.int .i64 (Ar.hdl b s 0)] 1 (Nat.le_refl _) (by unfold maxLen;omega) rfl;have hrow:W2.ownsRow w1.heap.size 3 1 (.slice (some ⟨w1.heap.size,0,none⟩) 1 1) 1 (ints [Ar.hdl b s 0]):=rX.kept (ak hM.2 none) (.inr (by simp[Value.ownBlock]));have Ml:=nV.made (B:=B) (M:=M) hrow;have TQ:Below W2.heap.size W2 (W2.alloc (.cells #[.pointer (some ⟨B,0,none⟩),.pointer (some ⟨M,0,none⟩),.slice (some ⟨w1.heap.size,0,none⟩) 1 1] 33)):=(Below.refl _ W2).alloc (Nat.le_refl _) _;exact⟨_,B,M,vs,vf,aT,_,rfl,Ml,⟨_,h0,(hT.below eU).below TQ⟩,hSW.1,hSW.2,⟨_,hM.1.below TQ,fun k hk=>Nat.lt_of_lt_of_le (hT.lt k hk).2 hsa⟩,(hB1.trans (eU.mono hs)).trans (TQ.mono (Nat.le_trans hs hs2)),by omega,fun k hk=>by
  have e:w1.heap.size=k:=by simpa [Value.ownBlock] using hk
  subst e;refine⟨by omega,fun hf=>by have:=(hT.lt _ hf).2;omega,fun hf=>?_⟩;have h1:=(hM.1.lt _ hf).1;rw[World.size_alloc] at h1;have h2:w1.drew.heap.size=w1.heap.size:=rfl
  omega⟩
theorem KJ (b s:Int) (w:World):
  Calls Tryz.prog 12 #[xD b s] w fun e w'=>Eb b s w e w':=by
 obtain⟨w0,hw0⟩:∃ w0,w.alloc (.cells #[.int .i64 b,.int .i64 s] 28)=w0:=⟨_,rfl⟩
 have hb0:Below w.heap.size w w0:=eP hw0;have hX:Whole w0 w.heap.size #[.int .i64 b,.int .i64 s] 28:=by rw[←hw0];exact Whole.new w _ _
 have s0:w0.cell? ⟨w.heap.size,0,none⟩=some (.int .i64 b):=hX.cell 0;have s1:w0.cell? ⟨w.heap.size,1,none⟩=some (.int .i64 s):=hX.cell 1;have HN:=zh (J3 b s w0);have HB0:=zh hb0;have HW0:=zh hw0;clear hX hb0 hw0
 go_enter Tryz.func12,Tryz.ntmps12
 go_wp2_with fail;(try rw[HW0.out]);(try go_wp2_with fail);refine HN.out.mono ?_;rintro e w1 ⟨B,vs,vf,rfl,hT,hS,hW,hb1⟩;have r0:=hT.cells.2.2.2.2.2;have HT:=zh hT;have HSW:=zh (And.intro hS hW);have HB1:=zh (HB0.out.trans (hb1.mono HB0.out.size));clear HN hT hS hW hb1;go_wp2_with fail;have hBl:B<w1.heap.size:=HT.out.var.lt
 go_region_with (refine (OA _).mono ?_;rintro e W2 ⟨M,aT,rfl,hMV,hbM⟩;(try have r2:W2.cell? ⟨B,5,none⟩=some (.int .i64 (Ar.hdl b s 0)):=(hbM.cell (p:=⟨B,5,none⟩) hBl).trans r0);have vY:=zh (And.intro hMV hbM);clear hMV hbM)
 all_goals go_wp2_with fail
 all_goals go_ret
 all_goals first | exact Qx HT.out HB0.out.size HSW.out HB1.out vY.out | exact Qy HT.out HB0.out.size HSW.out HB1.out vY.out
theorem vW {hs:List Int} {h x:Int} (hx:x<(hs.length:Int)):hof (hs++[h]) x=hof hs x:=by
 unfold hof;by_cases e:x<0
 ·rw[if_pos e,if_pos e]
 ·rw[if_neg e,if_neg e,List.getD_eq_getElem?_getD,List.getD_eq_getElem?_getD,List.getElem?_append_left (by omega)]
theorem Ec {hs:List Int} {h:Int}:hof (hs++[h]) (hs.length:Int)=h:=by
 unfold hof;rw[if_neg (by omega),List.getD_eq_getElem?_getD,Int.toNat_natCast,List.getElem?_append_right (Nat.le_refl _),Nat.sub_self];rfl
theorem l8 {hs:List Int}:hof hs (-1)=0:=J5 (by omega)
end
section
open Go.RowKit
class nX where
 L:Nat
 w0:World
variable [nX]
structure TW (w:World) (base bM T B M:Nat) (b s:Int) (vs vf aT vh:Value) (n live m:Nat) (fr:List Nat) (av:Int→Tr.Sl) (f:Nat→RS) (hs:List Int) (g:Tr.G) (K:Nat):Prop where
 tw:nV w T B M vh hs
 tv:TV base w B b s vs n (Tr.raw g av) vf fr live (hof hs 0)
 so:Sound b s n (Tr.raw g av) fr live
 at':AT w g av
 wf:Tr.WF 0 g
 mv:MV bM w M aT m f
 im:Tr.Im (hof hs) (mg m f) g
 km:I6 m f
 len:hs.length=m
 g0:(f 0).gone=false
 m0:0<m
 gn:∀ i,i<m→(f i).gone=true→hs[i]?=some (-1)
 nm:n≤m
 OB:∀ k,aD B vs vf k→¬ aB M aT m f k
 yA:∀ k,vh.ownBlock=some k→¬ aD B vs vf k∧¬ aB M aT m f k
 d0:(f 0).pa = -1
 bd:∀ i,i<m→(f i).at'.length≤K+2∧(f i).data.size≤120*K∧bJ.rep (f i).data.data.toList=(f i).data.data.toList
 kp:Below nX.L nX.w0 w∧nX.L≤base∧nX.L≤bM∧nX.L≤T∧∀ k,vh.ownBlock=some k→nX.L≤k
 ml:m≤700
section
variable {w w':World} {base bM T B M:Nat} {b s:Int} {vs vf aT vh:Value} {n live m:Nat} {fr:List Nat} {av:Int→Tr.Sl} {f:Nat→RS} {hs:List Int} {g:Tr.G} {K:Nat}
theorem TW.uL (H:TW w base bM T B M b s vs vf aT vh n live m fr av f hs g K):nX.L≤w.heap.size:=by
 have:=H.kp.2.2.2.1;have:=H.tw.var.lt;omega
theorem TW.below (H:TW w base bM T B M b s vs vf aT vh n live m fr av f hs g K) (hb:Below w.heap.size w w'):TW w' base bM T B M b s vs vf aT vh n live m fr av f hs g K:=
 ⟨H.tw.below hb,H.tv.below hb,H.so,H.at'.below hb,H.wf,H.mv.below hb,H.im,H.km,H.len,H.g0,H.m0,H.gn,H.nm,H.OB,H.yA,H.d0,H.bd,⟨H.kp.1.trans (hb.mono H.uL),H.kp.2⟩,H.ml⟩
theorem TW.aW (H:TW w base bM T B M b s vs vf aT vh n live m fr av f hs g K) {i:Nat} (hi:i<m):hs[i]?=some (hof hs (i:Int)):=by
 have hl:i<hs.length:=by rw[H.len];exact hi
 obtain⟨x,hx⟩:∃ x,hs[i]?=some x:=⟨hs[i],by simp⟩
 rw[hx,sw hx]
theorem TW.kT (H:TW w base bM T B M b s vs vf aT vh n live m fr av f hs g K) {i:Nat} (hi:i<m) (hg:(f i).gone=true):hof hs (i:Int) = -1∧g (-1)=none:=by
 refine⟨sw (H.gn i hi hg),?_⟩;cases e:g (-1) with
 | none=>rfl
 | some x=>
  have:=(bR H.so (h := -1) (by rw[aS,e];rfl)).2;omega
theorem TW.eY (H:TW w base bM T B M b s vs vf aT vh n live m fr av f hs g K) {i:Nat} (hi:i<m) (hg:(f i).gone=false):g (hof hs (i:Int))=some (Tr.fA (hof hs) (jX (f i))):=H.im.node _ _ (aQ hi hg)
theorem TW.i64 (H:TW w base bM T B M b s vs vf aT vh n live m fr av f hs g K) {i:Nat} (hi:i<m):lU (hof hs (i:Int)):=by
 cases hg:(f i).gone with
 | true=>rw[(H.kT hi hg).1];constructor<;>omega
 | false=>exact (bR H.so (h:=hof hs (i:Int)) (by rw[aS,H.eY hi hg];rfl)).1
theorem TW.Jk (H:TW w base bM T B M b s vs vf aT vh n live m fr av f hs g K):¬ aD B vs vf T∧¬ aB M aT m f T:=by
 refine⟨H.tv.aJ H.tw.var (by decide) (by decide) (by decide),?_⟩;rintro (e | e | ⟨i,hi,e | e⟩)
 ·exact H.tw.var.unlike H.mv.var (by decide) e
 ·exact bH H.mv.row H.tw.var (by decide) e
 ·exact (H.mv.ar i hi).unlike H.tw.var (by decide) e
 ·exact (H.mv.kr i hi).unlike H.tw.var (by decide) e
theorem TW.after (H:TW w base bM T B M b s vs vf aT vh n live m fr av f hs g K) {vs' bN:Value} (st:ay w w' (aD B vs vf) (aD B vs' bN)):
  nV w' T B M vh hs∧MV bM w' M aT m f∧(∀ k,aD B vs' bN k→¬ aB M aT m f k)∧(∀ k,vh.ownBlock=some k→¬ aD B vs' bN k)∧∀ k,aB M aT m f k→k<w.heap.size:=by
 have hml:=fun k hk=>(H.mv.lt k hk).2;have hvl:∀ k,vh.ownBlock=some k→k<w.heap.size:=fun k hk=>(H.tw.row.lt k hk).2;refine⟨⟨H.tw.var.turns st.1 H.Jk.1,H.tw.row.turns st.1 fun k hk=>(H.yA k hk).1⟩,H.mv.turns st.1 (fun k hk hf=>H.OB k hf hk),fun k hf hm=>H.OB k (st.2 k (hml k hm) hf) hm,fun k hk hf=>(H.yA k hk).1 (st.2 k (hvl k hk) hf),hml⟩
end
end
section
open Go.RowKit
variable [nX]
theorem OC (h:Int) (hz:h≠0):Tr.Im (hof [h]) (mg 1 fun _=>I8) (Tr.dJ AA h p8):=by
 have h0:hof [h] ((0:Nat):Int)=h:=sw rfl;have hm:∀ x,(mg 1 (fun _=>I8) x).isSome→x=((0:Nat):Int):=fun x hx=>by
  obtain⟨i,rfl,hi,-,-⟩:=jA hx;have:i=0:=by omega
  rw[this]
 have e0:mg 1 (fun _=>I8) ((0:Nat):Int)=some (jX I8):=aQ (m:=1) (f:=fun _=>I8) (i:=0) (by omega) rfl;have en:Tr.fA (hof [h]) (jX I8)=p8:=by
  unfold Tr.fA;rw[show (jX I8).pa = -1 from rfl,l8];rfl
 constructor
 ·exact l8
 ·intro x n e;have hx:=hm x (by rw[e];rfl);subst hx;rw[e0] at e;obtain rfl:=Option.some.inj e;rw[h0,Tr.bX,en]
 ·intro x hx;refine⟨((0:Nat):Int),by rw[e0];rfl,?_⟩;rw[h0];by_cases e:x=h
  ·exact e.symm
  ·rw[Tr.cu e] at hx;cases hx
 ·intro x y hx hy _;rw[hm x hx,hm y hy]
 ·intro x hx;rw[hm x hx,h0];exact hz
 ·exact lI (by omega)
 ·intro x n e;have hx:=hm x (by rw[e];rfl);subst hx;rw[e0] at e;obtain rfl:=Option.some.inj e;exact .inl rfl
 ·intro x n e k hk;have hx:=hm x (by rw[e];rfl);subst hx;rw[e0] at e;obtain rfl:=Option.some.inj e;cases hk
theorem MQ (b s:Int) (w w':World) (e:Ending) (h:Eb b s w e w') (hkp:Below nX.L nX.w0 w) (hL:nX.L≤w.heap.size):
  ∃ (T B M base bM:Nat) (vs vf aT vh:Value),e=.returned (.pointer (some ⟨T,0,none⟩))∧TW w' base bM T B M b s vs vf aT vh 1 1 1 [] wB (fun _=>I8) [Ar.hdl b s 0] (Tr.dJ AA (Ar.hdl b s 0) p8) 0:=by
 obtain⟨T,B,M,vs,vf,aT,vh,rfl,Ml,⟨bT,Uz,htv⟩,hso,hwf,⟨bM,hmv,hfm⟩,hb,hT,hv⟩:=h;have h0:hof [Ar.hdl b s 0] 0=Ar.hdl b s 0:=sw (j:=0) rfl;have hz:Ar.hdl b s 0≠0:=by have:=(bR hso (h:=Ar.hdl b s 0) (by rw[aS,Tr.bX];rfl)).2;omega
 have hBM:bT<bM:=Nat.lt_of_le_of_lt htv.low (hfm B (.inl rfl));refine⟨T,B,M,bT,bM,vs,vf,aT,vh,rfl,⟨Ml,by rw[h0];exact htv,hso,fun x q e=>?_,hwf,hmv,OC _ hz,⟨rfl,fun i hi h1=>absurd hi (by omega)⟩,rfl,rfl,by omega,fun i hi hg=>absurd hg (by decide),Nat.le_refl _,fun k hf hm=>absurd (hfm k hf) (Nat.not_lt.2 (hmv.lt k hm).1),fun k hk=>(hv k hk).2,rfl,fun i hi=>⟨Nat.zero_le _,Nat.zero_le _,bJ.oD⟩,⟨hkp.trans (hb.mono hL),by omega,by omega,Nat.le_trans hL hT,fun k hk=>Nat.le_trans hL (hv k hk).1⟩,by omega⟩⟩;by_cases hx:x=Ar.hdl b s 0
 ·subst hx;rw[Tr.bX] at e;obtain rfl:=Option.some.inj e;exact TR.nil _ _ _ _
 ·rw[Tr.cu hx] at e;cases e
end
section
open Go.RowKit
variable [nX]
theorem AT.JM {w w':World} {g:Tr.G} {av:Int→Tr.Sl} {bM M m:Nat} {aT:Value} {f:Nat→RS} {F':Nat→Prop} (h:AT w g av) (hM:MV bM w M aT m f) (st:ay w w' (aB M aT m f) F'):AT w' g av:=
 h.turns st.1 fun x q e k hk hm=>by
  have hr:=h x q e;rcases hm with e1 | e1 | ⟨i,hi,e1 | e1⟩
  ·exact TR.unlike hr hM.var (by decide) (by rw[hk,e1])
  ·exact TR.ne hr (TR.jJ hM.row) (by decide) k hk e1
  ·exact TR.ne hr (hM.ar i hi) (by decide) k hk e1
  ·exact TR.ne hr (hM.kr i hi) (by decide) k hk e1
theorem TS {g:Tr.G} {h:Int} {U:Tr.GN→Tr.GN} (w:Tr.WF 0 g) (hU:∀ n,(U n).pa=n.pa∧(U n).kids=n.kids):Tr.WF 0 (Tr.dD g h U):=by
 have back:∀ x m,Tr.dD g h U x=some m→∃ n,g x=some n∧m.pa=n.pa∧m.kids=n.kids:=fun x m e=>by
  unfold Tr.dD at e
  split at e
  ·rename_i hx;subst hx;cases e2:g x with
   | none=>rw[e2] at e;cases e
   | some n=>rw[e2] at e;obtain rfl:=Option.some.inj e;exact⟨n,rfl,(hU n).1,(hU n).2⟩
  ·exact⟨m,e,rfl,rfl⟩
 have forth:∀ x n,g x=some n→∃ m,Tr.dD g h U x=some m∧m.pa=n.pa∧m.kids=n.kids:=fun x n e=>by
  unfold Tr.dD;by_cases hx:x=h
  ·subst hx;rw[if_pos rfl,e];exact⟨_,rfl,(hU n).1,(hU n).2⟩
  ·rw[if_neg hx];exact⟨n,e,rfl,rfl⟩
 have up:∀ {x:Int} {l:List Int},Tr.Up g x l→Tr.Up (Tr.dD g h U) x l:=by
  intro x l u
  induction u with
  | @out x e=>exact .out (by
    cases e2:Tr.dD g h U x with
    | none=>rfl
    | some m=>obtain⟨n,e3,_⟩:=back x m e2;rw[e] at e3;cases e3)
  | node e _ ih=>obtain⟨m,e2,e3,_⟩:=forth _ _ e;exact .node e2 (by rw[e3];exact ih)
 constructor
 ·cases e:Tr.dD g h U 0 with
  | none=>rfl
  | some m=>obtain⟨n,e2,_⟩:=back 0 m e;rw[w.zero] at e2;cases e2
 ·intro x m e hp;obtain⟨n,e2,e3,e4⟩:=back x m e;obtain⟨p,e5,e6⟩:=w.up x n e2 (by rw[←e3];exact hp);obtain⟨p',e7,_,e8⟩:=forth _ _ e5;exact⟨p',by rw[e3];exact e7,by rw[e8];exact e6⟩
 ·intro x m k e hk;obtain⟨n,e2,e3,e4⟩:=back x m e;obtain⟨q,e5,e6⟩:=w.down x n k e2 (by rw[←e4];exact hk);obtain⟨q',e7,e8,_⟩:=forth _ _ e5;exact⟨q',e7,by rw[e8];exact e6⟩
 ·intro x m e;obtain⟨n,e2,_,e4⟩:=back x m e;rw[e4];exact w.nodup x n e2
 ·intro x;obtain⟨l,u,hl⟩:=w.chain x;exact⟨l,up u,hl⟩
section
variable {w w3 w4:World} {base bM T B M:Nat} {b s:Int} {vs vf aT vh vs' bN bF:Value} {n live m n' aG:Nat} {fr fr':List Nat} {av dV:Int→Tr.Sl} {f f':Nat→RS} {hs:List Int} {g g':Tr.G} {K:Nat}
theorem TW.up (H:TW w base bM T B M b s vs vf aT vh n live m fr av f hs g K):TW w base bM T B M b s vs vf aT vh n live m fr av f hs g (K+1):=
 ⟨H.tw,H.tv,H.so,H.at',H.wf,H.mv,H.im,H.km,H.len,H.g0,H.m0,H.gn,H.nm,H.OB,H.yA,H.d0,fun i hi=>⟨by have:=(H.bd i hi).1;omega,by have:=(H.bd i hi).2.1;omega,(H.bd i hi).2.2⟩,H.kp,H.ml⟩
theorem TW.step (H:TW w base bM T B M b s vs vf aT vh n live m fr av f hs g K) (tv':TV base w3 B b s vs' n' (Tr.raw g' dV) bN fr' aG (hof hs 0)) (so':Sound b s n' (Tr.raw g' dV) fr' aG) (st:ay w w3 (aD B vs vf) (aD B vs' bN)) (at':AT w3 g' dV) (wf':Tr.WF 0 g')
  (mv':MV bM w4 M bF m f') (stM:ay w3 w4 (aB M aT m f) (aB M bF m f')) (im':Tr.Im (hof hs) (mg m f') g') (km':I6 m f') (g0':(f' 0).gone=false) (gn':∀ i,i<m→(f' i).gone=true→hs[i]?=some (-1)) (nm':n'≤m) (d0':(f' 0).pa = -1)
  (bd':∀ i,i<m→(f' i).at'.length≤K+1+2∧(f' i).data.size≤120*(K+1)∧bJ.rep (f' i).data.data.toList=(f' i).data.data.toList):TW w4 base bM T B M b s vs' bN bF vh n' aG m fr' dV f' hs g' (K+1):=by
 obtain⟨a1,a2,a3,a4,a5⟩:=H.after st;have Tf:∀ k,aD B vs' bN k→k<w3.heap.size:=fun k hk=>(tv'.lt k hk).2;have hvl:∀ k,vh.ownBlock=some k→k<w3.heap.size:=fun k hk=>Nat.lt_of_lt_of_le (H.tw.row.lt k hk).2 st.1.size;have X9:¬ aB M aT m f T:=H.Jk.2;exact⟨⟨a1.var.turns stM.1 X9,a1.row.turns stM.1 fun k hk=>(H.yA k hk).2⟩,tv'.turns stM.1 (fun k hk hm=>a3 k hk hm),so',at'.JM a2 stM,wf',mv',im',km',H.len,g0',H.m0,gn',nm',
  fun k hf hm=>a3 k hf (stM.2 k (Tf k hf) hm),fun k hk=>⟨a4 k hk,fun hm=>(H.yA k hk).2 (stM.2 k (hvl k hk) hm)⟩,d0',bd',⟨(H.kp.1.trans (st.1.below H.uL fun k hk=>Nat.le_trans H.kp.2.1 (H.tv.lt k hk).1)).trans (stM.1.below (Nat.le_trans H.uL st.1.size) fun k hk=>Nat.le_trans H.kp.2.2.1 (H.mv.lt k hk).1),H.kp.2⟩,H.ml⟩
theorem nC {p i:Nat} {sl:Tr.Sl} (j:Nat):(bg (bg f p fun n=>{ n with k:=sl,kids:=n.kids.erase (i:Int) }) i (fun n=>{ n with pa := -1 }) j).kind=(f j).kind∧(bg (bg f p fun n=>{ n with k:=sl,kids:=n.kids.erase (i:Int) }) i (fun n=>{ n with pa := -1 }) j).gone=(f j).gone∧
  (bg (bg f p fun n=>{ n with k:=sl,kids:=n.kids.erase (i:Int) }) i (fun n=>{ n with pa := -1 }) j).at'=(f j).at'∧(bg (bg f p fun n=>{ n with k:=sl,kids:=n.kids.erase (i:Int) }) i (fun n=>{ n with pa := -1 }) j).data=(f j).data:=by
 unfold bg;by_cases h1:j=i
 ·subst h1;rw[if_pos rfl];by_cases h2:j=p
  ·subst h2;rw[if_pos rfl];exact⟨rfl,rfl,rfl,rfl⟩
  ·rw[if_neg h2];exact⟨rfl,rfl,rfl,rfl⟩
 ·rw[if_neg h1];by_cases h2:j=p
  ·subst h2;rw[if_pos rfl];exact⟨rfl,rfl,rfl,rfl⟩
  ·rw[if_neg h2];exact⟨rfl,rfl,rfl,rfl⟩
theorem TW.cut (H:TW w base bM T B M b s vs vf aT vh n live m fr av f hs g K) {i p:Nat} {sl:Tr.Sl} (hi:i<m) (hg:(f i).gone=false) (hp:(f i).pa=(p:Int)) (hpm:p<m) (hpg:(f p).gone=false) (hpi:p≠i)
  (tv':TV base w3 B b s vs n (Tr.raw (Tr.dN g (hof hs (i:Int))) av) vf fr live (hof hs 0)) (st:ay w w3 (aD B vs vf) (aD B vs vf))
  (mv':MV bM w4 M aT m (bg (bg f p fun n=>{ n with k:=sl,kids:=n.kids.erase (i:Int) }) i fun n=>{ n with pa := -1 })) (stM:ay w3 w4 (aB M aT m f) (aB M aT m (bg (bg f p fun n=>{ n with k:=sl,kids:=n.kids.erase (i:Int) }) i fun n=>{ n with pa := -1 }))):
  TW w4 base bM T B M b s vs vf aT vh n live m fr av (bg (bg f p fun n=>{ n with k:=sl,kids:=n.kids.erase (i:Int) }) i fun n=>{ n with pa := -1 }) hs (Tr.dN g (hof hs (i:Int))) (K+1):=by
 have eg:=H.eY hi hg;have hpa:Tr.dI g (hof hs (i:Int))=hof hs (p:Int):=by rw[Tr.aP eg];show hof hs (f i).pa=_;rw[hp]
 have hpz:hof hs (p:Int)≠0:=H.im.nz _ (by rw[aQ hpm hpg];rfl);have e1:Tr.dN g (hof hs (i:Int))=Tr.jB g (hof hs (i:Int)):=by unfold Tr.dN;rw[if_neg (by rw[hpa];exact hpz)]
 have im':Tr.Im (hof hs) (mg m (bg (bg f p fun n=>{ n with k:=sl,kids:=n.kids.erase (i:Int) }) i fun n=>{ n with pa := -1 })) (Tr.dN g (hof hs (i:Int))):=by
  rw[Nj hi hg hpm hpg hp hpi,e1];exact H.im.cut H.wf (aQ hi hg) (by show (f i).pa ≠ -1;omega)
 refine H.step tv' (uF H.so H.wf eg) st ?_ ?_ mv' stM im' ?_ ?_ ?_ H.nm ?_ ?_
 ·refine AT.same (H.at'.step H.tv st) fun x q e=>?_;rw[e1] at e;unfold Tr.jB at e
  split at e
  ·rename_i hx;subst hx;rw[eg] at e;obtain rfl:=Option.some.inj e;exact⟨_,eg,rfl⟩
  ·split at e
   ·rename_i hx;cases e2:g x with
    | none=>rw[e2] at e;cases e
    | some y=>rw[e2] at e;obtain rfl:=Option.some.inj e;exact⟨y,rfl,rfl⟩
   ·exact⟨q,e,rfl⟩
 ·exact H.wf.dN eg
 ·exact⟨by rw[(nC 0).1];exact H.km.1,fun j hj h0=>by rw[(nC j).1];exact H.km.2 j hj h0⟩
 ·rw[(nC 0).2.1];exact H.g0
 ·intro j hj hgj;rw[(nC j).2.1] at hgj;exact H.gn j hj hgj
 ·have hd:=H.d0;unfold bg;by_cases h1:0=i
  ·rw[if_pos h1]
  ·rw[if_neg h1];by_cases h2:0=p
   ·rw[if_pos h2,←h2];exact hd
   ·rw[if_neg h2];exact hd
 ·intro j hj;rw[(nC j).2.2.1,(nC j).2.2.2];have:=H.bd j hj;exact⟨by omega,by omega,this.2.2⟩
theorem TW.put (H:TW w base bM T B M b s vs vf aT vh n live m fr av f hs g K) {i:Nat} (hi:i<m) (hg:(f i).gone=false) {u:RS→RS} {U:Tr.GN→Tr.GN} (hu:∀ x,(u x).gone=x.gone∧(u x).kind=x.kind) (hU:∀ x,jX (u x)=U (jX x)) (hUk:∀ n,(U n).pa=n.pa∧(U n).kids=n.kids) (hm:∀ n,U (Tr.fA (hof hs) n)=Tr.fA (hof hs) (U n))
  (tv':TV base w3 B b s vs n (Tr.raw (Tr.dD g (hof hs (i:Int)) U) dV) vf fr live (hof hs 0)) (so':Sound b s n (Tr.raw (Tr.dD g (hof hs (i:Int)) U) dV) fr live) (at':AT w3 (Tr.dD g (hof hs (i:Int)) U) dV) (st:ay w w3 (aD B vs vf) (aD B vs vf))
  (mv':MV bM w4 M aT m (bg f i u)) (stM:ay w3 w4 (aB M aT m f) (aB M aT m (bg f i u)))
  (bd':(u (f i)).at'.length≤K+1+2∧(u (f i)).data.size≤120*(K+1)∧bJ.rep (u (f i)).data.data.toList=(u (f i)).data.data.toList):TW w4 base bM T B M b s vs vf aT vh n live m fr dV (bg f i u) hs (Tr.dD g (hof hs (i:Int)) U) (K+1):=by
 have hgo:∀ j,(bg f i u j).gone=(f j).gone∧(bg f i u j).kind=(f j).kind:=fun j=>by
  unfold bg;split
  ·rename_i e;rw[e];exact hu _
  ·exact⟨rfl,rfl⟩
 have im':Tr.Im (hof hs) (mg m (bg f i u)) (Tr.dD g (hof hs (i:Int)) U):=by
  rw[TN hi hg (by rw[(hu _).1];exact hg) (hU _)];exact H.im.put (by rw[aQ hi hg];rfl) U hUk hm
 refine H.step tv' so' st at' (TS H.wf hUk) mv' stM im' ?_ ?_ ?_ H.nm ?_ ?_
 ·exact⟨by rw[(hgo 0).2];exact H.km.1,fun j hj h0=>by rw[(hgo j).2];exact H.km.2 j hj h0⟩
 ·rw[(hgo 0).1];exact H.g0
 ·intro j hj hgj;rw[(hgo j).1] at hgj;exact H.gn j hj hgj
 ·unfold bg
  split
  ·rename_i e;have h1:=congrArg Tr.GN.pa (hU (f i));rw[(hUk _).1] at h1;show (jX (u (f i))).pa = -1;rw[h1,←e];exact H.d0
  ·exact H.d0
 ·intro j hj;by_cases e:j=i
  ·subst e;unfold bg;rw[if_pos rfl];exact bd'
  ·rw[jd e];have:=H.bd j hj;exact⟨by omega,by omega,this.2.2⟩
theorem TW.kinds (H:TW w base bM T B M b s vs vf aT vh n live m fr av f hs g K):∀ x q,g x=some q→q.kind≠0:=by
 intro x q e;obtain⟨y,hy,rfl⟩:=H.im.dom x (by rw[e];rfl);obtain⟨i,rfl,hi,hg,-⟩:=jA hy;rw[H.eY hi hg] at e;obtain rfl:=Option.some.inj e;show (f i).kind≠0;by_cases h0:i=0
 ·subst h0;rw[H.km.1];decide
 ·rcases H.km.2 i hi h0 with h | h | h<;>omega
end
end
section
open Go.RowKit
structure qg where
 kind:Int
 a:Int
 b:Int
 c:Int
 s:ByteArray
 t:ByteArray
 n:Int
 k:Int
def aaB (o:qg):List Value:=[.int .u8 o.kind,.int .u8 o.a,.int .u8 o.b,.int .u8 o.c,.string o.s,.string o.t,.int .i8 o.n,.int .i8 o.k]
def KH (w:World) (v:Value) (n:Nat) (F:Nat→qg):Prop:=∃ A c,v=.slice A n c∧(0<n→∃ g o,A=some ⟨g,o,none⟩∧∀ i j u,i<n→(aaB (F i))[j]?=some u→w.cell? ⟨g,o+i*8+j,none⟩=some u)
theorem KH.below {w w':World} {v:Value} {n:Nat} {F:Nat→qg} (h:KH w v n F) (hb:Below w.heap.size w w'):KH w' v n F:=by
 obtain⟨A,c,rfl,h2⟩:=h;refine⟨A,c,rfl,fun hn=>?_⟩;obtain⟨g,o,hA,h3⟩:=h2 hn;refine⟨g,o,hA,fun i j u hi hu=>?_⟩;have h4:=h3 i j u hi hu;exact (hb.cell (p:=⟨g,o+i*8+j,none⟩) (World.block_lt_of_cell? w _ h4)).trans h4
def aaC (n:Nat) (F:Nat→qg) (w:World) (e:Ending) (w':World):Prop:=∃ r:Bool,e=.returned (.bool r)∧w'=w∧(r=true→n≤60∧∀ i,i<n→(F i).s.size≤40∧(F i).t.size≤40)
theorem Px (v:Value) (n:Nat) (F:Nat→qg) (w:World) (H:KH w v n F) (hn:n≤9223372036854775807):
  Calls Tryz.prog 11 #[v] w fun e w'=>aaC n F w e w':=by
 obtain⟨A,c,rfl,hc⟩:=H;have HC:=zh hc;clear hc
 go_enter Tryz.func11,Tryz.ntmps11
 go_wp2_with fail
 go_loopw [3] (fun u wr=>∃ j:Nat,u=.int .i64 (j:Int)∧j≤n∧wr=w∧∀ i,i<j→(F i).s.size≤40∧(F i).t.size≤40) (fun u _=>n - (intOf u).toNat)
 case atStart=>exact⟨0,rfl,Nat.zero_le _,rfl,fun i hi=>absurd hi (Nat.not_lt_zero _)⟩
 case round=>
  obtain⟨j,rfl,hj,rfl,hall⟩:=hrel;have wQ:=zh hall;clear hall;have j0:(0:Int)≤(j:Int):=by omega
  by_cases hjn:j<n
  ·have j1:(j:Int)<(n:Int):=by omega
   obtain⟨g,o,rfl,hcell⟩:=HC.out (by omega);have c4:=hcell j 4 _ hjn rfl;have c5:=hcell j 5 _ hjn rfl;clear hcell;by_cases h1:(40:Int)<((F j).s.size:Int)
   ·go_wp2_with fail
    go_ret
    exact⟨false,rfl,rfl,fun h=>by cases h⟩
   ·by_cases h2:(40:Int)<((F j).t.size:Int)
    ·go_wp2_with fail
     go_ret
     exact⟨false,rfl,rfl,fun h=>by cases h⟩
    ·go_wp2_with fail
     go_roundw
     case rel=>exact⟨j+1,by go_num,by omega,by trivial,fun i hi=>by
      by_cases e:i=j
      ·subst e;omega
      ·exact wQ.out i (by omega)⟩
     case measure=>simp[intOf];omega
  ·have sJ:j=n:=by omega
   subst sJ;have j1:¬ (j:Int)<(j:Int):=by omega
   go_wp2_with fail
   go_ret
   exact⟨decide ((j:Int)≤60),rfl,rfl,fun h=>⟨by have:=of_decide_eq_true h;omega,wQ.out⟩⟩
end
section
open Go Go.RowKit
abbrev CQ (T B M gh oh m ch:Nat) (W:World):Prop:=W.cell? ⟨T,0,none⟩=some (.pointer (some ⟨B,0,none⟩))∧W.cell? ⟨T,1,none⟩=some (.pointer (some ⟨M,0,none⟩))∧W.cell? ⟨T,2,none⟩=some (.slice (some ⟨gh,oh,none⟩) m ch)
abbrev mZ (T B M gh oh m ch X:Nat) (o:qg) (W:World):Prop:=W.cell? ⟨T,0,none⟩=some (.pointer (some ⟨B,0,none⟩))∧W.cell? ⟨T,1,none⟩=some (.pointer (some ⟨M,0,none⟩))∧W.cell? ⟨T,2,none⟩=some (.slice (some ⟨gh,oh,none⟩) m ch)∧W.cell? ⟨X,4,none⟩=some (.string o.s)∧W.cell? ⟨X,5,none⟩=some (.string o.t)
abbrev jg (T B M gh oh m ch X ia:Nat) (h:Int) (o:qg) (W:World):Prop:=W.cell? ⟨T,0,none⟩=some (.pointer (some ⟨B,0,none⟩))∧W.cell? ⟨T,1,none⟩=some (.pointer (some ⟨M,0,none⟩))∧W.cell? ⟨T,2,none⟩=some (.slice (some ⟨gh,oh,none⟩) m ch)∧W.cell? ⟨gh,oh+ia,none⟩=some (.int .i64 h)∧W.cell? ⟨X,4,none⟩=some (.string o.s)∧W.cell? ⟨X,5,none⟩=some (.string o.t)∧W.cell? ⟨X,6,none⟩=some (.int .i8 o.n)∧W.cell? ⟨X,7,none⟩=some (.int .i8 o.k)
abbrev Aq (T B M gh oh m ch X ia:Nat) (h:Int) (o:qg) (ib:Nat) (p:Int) (W:World):Prop:=W.cell? ⟨T,0,none⟩=some (.pointer (some ⟨B,0,none⟩))∧W.cell? ⟨T,1,none⟩=some (.pointer (some ⟨M,0,none⟩))∧W.cell? ⟨T,2,none⟩=some (.slice (some ⟨gh,oh,none⟩) m ch)∧W.cell? ⟨gh,oh+ia,none⟩=some (.int .i64 h)∧W.cell? ⟨X,4,none⟩=some (.string o.s)∧W.cell? ⟨X,5,none⟩=some (.string o.t)∧W.cell? ⟨X,6,none⟩=some (.int .i8 o.n)∧W.cell? ⟨X,7,none⟩=some (.int .i8 o.k)∧W.cell? ⟨gh,oh+ib,none⟩=some (.int .i64 p)
/-- An operation of the law as it lies in memory. -/
abbrev zOp (o:qg):Array Value:=#[.int .u8 o.kind,.int .u8 o.a,.int .u8 o.b,.int .u8 o.c,.string o.s,.string o.t,.int .i8 o.n,.int .i8 o.k]
end
section
open Go.RowKit
theorem J6 {m:Nat} {f:Nat→RS} (hw:Tr.WF (-1) (mg m f)) (h:Int):(Tr.au (mg m f) h).length≤m:=by
 have hlive:∀ x∈Tr.au (mg m f) h,∃ i:Nat,x=(i:Int)∧i<m:=fun x hx=>by
  obtain⟨i,h1,h2,_⟩:=jA (hw.nL hx);exact⟨i,h1,h2⟩
 have hnd:=hw.qM h;have Oj:((Tr.au (mg m f) h).map Int.toNat).Nodup:=by
  rw[List.nodup_iff_pairwise_ne,List.pairwise_map];refine (List.pairwise_iff_forall_sublist.2 ?_);intro a b hab e;obtain⟨j,h4,_⟩:=hlive a (hab.subset (by simp));obtain⟨j',h5,_⟩:=hlive b (hab.subset (by simp));have:a=b:=by rw[h4,h5] at e ⊢;simp at e;rw[e]
  exact (List.pairwise_iff_forall_sublist.1 (List.nodup_iff_pairwise_ne.1 hnd)) hab this
 have:=pG m _ Oj (fun x hx=>by
  obtain⟨y,hy,rfl⟩:=List.mem_map.1 hx;obtain⟨j,h4,h5⟩:=hlive y hy
  rw[h4];simpa using h5)
 simpa using this
def nT (a:Tr.G) (h:Int) (l:List Int):List Int:=h::l.flatMap (Tr.au a)
theorem I9 (a:Tr.G) (h:Int) (l:List Int) (k:Int):nT a h (l++[k])=nT a h l++Tr.au a k:=by
 unfold nT;rw[List.flatMap_append];simp
theorem OD (a:Tr.G) (h:Int) (l l':List Int):(nT a h l).length≤(nT a h (l++l')).length:=by
 unfold nT;rw[List.flatMap_append];simp
theorem LY (base M m:Nat) (vs:Value) (f:Nat→RS) (hw:Tr.WF (-1) (mg m f)) (hm:m≤100000):∀ h,(mg m f h).isSome→∀ w,MV base w M vs m f→
  Calls Tryz.prog 30 #[.pointer (some ⟨M,0,none⟩),.int .i64 h] w fun e w'=>∃ v,e=.returned v∧TR w' w.heap.size 3 1 v (Tr.au (mg m f) h).length (ints (Tr.au (mg m f) h))∧Below w.heap.size w w':=by
 obtain⟨i0,hi0,hz0,hz1,hz2⟩:=info_parts kD;refine hw.induct ?_;intro h ih hs w H;obtain⟨i,rfl,hi,hg,W9⟩:=jA hs;have hle:=lC hw hi hg;obtain⟨A,c,rfl⟩:=H.form;have hr:Tr.au (mg m f) (i:Int)=nT (mg m f) i (f i).kids:=hw.dR W9;have Ol:=J6 hw (i:Int);obtain⟨n,hn⟩:∃ n,(f i).kids.length=n:=⟨_,rfl⟩
 rw[hn] at hle;obtain⟨g,rfl,-⟩:=H.read hi;have q1:(0:Int)≤(i:Int):=by omega
 have q2:(i:Int)<(m:Int):=by omega
 have QI:=zh (fun (W:World) (hb:Below w.heap.size w W)=>show W.cell? ⟨M,0,none⟩=some (.slice (some ⟨g,0,none⟩) m c)∧W.cell? ⟨g,i*7+5,none⟩=some (.slice (f i).k.a n (f i).k.c) from by
  obtain⟨x,-,-,-,-,-,y,-⟩:=(H.below hb).rd hi
  rw[hn] at y;exact⟨x,y⟩)
 have XC:=zh (fun (W:World) (hb:Below w.heap.size w W) (j:Nat) (k:Int) (hj:(f i).kids[j]?=some k)=>(H.below hb).kid hi hj);have XY:=zh (fun (W:World) (hb:Below w.heap.size w W)=>H.below hb);have HI:=zh ih;have HR:=zh hr;have HB:=zh Ol;have HW:=zh hw;have HN:=zh hn;have HG:=zh hg;obtain⟨w1,hw1⟩:∃ w1,w.alloc (.cells #[.int .i64 (i:Int)] 3)=w1:=⟨_,rfl⟩
 have hb1:Below w.heap.size w w1:=eP hw1;have Rw:TR w1 w.heap.size 3 1 (.slice (some ⟨w.heap.size,0,none⟩) 1 1) 1 (ints [(i:Int)]):=by
  rw[←hw1];exact TR.jJ (World.ownsRow_lit (base:=w.heap.size) (e:=3) (size:=1) w #[.int .i64 (i:Int)] 1 (Nat.le_refl _) (by unfold maxLen;omega) rfl)
 have HRW:=zh Rw;have HB1:=zh hb1;clear H ih hr Ol hw W9 hs hn hg Rw hb1
 go_enter Tryz.func30,Tryz.ntmps30
 go_wp2_with fail;(try rw[hw1]);go_wp2_with fail
 go_loopw [5,6] (fun v u wr=>∃ j:Nat,u=.int .i64 (j:Int)∧j≤n∧TR wr w.heap.size 3 1 v (nT (mg m f) i ((f i).kids.take j)).length (ints (nT (mg m f) i ((f i).kids.take j)))∧Below w.heap.size w wr) (fun _ u _=>n - (intOf u).toNat)
 case atStart=>exact⟨0,rfl,Nat.zero_le _,HRW.out,HB1.out⟩
 case round=>
  obtain⟨j,rfl,hj,o,hbr⟩:=hrel;obtain⟨k0,c5⟩:=QI.out _ hbr;have j0:(0:Int)≤(j:Int):=by omega
  by_cases hjn:j<n
  ·have j1:(j:Int)<(n:Int):=by omega
   obtain⟨k,hk⟩:∃ k,(f i).kids[j]?=some k:=⟨(f i).kids[j]'(by rw[HN.out];exact hjn),by simp⟩
   obtain⟨ga,oa,hA,ck⟩:=XC.out _ hbr j k hk;rw[hA] at c5;have hkm:k∈(f i).kids:=List.mem_of_getElem? hk;obtain⟨i',hki,hi',hg',_⟩:=Live.kid HW.out hi HG.out hkm;have hcall:=HI.out _ (aQ hi HG.out) k hkm (by rw[hki,jR hi',hg'];rfl) _ (XY.out _ hbr);have htk:(f i).kids.take (j+1)=(f i).kids.take j++[k]:=by rw[List.take_add_one,hk];rfl
   have hsn:nT (mg m f) i ((f i).kids.take (j+1))=nT (mg m f) i ((f i).kids.take j)++Tr.au (mg m f) k:=by rw[htk,I9]
   have hl1:(nT (mg m f) i ((f i).kids.take (j+1))).length≤m:=by
    have h1:=OD (mg m f) i ((f i).kids.take (j+1)) ((f i).kids.drop (j+1));rw[List.take_append_drop,←HR.out] at h1;have:=HB.out;omega
   have HX:=zh hsn;have HC:=zh hcall;obtain⟨P,hP⟩:∃ P,nT (mg m f) i ((f i).kids.take j)=P:=⟨_,rfl⟩
   obtain⟨Q,hQ⟩:∃ Q,Tr.au (mg m f) k=Q:=⟨_,rfl⟩
   have HPQ:=zh (And.intro hP hQ);rw[hP] at o;rw[hsn,hP,hQ,List.length_append] at hl1;rw[hQ] at HC;clear hcall hsn htk hk hkm hki hA hP hQ;go_wp2_with fail;refine HC.out.mono ?_;rintro e w2 ⟨v2,rfl,o2,hb2⟩;have fu:=hbr.trans (hb2.mono hbr.size);have o':=o.below hb2;have src:=o2.source;have hyl:=o2.1;have hbs:=fu.size;clear HC o o2
   go_wp2_with (at_builtin;refine bK rfl _ _ 31 rfl w.heap.size 3 i0 (.int .i64 0) 1 8 Tryz.underlying31 hi0 hz0 hz1 hz2 rfl (by decide) _ P.length (ints P) rfl o' _ Q.length (ints Q) rfl hyl src (dY _) ?c3 ?c4 hbs ?_)
   case c3=>unfold maxLen;omega
   case c4=>omega
   intro v5 w5 o5 g5 f5;have hb5:=fu.grown g5 hbs (fun j hj=>(o'.lt j hj).1);have RP:TR w5 w.heap.size 3 1 v5 (nT (mg m f) i ((f i).kids.take (j+1))).length (ints (nT (mg m f) i ((f i).kids.take (j+1)))):=by
    rw[HX.out,HPQ.out.1,HPQ.out.2,List.length_append,dX];exact o5
   have HO:=zh RP;clear o5 RP g5 f5 o' src hyl hbr fu hb2;go_wp2_with fail
   go_roundw
   case rel=>exact⟨j+1,by go_num,by omega,HO.out,hb5⟩
   case measure=>simp[intOf];omega
  ·have sJ:j=n:=by omega
   subst sJ;have htk:(f i).kids.take j=(f i).kids:=by rw[List.take_of_length_le];rw[HN.out];exact Nat.le_refl _
   rw[htk,←HR.out] at o;have HO:=zh o;clear o htk;have j1:¬ (j:Int)<(j:Int):=by omega
   go_wp2_with fail
   go_ret
   exact⟨_,rfl,HO.out,hbr⟩
def iQ (f:Nat→RS) (l:List Int):Nat→RS:=fun j=>if (j:Int)∈l then { f j with gone:=true } else f j
theorem LZ (f:Nat→RS):iQ f []=f:=by funext j;unfold iQ;simp
theorem Ja (f:Nat→RS) (l:List Int) (i:Nat):iQ f (l++[(i:Int)])=bg (iQ f l) i fun n=>{ n with gone:=true }:=by
 funext j;unfold iQ bg;by_cases e:j=i
 ·subst e;rw[if_pos (by simp),if_pos rfl];dsimp only;by_cases hl:(j:Int)∈l
  ·rw[if_pos hl]
  ·rw[if_neg hl]
 ·rw[if_neg e];have hiff:((j:Int)∈l++[(i:Int)])↔(j:Int)∈l:=by
   rw[List.mem_append,List.mem_singleton];exact⟨fun h=>by rcases h with h | h;exact h;omega,.inl⟩
  dsimp only;by_cases hl:(j:Int)∈l
  ·rw[if_pos (hiff.2 hl),if_pos hl]
  ·rw[if_neg (fun h=>hl (hiff.1 h)),if_neg hl]
theorem yc (f:Nat→RS) (l:List Int) (j:Nat):(iQ f l j).a=(f j).a∧(iQ f l j).k=(f j).k:=by
 unfold iQ;split<;>exact⟨rfl,rfl⟩
theorem nI (M m:Nat) (vs:Value) (f:Nat→RS) (l:List Int):aB M vs m (iQ f l)=aB M vs m f:=by
 funext x;unfold aB;simp only[(yc f l _).1,(yc f l _).2]
theorem EL (base M m:Nat) (vs:Value) (f:Nat→RS) (i:Nat) (w:World) (H:MV base w M vs m f) (hi:i<m) (h0:i=0∨∃ p:Nat,(f i).pa=(p:Int)):
  Calls Tryz.prog 56 #[.pointer (some ⟨M,0,none⟩),.int .i64 (i:Int)] w fun e w'=>e=.returned (.int .i64 7)∧w'=w:=by
 obtain⟨A,c,rfl⟩:=H.form;obtain⟨g,rfl,-⟩:=H.read hi;obtain⟨k0,-,-,-,-,c4,-⟩:=H.rd hi;by_cases hi0:i=0
 ·subst hi0;clear H h0
  go_enter Tryz.func56,Tryz.ntmps56
  go_wp2_with fail
  go_ret
  exact⟨rfl,rfl⟩
 ·obtain⟨p,hp⟩:∃ p:Nat,(f i).pa=(p:Int):=by rcases h0 with e | e;exact absurd e hi0;exact e
  rw[hp] at c4;have q1:(0:Int)≤(i:Int):=by omega
  have q2:(i:Int)<(m:Int):=by omega
  have q3:((i:Int) == 0)=false:=cK (by omega);have q4:(0:Int)≤(p:Int):=by omega
  clear H h0 hp
  go_enter Tryz.func56,Tryz.ntmps56
  go_wp2_with fail
  go_ret
  exact⟨rfl,rfl⟩
theorem MB (base M m:Nat) (vs:Value) (f:Nat→RS) (i:Nat) (w:World) (H:MV base w M vs m f) (hw:Tr.WF (-1) (mg m f)) (hi:i<m) (hg:(f i).gone=false) (hm:m≤100000) (h0:i≠0) (hp:(f i).pa = -1):
  Calls Tryz.prog 56 #[.pointer (some ⟨M,0,none⟩),.int .i64 (i:Int)] w fun e w'=>e=.returned (.int .i64 0)∧MV base w' M vs m (iQ f (Tr.au (mg m f) i))∧ay w w' (aB M vs m f) (aB M vs m (iQ f (Tr.au (mg m f) i))):=by
 have Ya:=LY base M m vs f hw hm (i:Int) (by rw[jR hi,hg];rfl) w H;have hlive:∀ x∈Tr.au (mg m f) (i:Int),∃ j:Nat,x=(j:Int)∧j<m:=fun x hx=>by
  obtain⟨j,h1,h2,_⟩:=jA (hw.nL hx);exact⟨j,h1,h2⟩
 have hwl:=J6 hw (i:Int);obtain⟨L,hL⟩:∃ L,Tr.au (mg m f) (i:Int)=L:=⟨_,rfl⟩
 rw[hL] at Ya hlive hwl ⊢;obtain⟨n,hn⟩:∃ n,L.length=n:=⟨_,rfl⟩
 rw[hn] at Ya hwl;obtain⟨A,c,rfl⟩:=H.form;obtain⟨g,rfl,-⟩:=H.read hi;obtain⟨k0,-,-,-,-,c4,-⟩:=H.rd hi;rw[hp] at c4;have q1:(0:Int)≤(i:Int):=by omega
 have q2:(i:Int)<(m:Int):=by omega
 have q3:((i:Int) == 0)=false:=cK (by omega);have HWK:=zh Ya;have HH:=zh H;have qw:=zh hlive;have HN:=zh hn;have hgl:g<w.heap.size:=(H.row.lt g rfl).2;clear H hw Ya hlive hL hn hp hg h0
 go_enter Tryz.func56,Tryz.ntmps56
 go_wp2_with fail;refine HWK.out.mono ?_;rintro e w1 ⟨v1,rfl,o1,hb1⟩;obtain⟨A1,c1,rfl⟩:=o1.form;have Zm:=zh (HH.out.below hb1);have Np:=zh o1;have HB1:=zh hb1;clear HWK o1 hb1;go_wp2_with fail
 go_loopw [6] (fun u wr=>∃ j:Nat,u=.int .i64 (j:Int)∧j≤n∧MV base wr M (.slice (some ⟨g,0,none⟩) m c) m (iQ f (L.take j))∧TR wr w.heap.size 3 1 (.slice A1 n c1) n (ints L)∧ay w wr (aB M (.slice (some ⟨g,0,none⟩) m c) m f) (aB M (.slice (some ⟨g,0,none⟩) m c) m f)) (fun u _=>n - (intOf u).toNat)
 case atStart=>exact⟨0,rfl,Nat.zero_le _,by rw[List.take_zero,LZ];exact Zm.out,Np.out,.of_below HB1.out⟩
 case round=>
  obtain⟨j,rfl,hj,hmr,o,st⟩:=hrel;have j0:(0:Int)≤(j:Int):=by omega
  by_cases hjn:j<n
  ·have j1:(j:Int)<(n:Int):=by omega
   obtain⟨k,hk⟩:∃ k,L[j]?=some k:=⟨L[j]'(by rw[HN.out];exact hjn),by simp⟩
   obtain⟨x,rfl,hxm⟩:=qw.out k (List.mem_of_getElem? hk);obtain⟨ga,oa,rfl,hga,-,hcs,-⟩:=o.cells (by omega);have ck:=hcs j _ (by omega) (aY hk);obtain⟨kr,-,-,-,-,-,-,c6⟩:=hmr.rd hxm;have f6:=hmr.fz (x*7+6);have x0:(0:Int)≤(x:Int):=by omega
   have x1:(x:Int)<(m:Int):=by omega
   obtain⟨hm2,st2⟩:=hmr.put (j:=6) (v:=.bool true) hxm (by omega) (fun n=>{ n with gone:=true }) rfl ⟨rfl,rfl,rfl,rfl⟩;have htk:L.take (j+1)=L.take j++[(x:Int)]:=by rw[List.take_add_one,hk];rfl
   rw[←Ja,←htk] at hm2 st2;rw[nI,nI] at st2;obtain⟨wo,hwo⟩:∃ wo:World,wo=wr:=⟨_,rfl⟩
   subst hwo;obtain⟨w3,hw3⟩:∃ w3,(wo.setCell ⟨g,x*7+6,none⟩ (.bool true)).drew=w3:=⟨_,rfl⟩
   have hbd:Below (wo.setCell ⟨g,x*7+6,none⟩ (.bool true)).heap.size (wo.setCell ⟨g,x*7+6,none⟩ (.bool true)) w3:=by rw[←hw3];exact bB _ _
   have g3:wo.grownBy (wo.setCell ⟨g,x*7+6,none⟩ (.bool true)) (some g):=aL (ak (Below.refl wo.heap.size wo) _) _ _;have o3:=(o.kept g3 (.inr (fun e=>by simp[Value.ownBlock] at e;omega))).below hbd;have HF:=zh (And.intro (hm2.below hbd) (And.intro o3 (st.trans (st2.trans (.of_below hbd)))));clear hmr hm2 st2 st o o3 hbd g3 hk htk hcs;go_wp2_with fail
   go_region
   (try rw[hw3]);go_wp2_with fail
   go_roundw
   case rel=>exact⟨j+1,by go_num,by omega,HF.out.1,HF.out.2.1,HF.out.2.2⟩
   case measure=>simp[intOf];omega
  ·have sJ:j=n:=by omega
   subst sJ;have htk:L.take j=L:=by rw[List.take_of_length_le];rw[HN.out];exact Nat.le_refl _
   rw[htk] at hmr;have HF:=zh (And.intro hmr st);clear hmr st o htk;have j1:¬ (j:Int)<(j:Int):=by omega
   go_wp2_with fail
   go_ret
   refine⟨rfl,HF.out.1,?_⟩;rw[nI];exact HF.out.2
theorem OE {m:Nat} {f:Nat→RS} {i:Int}:mg m (iQ f (Tr.au (mg m f) i))=Tr.iW (mg m f) i:=by
 funext x;by_cases hx:x<0
 ·have h1:∀ f':Nat→RS,mg m f' x=none:=fun f'=>by unfold mg;rw[if_neg];rintro⟨h,_⟩;omega
  unfold Tr.iW;rw[h1,h1];split<;>rfl
 ·obtain⟨j,rfl⟩:=Int.eq_ofNat_of_zero_le (by omega:0≤x);unfold Tr.iW;rw[jq,jq];unfold iQ;by_cases hm:(j:Int)∈Tr.au (mg m f) i
  ·rw[if_pos hm,if_pos hm,if_neg];rintro⟨_,h⟩;cases h
  ·rw[if_neg hm,if_neg hm]
theorem yO (base B:Nat) (b s root h:Int) (live n:Nat) (R:Int→Option Tr.Nd) (fr:List Nat) (vs vf:Value) (w:World) (hm:TV base w B b s vs n R vf fr live root) (hS:Sound b s n R fr live) (hh:lU h) (e1:R h=none):
  Calls Tryz.prog 36 #[.pointer (some ⟨B,0,none⟩),.int .i64 h] w fun e w'=>e=.returned (.int .i64 6)∧Below w.heap.size w w':=by
 have hA:=jO base B b s root h live n R fr vs vf w hm hS hh;rw[e1] at hA
 go_enter Tryz.func36,Tryz.ntmps36
 go_wp2_with fail;refine hA.mono ?_;rintro e w1 ⟨g,o,rfl,hnp,hb⟩;have c0:w1.cell? ⟨g,o,none⟩=some (.int .i64 0):=hnp.cells.1;clear hm hA hnp;go_wp2_with fail
 go_ret
 exact⟨rfl,hb⟩
theorem EK (base B:Nat) (b s root h:Int) (live n:Nat) (g:Tr.G) (av:Int→Tr.Sl) (fr:List Nat) (vs vf:Value) (nd:Tr.GN) (w:World) (hm:TV base w B b s vs n (Tr.raw g av) vf fr live root) (hS:Sound b s n (Tr.raw g av) fr live) (eg:g h=some nd) (h0:nd.kind≠0) (hk:nd.kind=1∨nd.pa≠0):
  Calls Tryz.prog 36 #[.pointer (some ⟨B,0,none⟩),.int .i64 h] w fun e w'=>e=.returned (.int .i64 7)∧Below w.heap.size w w':=by
 have hA:=ig base B b s root h live n _ fr vs vf _ w hm hS (Tr.ah eg);have q0:(nd.kind == 0)=false:=cK h0;have HP:=zh (fun (W:World) (gb o:Nat) (hb:Below w.heap.size w W) (hpt:PtrTo b s vs n gb o h)=>show W.cell? ⟨gb,o,none⟩=some (.int .i64 nd.kind)∧W.cell? ⟨gb,o+4,none⟩=some (.int .i64 nd.pa) from
  have hc:=((hm.below hb).np hpt (Tr.ah eg)).cells
  ⟨hc.1,hc.2.2.2.2.1⟩)
 clear hm hS;by_cases h1:nd.kind=1
 ·clear hk q0
  go_enter Tryz.func36,Tryz.ntmps36
  go_wp2_with fail;refine hA.mono ?_;rintro e w1 ⟨gb,o,rfl,hpt,hb⟩;obtain⟨c0,c4⟩:=HP.out _ _ _ hb hpt;rw[h1] at c0;clear hA hpt HP;go_wp2_with fail
  go_ret
  exact⟨rfl,hb⟩
 ·have q1:(nd.kind == 1)=false:=cK h1;have q2:(nd.pa == 0)=false:=cK (hk.resolve_left h1)
  go_enter Tryz.func36,Tryz.ntmps36
  go_wp2_with fail;refine hA.mono ?_;rintro e w1 ⟨gb,o,rfl,hpt,hb⟩;obtain⟨c0,c4⟩:=HP.out _ _ _ hb hpt;clear hA hpt HP;go_wp2_with fail
  go_ret
  exact⟨rfl,hb⟩
theorem Mx (base B:Nat) (b s root h:Int) (live n:Nat) (g:Tr.G) (av:Int→Tr.Sl) (fr:List Nat) (vs vf:Value) (nd:Tr.GN) (w:World) (hm:TV base w B b s vs n (Tr.raw g av) vf fr live root) (hS:Sound b s n (Tr.raw g av) fr live) (hw:Tr.WF 0 g) (hbs:base≤w.heap.size) (eg:g h=some nd) (h0:nd.kind≠0) (h1:nd.kind≠1) (hp:nd.pa=0) (Gh:(Tr.au g h).length≤100000):
  Calls Tryz.prog 36 #[.pointer (some ⟨B,0,none⟩),.int .i64 h] w fun e w'=>∃ (vs' bN:Value) (fr':List Nat) (L:Nat),e=.returned (.int .i64 0)∧TV base w' B b s vs' n (Tr.raw (Tr.iW g h) av) bN fr' L root∧Sound b s n (Tr.raw (Tr.iW g h) av) fr' L∧ay w w' (aD B vs vf) (aD B vs' bN):=by
 have hh:lU h:=(bR hS (h:=h) (by rw[Tr.ah eg];rfl)).1;have hA:=ig base B b s root h live n _ fr vs vf _ w hm hS (Tr.ah eg);have HE:=zh (hw.Oq rfl eg hp av);have HND:=zh (hw.qM h);have X8:=zh (fun x (hx:x∈Tr.au g h)=>hw.nL hx);have q0:(nd.kind == 0)=false:=cK h0;have q1:(nd.kind == 1)=false:=cK h1;have rC:=zh hm.lt;have HC:=zh (fun (W:World) (hb:Below w.heap.size w W)=>LP base B b s root h live n g av fr vs vf W (hm.below hb) hS hw hh Gh);obtain⟨D,hD⟩:∃ D,Tr.au g h=D:=⟨_,rfl⟩
 rw[hD] at HE HND X8 HC Gh;obtain⟨N,hN⟩:∃ N,D.length=N:=⟨_,rfl⟩
 rw[hN] at HC Gh;have HN:=zh hN;have HM:=zh hm;have HS:=zh hS;have HP:=zh (fun (W:World) (gb o:Nat) (hb:Below w.heap.size w W) (hpt:PtrTo b s vs n gb o h)=>show W.cell? ⟨gb,o,none⟩=some (.int .i64 nd.kind)∧W.cell? ⟨gb,o+4,none⟩=some (.int .i64 0) from
  have hc:=((hm.below hb).np hpt (Tr.ah eg)).cells
  ⟨hc.1,by have:=hc.2.2.2.2.1;rw[show (Tr.fF g av h nd).pa=0 from hp] at this;exact this⟩)
 clear hm hS hw eg hp hD hN
 go_enter Tryz.func36,Tryz.ntmps36
 go_wp2_with fail;refine hA.mono ?_;rintro e w1 ⟨gb,o,rfl,hpt,hb⟩;obtain⟨c0,c4⟩:=HP.out _ _ _ hb hpt;have hWM:=oW B h w1;have Xh:=zh (HC.out w1 hb);clear hA hpt HP HC;go_wp2_with fail;refine hWM.mono ?_;rintro e w2 ⟨rfl,rfl⟩;clear hWM;go_wp2_with fail;refine Xh.out.mono ?_;rintro e w3 ⟨v3,rfl,o3,hb3⟩;obtain⟨A3,c3,rfl⟩:=aF (aH o3);have mo:=hb.trans (hb3.mono hb.size);have hr3:=(TR.jJ o3).lower hb.size;have HF0:=zh (fun k (hk:(Value.slice A3 N c3).ownBlock=some k)=>(hr3.lt k hk));have HR3:=zh hr3;have Xx:=zh (HM.out.below mo);have HB3:=zh mo;clear Xh o3 hb3 hb hr3 c0 c4;go_wp2_with fail
 go_loopw [35] (fun u wr=>∃ (j:Nat) (vs' bN:Value) (fr':List Nat) (L:Nat),u=.int .i64 (j:Int)∧j≤N∧TV base wr B b s vs' n (Tr.oG (Tr.raw g av) (D.take j)) bN fr' L root∧Sound b s n (Tr.oG (Tr.raw g av) (D.take j)) fr' L∧TR wr w.heap.size 3 1 (.slice A3 N c3) N (ints D)∧ay w3 wr (aD B vs vf) (aD B vs' bN)) (fun u _=>N - (intOf u).toNat)
 case atStart=>exact⟨0,vs,vf,fr,live,rfl,Nat.zero_le _,by rw[List.take_zero,Tr.Ct];exact Xx.out,by rw[List.take_zero,Tr.Ct];exact HS.out,HR3.out,.of_below (Below.refl _ _)⟩
 case round=>
  obtain⟨j,vs1,QS,Mf,L1,rfl,hj,hmr,hsr,o,st⟩:=hrel;have j0:(0:Int)≤(j:Int):=by omega
  by_cases hjn:j<N
  ·have j1:(j:Int)<(N:Int):=by omega
   obtain⟨k,hk⟩:∃ k,D[j]?=some k:=⟨D[j]'(by rw[HN.out];exact hjn),by simp⟩
   obtain⟨ga,oa,rfl,hga,-,hcs,-⟩:=o.cells (by omega);have ck:=hcs j _ (by omega) (aY hk);have hkD:k∈D:=List.mem_of_getElem? hk;have hkt:k∉D.take j:=fun hm'=>by
    have h8:=HND.out.sublist (List.take_sublist (j+1) D);rw[List.take_add_one,hk] at h8;exact (List.nodup_append.1 h8).2.2 _ hm' _ (by simp) rfl
   obtain⟨d,hd⟩:∃ d,Tr.oG (Tr.raw g av) (D.take j) k=some d:=by
    rw[Tr.LH hkt];obtain⟨m',hm'⟩:=Option.isSome_iff_exists.1 (X8.out k hkD);exact⟨_,Tr.ah hm'⟩
   have hlo:=hmr.low;have aa3:w.heap.size≤wr.heap.size:=Nat.le_trans HB3.out.size st.1.size;have hdr:=Kt base B b s root k L1 n _ Mf vs1 QS d wr hmr hsr (by omega) hd;have htk:D.take (j+1)=D.take j++[k]:=by rw[List.take_add_one,hk];rfl
   have JC:=zh (show Tr.pI (Tr.oG (Tr.raw g av) (D.take j)) k none=Tr.oG (Tr.raw g av) (D.take (j+1)) from by rw[htk,Tr.I4]);have HSD:=zh (fun (i L:Nat) (hi:i<n) (e1:Ar.hdl b s (i:Int)=k) (e2:L1=L+1)=>show Sound b s n (Tr.pI (Tr.oG (Tr.raw g av) (D.take j)) k none) (Mf++[i]) L from by
    obtain⟨L',e3,e4⟩:=hsr.drop (by rw[hd];rfl) hi e1;obtain rfl:L'=L:=by omega
    exact e4)
   have HO:=zh o;have HST:=zh st;have HNF:=zh (st.apart (G:=fun k=>(Value.slice (some ⟨ga,oa,none⟩) N c3).ownBlock=some k) (fun k hk=>(HR3.out.lt k hk).2) (fun k hk hf=>by have h1:=(HF0.out k hk).1;have h2:=(rC.out k hf).2;omega));clear hmr hsr o st hk hkD hkt hd htk hcs;go_wp2_with fail;refine hdr.mono ?_;rintro e w5 ⟨i,L,vs2,QN,rfl,hi,hie,SF,hm2,st2⟩;have hs2:=HSD.out i L hi hie SF;rw[JC.out] at hm2 hs2;have HF:=zh (And.intro hm2 (And.intro hs2 (And.intro (HO.out.turns st2.1 HNF.out) (HST.out.trans st2))));clear hdr hm2 hs2 st2;go_wp2_with fail
   go_roundw
   case rel=>exact⟨j+1,vs2,QN,Mf++[i],L,by go_num,by omega,HF.out.1,HF.out.2.1,HF.out.2.2.1,HF.out.2.2.2⟩
   case measure=>simp[intOf];omega
  ·have sJ:j=N:=by omega
   subst sJ;have htk:D.take j=D:=by rw[List.take_of_length_le];rw[HN.out];exact Nat.le_refl _
   rw[htk,HE.out] at hmr hsr;have HF:=zh (And.intro hmr (And.intro hsr ((ay.of_below (F:=aD B vs vf) HB3.out).trans st)));clear hmr hsr st o htk;have j1:¬ (j:Int)<(j:Int):=by omega
   go_wp2_with fail
   go_ret
   exact⟨rfl,vs1,QS,Mf,L1,HF.out.1,HF.out.2.1,HF.out.2.2⟩
end
section
open Go.RowKit
variable [nX]
def hsJ (f:Nat→RS) (hs:List Int):Nat→List Int
 | 0=>hs
 | j+1=>if (f j).gone then (hsJ f hs j).set j (-1) else hsJ f hs j
theorem qx (f:Nat→RS) (hs:List Int):∀ j,(hsJ f hs j).length=hs.length
 | 0=>rfl
 | j+1=>by unfold hsJ;split<;>simp[qx f hs j]
theorem Ed (f:Nat→RS) (hs:List Int):∀ (j i:Nat),i<hs.length→(hsJ f hs j)[i]?=if i<j∧(f i).gone=true then some (-1) else hs[i]?
 | 0,i,hi=>by rw[if_neg (by omega)];rfl
 | j+1,i,hi=>by
  have ih:=Ed f hs j i hi;unfold hsJ;by_cases hg:(f j).gone=true
  ·rw[if_pos hg,List.getElem?_set];by_cases e:j=i
   ·subst e;rw[if_pos rfl,if_pos (by rw[qx];exact hi),if_pos ⟨by omega,hg⟩]
   ·rw[if_neg e,ih];by_cases h:i<j∧(f i).gone=true
    ·rw[if_pos h,if_pos ⟨by omega,h.2⟩]
    ·rw[if_neg h,if_neg (fun h2=>h ⟨by omega,h2.2⟩)]
  ·rw[if_neg hg,ih];by_cases h:i<j∧(f i).gone=true
   ·rw[if_pos h,if_pos ⟨by omega,h.2⟩]
   ·rw[if_neg h,if_neg (fun h2=>h ⟨by
     rcases Nat.lt_or_ge i j with h3 | h3
     ·exact h3
     ·have:i=j:=by omega
      exact absurd (this▸h2.2) hg,h2.2⟩)]
theorem J7 {f:Nat→RS} {hs:List Int} {j i:Nat} (hi:i<hs.length) (hg:(f i).gone=false):hof (hsJ f hs j) (i:Int)=hof hs (i:Int):=by
 obtain⟨x,hx⟩:∃ x,hs[i]?=some x:=⟨hs[i],by simp⟩
 have h:=Ed f hs j i hi;rw[if_neg (fun h=>by rw[hg] at h;exact Bool.false_ne_true h.2),hx] at h;rw[sw h,sw hx]
theorem Tr.Im.names {ρ ρ':Int→Int} {a g:Tr.G} (h:Tr.Im ρ a g) (hρ:∀ y,y = -1∨(a y).isSome→ρ' y=ρ y):Tr.Im ρ' a g:=by
 have hmap:∀ y q,a y=some q→Tr.fA ρ' q=Tr.fA ρ q:=fun y q e=>by
  unfold Tr.fA;rw[hρ q.pa (h.pa y q e)];congr 1;exact List.map_congr_left fun k hk=>hρ k (.inr (h.kids y q e k hk))
 constructor
 ·rw[hρ _ (.inl rfl)];exact h.zero
 ·intro y q e;rw[hρ y (.inr (by rw[e];rfl)),hmap y q e];exact h.node y q e
 ·intro y hy;obtain⟨z,h1,h2⟩:=h.dom y hy;exact⟨z,h1,by rw[hρ z (.inr h1)];exact h2⟩
 ·intro y z hy hz e;rw[hρ y (.inr hy),hρ z (.inr hz)] at e;exact h.inj y z hy hz e
 ·intro y hy;rw[hρ y (.inr hy)];exact h.nz y hy
 ·exact h.neg
 ·exact h.pa
 ·exact h.kids
theorem wL:∀ (m:Nat) (l:List Int),l.Nodup→(∀ x∈l,∃ i:Nat,x=(i:Int)∧i<m)→l.length≤m
 | 0,l,_,h=>by
  cases l with
  | nil=>exact Nat.le_refl _
  | cons a r=>obtain⟨i,_,hi⟩:=h a (by simp);omega
 | m+1,l,hn,h=>by
  have h1:=wL m (l.erase (m:Int)) (hn.erase _) (fun x hx=>by
   obtain⟨hne,hm⟩:=(hn.mem_erase_iff).1 hx;obtain⟨i,e,hi⟩:=h x hm
   exact⟨i,e,by omega⟩)
  have h2:=List.length_erase (l:=l) (a:=(m:Int));rw[h2] at h1
  split at h1<;>omega
theorem Tr.Im.EM {ρ:Int→Int} {m:Nat} {f:Nat→RS} {g:Tr.G} (h:Tr.Im ρ (mg m f) g) (w:Tr.WF 0 g) {i:Nat} (hi:i<m) (hg:(f i).gone=false):(Tr.au g (ρ (i:Int))).length≤m:=by
 rw[h.walk w (i:Int) (by rw[aQ hi hg];rfl),List.length_map];refine wL m _ ((h.pull w).qM _) fun x hx=>?_;obtain⟨j,e,hj,_⟩:=jA ((h.pull w).nL hx);exact⟨j,e,hj⟩
section
variable {w w3 w4 w5:World} {base bM T B M:Nat} {b s:Int} {vs vf aT vh vs' bN:Value} {n live m aG:Nat} {fr fr':List Nat} {av:Int→Tr.Sl} {f:Nat→RS} {hs:List Int} {g:Tr.G} {K:Nat}
theorem TW.dropped (H:TW w base bM T B M b s vs vf aT vh n live m fr av f hs g K) {i:Nat} (hi:i<m) (hg:(f i).gone=false) (h0:i≠0) (hp:(f i).pa = -1)
  (xS:TV base w3 B b s vs' n (Tr.raw (Tr.iW g (hof hs (i:Int))) av) bN fr' aG (hof hs 0)) (Dv:Sound b s n (Tr.raw (Tr.iW g (hof hs (i:Int))) av) fr' aG) (gy:ay w w3 (aD B vs vf) (aD B vs' bN))
  (mv4:MV bM w4 M aT m (iQ f (Tr.au (mg m f) i))) (dM:ay w3 w4 (aB M aT m f) (aB M aT m (iQ f (Tr.au (mg m f) i))))
  (Rm:nV w5 T B M vh (hsJ (iQ f (Tr.au (mg m f) i)) hs m)) (t5:Turns (fun k=>vh.ownBlock=some k) w4 w5):
  TW w5 base bM T B M b s vs' bN aT vh n aG m fr' av (iQ f (Tr.au (mg m f) i)) (hsJ (iQ f (Tr.au (mg m f) i)) hs m) (Tr.iW g (hof hs (i:Int))) (K+1):=by
 have eg:=H.eY hi hg;have ea:=aQ hi hg;have wa:=H.im.pull H.wf;have hd:=H.im.drop H.wf ea hp;have hh0:(0:Int)∉Tr.au (mg m f) (i:Int):=by
  intro hm;have h1:=(wa.jC (i:Int) 0).1 hm;have e0:mg m f 0=some (jX (f 0)):=aQ (m:=m) (f:=f) (i:=0) H.m0 H.g0;rw[wa.bQ e0,show (jX (f 0)).pa = -1 from H.d0,wa.lV wa.zero] at h1;have:(i:Int)=0:=by simpa using h1
  omega
 obtain⟨f',hf'⟩:∃ f',iQ f (Tr.au (mg m f) (i:Int))=f':=⟨_,rfl⟩
 have hsame:∀ j,(f' j).kind=(f j).kind∧(f' j).pa=(f j).pa∧(f' j).at'=(f j).at'∧(f' j).data=(f j).data:=fun j=>by
  rw[←hf'];unfold iQ;split<;>exact⟨rfl,rfl,rfl,rfl⟩
 have OG:(f' 0).gone=false:=by
  rw[←hf'];unfold iQ;rw[if_neg (by simpa using hh0)];exact H.g0
 have SH:mg m f'=Tr.iW (mg m f) (i:Int):=by rw[←hf'];exact OE
 have Yb:aB M aT m f'=aB M aT m f:=by rw[←hf'];exact nI _ _ _ _ _
 rw[hf'] at mv4 dM Rm ⊢;rw[Yb] at dM;obtain⟨a1,a2,a3,a4,a5⟩:=H.after gy;have hvl:∀ k,vh.ownBlock=some k→k<w3.heap.size:=fun k hk=>Nat.lt_of_lt_of_le (H.tw.row.lt k hk).2 gy.1.size;have hlen:(hsJ f' hs m).length=m:=by rw[qx,H.len]
 have Nv:hof (hsJ f' hs m) 0=hof hs 0:=J7 (i:=0) (by rw[H.len];exact H.m0) OG;have RD:TV base w5 B b s vs' n (Tr.raw (Tr.iW g (hof hs (i:Int))) av) bN fr' aG (hof hs 0):=(xS.turns dM.1 (fun k hk hm=>a3 k hk hm)).turns t5 (fun k hk hv=>a4 k hv hk);have hA:AT w5 (Tr.iW g (hof hs (i:Int))) av:=by
  have h1:AT w4 g av:=(H.at'.step H.tv gy).JM a2 dM;have h2:AT w5 g av:=h1.turns t5 fun x q e k hk hv=>TR.ne (h1 x q e) (a1.row.turns dM.1 fun k hk=>(H.yA k hk).2) (by decide) k hk hv;refine AT.same h2 fun x q e=>?_;unfold Tr.iW at e
  split at e
  ·cases e
  ·exact⟨q,e,rfl⟩
 refine⟨Rm,by rw[Nv];exact RD,Dv,hA,H.wf.drop eg (by show hof hs (f i).pa=0;rw[hp];exact H.im.zero),mv4.turns t5 (fun k hm hv=>(H.yA k hv).2 (by rw[←Yb];exact hm)),?_,?_,hlen,OG,H.m0,?_,H.nm,?_,?_,?_,?_,⟨((H.kp.1.trans (gy.1.below H.uL fun k hk=>Nat.le_trans H.kp.2.1 (H.tv.lt k hk).1)).trans (dM.1.below (Nat.le_trans H.uL gy.1.size) fun k hk=>Nat.le_trans H.kp.2.2.1 (H.mv.lt k hk).1)).trans (t5.below (Nat.le_trans (Nat.le_trans H.uL gy.1.size) dM.1.size) fun k hk=>H.kp.2.2.2.2 k hk),H.kp.2.1,H.kp.2.2.1,H.kp.2.2.2.1,H.kp.2.2.2.2⟩,H.ml⟩
 ·rw[SH];refine hd.names fun y hy=>?_;rcases hy with rfl | hy
  ·rw[l8,l8]
  ·rw[←SH] at hy;obtain⟨j,rfl,hj,Uq,-⟩:=jA hy;exact J7 (by rw[H.len];exact hj) Uq
 ·exact⟨by rw[(hsame 0).1];exact H.km.1,fun j hj hj0=>by rw[(hsame j).1];exact H.km.2 j hj hj0⟩
 ·intro j hj hgj;rw[Ed f' hs m j (by rw[H.len];exact hj),if_pos ⟨hj,hgj⟩]
 ·intro k hf hm;rw[Yb] at hm;exact a3 k hf hm
 ·intro k hk;exact⟨a4 k hk,fun hm=>(H.yA k hk).2 (by rw[←Yb];exact hm)⟩
 ·rw[(hsame 0).2.1];exact H.d0
 ·intro j hj;rw[(hsame j).2.2.1,(hsame j).2.2.2];have:=H.bd j hj;exact⟨by omega,by omega,this.2.2⟩
theorem yP {f:Nat→RS} {hs:List Int}:∀ j,(∀ i,i<j→(f i).gone=true→hs[i]?=some (-1))→hsJ f hs j=hs
 | 0,_=>rfl
 | j+1,h=>by
  unfold hsJ;rw[yP j fun i hi=>h i (by omega)]
  split
  ·rename_i hg;have hj:=h j (by omega) hg;apply List.ext_getElem?;intro i;rw[List.getElem?_set];by_cases e:j=i
   ·subst e;rw[if_pos rfl,if_pos (List.getElem?_eq_some_iff.1 hj).1,hj]
   ·rw[if_neg e]
  ·rfl
theorem TW.handles (H:TW w base bM T B M b s vs vf aT vh n live m fr av f hs g K) (Rm:nV w5 T B M vh hs) (t5:Turns (fun k=>vh.ownBlock=some k) w w5):TW w5 base bM T B M b s vs vf aT vh n live m fr av f hs g K:=
 ⟨Rm,H.tv.turns t5 (fun k hk hv=>(H.yA k hv).1 hk),H.so,H.at'.turns t5 (fun x q e k hk hv=>TR.ne (H.at' x q e) H.tw.row (by decide) k hk hv),H.wf,H.mv.turns t5 (fun k hm hv=>(H.yA k hv).2 hm),H.im,H.km,H.len,H.g0,H.m0,H.gn,H.nm,H.OB,H.yA,H.d0,H.bd,⟨H.kp.1.trans (t5.below H.uL fun k hk=>H.kp.2.2.2.2 k hk),H.kp.2⟩,H.ml⟩
structure HJ (w:World) (T B M:Nat) (vh:Value) (m:Nat) (f:Nat→RS) (hs:List Int) (j:Nat) (wr:World):Prop where
 var:Whole wr T #[.pointer (some ⟨B,0,none⟩),.pointer (some ⟨M,0,none⟩),vh] 33
 row:TR wr 0 3 1 vh m (ints (hsJ f hs j))
 turns:Turns (fun k=>vh.ownBlock=some k) w wr
theorem HJ.start (H:nV w T B M vh hs) (hl:hs.length=m):HJ w T B M vh m f hs 0 w:=⟨H.var,by rw[←hl];exact H.row,.refl _ _⟩
theorem HJ.keep {wr:World} {j:Nat} (H:HJ w T B M vh m f hs j wr) (hg:(f j).gone=false):HJ w T B M vh m f hs (j+1) wr:=⟨H.var,by unfold hsJ;rw[if_neg (by rw[hg];decide)];exact H.row,H.turns⟩
theorem HJ.set {wr:World} {j gh oh ch:Nat} (H:HJ w T B M (.slice (some ⟨gh,oh,none⟩) m ch) m f hs j wr) (hj:j<m) (hg:(f j).gone=true):HJ w T B M (.slice (some ⟨gh,oh,none⟩) m ch) m f hs (j+1) (wr.setCell ⟨gh,oh+j,none⟩ (.int .i64 (-1))):=by
 obtain⟨o1,g1⟩:=H.row.stored j (.int .i64 (-1));have hne:gh≠T:=fun e=>H.row.unlike H.var (by decide) (by rw[e];rfl);refine⟨H.var.other (fun e=>hne e.symm) _,?_,H.turns.trans (.aZ g1 (fun k hk=>hk)) (fun _ _ x=>x) (fun k _ hk=>by rw[←hk];rfl)⟩;unfold hsJ;rw[if_pos hg,show ints ((hsJ f hs j).set j (-1))=(ints (hsJ f hs j)).set j (.int .i64 (-1)) by unfold ints;rw[List.map_set]];exact o1
theorem HJ.done {wr:World} (H:HJ w T B M vh m f hs m wr) (hl:hs.length=m):nV wr T B M vh (hsJ f hs m):=⟨H.var,by rw[qx,hl];exact H.row⟩
end
end
section
open Go.RowKit
theorem Ee (base M m:Nat) (vs:Value) (f:Nat→RS) (p h:Nat) (c:Int) (w:World) (H:MV base w M vs m f) (hw:Tr.WF (-1) (mg m f)) (hpm:p<m) (hpg:(f p).gone=false) (hhm:h<m) (Ib:(f 0).gone=false) (hm:m≤100000)
  (hno:jK m f p h=false∨∃ j:Nat,c=(j:Int)∧j<m∧(f j).pa≠(p:Int)):
  Calls Tryz.prog 50 #[.pointer (some ⟨M,0,none⟩),.int .i64 (p:Int),.int .i64 (h:Int),.int .i64 c] w fun e w'=>e=.returned (nG 10)∧w'=w:=by
 obtain⟨A,c0,rfl⟩:=H.form;obtain⟨g,rfl,-⟩:=H.read hpm;have hCH:=uJ base M m _ f p h w H hw hpm hpg hhm Ib hm;obtain⟨k0,-⟩:=H.rd hpm;cases hch:jK m f p h with
 | false=>
  rw[hch] at hCH;have qp:=zh hCH;clear H hw hno hCH hch
  go_enter Tryz.func50,Tryz.ntmps50
  go_wp2_with fail;refine nP qp.out ?_;clear qp;go_wp2_with fail;go_ret2;exact⟨rfl,rfl⟩
 | true=>
  obtain⟨j,rfl,hj,hjp⟩:∃ j:Nat,c=(j:Int)∧j<m∧(f j).pa≠(p:Int):=by
   rcases hno with e | e
   ·rw[hch] at e;cases e
   ·exact e
  rw[hch] at hCH;have qp:=zh hCH;obtain⟨-,-,-,-,-,c4,-⟩:=H.rd hj;obtain⟨x,hx⟩:∃ x,(f j).pa=x:=⟨_,rfl⟩
  rw[hx] at c4 hjp;have q0:(0:Int)≤(j:Int):=by omega
  have q1:(j:Int)<(m:Int):=by omega
  have q2:(x != (p:Int))=true:=bne_true hjp;clear H hw hno hCH hch hx hjp
  go_enter Tryz.func50,Tryz.ntmps50
  go_wp2_with fail;refine nP qp.out ?_;clear qp;go_wp2_with fail;go_ret2;exact⟨rfl,rfl⟩
theorem Bj (base M m:Nat) (vs:Value) (f:Nat→RS) (p h:Nat) (c:Int) (w:World) (H:MV base w M vs m f) (hw:Tr.WF (-1) (mg m f)) (hpm:p<m) (hpg:(f p).gone=false) (hhm:h<m) (uP:(f h).gone=false) (Ib:(f 0).gone=false) (hm:m≤100000)
  (hch:jK m f p h=true) (hc:c = -1∨∃ j:Nat,c=(j:Int)∧j<m∧(f j).pa=(p:Int)) (hlim:128<(Tr.dz (mg m f) (p:Int)).length+Tr.gB (mg m f) (h:Int)):
  Calls Tryz.prog 50 #[.pointer (some ⟨M,0,none⟩),.int .i64 (p:Int),.int .i64 (h:Int),.int .i64 c] w fun e w'=>e=.returned (nG 5)∧w'=w:=by
 obtain⟨A,c0,rfl⟩:=H.form;obtain⟨g,rfl,-⟩:=H.read hpm;have hup:=(hw.eO (p:Int)).2;have TT:=hw.qz (h:Int);obtain⟨dp,hdp⟩:∃ dp,(Tr.dz (mg m f) (p:Int)).length=dp:=⟨_,rfl⟩
 obtain⟨ht,hht⟩:∃ ht,Tr.gB (mg m f) (h:Int)=ht:=⟨_,rfl⟩
 have qp:=zh (uJ base M m _ f p h w H hw hpm hpg hhm Ib hm);rw[hch] at qp;have PI:=zh (zo base M m _ f (p:Int) w H hw (.inr (by rw[jR hpm,hpg];rfl)) hm);have Fj:=zh (xO base M m _ f hw hm (h:Int) (by rw[jR hhm,uP];rfl) w H);rw[hdp] at PI hlim hup;rw[hht] at Fj hlim TT;have VR:(128:Int)<(dp:Int)+(ht:Int):=by omega
 have aa4:ht≤129:=by omega
 obtain⟨k0,-⟩:=H.rd hpm;rcases hc with rfl | ⟨j,rfl,hj,hjp⟩
 ·clear H hw hch hdp hht TT hlim
  go_enter Tryz.func50,Tryz.ntmps50
  go_wp2_with fail;refine nP qp.out ?_;go_wp2_with fail;refine nP PI.out ?_;go_wp2_with fail;refine nP Fj.out ?_;clear qp PI Fj;go_wp2_with fail;go_ret2;exact⟨rfl,rfl⟩
 ·obtain⟨-,-,-,-,-,c4,-⟩:=H.rd hj;rw[hjp] at c4;have q0:(0:Int)≤(j:Int):=by omega
  have q1:(j:Int)<(m:Int):=by omega
  clear H hw hch hdp hht TT hlim hjp
  go_enter Tryz.func50,Tryz.ntmps50
  go_wp2_with fail;refine nP qp.out ?_;go_wp2_with fail;refine nP PI.out ?_;go_wp2_with fail;refine nP Fj.out ?_;clear qp PI Fj;go_wp2_with fail;go_ret2;exact⟨rfl,rfl⟩
end
section
open Go.RowKit
variable [nX]
section
variable {w w3 w4 w5:World} {base bM T B M:Nat} {b s:Int} {vs vf aT vh vs' bN bF gK:Value} {n live m n' aG:Nat} {fr fr':List Nat} {av:Int→Tr.Sl} {f:Nat→RS} {hs:List Int} {g:Tr.G} {K:Nat}
theorem TW.made (H:TW w base bM T B M b s vs vf aT vh n live m fr av f hs g K) {h:Int} {x:RS} {sl:Tr.Sl} (hml:m<700) (hx:x.gone=false∧x.pa = -1∧x.kids=[]∧(x.kind=2∨x.kind=3∨x.kind=4)) (hxb:x.at'.length≤K+1+2∧x.data.size≤120*(K+1)∧bJ.rep x.data.data.toList=x.data.data.toList)
  (hg0:g h=none) (hh0:h≠0) (hn':n'≤n+1)
  (xS:TV base w3 B b s vs' n' (Tr.raw (Tr.dJ g h { jX x with pa:=0 }) (Tr.fC av h sl)) bN fr' aG (hof hs 0)) (Dv:Sound b s n' (Tr.raw (Tr.dJ g h { jX x with pa:=0 }) (Tr.fC av h sl)) fr' aG) (FL:Tr.WF 0 (Tr.dJ g h { jX x with pa:=0 })) (JN:AR w3 0 sl.v x.at') (gy:ay w w3 (aD B vs vf) (aD B vs' bN))
  (mv4:MV bM w4 M bF (m+1) (iw m f x)) (dM:ay w3 w4 (aB M aT m f) (aB M bF (m+1) (iw m f x)))
  (Rm:nV w5 T B M gK (hs++[h])) (t5:Turns (fun k=>k=T∨vh.ownBlock=some k) w4 w5) (hv5:∀ k,gK.ownBlock=some k→vh.ownBlock=some k∨w4.heap.size≤k):
  TW w5 base bM T B M b s vs' bN bF gK n' aG (m+1) fr' (Tr.fC av h sl) (iw m f x) (hs++[h]) (Tr.dJ g h { jX x with pa:=0 }) (K+1):=by
 obtain⟨a1,a2,a3,a4,a5⟩:=H.after gy;have Tf:∀ k,aD B vs' bN k→k<w3.heap.size:=fun k hk=>(xS.lt k hk).2;have hvl:∀ k,vh.ownBlock=some k→k<w3.heap.size:=fun k hk=>Nat.lt_of_lt_of_le (H.tw.row.lt k hk).2 gy.1.size;have UF:T<w3.heap.size:=a1.var.lt;have Z6:¬ aD B vs' bN T:=xS.aJ a1.var (by decide) (by decide) (by decide);have hMT:¬ aB M bF (m+1) (iw m f x) T:=fun hm=>H.Jk.2 (dM.2 T UF hm);have Tg:∀ k,aD B vs' bN k→¬ aB M bF (m+1) (iw m f x) k:=fun k hf hm=>a3 k hf (dM.2 k (Tf k hf) hm);have Io:∀ k,vh.ownBlock=some k→¬ aD B vs' bN k∧¬ aB M bF (m+1) (iw m f x) k:=fun k hk=>⟨a4 k hk,fun hm=>(H.yA k hk).2 (dM.2 k (hvl k hk) hm)⟩
 have Ue:∀ k,aD B vs' bN k→k<w4.heap.size:=fun k hk=>Nat.lt_of_lt_of_le (Tf k hk) dM.1.size;have Du:∀ k,aB M bF (m+1) (iw m f x) k→k<w4.heap.size:=fun k hk=>(mv4.lt k hk).2;have hold:∀ j,j<m→iw m f x j=f j:=fun j hj=>eG hj;have hlen:(hs++[h]).length=m+1:=by rw[List.length_append,H.len];rfl
 have Nv:hof (hs++[h]) 0=hof hs 0:=vW (by have:=H.len;have:=H.m0;omega);have Z7:TV base w5 B b s vs' n' (Tr.raw (Tr.dJ g h { jX x with pa:=0 }) (Tr.fC av h sl)) bN fr' aG (hof hs 0):=(xS.turns dM.1 (fun k hk hm=>a3 k hk hm)).turns t5 (fun k hk hv=>hv.elim (fun e=>Z6 (e▸hk)) (fun e=>(Io k e).1 hk));have aaD:AT w3 (Tr.dJ g h { jX x with pa:=0 }) (Tr.fC av h sl):=fun y q e=>by
  by_cases hy:y=h
  ·subst hy;rw[Tr.bX] at e;obtain rfl:=Option.some.inj e;rw[Tr.kW];exact JN
  ·rw[Tr.cu hy] at e;rw[Tr.uU hy];exact H.at'.step H.tv gy y q e
 have PS:=aaD.JM a2 dM;have hA:AT w5 (Tr.dJ g h { jX x with pa:=0 }) (Tr.fC av h sl):=PS.turns t5 fun y q e k hk hv=>by
  have hr:=PS y q e;rcases hv with e1 | e1
  ·exact TR.unlike hr (a1.var.turns dM.1 H.Jk.2) (by decide) (by rw[hk,e1])
  ·exact TR.ne hr (a1.row.turns dM.1 fun k hk=>(H.yA k hk).2) (by decide) k hk e1
 refine⟨Rm,by rw[Nv];exact Z7,Dv,hA,FL,mv4.turns t5 (fun k hm hv=>hv.elim (fun e=>hMT (e▸hm)) (fun e=>(Io k e).2 hm)),?_,?_,hlen,by rw[hold 0 H.m0];exact H.g0,by omega,?_,by have:=H.nm;omega,Tg,?_,by rw[hold 0 H.m0];exact H.d0,?_,⟨((H.kp.1.trans (gy.1.below H.uL fun k hk=>Nat.le_trans H.kp.2.1 (H.tv.lt k hk).1)).trans (dM.1.below (Nat.le_trans H.uL gy.1.size) fun k hk=>Nat.le_trans H.kp.2.2.1 (H.mv.lt k hk).1)).trans (t5.below (Nat.le_trans (Nat.le_trans H.uL gy.1.size) dM.1.size) fun k hk=>by rcases hk with e | e;exact e▸H.kp.2.2.2.1;exact H.kp.2.2.2.2 k e),H.kp.2.1,H.kp.2.2.1,H.kp.2.2.2.1,fun k hk=>by rcases hv5 k hk with e | e;exact H.kp.2.2.2.2 k e;exact Nat.le_trans (Nat.le_trans (Nat.le_trans H.uL gy.1.size) dM.1.size) e⟩,by omega⟩
 ·rw[Qo hx.1];refine H.im.add (fun y hy=>?_) ?_ (by omega) hg0 hh0 ?_ hx.2.1 hx.2.2.1
  ·rcases hy with rfl | hy
   ·rw[l8,l8]
   ·obtain⟨j,rfl,hj,-⟩:=jA hy;exact vW (by rw[H.len];omega)
  ·rw[jq,if_neg (fun h=>by omega)]
  ·rw[←H.len];exact Ec
 ·refine⟨by rw[hold 0 H.m0];exact H.km.1,fun j hj hj0=>?_⟩;by_cases e:j=m
  ·rw[e,dU];exact hx.2.2.2
  ·rw[hold j (by omega)];exact H.km.2 j (by omega) hj0
 ·intro j hj hgj;by_cases e:j=m
  ·rw[e,dU,hx.1] at hgj;cases hgj
  ·rw[hold j (by omega)] at hgj;rw[List.getElem?_append_left (by rw[H.len];omega)];exact H.gn j (by omega) hgj
 ·intro k hk;rcases hv5 k hk with e | e
  ·exact Io k e
  ·exact⟨fun hf=>by have:=Ue k hf;omega,fun hm=>by have:=Du k hm;omega⟩
 ·intro j hj;by_cases e:j=m
  ·rw[e,dU];exact hxb
  ·rw[hold j (by omega)];have:=H.bd j (by omega);exact⟨by omega,by omega,this.2.2⟩
end
end
section
open Go.RowKit
theorem tF:(Tryz.prog.info? 67).map (fun i=>(i.zero,i.size,i.bytes))=some (some (.agg #[.int .i64 0,.string ⟨#[]⟩,.slice none 0 0,.string ⟨#[]⟩,.int .i64 0,.slice none 0 0,.bool false]),7,104):=by kernel_rfl
theorem Ag (base M m:Nat) (vs vA:Value) (f:Nat→RS) (k:Int) (nm dt:ByteArray) (w:World) (H:MV base w M vs m f) (hk:k≠2) (hbase:base≤w.heap.size) (hm:m≤100000) (hs:dt.size≤6000):
  Calls Tryz.prog 48 #[.pointer (some ⟨M,0,none⟩),.int .i64 k,.string nm,.string dt,vA] w fun e w'=>∃ vs',e=.returned (.int .i64 0)∧MV base w' M vs' (m+1) (iw m f ⟨k,⟨#[]⟩,⟨none,0,0⟩,[],aX dt,-1,⟨none,0,0⟩,[],false⟩)∧ay w w' (aB M vs m f) (aB M vs' (m+1) (iw m f ⟨k,⟨#[]⟩,⟨none,0,0⟩,[],aX dt,-1,⟨none,0,0⟩,[],false⟩)):=by
 obtain⟨i0,hi0,hz0,hz1,hz2⟩:=info_parts tF;obtain⟨A,c,rfl⟩:=H.form;obtain⟨w1,hw1⟩:∃ w1,w.alloc (.cells #[.int .i64 k,.string ⟨#[]⟩,.slice none 0 0,.string ⟨#[]⟩,.int .i64 (-1),.slice none 0 0,.bool false] 67)=w1:=⟨_,rfl⟩
 have hb1:Below w.heap.size w w1:=eP hw1;have hX1:Whole w1 w.heap.size #[.int .i64 k,.string ⟨#[]⟩,.slice none 0 0,.string ⟨#[]⟩,.int .i64 (-1),.slice none 0 0,.bool false] 67:=by rw[←hw1];exact Whole.new w _ _
 have q2:(k == 2)=false:=cK hk;have hR:=jT dt w1 (by omega);obtain⟨rv,mQ⟩:∃ rv,aX dt=rv:=⟨_,rfl⟩
 rw[show fJ (bJ.rep dt.data.toList)=rv from mQ] at hR;rw[mQ];have HR:=zh hR;have aU:=zh hX1;have HB1:=zh hb1;have HW1:=zh hw1;have HM:=zh (fun (W:World) (hb:Below w.heap.size w W)=>H.below hb);have Um:M<w.heap.size:=H.var.lt;have Ih:=zh (fun x (hx:(Value.slice A m c).ownBlock=some x)=>(H.lt x (Or.inr (Or.inl hx))).2);clear hR hX1 hb1 hw1 H mQ hs
 go_enter Tryz.func48,Tryz.ntmps48
 go_wp2_with fail;rw[HW1.out];refine HR.out.mono ?_;rintro e w2 ⟨rfl,hb2⟩;have hX2:=aU.out.below hb2 aU.out.lt;have fu:=HB1.out.trans (hb2.mono HB1.out.size);have y3:w2.cell? ⟨w.heap.size,3,none⟩=some (.string ⟨#[]⟩):=hX2.cell 3;have f3:=hX2.free 3;obtain⟨w4,hw4⟩:∃ w4,w2.setCell ⟨w.heap.size,3,none⟩ (.string rv)=w4:=⟨_,rfl⟩
 have bI:Whole w4 w.heap.size #[.int .i64 k,.string ⟨#[]⟩,.slice none 0 0,.string rv,.int .i64 (-1),.slice none 0 0,.bool false] 67:=by rw[←hw4];exact hX2.put 3 (.string rv)
 have g4:w2.grownBy w4 (some w.heap.size):=by rw[←hw4];exact aL (ak (Below.refl w2.heap.size w2) _) _ _
 have bY:=fu.grown g4 fu.size (fun j hj=>by simp at hj;omega);have Du:=HM.out w4 bY;have c0:w4.cell? ⟨M,0,none⟩=some (.slice A m c):=Du.var.cell 0;have z0:=Du.var.free 0;have x0:w4.cell? ⟨w.heap.size,0,none⟩=some (.int .i64 k):=bI.cell 0;have x1:w4.cell? ⟨w.heap.size,1,none⟩=some (.string ⟨#[]⟩):=bI.cell 1;have x2:w4.cell? ⟨w.heap.size,2,none⟩=some (.slice none 0 0):=bI.cell 2;have x3:w4.cell? ⟨w.heap.size,3,none⟩=some (.string rv):=bI.cell 3;have x4:w4.cell? ⟨w.heap.size,4,none⟩=some (.int .i64 (-1)):=bI.cell 4;have x5:w4.cell? ⟨w.heap.size,5,none⟩=some (.slice none 0 0):=bI.cell 5;have x6:w4.cell? ⟨w.heap.size,6,none⟩=some (.bool false):=bI.cell 6;obtain⟨w5,eH⟩:∃ w5,w4.drew.alloc (.cells #[.int .i64 k,.string ⟨#[]⟩,.slice none 0 0,.string rv,.int .i64 (-1),.slice none 0 0,.bool false] 67)=w5:=⟨_,rfl⟩
 have fG:Below w4.heap.size w4 w5:=by rw[←eH];exact (bB _ w4).alloc (Nat.le_refl _) _
 have dP:=bI.below fG bI.lt;have OW:=Du.below fG;have c5:w5.cell? ⟨M,0,none⟩=some (.slice A m c):=OW.var.cell 0;have z5:=OW.var.free 0;have hsrc:w5.ownsRow w4.heap.size 67 7 (.slice (some ⟨w4.heap.size,0,none⟩) 1 1) 1 [.int .i64 k,.string ⟨#[]⟩,.slice none 0 0,.string rv,.int .i64 (-1),.slice none 0 0,.bool false]:=by
  rw[←eH];exact World.ownsRow_lit (base:=w4.heap.size) (e:=67) (size:=7) w4.drew #[.int .i64 k,.string ⟨#[]⟩,.slice none 0 0,.string rv,.int .i64 (-1),.slice none 0 0,.bool false] 1 (Nat.le_refl _) (by unfold maxLen;omega) rfl
 have SY:base≤w5.heap.size:=by have:=fG.size;have:=bY.size;omega
 have JF:=zh (show w4.drew.cell? ⟨w.heap.size,0,none⟩=some (.int .i64 k)∧w4.drew.cell? ⟨w.heap.size,1,none⟩=some (.string ⟨#[]⟩)∧w4.drew.cell? ⟨w.heap.size,2,none⟩=some (.slice none 0 0)∧w4.drew.cell? ⟨w.heap.size,3,none⟩=some (.string rv)∧w4.drew.cell? ⟨w.heap.size,4,none⟩=some (.int .i64 (-1))∧w4.drew.cell? ⟨w.heap.size,5,none⟩=some (.slice none 0 0)∧w4.drew.cell? ⟨w.heap.size,6,none⟩=some (.bool false) from⟨bI.cell 0,bI.cell 1,bI.cell 2,bI.cell 3,bI.cell 4,bI.cell 5,bI.cell 6⟩);have H9:=zh (show w5.cell? ⟨w.heap.size,0,none⟩=some (.int .i64 k)∧w5.cell? ⟨w.heap.size,1,none⟩=some (.string ⟨#[]⟩)∧w5.cell? ⟨w.heap.size,2,none⟩=some (.slice none 0 0)∧w5.cell? ⟨w.heap.size,3,none⟩=some (.string rv)∧w5.cell? ⟨w.heap.size,4,none⟩=some (.int .i64 (-1))∧w5.cell? ⟨w.heap.size,5,none⟩=some (.slice none 0 0)∧w5.cell? ⟨w.heap.size,6,none⟩=some (.bool false) from⟨dP.cell 0,dP.cell 1,dP.cell 2,dP.cell 3,dP.cell 4,dP.cell 5,dP.cell 6⟩);have eT:=zh dP;have RO:=zh Du;have yw:=zh bY;have Ia:=zh fG;have oO:=OW.row;clear hX2 bI dP g4 fu hb2 Du bY fG HR;go_wp2_with fail;(try rw[hw4]);(try go_wp2_with fail);refine wp_region_noPanic ?_;refine wp_region_held_drew (S:=(fun W=>W.cell? ⟨w.heap.size,0,none⟩=some (.int .i64 k)∧W.cell? ⟨w.heap.size,1,none⟩=some (.string ⟨#[]⟩)∧W.cell? ⟨w.heap.size,2,none⟩=some (.slice none 0 0)∧W.cell? ⟨w.heap.size,3,none⟩=some (.string rv)∧W.cell? ⟨w.heap.size,4,none⟩=some (.int .i64 (-1))∧W.cell? ⟨w.heap.size,5,none⟩=some (.slice none 0 0)∧W.cell? ⟨w.heap.size,6,none⟩=some (.bool false))) (by kernel_rfl) ?_ (fun hHeld=>?_)
 ·exact JF.out
 refine bD [0,1,2,3,5] ?_;iterate 5 (refine iZ ?_;try simp only[pS])
 refine bE ?_;apply Bq
 ·intro KEY;refine wpAnyH_ready (rs:=[4,6]) (by kernel_rfl) (by simp) ?_;refine AllReadyH.cons rfl (fun K hK=>?_) (AllReadyH.cons rfl (fun K hK=>?_) AllReadyH.nil)
  ·go_simp;refine hK.out _ _ (JF.out) fun hHeld=>?_;clear hK K;(try simp only[pS]);refine bL 6 fun K hK=>?_;go_simp;(try rw[eH]);refine hK.out _ _ (H9.out) fun hHeld=>?_;clear hK K;(try simp only[pS]);exact KEY
  ·go_simp;(try rw[eH]);refine hK.out _ _ (H9.out) fun hHeld=>?_;clear hK K;(try simp only[pS]);refine bL 4 fun K hK=>?_;go_simp;refine hK.out _ _ (H9.out) fun hHeld=>?_;clear hK K;(try simp only[pS]);exact KEY
 refine bL 7 fun K hK=>?_;refine cZ rfl _ _ 68 rfl base w4.heap.size 67 i0 (.agg #[.int .i64 0,.string ⟨#[]⟩,.slice none 0 0,.string ⟨#[]⟩,.int .i64 0,.slice none 0 0,.bool false]) 7 104 Tryz.underlying68 hi0 hz0 hz1 hz2 rfl (by decide) _ m (bS pR m f) rfl oO _ 1 [.int .i64 k,.string ⟨#[]⟩,.slice none 0 0,.string rv,.int .i64 (-1),.slice none 0 0,.bool false] rfl hsrc ?c3 ?c4 ?c5 SY ?_
 case c3=>exact lN ⟨k,⟨#[]⟩,⟨none,0,0⟩,[],rv,-1,⟨none,0,0⟩,[],false⟩
 case c4=>unfold maxLen;omega
 case c5=>omega
 intro v6 w6 o6 g6 f6;obtain⟨A6,c6,rfl⟩:=aF (aH o6);have hpush:=RO.out.push (x:=⟨k,⟨#[]⟩,⟨none,0,0⟩,[],rv,-1,⟨none,0,0⟩,[],false⟩) Ia.out g6 o6 f6 rfl rfl (TR.nil _ _ _ _);obtain⟨v6,qV,yh⟩:=hpush;have k6:w6.cell? ⟨M,0,none⟩=some (.slice A m c):=v6.cell 0;have k6f:=v6.free 0;have gI:=eT.out.grown g6 (fun e=>by have:=Ih.out _ e.symm;omega);obtain⟨w7,hw7⟩:∃ w7,w6.setCell ⟨M,0,none⟩ (.slice A6 (m+1) c6)=w7:=⟨_,rfl⟩
 rw[hw7] at qV yh;have aO:Whole w7 w.heap.size #[.int .i64 k,.string ⟨#[]⟩,.slice none 0 0,.string rv,.int .i64 (-1),.slice none 0 0,.bool false] 67:=by rw[←hw7];exact gI.other (by show w.heap.size≠M;omega) _
 have Rh:=(⟨gI.cell 0,gI.cell 1,gI.cell 2,gI.cell 3,gI.cell 4,gI.cell 5,gI.cell 6⟩:w6.cell? ⟨w.heap.size,0,none⟩=some (.int .i64 k)∧w6.cell? ⟨w.heap.size,1,none⟩=some (.string ⟨#[]⟩)∧w6.cell? ⟨w.heap.size,2,none⟩=some (.slice none 0 0)∧w6.cell? ⟨w.heap.size,3,none⟩=some (.string rv)∧w6.cell? ⟨w.heap.size,4,none⟩=some (.int .i64 (-1))∧w6.cell? ⟨w.heap.size,5,none⟩=some (.slice none 0 0)∧w6.cell? ⟨w.heap.size,6,none⟩=some (.bool false))
 have qW:=(⟨aO.cell 0,aO.cell 1,aO.cell 2,aO.cell 3,aO.cell 4,aO.cell 5,aO.cell 6⟩:w7.cell? ⟨w.heap.size,0,none⟩=some (.int .i64 k)∧w7.cell? ⟨w.heap.size,1,none⟩=some (.string ⟨#[]⟩)∧w7.cell? ⟨w.heap.size,2,none⟩=some (.slice none 0 0)∧w7.cell? ⟨w.heap.size,3,none⟩=some (.string rv)∧w7.cell? ⟨w.heap.size,4,none⟩=some (.int .i64 (-1))∧w7.cell? ⟨w.heap.size,5,none⟩=some (.slice none 0 0)∧w7.cell? ⟨w.heap.size,6,none⟩=some (.bool false))
 have bf:=zh (And.intro qV ((ay.of_below yw.out).trans yh));clear qV yh aO gI o6 g6 f6 v6;refine hK.out _ _ (Rh) fun hHeld=>?_;clear hK K;(try simp only[pS]);refine bD [8,9] ?_;iterate 2 (refine iZ ?_;try simp only[pS])
 refine bE ?_;refine bL 10 fun K hK=>?_;go_simp;(try rw[hw7]);refine hK.out _ _ (qW) fun hHeld=>?_;clear hK K;(try simp only[pS]);refine fB ?_;go_wp2_with fail
 go_ret
 exact⟨_,rfl,bf.out.1,bf.out.2⟩
theorem Jb (M:Nat) (vA:Value) (nm dt:ByteArray) (w:World) (hs:nm.size≤10000) (he:Nm.elem nm=false):
  Calls Tryz.prog 48 #[.pointer (some ⟨M,0,none⟩),.int .i64 2,.string nm,.string dt,vA] w fun e w'=>e=.returned (.int .i64 1)∧Below w.heap.size w w':=by
 obtain⟨w1,hw1⟩:∃ w1,w.alloc (.cells #[.int .i64 2,.string ⟨#[]⟩,.slice none 0 0,.string ⟨#[]⟩,.int .i64 (-1),.slice none 0 0,.bool false] 67)=w1:=⟨_,rfl⟩
 have hb1:Below w.heap.size w w1:=eP hw1;have hR:=vE nm w1 hs;rw[he] at hR;have HR:=zh hR;have HB1:=zh hb1;have HW1:=zh hw1;clear hR hb1 hw1
 go_enter Tryz.func48,Tryz.ntmps48
 go_wp2_with fail;rw[HW1.out];refine HR.out.mono ?_;rintro e w2 ⟨rfl,hb2⟩;have hbF:=HB1.out.trans (hb2.mono HB1.out.size);have MR:=zh hbF;clear hb2 hbF HR;go_wp2_with fail
 go_ret
 exact⟨rfl,MR.out⟩
end
end Go.Proofs.YtnbaadpgbcklaaaGreatDoor
