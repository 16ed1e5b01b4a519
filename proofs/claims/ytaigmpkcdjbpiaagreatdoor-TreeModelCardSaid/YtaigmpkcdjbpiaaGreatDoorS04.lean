/- Part of a proof about trees: NHan, NRnw, NSta, NHof, NTwn, NTst, NTws, NFew, NSab, NRwd, NPdr, NTwd, NRie, NTwm, NRmk, NRmn. -/
import Derived.Test.YtaigmpkcdjbpiaaGreatDoorGNDuj
import Derived.Test.YtaigmpkcdjbpiaaGreatDoorGNRsa
set_option linter.unusedVariables false
set_option linter.unusedSimpArgs false
set_option linter.unusedSectionVars false
set_option maxHeartbeats 4000000
set_option maxRecDepth 100000
namespace Go.Proofs.YtaigmpkcdjbpiaaGreatDoor
section
open Go.RowKit
def hof (hs:List Int) (x:Int):Int:=if x<0 then 0 else hs.getD x.toNat 0
structure TwV (w:World) (T B M:Nat) (vh:Value) (hs:List Int):Prop where
 var:Whole w T #[.pointer (some ⟨B,0,none⟩),.pointer (some ⟨M,0,none⟩),vh] 33
 row:TR w 0 3 1 vh hs.length (ints hs)
theorem TwV.below {w w':World} {T B M:Nat} {vh:Value} {hs:List Int} (h:TwV w T B M vh hs) (hb:Below w.heap.size w w'):TwV w' T B M vh hs:=⟨h.var.below hb h.var.lt,h.row.below hb⟩
theorem hof_neg {hs:List Int} {x:Int} (h:x<0):hof hs x=0:=if_pos h
theorem hof_out {hs:List Int} {x:Int} (h:(hs.length:Int)≤x):hof hs x=0:=by
 unfold hof;rw[if_neg (by omega),List.getD_eq_getElem?_getD,List.getElem?_eq_none (by omega)];rfl
theorem hof_in {hs:List Int} {j:Nat} {x:Int} (h:hs[j]?=some x):hof hs (j:Int)=x:=by
 unfold hof;rw[if_neg (by omega),List.getD_eq_getElem?_getD,Int.toNat_natCast,h];rfl
theorem handle_any (T B M:Nat) (vh:Value) (hs:List Int) (x:Int) (w:World) (H:TwV w T B M vh hs):
  Calls Tryz.prog 42 #[.pointer (some ⟨T,0,none⟩),.int .i64 x] w fun e w'=>e=.returned (.int .i64 (hof hs x))∧w'=w:=by
 obtain⟨A,c,rfl⟩:=H.row.form;have c2:w.cell? ⟨T,2,none⟩=some (.slice A hs.length c):=H.var.cell 2;obtain⟨n,hn⟩:∃ n,hs.length=n:=⟨_,rfl⟩
 have HN:=zh hn;by_cases h0:x<0
 ·have HE:=zh (hof_neg (hs:=hs) h0);clear H hn
  go_enter Tryz.func42,Tryz.ntmps42
  go_wp2_with fail
  go_ret
  exact⟨by rw[HE.out];rfl,rfl⟩
 ·obtain⟨j,rfl⟩:=Int.eq_ofNat_of_zero_le (by omega:0≤x);have j0:(0:Int)≤(j:Int):=by omega
  rw[hn] at c2;by_cases hj:j<n
  ·obtain⟨y,hy⟩:∃ y,hs[j]?=some y:=⟨hs[j]'(by omega),by simp⟩
   have HE:=zh (hof_in hy);have hlen:0<hs.length:=by omega
   obtain⟨g,o,rfl,-,-,hcs,-⟩:=H.row.cells hlen;have ck:=hcs j _ (by omega) (ints_get hy);have j1:¬ (n:Int)≤(j:Int):=by omega
   have j2:(j:Int)<(n:Int):=by omega
   clear H hn hy hcs hlen
   go_enter Tryz.func42,Tryz.ntmps42
   go_wp2_with fail
   go_ret
   exact⟨by rw[HE.out];rfl,rfl⟩
  ·have HE:=zh (hof_out (hs:=hs) (x:=(j:Int)) (by omega));have j1:(n:Int)≤(j:Int):=by omega
   clear H hn
   go_enter Tryz.func42,Tryz.ntmps42
   go_wp2_with fail
   go_ret
   exact⟨by rw[HE.out];rfl,rfl⟩
def rs0:RS:=⟨1,⟨#[]⟩,⟨none,0,0⟩,[],⟨#[]⟩,-1,⟨none,0,0⟩,[],false⟩
theorem rnew_any (w:World):
  Calls Tryz.prog 40 #[] w fun e w'=>∃ M vs,e=.returned (.pointer (some ⟨M,0,none⟩))∧MV w.heap.size w' M vs 1 (fun _=>rs0)∧Below w.heap.size w w':=by
 obtain⟨w1,hw1⟩:∃ w1,w.alloc (.cells #[.int .i64 1,.string ⟨#[]⟩,.slice none 0 0,.string ⟨#[]⟩,.int .i64 (-1),.slice none 0 0,.bool false] 67)=w1:=⟨_,rfl⟩
 have hrow:w1.ownsRow w.heap.size 67 7 (.slice (some ⟨w.heap.size,0,none⟩) 1 1) 1 (cellsT rsC 1 fun _=>rs0):=by
  rw[←hw1];exact World.ownsRow_lit (base:=w.heap.size) (e:=67) (size:=7) w #[.int .i64 1,.string ⟨#[]⟩,.slice none 0 0,.string ⟨#[]⟩,.int .i64 (-1),.slice none 0 0,.bool false] 1 (Nat.le_refl _) (by unfold maxLen;omega) rfl
 have hs1:w1.heap.size=w.heap.size+1:=by rw[←hw1];simp
 have hb1:Below w.heap.size w w1:=bzA hw1;have hX:=Whole.new w1 #[.slice (some ⟨w.heap.size,0,none⟩) 1 1] 70;have hM:MV w.heap.size (w1.alloc (.cells #[.slice (some ⟨w.heap.size,0,none⟩) 1 1] 70)) w1.heap.size (.slice (some ⟨w.heap.size,0,none⟩) 1 1) 1 (fun _=>rs0):=
  ⟨by omega,hX,hrow.alloc _,fun i _=>TR.nil _ _ _ _,fun i _=>TR.nil _ _ _ _,fun i j h1 h2 h3=>by omega,fun i j h1 h2 h3=>by omega⟩
 rw[hs1] at hM;have HM:=zh (And.intro hM (hb1.alloc (by omega) (.cells #[.slice (some ⟨w.heap.size,0,none⟩) 1 1] 70)));clear hM hX hrow hb1
 go_enter Tryz.func40,Tryz.ntmps40
 go_wp2_with fail;(try rw[hw1]);try go_wp2_with fail
 go_ret
 exact⟨_,_,rfl,HM.out.1,HM.out.2⟩
theorem TwV.made {W:World} {B M:Nat} {r:Int} {b0:Nat} (hrow:W.ownsRow b0 3 1 (.slice (some ⟨b0,0,none⟩) 1 1) 1 (ints [r])):TwV (W.alloc (.cells #[.pointer (some ⟨B,0,none⟩),.pointer (some ⟨M,0,none⟩),.slice (some ⟨b0,0,none⟩) 1 1] 33)) W.heap.size B M (.slice (some ⟨b0,0,none⟩) 1 1) [r]:=
 ⟨Whole.new W _ _,(TR.of_own (hrow.alloc _)).zero⟩
def StartP (b s:Int) (w:World) (e:Ending) (w':World):Prop:=∃ (T B M:Nat) (vs vf vsM vh:Value),e=.returned (.pointer (some ⟨T,0,none⟩))∧TwV w' T B M vh [Ar.hdl b s 0]∧
 (∃ bT,w.heap.size≤bT∧TV bT w' B b s vs 1 (Tr.raw (Tr.addG noG (Ar.hdl b s 0) docN) noA) vf [] 1 (Ar.hdl b s 0))∧Sound b s 1 (Tr.raw (Tr.addG noG (Ar.hdl b s 0) docN) noA) [] 1∧Tr.WF 0 (Tr.addG noG (Ar.hdl b s 0) docN)∧
 (∃ bM,MV bM w' M vsM 1 (fun _=>rs0)∧∀ k,Foot B vs vf k→k<bM)∧Below w.heap.size w w'∧w.heap.size≤T∧∀ k,vh.ownBlock=some k→w.heap.size≤k∧¬ Foot B vs vf k∧¬ MFoot M vsM 1 (fun _=>rs0) k
theorem start_a {b s:Int} {w w0 w1 W2:World} {B M:Nat} {vs vf vsM:Value} (hT:TV w0.heap.size w1 B b s vs 1 (Tr.raw (Tr.addG noG (Ar.hdl b s 0) docN) noA) vf [] 1 (Ar.hdl b s 0)) (h0:w.heap.size≤w0.heap.size) (hSW:Sound b s 1 (Tr.raw (Tr.addG noG (Ar.hdl b s 0) docN) noA) [] 1∧Tr.WF 0 (Tr.addG noG (Ar.hdl b s 0) docN)) (hB1:Below w.heap.size w w1)
  (hM:MV w1.drew.heap.size W2 M vsM 1 (fun _=>rs0)∧Below w1.drew.heap.size w1.drew W2):
  StartP b s w (.returned (.pointer (some ⟨W2.heap.size+1,0,none⟩))) ((W2.alloc (.cells #[.int .i64 (Ar.hdl b s 0)] 3)).alloc (.cells #[.pointer (some ⟨B,0,none⟩),.pointer (some ⟨M,0,none⟩),.slice (some ⟨W2.heap.size,0,none⟩) 1 1] 33)):=by
 have hb12:Below w1.heap.size w1 W2:=(below_drew1 _ w1).trans hM.2;have hs:=hB1.size;have hs2:=hb12.size;have hrow:(W2.alloc (.cells #[.int .i64 (Ar.hdl b s 0)] 3)).ownsRow W2.heap.size 3 1 (.slice (some ⟨W2.heap.size,0,none⟩) 1 1) 1 (ints [Ar.hdl b s 0]):=World.ownsRow_lit (base:=W2.heap.size) (e:=3) (size:=1) W2 #[.int .i64 (Ar.hdl b s 0)] 1 (Nat.le_refl _) (by unfold maxLen;omega) rfl;have htw:=TwV.made (B:=B) (M:=M) hrow;rw[World.size_alloc] at htw;have hbE:Below W2.heap.size W2 ((W2.alloc (.cells #[.int .i64 (Ar.hdl b s 0)] 3)).alloc (.cells #[.pointer (some ⟨B,0,none⟩),.pointer (some ⟨M,0,none⟩),.slice (some ⟨W2.heap.size,0,none⟩) 1 1] 33)):=((Below.refl _ W2).alloc (Nat.le_refl _) _).alloc (by simp) _;exact⟨_,B,M,vs,vf,vsM,_,rfl,htw,⟨_,h0,(hT.below hb12).below hbE⟩,hSW.1,hSW.2,⟨w1.heap.size,hM.1.below hbE,fun k hk=>(hT.lt k hk).2⟩,(hB1.trans (hb12.mono hs)).trans (hbE.mono (Nat.le_trans hs hs2)),by omega,fun k hk=>by
  have e:W2.heap.size=k:=by simpa [Value.ownBlock] using hk
  subst e
  exact⟨by omega,fun hf=>by have:=(hT.lt _ hf).2;omega,fun hf=>by have:=(hM.1.lt _ hf).2;omega⟩⟩
theorem start_b {b s:Int} {w w0 w1 W2:World} {B M:Nat} {vs vf vsM:Value} (hT:TV w0.heap.size w1 B b s vs 1 (Tr.raw (Tr.addG noG (Ar.hdl b s 0) docN) noA) vf [] 1 (Ar.hdl b s 0)) (h0:w.heap.size≤w0.heap.size) (hSW:Sound b s 1 (Tr.raw (Tr.addG noG (Ar.hdl b s 0) docN) noA) [] 1∧Tr.WF 0 (Tr.addG noG (Ar.hdl b s 0) docN)) (hB1:Below w.heap.size w w1)
  (hM:MV (w1.drew.alloc (.cells #[.int .i64 (Ar.hdl b s 0)] 3)).heap.size W2 M vsM 1 (fun _=>rs0)∧Below (w1.drew.alloc (.cells #[.int .i64 (Ar.hdl b s 0)] 3)).heap.size (w1.drew.alloc (.cells #[.int .i64 (Ar.hdl b s 0)] 3)) W2):
  StartP b s w (.returned (.pointer (some ⟨W2.heap.size,0,none⟩))) (W2.alloc (.cells #[.pointer (some ⟨B,0,none⟩),.pointer (some ⟨M,0,none⟩),.slice (some ⟨w1.heap.size,0,none⟩) 1 1] 33)):=by
 have hb1a:Below w1.heap.size w1 (w1.drew.alloc (.cells #[.int .i64 (Ar.hdl b s 0)] 3)):=(below_drew1 _ w1).alloc (Nat.le_refl _) _;have hsa:=hb1a.size;have hb12:Below w1.heap.size w1 W2:=hb1a.trans (hM.2.mono hsa);have hs:=hB1.size;have hs2:=hb12.size;have hrow0:(w1.drew.alloc (.cells #[.int .i64 (Ar.hdl b s 0)] 3)).ownsRow w1.heap.size 3 1 (.slice (some ⟨w1.heap.size,0,none⟩) 1 1) 1 (ints [Ar.hdl b s 0]):=World.ownsRow_lit (base:=w1.heap.size) (e:=3) (size:=1) w1.drew #[.int .i64 (Ar.hdl b s 0)] 1 (Nat.le_refl _) (by unfold maxLen;omega) rfl;have hrow:W2.ownsRow w1.heap.size 3 1 (.slice (some ⟨w1.heap.size,0,none⟩) 1 1) 1 (ints [Ar.hdl b s 0]):=hrow0.kept (gb_of_below hM.2 none) (.inr (by simp[Value.ownBlock]));have htw:=TwV.made (B:=B) (M:=M) hrow;have hbE:Below W2.heap.size W2 (W2.alloc (.cells #[.pointer (some ⟨B,0,none⟩),.pointer (some ⟨M,0,none⟩),.slice (some ⟨w1.heap.size,0,none⟩) 1 1] 33)):=(Below.refl _ W2).alloc (Nat.le_refl _) _;exact⟨_,B,M,vs,vf,vsM,_,rfl,htw,⟨_,h0,(hT.below hb12).below hbE⟩,hSW.1,hSW.2,⟨_,hM.1.below hbE,fun k hk=>Nat.lt_of_lt_of_le (hT.lt k hk).2 hsa⟩,(hB1.trans (hb12.mono hs)).trans (hbE.mono (Nat.le_trans hs hs2)),by omega,fun k hk=>by
  have e:w1.heap.size=k:=by simpa [Value.ownBlock] using hk
  subst e;refine⟨by omega,fun hf=>by have:=(hT.lt _ hf).2;omega,fun hf=>?_⟩;have h1:=(hM.1.lt _ hf).1;rw[World.size_alloc] at h1;have h2:w1.drew.heap.size=w1.heap.size:=rfl
  omega⟩
theorem start_any (b s:Int) (w:World):
  Calls Tryz.prog 12 #[saltV b s] w fun e w'=>StartP b s w e w':=by
 obtain⟨w0,hw0⟩:∃ w0,w.alloc (.cells #[.int .i64 b,.int .i64 s] 28)=w0:=⟨_,rfl⟩
 have hb0:Below w.heap.size w w0:=bzA hw0;have hX:Whole w0 w.heap.size #[.int .i64 b,.int .i64 s] 28:=by rw[←hw0];exact Whole.new w _ _
 have s0:w0.cell? ⟨w.heap.size,0,none⟩=some (.int .i64 b):=hX.cell 0;have s1:w0.cell? ⟨w.heap.size,1,none⟩=some (.int .i64 s):=hX.cell 1;have HN:=zh (new_any b s w0);have HB0:=zh hb0;have HW0:=zh hw0;clear hX hb0 hw0
 go_enter Tryz.func12,Tryz.ntmps12
 go_wp2_with fail;(try rw[HW0.out]);(try go_wp2_with fail);refine HN.out.mono ?_;rintro e w1 ⟨B,vs,vf,rfl,hT,hS,hW,hb1⟩;have r0:=hT.cells.2.2.2.2.2;have HT:=zh hT;have HSW:=zh (And.intro hS hW);have HB1:=zh (HB0.out.trans (hb1.mono HB0.out.size));clear HN hT hS hW hb1;go_wp2_with fail;have hBl:B<w1.heap.size:=HT.out.var.lt
 go_region_with (refine (rnew_any _).mono ?_;rintro e W2 ⟨M,vsM,rfl,hMV,hbM⟩;(try have r2:W2.cell? ⟨B,5,none⟩=some (.int .i64 (Ar.hdl b s 0)):=(hbM.cell (p:=⟨B,5,none⟩) hBl).trans r0);have HMV:=zh (And.intro hMV hbM);clear hMV hbM)
 all_goals go_wp2_with fail
 all_goals go_ret
 all_goals first | exact start_a HT.out HB0.out.size HSW.out HB1.out HMV.out | exact start_b HT.out HB0.out.size HSW.out HB1.out HMV.out
theorem hof_push_old {hs:List Int} {h x:Int} (hx:x<(hs.length:Int)):hof (hs++[h]) x=hof hs x:=by
 unfold hof;by_cases e:x<0
 ·rw[if_pos e,if_pos e]
 ·rw[if_neg e,if_neg e,List.getD_eq_getElem?_getD,List.getD_eq_getElem?_getD,List.getElem?_append_left (by omega)]
theorem hof_push_new {hs:List Int} {h:Int}:hof (hs++[h]) (hs.length:Int)=h:=by
 unfold hof;rw[if_neg (by omega),List.getD_eq_getElem?_getD,Int.toNat_natCast,List.getElem?_append_right (Nat.le_refl _),Nat.sub_self];rfl
theorem hof_m1 {hs:List Int}:hof hs (-1)=0:=hof_neg (by omega)
end
section
open Go.RowKit
class Kep where
 L:Nat
 w0:World
variable [Kep]
structure TW (w:World) (base bM T B M:Nat) (b s:Int) (vs vf vsM vh:Value) (n live m:Nat) (fr:List Nat) (av:Int→Tr.Sl) (f:Nat→RS) (hs:List Int) (g:Tr.G) (K:Nat):Prop where
 tw:TwV w T B M vh hs
 tv:TV base w B b s vs n (Tr.raw g av) vf fr live (hof hs 0)
 so:Sound b s n (Tr.raw g av) fr live
 at':AT w g av
 wf:Tr.WF 0 g
 mv:MV bM w M vsM m f
 im:Tr.Im (hof hs) (mg m f) g
 km:KindsM m f
 len:hs.length=m
 g0:(f 0).gone=false
 m0:0<m
 gn:∀ i,i<m→(f i).gone=true→hs[i]?=some (-1)
 nm:n≤m
 apF:∀ k,Foot B vs vf k→¬ MFoot M vsM m f k
 apH:∀ k,vh.ownBlock=some k→¬ Foot B vs vf k∧¬ MFoot M vsM m f k
 d0:(f 0).pa = -1
 bd:∀ i,i<m→(f i).at'.length≤K+2∧(f i).data.size≤120*K∧Txt.rep (f i).data.data.toList=(f i).data.data.toList
 kp:Below Kep.L Kep.w0 w∧Kep.L≤base∧Kep.L≤bM∧Kep.L≤T∧∀ k,vh.ownBlock=some k→Kep.L≤k
 ml:m≤700
section
variable {w w':World} {base bM T B M:Nat} {b s:Int} {vs vf vsM vh:Value} {n live m:Nat} {fr:List Nat} {av:Int→Tr.Sl} {f:Nat→RS} {hs:List Int} {g:Tr.G} {K:Nat}
theorem TW.lowL (H:TW w base bM T B M b s vs vf vsM vh n live m fr av f hs g K):Kep.L≤w.heap.size:=by
 have:=H.kp.2.2.2.1;have:=H.tw.var.lt;omega
theorem TW.below (H:TW w base bM T B M b s vs vf vsM vh n live m fr av f hs g K) (hb:Below w.heap.size w w'):TW w' base bM T B M b s vs vf vsM vh n live m fr av f hs g K:=
 ⟨H.tw.below hb,H.tv.below hb,H.so,H.at'.below hb,H.wf,H.mv.below hb,H.im,H.km,H.len,H.g0,H.m0,H.gn,H.nm,H.apF,H.apH,H.d0,H.bd,⟨H.kp.1.trans (hb.mono H.lowL),H.kp.2⟩,H.ml⟩
theorem TW.at_hs (H:TW w base bM T B M b s vs vf vsM vh n live m fr av f hs g K) {i:Nat} (hi:i<m):hs[i]?=some (hof hs (i:Int)):=by
 have hl:i<hs.length:=by rw[H.len];exact hi
 obtain⟨x,hx⟩:∃ x,hs[i]?=some x:=⟨hs[i],by simp⟩
 rw[hx,hof_in hx]
theorem TW.gone_h (H:TW w base bM T B M b s vs vf vsM vh n live m fr av f hs g K) {i:Nat} (hi:i<m) (hg:(f i).gone=true):hof hs (i:Int) = -1∧g (-1)=none:=by
 refine⟨hof_in (H.gn i hi hg),?_⟩;cases e:g (-1) with
 | none=>rfl
 | some x=>
  have:=(tmem_i64 H.so (h := -1) (by rw[raw_isSome,e];rfl)).2;omega
theorem TW.live_h (H:TW w base bM T B M b s vs vf vsM vh n live m fr av f hs g K) {i:Nat} (hi:i<m) (hg:(f i).gone=false):g (hof hs (i:Int))=some (Tr.mapG (hof hs) (rsG (f i))):=H.im.node _ _ (mg_at hi hg)
theorem TW.i64 (H:TW w base bM T B M b s vs vf vsM vh n live m fr av f hs g K) {i:Nat} (hi:i<m):I64 (hof hs (i:Int)):=by
 cases hg:(f i).gone with
 | true=>rw[(H.gone_h hi hg).1];constructor<;>omega
 | false=>exact (tmem_i64 H.so (h:=hof hs (i:Int)) (by rw[raw_isSome,H.live_h hi hg];rfl)).1
theorem TW.apT (H:TW w base bM T B M b s vs vf vsM vh n live m fr av f hs g K):¬ Foot B vs vf T∧¬ MFoot M vsM m f T:=by
 refine⟨H.tv.not_foot H.tw.var (by decide) (by decide) (by decide),?_⟩;rintro (e | e | ⟨i,hi,e | e⟩)
 ·exact H.tw.var.unlike H.mv.var (by decide) e
 ·exact own_unlike H.mv.row H.tw.var (by decide) e
 ·exact (H.mv.ar i hi).unlike H.tw.var (by decide) e
 ·exact (H.mv.kr i hi).unlike H.tw.var (by decide) e
theorem TW.after (H:TW w base bM T B M b s vs vf vsM vh n live m fr av f hs g K) {vs' vf':Value} (st:AStep w w' (Foot B vs vf) (Foot B vs' vf')):
  TwV w' T B M vh hs∧MV bM w' M vsM m f∧(∀ k,Foot B vs' vf' k→¬ MFoot M vsM m f k)∧(∀ k,vh.ownBlock=some k→¬ Foot B vs' vf' k)∧∀ k,MFoot M vsM m f k→k<w.heap.size:=by
 have hml:=fun k hk=>(H.mv.lt k hk).2;have hvl:∀ k,vh.ownBlock=some k→k<w.heap.size:=fun k hk=>(H.tw.row.lt k hk).2;refine⟨⟨H.tw.var.turns st.1 H.apT.1,H.tw.row.turns st.1 fun k hk=>(H.apH k hk).1⟩,H.mv.turns st.1 (fun k hk hf=>H.apF k hf hk),fun k hf hm=>H.apF k (st.2 k (hml k hm) hf) hm,fun k hk hf=>(H.apH k hk).1 (st.2 k (hvl k hk) hf),hml⟩
end
end
section
open Go.RowKit
variable [Kep]
theorem im_start (h:Int) (hz:h≠0):Tr.Im (hof [h]) (mg 1 fun _=>rs0) (Tr.addG noG h docN):=by
 have h0:hof [h] ((0:Nat):Int)=h:=hof_in rfl;have hm:∀ x,(mg 1 (fun _=>rs0) x).isSome→x=((0:Nat):Int):=fun x hx=>by
  obtain⟨i,rfl,hi,-,-⟩:=mg_is hx;have:i=0:=by omega
  rw[this]
 have e0:mg 1 (fun _=>rs0) ((0:Nat):Int)=some (rsG rs0):=mg_at (m:=1) (f:=fun _=>rs0) (i:=0) (by omega) rfl;have en:Tr.mapG (hof [h]) (rsG rs0)=docN:=by
  unfold Tr.mapG;rw[show (rsG rs0).pa = -1 from rfl,hof_m1];rfl
 constructor
 ·exact hof_m1
 ·intro x n e;have hx:=hm x (by rw[e];rfl);subst hx;rw[e0] at e;obtain rfl:=Option.some.inj e;rw[h0,Tr.addG_self,en]
 ·intro x hx;refine⟨((0:Nat):Int),by rw[e0];rfl,?_⟩;rw[h0];by_cases e:x=h
  ·exact e.symm
  ·rw[Tr.addG_ne e] at hx;cases hx
 ·intro x y hx hy _;rw[hm x hx,hm y hy]
 ·intro x hx;rw[hm x hx,h0];exact hz
 ·exact mg_neg (by omega)
 ·intro x n e;have hx:=hm x (by rw[e];rfl);subst hx;rw[e0] at e;obtain rfl:=Option.some.inj e;exact .inl rfl
 ·intro x n e k hk;have hx:=hm x (by rw[e];rfl);subst hx;rw[e0] at e;obtain rfl:=Option.some.inj e;cases hk
theorem tw_start (b s:Int) (w w':World) (e:Ending) (h:StartP b s w e w') (hkp:Below Kep.L Kep.w0 w) (hL:Kep.L≤w.heap.size):
  ∃ (T B M base bM:Nat) (vs vf vsM vh:Value),e=.returned (.pointer (some ⟨T,0,none⟩))∧TW w' base bM T B M b s vs vf vsM vh 1 1 1 [] noA (fun _=>rs0) [Ar.hdl b s 0] (Tr.addG noG (Ar.hdl b s 0) docN) 0:=by
 obtain⟨T,B,M,vs,vf,vsM,vh,rfl,htw,⟨bT,hbT,htv⟩,hso,hwf,⟨bM,hmv,hfm⟩,hb,hT,hv⟩:=h;have h0:hof [Ar.hdl b s 0] 0=Ar.hdl b s 0:=hof_in (j:=0) rfl;have hz:Ar.hdl b s 0≠0:=by have:=(tmem_i64 hso (h:=Ar.hdl b s 0) (by rw[raw_isSome,Tr.addG_self];rfl)).2;omega
 have hBM:bT<bM:=Nat.lt_of_le_of_lt htv.low (hfm B (.inl rfl));refine⟨T,B,M,bT,bM,vs,vf,vsM,vh,rfl,⟨htw,by rw[h0];exact htv,hso,fun x q e=>?_,hwf,hmv,im_start _ hz,⟨rfl,fun i hi h1=>absurd hi (by omega)⟩,rfl,rfl,by omega,fun i hi hg=>absurd hg (by decide),Nat.le_refl _,fun k hf hm=>absurd (hfm k hf) (Nat.not_lt.2 (hmv.lt k hm).1),fun k hk=>(hv k hk).2,rfl,fun i hi=>⟨Nat.zero_le _,Nat.zero_le _,Txt.rep_nil⟩,⟨hkp.trans (hb.mono hL),by omega,by omega,Nat.le_trans hL hT,fun k hk=>Nat.le_trans hL (hv k hk).1⟩,by omega⟩⟩;by_cases hx:x=Ar.hdl b s 0
 ·subst hx;rw[Tr.addG_self] at e;obtain rfl:=Option.some.inj e;exact TR.nil _ _ _ _
 ·rw[Tr.addG_ne hx] at e;cases e
end
section
open Go.RowKit
variable [Kep]
theorem AT.mfoot {w w':World} {g:Tr.G} {av:Int→Tr.Sl} {bM M m:Nat} {vsM:Value} {f:Nat→RS} {F':Nat→Prop} (h:AT w g av) (hM:MV bM w M vsM m f) (st:AStep w w' (MFoot M vsM m f) F'):AT w' g av:=
 h.turns st.1 fun x q e k hk hm=>by
  have hr:=h x q e;rcases hm with e1 | e1 | ⟨i,hi,e1 | e1⟩
  ·exact TR.unlike hr hM.var (by decide) (by rw[hk,e1])
  ·exact TR.ne hr (TR.of_own hM.row) (by decide) k hk e1
  ·exact TR.ne hr (hM.ar i hi) (by decide) k hk e1
  ·exact TR.ne hr (hM.kr i hi) (by decide) k hk e1
theorem wf_put {g:Tr.G} {h:Int} {U:Tr.GN→Tr.GN} (w:Tr.WF 0 g) (hU:∀ n,(U n).pa=n.pa∧(U n).kids=n.kids):Tr.WF 0 (Tr.putG g h U):=by
 have back:∀ x m,Tr.putG g h U x=some m→∃ n,g x=some n∧m.pa=n.pa∧m.kids=n.kids:=fun x m e=>by
  unfold Tr.putG at e
  split at e
  ·rename_i hx;subst hx;cases e2:g x with
   | none=>rw[e2] at e;cases e
   | some n=>rw[e2] at e;obtain rfl:=Option.some.inj e;exact⟨n,rfl,(hU n).1,(hU n).2⟩
  ·exact⟨m,e,rfl,rfl⟩
 have forth:∀ x n,g x=some n→∃ m,Tr.putG g h U x=some m∧m.pa=n.pa∧m.kids=n.kids:=fun x n e=>by
  unfold Tr.putG;by_cases hx:x=h
  ·subst hx;rw[if_pos rfl,e];exact⟨_,rfl,(hU n).1,(hU n).2⟩
  ·rw[if_neg hx];exact⟨n,e,rfl,rfl⟩
 have up:∀ {x:Int} {l:List Int},Tr.Up g x l→Tr.Up (Tr.putG g h U) x l:=by
  intro x l u
  induction u with
  | @out x e=>exact .out (by
    cases e2:Tr.putG g h U x with
    | none=>rfl
    | some m=>obtain⟨n,e3,_⟩:=back x m e2;rw[e] at e3;cases e3)
  | node e _ ih=>obtain⟨m,e2,e3,_⟩:=forth _ _ e;exact .node e2 (by rw[e3];exact ih)
 constructor
 ·cases e:Tr.putG g h U 0 with
  | none=>rfl
  | some m=>obtain⟨n,e2,_⟩:=back 0 m e;rw[w.zero] at e2;cases e2
 ·intro x m e hp;obtain⟨n,e2,e3,e4⟩:=back x m e;obtain⟨p,e5,e6⟩:=w.up x n e2 (by rw[←e3];exact hp);obtain⟨p',e7,_,e8⟩:=forth _ _ e5;exact⟨p',by rw[e3];exact e7,by rw[e8];exact e6⟩
 ·intro x m k e hk;obtain⟨n,e2,e3,e4⟩:=back x m e;obtain⟨q,e5,e6⟩:=w.down x n k e2 (by rw[←e4];exact hk);obtain⟨q',e7,e8,_⟩:=forth _ _ e5;exact⟨q',e7,by rw[e8];exact e6⟩
 ·intro x m e;obtain⟨n,e2,_,e4⟩:=back x m e;rw[e4];exact w.nodup x n e2
 ·intro x;obtain⟨l,u,hl⟩:=w.chain x;exact⟨l,up u,hl⟩
section
variable {w w3 w4:World} {base bM T B M:Nat} {b s:Int} {vs vf vsM vh vs' vf' vsM':Value} {n live m n' live':Nat} {fr fr':List Nat} {av av':Int→Tr.Sl} {f f':Nat→RS} {hs:List Int} {g g':Tr.G} {K:Nat}
theorem TW.up (H:TW w base bM T B M b s vs vf vsM vh n live m fr av f hs g K):TW w base bM T B M b s vs vf vsM vh n live m fr av f hs g (K+1):=
 ⟨H.tw,H.tv,H.so,H.at',H.wf,H.mv,H.im,H.km,H.len,H.g0,H.m0,H.gn,H.nm,H.apF,H.apH,H.d0,fun i hi=>⟨by have:=(H.bd i hi).1;omega,by have:=(H.bd i hi).2.1;omega,(H.bd i hi).2.2⟩,H.kp,H.ml⟩
theorem TW.step (H:TW w base bM T B M b s vs vf vsM vh n live m fr av f hs g K) (tv':TV base w3 B b s vs' n' (Tr.raw g' av') vf' fr' live' (hof hs 0)) (so':Sound b s n' (Tr.raw g' av') fr' live') (st:AStep w w3 (Foot B vs vf) (Foot B vs' vf')) (at':AT w3 g' av') (wf':Tr.WF 0 g')
  (mv':MV bM w4 M vsM' m f') (stM:AStep w3 w4 (MFoot M vsM m f) (MFoot M vsM' m f')) (im':Tr.Im (hof hs) (mg m f') g') (km':KindsM m f') (g0':(f' 0).gone=false) (gn':∀ i,i<m→(f' i).gone=true→hs[i]?=some (-1)) (nm':n'≤m) (d0':(f' 0).pa = -1)
  (bd':∀ i,i<m→(f' i).at'.length≤K+1+2∧(f' i).data.size≤120*(K+1)∧Txt.rep (f' i).data.data.toList=(f' i).data.data.toList):TW w4 base bM T B M b s vs' vf' vsM' vh n' live' m fr' av' f' hs g' (K+1):=by
 obtain⟨a1,a2,a3,a4,a5⟩:=H.after st;have hFl:∀ k,Foot B vs' vf' k→k<w3.heap.size:=fun k hk=>(tv'.lt k hk).2;have hvl:∀ k,vh.ownBlock=some k→k<w3.heap.size:=fun k hk=>Nat.lt_of_lt_of_le (H.tw.row.lt k hk).2 st.1.size;have hT3:¬ MFoot M vsM m f T:=H.apT.2;exact⟨⟨a1.var.turns stM.1 hT3,a1.row.turns stM.1 fun k hk=>(H.apH k hk).2⟩,tv'.turns stM.1 (fun k hk hm=>a3 k hk hm),so',at'.mfoot a2 stM,wf',mv',im',km',H.len,g0',H.m0,gn',nm',
  fun k hf hm=>a3 k hf (stM.2 k (hFl k hf) hm),fun k hk=>⟨a4 k hk,fun hm=>(H.apH k hk).2 (stM.2 k (hvl k hk) hm)⟩,d0',bd',⟨(H.kp.1.trans (st.1.below H.lowL fun k hk=>Nat.le_trans H.kp.2.1 (H.tv.lt k hk).1)).trans (stM.1.below (Nat.le_trans H.lowL st.1.size) fun k hk=>Nat.le_trans H.kp.2.2.1 (H.mv.lt k hk).1),H.kp.2⟩,H.ml⟩
theorem cutF_same {p i:Nat} {sl:Tr.Sl} (j:Nat):(updM (updM f p fun n=>{ n with k:=sl,kids:=n.kids.erase (i:Int) }) i (fun n=>{ n with pa := -1 }) j).kind=(f j).kind∧(updM (updM f p fun n=>{ n with k:=sl,kids:=n.kids.erase (i:Int) }) i (fun n=>{ n with pa := -1 }) j).gone=(f j).gone∧
  (updM (updM f p fun n=>{ n with k:=sl,kids:=n.kids.erase (i:Int) }) i (fun n=>{ n with pa := -1 }) j).at'=(f j).at'∧(updM (updM f p fun n=>{ n with k:=sl,kids:=n.kids.erase (i:Int) }) i (fun n=>{ n with pa := -1 }) j).data=(f j).data:=by
 unfold updM;by_cases h1:j=i
 ·subst h1;rw[if_pos rfl];by_cases h2:j=p
  ·subst h2;rw[if_pos rfl];exact⟨rfl,rfl,rfl,rfl⟩
  ·rw[if_neg h2];exact⟨rfl,rfl,rfl,rfl⟩
 ·rw[if_neg h1];by_cases h2:j=p
  ·subst h2;rw[if_pos rfl];exact⟨rfl,rfl,rfl,rfl⟩
  ·rw[if_neg h2];exact⟨rfl,rfl,rfl,rfl⟩
theorem TW.cut (H:TW w base bM T B M b s vs vf vsM vh n live m fr av f hs g K) {i p:Nat} {sl:Tr.Sl} (hi:i<m) (hg:(f i).gone=false) (hp:(f i).pa=(p:Int)) (hpm:p<m) (hpg:(f p).gone=false) (hpi:p≠i)
  (tv':TV base w3 B b s vs n (Tr.raw (Tr.cut1 g (hof hs (i:Int))) av) vf fr live (hof hs 0)) (st:AStep w w3 (Foot B vs vf) (Foot B vs vf))
  (mv':MV bM w4 M vsM m (updM (updM f p fun n=>{ n with k:=sl,kids:=n.kids.erase (i:Int) }) i fun n=>{ n with pa := -1 })) (stM:AStep w3 w4 (MFoot M vsM m f) (MFoot M vsM m (updM (updM f p fun n=>{ n with k:=sl,kids:=n.kids.erase (i:Int) }) i fun n=>{ n with pa := -1 }))):
  TW w4 base bM T B M b s vs vf vsM vh n live m fr av (updM (updM f p fun n=>{ n with k:=sl,kids:=n.kids.erase (i:Int) }) i fun n=>{ n with pa := -1 }) hs (Tr.cut1 g (hof hs (i:Int))) (K+1):=by
 have eg:=H.live_h hi hg;have hpa:Tr.paOf g (hof hs (i:Int))=hof hs (p:Int):=by rw[Tr.paOf_some eg];show hof hs (f i).pa=_;rw[hp]
 have hpz:hof hs (p:Int)≠0:=H.im.nz _ (by rw[mg_at hpm hpg];rfl);have e1:Tr.cut1 g (hof hs (i:Int))=Tr.cutG g (hof hs (i:Int)):=by unfold Tr.cut1;rw[if_neg (by rw[hpa];exact hpz)]
 have im':Tr.Im (hof hs) (mg m (updM (updM f p fun n=>{ n with k:=sl,kids:=n.kids.erase (i:Int) }) i fun n=>{ n with pa := -1 })) (Tr.cut1 g (hof hs (i:Int))):=by
  rw[mg_cut hi hg hpm hpg hp hpi,e1];exact H.im.cut H.wf (mg_at hi hg) (by show (f i).pa ≠ -1;omega)
 refine H.step tv' (sound_cut1 H.so H.wf eg) st ?_ ?_ mv' stM im' ?_ ?_ ?_ H.nm ?_ ?_
 ·refine AT.same (H.at'.step H.tv st) fun x q e=>?_;rw[e1] at e;unfold Tr.cutG at e
  split at e
  ·rename_i hx;subst hx;rw[eg] at e;obtain rfl:=Option.some.inj e;exact⟨_,eg,rfl⟩
  ·split at e
   ·rename_i hx;cases e2:g x with
    | none=>rw[e2] at e;cases e
    | some y=>rw[e2] at e;obtain rfl:=Option.some.inj e;exact⟨y,rfl,rfl⟩
   ·exact⟨q,e,rfl⟩
 ·exact H.wf.cut1 eg
 ·exact⟨by rw[(cutF_same 0).1];exact H.km.1,fun j hj h0=>by rw[(cutF_same j).1];exact H.km.2 j hj h0⟩
 ·rw[(cutF_same 0).2.1];exact H.g0
 ·intro j hj hgj;rw[(cutF_same j).2.1] at hgj;exact H.gn j hj hgj
 ·have hd:=H.d0;unfold updM;by_cases h1:0=i
  ·rw[if_pos h1]
  ·rw[if_neg h1];by_cases h2:0=p
   ·rw[if_pos h2,←h2];exact hd
   ·rw[if_neg h2];exact hd
 ·intro j hj;rw[(cutF_same j).2.2.1,(cutF_same j).2.2.2];have:=H.bd j hj;exact⟨by omega,by omega,this.2.2⟩
theorem TW.put (H:TW w base bM T B M b s vs vf vsM vh n live m fr av f hs g K) {i:Nat} (hi:i<m) (hg:(f i).gone=false) {u:RS→RS} {U:Tr.GN→Tr.GN} (hu:∀ x,(u x).gone=x.gone∧(u x).kind=x.kind) (hU:∀ x,rsG (u x)=U (rsG x)) (hUk:∀ n,(U n).pa=n.pa∧(U n).kids=n.kids) (hm:∀ n,U (Tr.mapG (hof hs) n)=Tr.mapG (hof hs) (U n))
  (tv':TV base w3 B b s vs n (Tr.raw (Tr.putG g (hof hs (i:Int)) U) av') vf fr live (hof hs 0)) (so':Sound b s n (Tr.raw (Tr.putG g (hof hs (i:Int)) U) av') fr live) (at':AT w3 (Tr.putG g (hof hs (i:Int)) U) av') (st:AStep w w3 (Foot B vs vf) (Foot B vs vf))
  (mv':MV bM w4 M vsM m (updM f i u)) (stM:AStep w3 w4 (MFoot M vsM m f) (MFoot M vsM m (updM f i u)))
  (bd':(u (f i)).at'.length≤K+1+2∧(u (f i)).data.size≤120*(K+1)∧Txt.rep (u (f i)).data.data.toList=(u (f i)).data.data.toList):TW w4 base bM T B M b s vs vf vsM vh n live m fr av' (updM f i u) hs (Tr.putG g (hof hs (i:Int)) U) (K+1):=by
 have hgo:∀ j,(updM f i u j).gone=(f j).gone∧(updM f i u j).kind=(f j).kind:=fun j=>by
  unfold updM;split
  ·rename_i e;rw[e];exact hu _
  ·exact⟨rfl,rfl⟩
 have im':Tr.Im (hof hs) (mg m (updM f i u)) (Tr.putG g (hof hs (i:Int)) U):=by
  rw[mg_upd hi hg (by rw[(hu _).1];exact hg) (hU _)];exact H.im.put (by rw[mg_at hi hg];rfl) U hUk hm
 refine H.step tv' so' st at' (wf_put H.wf hUk) mv' stM im' ?_ ?_ ?_ H.nm ?_ ?_
 ·exact⟨by rw[(hgo 0).2];exact H.km.1,fun j hj h0=>by rw[(hgo j).2];exact H.km.2 j hj h0⟩
 ·rw[(hgo 0).1];exact H.g0
 ·intro j hj hgj;rw[(hgo j).1] at hgj;exact H.gn j hj hgj
 ·unfold updM
  split
  ·rename_i e;have h1:=congrArg Tr.GN.pa (hU (f i));rw[(hUk _).1] at h1;show (rsG (u (f i))).pa = -1;rw[h1,←e];exact H.d0
  ·exact H.d0
 ·intro j hj;by_cases e:j=i
  ·subst e;unfold updM;rw[if_pos rfl];exact bd'
  ·rw[updM_ne e];have:=H.bd j hj;exact⟨by omega,by omega,this.2.2⟩
theorem TW.kinds (H:TW w base bM T B M b s vs vf vsM vh n live m fr av f hs g K):∀ x q,g x=some q→q.kind≠0:=by
 intro x q e;obtain⟨y,hy,rfl⟩:=H.im.dom x (by rw[e];rfl);obtain⟨i,rfl,hi,hg,-⟩:=mg_is hy;rw[H.live_h hi hg] at e;obtain rfl:=Option.some.inj e;show (f i).kind≠0;by_cases h0:i=0
 ·subst h0;rw[H.km.1];decide
 ·rcases H.km.2 i hi h0 with h | h | h<;>omega
end
end
section
open Go.RowKit
structure Op8 where
 kind:Int
 a:Int
 b:Int
 c:Int
 s:ByteArray
 t:ByteArray
 n:Int
 k:Int
def op8C (o:Op8):List Value:=[.int .u8 o.kind,.int .u8 o.a,.int .u8 o.b,.int .u8 o.c,.string o.s,.string o.t,.int .i8 o.n,.int .i8 o.k]
def OpsR (w:World) (v:Value) (n:Nat) (F:Nat→Op8):Prop:=∃ A c,v=.slice A n c∧(0<n→∃ g o,A=some ⟨g,o,none⟩∧∀ i j u,i<n→(op8C (F i))[j]?=some u→w.cell? ⟨g,o+i*8+j,none⟩=some u)
theorem OpsR.below {w w':World} {v:Value} {n:Nat} {F:Nat→Op8} (h:OpsR w v n F) (hb:Below w.heap.size w w'):OpsR w' v n F:=by
 obtain⟨A,c,rfl,h2⟩:=h;refine⟨A,c,rfl,fun hn=>?_⟩;obtain⟨g,o,hA,h3⟩:=h2 hn;refine⟨g,o,hA,fun i j u hi hu=>?_⟩;have h4:=h3 i j u hi hu;exact (hb.cell (p:=⟨g,o+i*8+j,none⟩) (World.block_lt_of_cell? w _ h4)).trans h4
def FewP (n:Nat) (F:Nat→Op8) (w:World) (e:Ending) (w':World):Prop:=∃ r:Bool,e=.returned (.bool r)∧w'=w∧(r=true→n≤60∧∀ i,i<n→(F i).s.size≤40∧(F i).t.size≤40)
theorem few_any (v:Value) (n:Nat) (F:Nat→Op8) (w:World) (H:OpsR w v n F) (hn:n≤9223372036854775807):
  Calls Tryz.prog 11 #[v] w fun e w'=>FewP n F w e w':=by
 obtain⟨A,c,rfl,hc⟩:=H;have HC:=zh hc;clear hc
 go_enter Tryz.func11,Tryz.ntmps11
 go_wp2_with fail
 go_loopw [3] (fun u wr=>∃ j:Nat,u=.int .i64 (j:Int)∧j≤n∧wr=w∧∀ i,i<j→(F i).s.size≤40∧(F i).t.size≤40) (fun u _=>n - (intOf u).toNat)
 case atStart=>exact⟨0,rfl,Nat.zero_le _,rfl,fun i hi=>absurd hi (Nat.not_lt_zero _)⟩
 case round=>
  obtain⟨j,rfl,hj,rfl,hall⟩:=hrel;have HALL:=zh hall;clear hall;have j0:(0:Int)≤(j:Int):=by omega
  by_cases hjn:j<n
  ·have j1:(j:Int)<(n:Int):=by omega
   obtain⟨g,o,rfl,hcell⟩:=HC.out (by omega);have c4:=hcell j 4 _ hjn rfl;have c5:=hcell j 5 _ hjn rfl;clear hcell;by_cases h1:(40:Int)<((F j).s.size:Int)
   ·go_wp2_with fail
    go_ret
    exact⟨false,rfl,rfl,fun h=>by cases h⟩
   ·by_cases h2:(40:Int)<((F j).t.size:Int)
    ·go_wp2_with fail
     go_ret
     exact⟨false,rfl,rfl,fun h=>by cases h⟩
    ·go_wp2_with fail
     go_roundw
     case rel=>exact⟨j+1,by go_num,by omega,by trivial,fun i hi=>by
      by_cases e:i=j
      ·subst e;omega
      ·exact HALL.out i (by omega)⟩
     case measure=>simp[intOf];omega
  ·have hjn2:j=n:=by omega
   subst hjn2;have j1:¬ (j:Int)<(j:Int):=by omega
   go_wp2_with fail
   go_ret
   exact⟨decide ((j:Int)≤60),rfl,rfl,fun h=>⟨by have:=of_decide_eq_true h;omega,HALL.out⟩⟩
end
section
open Go Go.RowKit
abbrev zL3 (T B M gh oh m ch:Nat) (W:World):Prop:=W.cell? ⟨T,0,none⟩=some (.pointer (some ⟨B,0,none⟩))∧W.cell? ⟨T,1,none⟩=some (.pointer (some ⟨M,0,none⟩))∧W.cell? ⟨T,2,none⟩=some (.slice (some ⟨gh,oh,none⟩) m ch)
abbrev zL5 (T B M gh oh m ch X:Nat) (o:Op8) (W:World):Prop:=W.cell? ⟨T,0,none⟩=some (.pointer (some ⟨B,0,none⟩))∧W.cell? ⟨T,1,none⟩=some (.pointer (some ⟨M,0,none⟩))∧W.cell? ⟨T,2,none⟩=some (.slice (some ⟨gh,oh,none⟩) m ch)∧W.cell? ⟨X,4,none⟩=some (.string o.s)∧W.cell? ⟨X,5,none⟩=some (.string o.t)
abbrev zL8 (T B M gh oh m ch X ia:Nat) (h:Int) (o:Op8) (W:World):Prop:=W.cell? ⟨T,0,none⟩=some (.pointer (some ⟨B,0,none⟩))∧W.cell? ⟨T,1,none⟩=some (.pointer (some ⟨M,0,none⟩))∧W.cell? ⟨T,2,none⟩=some (.slice (some ⟨gh,oh,none⟩) m ch)∧W.cell? ⟨gh,oh+ia,none⟩=some (.int .i64 h)∧W.cell? ⟨X,4,none⟩=some (.string o.s)∧W.cell? ⟨X,5,none⟩=some (.string o.t)∧W.cell? ⟨X,6,none⟩=some (.int .i8 o.n)∧W.cell? ⟨X,7,none⟩=some (.int .i8 o.k)
abbrev zL9 (T B M gh oh m ch X ia:Nat) (h:Int) (o:Op8) (ib:Nat) (p:Int) (W:World):Prop:=W.cell? ⟨T,0,none⟩=some (.pointer (some ⟨B,0,none⟩))∧W.cell? ⟨T,1,none⟩=some (.pointer (some ⟨M,0,none⟩))∧W.cell? ⟨T,2,none⟩=some (.slice (some ⟨gh,oh,none⟩) m ch)∧W.cell? ⟨gh,oh+ia,none⟩=some (.int .i64 h)∧W.cell? ⟨X,4,none⟩=some (.string o.s)∧W.cell? ⟨X,5,none⟩=some (.string o.t)∧W.cell? ⟨X,6,none⟩=some (.int .i8 o.n)∧W.cell? ⟨X,7,none⟩=some (.int .i8 o.k)∧W.cell? ⟨gh,oh+ib,none⟩=some (.int .i64 p)
/-- An operation of the law as it lies in memory. -/
abbrev zOp (o:Op8):Array Value:=#[.int .u8 o.kind,.int .u8 o.a,.int .u8 o.b,.int .u8 o.c,.string o.s,.string o.t,.int .i8 o.n,.int .i8 o.k]
end
section
open Go.RowKit
theorem walk_le {m:Nat} {f:Nat→RS} (hw:Tr.WF (-1) (mg m f)) (h:Int):(Tr.walkG (mg m f) h).length≤m:=by
 have hlive:∀ x∈Tr.walkG (mg m f) h,∃ i:Nat,x=(i:Int)∧i<m:=fun x hx=>by
  obtain⟨i,h1,h2,_⟩:=mg_is (hw.walk_sub hx);exact⟨i,h1,h2⟩
 have hnd:=hw.walk_nodup h;have hnd3:((Tr.walkG (mg m f) h).map Int.toNat).Nodup:=by
  rw[List.nodup_iff_pairwise_ne,List.pairwise_map];refine (List.pairwise_iff_forall_sublist.2 ?_);intro a b hab e;obtain⟨j,h4,_⟩:=hlive a (hab.subset (by simp));obtain⟨j',h5,_⟩:=hlive b (hab.subset (by simp));have:a=b:=by rw[h4,h5] at e ⊢;simp at e;rw[e]
  exact (List.pairwise_iff_forall_sublist.1 (List.nodup_iff_pairwise_ne.1 hnd)) hab this
 have:=nodup_le m _ hnd3 (fun x hx=>by
  obtain⟨y,hy,rfl⟩:=List.mem_map.1 hx;obtain⟨j,h4,h5⟩:=hlive y hy
  rw[h4];simpa using h5)
 simpa using this
def walkJ (a:Tr.G) (h:Int) (l:List Int):List Int:=h::l.flatMap (Tr.walkG a)
theorem walkJ_snoc (a:Tr.G) (h:Int) (l:List Int) (k:Int):walkJ a h (l++[k])=walkJ a h l++Tr.walkG a k:=by
 unfold walkJ;rw[List.flatMap_append];simp
theorem walkJ_le (a:Tr.G) (h:Int) (l l':List Int):(walkJ a h l).length≤(walkJ a h (l++l')).length:=by
 unfold walkJ;rw[List.flatMap_append];simp
theorem rwalk_any (base M m:Nat) (vs:Value) (f:Nat→RS) (hw:Tr.WF (-1) (mg m f)) (hm:m≤100000):∀ h,(mg m f h).isSome→∀ w,MV base w M vs m f→
  Calls Tryz.prog 31 #[.pointer (some ⟨M,0,none⟩),.int .i64 h] w fun e w'=>∃ v,e=.returned v∧TR w' w.heap.size 3 1 v (Tr.walkG (mg m f) h).length (ints (Tr.walkG (mg m f) h))∧Below w.heap.size w w':=by
 obtain⟨i0,hi0,hz0,hz1,hz2⟩:=info_parts intInfoR;refine hw.induct ?_;intro h ih hs w H;obtain⟨i,rfl,hi,hg,hmi⟩:=mg_is hs;have hle:=mg_kids_le hw hi hg;obtain⟨A,c,rfl⟩:=H.form;have hr:Tr.walkG (mg m f) (i:Int)=walkJ (mg m f) i (f i).kids:=hw.walkG_some hmi;have hbnd:=walk_le hw (i:Int);obtain⟨n,hn⟩:∃ n,(f i).kids.length=n:=⟨_,rfl⟩
 rw[hn] at hle;obtain⟨g,rfl,-⟩:=H.read hi;have q1:(0:Int)≤(i:Int):=by omega
 have q2:(i:Int)<(m:Int):=by omega
 have HRD:=zh (fun (W:World) (hb:Below w.heap.size w W)=>show W.cell? ⟨M,0,none⟩=some (.slice (some ⟨g,0,none⟩) m c)∧W.cell? ⟨g,i*7+5,none⟩=some (.slice (f i).k.a n (f i).k.c) from by
  obtain⟨x,-,-,-,-,-,y,-⟩:=(H.below hb).rd hi
  rw[hn] at y;exact⟨x,y⟩)
 have HKC:=zh (fun (W:World) (hb:Below w.heap.size w W) (j:Nat) (k:Int) (hj:(f i).kids[j]?=some k)=>(H.below hb).kid hi hj);have HMB:=zh (fun (W:World) (hb:Below w.heap.size w W)=>H.below hb);have HI:=zh ih;have HR:=zh hr;have HB:=zh hbnd;have HW:=zh hw;have HN:=zh hn;have HG:=zh hg;obtain⟨w1,hw1⟩:∃ w1,w.alloc (.cells #[.int .i64 (i:Int)] 3)=w1:=⟨_,rfl⟩
 have hb1:Below w.heap.size w w1:=bzA hw1;have hrow1:TR w1 w.heap.size 3 1 (.slice (some ⟨w.heap.size,0,none⟩) 1 1) 1 (ints [(i:Int)]):=by
  rw[←hw1];exact TR.of_own (World.ownsRow_lit (base:=w.heap.size) (e:=3) (size:=1) w #[.int .i64 (i:Int)] 1 (Nat.le_refl _) (by unfold maxLen;omega) rfl)
 have HRW:=zh hrow1;have HB1:=zh hb1;clear H ih hr hbnd hw hmi hs hn hg hrow1 hb1
 go_enter Tryz.func31,Tryz.ntmps31
 go_wp2_with fail;(try rw[hw1]);go_wp2_with fail
 go_loopw [5,6] (fun v u wr=>∃ j:Nat,u=.int .i64 (j:Int)∧j≤n∧TR wr w.heap.size 3 1 v (walkJ (mg m f) i ((f i).kids.take j)).length (ints (walkJ (mg m f) i ((f i).kids.take j)))∧Below w.heap.size w wr) (fun _ u _=>n - (intOf u).toNat)
 case atStart=>exact⟨0,rfl,Nat.zero_le _,HRW.out,HB1.out⟩
 case round=>
  obtain⟨j,rfl,hj,o,hbr⟩:=hrel;obtain⟨k0,c5⟩:=HRD.out _ hbr;have j0:(0:Int)≤(j:Int):=by omega
  by_cases hjn:j<n
  ·have j1:(j:Int)<(n:Int):=by omega
   obtain⟨k,hk⟩:∃ k,(f i).kids[j]?=some k:=⟨(f i).kids[j]'(by rw[HN.out];exact hjn),by simp⟩
   obtain⟨ga,oa,hA,ck⟩:=HKC.out _ hbr j k hk;rw[hA] at c5;have hkm:k∈(f i).kids:=List.mem_of_getElem? hk;obtain⟨i',hki,hi',hg',_⟩:=Live.kid HW.out hi HG.out hkm;have hcall:=HI.out _ (mg_at hi HG.out) k hkm (by rw[hki,mg_isSome hi',hg'];rfl) _ (HMB.out _ hbr);have htk:(f i).kids.take (j+1)=(f i).kids.take j++[k]:=by rw[List.take_add_one,hk];rfl
   have hsn:walkJ (mg m f) i ((f i).kids.take (j+1))=walkJ (mg m f) i ((f i).kids.take j)++Tr.walkG (mg m f) k:=by rw[htk,walkJ_snoc]
   have hl1:(walkJ (mg m f) i ((f i).kids.take (j+1))).length≤m:=by
    have h1:=walkJ_le (mg m f) i ((f i).kids.take (j+1)) ((f i).kids.drop (j+1));rw[List.take_append_drop,←HR.out] at h1;have:=HB.out;omega
   have HX:=zh hsn;have HC:=zh hcall;obtain⟨P,hP⟩:∃ P,walkJ (mg m f) i ((f i).kids.take j)=P:=⟨_,rfl⟩
   obtain⟨Q,hQ⟩:∃ Q,Tr.walkG (mg m f) k=Q:=⟨_,rfl⟩
   have HPQ:=zh (And.intro hP hQ);rw[hP] at o;rw[hsn,hP,hQ,List.length_append] at hl1;rw[hQ] at HC;clear hcall hsn htk hk hkm hki hA hP hQ;go_wp2_with fail;refine HC.out.mono ?_;rintro e w2 ⟨v2,rfl,o2,hb2⟩;have hb02:=hbr.trans (hb2.mono hbr.size);have o':=o.below hb2;have src:=o2.source;have hyl:=o2.1;have hbs:=hb02.size;clear HC o o2
   go_wp2_with (at_builtin;refine wpList_append_tail rfl _ _ 31 rfl w.heap.size 3 i0 (.int .i64 0) 1 8 Tryz.underlying31 hi0 hz0 hz1 hz2 rfl (by decide) _ P.length (ints P) rfl o' _ Q.length (ints Q) rfl hyl src (ints_one _) ?c3 ?c4 hbs ?_)
   case c3=>unfold maxLen;omega
   case c4=>omega
   intro v5 w5 o5 g5 f5;have hb5:=hb02.grown g5 hbs (fun j hj=>(o'.lt j hj).1);have o5':TR w5 w.heap.size 3 1 v5 (walkJ (mg m f) i ((f i).kids.take (j+1))).length (ints (walkJ (mg m f) i ((f i).kids.take (j+1)))):=by
    rw[HX.out,HPQ.out.1,HPQ.out.2,List.length_append,ints_append];exact o5
   have HO:=zh o5';clear o5 o5' g5 f5 o' src hyl hbr hb02 hb2;go_wp2_with fail
   go_roundw
   case rel=>exact⟨j+1,by go_num,by omega,HO.out,hb5⟩
   case measure=>simp[intOf];omega
  ·have hjn2:j=n:=by omega
   subst hjn2;have htk:(f i).kids.take j=(f i).kids:=by rw[List.take_of_length_le];rw[HN.out];exact Nat.le_refl _
   rw[htk,←HR.out] at o;have HO:=zh o;clear o htk;have j1:¬ (j:Int)<(j:Int):=by omega
   go_wp2_with fail
   go_ret
   exact⟨_,rfl,HO.out,hbr⟩
def goneM (f:Nat→RS) (l:List Int):Nat→RS:=fun j=>if (j:Int)∈l then { f j with gone:=true } else f j
theorem goneM_nil (f:Nat→RS):goneM f []=f:=by funext j;unfold goneM;simp
theorem goneM_snoc (f:Nat→RS) (l:List Int) (i:Nat):goneM f (l++[(i:Int)])=updM (goneM f l) i fun n=>{ n with gone:=true }:=by
 funext j;unfold goneM updM;by_cases e:j=i
 ·subst e;rw[if_pos (by simp),if_pos rfl];dsimp only;by_cases hl:(j:Int)∈l
  ·rw[if_pos hl]
  ·rw[if_neg hl]
 ·rw[if_neg e];have hiff:((j:Int)∈l++[(i:Int)])↔(j:Int)∈l:=by
   rw[List.mem_append,List.mem_singleton];exact⟨fun h=>by rcases h with h | h;exact h;omega,.inl⟩
  dsimp only;by_cases hl:(j:Int)∈l
  ·rw[if_pos (hiff.2 hl),if_pos hl]
  ·rw[if_neg (fun h=>hl (hiff.1 h)),if_neg hl]
theorem goneM_parts (f:Nat→RS) (l:List Int) (j:Nat):(goneM f l j).a=(f j).a∧(goneM f l j).k=(f j).k:=by
 unfold goneM;split<;>exact⟨rfl,rfl⟩
theorem goneM_foot (M m:Nat) (vs:Value) (f:Nat→RS) (l:List Int):MFoot M vs m (goneM f l)=MFoot M vs m f:=by
 funext x;unfold MFoot;simp only[(goneM_parts f l _).1,(goneM_parts f l _).2]
theorem rdrop_state (base M m:Nat) (vs:Value) (f:Nat→RS) (i:Nat) (w:World) (H:MV base w M vs m f) (hi:i<m) (h0:i=0∨∃ p:Nat,(f i).pa=(p:Int)):
  Calls Tryz.prog 49 #[.pointer (some ⟨M,0,none⟩),.int .i64 (i:Int)] w fun e w'=>e=.returned (.int .i64 7)∧w'=w:=by
 obtain⟨A,c,rfl⟩:=H.form;obtain⟨g,rfl,-⟩:=H.read hi;obtain⟨k0,-,-,-,-,c4,-⟩:=H.rd hi;by_cases hi0:i=0
 ·subst hi0;clear H h0
  go_enter Tryz.func49,Tryz.ntmps49
  go_wp2_with fail
  go_ret
  exact⟨rfl,rfl⟩
 ·obtain⟨p,hp⟩:∃ p:Nat,(f i).pa=(p:Int):=by rcases h0 with e | e;exact absurd e hi0;exact e
  rw[hp] at c4;have q1:(0:Int)≤(i:Int):=by omega
  have q2:(i:Int)<(m:Int):=by omega
  have q3:((i:Int) == 0)=false:=beq_false' (by omega);have q4:(0:Int)≤(p:Int):=by omega
  clear H h0 hp
  go_enter Tryz.func49,Tryz.ntmps49
  go_wp2_with fail
  go_ret
  exact⟨rfl,rfl⟩
theorem rdrop_ok (base M m:Nat) (vs:Value) (f:Nat→RS) (i:Nat) (w:World) (H:MV base w M vs m f) (hw:Tr.WF (-1) (mg m f)) (hi:i<m) (hg:(f i).gone=false) (hm:m≤100000) (h0:i≠0) (hp:(f i).pa = -1):
  Calls Tryz.prog 49 #[.pointer (some ⟨M,0,none⟩),.int .i64 (i:Int)] w fun e w'=>e=.returned (.int .i64 0)∧MV base w' M vs m (goneM f (Tr.walkG (mg m f) i))∧AStep w w' (MFoot M vs m f) (MFoot M vs m (goneM f (Tr.walkG (mg m f) i))):=by
 have hWK:=rwalk_any base M m vs f hw hm (i:Int) (by rw[mg_isSome hi,hg];rfl) w H;have hlive:∀ x∈Tr.walkG (mg m f) (i:Int),∃ j:Nat,x=(j:Int)∧j<m:=fun x hx=>by
  obtain⟨j,h1,h2,_⟩:=mg_is (hw.walk_sub hx);exact⟨j,h1,h2⟩
 have hwl:=walk_le hw (i:Int);obtain⟨L,hL⟩:∃ L,Tr.walkG (mg m f) (i:Int)=L:=⟨_,rfl⟩
 rw[hL] at hWK hlive hwl ⊢;obtain⟨n,hn⟩:∃ n,L.length=n:=⟨_,rfl⟩
 rw[hn] at hWK hwl;obtain⟨A,c,rfl⟩:=H.form;obtain⟨g,rfl,-⟩:=H.read hi;obtain⟨k0,-,-,-,-,c4,-⟩:=H.rd hi;rw[hp] at c4;have q1:(0:Int)≤(i:Int):=by omega
 have q2:(i:Int)<(m:Int):=by omega
 have q3:((i:Int) == 0)=false:=beq_false' (by omega);have HWK:=zh hWK;have HH:=zh H;have HLV:=zh hlive;have HN:=zh hn;have hgl:g<w.heap.size:=(H.row.lt g rfl).2;clear H hw hWK hlive hL hn hp hg h0
 go_enter Tryz.func49,Tryz.ntmps49
 go_wp2_with fail;refine HWK.out.mono ?_;rintro e w1 ⟨v1,rfl,o1,hb1⟩;obtain⟨A1,c1,rfl⟩:=o1.form;have HM1:=zh (HH.out.below hb1);have HO1:=zh o1;have HB1:=zh hb1;clear HWK o1 hb1;go_wp2_with fail
 go_loopw [6] (fun u wr=>∃ j:Nat,u=.int .i64 (j:Int)∧j≤n∧MV base wr M (.slice (some ⟨g,0,none⟩) m c) m (goneM f (L.take j))∧TR wr w.heap.size 3 1 (.slice A1 n c1) n (ints L)∧AStep w wr (MFoot M (.slice (some ⟨g,0,none⟩) m c) m f) (MFoot M (.slice (some ⟨g,0,none⟩) m c) m f)) (fun u _=>n - (intOf u).toNat)
 case atStart=>exact⟨0,rfl,Nat.zero_le _,by rw[List.take_zero,goneM_nil];exact HM1.out,HO1.out,.of_below HB1.out⟩
 case round=>
  obtain⟨j,rfl,hj,hmr,o,st⟩:=hrel;have j0:(0:Int)≤(j:Int):=by omega
  by_cases hjn:j<n
  ·have j1:(j:Int)<(n:Int):=by omega
   obtain⟨k,hk⟩:∃ k,L[j]?=some k:=⟨L[j]'(by rw[HN.out];exact hjn),by simp⟩
   obtain⟨x,rfl,hxm⟩:=HLV.out k (List.mem_of_getElem? hk);obtain⟨ga,oa,rfl,hga,-,hcs,-⟩:=o.cells (by omega);have ck:=hcs j _ (by omega) (ints_get hk);obtain⟨kr,-,-,-,-,-,-,c6⟩:=hmr.rd hxm;have f6:=hmr.fz (x*7+6);have x0:(0:Int)≤(x:Int):=by omega
   have x1:(x:Int)<(m:Int):=by omega
   obtain⟨hm2,st2⟩:=hmr.put (j:=6) (v:=.bool true) hxm (by omega) (fun n=>{ n with gone:=true }) rfl ⟨rfl,rfl,rfl,rfl⟩;have htk:L.take (j+1)=L.take j++[(x:Int)]:=by rw[List.take_add_one,hk];rfl
   rw[←goneM_snoc,←htk] at hm2 st2;rw[goneM_foot,goneM_foot] at st2;obtain⟨wo,hwo⟩:∃ wo:World,wo=wr:=⟨_,rfl⟩
   subst hwo;obtain⟨w3,hw3⟩:∃ w3,(wo.setCell ⟨g,x*7+6,none⟩ (.bool true)).drew=w3:=⟨_,rfl⟩
   have hbd:Below (wo.setCell ⟨g,x*7+6,none⟩ (.bool true)).heap.size (wo.setCell ⟨g,x*7+6,none⟩ (.bool true)) w3:=by rw[←hw3];exact below_drew1 _ _
   have g3:wo.grownBy (wo.setCell ⟨g,x*7+6,none⟩ (.bool true)) (some g):=gb_put (gb_of_below (Below.refl wo.heap.size wo) _) _ _;have o3:=(o.kept g3 (.inr (fun e=>by simp[Value.ownBlock] at e;omega))).below hbd;have HF:=zh (And.intro (hm2.below hbd) (And.intro o3 (st.trans (st2.trans (.of_below hbd)))));clear hmr hm2 st2 st o o3 hbd g3 hk htk hcs;go_wp2_with fail
   go_region
   (try rw[hw3]);go_wp2_with fail
   go_roundw
   case rel=>exact⟨j+1,by go_num,by omega,HF.out.1,HF.out.2.1,HF.out.2.2⟩
   case measure=>simp[intOf];omega
  ·have hjn2:j=n:=by omega
   subst hjn2;have htk:L.take j=L:=by rw[List.take_of_length_le];rw[HN.out];exact Nat.le_refl _
   rw[htk] at hmr;have HF:=zh (And.intro hmr st);clear hmr st o htk;have j1:¬ (j:Int)<(j:Int):=by omega
   go_wp2_with fail
   go_ret
   refine⟨rfl,HF.out.1,?_⟩;rw[goneM_foot];exact HF.out.2
theorem mg_dropG {m:Nat} {f:Nat→RS} {i:Int}:mg m (goneM f (Tr.walkG (mg m f) i))=Tr.dropG (mg m f) i:=by
 funext x;by_cases hx:x<0
 ·have h1:∀ f':Nat→RS,mg m f' x=none:=fun f'=>by unfold mg;rw[if_neg];rintro⟨h,_⟩;omega
  unfold Tr.dropG;rw[h1,h1];split<;>rfl
 ·obtain⟨j,rfl⟩:=Int.eq_ofNat_of_zero_le (by omega:0≤x);unfold Tr.dropG;rw[mg_nat,mg_nat];unfold goneM;by_cases hm:(j:Int)∈Tr.walkG (mg m f) i
  ·rw[if_pos hm,if_pos hm,if_neg];rintro⟨_,h⟩;cases h
  ·rw[if_neg hm,if_neg hm]
theorem pdrop_none (base B:Nat) (b s root h:Int) (live n:Nat) (R:Int→Option Tr.Nd) (fr:List Nat) (vs vf:Value) (w:World) (hm:TV base w B b s vs n R vf fr live root) (hS:Sound b s n R fr live) (hh:I64 h) (e1:R h=none):
  Calls Tryz.prog 37 #[.pointer (some ⟨B,0,none⟩),.int .i64 h] w fun e w'=>e=.returned (.int .i64 6)∧Below w.heap.size w w':=by
 have hA:=at_any base B b s root h live n R fr vs vf w hm hS hh;rw[e1] at hA
 go_enter Tryz.func37,Tryz.ntmps37
 go_wp2_with fail;refine hA.mono ?_;rintro e w1 ⟨g,o,rfl,hnp,hb⟩;have c0:w1.cell? ⟨g,o,none⟩=some (.int .i64 0):=hnp.cells.1;clear hm hA hnp;go_wp2_with fail
 go_ret
 exact⟨rfl,hb⟩
theorem pdrop_state (base B:Nat) (b s root h:Int) (live n:Nat) (g:Tr.G) (av:Int→Tr.Sl) (fr:List Nat) (vs vf:Value) (nd:Tr.GN) (w:World) (hm:TV base w B b s vs n (Tr.raw g av) vf fr live root) (hS:Sound b s n (Tr.raw g av) fr live) (eg:g h=some nd) (h0:nd.kind≠0) (hk:nd.kind=1∨nd.pa≠0):
  Calls Tryz.prog 37 #[.pointer (some ⟨B,0,none⟩),.int .i64 h] w fun e w'=>e=.returned (.int .i64 7)∧Below w.heap.size w w':=by
 have hA:=at_tv base B b s root h live n _ fr vs vf _ w hm hS (Tr.raw_some eg);have q0:(nd.kind == 0)=false:=beq_false' h0;have HP:=zh (fun (W:World) (gb o:Nat) (hb:Below w.heap.size w W) (hpt:PtrTo b s vs n gb o h)=>show W.cell? ⟨gb,o,none⟩=some (.int .i64 nd.kind)∧W.cell? ⟨gb,o+4,none⟩=some (.int .i64 nd.pa) from
  have hc:=((hm.below hb).np hpt (Tr.raw_some eg)).cells
  ⟨hc.1,hc.2.2.2.2.1⟩)
 clear hm hS;by_cases h1:nd.kind=1
 ·clear hk q0
  go_enter Tryz.func37,Tryz.ntmps37
  go_wp2_with fail;refine hA.mono ?_;rintro e w1 ⟨gb,o,rfl,hpt,hb⟩;obtain⟨c0,c4⟩:=HP.out _ _ _ hb hpt;rw[h1] at c0;clear hA hpt HP;go_wp2_with fail
  go_ret
  exact⟨rfl,hb⟩
 ·have q1:(nd.kind == 1)=false:=beq_false' h1;have q2:(nd.pa == 0)=false:=beq_false' (hk.resolve_left h1)
  go_enter Tryz.func37,Tryz.ntmps37
  go_wp2_with fail;refine hA.mono ?_;rintro e w1 ⟨gb,o,rfl,hpt,hb⟩;obtain⟨c0,c4⟩:=HP.out _ _ _ hb hpt;clear hA hpt HP;go_wp2_with fail
  go_ret
  exact⟨rfl,hb⟩
theorem pdrop_ok (base B:Nat) (b s root h:Int) (live n:Nat) (g:Tr.G) (av:Int→Tr.Sl) (fr:List Nat) (vs vf:Value) (nd:Tr.GN) (w:World) (hm:TV base w B b s vs n (Tr.raw g av) vf fr live root) (hS:Sound b s n (Tr.raw g av) fr live) (hw:Tr.WF 0 g) (hbs:base≤w.heap.size) (eg:g h=some nd) (h0:nd.kind≠0) (h1:nd.kind≠1) (hp:nd.pa=0) (hul:(Tr.walkG g h).length≤100000):
  Calls Tryz.prog 37 #[.pointer (some ⟨B,0,none⟩),.int .i64 h] w fun e w'=>∃ (vs' vf':Value) (fr':List Nat) (L:Nat),e=.returned (.int .i64 0)∧TV base w' B b s vs' n (Tr.raw (Tr.dropG g h) av) vf' fr' L root∧Sound b s n (Tr.raw (Tr.dropG g h) av) fr' L∧AStep w w' (Foot B vs vf) (Foot B vs' vf'):=by
 have hh:I64 h:=(tmem_i64 hS (h:=h) (by rw[Tr.raw_some eg];rfl)).1;have hA:=at_tv base B b s root h live n _ fr vs vf _ w hm hS (Tr.raw_some eg);have HE:=zh (hw.raw_drop rfl eg hp av);have HND:=zh (hw.walk_nodup h);have HIN:=zh (fun x (hx:x∈Tr.walkG g h)=>hw.walk_sub hx);have q0:(nd.kind == 0)=false:=beq_false' h0;have q1:(nd.kind == 1)=false:=beq_false' h1;have HLT:=zh hm.lt;have HC:=zh (fun (W:World) (hb:Below w.heap.size w W)=>made_walk base B b s root h live n g av fr vs vf W (hm.below hb) hS hw hh hul);obtain⟨D,hD⟩:∃ D,Tr.walkG g h=D:=⟨_,rfl⟩
 rw[hD] at HE HND HIN HC hul;obtain⟨N,hN⟩:∃ N,D.length=N:=⟨_,rfl⟩
 rw[hN] at HC hul;have HN:=zh hN;have HM:=zh hm;have HS:=zh hS;have HP:=zh (fun (W:World) (gb o:Nat) (hb:Below w.heap.size w W) (hpt:PtrTo b s vs n gb o h)=>show W.cell? ⟨gb,o,none⟩=some (.int .i64 nd.kind)∧W.cell? ⟨gb,o+4,none⟩=some (.int .i64 0) from
  have hc:=((hm.below hb).np hpt (Tr.raw_some eg)).cells
  ⟨hc.1,by have:=hc.2.2.2.2.1;rw[show (Tr.raw1 g av h nd).pa=0 from hp] at this;exact this⟩)
 clear hm hS hw eg hp hD hN
 go_enter Tryz.func37,Tryz.ntmps37
 go_wp2_with fail;refine hA.mono ?_;rintro e w1 ⟨gb,o,rfl,hpt,hb⟩;obtain⟨c0,c4⟩:=HP.out _ _ _ hb hpt;have hWM:=walk_make B h w1;have HC1:=zh (HC.out w1 hb);clear hA hpt HP HC;go_wp2_with fail;refine hWM.mono ?_;rintro e w2 ⟨rfl,rfl⟩;clear hWM;go_wp2_with fail;refine HC1.out.mono ?_;rintro e w3 ⟨v3,rfl,o3,hb3⟩;obtain⟨A3,c3,rfl⟩:=own_slice (own_zero o3);have hb13:=hb.trans (hb3.mono hb.size);have hr3:=(TR.of_own o3).lower hb.size;have HF0:=zh (fun k (hk:(Value.slice A3 N c3).ownBlock=some k)=>(hr3.lt k hk));have HR3:=zh hr3;have HM3:=zh (HM.out.below hb13);have HB3:=zh hb13;clear HC1 o3 hb3 hb hr3 c0 c4;go_wp2_with fail
 go_loopw [35] (fun u wr=>∃ (j:Nat) (vs' vf':Value) (fr':List Nat) (L:Nat),u=.int .i64 (j:Int)∧j≤N∧TV base wr B b s vs' n (Tr.dropR (Tr.raw g av) (D.take j)) vf' fr' L root∧Sound b s n (Tr.dropR (Tr.raw g av) (D.take j)) fr' L∧TR wr w.heap.size 3 1 (.slice A3 N c3) N (ints D)∧AStep w3 wr (Foot B vs vf) (Foot B vs' vf')) (fun u _=>N - (intOf u).toNat)
 case atStart=>exact⟨0,vs,vf,fr,live,rfl,Nat.zero_le _,by rw[List.take_zero,Tr.dropR_nil];exact HM3.out,by rw[List.take_zero,Tr.dropR_nil];exact HS.out,HR3.out,.of_below (Below.refl _ _)⟩
 case round=>
  obtain⟨j,vs1,vf1,fr1,L1,rfl,hj,hmr,hsr,o,st⟩:=hrel;have j0:(0:Int)≤(j:Int):=by omega
  by_cases hjn:j<N
  ·have j1:(j:Int)<(N:Int):=by omega
   obtain⟨k,hk⟩:∃ k,D[j]?=some k:=⟨D[j]'(by rw[HN.out];exact hjn),by simp⟩
   obtain⟨ga,oa,rfl,hga,-,hcs,-⟩:=o.cells (by omega);have ck:=hcs j _ (by omega) (ints_get hk);have hkD:k∈D:=List.mem_of_getElem? hk;have hkt:k∉D.take j:=fun hm'=>by
    have h8:=HND.out.sublist (List.take_sublist (j+1) D);rw[List.take_add_one,hk] at h8;exact (List.nodup_append.1 h8).2.2 _ hm' _ (by simp) rfl
   obtain⟨d,hd⟩:∃ d,Tr.dropR (Tr.raw g av) (D.take j) k=some d:=by
    rw[Tr.dropR_out hkt];obtain⟨m',hm'⟩:=Option.isSome_iff_exists.1 (HIN.out k hkD);exact⟨_,Tr.raw_some hm'⟩
   have hlo:=hmr.low;have hwsz:w.heap.size≤wr.heap.size:=Nat.le_trans HB3.out.size st.1.size;have hdr:=ndrop_any base B b s root k L1 n _ fr1 vs1 vf1 d wr hmr hsr (by omega) hd;have htk:D.take (j+1)=D.take j++[k]:=by rw[List.take_add_one,hk];rfl
   have HNX:=zh (show Tr.setO (Tr.dropR (Tr.raw g av) (D.take j)) k none=Tr.dropR (Tr.raw g av) (D.take (j+1)) from by rw[htk,Tr.dropR_snoc]);have HSD:=zh (fun (i L:Nat) (hi:i<n) (e1:Ar.hdl b s (i:Int)=k) (e2:L1=L+1)=>show Sound b s n (Tr.setO (Tr.dropR (Tr.raw g av) (D.take j)) k none) (fr1++[i]) L from by
    obtain⟨L',e3,e4⟩:=hsr.drop (by rw[hd];rfl) hi e1;obtain rfl:L'=L:=by omega
    exact e4)
   have HO:=zh o;have HST:=zh st;have HNF:=zh (st.apart (G:=fun k=>(Value.slice (some ⟨ga,oa,none⟩) N c3).ownBlock=some k) (fun k hk=>(HR3.out.lt k hk).2) (fun k hk hf=>by have h1:=(HF0.out k hk).1;have h2:=(HLT.out k hf).2;omega));clear hmr hsr o st hk hkD hkt hd htk hcs;go_wp2_with fail;refine hdr.mono ?_;rintro e w5 ⟨i,L,vs2,vf2,rfl,hi,hie,hLe,hm2,st2⟩;have hs2:=HSD.out i L hi hie hLe;rw[HNX.out] at hm2 hs2;have HF:=zh (And.intro hm2 (And.intro hs2 (And.intro (HO.out.turns st2.1 HNF.out) (HST.out.trans st2))));clear hdr hm2 hs2 st2;go_wp2_with fail
   go_roundw
   case rel=>exact⟨j+1,vs2,vf2,fr1++[i],L,by go_num,by omega,HF.out.1,HF.out.2.1,HF.out.2.2.1,HF.out.2.2.2⟩
   case measure=>simp[intOf];omega
  ·have hjn2:j=N:=by omega
   subst hjn2;have htk:D.take j=D:=by rw[List.take_of_length_le];rw[HN.out];exact Nat.le_refl _
   rw[htk,HE.out] at hmr hsr;have HF:=zh (And.intro hmr (And.intro hsr ((AStep.of_below (F:=Foot B vs vf) HB3.out).trans st)));clear hmr hsr st o htk;have j1:¬ (j:Int)<(j:Int):=by omega
   go_wp2_with fail
   go_ret
   exact⟨rfl,vs1,vf1,fr1,L1,HF.out.1,HF.out.2.1,HF.out.2.2⟩
end
section
open Go.RowKit
variable [Kep]
def hsJ (f:Nat→RS) (hs:List Int):Nat→List Int
 | 0=>hs
 | j+1=>if (f j).gone then (hsJ f hs j).set j (-1) else hsJ f hs j
theorem hsJ_len (f:Nat→RS) (hs:List Int):∀ j,(hsJ f hs j).length=hs.length
 | 0=>rfl
 | j+1=>by unfold hsJ;split<;>simp[hsJ_len f hs j]
theorem hsJ_get (f:Nat→RS) (hs:List Int):∀ (j i:Nat),i<hs.length→(hsJ f hs j)[i]?=if i<j∧(f i).gone=true then some (-1) else hs[i]?
 | 0,i,hi=>by rw[if_neg (by omega)];rfl
 | j+1,i,hi=>by
  have ih:=hsJ_get f hs j i hi;unfold hsJ;by_cases hg:(f j).gone=true
  ·rw[if_pos hg,List.getElem?_set];by_cases e:j=i
   ·subst e;rw[if_pos rfl,if_pos (by rw[hsJ_len];exact hi),if_pos ⟨by omega,hg⟩]
   ·rw[if_neg e,ih];by_cases h:i<j∧(f i).gone=true
    ·rw[if_pos h,if_pos ⟨by omega,h.2⟩]
    ·rw[if_neg h,if_neg (fun h2=>h ⟨by omega,h2.2⟩)]
  ·rw[if_neg hg,ih];by_cases h:i<j∧(f i).gone=true
   ·rw[if_pos h,if_pos ⟨by omega,h.2⟩]
   ·rw[if_neg h,if_neg (fun h2=>h ⟨by
     rcases Nat.lt_or_ge i j with h3 | h3
     ·exact h3
     ·have:i=j:=by omega
      exact absurd (this▸h2.2) hg,h2.2⟩)]
theorem hsJ_hof {f:Nat→RS} {hs:List Int} {j i:Nat} (hi:i<hs.length) (hg:(f i).gone=false):hof (hsJ f hs j) (i:Int)=hof hs (i:Int):=by
 obtain⟨x,hx⟩:∃ x,hs[i]?=some x:=⟨hs[i],by simp⟩
 have h:=hsJ_get f hs j i hi;rw[if_neg (fun h=>by rw[hg] at h;exact Bool.false_ne_true h.2),hx] at h;rw[hof_in h,hof_in hx]
theorem Tr.Im.names {ρ ρ':Int→Int} {a g:Tr.G} (h:Tr.Im ρ a g) (hρ:∀ y,y = -1∨(a y).isSome→ρ' y=ρ y):Tr.Im ρ' a g:=by
 have hmap:∀ y q,a y=some q→Tr.mapG ρ' q=Tr.mapG ρ q:=fun y q e=>by
  unfold Tr.mapG;rw[hρ q.pa (h.pa y q e)];congr 1;exact List.map_congr_left fun k hk=>hρ k (.inr (h.kids y q e k hk))
 constructor
 ·rw[hρ _ (.inl rfl)];exact h.zero
 ·intro y q e;rw[hρ y (.inr (by rw[e];rfl)),hmap y q e];exact h.node y q e
 ·intro y hy;obtain⟨z,h1,h2⟩:=h.dom y hy;exact⟨z,h1,by rw[hρ z (.inr h1)];exact h2⟩
 ·intro y z hy hz e;rw[hρ y (.inr hy),hρ z (.inr hz)] at e;exact h.inj y z hy hz e
 ·intro y hy;rw[hρ y (.inr hy)];exact h.nz y hy
 ·exact h.neg
 ·exact h.pa
 ·exact h.kids
theorem few_below:∀ (m:Nat) (l:List Int),l.Nodup→(∀ x∈l,∃ i:Nat,x=(i:Int)∧i<m)→l.length≤m
 | 0,l,_,h=>by
  cases l with
  | nil=>exact Nat.le_refl _
  | cons a r=>obtain⟨i,_,hi⟩:=h a (by simp);omega
 | m+1,l,hn,h=>by
  have h1:=few_below m (l.erase (m:Int)) (hn.erase _) (fun x hx=>by
   obtain⟨hne,hm⟩:=(hn.mem_erase_iff).1 hx;obtain⟨i,e,hi⟩:=h x hm
   exact⟨i,e,by omega⟩)
  have h2:=List.length_erase (l:=l) (a:=(m:Int));rw[h2] at h1
  split at h1<;>omega
theorem Tr.Im.walk_few {ρ:Int→Int} {m:Nat} {f:Nat→RS} {g:Tr.G} (h:Tr.Im ρ (mg m f) g) (w:Tr.WF 0 g) {i:Nat} (hi:i<m) (hg:(f i).gone=false):(Tr.walkG g (ρ (i:Int))).length≤m:=by
 rw[h.walk w (i:Int) (by rw[mg_at hi hg];rfl),List.length_map];refine few_below m _ ((h.pull w).walk_nodup _) fun x hx=>?_;obtain⟨j,e,hj,_⟩:=mg_is ((h.pull w).walk_sub hx);exact⟨j,e,hj⟩
section
variable {w w3 w4 w5:World} {base bM T B M:Nat} {b s:Int} {vs vf vsM vh vs' vf':Value} {n live m live':Nat} {fr fr':List Nat} {av:Int→Tr.Sl} {f:Nat→RS} {hs:List Int} {g:Tr.G} {K:Nat}
theorem TW.dropped (H:TW w base bM T B M b s vs vf vsM vh n live m fr av f hs g K) {i:Nat} (hi:i<m) (hg:(f i).gone=false) (h0:i≠0) (hp:(f i).pa = -1)
  (tv3:TV base w3 B b s vs' n (Tr.raw (Tr.dropG g (hof hs (i:Int))) av) vf' fr' live' (hof hs 0)) (so3:Sound b s n (Tr.raw (Tr.dropG g (hof hs (i:Int))) av) fr' live') (st3:AStep w w3 (Foot B vs vf) (Foot B vs' vf'))
  (mv4:MV bM w4 M vsM m (goneM f (Tr.walkG (mg m f) i))) (st4:AStep w3 w4 (MFoot M vsM m f) (MFoot M vsM m (goneM f (Tr.walkG (mg m f) i))))
  (tw5:TwV w5 T B M vh (hsJ (goneM f (Tr.walkG (mg m f) i)) hs m)) (t5:Turns (fun k=>vh.ownBlock=some k) w4 w5):
  TW w5 base bM T B M b s vs' vf' vsM vh n live' m fr' av (goneM f (Tr.walkG (mg m f) i)) (hsJ (goneM f (Tr.walkG (mg m f) i)) hs m) (Tr.dropG g (hof hs (i:Int))) (K+1):=by
 have eg:=H.live_h hi hg;have ea:=mg_at hi hg;have wa:=H.im.pull H.wf;have hd:=H.im.drop H.wf ea hp;have hh0:(0:Int)∉Tr.walkG (mg m f) (i:Int):=by
  intro hm;have h1:=(wa.mem_walk (i:Int) 0).1 hm;have e0:mg m f 0=some (rsG (f 0)):=mg_at (m:=m) (f:=f) (i:=0) H.m0 H.g0;rw[wa.upG_some e0,show (rsG (f 0)).pa = -1 from H.d0,wa.upG_none wa.zero] at h1;have:(i:Int)=0:=by simpa using h1
  omega
 obtain⟨f',hf'⟩:∃ f',goneM f (Tr.walkG (mg m f) (i:Int))=f':=⟨_,rfl⟩
 have hsame:∀ j,(f' j).kind=(f j).kind∧(f' j).pa=(f j).pa∧(f' j).at'=(f j).at'∧(f' j).data=(f j).data:=fun j=>by
  rw[←hf'];unfold goneM;split<;>exact⟨rfl,rfl,rfl,rfl⟩
 have hgone0:(f' 0).gone=false:=by
  rw[←hf'];unfold goneM;rw[if_neg (by simpa using hh0)];exact H.g0
 have hmg:mg m f'=Tr.dropG (mg m f) (i:Int):=by rw[←hf'];exact mg_dropG
 have hMF:MFoot M vsM m f'=MFoot M vsM m f:=by rw[←hf'];exact goneM_foot _ _ _ _ _
 rw[hf'] at mv4 st4 tw5 ⊢;rw[hMF] at st4;obtain⟨a1,a2,a3,a4,a5⟩:=H.after st3;have hvl:∀ k,vh.ownBlock=some k→k<w3.heap.size:=fun k hk=>Nat.lt_of_lt_of_le (H.tw.row.lt k hk).2 st3.1.size;have hlen:(hsJ f' hs m).length=m:=by rw[hsJ_len,H.len]
 have hof0:hof (hsJ f' hs m) 0=hof hs 0:=hsJ_hof (i:=0) (by rw[H.len];exact H.m0) hgone0;have hT5:TV base w5 B b s vs' n (Tr.raw (Tr.dropG g (hof hs (i:Int))) av) vf' fr' live' (hof hs 0):=(tv3.turns st4.1 (fun k hk hm=>a3 k hk hm)).turns t5 (fun k hk hv=>a4 k hv hk);have hA:AT w5 (Tr.dropG g (hof hs (i:Int))) av:=by
  have h1:AT w4 g av:=(H.at'.step H.tv st3).mfoot a2 st4;have h2:AT w5 g av:=h1.turns t5 fun x q e k hk hv=>TR.ne (h1 x q e) (a1.row.turns st4.1 fun k hk=>(H.apH k hk).2) (by decide) k hk hv;refine AT.same h2 fun x q e=>?_;unfold Tr.dropG at e
  split at e
  ·cases e
  ·exact⟨q,e,rfl⟩
 refine⟨tw5,by rw[hof0];exact hT5,so3,hA,H.wf.drop eg (by show hof hs (f i).pa=0;rw[hp];exact H.im.zero),mv4.turns t5 (fun k hm hv=>(H.apH k hv).2 (by rw[←hMF];exact hm)),?_,?_,hlen,hgone0,H.m0,?_,H.nm,?_,?_,?_,?_,⟨((H.kp.1.trans (st3.1.below H.lowL fun k hk=>Nat.le_trans H.kp.2.1 (H.tv.lt k hk).1)).trans (st4.1.below (Nat.le_trans H.lowL st3.1.size) fun k hk=>Nat.le_trans H.kp.2.2.1 (H.mv.lt k hk).1)).trans (t5.below (Nat.le_trans (Nat.le_trans H.lowL st3.1.size) st4.1.size) fun k hk=>H.kp.2.2.2.2 k hk),H.kp.2.1,H.kp.2.2.1,H.kp.2.2.2.1,H.kp.2.2.2.2⟩,H.ml⟩
 ·rw[hmg];refine hd.names fun y hy=>?_;rcases hy with rfl | hy
  ·rw[hof_m1,hof_m1]
  ·rw[←hmg] at hy;obtain⟨j,rfl,hj,hjg,-⟩:=mg_is hy;exact hsJ_hof (by rw[H.len];exact hj) hjg
 ·exact⟨by rw[(hsame 0).1];exact H.km.1,fun j hj hj0=>by rw[(hsame j).1];exact H.km.2 j hj hj0⟩
 ·intro j hj hgj;rw[hsJ_get f' hs m j (by rw[H.len];exact hj),if_pos ⟨hj,hgj⟩]
 ·intro k hf hm;rw[hMF] at hm;exact a3 k hf hm
 ·intro k hk;exact⟨a4 k hk,fun hm=>(H.apH k hk).2 (by rw[←hMF];exact hm)⟩
 ·rw[(hsame 0).2.1];exact H.d0
 ·intro j hj;rw[(hsame j).2.2.1,(hsame j).2.2.2];have:=H.bd j hj;exact⟨by omega,by omega,this.2.2⟩
theorem hsJ_same {f:Nat→RS} {hs:List Int}:∀ j,(∀ i,i<j→(f i).gone=true→hs[i]?=some (-1))→hsJ f hs j=hs
 | 0,_=>rfl
 | j+1,h=>by
  unfold hsJ;rw[hsJ_same j fun i hi=>h i (by omega)]
  split
  ·rename_i hg;have hj:=h j (by omega) hg;apply List.ext_getElem?;intro i;rw[List.getElem?_set];by_cases e:j=i
   ·subst e;rw[if_pos rfl,if_pos (List.getElem?_eq_some_iff.1 hj).1,hj]
   ·rw[if_neg e]
  ·rfl
theorem TW.handles (H:TW w base bM T B M b s vs vf vsM vh n live m fr av f hs g K) (tw5:TwV w5 T B M vh hs) (t5:Turns (fun k=>vh.ownBlock=some k) w w5):TW w5 base bM T B M b s vs vf vsM vh n live m fr av f hs g K:=
 ⟨tw5,H.tv.turns t5 (fun k hk hv=>(H.apH k hv).1 hk),H.so,H.at'.turns t5 (fun x q e k hk hv=>TR.ne (H.at' x q e) H.tw.row (by decide) k hk hv),H.wf,H.mv.turns t5 (fun k hm hv=>(H.apH k hv).2 hm),H.im,H.km,H.len,H.g0,H.m0,H.gn,H.nm,H.apF,H.apH,H.d0,H.bd,⟨H.kp.1.trans (t5.below H.lowL fun k hk=>H.kp.2.2.2.2 k hk),H.kp.2⟩,H.ml⟩
structure HJ (w:World) (T B M:Nat) (vh:Value) (m:Nat) (f:Nat→RS) (hs:List Int) (j:Nat) (wr:World):Prop where
 var:Whole wr T #[.pointer (some ⟨B,0,none⟩),.pointer (some ⟨M,0,none⟩),vh] 33
 row:TR wr 0 3 1 vh m (ints (hsJ f hs j))
 turns:Turns (fun k=>vh.ownBlock=some k) w wr
theorem HJ.start (H:TwV w T B M vh hs) (hl:hs.length=m):HJ w T B M vh m f hs 0 w:=⟨H.var,by rw[←hl];exact H.row,.refl _ _⟩
theorem HJ.keep {wr:World} {j:Nat} (H:HJ w T B M vh m f hs j wr) (hg:(f j).gone=false):HJ w T B M vh m f hs (j+1) wr:=⟨H.var,by unfold hsJ;rw[if_neg (by rw[hg];decide)];exact H.row,H.turns⟩
theorem HJ.set {wr:World} {j gh oh ch:Nat} (H:HJ w T B M (.slice (some ⟨gh,oh,none⟩) m ch) m f hs j wr) (hj:j<m) (hg:(f j).gone=true):HJ w T B M (.slice (some ⟨gh,oh,none⟩) m ch) m f hs (j+1) (wr.setCell ⟨gh,oh+j,none⟩ (.int .i64 (-1))):=by
 obtain⟨o1,g1⟩:=H.row.stored j (.int .i64 (-1));have hne:gh≠T:=fun e=>H.row.unlike H.var (by decide) (by rw[e];rfl);refine⟨H.var.other (fun e=>hne e.symm) _,?_,H.turns.trans (.of_grown g1 (fun k hk=>hk)) (fun _ _ x=>x) (fun k _ hk=>by rw[←hk];rfl)⟩;unfold hsJ;rw[if_pos hg,show ints ((hsJ f hs j).set j (-1))=(ints (hsJ f hs j)).set j (.int .i64 (-1)) by unfold ints;rw[List.map_set]];exact o1
theorem HJ.done {wr:World} (H:HJ w T B M vh m f hs m wr) (hl:hs.length=m):TwV wr T B M vh (hsJ f hs m):=⟨H.var,by rw[hsJ_len,hl];exact H.row⟩
end
end
section
open Go.RowKit
theorem rinsert_tree (base M m:Nat) (vs:Value) (f:Nat→RS) (p h:Nat) (c:Int) (w:World) (H:MV base w M vs m f) (hw:Tr.WF (-1) (mg m f)) (hpm:p<m) (hpg:(f p).gone=false) (hhm:h<m) (h0g:(f 0).gone=false) (hm:m≤100000)
  (hno:childM m f p h=false∨∃ j:Nat,c=(j:Int)∧j<m∧(f j).pa≠(p:Int)):
  Calls Tryz.prog 43 #[.pointer (some ⟨M,0,none⟩),.int .i64 (p:Int),.int .i64 (h:Int),.int .i64 c] w fun e w'=>e=.returned (errV 10)∧w'=w:=by
 obtain⟨A,c0,rfl⟩:=H.form;obtain⟨g,rfl,-⟩:=H.read hpm;have hCH:=rchild_any base M m _ f p h w H hw hpm hpg hhm h0g hm;obtain⟨k0,-⟩:=H.rd hpm;cases hch:childM m f p h with
 | false=>
  rw[hch] at hCH;have HCH:=zh hCH;clear H hw hno hCH hch
  go_enter Tryz.func43,Tryz.ntmps43
  go_wp2_with fail;refine sameC HCH.out ?_;clear HCH;go_wp2_with fail;go_ret2;exact⟨rfl,rfl⟩
 | true=>
  obtain⟨j,rfl,hj,hjp⟩:∃ j:Nat,c=(j:Int)∧j<m∧(f j).pa≠(p:Int):=by
   rcases hno with e | e
   ·rw[hch] at e;cases e
   ·exact e
  rw[hch] at hCH;have HCH:=zh hCH;obtain⟨-,-,-,-,-,c4,-⟩:=H.rd hj;obtain⟨x,hx⟩:∃ x,(f j).pa=x:=⟨_,rfl⟩
  rw[hx] at c4 hjp;have q0:(0:Int)≤(j:Int):=by omega
  have q1:(j:Int)<(m:Int):=by omega
  have q2:(x != (p:Int))=true:=bne_true hjp;clear H hw hno hCH hch hx hjp
  go_enter Tryz.func43,Tryz.ntmps43
  go_wp2_with fail;refine sameC HCH.out ?_;clear HCH;go_wp2_with fail;go_ret2;exact⟨rfl,rfl⟩
theorem rinsert_limit (base M m:Nat) (vs:Value) (f:Nat→RS) (p h:Nat) (c:Int) (w:World) (H:MV base w M vs m f) (hw:Tr.WF (-1) (mg m f)) (hpm:p<m) (hpg:(f p).gone=false) (hhm:h<m) (hhg:(f h).gone=false) (h0g:(f 0).gone=false) (hm:m≤100000)
  (hch:childM m f p h=true) (hc:c = -1∨∃ j:Nat,c=(j:Int)∧j<m∧(f j).pa=(p:Int)) (hlim:128<(Tr.upG (mg m f) (p:Int)).length+Tr.hgtG (mg m f) (h:Int)):
  Calls Tryz.prog 43 #[.pointer (some ⟨M,0,none⟩),.int .i64 (p:Int),.int .i64 (h:Int),.int .i64 c] w fun e w'=>e=.returned (errV 5)∧w'=w:=by
 obtain⟨A,c0,rfl⟩:=H.form;obtain⟨g,rfl,-⟩:=H.read hpm;have hup:=(hw.up_is (p:Int)).2;have hht0:=hw.hgt_le (h:Int);obtain⟨dp,hdp⟩:∃ dp,(Tr.upG (mg m f) (p:Int)).length=dp:=⟨_,rfl⟩
 obtain⟨ht,hht⟩:∃ ht,Tr.hgtG (mg m f) (h:Int)=ht:=⟨_,rfl⟩
 have HCH:=zh (rchild_any base M m _ f p h w H hw hpm hpg hhm h0g hm);rw[hch] at HCH;have HDP:=zh (rdepth_any base M m _ f (p:Int) w H hw (.inr (by rw[mg_isSome hpm,hpg];rfl)) hm);have HHT:=zh (rheight_any base M m _ f hw hm (h:Int) (by rw[mg_isSome hhm,hhg];rfl) w H);rw[hdp] at HDP hlim hup;rw[hht] at HHT hlim hht0;have hlimI:(128:Int)<(dp:Int)+(ht:Int):=by omega
 have hht1:ht≤129:=by omega
 obtain⟨k0,-⟩:=H.rd hpm;rcases hc with rfl | ⟨j,rfl,hj,hjp⟩
 ·clear H hw hch hdp hht hht0 hlim
  go_enter Tryz.func43,Tryz.ntmps43
  go_wp2_with fail;refine sameC HCH.out ?_;go_wp2_with fail;refine sameC HDP.out ?_;go_wp2_with fail;refine sameC HHT.out ?_;clear HCH HDP HHT;go_wp2_with fail;go_ret2;exact⟨rfl,rfl⟩
 ·obtain⟨-,-,-,-,-,c4,-⟩:=H.rd hj;rw[hjp] at c4;have q0:(0:Int)≤(j:Int):=by omega
  have q1:(j:Int)<(m:Int):=by omega
  clear H hw hch hdp hht hht0 hlim hjp
  go_enter Tryz.func43,Tryz.ntmps43
  go_wp2_with fail;refine sameC HCH.out ?_;go_wp2_with fail;refine sameC HDP.out ?_;go_wp2_with fail;refine sameC HHT.out ?_;clear HCH HDP HHT;go_wp2_with fail;go_ret2;exact⟨rfl,rfl⟩
end
section
open Go.RowKit
variable [Kep]
section
variable {w w3 w4 w5:World} {base bM T B M:Nat} {b s:Int} {vs vf vsM vh vs' vf' vsM' vh':Value} {n live m n' live':Nat} {fr fr':List Nat} {av:Int→Tr.Sl} {f:Nat→RS} {hs:List Int} {g:Tr.G} {K:Nat}
theorem TW.made (H:TW w base bM T B M b s vs vf vsM vh n live m fr av f hs g K) {h:Int} {x:RS} {sl:Tr.Sl} (hml:m<700) (hx:x.gone=false∧x.pa = -1∧x.kids=[]∧(x.kind=2∨x.kind=3∨x.kind=4)) (hxb:x.at'.length≤K+1+2∧x.data.size≤120*(K+1)∧Txt.rep x.data.data.toList=x.data.data.toList)
  (hg0:g h=none) (hh0:h≠0) (hn':n'≤n+1)
  (tv3:TV base w3 B b s vs' n' (Tr.raw (Tr.addG g h { rsG x with pa:=0 }) (Tr.addA av h sl)) vf' fr' live' (hof hs 0)) (so3:Sound b s n' (Tr.raw (Tr.addG g h { rsG x with pa:=0 }) (Tr.addA av h sl)) fr' live') (wf3:Tr.WF 0 (Tr.addG g h { rsG x with pa:=0 })) (ar3:AR w3 0 sl.v x.at') (st3:AStep w w3 (Foot B vs vf) (Foot B vs' vf'))
  (mv4:MV bM w4 M vsM' (m+1) (pushM m f x)) (st4:AStep w3 w4 (MFoot M vsM m f) (MFoot M vsM' (m+1) (pushM m f x)))
  (tw5:TwV w5 T B M vh' (hs++[h])) (t5:Turns (fun k=>k=T∨vh.ownBlock=some k) w4 w5) (hv5:∀ k,vh'.ownBlock=some k→vh.ownBlock=some k∨w4.heap.size≤k):
  TW w5 base bM T B M b s vs' vf' vsM' vh' n' live' (m+1) fr' (Tr.addA av h sl) (pushM m f x) (hs++[h]) (Tr.addG g h { rsG x with pa:=0 }) (K+1):=by
 obtain⟨a1,a2,a3,a4,a5⟩:=H.after st3;have hFl:∀ k,Foot B vs' vf' k→k<w3.heap.size:=fun k hk=>(tv3.lt k hk).2;have hvl:∀ k,vh.ownBlock=some k→k<w3.heap.size:=fun k hk=>Nat.lt_of_lt_of_le (H.tw.row.lt k hk).2 st3.1.size;have hTl:T<w3.heap.size:=a1.var.lt;have hFT:¬ Foot B vs' vf' T:=tv3.not_foot a1.var (by decide) (by decide) (by decide);have hMT:¬ MFoot M vsM' (m+1) (pushM m f x) T:=fun hm=>H.apT.2 (st4.2 T hTl hm);have apF4:∀ k,Foot B vs' vf' k→¬ MFoot M vsM' (m+1) (pushM m f x) k:=fun k hf hm=>a3 k hf (st4.2 k (hFl k hf) hm);have apH4:∀ k,vh.ownBlock=some k→¬ Foot B vs' vf' k∧¬ MFoot M vsM' (m+1) (pushM m f x) k:=fun k hk=>⟨a4 k hk,fun hm=>(H.apH k hk).2 (st4.2 k (hvl k hk) hm)⟩
 have hF4:∀ k,Foot B vs' vf' k→k<w4.heap.size:=fun k hk=>Nat.lt_of_lt_of_le (hFl k hk) st4.1.size;have hM4:∀ k,MFoot M vsM' (m+1) (pushM m f x) k→k<w4.heap.size:=fun k hk=>(mv4.lt k hk).2;have hold:∀ j,j<m→pushM m f x j=f j:=fun j hj=>pushM_old hj;have hlen:(hs++[h]).length=m+1:=by rw[List.length_append,H.len];rfl
 have hof0:hof (hs++[h]) 0=hof hs 0:=hof_push_old (by have:=H.len;have:=H.m0;omega);have tv5:TV base w5 B b s vs' n' (Tr.raw (Tr.addG g h { rsG x with pa:=0 }) (Tr.addA av h sl)) vf' fr' live' (hof hs 0):=(tv3.turns st4.1 (fun k hk hm=>a3 k hk hm)).turns t5 (fun k hk hv=>hv.elim (fun e=>hFT (e▸hk)) (fun e=>(apH4 k e).1 hk));have hAT3:AT w3 (Tr.addG g h { rsG x with pa:=0 }) (Tr.addA av h sl):=fun y q e=>by
  by_cases hy:y=h
  ·subst hy;rw[Tr.addG_self] at e;obtain rfl:=Option.some.inj e;rw[Tr.addA_self];exact ar3
  ·rw[Tr.addG_ne hy] at e;rw[Tr.addA_ne hy];exact H.at'.step H.tv st3 y q e
 have hA4:=hAT3.mfoot a2 st4;have hA:AT w5 (Tr.addG g h { rsG x with pa:=0 }) (Tr.addA av h sl):=hA4.turns t5 fun y q e k hk hv=>by
  have hr:=hA4 y q e;rcases hv with e1 | e1
  ·exact TR.unlike hr (a1.var.turns st4.1 H.apT.2) (by decide) (by rw[hk,e1])
  ·exact TR.ne hr (a1.row.turns st4.1 fun k hk=>(H.apH k hk).2) (by decide) k hk e1
 refine⟨tw5,by rw[hof0];exact tv5,so3,hA,wf3,mv4.turns t5 (fun k hm hv=>hv.elim (fun e=>hMT (e▸hm)) (fun e=>(apH4 k e).2 hm)),?_,?_,hlen,by rw[hold 0 H.m0];exact H.g0,by omega,?_,by have:=H.nm;omega,apF4,?_,by rw[hold 0 H.m0];exact H.d0,?_,⟨((H.kp.1.trans (st3.1.below H.lowL fun k hk=>Nat.le_trans H.kp.2.1 (H.tv.lt k hk).1)).trans (st4.1.below (Nat.le_trans H.lowL st3.1.size) fun k hk=>Nat.le_trans H.kp.2.2.1 (H.mv.lt k hk).1)).trans (t5.below (Nat.le_trans (Nat.le_trans H.lowL st3.1.size) st4.1.size) fun k hk=>by rcases hk with e | e;exact e▸H.kp.2.2.2.1;exact H.kp.2.2.2.2 k e),H.kp.2.1,H.kp.2.2.1,H.kp.2.2.2.1,fun k hk=>by rcases hv5 k hk with e | e;exact H.kp.2.2.2.2 k e;exact Nat.le_trans (Nat.le_trans (Nat.le_trans H.lowL st3.1.size) st4.1.size) e⟩,by omega⟩
 ·rw[mg_push hx.1];refine H.im.add (fun y hy=>?_) ?_ (by omega) hg0 hh0 ?_ hx.2.1 hx.2.2.1
  ·rcases hy with rfl | hy
   ·rw[hof_m1,hof_m1]
   ·obtain⟨j,rfl,hj,-⟩:=mg_is hy;exact hof_push_old (by rw[H.len];omega)
  ·rw[mg_nat,if_neg (fun h=>by omega)]
  ·rw[←H.len];exact hof_push_new
 ·refine⟨by rw[hold 0 H.m0];exact H.km.1,fun j hj hj0=>?_⟩;by_cases e:j=m
  ·rw[e,pushM_new];exact hx.2.2.2
  ·rw[hold j (by omega)];exact H.km.2 j (by omega) hj0
 ·intro j hj hgj;by_cases e:j=m
  ·rw[e,pushM_new,hx.1] at hgj;cases hgj
  ·rw[hold j (by omega)] at hgj;rw[List.getElem?_append_left (by rw[H.len];omega)];exact H.gn j (by omega) hgj
 ·intro k hk;rcases hv5 k hk with e | e
  ·exact apH4 k e
  ·exact⟨fun hf=>by have:=hF4 k hf;omega,fun hm=>by have:=hM4 k hm;omega⟩
 ·intro j hj;by_cases e:j=m
  ·rw[e,pushM_new];exact hxb
  ·rw[hold j (by omega)];have:=H.bd j (by omega);exact⟨by omega,by omega,this.2.2⟩
end
end
section
open Go.RowKit
theorem rnodeInfo:(Tryz.prog.info? 67).map (fun i=>(i.zero,i.size,i.bytes))=some (some (.agg #[.int .i64 0,.string ⟨#[]⟩,.slice none 0 0,.string ⟨#[]⟩,.int .i64 0,.slice none 0 0,.bool false]),7,104):=by kernel_rfl
theorem rmake_text (base M m:Nat) (vs vA:Value) (f:Nat→RS) (k:Int) (nm dt:ByteArray) (w:World) (H:MV base w M vs m f) (hk:k≠2) (hbase:base≤w.heap.size) (hm:m≤100000) (hs:dt.size≤6000):
  Calls Tryz.prog 41 #[.pointer (some ⟨M,0,none⟩),.int .i64 k,.string nm,.string dt,vA] w fun e w'=>∃ vs',e=.returned (.int .i64 0)∧MV base w' M vs' (m+1) (pushM m f ⟨k,⟨#[]⟩,⟨none,0,0⟩,[],repB dt,-1,⟨none,0,0⟩,[],false⟩)∧AStep w w' (MFoot M vs m f) (MFoot M vs' (m+1) (pushM m f ⟨k,⟨#[]⟩,⟨none,0,0⟩,[],repB dt,-1,⟨none,0,0⟩,[],false⟩)):=by
 obtain⟨i0,hi0,hz0,hz1,hz2⟩:=info_parts rnodeInfo;obtain⟨A,c,rfl⟩:=H.form;obtain⟨w1,hw1⟩:∃ w1,w.alloc (.cells #[.int .i64 k,.string ⟨#[]⟩,.slice none 0 0,.string ⟨#[]⟩,.int .i64 (-1),.slice none 0 0,.bool false] 67)=w1:=⟨_,rfl⟩
 have hb1:Below w.heap.size w w1:=bzA hw1;have hX1:Whole w1 w.heap.size #[.int .i64 k,.string ⟨#[]⟩,.slice none 0 0,.string ⟨#[]⟩,.int .i64 (-1),.slice none 0 0,.bool false] 67:=by rw[←hw1];exact Whole.new w _ _
 have q2:(k == 2)=false:=beq_false' hk;have hR:=rrepair_any dt w1 (by omega);obtain⟨rv,hrv⟩:∃ rv,repB dt=rv:=⟨_,rfl⟩
 rw[show tstr (Txt.rep dt.data.toList)=rv from hrv] at hR;rw[hrv];have HR:=zh hR;have HX1:=zh hX1;have HB1:=zh hb1;have HW1:=zh hw1;have HM:=zh (fun (W:World) (hb:Below w.heap.size w W)=>H.below hb);have hMl:M<w.heap.size:=H.var.lt;have HVB:=zh (fun x (hx:(Value.slice A m c).ownBlock=some x)=>(H.lt x (Or.inr (Or.inl hx))).2);clear hR hX1 hb1 hw1 H hrv hs
 go_enter Tryz.func41,Tryz.ntmps41
 go_wp2_with fail;rw[HW1.out];refine HR.out.mono ?_;rintro e w2 ⟨rfl,hb2⟩;have hX2:=HX1.out.below hb2 HX1.out.lt;have hb02:=HB1.out.trans (hb2.mono HB1.out.size);have y3:w2.cell? ⟨w.heap.size,3,none⟩=some (.string ⟨#[]⟩):=hX2.cell 3;have f3:=hX2.free 3;obtain⟨w4,hw4⟩:∃ w4,w2.setCell ⟨w.heap.size,3,none⟩ (.string rv)=w4:=⟨_,rfl⟩
 have hX4:Whole w4 w.heap.size #[.int .i64 k,.string ⟨#[]⟩,.slice none 0 0,.string rv,.int .i64 (-1),.slice none 0 0,.bool false] 67:=by rw[←hw4];exact hX2.put 3 (.string rv)
 have g4:w2.grownBy w4 (some w.heap.size):=by rw[←hw4];exact gb_put (gb_of_below (Below.refl w2.heap.size w2) _) _ _
 have hb04:=hb02.grown g4 hb02.size (fun j hj=>by simp at hj;omega);have hM4:=HM.out w4 hb04;have c0:w4.cell? ⟨M,0,none⟩=some (.slice A m c):=hM4.var.cell 0;have z0:=hM4.var.free 0;have x0:w4.cell? ⟨w.heap.size,0,none⟩=some (.int .i64 k):=hX4.cell 0;have x1:w4.cell? ⟨w.heap.size,1,none⟩=some (.string ⟨#[]⟩):=hX4.cell 1;have x2:w4.cell? ⟨w.heap.size,2,none⟩=some (.slice none 0 0):=hX4.cell 2;have x3:w4.cell? ⟨w.heap.size,3,none⟩=some (.string rv):=hX4.cell 3;have x4:w4.cell? ⟨w.heap.size,4,none⟩=some (.int .i64 (-1)):=hX4.cell 4;have x5:w4.cell? ⟨w.heap.size,5,none⟩=some (.slice none 0 0):=hX4.cell 5;have x6:w4.cell? ⟨w.heap.size,6,none⟩=some (.bool false):=hX4.cell 6;obtain⟨w5,hw5⟩:∃ w5,w4.drew.alloc (.cells #[.int .i64 k,.string ⟨#[]⟩,.slice none 0 0,.string rv,.int .i64 (-1),.slice none 0 0,.bool false] 67)=w5:=⟨_,rfl⟩
 have hb45:Below w4.heap.size w4 w5:=by rw[←hw5];exact (below_drew1 _ w4).alloc (Nat.le_refl _) _
 have hX5:=hX4.below hb45 hX4.lt;have hM5:=hM4.below hb45;have c5:w5.cell? ⟨M,0,none⟩=some (.slice A m c):=hM5.var.cell 0;have z5:=hM5.var.free 0;have hsrc:w5.ownsRow w4.heap.size 67 7 (.slice (some ⟨w4.heap.size,0,none⟩) 1 1) 1 [.int .i64 k,.string ⟨#[]⟩,.slice none 0 0,.string rv,.int .i64 (-1),.slice none 0 0,.bool false]:=by
  rw[←hw5];exact World.ownsRow_lit (base:=w4.heap.size) (e:=67) (size:=7) w4.drew #[.int .i64 k,.string ⟨#[]⟩,.slice none 0 0,.string rv,.int .i64 (-1),.slice none 0 0,.bool false] 1 (Nat.le_refl _) (by unfold maxLen;omega) rfl
 have hb5s:base≤w5.heap.size:=by have:=hb45.size;have:=hb04.size;omega
 have HS0:=zh (show w4.drew.cell? ⟨w.heap.size,0,none⟩=some (.int .i64 k)∧w4.drew.cell? ⟨w.heap.size,1,none⟩=some (.string ⟨#[]⟩)∧w4.drew.cell? ⟨w.heap.size,2,none⟩=some (.slice none 0 0)∧w4.drew.cell? ⟨w.heap.size,3,none⟩=some (.string rv)∧w4.drew.cell? ⟨w.heap.size,4,none⟩=some (.int .i64 (-1))∧w4.drew.cell? ⟨w.heap.size,5,none⟩=some (.slice none 0 0)∧w4.drew.cell? ⟨w.heap.size,6,none⟩=some (.bool false) from⟨hX4.cell 0,hX4.cell 1,hX4.cell 2,hX4.cell 3,hX4.cell 4,hX4.cell 5,hX4.cell 6⟩);have HS1:=zh (show w5.cell? ⟨w.heap.size,0,none⟩=some (.int .i64 k)∧w5.cell? ⟨w.heap.size,1,none⟩=some (.string ⟨#[]⟩)∧w5.cell? ⟨w.heap.size,2,none⟩=some (.slice none 0 0)∧w5.cell? ⟨w.heap.size,3,none⟩=some (.string rv)∧w5.cell? ⟨w.heap.size,4,none⟩=some (.int .i64 (-1))∧w5.cell? ⟨w.heap.size,5,none⟩=some (.slice none 0 0)∧w5.cell? ⟨w.heap.size,6,none⟩=some (.bool false) from⟨hX5.cell 0,hX5.cell 1,hX5.cell 2,hX5.cell 3,hX5.cell 4,hX5.cell 5,hX5.cell 6⟩);have HX5:=zh hX5;have HM4:=zh hM4;have HB04:=zh hb04;have HB45:=zh hb45;have hr5:=hM5.row;clear hX2 hX4 hX5 g4 hb02 hb2 hM4 hb04 hb45 HR;go_wp2_with fail;(try rw[hw4]);(try go_wp2_with fail);refine wp_region_noPanic ?_;refine wp_region_held_drew (S:=(fun W=>W.cell? ⟨w.heap.size,0,none⟩=some (.int .i64 k)∧W.cell? ⟨w.heap.size,1,none⟩=some (.string ⟨#[]⟩)∧W.cell? ⟨w.heap.size,2,none⟩=some (.slice none 0 0)∧W.cell? ⟨w.heap.size,3,none⟩=some (.string rv)∧W.cell? ⟨w.heap.size,4,none⟩=some (.int .i64 (-1))∧W.cell? ⟨w.heap.size,5,none⟩=some (.slice none 0 0)∧W.cell? ⟨w.heap.size,6,none⟩=some (.bool false))) (by kernel_rfl) ?_ (fun hHeld=>?_)
 ·exact HS0.out
 refine agE [0,1,2,3,5] ?_;iterate 5 (refine tkA ?_;try simp only[pS])
 refine agN ?_;apply memo1
 ·intro KEY;refine wpAnyH_ready (rs:=[4,6]) (by kernel_rfl) (by simp) ?_;refine AllReadyH.cons rfl (fun K hK=>?_) (AllReadyH.cons rfl (fun K hK=>?_) AllReadyH.nil)
  ·go_simp;refine hK.out _ _ (HS0.out) fun hHeld=>?_;clear hK K;(try simp only[pS]);refine rd1 6 fun K hK=>?_;go_simp;(try rw[hw5]);refine hK.out _ _ (HS1.out) fun hHeld=>?_;clear hK K;(try simp only[pS]);exact KEY
  ·go_simp;(try rw[hw5]);refine hK.out _ _ (HS1.out) fun hHeld=>?_;clear hK K;(try simp only[pS]);refine rd1 4 fun K hK=>?_;go_simp;refine hK.out _ _ (HS1.out) fun hHeld=>?_;clear hK K;(try simp only[pS]);exact KEY
 refine rd1 7 fun K hK=>?_;refine step_append_src rfl _ _ 68 rfl base w4.heap.size 67 i0 (.agg #[.int .i64 0,.string ⟨#[]⟩,.slice none 0 0,.string ⟨#[]⟩,.int .i64 0,.slice none 0 0,.bool false]) 7 104 Tryz.underlying68 hi0 hz0 hz1 hz2 rfl (by decide) _ m (cellsT rsC m f) rfl hr5 _ 1 [.int .i64 k,.string ⟨#[]⟩,.slice none 0 0,.string rv,.int .i64 (-1),.slice none 0 0,.bool false] rfl hsrc ?c3 ?c4 ?c5 hb5s ?_
 case c3=>exact rsC_one ⟨k,⟨#[]⟩,⟨none,0,0⟩,[],rv,-1,⟨none,0,0⟩,[],false⟩
 case c4=>unfold maxLen;omega
 case c5=>omega
 intro v6 w6 o6 g6 f6;obtain⟨A6,c6,rfl⟩:=own_slice (own_zero o6);have hpush:=HM4.out.push (x:=⟨k,⟨#[]⟩,⟨none,0,0⟩,[],rv,-1,⟨none,0,0⟩,[],false⟩) HB45.out g6 o6 f6 rfl rfl (TR.nil _ _ _ _);obtain⟨v6,hm7,st7⟩:=hpush;have k6:w6.cell? ⟨M,0,none⟩=some (.slice A m c):=v6.cell 0;have k6f:=v6.free 0;have hX6:=HX5.out.grown g6 (fun e=>by have:=HVB.out _ e.symm;omega);obtain⟨w7,hw7⟩:∃ w7,w6.setCell ⟨M,0,none⟩ (.slice A6 (m+1) c6)=w7:=⟨_,rfl⟩
 rw[hw7] at hm7 st7;have hX7:Whole w7 w.heap.size #[.int .i64 k,.string ⟨#[]⟩,.slice none 0 0,.string rv,.int .i64 (-1),.slice none 0 0,.bool false] 67:=by rw[←hw7];exact hX6.other (by show w.heap.size≠M;omega) _
 have hS6:=(⟨hX6.cell 0,hX6.cell 1,hX6.cell 2,hX6.cell 3,hX6.cell 4,hX6.cell 5,hX6.cell 6⟩:w6.cell? ⟨w.heap.size,0,none⟩=some (.int .i64 k)∧w6.cell? ⟨w.heap.size,1,none⟩=some (.string ⟨#[]⟩)∧w6.cell? ⟨w.heap.size,2,none⟩=some (.slice none 0 0)∧w6.cell? ⟨w.heap.size,3,none⟩=some (.string rv)∧w6.cell? ⟨w.heap.size,4,none⟩=some (.int .i64 (-1))∧w6.cell? ⟨w.heap.size,5,none⟩=some (.slice none 0 0)∧w6.cell? ⟨w.heap.size,6,none⟩=some (.bool false))
 have hS7:=(⟨hX7.cell 0,hX7.cell 1,hX7.cell 2,hX7.cell 3,hX7.cell 4,hX7.cell 5,hX7.cell 6⟩:w7.cell? ⟨w.heap.size,0,none⟩=some (.int .i64 k)∧w7.cell? ⟨w.heap.size,1,none⟩=some (.string ⟨#[]⟩)∧w7.cell? ⟨w.heap.size,2,none⟩=some (.slice none 0 0)∧w7.cell? ⟨w.heap.size,3,none⟩=some (.string rv)∧w7.cell? ⟨w.heap.size,4,none⟩=some (.int .i64 (-1))∧w7.cell? ⟨w.heap.size,5,none⟩=some (.slice none 0 0)∧w7.cell? ⟨w.heap.size,6,none⟩=some (.bool false))
 have HFIN:=zh (And.intro hm7 ((AStep.of_below HB04.out).trans st7));clear hm7 st7 hX7 hX6 o6 g6 f6 v6;refine hK.out _ _ (hS6) fun hHeld=>?_;clear hK K;(try simp only[pS]);refine agE [8,9] ?_;iterate 2 (refine tkA ?_;try simp only[pS])
 refine agN ?_;refine rd1 10 fun K hK=>?_;go_simp;(try rw[hw7]);refine hK.out _ _ (hS7) fun hHeld=>?_;clear hK K;(try simp only[pS]);refine dnH ?_;go_wp2_with fail
 go_ret
 exact⟨_,rfl,HFIN.out.1,HFIN.out.2⟩
theorem rmake_name (M:Nat) (vA:Value) (nm dt:ByteArray) (w:World) (hs:nm.size≤10000) (he:Nm.elem nm=false):
  Calls Tryz.prog 41 #[.pointer (some ⟨M,0,none⟩),.int .i64 2,.string nm,.string dt,vA] w fun e w'=>e=.returned (.int .i64 1)∧Below w.heap.size w w':=by
 obtain⟨w1,hw1⟩:∃ w1,w.alloc (.cells #[.int .i64 2,.string ⟨#[]⟩,.slice none 0 0,.string ⟨#[]⟩,.int .i64 (-1),.slice none 0 0,.bool false] 67)=w1:=⟨_,rfl⟩
 have hb1:Below w.heap.size w w1:=bzA hw1;have hR:=relement_any nm w1 hs;rw[he] at hR;have HR:=zh hR;have HB1:=zh hb1;have HW1:=zh hw1;clear hR hb1 hw1
 go_enter Tryz.func41,Tryz.ntmps41
 go_wp2_with fail;rw[HW1.out];refine HR.out.mono ?_;rintro e w2 ⟨rfl,hb2⟩;have hbF:=HB1.out.trans (hb2.mono HB1.out.size);have HBF:=zh hbF;clear hb2 hbF HR;go_wp2_with fail
 go_ret
 exact⟨rfl,HBF.out⟩
end
end Go.Proofs.YtaigmpkcdjbpiaaGreatDoor
