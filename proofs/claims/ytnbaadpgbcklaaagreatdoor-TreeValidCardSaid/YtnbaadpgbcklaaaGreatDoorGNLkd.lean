/- Part of a proof about trees. -/
import Derived.Deep.RegionHeld3
import Derived.Sort.CutIn
import Derived.Sort.QuietIn
import Derived.Test.YtnbaadpgbcklaaaGreatDoorS01
set_option linter.unusedVariables false
set_option linter.unusedSimpArgs false
set_option maxHeartbeats 4000000
set_option maxRecDepth 100000
namespace Go.Proofs.YtnbaadpgbcklaaaGreatDoor
section
open Go.RowKit Go.Shelf
attribute [local go_sem] Oper.semAt_some
theorem Dy {l:List Int} {pre:List {x:Int // x∈l}} {x:{x:Int // x∈l}} (h:pre++[x] <+: l.attach):∃ C:List Int,l=pre.map (·.1)++x.1::C:=by
 obtain⟨t,ht⟩:=h;have:=congrArg (List.map (·.1)) ht;rw[List.attach_map_subtype_val,List.map_append,List.map_append,List.append_assoc] at this;exact⟨t.map Subtype.val,this.symm⟩
theorem Iy {l:List Int} (hn:l.Nodup) {pre:List {x:Int // x∈l}} {x:{x:Int // x∈l}} (h:pre++[x] <+: l.attach):Tr.prv l x.1=Tr.eZ (pre.map (·.1)):=by
 obtain⟨C,hC⟩:=Dy h;obtain⟨y,hy⟩:=eX (x.1)
 obtain⟨q,hq⟩:=eX (pre.map (·.1))
 rw[hy,hq] at hC;rw[hy,hq,hC];refine Tr.jh ?_;rw[hC] at hn;exact (List.nodup_cons.1 (List.nodup_append.1 hn).2.1).1
theorem Wz {G:Prop} {X00 X01 X10 X11:World→Nat→Nat→Prop} {facts:World→Nat→Nat→Prop} (use:(∀ w g o,facts w g o→X00 w g o)→(∀ w g o,facts w g o→X01 w g o)→(∀ w g o,facts w g o→X10 w g o)→(∀ w g o,facts w g o→X11 w g o)→G)
  (k00:∀ w g o,facts w g o→X00 w g o) (k01:∀ w g o,facts w g o→X01 w g o) (k10:∀ w g o,facts w g o→X10 w g o) (k11:∀ w g o,facts w g o→X11 w g o):G:=use k00 k01 k10 k11
theorem sW {W W':World} {k:Nat} (h:W'.heap[k]?=W.heap[k]?) (o:Nat):W'.cell? ⟨k,o,none⟩=W.cell? ⟨k,o,none⟩:=by
 unfold World.cell?;simp only[h]
theorem NP.ne {w:World} {g o k:Nat} {d:Tr.Nd} {v:Value} {t:TypeId} (h:NP w g o d) (hx:Whole w k #[v] t):g≠k:=fun e=>by
 have h1:=(h 1 (by omega)).1;rw[e,hx.cell (o+1)] at h1;cases h1
theorem Ll (B:Nat) (h:Int) (w:World):
  let W:=(((((w.alloc (.cells #[.pointer (some ⟨B,0,none⟩)] 29)).alloc (.cells #[.int .i64 h] 3)).alloc (.cells #[.int .i64 0] 3)).alloc (.cells #[.bool false] 4)).alloc (.cells #[.int .i64 0] 3)).alloc (.cells #[.int .i64 0] 3)
  Whole W w.heap.size #[.pointer (some ⟨B,0,none⟩)] 29∧Whole W (w.heap.size+1) #[.int .i64 h] 3∧Whole W (w.heap.size+1+1) #[.int .i64 0] 3∧Whole W (w.heap.size+1+1+1) #[.bool false] 4∧Whole W (w.heap.size+1+1+1+1) #[.int .i64 0] 3∧Whole W (w.heap.size+1+1+1+1+1) #[.int .i64 0] 3:=by
 intro W;have a0:=Whole.new w #[.pointer (some ⟨B,0,none⟩)] 29;have a1:=Whole.new (w.alloc (.cells #[.pointer (some ⟨B,0,none⟩)] 29)) #[.int .i64 h] 3;have a2:=Whole.new ((w.alloc (.cells #[.pointer (some ⟨B,0,none⟩)] 29)).alloc (.cells #[.int .i64 h] 3)) #[.int .i64 0] 3;have a3:=Whole.new (((w.alloc (.cells #[.pointer (some ⟨B,0,none⟩)] 29)).alloc (.cells #[.int .i64 h] 3)).alloc (.cells #[.int .i64 0] 3)) #[.bool false] 4;have a4:=Whole.new ((((w.alloc (.cells #[.pointer (some ⟨B,0,none⟩)] 29)).alloc (.cells #[.int .i64 h] 3)).alloc (.cells #[.int .i64 0] 3)).alloc (.cells #[.bool false] 4)) #[.int .i64 0] 3;have a5:=Whole.new (((((w.alloc (.cells #[.pointer (some ⟨B,0,none⟩)] 29)).alloc (.cells #[.int .i64 h] 3)).alloc (.cells #[.int .i64 0] 3)).alloc (.cells #[.bool false] 4)).alloc (.cells #[.int .i64 0] 3)) #[.int .i64 0] 3;simp only[World.size_alloc] at a1 a2 a3 a4 a5;exact⟨((((a0.alloc _).alloc _).alloc _).alloc _).alloc _,(((a1.alloc _).alloc _).alloc _).alloc _,((a2.alloc _).alloc _).alloc _,(a3.alloc _).alloc _,a4.alloc _,a5⟩
theorem Lm (base B:Nat) (b s root h:Int) (live n:Nat) (g:Tr.G) (av:Int→Tr.Sl) (fr:List Nat) (vs vf:Value) (w:World) (hm:TV base w B b s vs n (Tr.raw g av) vf fr live root) (hS:Sound b s n (Tr.raw g av) fr live) (hw:Tr.WF 0 g) (hp:lQ h) (hlen:(Tr.ak g h).length≤1000000) (hin:(g h).isSome):
  Calls Tryz.prog 123 #[.pointer (some ⟨B,0,none⟩),.int .i64 h] w fun e w'=>e=.returned (.tuple #[.int .i64 ((Tr.ak g h).length:Nat),.bool true])∧Below w.heap.size w w':=by
 have hlt:=hm.lt;refine (callsIn_wide (n:=8)).1 ?_;refine callsIn_of_wp_marks Tryz.func123 rfl trivial ?_ rfl;simp only[Tryz.ntmps123,pT,Nat.reduceAdd,Nat.reduceSub];obtain⟨w1,hw1⟩:=eX ((((((w.alloc (.cells #[.pointer (some ⟨B,0,none⟩)] 29)).alloc (.cells #[.int .i64 h] 3)).alloc (.cells #[.int .i64 0] 3)).alloc (.cells #[.bool false] 4)).alloc (.cells #[.int .i64 0] 3)).alloc (.cells #[.int .i64 0] 3))
 have hz1:w1.heap.size=w.heap.size+6:=by rw[←hw1];simp
 have hb1:Below w.heap.size w w1:=by
  rw[←hw1];exact ((((((Below.refl _ w).alloc (Nat.le_refl _) _).alloc (by simp) _).alloc (by simp;omega) _).alloc (by simp;omega) _).alloc (by simp;omega) _).alloc (by simp;omega) _
 have G8:=Ll B h w;rw[hw1] at G8;obtain⟨hT1,hH1,hX1,hY1,Vf,hP1⟩:=G8;have z4:=Vf.free 0;have c4:w1.cell? ⟨w.heap.size+1+1+1+1,0,none⟩=some (.int .i64 0):=Vf.cell 0;have z5:=hP1.free 0;have c5:w1.cell? ⟨w.heap.size+1+1+1+1+1,0,none⟩=some (.int .i64 0):=hP1.cell 0;have t0:w1.cell? ⟨w.heap.size,0,none⟩=some (.pointer (some ⟨B,0,none⟩)):=hT1.cell 0;have t1:w1.cell? ⟨w.heap.size+1,0,none⟩=some (.int .i64 h):=hH1.cell 0
 gi_wp2_with fail
 obtain⟨wa,Bn⟩:=eX ((w1.setCell ⟨w.heap.size+1+1+1+1,0,none⟩ (.int .i64 0)).setCell ⟨w.heap.size+1+1+1+1+1,0,none⟩ (.int .i64 0))
 (try rw[Bn]);have Tx:Whole wa w.heap.size #[.pointer (some ⟨B,0,none⟩)] 29:=by rw[←Bn];exact (hT1.other (a:=⟨w.heap.size+1+1+1+1,0,none⟩) (by show w.heap.size≠w.heap.size+1+1+1+1;omega) _).other (a:=⟨w.heap.size+1+1+1+1+1,0,none⟩) (by show w.heap.size≠w.heap.size+1+1+1+1+1;omega) _
 have ZC:Whole wa (w.heap.size+1) #[.int .i64 h] 3:=by rw[←Bn];exact (hH1.other (a:=⟨w.heap.size+1+1+1+1,0,none⟩) (by show w.heap.size+1≠w.heap.size+1+1+1+1;omega) _).other (a:=⟨w.heap.size+1+1+1+1+1,0,none⟩) (by show w.heap.size+1≠w.heap.size+1+1+1+1+1;omega) _
 have Qc:Whole wa (w.heap.size+1+1) #[.int .i64 0] 3:=by rw[←Bn];exact (hX1.other (a:=⟨w.heap.size+1+1+1+1,0,none⟩) (by show w.heap.size+1+1≠w.heap.size+1+1+1+1;omega) _).other (a:=⟨w.heap.size+1+1+1+1+1,0,none⟩) (by show w.heap.size+1+1≠w.heap.size+1+1+1+1+1;omega) _
 have ZE:Whole wa (w.heap.size+1+1+1) #[.bool false] 4:=by rw[←Bn];exact (hY1.other (a:=⟨w.heap.size+1+1+1+1,0,none⟩) (by show w.heap.size+1+1+1≠w.heap.size+1+1+1+1;omega) _).other (a:=⟨w.heap.size+1+1+1+1+1,0,none⟩) (by show w.heap.size+1+1+1≠w.heap.size+1+1+1+1+1;omega) _
 have ZF:Whole wa (w.heap.size+1+1+1+1) #[.int .i64 0] 3:=by rw[←Bn];exact (Vf.put 0 (.int .i64 0)).other (a:=⟨w.heap.size+1+1+1+1+1,0,none⟩) (by show w.heap.size+1+1+1+1≠w.heap.size+1+1+1+1+1;omega) _
 have hPa:Whole wa (w.heap.size+1+1+1+1+1) #[.int .i64 0] 3:=by rw[←Bn];exact (hP1.other (a:=⟨w.heap.size+1+1+1+1,0,none⟩) (by show w.heap.size+1+1+1+1+1≠w.heap.size+1+1+1+1;omega) _).put 0 (.int .i64 0)
 have hba:Below w.heap.size w wa:=by rw[←Bn];exact (hb1.setCell (p:=⟨w.heap.size+1+1+1+1,0,none⟩) (by show _≤w.heap.size+1+1+1+1;omega) _).setCell (p:=⟨w.heap.size+1+1+1+1+1,0,none⟩) (by show _≤w.heap.size+1+1+1+1+1;omega) _
 have hza:wa.heap.size=w.heap.size+6:=by rw[←Bn];simp;omega
 clear Bn hw1 hz1 hb1 hT1 hH1 hX1 hY1 Vf hP1 z4 c4 z5 c5 t0 t1;have hL:=LS.made (h:=h) (hm.below hba);have hsz2:((wa.alloc (.cells #[.pointer (some ⟨B,0,none⟩)] 29)).alloc (.cells #[.int .i64 h] 3)).heap.size=wa.heap.size+2:=by simp
 have hb2:Below wa.heap.size wa ((wa.alloc (.cells #[.pointer (some ⟨B,0,none⟩)] 29)).alloc (.cells #[.int .i64 h] 3)):=((Below.refl _ wa).alloc (Nat.le_refl _) _).alloc (by simp) _;have hseq:=uX hS hw hp 7 (by omega) _ hL;refine⟨trivial,(callsIn_wide.2 (pK B h wa)).mono ?_⟩;rintro e w' ⟨rfl,hw'⟩;rw[←hw'] at hL hsz2 hb2 hseq;have J6:=Tx.below hb2 Tx.lt;have hH2:=ZC.below hb2 ZC.lt;have hX2:=Qc.below hb2 Qc.lt;have hY2:=ZE.below hb2 ZE.lt;have hC2:=ZF.below hb2 ZF.lt;have hP2:=hPa.below hb2 hPa.lt;have hB2:=hba.trans (hb2.mono hba.size);have gI:=zh hS;have HM:=zh (hm.below hba);clear hm hS hw' hb2 Tx ZC Qc ZE ZF hPa
 gi_wp2_with fail
 rw[hza] at hseq hL hsz2;have nA:¬ aD B vs vf (w.heap.size+1+1+1+1):=fun hk=>by have:=(hlt _ hk).2;omega
 have Lp:¬ aD B vs vf (w.heap.size+1+1+1+1+1):=fun hk=>by have:=(hlt _ hk).2;omega
 refine wpIn_rangeFunc_ownF (w:=w') rfl (by decide) (gf:=129) (lb:=#[.pointer (some ⟨w.heap.size+1+1+1+1+1+1,0,none⟩),.pointer (some ⟨w.heap.size+1+1+1+1+1+1+1,0,none⟩)]) rfl trivial (enters_of Tryz.func129 (by kernel_rfl) rfl) hseq LS.oZ (LS.pq _) (Below.refl _ _) (fun _=>rfl)
  (fun pre W=>Whole W w.heap.size #[.pointer (some ⟨B,0,none⟩)] 29∧Whole W (w.heap.size+1) #[.int .i64 h] 3∧Whole W (w.heap.size+1+1) #[.int .i64 0] 3∧Whole W (w.heap.size+1+1+1) #[.bool false] 4∧Whole W (w.heap.size+1+1+1+1) #[.int .i64 (pre.length:Nat)] 3∧Whole W (w.heap.size+1+1+1+1+1) #[.int .i64 (Tr.eZ (pre.map (·.1)))] 3∧LS base B (w.heap.size+1+1+1+1+1+1) (w.heap.size+1+1+1+1+1+1+1) b s h vs n (Tr.raw g av) vf fr live root W∧Below w.heap.size w W)
  (fun c pre W=>c=.ret∧¬ pre <+: (Tr.ak g h).attach)
  ?hI ?hIx ⟨J6,hH2,hX2,hY2,hC2,hP2,hL,hB2⟩ (fun x=>{ tmps:=#[.pointer (some ⟨B,0,none⟩),.int .i64 h,.pointer (some ⟨w.heap.size,0,none⟩),.pointer (some ⟨w.heap.size+1,0,none⟩),.pointer (some ⟨w.heap.size+1+1,0,none⟩),.pointer (some ⟨w.heap.size+1+1+1,0,none⟩),.pointer (some ⟨w.heap.size+1+1+1+1,0,none⟩),.pointer (some ⟨w.heap.size+1+1+1+1+1,0,none⟩),.int .i64 x.1,undef,.pointer (some ⟨B,0,none⟩),.int .i64 h,.func (.func 129) #[] #[.pointer (some ⟨w.heap.size+1+1+1+1+1+1,0,none⟩),.pointer (some ⟨w.heap.size+1+1+1+1+1+1+1,0,none⟩)],.int .i64 x.1,undef,undef,undef,undef,undef,undef,undef,undef,undef,undef,undef,undef,undef,undef,undef,undef,undef,undef,undef,undef,undef,undef,undef,undef,undef,undef,undef,undef,undef],defers:=[] }) ?assign ?body ?done ?stop
 case hI=>
  rintro pre W W' row ⟨hT,hH,hX,hY,hC,hP,h2,h3⟩ hg hr;exact⟨aF hT hg (fun r e=>(hr r e).2),aF hH hg (fun r e=>(hr r e).2),aF hX hg (fun r e=>(hr r e).2),aF hY hg (fun r e=>(hr r e).2),aF hC hg (fun r e=>(hr r e).2),aF hP hg (fun r e=>(hr r e).2),h2.others hg (fun r e=>(hr r e).2),h3.grown hg h3.size (fun r e=>by have:=(hr r e).1;omega)⟩
 case hIx=>
  rintro c pre W W' row h hg hr;exact h
 case assign=>
  intro l x W K hK
  gi_wp2
  first | exact hK | simpa using hK
 case body=>
  rintro l pre x W ⟨hT,hH,hX,hY,hC,hP,gM,hBW⟩ rP;have t0:W.cell? ⟨w.heap.size,0,none⟩=some (.pointer (some ⟨B,0,none⟩)):=hT.cell 0;obtain⟨mx,ex,WC⟩:=hw.bS x.2;have hxi:=(bC gI.out (h:=x.1) (by rw[aI,ex];rfl)).1;have hpl:pre.length≤1000000:=by omega
  have HAT:=zh (iD base B b s root x.1 live n (Tr.raw g av) fr vs vf W gM.tree gI.out hxi);have HST:=zh (And.intro hT (And.intro hH (And.intro hX (And.intro hY (And.intro hC (And.intro hP (And.intro gM hBW)))))));have KT:=zh (fun q:pre++[x] <+: (Tr.ak g h).attach=>Iy (hw.gF h) q);clear hT hH hX hY hC hP gM hBW
  gi_wp2_with fail
  refine⟨trivial,(CallsIn.inRound l (callsIn_wide.2 HAT.out)).mono ?_⟩;rintro e w4 ⟨g4,o4,rfl,hnp,hb4⟩;rw[Tr.aj ex] at hnp;obtain⟨_,_,_,_,k4,_,_,k7,_⟩:=hnp.cells;have ZG:w4.cell? ⟨g4,o4+4,none⟩=some (.int .i64 h):=k4.trans (congrArg (fun z=>some (Value.int .i64 z)) WC);have k7':w4.cell? ⟨g4,o4+7,none⟩=some (.int .i64 (Tr.prv (Tr.ak g h) x.1)):=k7.trans (congrArg (fun z=>some (Value.int .i64 (Tr.prv (Tr.ak g z) x.1))) WC);obtain⟨hT,hH,hX,hY,hC,hP,gM,hBW⟩:=HST.out;have hTq:=hT.below hb4 hT.lt;have hHq:=hH.below hb4 hH.lt;have ZH:=hX.below hb4 hX.lt;have ZI:=hY.below hb4 hY.lt;have ZJ:=hC.below hb4 hC.lt;have ZK:=hP.below hb4 hP.lt;have q1:w4.cell? ⟨w.heap.size+1,0,none⟩=some (.int .i64 h):=hHq.cell 0;have q2:w4.cell? ⟨w.heap.size+1+1,0,none⟩=some (.int .i64 0):=ZH.cell 0;have q3:w4.cell? ⟨w.heap.size+1+1+1,0,none⟩=some (.bool false):=ZI.cell 0;have q4:w4.cell? ⟨w.heap.size+1+1+1+1,0,none⟩=some (.int .i64 (pre.length:Nat)):=ZJ.cell 0;have q5:w4.cell? ⟨w.heap.size+1+1+1+1+1,0,none⟩=some (.int .i64 (Tr.eZ (pre.map (·.1)))):=ZK.cell 0;have f2:=ZH.free 0;have f3:=ZI.free 0;have f4:=ZJ.free 0;have f5:=ZK.free 0;have lW:=Below.drew hb4;have wh:=hT.below lW hT.lt;have ZL:=hH.below lW hH.lt;have bg:=hX.below lW hX.lt;have wM:=hY.below lW hY.lt;have Tz:=hC.below lW hC.lt;have YA:=hP.below lW hP.lt;have hL4:=gM.below lW;have hB4:=hBW.trans (lW.mono hBW.size);have hko:=jF lW;clear hTq hHq ZH ZI ZJ ZK hb4 lW;have hhh:(h != h)=false:=by simp
  obtain⟨PV,hPV⟩:=eX (Tr.prv (Tr.ak g h) x.1)
  obtain⟨LP,hLP⟩:=eX (Tr.eZ (pre.map (·.1)))
  have WE:=KT.out;rw[hPV] at k7' WE;rw[hLP] at q5 WE;by_cases hpp:PV=LP
  ·have hq:(PV != LP)=false:=by simpa using hpp
   have hC':=Tz.put 0 (.int .i64 ((pre.length:Int)+1));have hP':=YA.put 0 (.int .i64 x.1);have hL':=(hL4.set nA (by omega) (by omega) 0 (.int .i64 ((pre.length:Int)+1))).set Lp (by omega) (by omega) 0 (.int .i64 x.1);have hB':=(hB4.setCell (p:=⟨w.heap.size+1+1+1+1,0,none⟩) (by show _≤w.heap.size+1+1+1+1;omega) (.int .i64 ((pre.length:Int)+1))).setCell (p:=⟨w.heap.size+1+1+1+1+1,0,none⟩) (by show _≤w.heap.size+1+1+1+1+1;omega) (.int .i64 x.1);have HF:=zh (And.intro ((wh.other (a:=⟨w.heap.size+1+1+1+1,0,none⟩) (by show w.heap.size≠w.heap.size+1+1+1+1;omega) (.int .i64 ((pre.length:Int)+1))).other (a:=⟨w.heap.size+1+1+1+1+1,0,none⟩) (by show w.heap.size≠w.heap.size+1+1+1+1+1;omega) (.int .i64 x.1)) (And.intro ((ZL.other (a:=⟨w.heap.size+1+1+1+1,0,none⟩) (by show w.heap.size+1≠w.heap.size+1+1+1+1;omega) (.int .i64 ((pre.length:Int)+1))).other (a:=⟨w.heap.size+1+1+1+1+1,0,none⟩) (by show w.heap.size+1≠w.heap.size+1+1+1+1+1;omega) (.int .i64 x.1)) (And.intro ((bg.other (a:=⟨w.heap.size+1+1+1+1,0,none⟩) (by show w.heap.size+1+1≠w.heap.size+1+1+1+1;omega) (.int .i64 ((pre.length:Int)+1))).other (a:=⟨w.heap.size+1+1+1+1+1,0,none⟩) (by show w.heap.size+1+1≠w.heap.size+1+1+1+1+1;omega) (.int .i64 x.1)) (And.intro ((wM.other (a:=⟨w.heap.size+1+1+1+1,0,none⟩) (by show w.heap.size+1+1+1≠w.heap.size+1+1+1+1;omega) (.int .i64 ((pre.length:Int)+1))).other (a:=⟨w.heap.size+1+1+1+1+1,0,none⟩) (by show w.heap.size+1+1+1≠w.heap.size+1+1+1+1+1;omega) (.int .i64 x.1)) (And.intro (hC'.other (a:=⟨w.heap.size+1+1+1+1+1,0,none⟩) (by show w.heap.size+1+1+1+1≠w.heap.size+1+1+1+1+1;omega) (.int .i64 x.1)) (And.intro ((YA.other (a:=⟨w.heap.size+1+1+1+1,0,none⟩) (by show w.heap.size+1+1+1+1+1≠w.heap.size+1+1+1+1;omega) (.int .i64 ((pre.length:Int)+1))).put 0 (.int .i64 x.1)) (And.intro hL' hB')))))));clear hT hH hX hY hC hP gM hBW wh ZL bg wM Tz YA hL4 hB4 hC' hP' hL' hB' hnp k4 k7 WE hpp
   gi_wp2_with fail
   gi_cut [30] from 17 (fun u wc=>u=.bool false∧wc=w4.drew)
   case first=>
    rename_i J0 K0 hJ0 jg
    gi_region
    all_goals exact jg _ _ (Met.intro (hJ0 _ _ ⟨_,_,_,_,_,_,_,_,_,_,_,_,_,_,_,_,_,_,_,_,_,_,_,_,_,_,⟨rfl,rfl⟩,rfl⟩))
   case rest=>
    obtain⟨rfl,rfl⟩:=hcut
    gi_wp2_with fail
    refine⟨(hko.trans (KeepsOthers.setCell _ _ _)).trans (KeepsOthers.setCell _ _ _),fun _=>HF.out.2.2.2.2.2.2.1,?_⟩;show _∧_;rw[List.length_append,List.map_append,List.map_cons,List.map_nil,Tr.rQ];exact HF.out
  ·have hq:(PV != LP)=true:=by simpa using hpp
   have hno:¬ pre++[x] <+: (Tr.ak g h).attach:=fun q=>hpp (WE q);clear hT hH hX hY hC hP gM hBW wh ZL bg wM Tz YA hL4 hB4 hnp k4 k7 WE hpp
   gi_wp2_with fail
   gi_cut [30] from 17 (fun u wc=>u=.bool true∧wc=w4.drew)
   case first=>
    rename_i J0 K0 hJ0 jg
    gi_region
    all_goals exact jg _ _ (Met.intro (hJ0 _ _ ⟨_,_,_,_,_,_,_,_,_,_,_,_,_,_,_,_,_,_,_,_,_,_,_,_,_,_,⟨rfl,rfl⟩,rfl⟩))
   case rest=>
    obtain⟨rfl,rfl⟩:=hcut
    gi_wp2_with fail
    exact⟨(hko.trans (KeepsOthers.setCell _ _ _)).trans (KeepsOthers.setCell _ _ _),rfl,hno⟩
 case done=>
  rintro D xs W hD rfl ⟨hT,hH,hX,hY,hC,hP,gM,hBW⟩ hK;rw[List.length_attach] at hC;rw[List.attach_map_subtype_val] at hP;obtain⟨mh,eh⟩:=Option.isSome_iff_exists.1 hin;have ekl:Tr.ak g h=mh.kids:=Tr.aJ eh;have HAT:∀ V,Below W.heap.size W V→Calls Tryz.prog 59 #[.pointer (some ⟨B,0,none⟩),.int .i64 h] V fun e w'=>∃ g4 o4,e=.returned (.pointer (some ⟨g4,o4,none⟩))∧w'.cell? ⟨g4,o4+6,none⟩=some (.int .i64 (Tr.eZ (Tr.ak g h)))∧g4≠w.heap.size+1+1∧Below V.heap.size V w':=fun V hV=>by
   have hXV:=hX.below hV hX.lt;refine (iD base B b s root h live n (Tr.raw g av) fr vs vf V (gM.tree.below hV) gI.out hp).mono ?_;rintro e w4 ⟨g4,o4,rfl,hnp,hb4⟩;rw[Tr.aj eh] at hnp;obtain⟨_,_,_,_,_,_,k6,_,_⟩:=hnp.cells;exact⟨g4,o4,rfl,k6.trans (congrArg (fun z=>some (Value.int .i64 (Tr.eZ z))) ekl.symm),hnp.ne (hXV.below hb4 hXV.lt),hb4⟩
  obtain⟨KN,hKN⟩:=eX ((Tr.ak g h).length)
  obtain⟨KL,hKL⟩:=eX (Tr.eZ (Tr.ak g h))
  rw[hKN] at hC hlen;rw[hKL] at hP HAT;have t0:W.cell? ⟨w.heap.size,0,none⟩=some (.pointer (some ⟨B,0,none⟩)):=hT.cell 0;have q1:W.cell? ⟨w.heap.size+1,0,none⟩=some (.int .i64 h):=hH.cell 0;have q4:W.cell? ⟨w.heap.size+1+1+1+1,0,none⟩=some (.int .i64 (KN:Nat)):=hC.cell 0;have q5:W.cell? ⟨w.heap.size+1+1+1+1+1,0,none⟩=some (.int .i64 KL):=hP.cell 0;have HST:=zh (And.intro hX (And.intro hY (And.intro hC (And.intro hP hBW))));have hfx:∀ V,Below W.drew.heap.size W.drew V→V.cell? ⟨w.heap.size+1+1,0,none⟩=some (.int .i64 0)∧V.cell? ⟨w.heap.size+1+1+1,0,none⟩=some (.bool false)∧V.cell? ⟨w.heap.size+1+1+1+1,0,none⟩=some (.int .i64 (KN:Nat))∧V.cell? ⟨w.heap.size+1+1+1+1+1,0,none⟩=some (.int .i64 KL)∧V.frozen? ⟨w.heap.size+1+1,0,none⟩=false∧V.frozen? ⟨w.heap.size+1+1+1,0,none⟩=false:=fun V hV=>by
   have hV2:Below W.heap.size W V:=(Below.drew (Below.refl _ W)).trans hV;obtain⟨hX,hY,hC,hP,_⟩:=HST.out;exact⟨(hX.below hV2 hX.lt).cell 0,(hY.below hV2 hY.lt).cell 0,(hC.below hV2 hC.lt).cell 0,(hP.below hV2 hP.lt).cell 0,(hX.below hV2 hX.lt).free 0,(hY.below hV2 hY.lt).free 0⟩
  have YB:=zh hfx;have HA:=zh (HAT _ (Below.drew (Below.refl _ W)));clear hfx HAT hT hH hX hY hC hP gM hBW ekl eh
  gi_wp2_with fail
  gi_cut [] from 34 (fun wc=>∃ w4,Below W.drew.heap.size W.drew w4∧(w4.setCell ⟨w.heap.size+1+1,0,none⟩ (.int .i64 (KN:Nat))).setCell ⟨w.heap.size+1+1+1,0,none⟩ (.bool true)=wc)
  case first=>
   rename_i J0 K0 hJ0 jg;refine wpIn_mono (Q:=NoPanic _) ?_ NoPanic.imp;refine wpIn_region_any (by kernel_rfl) ?_;(try (change wpAnyIn _ _ _ _ _ _ _ _ _ (World.drew _)));apply Wz (facts:=fun w4 g4 o4=>Below W.drew.heap.size W.drew w4∧w4.cell? ⟨g4,o4+6,none⟩=some (.int .i64 KL)∧g4≠w.heap.size+1+1)
   case use=>
    intro R6 Cj Ck iQ;refine wpAnyIn_ready (rs:=[0,1,2,7]) (by kernel_rfl) (by simp) ?_;refine AllReadyIn.cons rfl (fun K hK=>?_) (AllReadyIn.cons rfl (fun K hK=>?_) (AllReadyIn.cons rfl (fun K hK=>?_) (AllReadyIn.cons rfl (fun K hK=>?_) AllReadyIn.nil)))
    ·go_simp;refine hK _ _ ?_;clear hK K;(try simp only[pS]);refine wpAnyIn_ready (rs:=[1,2,7]) (by kernel_rfl) (by simp) ?_;refine AllReadyIn.cons rfl (fun K hK=>?_) (AllReadyIn.cons rfl (fun K hK=>?_) (AllReadyIn.cons rfl (fun K hK=>?_) AllReadyIn.nil))
     ·go_simp;refine hK _ _ ?_;clear hK K;(try simp only[pS]);refine lu 2 7 (fun K hK=>?_) fun K hK=>?_
      ·go_simp;refine hK _ _ ?_;clear hK K;(try simp only[pS]);refine lu 3 7 (fun K hK=>?_) fun K hK=>?_
       ·go_simp;refine⟨trivial,?_⟩;refine (callsIn_wide.2 HA.out).mono ?_;rintro e w4 ⟨g4,o4,rfl,k6,hg4,hb4⟩;refine hK _ _ ?_;clear hK K;(try simp only[pS]);exact Ck w4 g4 o4 ⟨hb4,k6,hg4⟩
       ·go_simp;refine hK _ _ ?_;clear hK K;(try simp only[pS]);refine dN 3 fun K hK=>?_;go_simp;refine⟨trivial,?_⟩;refine (callsIn_wide.2 HA.out).mono ?_;rintro e w4 ⟨g4,o4,rfl,k6,hg4,hb4⟩;refine hK _ _ ?_;clear hK K;(try simp only[pS]);exact iQ w4 g4 o4 ⟨hb4,k6,hg4⟩
      ·go_simp;refine hK _ _ ?_;clear hK K;(try simp only[pS]);refine dN 2 fun K hK=>?_;go_simp;refine hK _ _ ?_;clear hK K;(try simp only[pS]);refine dN 3 fun K hK=>?_;go_simp;refine⟨trivial,?_⟩;refine (callsIn_wide.2 HA.out).mono ?_;rintro e w4 ⟨g4,o4,rfl,k6,hg4,hb4⟩;refine hK _ _ ?_;clear hK K;(try simp only[pS]);exact iQ w4 g4 o4 ⟨hb4,k6,hg4⟩
     ·go_simp;refine hK _ _ ?_;clear hK K;(try simp only[pS]);refine lu 1 7 (fun K hK=>?_) fun K hK=>?_
      ·go_simp;refine hK _ _ ?_;clear hK K;(try simp only[pS]);refine lu 3 7 (fun K hK=>?_) fun K hK=>?_
       ·go_simp;refine⟨trivial,?_⟩;refine (callsIn_wide.2 HA.out).mono ?_;rintro e w4 ⟨g4,o4,rfl,k6,hg4,hb4⟩;refine hK _ _ ?_;clear hK K;(try simp only[pS]);exact Ck w4 g4 o4 ⟨hb4,k6,hg4⟩
       ·go_simp;refine hK _ _ ?_;clear hK K;(try simp only[pS]);refine dN 3 fun K hK=>?_;go_simp;refine⟨trivial,?_⟩;refine (callsIn_wide.2 HA.out).mono ?_;rintro e w4 ⟨g4,o4,rfl,k6,hg4,hb4⟩;refine hK _ _ ?_;clear hK K;(try simp only[pS]);exact iQ w4 g4 o4 ⟨hb4,k6,hg4⟩
      ·go_simp;refine hK _ _ ?_;clear hK K;(try simp only[pS]);refine dN 1 fun K hK=>?_;go_simp;refine hK _ _ ?_;clear hK K;(try simp only[pS]);refine dN 3 fun K hK=>?_;go_simp;refine⟨trivial,?_⟩;refine (callsIn_wide.2 HA.out).mono ?_;rintro e w4 ⟨g4,o4,rfl,k6,hg4,hb4⟩;refine hK _ _ ?_;clear hK K;(try simp only[pS]);exact iQ w4 g4 o4 ⟨hb4,k6,hg4⟩
     ·go_simp;refine hK _ _ ?_;clear hK K;(try simp only[pS]);refine lu 1 2 (fun K hK=>?_) fun K hK=>?_
      ·go_simp;refine hK _ _ ?_;clear hK K;(try simp only[pS]);refine dN 2 fun K hK=>?_;go_simp;refine hK _ _ ?_;clear hK K;(try simp only[pS]);refine dN 3 fun K hK=>?_;go_simp;refine⟨trivial,?_⟩;refine (callsIn_wide.2 HA.out).mono ?_;rintro e w4 ⟨g4,o4,rfl,k6,hg4,hb4⟩;refine hK _ _ ?_;clear hK K;(try simp only[pS]);exact iQ w4 g4 o4 ⟨hb4,k6,hg4⟩
      ·go_simp;refine hK _ _ ?_;clear hK K;(try simp only[pS]);refine dN 1 fun K hK=>?_;go_simp;refine hK _ _ ?_;clear hK K;(try simp only[pS]);refine dN 3 fun K hK=>?_;go_simp;refine⟨trivial,?_⟩;refine (callsIn_wide.2 HA.out).mono ?_;rintro e w4 ⟨g4,o4,rfl,k6,hg4,hb4⟩;refine hK _ _ ?_;clear hK K;(try simp only[pS]);exact iQ w4 g4 o4 ⟨hb4,k6,hg4⟩
    ·go_simp;refine hK _ _ ?_;clear hK K;(try simp only[pS]);refine wpAnyIn_ready (rs:=[0,2,7]) (by kernel_rfl) (by simp) ?_;refine AllReadyIn.cons rfl (fun K hK=>?_) (AllReadyIn.cons rfl (fun K hK=>?_) (AllReadyIn.cons rfl (fun K hK=>?_) AllReadyIn.nil))
     ·go_simp;refine hK _ _ ?_;clear hK K;(try simp only[pS]);refine lu 2 7 (fun K hK=>?_) fun K hK=>?_
      ·go_simp;refine hK _ _ ?_;clear hK K;(try simp only[pS]);refine lu 3 7 (fun K hK=>?_) fun K hK=>?_
       ·go_simp;refine⟨trivial,?_⟩;refine (callsIn_wide.2 HA.out).mono ?_;rintro e w4 ⟨g4,o4,rfl,k6,hg4,hb4⟩;refine hK _ _ ?_;clear hK K;(try simp only[pS]);exact Ck w4 g4 o4 ⟨hb4,k6,hg4⟩
       ·go_simp;refine hK _ _ ?_;clear hK K;(try simp only[pS]);refine dN 3 fun K hK=>?_;go_simp;refine⟨trivial,?_⟩;refine (callsIn_wide.2 HA.out).mono ?_;rintro e w4 ⟨g4,o4,rfl,k6,hg4,hb4⟩;refine hK _ _ ?_;clear hK K;(try simp only[pS]);exact iQ w4 g4 o4 ⟨hb4,k6,hg4⟩
      ·go_simp;refine hK _ _ ?_;clear hK K;(try simp only[pS]);refine dN 2 fun K hK=>?_;go_simp;refine hK _ _ ?_;clear hK K;(try simp only[pS]);refine dN 3 fun K hK=>?_;go_simp;refine⟨trivial,?_⟩;refine (callsIn_wide.2 HA.out).mono ?_;rintro e w4 ⟨g4,o4,rfl,k6,hg4,hb4⟩;refine hK _ _ ?_;clear hK K;(try simp only[pS]);exact iQ w4 g4 o4 ⟨hb4,k6,hg4⟩
     ·go_simp;refine hK _ _ ?_;clear hK K;(try simp only[pS]);refine wpAnyIn_ready (rs:=[0,3,7]) (by kernel_rfl) (by simp) ?_;refine AllReadyIn.cons rfl (fun K hK=>?_) (AllReadyIn.cons rfl (fun K hK=>?_) (AllReadyIn.cons rfl (fun K hK=>?_) AllReadyIn.nil))
      ·go_simp;refine hK _ _ ?_;clear hK K;(try simp only[pS]);refine lu 3 7 (fun K hK=>?_) fun K hK=>?_
       ·go_simp;refine⟨trivial,?_⟩;refine (callsIn_wide.2 HA.out).mono ?_;rintro e w4 ⟨g4,o4,rfl,k6,hg4,hb4⟩;refine hK _ _ ?_;clear hK K;(try simp only[pS]);exact Ck w4 g4 o4 ⟨hb4,k6,hg4⟩
       ·go_simp;refine hK _ _ ?_;clear hK K;(try simp only[pS]);refine dN 3 fun K hK=>?_;go_simp;refine⟨trivial,?_⟩;refine (callsIn_wide.2 HA.out).mono ?_;rintro e w4 ⟨g4,o4,rfl,k6,hg4,hb4⟩;refine hK _ _ ?_;clear hK K;(try simp only[pS]);exact iQ w4 g4 o4 ⟨hb4,k6,hg4⟩
      ·go_simp;refine⟨trivial,?_⟩;refine (callsIn_wide.2 HA.out).mono ?_;rintro e w4 ⟨g4,o4,rfl,k6,hg4,hb4⟩;refine hK _ _ ?_;clear hK K;(try simp only[pS]);exact R6 w4 g4 o4 ⟨hb4,k6,hg4⟩
      ·go_simp;refine hK _ _ ?_;clear hK K;(try simp only[pS]);refine lu 0 3 (fun K hK=>?_) fun K hK=>?_
       ·go_simp;refine hK _ _ ?_;clear hK K;(try simp only[pS]);refine dN 3 fun K hK=>?_;go_simp;refine⟨trivial,?_⟩;refine (callsIn_wide.2 HA.out).mono ?_;rintro e w4 ⟨g4,o4,rfl,k6,hg4,hb4⟩;refine hK _ _ ?_;clear hK K;(try simp only[pS]);exact iQ w4 g4 o4 ⟨hb4,k6,hg4⟩
       ·go_simp;refine⟨trivial,?_⟩;refine (callsIn_wide.2 HA.out).mono ?_;rintro e w4 ⟨g4,o4,rfl,k6,hg4,hb4⟩;refine hK _ _ ?_;clear hK K;(try simp only[pS]);exact Cj w4 g4 o4 ⟨hb4,k6,hg4⟩
     ·go_simp;refine hK _ _ ?_;clear hK K;(try simp only[pS]);refine lu 0 2 (fun K hK=>?_) fun K hK=>?_
      ·go_simp;refine hK _ _ ?_;clear hK K;(try simp only[pS]);refine dN 2 fun K hK=>?_;go_simp;refine hK _ _ ?_;clear hK K;(try simp only[pS]);refine dN 3 fun K hK=>?_;go_simp;refine⟨trivial,?_⟩;refine (callsIn_wide.2 HA.out).mono ?_;rintro e w4 ⟨g4,o4,rfl,k6,hg4,hb4⟩;refine hK _ _ ?_;clear hK K;(try simp only[pS]);exact iQ w4 g4 o4 ⟨hb4,k6,hg4⟩
      ·go_simp;refine hK _ _ ?_;clear hK K;(try simp only[pS]);refine lu 0 3 (fun K hK=>?_) fun K hK=>?_
       ·go_simp;refine hK _ _ ?_;clear hK K;(try simp only[pS]);refine dN 3 fun K hK=>?_;go_simp;refine⟨trivial,?_⟩;refine (callsIn_wide.2 HA.out).mono ?_;rintro e w4 ⟨g4,o4,rfl,k6,hg4,hb4⟩;refine hK _ _ ?_;clear hK K;(try simp only[pS]);exact iQ w4 g4 o4 ⟨hb4,k6,hg4⟩
       ·go_simp;refine⟨trivial,?_⟩;refine (callsIn_wide.2 HA.out).mono ?_;rintro e w4 ⟨g4,o4,rfl,k6,hg4,hb4⟩;refine hK _ _ ?_;clear hK K;(try simp only[pS]);exact Cj w4 g4 o4 ⟨hb4,k6,hg4⟩
    ·go_simp;refine hK _ _ ?_;clear hK K;(try simp only[pS]);refine wpAnyIn_ready (rs:=[0,1,7]) (by kernel_rfl) (by simp) ?_;refine AllReadyIn.cons rfl (fun K hK=>?_) (AllReadyIn.cons rfl (fun K hK=>?_) (AllReadyIn.cons rfl (fun K hK=>?_) AllReadyIn.nil))
     ·go_simp;refine hK _ _ ?_;clear hK K;(try simp only[pS]);refine lu 1 7 (fun K hK=>?_) fun K hK=>?_
      ·go_simp;refine hK _ _ ?_;clear hK K;(try simp only[pS]);refine lu 3 7 (fun K hK=>?_) fun K hK=>?_
       ·go_simp;refine⟨trivial,?_⟩;refine (callsIn_wide.2 HA.out).mono ?_;rintro e w4 ⟨g4,o4,rfl,k6,hg4,hb4⟩;refine hK _ _ ?_;clear hK K;(try simp only[pS]);exact Ck w4 g4 o4 ⟨hb4,k6,hg4⟩
       ·go_simp;refine hK _ _ ?_;clear hK K;(try simp only[pS]);refine dN 3 fun K hK=>?_;go_simp;refine⟨trivial,?_⟩;refine (callsIn_wide.2 HA.out).mono ?_;rintro e w4 ⟨g4,o4,rfl,k6,hg4,hb4⟩;refine hK _ _ ?_;clear hK K;(try simp only[pS]);exact iQ w4 g4 o4 ⟨hb4,k6,hg4⟩
      ·go_simp;refine hK _ _ ?_;clear hK K;(try simp only[pS]);refine dN 1 fun K hK=>?_;go_simp;refine hK _ _ ?_;clear hK K;(try simp only[pS]);refine dN 3 fun K hK=>?_;go_simp;refine⟨trivial,?_⟩;refine (callsIn_wide.2 HA.out).mono ?_;rintro e w4 ⟨g4,o4,rfl,k6,hg4,hb4⟩;refine hK _ _ ?_;clear hK K;(try simp only[pS]);exact iQ w4 g4 o4 ⟨hb4,k6,hg4⟩
     ·go_simp;refine hK _ _ ?_;clear hK K;(try simp only[pS]);refine wpAnyIn_ready (rs:=[0,3,7]) (by kernel_rfl) (by simp) ?_;refine AllReadyIn.cons rfl (fun K hK=>?_) (AllReadyIn.cons rfl (fun K hK=>?_) (AllReadyIn.cons rfl (fun K hK=>?_) AllReadyIn.nil))
      ·go_simp;refine hK _ _ ?_;clear hK K;(try simp only[pS]);refine lu 3 7 (fun K hK=>?_) fun K hK=>?_
       ·go_simp;refine⟨trivial,?_⟩;refine (callsIn_wide.2 HA.out).mono ?_;rintro e w4 ⟨g4,o4,rfl,k6,hg4,hb4⟩;refine hK _ _ ?_;clear hK K;(try simp only[pS]);exact Ck w4 g4 o4 ⟨hb4,k6,hg4⟩
       ·go_simp;refine hK _ _ ?_;clear hK K;(try simp only[pS]);refine dN 3 fun K hK=>?_;go_simp;refine⟨trivial,?_⟩;refine (callsIn_wide.2 HA.out).mono ?_;rintro e w4 ⟨g4,o4,rfl,k6,hg4,hb4⟩;refine hK _ _ ?_;clear hK K;(try simp only[pS]);exact iQ w4 g4 o4 ⟨hb4,k6,hg4⟩
      ·go_simp;refine⟨trivial,?_⟩;refine (callsIn_wide.2 HA.out).mono ?_;rintro e w4 ⟨g4,o4,rfl,k6,hg4,hb4⟩;refine hK _ _ ?_;clear hK K;(try simp only[pS]);exact R6 w4 g4 o4 ⟨hb4,k6,hg4⟩
      ·go_simp;refine hK _ _ ?_;clear hK K;(try simp only[pS]);refine lu 0 3 (fun K hK=>?_) fun K hK=>?_
       ·go_simp;refine hK _ _ ?_;clear hK K;(try simp only[pS]);refine dN 3 fun K hK=>?_;go_simp;refine⟨trivial,?_⟩;refine (callsIn_wide.2 HA.out).mono ?_;rintro e w4 ⟨g4,o4,rfl,k6,hg4,hb4⟩;refine hK _ _ ?_;clear hK K;(try simp only[pS]);exact iQ w4 g4 o4 ⟨hb4,k6,hg4⟩
       ·go_simp;refine⟨trivial,?_⟩;refine (callsIn_wide.2 HA.out).mono ?_;rintro e w4 ⟨g4,o4,rfl,k6,hg4,hb4⟩;refine hK _ _ ?_;clear hK K;(try simp only[pS]);exact Cj w4 g4 o4 ⟨hb4,k6,hg4⟩
     ·go_simp;refine hK _ _ ?_;clear hK K;(try simp only[pS]);refine lu 0 1 (fun K hK=>?_) fun K hK=>?_
      ·go_simp;refine hK _ _ ?_;clear hK K;(try simp only[pS]);refine dN 1 fun K hK=>?_;go_simp;refine hK _ _ ?_;clear hK K;(try simp only[pS]);refine dN 3 fun K hK=>?_;go_simp;refine⟨trivial,?_⟩;refine (callsIn_wide.2 HA.out).mono ?_;rintro e w4 ⟨g4,o4,rfl,k6,hg4,hb4⟩;refine hK _ _ ?_;clear hK K;(try simp only[pS]);exact iQ w4 g4 o4 ⟨hb4,k6,hg4⟩
      ·go_simp;refine hK _ _ ?_;clear hK K;(try simp only[pS]);refine lu 0 3 (fun K hK=>?_) fun K hK=>?_
       ·go_simp;refine hK _ _ ?_;clear hK K;(try simp only[pS]);refine dN 3 fun K hK=>?_;go_simp;refine⟨trivial,?_⟩;refine (callsIn_wide.2 HA.out).mono ?_;rintro e w4 ⟨g4,o4,rfl,k6,hg4,hb4⟩;refine hK _ _ ?_;clear hK K;(try simp only[pS]);exact iQ w4 g4 o4 ⟨hb4,k6,hg4⟩
       ·go_simp;refine⟨trivial,?_⟩;refine (callsIn_wide.2 HA.out).mono ?_;rintro e w4 ⟨g4,o4,rfl,k6,hg4,hb4⟩;refine hK _ _ ?_;clear hK K;(try simp only[pS]);exact Cj w4 g4 o4 ⟨hb4,k6,hg4⟩
    ·go_simp;refine hK _ _ ?_;clear hK K;(try simp only[pS]);refine wpAnyIn_ready (rs:=[0,1,2]) (by kernel_rfl) (by simp) ?_;refine AllReadyIn.cons rfl (fun K hK=>?_) (AllReadyIn.cons rfl (fun K hK=>?_) (AllReadyIn.cons rfl (fun K hK=>?_) AllReadyIn.nil))
     ·go_simp;refine hK _ _ ?_;clear hK K;(try simp only[pS]);refine lu 1 2 (fun K hK=>?_) fun K hK=>?_
      ·go_simp;refine hK _ _ ?_;clear hK K;(try simp only[pS]);refine dN 2 fun K hK=>?_;go_simp;refine hK _ _ ?_;clear hK K;(try simp only[pS]);refine dN 3 fun K hK=>?_;go_simp;refine⟨trivial,?_⟩;refine (callsIn_wide.2 HA.out).mono ?_;rintro e w4 ⟨g4,o4,rfl,k6,hg4,hb4⟩;refine hK _ _ ?_;clear hK K;(try simp only[pS]);exact iQ w4 g4 o4 ⟨hb4,k6,hg4⟩
      ·go_simp;refine hK _ _ ?_;clear hK K;(try simp only[pS]);refine dN 1 fun K hK=>?_;go_simp;refine hK _ _ ?_;clear hK K;(try simp only[pS]);refine dN 3 fun K hK=>?_;go_simp;refine⟨trivial,?_⟩;refine (callsIn_wide.2 HA.out).mono ?_;rintro e w4 ⟨g4,o4,rfl,k6,hg4,hb4⟩;refine hK _ _ ?_;clear hK K;(try simp only[pS]);exact iQ w4 g4 o4 ⟨hb4,k6,hg4⟩
     ·go_simp;refine hK _ _ ?_;clear hK K;(try simp only[pS]);refine lu 0 2 (fun K hK=>?_) fun K hK=>?_
      ·go_simp;refine hK _ _ ?_;clear hK K;(try simp only[pS]);refine dN 2 fun K hK=>?_;go_simp;refine hK _ _ ?_;clear hK K;(try simp only[pS]);refine dN 3 fun K hK=>?_;go_simp;refine⟨trivial,?_⟩;refine (callsIn_wide.2 HA.out).mono ?_;rintro e w4 ⟨g4,o4,rfl,k6,hg4,hb4⟩;refine hK _ _ ?_;clear hK K;(try simp only[pS]);exact iQ w4 g4 o4 ⟨hb4,k6,hg4⟩
      ·go_simp;refine hK _ _ ?_;clear hK K;(try simp only[pS]);refine lu 0 3 (fun K hK=>?_) fun K hK=>?_
       ·go_simp;refine hK _ _ ?_;clear hK K;(try simp only[pS]);refine dN 3 fun K hK=>?_;go_simp;refine⟨trivial,?_⟩;refine (callsIn_wide.2 HA.out).mono ?_;rintro e w4 ⟨g4,o4,rfl,k6,hg4,hb4⟩;refine hK _ _ ?_;clear hK K;(try simp only[pS]);exact iQ w4 g4 o4 ⟨hb4,k6,hg4⟩
       ·go_simp;refine⟨trivial,?_⟩;refine (callsIn_wide.2 HA.out).mono ?_;rintro e w4 ⟨g4,o4,rfl,k6,hg4,hb4⟩;refine hK _ _ ?_;clear hK K;(try simp only[pS]);exact Cj w4 g4 o4 ⟨hb4,k6,hg4⟩
     ·go_simp;refine hK _ _ ?_;clear hK K;(try simp only[pS]);refine lu 0 1 (fun K hK=>?_) fun K hK=>?_
      ·go_simp;refine hK _ _ ?_;clear hK K;(try simp only[pS]);refine dN 1 fun K hK=>?_;go_simp;refine hK _ _ ?_;clear hK K;(try simp only[pS]);refine dN 3 fun K hK=>?_;go_simp;refine⟨trivial,?_⟩;refine (callsIn_wide.2 HA.out).mono ?_;rintro e w4 ⟨g4,o4,rfl,k6,hg4,hb4⟩;refine hK _ _ ?_;clear hK K;(try simp only[pS]);exact iQ w4 g4 o4 ⟨hb4,k6,hg4⟩
      ·go_simp;refine hK _ _ ?_;clear hK K;(try simp only[pS]);refine lu 0 3 (fun K hK=>?_) fun K hK=>?_
       ·go_simp;refine hK _ _ ?_;clear hK K;(try simp only[pS]);refine dN 3 fun K hK=>?_;go_simp;refine⟨trivial,?_⟩;refine (callsIn_wide.2 HA.out).mono ?_;rintro e w4 ⟨g4,o4,rfl,k6,hg4,hb4⟩;refine hK _ _ ?_;clear hK K;(try simp only[pS]);exact iQ w4 g4 o4 ⟨hb4,k6,hg4⟩
       ·go_simp;refine⟨trivial,?_⟩;refine (callsIn_wide.2 HA.out).mono ?_;rintro e w4 ⟨g4,o4,rfl,k6,hg4,hb4⟩;refine hK _ _ ?_;clear hK K;(try simp only[pS]);exact Cj w4 g4 o4 ⟨hb4,k6,hg4⟩
   case k00=>
    rintro w4 g4 o4 ⟨hb4,k6,hg4⟩;obtain⟨q2',q3',ZM,ZN,f2',f3'⟩:=YB.out w4 hb4;have ZO:(w4.setCell ⟨w.heap.size+1+1,0,none⟩ (.int .i64 (KN:Nat))).cell? ⟨g4,o4+6,none⟩=some (.int .i64 KL):=by rw[sW (heap_setCell_other w4 ⟨w.heap.size+1+1,0,none⟩ g4 _ hg4)];exact k6
    show wpAnyIn _ _ _ _ _ _ _ _ _ _;refine iO 4 ?_;(try simp only[pS]);refine iO 5 ?_;(try simp only[pS]);refine wpAnyIn_ready (rs:=[0,6,7]) (by kernel_rfl) (by simp) ?_;refine AllReadyIn.cons rfl (fun K hK=>?_) (AllReadyIn.cons rfl (fun K hK=>?_) (AllReadyIn.cons rfl (fun K hK=>?_) AllReadyIn.nil))
    ·go_simp;refine hK _ _ ?_;clear hK K;(try simp only[pS]);refine wpAnyIn_ready (rs:=[6,7,9]) (by kernel_rfl) (by simp) ?_;refine AllReadyIn.cons rfl (fun K hK=>?_) (AllReadyIn.cons rfl (fun K hK=>?_) (AllReadyIn.cons rfl (fun K hK=>?_) AllReadyIn.nil))
     ·go_simp;refine hK _ _ ?_;clear hK K;(try simp only[pS]);refine lu 7 9 (fun K hK=>?_) fun K hK=>?_
      ·go_simp;refine hK _ _ ?_;clear hK K;(try simp only[pS]);refine iO 8 ?_;(try simp only[pS]);refine dN 9 fun K hK=>?_;go_simp;refine hK _ _ ?_;clear hK K;(try simp only[pS]);refine dN 10 fun K hK=>?_;go_simp;refine hK _ _ ?_;clear hK K;(try simp only[pS]);refine wpAnyIn_done (by kernel_rfl) ?_ _;exact jg _ _ (Met.intro (hJ0 _ _ ⟨_,_,_,_,_,_,_,_,_,⟨w4,hb4,rfl⟩,rfl⟩))
      ·go_simp;refine hK _ _ ?_;clear hK K;(try simp only[pS]);refine dN 7 fun K hK=>?_;go_simp;refine hK _ _ ?_;clear hK K;(try simp only[pS]);refine iO 8 ?_;(try simp only[pS]);refine dN 10 fun K hK=>?_;go_simp;refine hK _ _ ?_;clear hK K;(try simp only[pS]);refine wpAnyIn_done (by kernel_rfl) ?_ _;exact jg _ _ (Met.intro (hJ0 _ _ ⟨_,_,_,_,_,_,_,_,_,⟨w4,hb4,rfl⟩,rfl⟩))
     ·go_simp;refine hK _ _ ?_;clear hK K;(try simp only[pS]);refine lu 6 9 (fun K hK=>?_) fun K hK=>?_
      ·go_simp;refine hK _ _ ?_;clear hK K;(try simp only[pS]);refine iO 8 ?_;(try simp only[pS]);refine dN 9 fun K hK=>?_;go_simp;refine hK _ _ ?_;clear hK K;(try simp only[pS]);refine dN 10 fun K hK=>?_;go_simp;refine hK _ _ ?_;clear hK K;(try simp only[pS]);refine wpAnyIn_done (by kernel_rfl) ?_ _;exact jg _ _ (Met.intro (hJ0 _ _ ⟨_,_,_,_,_,_,_,_,_,⟨w4,hb4,rfl⟩,rfl⟩))
      ·go_simp;refine hK _ _ ?_;clear hK K;(try simp only[pS]);refine dN 6 fun K hK=>?_;go_simp;refine hK _ _ ?_;clear hK K;(try simp only[pS]);refine iO 8 ?_;(try simp only[pS]);refine dN 10 fun K hK=>?_;go_simp;refine hK _ _ ?_;clear hK K;(try simp only[pS]);refine wpAnyIn_done (by kernel_rfl) ?_ _;exact jg _ _ (Met.intro (hJ0 _ _ ⟨_,_,_,_,_,_,_,_,_,⟨w4,hb4,rfl⟩,rfl⟩))
     ·go_simp;refine hK _ _ ?_;clear hK K;(try simp only[pS]);refine lu 6 7 (fun K hK=>?_) fun K hK=>?_
      ·go_simp;refine hK _ _ ?_;clear hK K;(try simp only[pS]);refine dN 7 fun K hK=>?_;go_simp;refine hK _ _ ?_;clear hK K;(try simp only[pS]);refine iO 8 ?_;(try simp only[pS]);refine dN 10 fun K hK=>?_;go_simp;refine hK _ _ ?_;clear hK K;(try simp only[pS]);refine wpAnyIn_done (by kernel_rfl) ?_ _;exact jg _ _ (Met.intro (hJ0 _ _ ⟨_,_,_,_,_,_,_,_,_,⟨w4,hb4,rfl⟩,rfl⟩))
      ·go_simp;refine hK _ _ ?_;clear hK K;(try simp only[pS]);refine dN 6 fun K hK=>?_;go_simp;refine hK _ _ ?_;clear hK K;(try simp only[pS]);refine iO 8 ?_;(try simp only[pS]);refine dN 10 fun K hK=>?_;go_simp;refine hK _ _ ?_;clear hK K;(try simp only[pS]);refine wpAnyIn_done (by kernel_rfl) ?_ _;exact jg _ _ (Met.intro (hJ0 _ _ ⟨_,_,_,_,_,_,_,_,_,⟨w4,hb4,rfl⟩,rfl⟩))
    ·go_simp;refine hK _ _ ?_;clear hK K;(try simp only[pS]);refine lu 0 7 (fun K hK=>?_) fun K hK=>?_
     ·go_simp;refine hK _ _ ?_;clear hK K;(try simp only[pS]);refine lu 7 9 (fun K hK=>?_) fun K hK=>?_
      ·go_simp;refine hK _ _ ?_;clear hK K;(try simp only[pS]);refine iO 8 ?_;(try simp only[pS]);refine dN 9 fun K hK=>?_;go_simp;refine hK _ _ ?_;clear hK K;(try simp only[pS]);refine dN 10 fun K hK=>?_;go_simp;refine hK _ _ ?_;clear hK K;(try simp only[pS]);refine wpAnyIn_done (by kernel_rfl) ?_ _;exact jg _ _ (Met.intro (hJ0 _ _ ⟨_,_,_,_,_,_,_,_,_,⟨w4,hb4,rfl⟩,rfl⟩))
      ·go_simp;refine hK _ _ ?_;clear hK K;(try simp only[pS]);refine dN 7 fun K hK=>?_;go_simp;refine hK _ _ ?_;clear hK K;(try simp only[pS]);refine iO 8 ?_;(try simp only[pS]);refine dN 10 fun K hK=>?_;go_simp;refine hK _ _ ?_;clear hK K;(try simp only[pS]);refine wpAnyIn_done (by kernel_rfl) ?_ _;exact jg _ _ (Met.intro (hJ0 _ _ ⟨_,_,_,_,_,_,_,_,_,⟨w4,hb4,rfl⟩,rfl⟩))
     ·go_simp;refine hK _ _ ?_;clear hK K;(try simp only[pS]);refine iO 8 ?_;(try simp only[pS]);refine dN 0 fun K hK=>?_;go_simp;refine hK _ _ ?_;clear hK K;(try simp only[pS]);refine dN 9 fun K hK=>?_;go_simp;refine hK _ _ ?_;clear hK K;(try simp only[pS]);refine dN 10 fun K hK=>?_;go_simp;refine hK _ _ ?_;clear hK K;(try simp only[pS]);refine wpAnyIn_done (by kernel_rfl) ?_ _;exact jg _ _ (Met.intro (hJ0 _ _ ⟨_,_,_,_,_,_,_,_,_,⟨w4,hb4,rfl⟩,rfl⟩))
    ·go_simp;refine hK _ _ ?_;clear hK K;(try simp only[pS]);refine lu 0 6 (fun K hK=>?_) fun K hK=>?_
     ·go_simp;refine hK _ _ ?_;clear hK K;(try simp only[pS]);refine lu 6 9 (fun K hK=>?_) fun K hK=>?_
      ·go_simp;refine hK _ _ ?_;clear hK K;(try simp only[pS]);refine iO 8 ?_;(try simp only[pS]);refine dN 9 fun K hK=>?_;go_simp;refine hK _ _ ?_;clear hK K;(try simp only[pS]);refine dN 10 fun K hK=>?_;go_simp;refine hK _ _ ?_;clear hK K;(try simp only[pS]);refine wpAnyIn_done (by kernel_rfl) ?_ _;exact jg _ _ (Met.intro (hJ0 _ _ ⟨_,_,_,_,_,_,_,_,_,⟨w4,hb4,rfl⟩,rfl⟩))
      ·go_simp;refine hK _ _ ?_;clear hK K;(try simp only[pS]);refine dN 6 fun K hK=>?_;go_simp;refine hK _ _ ?_;clear hK K;(try simp only[pS]);refine iO 8 ?_;(try simp only[pS]);refine dN 10 fun K hK=>?_;go_simp;refine hK _ _ ?_;clear hK K;(try simp only[pS]);refine wpAnyIn_done (by kernel_rfl) ?_ _;exact jg _ _ (Met.intro (hJ0 _ _ ⟨_,_,_,_,_,_,_,_,_,⟨w4,hb4,rfl⟩,rfl⟩))
     ·go_simp;refine hK _ _ ?_;clear hK K;(try simp only[pS]);refine iO 8 ?_;(try simp only[pS]);refine dN 0 fun K hK=>?_;go_simp;refine hK _ _ ?_;clear hK K;(try simp only[pS]);refine dN 9 fun K hK=>?_;go_simp;refine hK _ _ ?_;clear hK K;(try simp only[pS]);refine dN 10 fun K hK=>?_;go_simp;refine hK _ _ ?_;clear hK K;(try simp only[pS]);refine wpAnyIn_done (by kernel_rfl) ?_ _;exact jg _ _ (Met.intro (hJ0 _ _ ⟨_,_,_,_,_,_,_,_,_,⟨w4,hb4,rfl⟩,rfl⟩))
   case k01=>
    rintro w4 g4 o4 ⟨hb4,k6,hg4⟩;obtain⟨q2',q3',ZM,ZN,f2',f3'⟩:=YB.out w4 hb4;have ZO:(w4.setCell ⟨w.heap.size+1+1,0,none⟩ (.int .i64 (KN:Nat))).cell? ⟨g4,o4+6,none⟩=some (.int .i64 KL):=by rw[sW (heap_setCell_other w4 ⟨w.heap.size+1+1,0,none⟩ g4 _ hg4)];exact k6
    show wpAnyIn _ _ _ _ _ _ _ _ _ _;refine iO 4 ?_;(try simp only[pS]);refine iO 5 ?_;(try simp only[pS]);refine lu 0 6 (fun K hK=>?_) fun K hK=>?_
    ·go_simp;refine hK _ _ ?_;clear hK K;(try simp only[pS]);refine lu 6 9 (fun K hK=>?_) fun K hK=>?_
     ·go_simp;refine hK _ _ ?_;clear hK K;(try simp only[pS]);refine iO 8 ?_;(try simp only[pS]);refine dN 9 fun K hK=>?_;go_simp;refine hK _ _ ?_;clear hK K;(try simp only[pS]);refine dN 10 fun K hK=>?_;go_simp;refine hK _ _ ?_;clear hK K;(try simp only[pS]);refine wpAnyIn_done (by kernel_rfl) ?_ _;exact jg _ _ (Met.intro (hJ0 _ _ ⟨_,_,_,_,_,_,_,_,_,⟨w4,hb4,rfl⟩,rfl⟩))
     ·go_simp;refine hK _ _ ?_;clear hK K;(try simp only[pS]);refine dN 6 fun K hK=>?_;go_simp;refine hK _ _ ?_;clear hK K;(try simp only[pS]);refine iO 8 ?_;(try simp only[pS]);refine dN 10 fun K hK=>?_;go_simp;refine hK _ _ ?_;clear hK K;(try simp only[pS]);refine wpAnyIn_done (by kernel_rfl) ?_ _;exact jg _ _ (Met.intro (hJ0 _ _ ⟨_,_,_,_,_,_,_,_,_,⟨w4,hb4,rfl⟩,rfl⟩))
    ·go_simp;refine hK _ _ ?_;clear hK K;(try simp only[pS]);refine iO 8 ?_;(try simp only[pS]);refine dN 0 fun K hK=>?_;go_simp;refine hK _ _ ?_;clear hK K;(try simp only[pS]);refine dN 9 fun K hK=>?_;go_simp;refine hK _ _ ?_;clear hK K;(try simp only[pS]);refine dN 10 fun K hK=>?_;go_simp;refine hK _ _ ?_;clear hK K;(try simp only[pS]);refine wpAnyIn_done (by kernel_rfl) ?_ _;exact jg _ _ (Met.intro (hJ0 _ _ ⟨_,_,_,_,_,_,_,_,_,⟨w4,hb4,rfl⟩,rfl⟩))
   case k10=>
    rintro w4 g4 o4 ⟨hb4,k6,hg4⟩;obtain⟨q2',q3',ZM,ZN,f2',f3'⟩:=YB.out w4 hb4;have ZO:(w4.setCell ⟨w.heap.size+1+1,0,none⟩ (.int .i64 (KN:Nat))).cell? ⟨g4,o4+6,none⟩=some (.int .i64 KL):=by rw[sW (heap_setCell_other w4 ⟨w.heap.size+1+1,0,none⟩ g4 _ hg4)];exact k6
    show wpAnyIn _ _ _ _ _ _ _ _ _ _;refine iO 4 ?_;(try simp only[pS]);refine iO 5 ?_;(try simp only[pS]);refine wpAnyIn_ready (rs:=[6,7,9]) (by kernel_rfl) (by simp) ?_;refine AllReadyIn.cons rfl (fun K hK=>?_) (AllReadyIn.cons rfl (fun K hK=>?_) (AllReadyIn.cons rfl (fun K hK=>?_) AllReadyIn.nil))
    ·go_simp;refine hK _ _ ?_;clear hK K;(try simp only[pS]);refine lu 7 9 (fun K hK=>?_) fun K hK=>?_
     ·go_simp;refine hK _ _ ?_;clear hK K;(try simp only[pS]);refine iO 8 ?_;(try simp only[pS]);refine dN 9 fun K hK=>?_;go_simp;refine hK _ _ ?_;clear hK K;(try simp only[pS]);refine dN 10 fun K hK=>?_;go_simp;refine hK _ _ ?_;clear hK K;(try simp only[pS]);refine wpAnyIn_done (by kernel_rfl) ?_ _;exact jg _ _ (Met.intro (hJ0 _ _ ⟨_,_,_,_,_,_,_,_,_,⟨w4,hb4,rfl⟩,rfl⟩))
     ·go_simp;refine hK _ _ ?_;clear hK K;(try simp only[pS]);refine dN 7 fun K hK=>?_;go_simp;refine hK _ _ ?_;clear hK K;(try simp only[pS]);refine iO 8 ?_;(try simp only[pS]);refine dN 10 fun K hK=>?_;go_simp;refine hK _ _ ?_;clear hK K;(try simp only[pS]);refine wpAnyIn_done (by kernel_rfl) ?_ _;exact jg _ _ (Met.intro (hJ0 _ _ ⟨_,_,_,_,_,_,_,_,_,⟨w4,hb4,rfl⟩,rfl⟩))
    ·go_simp;refine hK _ _ ?_;clear hK K;(try simp only[pS]);refine lu 6 9 (fun K hK=>?_) fun K hK=>?_
     ·go_simp;refine hK _ _ ?_;clear hK K;(try simp only[pS]);refine iO 8 ?_;(try simp only[pS]);refine dN 9 fun K hK=>?_;go_simp;refine hK _ _ ?_;clear hK K;(try simp only[pS]);refine dN 10 fun K hK=>?_;go_simp;refine hK _ _ ?_;clear hK K;(try simp only[pS]);refine wpAnyIn_done (by kernel_rfl) ?_ _;exact jg _ _ (Met.intro (hJ0 _ _ ⟨_,_,_,_,_,_,_,_,_,⟨w4,hb4,rfl⟩,rfl⟩))
     ·go_simp;refine hK _ _ ?_;clear hK K;(try simp only[pS]);refine dN 6 fun K hK=>?_;go_simp;refine hK _ _ ?_;clear hK K;(try simp only[pS]);refine iO 8 ?_;(try simp only[pS]);refine dN 10 fun K hK=>?_;go_simp;refine hK _ _ ?_;clear hK K;(try simp only[pS]);refine wpAnyIn_done (by kernel_rfl) ?_ _;exact jg _ _ (Met.intro (hJ0 _ _ ⟨_,_,_,_,_,_,_,_,_,⟨w4,hb4,rfl⟩,rfl⟩))
    ·go_simp;refine hK _ _ ?_;clear hK K;(try simp only[pS]);refine lu 6 7 (fun K hK=>?_) fun K hK=>?_
     ·go_simp;refine hK _ _ ?_;clear hK K;(try simp only[pS]);refine dN 7 fun K hK=>?_;go_simp;refine hK _ _ ?_;clear hK K;(try simp only[pS]);refine iO 8 ?_;(try simp only[pS]);refine dN 10 fun K hK=>?_;go_simp;refine hK _ _ ?_;clear hK K;(try simp only[pS]);refine wpAnyIn_done (by kernel_rfl) ?_ _;exact jg _ _ (Met.intro (hJ0 _ _ ⟨_,_,_,_,_,_,_,_,_,⟨w4,hb4,rfl⟩,rfl⟩))
     ·go_simp;refine hK _ _ ?_;clear hK K;(try simp only[pS]);refine dN 6 fun K hK=>?_;go_simp;refine hK _ _ ?_;clear hK K;(try simp only[pS]);refine iO 8 ?_;(try simp only[pS]);refine dN 10 fun K hK=>?_;go_simp;refine hK _ _ ?_;clear hK K;(try simp only[pS]);refine wpAnyIn_done (by kernel_rfl) ?_ _;exact jg _ _ (Met.intro (hJ0 _ _ ⟨_,_,_,_,_,_,_,_,_,⟨w4,hb4,rfl⟩,rfl⟩))
   case k11=>
    rintro w4 g4 o4 ⟨hb4,k6,hg4⟩;obtain⟨q2',q3',ZM,ZN,f2',f3'⟩:=YB.out w4 hb4;have ZO:(w4.setCell ⟨w.heap.size+1+1,0,none⟩ (.int .i64 (KN:Nat))).cell? ⟨g4,o4+6,none⟩=some (.int .i64 KL):=by rw[sW (heap_setCell_other w4 ⟨w.heap.size+1+1,0,none⟩ g4 _ hg4)];exact k6
    show wpAnyIn _ _ _ _ _ _ _ _ _ _;refine iO 4 ?_;(try simp only[pS]);refine iO 5 ?_;(try simp only[pS]);refine lu 6 9 (fun K hK=>?_) fun K hK=>?_
    ·go_simp;refine hK _ _ ?_;clear hK K;(try simp only[pS]);refine iO 8 ?_;(try simp only[pS]);refine dN 9 fun K hK=>?_;go_simp;refine hK _ _ ?_;clear hK K;(try simp only[pS]);refine dN 10 fun K hK=>?_;go_simp;refine hK _ _ ?_;clear hK K;(try simp only[pS]);refine wpAnyIn_done (by kernel_rfl) ?_ _;exact jg _ _ (Met.intro (hJ0 _ _ ⟨_,_,_,_,_,_,_,_,_,⟨w4,hb4,rfl⟩,rfl⟩))
    ·go_simp;refine hK _ _ ?_;clear hK K;(try simp only[pS]);refine dN 6 fun K hK=>?_;go_simp;refine hK _ _ ?_;clear hK K;(try simp only[pS]);refine iO 8 ?_;(try simp only[pS]);refine dN 10 fun K hK=>?_;go_simp;refine hK _ _ ?_;clear hK K;(try simp only[pS]);refine wpAnyIn_done (by kernel_rfl) ?_ _;exact jg _ _ (Met.intro (hJ0 _ _ ⟨_,_,_,_,_,_,_,_,_,⟨w4,hb4,rfl⟩,rfl⟩))
  case rest=>
   obtain⟨w4,hb4,hw⟩:=hcut;obtain⟨hX,hY,hC,hP,hBW⟩:=HST.out;have hb5:Below W.heap.size W w4:=(Below.drew (Below.refl _ W)).trans hb4;have bg:=((hX.below hb5 hX.lt).put 0 (.int .i64 (KN:Nat))).other (a:=⟨w.heap.size+1+1+1,0,none⟩) (by show w.heap.size+1+1≠w.heap.size+1+1+1;omega) (.bool true);have wM:=((hY.below hb5 hY.lt).other (a:=⟨w.heap.size+1+1,0,none⟩) (by show w.heap.size+1+1+1≠w.heap.size+1+1;omega) (.int .i64 (KN:Nat))).put 0 (.bool true);have hKs:=((jF hb5).trans ((KeepsOthers.setCell w4 ⟨w.heap.size+1+1,0,none⟩ (.int .i64 (KN:Nat))).trans (KeepsOthers.setCell _ ⟨w.heap.size+1+1+1,0,none⟩ (.bool true)))).same D _ hK rfl;have uO:=((hBW.trans (hb5.mono hBW.size)).setCell (p:=⟨w.heap.size+1+1,0,none⟩) (by show _≤w.heap.size+1+1;omega) (.int .i64 (KN:Nat))).setCell (p:=⟨w.heap.size+1+1+1,0,none⟩) (by show _≤w.heap.size+1+1+1;omega) (.bool true);rw[hw] at bg wM hKs uO;have c8:wc.cell? ⟨w.heap.size+1+1,0,none⟩=some (.int .i64 (KN:Nat)):=bg.cell 0;have c9:wc.cell? ⟨w.heap.size+1+1+1,0,none⟩=some (.bool true):=wM.cell 0;have hca:=cell_kept c8 (grownBy_putObj' wc D (.deferred none)) (fun r e=>by cases e;exact⟨_,hKs,rfl⟩);have hcb:=cell_kept c9 (grownBy_putObj' wc D (.deferred none)) (fun r e=>by cases e;exact⟨_,hKs,rfl⟩);have HB:=zh (uO.trans (belowK_b (w:=w) (Nat.le_refl _) wc D _ (.deferred none) (by omega) hKs rfl rfl));clear hX hY hC hP hBW bg wM uO hb5 hw hb4
   gi_wp2_with fail
   refine⟨by simp,.inl ⟨_,_,rfl,run_takeDeferred hKs,?_⟩⟩;refine⟨.tuple #[.int .i64 (KN:Nat),.bool true],?_,by rw[hKN],HB.out⟩;simp[results,Tryz.f123,go_sem,hca,hcb]
 case stop=>
  rintro D c pre W hD hsp ⟨rfl,hno⟩ hK;exact absurd hsp hno
end
end Go.Proofs.YtnbaadpgbcklaaaGreatDoor
