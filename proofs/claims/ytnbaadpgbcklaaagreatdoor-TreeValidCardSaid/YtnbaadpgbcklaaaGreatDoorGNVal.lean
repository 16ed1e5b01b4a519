/- Part of a proof about trees. -/
import Derived.Deep.RegionHeld3
import Derived.Sort.CutIn
import Derived.Test.YtnbaadpgbcklaaaGreatDoorS03
set_option linter.unusedVariables false
set_option linter.unusedSimpArgs false
set_option maxHeartbeats 1000000
set_option maxRecDepth 100000
namespace Go.Proofs.YtnbaadpgbcklaaaGreatDoor
section
open Go.RowKit Go.Shelf
attribute [local go_sem] Oper.semAt_some
theorem yU {G X:Prop} (use:X→G) (k:X):G:=use k
structure Ow (root:Int) (g:Tr.G) (av:Int→Tr.Sl) (w0:World) (h:Int) (m:Tr.GN):Prop where
 Xr:1≤m.kind
 Xt:m.kind≤4
 rooted:(m.kind == 1)=(h == root)
 acc:m.pa≠0→Tr.dG g m.pa h=true
 names:∀ W,Below w0.heap.size w0 W→Calls Tryz.prog 63 #[G7 (Tr.bU g av h m)] W fun e w'=>e=.returned (.bool true)∧Below W.heap.size W w'
 limits:∀ W,Below w0.heap.size w0 W→Calls Tryz.prog 64 #[G7 (Tr.bU g av h m)] W fun e w'=>e=.returned (.bool true)∧Below W.heap.size W w'
theorem LM (base B:Nat) (b s root:Int) (live n:Nat) (g:Tr.G) (av:Int→Tr.Sl) (fr:List Nat) (vs vf:Value) (mr:Tr.GN) (w:World) (hm:TV base w B b s vs n (Tr.raw g av) vf fr live root) (hS:Sound b s n (Tr.raw g av) fr live) (hw:Tr.WF 0 g) (hlen:∀ h,(Tr.ak g h).length≤1000000)
  (hl:live≤20000) (er:g root=some mr) (hrk:mr.kind=1) (hok:∀ h m,g h=some m→Ow root g av w h m):
  Calls Tryz.prog 14 #[.pointer (some ⟨B,0,none⟩)] w fun e w'=>e=.returned (.bool true)∧Below w.heap.size w w':=by
 have hlt:=hm.lt;refine (callsIn_wide (n:=5)).1 ?_;refine callsIn_of_wp_marks Tryz.func14 rfl trivial ?_ rfl;simp only[Tryz.ntmps14,pT,Nat.reduceAdd,Nat.reduceSub];have hri:=(bC hS (h:=root) (by rw[aI,er];rfl)).1;obtain⟨w1,hw1⟩:=eX ((w.alloc (.cells #[.pointer (some ⟨B,0,none⟩)] 29)).alloc (.cells #[.bool false] 4))
 have hz1:w1.heap.size=w.heap.size+2:=by rw[←hw1];simp
 have hb1:Below w.heap.size w w1:=by rw[←hw1];exact ((Below.refl _ w).alloc (Nat.le_refl _) _).alloc (by simp) _
 have hT1:Whole w1 w.heap.size #[.pointer (some ⟨B,0,none⟩)] 29:=by rw[←hw1];exact (Whole.new w _ _).alloc _
 have hX1:Whole w1 (w.heap.size+1) #[.bool false] 4:=by
  have:=Whole.new (w.alloc (.cells #[.pointer (some ⟨B,0,none⟩)] 29)) #[.bool false] 4;rw[World.size_alloc] at this;rw[←hw1];exact this
 have hm1:=hm.below hb1;have t0:w1.cell? ⟨w.heap.size,0,none⟩=some (.pointer (some ⟨B,0,none⟩)):=hT1.cell 0;have hlv:¬ (20000:Int)<(live:Int):=by omega
 have hdl:decide ((20000:Int)<(live:Int))=false:=decide_eq_false hlv;have hbd:Below w1.heap.size w1 w1.drew:=Below.drew (Below.refl _ w1);have hmd:=hm1.below hbd;have t0d:w1.drew.cell? ⟨w.heap.size,0,none⟩=some (.pointer (some ⟨B,0,none⟩)):=t0;obtain⟨_,_,_,_,_,r5⟩:=hmd.cells;have HT:=zh (fun W (hW:Below w1.drew.heap.size w1.drew W)=>show W.cell? ⟨w.heap.size,0,none⟩=some (.pointer (some ⟨B,0,none⟩)) from ((hT1.below hbd hT1.lt).below hW (hT1.below hbd hT1.lt).lt).cell 0);have hat:Calls Tryz.prog 59 #[.pointer (some ⟨B,0,none⟩),.int .i64 root] w1.drew fun e w'=>∃ g4 o4,e=.returned (.pointer (some ⟨g4,o4,none⟩))∧w'.cell? ⟨g4,o4,none⟩=some (.int .i64 1)∧Below w1.drew.heap.size w1.drew w':=by
  refine (iD base B b s root root live n (Tr.raw g av) fr vs vf _ hmd hS hri).mono ?_;rintro e w4 ⟨g4,o4,rfl,hnp,hb4⟩;rw[Tr.aj er] at hnp;obtain⟨k0,_⟩:=hnp.cells;exact⟨g4,o4,rfl,k0.trans (congrArg (fun z=>some (Value.int .i64 z)) hrk),hb4⟩
 have HAT:=zh hat;have Qa:=zh (fun W (hW:Below w1.drew.heap.size w1.drew W)=>IB base B b s root live n g av fr vs vf W (hmd.below hW) hS hw hlen);have Uo:=zh (And.intro hT1 (And.intro hX1 (And.intro hm1 hb1)));clear hat hT1 hX1 hm1 hb1
 gi_wp2_with fail
 try rw[hw1]
 gi_cut [26] from 5 (fun u wc=>u=.bool false∧Below w1.heap.size w1 wc)
 case first=>
  rename_i J0 K0 hJ0 jg;refine wpIn_mono (Q:=NoPanic _) ?_ NoPanic.imp;refine wpIn_region_any (by kernel_rfl) ?_;(try (change wpAnyIn _ _ _ _ _ _ _ _ _ (World.drew _)));refine dN 0 fun K hK=>?_;go_simp;refine hK _ _ ?_;clear hK K;(try simp only[pS]);refine iO 1 ?_;(try simp only[pS]);refine iO 2 ?_;(try simp only[pS]);refine dN 3 fun K hK=>?_;go_simp;refine⟨trivial,?_⟩;refine (callsIn_wide.2 (nI base B b s root live n (Tr.raw g av) fr vs vf _ hmd)).mono ?_;rintro e w3 ⟨rfl,rfl⟩;refine hK _ _ ?_;clear hK K;(try simp only[pS]);refine iO 4 ?_;(try simp only[pS]);refine iO 5 ?_;(try simp only[pS]);apply yU
  case use=>
   intro KEY;refine lu 6 7 (fun K hK=>?_) fun K hK=>?_
   ·go_simp;refine hK _ _ ?_;clear hK K;(try simp only[pS]);refine dN 7 fun K hK=>?_;go_simp;refine hK _ _ ?_;clear hK K;(try simp only[pS]);refine iO 8 ?_;(try simp only[pS]);refine iO 9 ?_;(try simp only[pS]);refine dN 10 fun K hK=>?_;go_simp;refine hK _ _ ?_;clear hK K;(try simp only[pS]);exact KEY
   ·go_simp;refine hK _ _ ?_;clear hK K;(try simp only[pS]);refine iO 8 ?_;(try simp only[pS]);refine iO 9 ?_;(try simp only[pS]);refine lu 6 10 (fun K hK=>?_) fun K hK=>?_
    ·go_simp;refine hK _ _ ?_;clear hK K;(try simp only[pS]);refine dN 10 fun K hK=>?_;go_simp;refine hK _ _ ?_;clear hK K;(try simp only[pS]);exact KEY
    ·go_simp;refine hK _ _ ?_;clear hK K;(try simp only[pS]);refine dN 6 fun K hK=>?_;go_simp;refine hK _ _ ?_;clear hK K;(try simp only[pS]);exact KEY
  case k=>
   show wpAnyIn _ _ _ _ _ _ _ _ _ _;refine dN 11 fun K hK=>?_;go_simp;refine⟨trivial,?_⟩;refine (callsIn_wide.2 HAT.out).mono ?_;rintro e w4 ⟨g4,o4,rfl,k0,hb4⟩;have t4:=HT.out w4 hb4;have Qa:=zh (Qa.out w4 hb4);refine hK _ _ ?_;clear hK K;(try simp only[pS]);refine iO 12 ?_;(try simp only[pS]);refine iO 13 ?_;(try simp only[pS]);refine dN 14 fun K hK=>?_;go_simp;refine hK _ _ ?_;clear hK K;(try simp only[pS]);refine iO 15 ?_;(try simp only[pS]);refine iO 16 ?_;(try simp only[pS]);refine iO 17 ?_;(try simp only[pS]);refine dN 18 fun K hK=>?_;go_simp;refine hK _ _ ?_;clear hK K;(try simp only[pS]);refine dN 19 fun K hK=>?_;go_simp;refine⟨trivial,?_⟩;refine (callsIn_wide.2 Qa.out).mono ?_;rintro e w5 ⟨rfl,hb5⟩;refine hK _ _ ?_;clear hK K;(try simp only[pS]);refine iO 20 ?_;(try simp only[pS]);refine iO 21 ?_;(try simp only[pS]);refine wpAnyIn_done (by kernel_rfl) ?_ _;exact jg _ _ (Met.intro (hJ0 _ _ ⟨_,_,_,_,_,_,_,_,_,_,_,_,_,_,_,_,_,_,_,_,_,_,_,_,_,_,_,_,_,_,_,_,_,_,_,_,_,_,_,_,_,_,⟨rfl,hbd.trans ((hb4.trans (hb5.mono hb4.size)).mono hbd.size)⟩,rfl⟩))
 case rest=>
  obtain⟨rfl,hbc⟩:=hcut;obtain⟨hT1,hX1,hm1,hb1⟩:=Uo.out;have YX:=hT1.below hbc hT1.lt;have Ox:=hX1.below hbc hX1.lt;have hmc:=hm1.below hbc;have hBc:=hb1.trans (hbc.mono hb1.size);have abG:w.heap.size+2≤wc.heap.size:=by have:=hbc.size;omega
  have tc:wc.cell? ⟨w.heap.size,0,none⟩=some (.pointer (some ⟨B,0,none⟩)):=YX.cell 0;have hL:=AS.made hmc;have hsz2:(wc.alloc (.cells #[.pointer (some ⟨B,0,none⟩)] 153)).heap.size=wc.heap.size+1:=by simp
  have hb2:Below wc.heap.size wc (wc.alloc (.cells #[.pointer (some ⟨B,0,none⟩)] 153)):=(Below.refl _ wc).alloc (Nat.le_refl _) _;have hseq:=Ke hS.le _ hL;clear hT1 hX1 hm1 hb1 hbc HAT Qa HT
  gi_wp2_with fail
  refine⟨trivial,(callsIn_wide.2 (BJ B wc)).mono ?_⟩;rintro e w' ⟨rfl,hw'⟩;rw[←hw'] at hL hsz2 hb2 hseq;have J6:=YX.below hb2 YX.lt;have hX2:=Ox.below hb2 Ox.lt;have hB2:=hBc.trans (hb2.mono hBc.size);have gI:=zh (And.intro hS (And.intro hm hw));clear hS hm hw hw' hb2 YX Ox hBc tc hmc
  gi_wp2_with fail
  refine wpIn_rangeFunc_ownH (w:=w') rfl (by decide) (gf:=124) (lb:=#[.pointer (some ⟨wc.heap.size,0,none⟩)]) rfl trivial (enters_of Tryz.func124 (by kernel_rfl) rfl) hseq LS.oZ (AS.pq _) (Below.refl _ _) (fun _=>rfl)
   (fun pre W=>Whole W w.heap.size #[.pointer (some ⟨B,0,none⟩)] 29∧Whole W (w.heap.size+1) #[.bool false] 4∧AS base B wc.heap.size b s vs n (Tr.raw g av) vf fr live root W∧Below w.heap.size w W)
   (fun _ _ _=>False)
   ?hI ?hIx ⟨J6,hX2,hL,hB2⟩ (fun x a' W=>∃ bx,a'={ tmps:=#[.pointer (some ⟨B,0,none⟩),.pointer (some ⟨w.heap.size,0,none⟩),.pointer (some ⟨w.heap.size+1,0,none⟩),.int .i64 x.1.1,.pointer (some ⟨bx,0,none⟩),u5,u6,u7,u8,u9,u10,u11,u12,u13,u14,u15,u16,u17,u18,u19,u20,u21,u22,u23,u24,u25,.bool false,.pointer (some ⟨B,0,none⟩),.pointer (some ⟨B,0,none⟩),.pointer (some ⟨B,0,none⟩),.func (.func 124) #[] #[.pointer (some ⟨wc.heap.size,0,none⟩)],.int .i64 x.1.1,G7 x.1.2,u33,u34,u35,u36,u37,u38,u39,u40,u41,u42,u43,u44,u45,u46],defers:=[] }∧Whole W bx (Kg x.1.2) 42) ?hAx ?assign ?body ?done ?stop
  case hI=>
   rintro pre W W' row ⟨hT,hX,h2,h3⟩ hg hr;exact⟨aF hT hg (fun r e=>(hr r e).2),aF hX hg (fun r e=>(hr r e).2),h2.others hg (fun r e=>(hr r e).2),h3.grown hg h3.size (fun r e=>by have:=(hr r e).1;omega)⟩
  case hIx=>intro c pre W W' row h _ _;exact h
  case hAx=>
   rintro x a' u W W' row ⟨bx,e,hx⟩ hg hr;exact⟨bx,e,aF hx hg (fun r e=>(hr r e).2)⟩
  case assign=>
   rintro l pre x W K ⟨hT,hX,gM,hBW⟩ hK;have xk:Below W.heap.size W (W.alloc (.cells (Kg x.1.2) 42)):=(Below.refl _ W).alloc (Nat.le_refl _) _;have HK:=zh (hK _ _ ((jF xk).from _) (fun h=>h.below xk) ⟨hT.below xk hT.lt,hX.below xk hX.lt,gM.below xk,hBW.trans (xk.mono hBW.size)⟩ ⟨W.heap.size,rfl,Whole.new W _ _⟩);clear hK hT hX gM hBW xk
   gi_wp2
   first | exact HK.out | simpa using HK.out
  case body=>
   rintro l pre x a' W hl' hrec ⟨hT,hX,gM,hBW⟩ ⟨bx,rfl,hbx⟩ rP;obtain⟨⟨h,d⟩,hmem⟩:=x;obtain⟨i,hi,hih,QG⟩:=ru.1 hmem;dsimp only at QG hih;clear hih hi;obtain⟨hS,hm,hw⟩:=gI.out;have hxi:=(bC hS (h:=h) (by rw[QG];rfl)).1;have hin:(g h).isSome:=by rw[←aI (av:=av),QG];rfl
   obtain⟨m,em⟩:=Option.isSome_iff_exists.1 hin;rw[Tr.aj em] at QG;obtain rfl:=Option.some.inj QG;have hO:=hok h m em;have HWP:=zh (FZ base B b s root h live n g av fr vs vf m W gM.tree hS hw hxi em hO.Xr hO.Xt hO.rooted hO.acc);change Whole W bx (Kg (Tr.bU g av h m)) _ at hbx;have Nb:=zh hO.names;have YV:=zh hO.limits;have t0:W.cell? ⟨w.heap.size,0,none⟩=some (.pointer (some ⟨B,0,none⟩)):=hT.cell 0;have HST:=zh (And.intro hT (And.intro hX (And.intro gM (And.intro hBW hbx))));clear hT hX gM hBW hbx hS hm hw hO
   gi_wp2_with fail
   refine⟨trivial,(CallsIn.inRound l (callsIn_wide.2 HWP.out)).mono ?_⟩;rintro e w4 ⟨rfl,hb4⟩;have hB4:Below w.heap.size w w4:=HST.out.2.2.2.1.trans (hb4.mono HST.out.2.2.2.1.size);have hx4:=HST.out.2.2.2.2.below hb4 HST.out.2.2.2.2.lt;have k0:w4.cell? ⟨bx,0,none⟩=some (.int .i64 (Tr.bU g av h m).kind):=hx4.cell 0;have k1:w4.cell? ⟨bx,1,none⟩=some (.string (Tr.bU g av h m).name):=hx4.cell 1;have k2:w4.cell? ⟨bx,2,none⟩=some (.slice (Tr.bU g av h m).av.a (Tr.bU g av h m).av.n (Tr.bU g av h m).av.c):=hx4.cell 2;have k3:w4.cell? ⟨bx,3,none⟩=some (.string (Tr.bU g av h m).data):=hx4.cell 3;have k4:w4.cell? ⟨bx,4,none⟩=some (.int .i64 (Tr.bU g av h m).pa):=hx4.cell 4;have k5:w4.cell? ⟨bx,5,none⟩=some (.int .i64 (Tr.bU g av h m).fi):=hx4.cell 5;have k6:w4.cell? ⟨bx,6,none⟩=some (.int .i64 (Tr.bU g av h m).la):=hx4.cell 6;have k7:w4.cell? ⟨bx,7,none⟩=some (.int .i64 (Tr.bU g av h m).pr):=hx4.cell 7;have k8:w4.cell? ⟨bx,8,none⟩=some (.int .i64 (Tr.bU g av h m).ne):=hx4.cell 8;obtain⟨d,hd⟩:=eX (Tr.bU g av h m)
   rw[hd] at k0 k1 k2 k3 k4 k5 k6 k7 k8 hx4 Nb YV;have YZ:=zh (Nb.out w4 hB4)
   gi_wp2_with fail
   refine⟨trivial,(CallsIn.inRound l (callsIn_wide.2 YZ.out)).mono ?_⟩;rintro e w5 ⟨rfl,hb5⟩;have Uq:=hB4.trans (hb5.mono hB4.size);have hx5:=hx4.below hb5 hx4.lt;replace k0:w5.cell? ⟨bx,0,none⟩=some (.int .i64 d.kind):=hx5.cell 0;replace k1:w5.cell? ⟨bx,1,none⟩=some (.string d.name):=hx5.cell 1;replace k2:w5.cell? ⟨bx,2,none⟩=some (.slice d.av.a d.av.n d.av.c):=hx5.cell 2;replace k3:w5.cell? ⟨bx,3,none⟩=some (.string d.data):=hx5.cell 3;replace k4:w5.cell? ⟨bx,4,none⟩=some (.int .i64 d.pa):=hx5.cell 4;replace k5:w5.cell? ⟨bx,5,none⟩=some (.int .i64 d.fi):=hx5.cell 5;replace k6:w5.cell? ⟨bx,6,none⟩=some (.int .i64 d.la):=hx5.cell 6;replace k7:w5.cell? ⟨bx,7,none⟩=some (.int .i64 d.pr):=hx5.cell 7;replace k8:w5.cell? ⟨bx,8,none⟩=some (.int .i64 d.ne):=hx5.cell 8;have HL5:=zh (YV.out w5 Uq)
   gi_wp2_with fail
   refine⟨trivial,(CallsIn.inRound l (callsIn_wide.2 HL5.out)).mono ?_⟩;rintro e w6 ⟨rfl,hb6⟩;have LQ:=hb4.trans ((hb5.trans (hb6.mono hb5.size)).mono hb4.size);obtain⟨hT,hX,gM,hBW,_⟩:=HST.out;have HF:=zh (And.intro (jF LQ) (And.intro (gM.below LQ) (And.intro (hT.below LQ hT.lt) (And.intro (hX.below LQ hX.lt) (hBW.trans (LQ.mono hBW.size))))));clear hT hX gM hBW LQ hb4 hb5 hb6 hB4 Uq hx4 hx5 HL5 YZ
   gi_wp2_with fail
   obtain⟨f1,f2,f3,f4,f5⟩:=HF.out;exact⟨f1.from _,fun _=>f2,f3,f4,f2,f5⟩
  case done=>
   rintro D xs W hD rfl ⟨hT,hX,gM,hBW⟩ hK;have c0:W.cell? ⟨w.heap.size+1,0,none⟩=some (.bool false):=hX.cell 0;have f0:=hX.free 0;have qN:=hX.put 0 (.bool true);have hKs:=(KeepsOthers.setCell W ⟨w.heap.size+1,0,none⟩ (.bool true)).same D _ hK rfl;have uO:=hBW.setCell (p:=⟨w.heap.size+1,0,none⟩) (by show _≤w.heap.size+1;omega) (.bool true);obtain⟨V,hV⟩:=eX (W.setCell ⟨w.heap.size+1,0,none⟩ (.bool true))
   rw[hV] at qN hKs uO;have c9:V.cell? ⟨w.heap.size+1,0,none⟩=some (.bool true):=qN.cell 0;have hca:=cell_kept c9 (grownBy_putObj' V D (.deferred none)) (fun r e=>by cases e;exact⟨_,hKs,rfl⟩);have HB:=zh (uO.trans (belowK_b (w:=w) (Nat.le_refl _) V D _ (.deferred none) (by omega) hKs rfl rfl));clear hT hX gM hBW qN uO
   gi_wp2_with fail
   refine⟨by simp,.inl ⟨_,_,rfl,run_takeDeferred hKs,?_⟩⟩;refine⟨.bool true,?_,rfl,HB.out⟩;simp[results,Tryz.f14,go_sem,hca]
  case stop=>
   rintro D c pre W _ _ h _;exact h.elim
end
end Go.Proofs.YtnbaadpgbcklaaaGreatDoor
