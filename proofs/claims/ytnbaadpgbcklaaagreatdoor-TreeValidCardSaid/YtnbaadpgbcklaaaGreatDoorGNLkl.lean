/- Part of a proof about trees. -/
import Derived.Test.YtnbaadpgbcklaaaGreatDoorGNAll
import Derived.Test.YtnbaadpgbcklaaaGreatDoorGNLkd
set_option linter.unusedVariables false
set_option linter.unusedSimpArgs false
set_option linter.unusedSectionVars false
set_option maxHeartbeats 1000000
set_option maxRecDepth 100000
namespace Go.Proofs.YtnbaadpgbcklaaaGreatDoor
section
open Go.RowKit Go.Shelf
attribute [local go_sem] Oper.semAt_some
structure AS (base B bb:Nat) (b s:Int) (vs:Value) (n:Nat) (R:Int→Option Tr.Nd) (vf:Value) (fr:List Nat) (live:Nat) (root:Int) (W:World):Prop where
 tree:TV base W B b s vs n R vf fr live root
 bb:Whole W bb #[.pointer (some ⟨B,0,none⟩)] 153
section
variable {base B bb n live:Nat} {b s root:Int} {vs vf:Value} {R:Int→Option Tr.Nd} {fr:List Nat} {W W':World}
theorem AS.below (H:AS base B bb b s vs n R vf fr live root W) (hb:Below W.heap.size W W'):AS base B bb b s vs n R vf fr live root W':=⟨H.tree.below hb,H.bb.below hb H.bb.lt⟩
theorem AS.others {row:Option Nat} (H:AS base B bb b s vs n R vf fr live root W) (hg:W.grownBy W' row) (hr:∀ r,row=some r→∃ o:Obj,W.heap[r]?=some o∧o.isCells=false):AS base B bb b s vs n R vf fr live root W':=⟨H.tree.others hg hr,aF H.bb hg hr⟩
theorem AS.set (H:AS base B bb b s vs n R vf fr live root W) {m:Nat} (hm:¬ aD B vs vf m) (h1:m≠bb) (i:Nat) (v:Value):AS base B bb b s vs n R vf fr live root (W.setCell ⟨m,i,none⟩ v):=
 ⟨H.tree.turns (S:=fun k=>k=m) (.aY (aK (au (Below.refl W.heap.size W) (some m)) i v) (fun j hj=>by simpa using hj.symm)) (fun k hk e=>hm (e▸hk)),H.bb.other (fun e=>h1 e.symm) _⟩
theorem AS.pq (w:World):∀ (W:World) (l:Nat) (o o':Obj),w.heap.size≤l→W.heap[l]?=some o→o.isCells=false→o.isWalk=false→AS base B bb b s vs n R vf fr live root W→AS base B bb b s vs n R vf fr live root (W.putObj l o'):=
 fun W l o o' _ hl hc _ H=>H.others (grownBy_putObj' W l o') (fun r e=>by cases e;exact⟨o,hl,hc⟩)
theorem AS.ids:Vy (AS base B bb b s vs n R vf fr live root) B bb b s vs n R where
 read W H:=⟨base,live,vf,fr,root,H.tree⟩
 below W W' hb H:=H.below hb
 box W H:=H.bb.cell 0
theorem Ke (hn:n≤100000) (w:World) (H:AS base B bb b s vs n R vf fr live root w):
  SeqStopsK Fence.wide 4 Tryz.prog 124 #[.pointer (some ⟨bb,0,none⟩)] (fun x:{x:Int×Tr.Nd // x∈gV b s R n}=>Vz x.1)
   (fun A B'=>AS base B bb b s vs n R vf fr live root A→AS base B bb b s vs n R vf fr live root B') (fun xs=>xs=(gV b s R n).attach) (fun pre=>pre <+: (gV b s R n).attach) (gV b s R n).length w:=
 fun l J Jx W hW hJ _ hY h0=>Nk _ B bb l b s vs n R J Jx W AS.ids hn hJ hY (H.below hW) h0
theorem AS.made {w:World} (H:TV base w B b s vs n R vf fr live root):AS base B w.heap.size b s vs n R vf fr live root (w.alloc (.cells #[.pointer (some ⟨B,0,none⟩)] 153)):=
 ⟨H.below ((Below.refl _ w).alloc (Nat.le_refl _) _),Whole.new w _ _⟩
end
theorem Tr.Qr {g:Tr.G} (hlen:∀ h,(Tr.ak g h).length≤1000000) (l:List Int):Tr.yu g l≤l.length*1000000:=by
 induction l with
 | nil=>exact Nat.zero_le _
 | cons a r ih=>
  have:=hlen a;show (Tr.ak g a).length+Tr.yu g r≤(r.length+1)*1000000;omega
theorem Tr.Qs (g:Tr.G) (l:List Int):Tr.Dz g l≤l.length:=List.length_filter_le _ _
theorem Fv (b s:Int) (R:Int→Option Tr.Nd) (n:Nat):(gV b s R n).length≤n:=by
 unfold gV;refine Nat.le_trans (List.length_filterMap_le _ _) ?_;rw[List.length_range];exact Nat.le_refl _
theorem Iz (b s:Int) (R:Int→Option Tr.Nd) {n:Nat} (hn:n≤100000):((gV b s R n).map (·.1)).Nodup:=by
 have:∀ k,k≤n→((gV b s R k).map (·.1)).Nodup:=by
  intro k
  induction k with
  | zero=>intro _;exact List.nodup_nil
  | succ k ih=>
   intro hk;cases e:R (Ar.hdl b s (k:Int)) with
   | none=>rw[wC e];exact ih (by omega)
   | some d=>
    rw[wD e,List.map_append];refine List.nodup_append.2 ⟨ih (by omega),by simp,?_⟩;intro x hx y hy YC;obtain⟨q,hq,rfl⟩:=List.mem_map.1 hx;obtain⟨i,hi,e1,_⟩:=ru.1 hq;simp at hy;subst hy;rw[e1] at YC;have:=uY (by omega) (by omega) YC;omega
 exact this n (Nat.le_refl _)
theorem Fw {b s:Int} {n live:Nat} {g:Tr.G} {av:Int→Tr.Sl} {fr:List Nat} (hS:Sound b s n (Tr.raw g av) fr live) (h:Int):h∈(gV b s (Tr.raw g av) n).map (·.1)↔(g h).isSome:=by
 rw[←aI (av:=av),List.mem_map];constructor
 ·rintro⟨q,hq,rfl⟩;obtain⟨_,_,_,e⟩:=ru.1 hq;rw[e];rfl
 ·intro e;obtain⟨d,ed⟩:=Option.isSome_iff_exists.1 e;obtain⟨i,h1,h2⟩:=hS.dom h e;exact⟨(h,d),ru.2 ⟨i,h1,h2.symm,ed⟩,rfl⟩
theorem Lr (B:Nat) (w:World):
  let W:=(((w.alloc (.cells #[.pointer (some ⟨B,0,none⟩)] 29)).alloc (.cells #[.bool false] 4)).alloc (.cells #[.int .i64 0] 3)).alloc (.cells #[.int .i64 0] 3)
  Whole W w.heap.size #[.pointer (some ⟨B,0,none⟩)] 29∧Whole W (w.heap.size+1) #[.bool false] 4∧Whole W (w.heap.size+1+1) #[.int .i64 0] 3∧Whole W (w.heap.size+1+1+1) #[.int .i64 0] 3:=by
 intro W;have a0:=Whole.new w #[.pointer (some ⟨B,0,none⟩)] 29;have a1:=Whole.new (w.alloc (.cells #[.pointer (some ⟨B,0,none⟩)] 29)) #[.bool false] 4;have a2:=Whole.new ((w.alloc (.cells #[.pointer (some ⟨B,0,none⟩)] 29)).alloc (.cells #[.bool false] 4)) #[.int .i64 0] 3;have a3:=Whole.new (((w.alloc (.cells #[.pointer (some ⟨B,0,none⟩)] 29)).alloc (.cells #[.bool false] 4)).alloc (.cells #[.int .i64 0] 3)) #[.int .i64 0] 3;simp only[World.size_alloc] at a1 a2 a3;exact⟨((a0.alloc _).alloc _).alloc _,(a1.alloc _).alloc _,a2.alloc _,a3⟩
theorem IB (base B:Nat) (b s root:Int) (live n:Nat) (g:Tr.G) (av:Int→Tr.Sl) (fr:List Nat) (vs vf:Value) (w:World) (hm:TV base w B b s vs n (Tr.raw g av) vf fr live root) (hS:Sound b s n (Tr.raw g av) fr live) (hw:Tr.WF 0 g) (hlen:∀ h,(Tr.ak g h).length≤1000000):
  Calls Tryz.prog 60 #[.pointer (some ⟨B,0,none⟩)] w fun e w'=>e=.returned (.bool true)∧Below w.heap.size w w':=by
 have hlt:=hm.lt;refine (callsIn_wide (n:=5)).1 ?_;refine callsIn_of_wp_marks Tryz.func60 rfl trivial ?_ rfl;simp only[Tryz.ntmps60,pT,Nat.reduceAdd,Nat.reduceSub];obtain⟨w1,hw1⟩:=eX ((((w.alloc (.cells #[.pointer (some ⟨B,0,none⟩)] 29)).alloc (.cells #[.bool false] 4)).alloc (.cells #[.int .i64 0] 3)).alloc (.cells #[.int .i64 0] 3))
 have hz1:w1.heap.size=w.heap.size+4:=by rw[←hw1];simp
 have hb1:Below w.heap.size w w1:=by
  rw[←hw1];exact ((((Below.refl _ w).alloc (Nat.le_refl _) _).alloc (by simp) _).alloc (by simp;omega) _).alloc (by simp;omega) _
 have G8:=Lr B w;rw[hw1] at G8;obtain⟨hT1,hX1,hF1,YD⟩:=G8;have z2:=hF1.free 0;have c2:w1.cell? ⟨w.heap.size+1+1,0,none⟩=some (.int .i64 0):=hF1.cell 0;have z3:=YD.free 0;have c3:w1.cell? ⟨w.heap.size+1+1+1,0,none⟩=some (.int .i64 0):=YD.cell 0;have t0:w1.cell? ⟨w.heap.size,0,none⟩=some (.pointer (some ⟨B,0,none⟩)):=hT1.cell 0
 gi_wp2_with fail
 obtain⟨wa,Bn⟩:=eX ((w1.setCell ⟨w.heap.size+1+1,0,none⟩ (.int .i64 0)).setCell ⟨w.heap.size+1+1+1,0,none⟩ (.int .i64 0))
 (try rw[Bn]);have Tx:Whole wa w.heap.size #[.pointer (some ⟨B,0,none⟩)] 29:=by rw[←Bn];exact (hT1.other (a:=⟨w.heap.size+1+1,0,none⟩) (by show w.heap.size≠w.heap.size+1+1;omega) _).other (a:=⟨w.heap.size+1+1+1,0,none⟩) (by show w.heap.size≠w.heap.size+1+1+1;omega) _
 have Qc:Whole wa (w.heap.size+1) #[.bool false] 4:=by rw[←Bn];exact (hX1.other (a:=⟨w.heap.size+1+1,0,none⟩) (by show w.heap.size+1≠w.heap.size+1+1;omega) _).other (a:=⟨w.heap.size+1+1+1,0,none⟩) (by show w.heap.size+1≠w.heap.size+1+1+1;omega) _
 have ZP:Whole wa (w.heap.size+1+1) #[.int .i64 0] 3:=by rw[←Bn];exact (hF1.put 0 (.int .i64 0)).other (a:=⟨w.heap.size+1+1+1,0,none⟩) (by show w.heap.size+1+1≠w.heap.size+1+1+1;omega) _
 have hQa:Whole wa (w.heap.size+1+1+1) #[.int .i64 0] 3:=by rw[←Bn];exact (YD.other (a:=⟨w.heap.size+1+1,0,none⟩) (by show w.heap.size+1+1+1≠w.heap.size+1+1;omega) _).put 0 (.int .i64 0)
 have hba:Below w.heap.size w wa:=by rw[←Bn];exact (hb1.setCell (p:=⟨w.heap.size+1+1,0,none⟩) (by show _≤w.heap.size+1+1;omega) _).setCell (p:=⟨w.heap.size+1+1+1,0,none⟩) (by show _≤w.heap.size+1+1+1;omega) _
 have hza:wa.heap.size=w.heap.size+4:=by rw[←Bn];simp;omega
 clear Bn hw1 hz1 hb1 hT1 hX1 hF1 YD z2 c2 z3 c3 t0;have hL:=AS.made (hm.below hba);have hsz2:(wa.alloc (.cells #[.pointer (some ⟨B,0,none⟩)] 153)).heap.size=wa.heap.size+1:=by simp
 have hb2:Below wa.heap.size wa (wa.alloc (.cells #[.pointer (some ⟨B,0,none⟩)] 153)):=(Below.refl _ wa).alloc (Nat.le_refl _) _;have hseq:=Ke hS.le _ hL;refine⟨trivial,(callsIn_wide.2 (BJ B wa)).mono ?_⟩;rintro e w' ⟨rfl,hw'⟩;rw[←hw'] at hL hsz2 hb2 hseq;have J6:=Tx.below hb2 Tx.lt;have hX2:=Qc.below hb2 Qc.lt;have hF2:=ZP.below hb2 ZP.lt;have hQ2:=hQa.below hb2 hQa.lt;have hB2:=hba.trans (hb2.mono hba.size);have gI:=zh hS;clear hm hS hw' hb2 Tx Qc ZP hQa
 gi_wp2_with fail
 rw[hza] at hseq hL hsz2;have hm2:¬ aD B vs vf (w.heap.size+1+1):=fun hk=>by have:=(hlt _ hk).2;omega
 have AJ:¬ aD B vs vf (w.heap.size+1+1+1):=fun hk=>by have:=(hlt _ hk).2;omega
 refine wpIn_rangeFunc_ownH (w:=w') rfl (by decide) (gf:=124) (lb:=#[.pointer (some ⟨w.heap.size+1+1+1+1,0,none⟩)]) rfl trivial (enters_of Tryz.func124 (by kernel_rfl) rfl) hseq LS.oZ (AS.pq _) (Below.refl _ _) (fun _=>rfl)
  (fun pre W=>Whole W w.heap.size #[.pointer (some ⟨B,0,none⟩)] 29∧Whole W (w.heap.size+1) #[.bool false] 4∧Whole W (w.heap.size+1+1) #[.int .i64 (Tr.yu g (pre.map (·.1.1)):Nat)] 3∧Whole W (w.heap.size+1+1+1) #[.int .i64 (Tr.Dz g (pre.map (·.1.1)):Nat)] 3∧AS base B (w.heap.size+1+1+1+1) b s vs n (Tr.raw g av) vf fr live root W∧Below w.heap.size w W)
  (fun _ _ _=>False)
  ?hI ?hIx ⟨J6,hX2,hF2,hQ2,hL,hB2⟩ (fun x a' W=>∃ bx,a'={ tmps:=#[.pointer (some ⟨B,0,none⟩),.pointer (some ⟨w.heap.size,0,none⟩),.pointer (some ⟨w.heap.size+1,0,none⟩),.pointer (some ⟨w.heap.size+1+1,0,none⟩),.pointer (some ⟨w.heap.size+1+1+1,0,none⟩),.int .i64 x.1.1,.pointer (some ⟨bx,0,none⟩),undef,undef,.pointer (some ⟨B,0,none⟩),.pointer (some ⟨B,0,none⟩),.pointer (some ⟨B,0,none⟩),.func (.func 124) #[] #[.pointer (some ⟨w.heap.size+1+1+1+1,0,none⟩)],.int .i64 x.1.1,G7 x.1.2,undef,undef,undef,undef,undef,undef,undef,undef,undef,undef,undef,undef,undef,undef,undef,undef,undef,undef,undef,undef,undef,undef,undef,undef,undef,undef,undef,undef,undef,undef,undef,undef,undef,undef],defers:=[] }∧Whole W bx (Kg x.1.2) 42) ?hAx ?assign ?body ?done ?stop
 case hI=>
  rintro pre W W' row ⟨hT,hX,hF,hQ,h2,h3⟩ hg hr;exact⟨aF hT hg (fun r e=>(hr r e).2),aF hX hg (fun r e=>(hr r e).2),aF hF hg (fun r e=>(hr r e).2),aF hQ hg (fun r e=>(hr r e).2),h2.others hg (fun r e=>(hr r e).2),h3.grown hg h3.size (fun r e=>by have:=(hr r e).1;omega)⟩
 case hIx=>intro c pre W W' row h _ _;exact h
 case hAx=>
  rintro x a' u W W' row ⟨bx,e,hx⟩ hg hr;exact⟨bx,e,aF hx hg (fun r e=>(hr r e).2)⟩
 case assign=>
  rintro l pre x W K ⟨hT,hX,hF,hQ,gM,hBW⟩ hK;have xk:Below W.heap.size W (W.alloc (.cells (Kg x.1.2) 42)):=(Below.refl _ W).alloc (Nat.le_refl _) _;have HK:=zh (hK _ _ ((jF xk).from _) (fun h=>h.below xk) ⟨hT.below xk hT.lt,hX.below xk hX.lt,hF.below xk hF.lt,hQ.below xk hQ.lt,gM.below xk,hBW.trans (xk.mono hBW.size)⟩ ⟨W.heap.size,rfl,Whole.new W _ _⟩);clear hK hT hX hF hQ gM hBW xk
  gi_wp2
  first | exact HK.out | simpa using HK.out
 case body=>
  rintro l pre x a' W hl hrec ⟨hT,hX,hF,hQ,gM,hBW⟩ ⟨bx,rfl,hbx⟩ rP;obtain⟨⟨h,d⟩,hmem⟩:=x;obtain⟨i,hi,hih,er⟩:=ru.1 hmem;dsimp only at er hih;clear hih hi;have hxi:=(bC gI.out (h:=h) (by rw[er];rfl)).1;have hin:(g h).isSome:=by rw[←aI (av:=av),er];rfl
  obtain⟨m,em⟩:=Option.isSome_iff_exists.1 hin;rw[Tr.aj em] at er;obtain rfl:=Option.some.inj er;have IC:Tr.yu g (pre.map (·.1.1))≤100000000000∧Tr.Dz g (pre.map (·.1.1))≤100000:=by
   have h1:=Tr.Qr hlen (pre.map (·.1.1));have h2:=Tr.Qs g (pre.map (·.1.1));have h3:=Fv b s (Tr.raw g av) n;have h4:=gI.out.le;rw[List.length_map] at h1 h2;omega
  have hkl:=hlen h;have DC:m.pa=0→(Tr.bU g av h m).pr=0∧(Tr.bU g av h m).ne=0:=fun e=>by
   unfold Tr.bU;rw[e,Tr.fD hw.zero];exact⟨rfl,rfl⟩
  have Qt:(Tr.bU g av h m).pa=m.pa:=rfl;have Qa:=zh (Lm base B b s root h live n g av fr vs vf W gM.tree gI.out hw hxi (hlen h) hin);obtain⟨d,hd⟩:=eX (Tr.bU g av h m)
  change Whole W bx (Kg (Tr.bU g av h m)) _ at hbx;rw[hd] at hbx DC Qt;have hK1':=Tr.Ls g (pre.map (·.1.1)) h;have IE:=Tr.Lu g (pre.map (·.1.1)) h;rw[Tr.aM em] at IE;have t0:W.cell? ⟨w.heap.size,0,none⟩=some (.pointer (some ⟨B,0,none⟩)):=hT.cell 0;have HST:=zh (And.intro hT (And.intro hX (And.intro hF (And.intro hQ (And.intro gM (And.intro hBW hbx))))));have hne2:bx≠w.heap.size+1+1:=hbx.unlike hF (by decide);have abw:bx≠w.heap.size+1+1+1:=hbx.unlike hQ (by decide);have hmap:(pre++[(⟨(h,Tr.bU g av h m),hmem⟩:{x:Int×Tr.Nd // x∈gV b s (Tr.raw g av) n})]).map (fun y:{x:Int×Tr.Nd // x∈gV b s (Tr.raw g av) n}=>y.1.1)=pre.map (fun y=>y.1.1)++[h]:=by rw[List.map_append];rfl
  obtain⟨CK,WG⟩:=eX (Tr.yu g (pre.map (fun y=>y.1.1)))
  obtain⟨CP,YE⟩:=eX (Tr.Dz g (pre.map (fun y=>y.1.1)))
  obtain⟨KN,hKN⟩:=eX ((Tr.ak g h).length)
  rw[WG,YE] at IC;rw[hKN] at hkl Qa;rw[WG,hKN] at hK1';rw[YE] at IE;clear hT hX hF hQ gM hBW hbx
  gi_wp2_with fail
  refine⟨trivial,(CallsIn.inRound l (callsIn_wide.2 Qa.out)).mono ?_⟩;rintro e w4 ⟨rfl,hb4⟩;obtain⟨hT,hX,hF,hQ,gM,hBW,hbx⟩:=HST.out;have wh:=hT.below hb4 hT.lt;have bg:=hX.below hb4 hX.lt;have Lf:=hF.below hb4 hF.lt;have Vg:=hQ.below hb4 hQ.lt;have hL4:=gM.below hb4;have hB4:=hBW.trans (hb4.mono hBW.size);have hx4:=hbx.below hb4 hbx.lt;have k4:w4.cell? ⟨bx,4,none⟩=some (.int .i64 d.pa):=hx4.cell 4;have k7:w4.cell? ⟨bx,7,none⟩=some (.int .i64 d.pr):=hx4.cell 7;have k8:w4.cell? ⟨bx,8,none⟩=some (.int .i64 d.ne):=hx4.cell 8;have q2:w4.cell? ⟨w.heap.size+1+1,0,none⟩=some (.int .i64 (CK:Nat)):=by rw[←WG];exact Lf.cell 0
  have q3:w4.cell? ⟨w.heap.size+1+1+1,0,none⟩=some (.int .i64 (CP:Nat)):=by rw[←YE];exact Vg.cell 0
  have f2:=Lf.free 0;have f3:=Vg.free 0;have hko:=jF hb4;rw[Qt] at k4;clear hT hX hF hQ gM hBW hbx HST Qa;by_cases hpa:m.pa=0
  ·obtain⟨h7,h8⟩:=DC hpa;rw[h7] at k7;rw[h8] at k8;rw[hpa] at k4;rw[if_neg (by simp[hpa])] at IE;have HF:=zh (And.intro (wh.other (a:=⟨w.heap.size+1+1,0,none⟩) (by show w.heap.size≠w.heap.size+1+1;omega) (.int .i64 ((CK:Int)+(KN:Int)))) (And.intro (bg.other (a:=⟨w.heap.size+1+1,0,none⟩) (by show w.heap.size+1≠w.heap.size+1+1;omega) (.int .i64 ((CK:Int)+(KN:Int)))) (And.intro (Lf.put 0 (.int .i64 ((CK:Int)+(KN:Int)))) (And.intro (Vg.other (a:=⟨w.heap.size+1+1,0,none⟩) (by show w.heap.size+1+1+1≠w.heap.size+1+1;omega) (.int .i64 ((CK:Int)+(KN:Int)))) (And.intro (hL4.set hm2 (by omega) 0 (.int .i64 ((CK:Int)+(KN:Int)))) (hB4.setCell (p:=⟨w.heap.size+1+1,0,none⟩) (by show _≤w.heap.size+1+1;omega) (.int .i64 ((CK:Int)+(KN:Int)))))))));clear wh bg Lf Vg hL4 hB4 hx4 DC Qt h7 h8 hpa
   gi_wp2_with fail
   refine⟨(hko.trans (KeepsOthers.setCell _ _ _)).from _,fun _=>HF.out.2.2.2.2.1,?_⟩;show _∧_;rw[hmap,hK1',IE,Nat.add_zero];have HH:=HF.out;rw[←YE] at IE ⊢;exact HH
  ·have hq1:(m.pa == 0)=false:=by simpa using hpa
   have hq2:(m.pa != 0)=true:=by simpa using hpa
   rw[if_pos hpa] at IE;have HF:=zh (And.intro ((wh.other (a:=⟨w.heap.size+1+1,0,none⟩) (by show w.heap.size≠w.heap.size+1+1;omega) (.int .i64 ((CK:Int)+(KN:Int)))).other (a:=⟨w.heap.size+1+1+1,0,none⟩) (by show w.heap.size≠w.heap.size+1+1+1;omega) (.int .i64 ((CP:Int)+1))) (And.intro ((bg.other (a:=⟨w.heap.size+1+1,0,none⟩) (by show w.heap.size+1≠w.heap.size+1+1;omega) (.int .i64 ((CK:Int)+(KN:Int)))).other (a:=⟨w.heap.size+1+1+1,0,none⟩) (by show w.heap.size+1≠w.heap.size+1+1+1;omega) (.int .i64 ((CP:Int)+1))) (And.intro ((Lf.put 0 (.int .i64 ((CK:Int)+(KN:Int)))).other (a:=⟨w.heap.size+1+1+1,0,none⟩) (by show w.heap.size+1+1≠w.heap.size+1+1+1;omega) (.int .i64 ((CP:Int)+1))) (And.intro ((Vg.other (a:=⟨w.heap.size+1+1,0,none⟩) (by show w.heap.size+1+1+1≠w.heap.size+1+1;omega) (.int .i64 ((CK:Int)+(KN:Int)))).put 0 (.int .i64 ((CP:Int)+1))) (And.intro ((hL4.set hm2 (by omega) 0 (.int .i64 ((CK:Int)+(KN:Int)))).set AJ (by omega) 0 (.int .i64 ((CP:Int)+1))) ((hB4.setCell (p:=⟨w.heap.size+1+1,0,none⟩) (by show _≤w.heap.size+1+1;omega) (.int .i64 ((CK:Int)+(KN:Int)))).setCell (p:=⟨w.heap.size+1+1+1,0,none⟩) (by show _≤w.heap.size+1+1+1;omega) (.int .i64 ((CP:Int)+1))))))));clear wh bg Lf Vg hL4 hB4 hx4 DC Qt hpa
   gi_wp2_with fail
   refine⟨((hko.trans (KeepsOthers.setCell _ _ _)).trans (KeepsOthers.setCell _ _ _)).from _,fun _=>HF.out.2.2.2.2.1,?_⟩;show _∧_;rw[hmap,hK1',IE];exact HF.out
 case done=>
  rintro D xs W hD rfl ⟨hT,hX,hF,hQ,gM,hBW⟩ hK;have WH:(gV b s (Tr.raw g av) n).attach.map (fun y:{x:Int×Tr.Nd // x∈gV b s (Tr.raw g av) n}=>y.1.1)=(gV b s (Tr.raw g av) n).map (·.1):=by
   have:=congrArg (List.map (fun y:Int×Tr.Nd=>y.1)) (List.attach_map_subtype_val (gV b s (Tr.raw g av) n));rw[List.map_map] at this;exact this
  rw[WH] at hF hQ;rw[←Tr.TA hw (Iz b s (Tr.raw g av) gI.out.le) (Fw gI.out)] at hQ;obtain⟨CK,WG⟩:=eX (Tr.yu g ((gV b s (Tr.raw g av) n).map (·.1)))
  rw[WG] at hF hQ;have q2:W.cell? ⟨w.heap.size+1+1,0,none⟩=some (.int .i64 (CK:Nat)):=hF.cell 0;have q3:W.cell? ⟨w.heap.size+1+1+1,0,none⟩=some (.int .i64 (CK:Nat)):=hQ.cell 0;have c0:W.cell? ⟨w.heap.size+1,0,none⟩=some (.bool false):=hX.cell 0;have f0:=hX.free 0;have qN:=hX.put 0 (.bool true);have hKs:=(KeepsOthers.setCell W ⟨w.heap.size+1,0,none⟩ (.bool true)).same D _ hK rfl;have uO:=hBW.setCell (p:=⟨w.heap.size+1,0,none⟩) (by show _≤w.heap.size+1;omega) (.bool true);obtain⟨V,hV⟩:=eX (W.setCell ⟨w.heap.size+1,0,none⟩ (.bool true))
  rw[hV] at qN hKs uO;have c9:V.cell? ⟨w.heap.size+1,0,none⟩=some (.bool true):=qN.cell 0;have hca:=cell_kept c9 (grownBy_putObj' V D (.deferred none)) (fun r e=>by cases e;exact⟨_,hKs,rfl⟩);have HB:=zh (uO.trans (belowK_b (w:=w) (Nat.le_refl _) V D _ (.deferred none) (by omega) hKs rfl rfl));have hqq:((CK:Int) == (CK:Int))=true:=by simp
  clear hT hX hF hQ gM hBW qN uO
  gi_wp2_with fail
  refine⟨by simp,.inl ⟨_,_,rfl,run_takeDeferred hKs,?_⟩⟩;refine⟨.bool true,?_,rfl,HB.out⟩;simp[results,Tryz.f60,go_sem,hca]
 case stop=>
  rintro D c pre W _ _ h _;exact h.elim
end
end Go.Proofs.YtnbaadpgbcklaaaGreatDoor
