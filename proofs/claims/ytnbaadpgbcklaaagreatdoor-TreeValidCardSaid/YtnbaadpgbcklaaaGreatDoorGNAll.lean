/- Part of a proof about trees. -/
import Derived.Test.YtnbaadpgbcklaaaGreatDoorS01
set_option linter.unusedVariables false
set_option linter.unusedSimpArgs false
set_option maxHeartbeats 4000000
set_option maxRecDepth 100000
namespace Go.Proofs.YtnbaadpgbcklaaaGreatDoor
section
open Go.RowKit Go.Shelf
attribute [local go_sem] Oper.semAt_some
def gV (b s:Int) (R:Int→Option Tr.Nd) (k:Nat):List (Int×Tr.Nd):=(List.range k).filterMap fun i:Nat=>(R (Ar.hdl b s (i:Int))).map fun d=>(Ar.hdl b s (i:Int),d)
theorem wC {b s:Int} {R:Int→Option Tr.Nd} {k:Nat} (h:R (Ar.hdl b s (k:Int))=none):gV b s R (k+1)=gV b s R k:=by
 unfold gV;rw[List.range_succ,List.filterMap_append];simp[h]
theorem wD {b s:Int} {R:Int→Option Tr.Nd} {k:Nat} {d:Tr.Nd} (h:R (Ar.hdl b s (k:Int))=some d):gV b s R (k+1)=gV b s R k++[(Ar.hdl b s (k:Int),d)]:=by
 unfold gV;rw[List.range_succ,List.filterMap_append];simp[h]
theorem EF (b s:Int) (R:Int→Option Tr.Nd) {k n:Nat} (h:k≤n):gV b s R k <+: gV b s R n:=by
 obtain⟨m,rfl⟩:=Nat.exists_eq_add_of_le h
 induction m with
 | zero=>exact List.prefix_refl _
 | succ m ih=>
  refine (ih (by omega)).trans ?_;show gV b s R (k+m) <+: gV b s R (k+m+1);cases e:R (Ar.hdl b s ((k+m:Nat):Int)) with
  | none=>rw[wC e];exact List.prefix_refl _
  | some d=>rw[wD e];exact⟨_,rfl⟩
theorem ru {b s:Int} {R:Int→Option Tr.Nd} {k:Nat} {x:Int×Tr.Nd}:x∈gV b s R k↔∃ i:Nat,i<k∧x.1=Ar.hdl b s (i:Int)∧R x.1=some x.2:=by
 unfold gV;rw[List.mem_filterMap];constructor
 ·rintro⟨i,hi,e⟩;cases e1:R (Ar.hdl b s (i:Int)) with
  | none=>rw[e1] at e;cases e
  | some d=>
   rw[e1] at e;obtain rfl:=(Option.some.inj e).symm;exact⟨i,List.mem_range.1 hi,rfl,e1⟩
 ·rintro⟨i,hi,e1,e2⟩;exact⟨i,List.mem_range.2 hi,by rw[←e1,e2];rfl⟩
theorem EH {α:Type} {L A:List α} {x:α} {pre rest:List {x:α // x∈L}} (hat:L.attach=pre++rest) (hA:pre.map (·.1)=A) (hp:A++[x] <+: L):∃ y rest',rest=y::rest'∧y.1=x:=by
 have h:=congrArg (List.map (·.1)) hat;rw[List.map_append,List.attach_map_subtype_val,hA] at h;obtain⟨t,ht⟩:=hp;rw[h,List.append_assoc] at ht;have h2:=List.append_cancel_left ht;cases rest with
 | nil=>cases h2
 | cons y r=>injection h2 with h3 _;exact⟨y,r,rfl,h3.symm⟩
theorem H7 {α:Type} {L:List α} {pre rest:List {x:α // x∈L}} (hat:L.attach=pre++rest) (hA:pre.map (·.1)=L):pre=L.attach:=by
 have h:=congrArg List.length hat;have h2:=congrArg List.length hA;rw[List.length_attach,List.length_append] at h;rw[List.length_map] at h2;have:rest=[]:=List.eq_nil_of_length_eq_zero (by omega);rw[hat,this,List.append_nil]
theorem BJ (B:Nat) (w:World):
  Calls Tryz.prog 61 #[.pointer (some ⟨B,0,none⟩)] w fun e w'=>
   e=.returned (.func (.func 124) #[] #[.pointer (some ⟨w.heap.size,0,none⟩)])∧w'=w.alloc (.cells #[.pointer (some ⟨B,0,none⟩)] 153):=by
 go_enter Tryz.func61,Tryz.ntmps61
 go_wp2_with fail
 go_ret
 exact⟨rfl,rfl⟩
structure Vy (KI:World→Prop) (B Bs:Nat) (b s:Int) (vs:Value) (n:Nat) (R:Int→Option Tr.Nd):Prop where
 read:∀ W,KI W→∃ (base live:Nat) (vf:Value) (fr:List Nat) (root:Int),TV base W B b s vs n R vf fr live root
 below:∀ W W',Below W.heap.size W W'→KI W→KI W'
 box:∀ W,KI W→W.cell? ⟨Bs,0,none⟩=some (.pointer (some ⟨B,0,none⟩))
abbrev Vz (x:Int×Tr.Nd):Array Value:=#[.int .i64 x.1,G7 x.2]
theorem Nk (KI:World→Prop) (B Bs lp:Nat) (b s:Int) (vs:Value) (n:Nat) (R:Int→Option Tr.Nd) (J Jx:List {x:Int×Tr.Nd // x∈gV b s R n}→World→Prop) (W:World) (hK:Vy KI B Bs b s vs n R) (hn:n≤100000)
  (hJ:AbidesFrom W.heap.size J)
  (hY:∀ pre x W1,J pre W1→pre.length<(gV b s R n).length→YieldAt Fence.wide (4 - 1) Tryz.prog lp (Vz x.1) W1 fun e W'=>(e=.returned (.bool true)∧J (pre++[x]) W'∧(KI W1→KI W'))∨(e=.returned (.bool false)∧Jx (pre++[x]) W'))
  (hKW:KI W) (h0:J [] W):
  CallsIn Fence.wide 4 Tryz.prog 124 #[.func (.yield lp) #[] #[],.pointer (some ⟨Bs,0,none⟩)] W fun e W'=>(∃ v,e=.returned v)∧
   ((∃ xs,xs=(gV b s R n).attach∧J xs W')∨(∃ pre,pre <+: (gV b s R n).attach∧Jx pre W')):=by
 obtain⟨base0,abm,vf0,fr0,abn,hT0⟩:=hK.read W hKW;obtain⟨A,c,A0,c0',rfl,rfl⟩:=hT0.slices;have hcell:=hK.box W hKW;obtain⟨_,_,k2,_,_⟩:=hT0.cells;refine callsIn_of_wp Tryz.func124 rfl trivial ?_ rfl;simp only[Tryz.ntmps124,pT,Nat.reduceAdd,Nat.reduceSub];clear hT0
 gi_wp2
 gi_loopw [10] (fun i wr=>∃ (k:Nat) (pre rest:List {x:Int×Tr.Nd // x∈gV b s R n}),i=.int .i64 k∧k≤n∧(gV b s R n).attach=pre++rest∧pre.map (·.1)=gV b s R k∧KI wr∧J pre wr) (fun i _=>n - (intOf i).toNat)
 case atStart=>exact⟨0,[],_,rfl,Nat.zero_le _,rfl,rfl,hKW,h0⟩
 case round=>
  obtain⟨k,pre,rest,rfl,hk,hat,hpm,hKr,hJs⟩:=hrel;have jb:∀ p (w1 w2:World),J p w1→Below w1.heap.size w1 w2→J p w2:=fun p w1 w2 h hb=>hJ p w1 w2 none h (au hb none) (fun r e=>by cases e);obtain⟨base,live,vf,fr,root,hT⟩:=hK.read wr hKr;have c0:=hK.box wr hKr;obtain⟨c1,c2,_,_,_⟩:=hT.cells;by_cases hlt:k<n
  ·obtain⟨g,rfl,hgB,hgl,rz⟩:=hT.slot (by omega);have hki:lQ (k:Int):=by unfold lQ;omega
   have t0:=(rz k 0 hlt (by omega)).1;have t1:=(rz k 1 hlt (by omega)).1;have t2:=(rz k 2 hlt (by omega)).1;have t3:=(rz k 3 hlt (by omega)).1;have t4:=(rz k 4 hlt (by omega)).1;have t5:=(rz k 5 hlt (by omega)).1;have t6:=(rz k 6 hlt (by omega)).1;have t7:=(rz k 7 hlt (by omega)).1;have t8:=(rz k 8 hlt (by omega)).1;have t9:=(rz k 9 hlt (by omega)).1;have hB2:B<wr.heap.size:=World.block_lt_of_cell? wr _ c1;have abt:Bs<wr.heap.size:=World.block_lt_of_cell? wr _ c0;obtain⟨o,ho⟩:=eX (R (Ar.hdl b s (k:Int)))
   rw[ho] at t0 t1 t2 t3 t4 t5 t6 t7 t8 t9;have HO:=zh ho;clear ho rz k2 hcell hT;cases o with
   | none=>
    clear hY;replace t0:wr.cell? ⟨g,k*10,none⟩=some (.bool false):=t0;replace t1:wr.cell? ⟨g,k*10+1,none⟩=some (.int .i64 0):=t1;replace t2:wr.cell? ⟨g,k*10+2,none⟩=some (.string ⟨#[]⟩):=t2;replace t3:wr.cell? ⟨g,k*10+3,none⟩=some (.slice none 0 0):=t3;replace t4:wr.cell? ⟨g,k*10+4,none⟩=some (.string ⟨#[]⟩):=t4;replace t5:wr.cell? ⟨g,k*10+5,none⟩=some (.int .i64 0):=t5;replace t6:wr.cell? ⟨g,k*10+6,none⟩=some (.int .i64 0):=t6;replace t7:wr.cell? ⟨g,k*10+7,none⟩=some (.int .i64 0):=t7;replace t8:wr.cell? ⟨g,k*10+8,none⟩=some (.int .i64 0):=t8;replace t9:wr.cell? ⟨g,k*10+9,none⟩=some (.int .i64 0):=t9
    gi_wp2_with fail
    refine wpIn_region_any (by kernel_rfl) ?_;(try (change wpAnyIn _ _ _ _ _ _ _ _ _ (World.drew _)));refine iO 0 ?_;(try simp only[pS]);refine dN 1 fun K hK=>?_;go_simp;refine hK _ _ ?_;clear hK K;(try simp only[pS]);refine iO 2 ?_;(try simp only[pS]);refine wpAnyIn_take (i:=3) (v:=undef) rfl rfl (by kernel_rfl) (by kernel_rfl) (by kernel_rfl) (fun _ _ _ h=>h) ⟨Or.inr ⟨by kernel_rfl,rfl⟩,fun _=>rfl⟩ ?_;(try simp only[pS]);refine wpAnyIn_take (i:=4) (v:=undef) rfl rfl (by kernel_rfl) (by kernel_rfl) (by kernel_rfl) (fun _ _ _ h=>h) ⟨Or.inr ⟨by kernel_rfl,rfl⟩,fun _=>rfl⟩ ?_;(try simp only[pS]);refine wpAnyIn_take (i:=5) (v:=undef) rfl rfl (by kernel_rfl) (by kernel_rfl) (by kernel_rfl) (fun _ _ _ h=>h) ⟨Or.inr ⟨by kernel_rfl,rfl⟩,fun _=>rfl⟩ ?_;(try simp only[pS]);refine wpAnyIn_take (i:=6) (v:=undef) rfl rfl (by kernel_rfl) (by kernel_rfl) (by kernel_rfl) (fun _ _ _ h=>h) ⟨Or.inr ⟨by kernel_rfl,rfl⟩,fun _=>rfl⟩ ?_;(try simp only[pS]);refine wpAnyIn_take (i:=7) (v:=undef) rfl rfl (by kernel_rfl) (by kernel_rfl) (by kernel_rfl) (fun _ _ _ h=>h) ⟨Or.inr ⟨by kernel_rfl,rfl⟩,fun _=>rfl⟩ ?_;(try simp only[pS]);refine wpAnyIn_take (i:=8) (v:=undef) rfl rfl (by kernel_rfl) (by kernel_rfl) (by kernel_rfl) (fun _ _ _ h=>h) ⟨Or.inr ⟨by kernel_rfl,rfl⟩,fun _=>rfl⟩ ?_;(try simp only[pS]);refine wpAnyIn_take (i:=10) (v:=undef) rfl rfl (by kernel_rfl) (by kernel_rfl) (by kernel_rfl) (fun _ _ _ h=>h) ⟨Or.inr ⟨by kernel_rfl,rfl⟩,fun _=>rfl⟩ ?_;(try simp only[pS]);refine wpAnyIn_take (i:=11) (v:=undef) rfl rfl (by kernel_rfl) (by kernel_rfl) (by kernel_rfl) (fun _ _ _ h=>h) ⟨Or.inr ⟨by kernel_rfl,rfl⟩,fun _=>rfl⟩ ?_;(try simp only[pS]);refine dN 9 fun K hK=>?_;go_simp;refine And.intro (by first | exact trivial | (intros;exact trivial)) ?_;refine hK _ _ ?_;clear hK K;(try simp only[pS]);refine dN 12 fun K hK=>?_;go_simp;refine And.intro (by first | exact trivial | (intros;exact trivial)) ?_;refine hK _ _ ?_;clear hK K;(try simp only[pS]);refine wpAnyIn_take (i:=13) (v:=undef) rfl rfl (by kernel_rfl) (by kernel_rfl) (by kernel_rfl) (fun _ _ _ h=>h) ⟨Or.inr ⟨by kernel_rfl,rfl⟩,fun _=>rfl⟩ ?_;(try simp only[pS]);refine iO 14 ?_;(try simp only[pS]);refine wpAnyIn_done (by kernel_rfl) ?_ _;have hb4:Below wr.heap.size wr (wr.alloc (.cells #[.bool false,.int .i64 0,.string ⟨#[]⟩,.slice none 0 0,.string ⟨#[]⟩,.int .i64 0,.int .i64 0,.int .i64 0,.int .i64 0,.int .i64 0] 158)).drew:=Below.drew ((Below.refl _ _).alloc (Nat.le_refl _) _)
    gi_wp2_with fail
    go_roundw
    case rel=>exact⟨k+1,pre,rest,by go_num,by omega,hat,by rw[wC HO.out];exact hpm,hK.below _ _ hb4 hKr,jb _ _ _ hJs hb4⟩
    case measure=>simp[intOf];omega
   | some d=>
    have hsucc:=wD HO.out;obtain⟨y,rest',rfl,hyx⟩:=EH hat hpm (by rw[←hsucc];exact EF b s R (show k+1≤n from hlt));have hlen:pre.length<(gV b s R n).length:=by
     have:=congrArg List.length hat;rw[List.length_attach,List.length_append,List.length_cons] at this;omega
    replace t0:wr.cell? ⟨g,k*10,none⟩=some (.bool true):=t0;replace t1:wr.cell? ⟨g,k*10+1,none⟩=some (.int .i64 d.kind):=t1;replace t2:wr.cell? ⟨g,k*10+2,none⟩=some (.string d.name):=t2;replace t3:wr.cell? ⟨g,k*10+3,none⟩=some (.slice d.av.a d.av.n d.av.c):=t3;replace t4:wr.cell? ⟨g,k*10+4,none⟩=some (.string d.data):=t4;replace t5:wr.cell? ⟨g,k*10+5,none⟩=some (.int .i64 d.pa):=t5;replace t6:wr.cell? ⟨g,k*10+6,none⟩=some (.int .i64 d.fi):=t6;replace t7:wr.cell? ⟨g,k*10+7,none⟩=some (.int .i64 d.la):=t7;replace t8:wr.cell? ⟨g,k*10+8,none⟩=some (.int .i64 d.pr):=t8;replace t9:wr.cell? ⟨g,k*10+9,none⟩=some (.int .i64 d.ne):=t9;have hb4:Below wr.heap.size wr (wr.alloc (.cells #[.bool true,.int .i64 d.kind,.string d.name,.slice d.av.a d.av.n d.av.c,.string d.data,.int .i64 d.pa,.int .i64 d.fi,.int .i64 d.la,.int .i64 d.pr,.int .i64 d.ne] 158)).drew:=Below.drew ((Below.refl _ _).alloc (Nat.le_refl _) _);have G8:=Whole.new wr #[.bool true,.int .i64 d.kind,.string d.name,.slice d.av.a d.av.n d.av.c,.string d.data,.int .i64 d.pa,.int .i64 d.fi,.int .i64 d.la,.int .i64 d.pr,.int .i64 d.ne] 158;have tq:∀ w5:World,Below (wr.alloc (.cells #[.bool true,.int .i64 d.kind,.string d.name,.slice d.av.a d.av.n d.av.c,.string d.data,.int .i64 d.pa,.int .i64 d.fi,.int .i64 d.la,.int .i64 d.pr,.int .i64 d.ne] 158)).drew.heap.size (wr.alloc (.cells #[.bool true,.int .i64 d.kind,.string d.name,.slice d.av.a d.av.n d.av.c,.string d.data,.int .i64 d.pa,.int .i64 d.fi,.int .i64 d.la,.int .i64 d.pr,.int .i64 d.ne] 158)).drew w5→
      w5.cell? ⟨wr.heap.size,1,none⟩=some (.int .i64 d.kind)∧w5.cell? ⟨wr.heap.size,2,none⟩=some (.string d.name)∧w5.cell? ⟨wr.heap.size,3,none⟩=some (.slice d.av.a d.av.n d.av.c)∧w5.cell? ⟨wr.heap.size,4,none⟩=some (.string d.data)∧w5.cell? ⟨wr.heap.size,5,none⟩=some (.int .i64 d.pa)∧w5.cell? ⟨wr.heap.size,6,none⟩=some (.int .i64 d.fi)∧w5.cell? ⟨wr.heap.size,7,none⟩=some (.int .i64 d.la)∧w5.cell? ⟨wr.heap.size,8,none⟩=some (.int .i64 d.pr)∧w5.cell? ⟨wr.heap.size,9,none⟩=some (.int .i64 d.ne):=fun w5 h=>by
     have hc:∀ i,w5.cell? ⟨wr.heap.size,i,none⟩=(wr.alloc (.cells #[.bool true,.int .i64 d.kind,.string d.name,.slice d.av.a d.av.n d.av.c,.string d.data,.int .i64 d.pa,.int .i64 d.fi,.int .i64 d.la,.int .i64 d.pr,.int .i64 d.ne] 158)).cell? ⟨wr.heap.size,i,none⟩:=fun i=>h.cell (p:=⟨wr.heap.size,i,none⟩) (by simp);exact⟨(hc 1).trans (G8.cell 1),(hc 2).trans (G8.cell 2),(hc 3).trans (G8.cell 3),(hc 4).trans (G8.cell 4),(hc 5).trans (G8.cell 5),(hc 6).trans (G8.cell 6),(hc 7).trans (G8.cell 7),(hc 8).trans (G8.cell 8),(hc 9).trans (G8.cell 9)⟩
    have Nl:∀ w5:World,Below (wr.alloc (.cells #[.bool true,.int .i64 d.kind,.string d.name,.slice d.av.a d.av.n d.av.c,.string d.data,.int .i64 d.pa,.int .i64 d.fi,.int .i64 d.la,.int .i64 d.pr,.int .i64 d.ne] 158)).drew.heap.size (wr.alloc (.cells #[.bool true,.int .i64 d.kind,.string d.name,.slice d.av.a d.av.n d.av.c,.string d.data,.int .i64 d.pa,.int .i64 d.fi,.int .i64 d.la,.int .i64 d.pr,.int .i64 d.ne] 158)).drew w5→YieldAt Fence.wide (4 - 1) Tryz.prog lp #[.int .i64 (Ar.hdl b s (k:Int)),G7 d] w5 fun e W'=>(e=.returned (.bool true)∧J (pre++[y]) W'∧(KI w5→KI W'))∨(e=.returned (.bool false)∧Jx (pre++[y]) W'):=fun w5 h=>by
     have:=hY pre y w5 (jb _ _ _ hJs (hb4.trans (h.mono hb4.size))) hlen;rw[hyx] at this;exact this
    have hk5:∀ w5:World,Below (wr.alloc (.cells #[.bool true,.int .i64 d.kind,.string d.name,.slice d.av.a d.av.n d.av.c,.string d.data,.int .i64 d.pa,.int .i64 d.fi,.int .i64 d.la,.int .i64 d.pr,.int .i64 d.ne] 158)).drew.heap.size (wr.alloc (.cells #[.bool true,.int .i64 d.kind,.string d.name,.slice d.av.a d.av.n d.av.c,.string d.data,.int .i64 d.pa,.int .i64 d.fi,.int .i64 d.la,.int .i64 d.pr,.int .i64 d.ne] 158)).drew w5→KI w5:=fun w5 h=>hK.below _ _ (hb4.trans (h.mono hb4.size)) hKr;have tO:=zh (show (gV b s R n).attach=(pre++[y])++rest'∧(pre++[y]).map (·.1)=gV b s R (k+1) from⟨by rw[hat];simp,by rw[List.map_append,hpm,hsucc,←hyx];rfl⟩);have KT:=zh (show pre++[y] <+: (gV b s R n).attach from⟨rest',by rw[hat];simp⟩);dsimp only[G7] at Nl;clear hat hpm hsucc hyx hlen hY G8
    gi_wp2_with fail
    refine wpIn_region_any (by kernel_rfl) ?_;(try (change wpAnyIn _ _ _ _ _ _ _ _ _ (World.drew _)));refine iO 0 ?_;(try simp only[pS]);refine dN 1 fun K hK=>?_;go_simp;refine hK _ _ ?_;clear hK K;(try simp only[pS]);refine iO 2 ?_;(try simp only[pS]);refine iO 3 ?_;(try simp only[pS]);refine iO 8 ?_;(try simp only[pS]);refine iO 10 ?_;(try simp only[pS]);refine lu 4 11 (fun K hK=>?_) fun K hK=>?_
    ·go_simp;refine hK _ _ ?_;clear hK K;(try simp only[pS]);refine iO 5 ?_;(try simp only[pS]);refine iO 6 ?_;(try simp only[pS]);refine lu 7 11 (fun K hK=>?_) fun K hK=>?_
     ·go_simp;refine hK _ _ ?_;clear hK K;(try simp only[pS]);refine lu 9 11 (fun K hK=>?_) fun K hK=>?_
      ·go_simp;refine⟨trivial,(callsIn_wide.2 (lV b s (k:Int) _ hki)).mono ?_⟩;rintro e w5 ⟨rfl,hb5⟩;obtain⟨e1,e2,e3,e4,e5,e6,e7,e8,e9⟩:=tq w5 hb5;refine hK _ _ ?_;clear hK K;(try simp only[pS]);refine dN 11 fun K hK=>?_;go_simp;refine hK _ _ ?_;clear hK K;(try simp only[pS]);obtain⟨fn,tmps,assign,body,hy,hR⟩:=Nl w5 hb5;refine dN 12 fun K hK=>?_;go_simp;refine hR.mono ?_;rintro e W6 (⟨rfl,H8,SS⟩ | ⟨rfl,H8⟩)
       ·refine hK _ _ ?_;clear hK K;(try simp only[pS]);refine iO 13 ?_;(try simp only[pS]);refine iO 14 ?_;(try simp only[pS]);refine wpAnyIn_done (by kernel_rfl) ?_ _
        gi_wp2_with fail
        go_roundw
        case rel=>exact⟨k+1,pre++[y],rest',by go_num,by omega,tO.out.1,tO.out.2,SS (hk5 w5 hb5),H8⟩
        case measure=>simp[intOf];omega
       ·refine hK _ _ ?_;clear hK K;(try simp only[pS]);refine iO 13 ?_;(try simp only[pS]);refine iO 14 ?_;(try simp only[pS]);refine wpAnyIn_done (by kernel_rfl) ?_ _
        gi_wp2_with fail
        refine bodyPost_ret (results_none rfl _ _ _) rfl ?_;exact⟨⟨_,rfl⟩,.inr ⟨_,KT.out,H8⟩⟩
      ·go_simp;refine hK _ _ ?_;clear hK K;(try simp only[pS]);refine dN 9 fun K hK=>?_;go_simp;refine⟨trivial,(callsIn_wide.2 (lV b s (k:Int) _ hki)).mono ?_⟩;rintro e w5 ⟨rfl,hb5⟩;obtain⟨e1,e2,e3,e4,e5,e6,e7,e8,e9⟩:=tq w5 hb5;refine hK _ _ ?_;clear hK K;(try simp only[pS]);obtain⟨fn,tmps,assign,body,hy,hR⟩:=Nl w5 hb5;refine dN 12 fun K hK=>?_;go_simp;refine hR.mono ?_;rintro e W6 (⟨rfl,H8,SS⟩ | ⟨rfl,H8⟩)
       ·refine hK _ _ ?_;clear hK K;(try simp only[pS]);refine iO 13 ?_;(try simp only[pS]);refine iO 14 ?_;(try simp only[pS]);refine wpAnyIn_done (by kernel_rfl) ?_ _
        gi_wp2_with fail
        go_roundw
        case rel=>exact⟨k+1,pre++[y],rest',by go_num,by omega,tO.out.1,tO.out.2,SS (hk5 w5 hb5),H8⟩
        case measure=>simp[intOf];omega
       ·refine hK _ _ ?_;clear hK K;(try simp only[pS]);refine iO 13 ?_;(try simp only[pS]);refine iO 14 ?_;(try simp only[pS]);refine wpAnyIn_done (by kernel_rfl) ?_ _
        gi_wp2_with fail
        refine bodyPost_ret (results_none rfl _ _ _) rfl ?_;exact⟨⟨_,rfl⟩,.inr ⟨_,KT.out,H8⟩⟩
     ·go_simp;refine hK _ _ ?_;clear hK K;(try simp only[pS]);refine dN 7 fun K hK=>?_;go_simp;refine hK _ _ ?_;clear hK K;(try simp only[pS]);refine dN 9 fun K hK=>?_;go_simp;refine⟨trivial,(callsIn_wide.2 (lV b s (k:Int) _ hki)).mono ?_⟩;rintro e w5 ⟨rfl,hb5⟩;obtain⟨e1,e2,e3,e4,e5,e6,e7,e8,e9⟩:=tq w5 hb5;refine hK _ _ ?_;clear hK K;(try simp only[pS]);obtain⟨fn,tmps,assign,body,hy,hR⟩:=Nl w5 hb5;refine dN 12 fun K hK=>?_;go_simp;refine hR.mono ?_;rintro e W6 (⟨rfl,H8,SS⟩ | ⟨rfl,H8⟩)
      ·refine hK _ _ ?_;clear hK K;(try simp only[pS]);refine iO 13 ?_;(try simp only[pS]);refine iO 14 ?_;(try simp only[pS]);refine wpAnyIn_done (by kernel_rfl) ?_ _
       gi_wp2_with fail
       go_roundw
       case rel=>exact⟨k+1,pre++[y],rest',by go_num,by omega,tO.out.1,tO.out.2,SS (hk5 w5 hb5),H8⟩
       case measure=>simp[intOf];omega
      ·refine hK _ _ ?_;clear hK K;(try simp only[pS]);refine iO 13 ?_;(try simp only[pS]);refine iO 14 ?_;(try simp only[pS]);refine wpAnyIn_done (by kernel_rfl) ?_ _
       gi_wp2_with fail
       refine bodyPost_ret (results_none rfl _ _ _) rfl ?_;exact⟨⟨_,rfl⟩,.inr ⟨_,KT.out,H8⟩⟩
    ·go_simp;refine hK _ _ ?_;clear hK K;(try simp only[pS]);refine dN 4 fun K hK=>?_;go_simp;refine hK _ _ ?_;clear hK K;(try simp only[pS]);refine iO 5 ?_;(try simp only[pS]);refine iO 6 ?_;(try simp only[pS]);refine dN 7 fun K hK=>?_;go_simp;refine hK _ _ ?_;clear hK K;(try simp only[pS]);refine dN 9 fun K hK=>?_;go_simp;refine⟨trivial,(callsIn_wide.2 (lV b s (k:Int) _ hki)).mono ?_⟩;rintro e w5 ⟨rfl,hb5⟩;obtain⟨e1,e2,e3,e4,e5,e6,e7,e8,e9⟩:=tq w5 hb5;refine hK _ _ ?_;clear hK K;(try simp only[pS]);obtain⟨fn,tmps,assign,body,hy,hR⟩:=Nl w5 hb5;refine dN 12 fun K hK=>?_;go_simp;refine hR.mono ?_;rintro e W6 (⟨rfl,H8,SS⟩ | ⟨rfl,H8⟩)
     ·refine hK _ _ ?_;clear hK K;(try simp only[pS]);refine iO 13 ?_;(try simp only[pS]);refine iO 14 ?_;(try simp only[pS]);refine wpAnyIn_done (by kernel_rfl) ?_ _
      gi_wp2_with fail
      go_roundw
      case rel=>exact⟨k+1,pre++[y],rest',by go_num,by omega,tO.out.1,tO.out.2,SS (hk5 w5 hb5),H8⟩
      case measure=>simp[intOf];omega
     ·refine hK _ _ ?_;clear hK K;(try simp only[pS]);refine iO 13 ?_;(try simp only[pS]);refine iO 14 ?_;(try simp only[pS]);refine wpAnyIn_done (by kernel_rfl) ?_ _
      gi_wp2_with fail
      refine bodyPost_ret (results_none rfl _ _ _) rfl ?_;exact⟨⟨_,rfl⟩,.inr ⟨_,KT.out,H8⟩⟩
  ·obtain rfl:k=n:=by omega
   have hxs:=H7 hat hpm
   gi_wp2_with fail
   go_end0
   exact⟨⟨_,rfl⟩,.inl ⟨_,hxs,hJs⟩⟩
end
end Go.Proofs.YtnbaadpgbcklaaaGreatDoor
