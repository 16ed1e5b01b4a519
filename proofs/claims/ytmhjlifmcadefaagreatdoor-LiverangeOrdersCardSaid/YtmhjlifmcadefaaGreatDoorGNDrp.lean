/- Part of a proof about trees. -/
import Derived.Test.YtmhjlifmcadefaaGreatDoorS00
set_option linter.unusedVariables false
set_option linter.unusedSimpArgs false
set_option maxHeartbeats 2000000
set_option maxRecDepth 100000
namespace Go.Proofs.YtmhjlifmcadefaaGreatDoor
section
open Go.RowKit
theorem pI:∀ (n:Nat) (l:List Nat),l.Nodup→(∀ x∈l,x<n)→l.length≤n
 | 0,l,_,h=>by
  cases l with
  | nil=>exact Nat.le_refl _
  | cons x r=>exact absurd (h x (by simp)) (by omega)
 | n+1,l,hd,h=>by
  have h1:(l.erase n).length≤n:=pI n (l.erase n) (hd.erase n) fun x hx=>by
   rw[hd.mem_erase_iff] at hx;have:=h x hx.2;omega
  have h2:l.length≤(l.erase n).length+1:=by rw[List.length_erase];split<;>omega
  omega
theorem Sound.drop {b s h:Int} {n live:Nat} {R:Int→Option Tr.Nd} {fr:List Nat} {i:Nat} (hS:Sound b s n R fr live) (hR:(R h).isSome) (hi:i<n) (he:Ar.hdl b s (i:Int)=h):∃ L,live=L+1∧Sound b s n (Tr.pJ R h none) (fr++[i]) L:=by
 have hn:i∉fr:=fun hm=>by have:=(hS.free i hm).2;rw[he] at this;rw[this] at hR;cases hR
 have h1:=pI n (i::fr) (List.nodup_cons.2 ⟨hn,hS.nodup⟩) (fun x hx=>(List.mem_cons.1 hx).elim (fun e=>e▸hi) (fun hx=>(hS.free x hx).1));have h2:=hS.count;simp only[List.length_cons] at h1;refine⟨live - 1,by omega,fun x hx=>?_,?_,fun j hj=>?_,by simp;omega,hS.le⟩
 ·unfold Tr.pJ at hx
  split at hx
  ·cases hx
  ·exact hS.dom x hx
 ·rw[List.nodup_append];exact⟨hS.nodup,by simp,fun a ha c hc=>by simp at hc;subst hc;rintro rfl;exact hn ha⟩
 ·rcases List.mem_append.1 hj with hj | hj
  ·obtain⟨h3,h4⟩:=hS.free j hj;refine⟨h3,?_⟩;unfold Tr.pJ
   split
   ·rfl
   ·exact h4
  ·simp at hj;subst hj;exact⟨hi,by rw[he,Tr.sK]⟩
theorem ML (base B:Nat) (b s root h:Int) (live n:Nat) (R:Int→Option Tr.Nd) (fr:List Nat) (vs vf:Value) (d:Tr.Nd) (w:World) (hM:TV base w B b s vs n R vf fr live root) (hS:Sound b s n R fr live) (hb:base≤w.heap.size) (hd:R h=some d):
  Calls Tryz.prog 97 #[.pointer (some ⟨B,0,none⟩),.int .i64 h] w fun e w'=>∃ (i L:Nat) (vs' dw:Value),e=.returned (.bool true)∧i<n∧Ar.hdl b s (i:Int)=h∧live=L+1∧
   TV base w' B b s vs' n (Tr.pJ R h none) dw (fr++[i]) L root∧aB w w' (aD B vs vf) (aD B vs' dw):=by
 obtain⟨j0,hj0,hy0,hy1,hy2⟩:=info_parts Ld;obtain⟨A,c,A',c',rfl,rfl⟩:=hM.slices;rcases nI (h:=h) hS with ⟨i,d',e1,e2,e3,e4⟩ | ⟨e1,_⟩
 rotate_left
 ·rw[hd] at e1;cases e1
 obtain⟨L,hL,hSd⟩:=hS.drop (by rw[hd];rfl) e3 e4;have hle:=hS.le;have hcn:=hS.count;have hfl:fr.length≤100000:=by omega
 have hLl:L≤100000:=by omega
 have hh:=(bH hS (h:=h) (by rw[hd];rfl)).1
 go_enter Tryz.func97,Tryz.ntmps97
 go_wp2_with fail;refine (Dn base B b s root h live n R fr _ _ w hM hS hh).mono ?_;rintro e w2 ⟨rfl,hb2⟩;rw[e2];have hM2:=hM.below hb2;obtain⟨g,rfl,hgB,hgl,hcell⟩:=hM2.slot (by omega);obtain⟨_,_,c2,_,_⟩:=hM2.cells;have hc:∀ j,j<10→w2.cell? ⟨g,i*10+j,none⟩=(EB (true,d))[j]?∧w2.frozen? ⟨g,i*10+j,none⟩=false:=fun j hj=>by
  have:=hcell i j e3 hj;rw[e4,hd] at this;exact this
 have t0:w2.cell? ⟨g,i*10,none⟩=some (.bool true):=(hc 0 (by omega)).1;have t1:w2.cell? ⟨g,i*10+1,none⟩=some (.int .i64 d.kind):=(hc 1 (by omega)).1;have t2:w2.cell? ⟨g,i*10+2,none⟩=some (.string d.name):=(hc 2 (by omega)).1;have t3:w2.cell? ⟨g,i*10+3,none⟩=some (.slice d.av.a d.av.n d.av.c):=(hc 3 (by omega)).1;have t4:w2.cell? ⟨g,i*10+4,none⟩=some (.string d.data):=(hc 4 (by omega)).1;have t5:w2.cell? ⟨g,i*10+5,none⟩=some (.int .i64 d.pa):=(hc 5 (by omega)).1;have t6:w2.cell? ⟨g,i*10+6,none⟩=some (.int .i64 d.fi):=(hc 6 (by omega)).1;have t7:w2.cell? ⟨g,i*10+7,none⟩=some (.int .i64 d.la):=(hc 7 (by omega)).1;have t8:w2.cell? ⟨g,i*10+8,none⟩=some (.int .i64 d.pr):=(hc 8 (by omega)).1;have t9:w2.cell? ⟨g,i*10+9,none⟩=some (.int .i64 d.ne):=(hc 9 (by omega)).1;have r0:w2.frozen? ⟨g,i*10,none⟩=false:=(hc 0 (by omega)).2;have r1:=(hc 1 (by omega)).2;have r2:=(hc 2 (by omega)).2;have r3:=(hc 3 (by omega)).2;have r4:=(hc 4 (by omega)).2;have r5:=(hc 5 (by omega)).2;have r6:=(hc 6 (by omega)).2;have r7:=(hc 7 (by omega)).2;have r8:=(hc 8 (by omega)).2;have r9:=(hc 9 (by omega)).2;obtain⟨w3,hw3⟩:=eX (((((((((((w2.setCell ⟨g,i*10,none⟩ (.bool false)).setCell ⟨g,i*10+1,none⟩ (.int .i64 0)).setCell ⟨g,i*10+2,none⟩ (.string ⟨#[]⟩)).setCell ⟨g,i*10+3,none⟩ (.slice none 0 0)).setCell ⟨g,i*10+4,none⟩ (.string ⟨#[]⟩)).setCell ⟨g,i*10+5,none⟩ (.int .i64 0)).setCell ⟨g,i*10+6,none⟩ (.int .i64 0)).setCell ⟨g,i*10+7,none⟩ (.int .i64 0)).setCell ⟨g,i*10+8,none⟩ (.int .i64 0)).setCell ⟨g,i*10+9,none⟩ (.int .i64 0)))
 obtain⟨MN,sP⟩:=hM2.FW (o:=none) e3 (by omega) (w':=w3) hw3;rw[e4] at MN;obtain⟨_,_,_,y3,_⟩:=MN.cells;have hs1:=row_one w3 3 (i:Int);have hB1:=(Below.refl _ w3).alloc (Nat.le_refl _) (.cells #[.int .i64 (i:Int)] 3);have Yr:=MN.below hB1;have hbw:base≤(w3.alloc (.cells #[.int .i64 (i:Int)] 3)).heap.size:=Nat.le_trans (Nat.le_trans (Nat.le_trans hb hb2.size) sP.1.size) hB1.size;have hii:(i:Int)<(n:Int):=by omega
 have q:¬ (i:Int)<0:=by omega
 have Vr:=zh MN;have HSP:=zh sP;have Yt:=zh Yr.free;have HL:=zh hL;have HE:=zh e4;clear MN Yr sP hM2 hM hcell hc e1 e2 hS hSd hcn hd e4;subst hL
 go_wp2_with (at_builtin;refine dQ rfl _ _ 39 rfl base 0 3 j0 (.int .i64 0) 1 8 Tryz.underlying39 hj0 hy0 hy1 hy2 rfl (by decide) _ _ _ rfl Yt.out _ 1 (ints [(i:Int)]) rfl hs1 (eB _) ?c3 ?c4 hbw ?_)
 case c3=>unfold maxLen;omega
 case c4=>omega
 intro v5 w5 o5 g5 f5;obtain⟨A5,c5,rfl⟩:=aF (aG o5);have OU:w5.ownsRow base 3 1 (.slice A5 (fr.length+1) c5) (fr++[i]).length (nums (fr++[i])):=by
  rw[List.length_append,nums_append];exact o5
 obtain⟨FK,Le,hst⟩:=Vr.out.Dp hB1 g5 OU f5;have z3:=FK.free 3;have y35:w5.cell? ⟨B,3,none⟩=some (.slice A' fr.length c'):=FK.cell 3;obtain⟨w6,kZ⟩:=eX (w5.setCell ⟨B,3,none⟩ (.slice A5 (fr.length+1) c5))
 rw[kZ] at Le hst;have y6:w6.cell? ⟨B,4,none⟩=some (.int .i64 ((L:Int)+1)):=Le.cells.2.2.2.2.1;have z6:=Le.var.free 4;obtain⟨hM7,s7⟩:=Le.counted L (L:Int) rfl;obtain⟨w7,hw7⟩:=eX (w6.setCell ⟨B,4,none⟩ (.int .i64 (L:Int)))
 rw[hw7] at hM7 s7;have HM:=zh hM7;have HS:=zh (((aB.of_below hb2).trans HSP.out).trans (hst.trans s7));clear hM7 Le hst s7 o5 OU g5 f5 FK Vr Yt HSP hs1 hB1;go_wp2_with fail
 go_ret
 exact⟨i,L,_,_,rfl,e3,HE.out,rfl,HM.out,HS.out⟩
theorem Vs {W:World} {B:Nat} {x0 x1 x2 x3 x4 x5 x6 x7 x8:Value} {T:TypeId} (r:Whole W B #[x0,x1,x2,x3,x4,x5,x6,x7,x8] T) (y0 y1 y2 y3 y4 y5 y6 y7 y8:Value):
  ∃ W',((((((((W.setCell ⟨B,0,none⟩ y0).setCell ⟨B,1,none⟩ y1).setCell ⟨B,2,none⟩ y2).setCell ⟨B,3,none⟩ y3).setCell ⟨B,4,none⟩ y4).setCell ⟨B,5,none⟩ y5).setCell ⟨B,6,none⟩ y6).setCell ⟨B,7,none⟩ y7).setCell ⟨B,8,none⟩ y8=W'∧Whole W' B #[y0,y1,y2,y3,y4,y5,y6,y7,y8] T∧W.grownBy W' (some B):=
 by
 have r0:Whole _ B #[y0,x1,x2,x3,x4,x5,x6,x7,x8] T:=r.put 0 y0;have r1:Whole _ B #[y0,y1,x2,x3,x4,x5,x6,x7,x8] T:=r0.put 1 y1;have r2:Whole _ B #[y0,y1,y2,x3,x4,x5,x6,x7,x8] T:=r1.put 2 y2;have r3:Whole _ B #[y0,y1,y2,y3,x4,x5,x6,x7,x8] T:=r2.put 3 y3;have r4:Whole _ B #[y0,y1,y2,y3,y4,x5,x6,x7,x8] T:=r3.put 4 y4;have r5:Whole _ B #[y0,y1,y2,y3,y4,y5,x6,x7,x8] T:=r4.put 5 y5;have r6:Whole _ B #[y0,y1,y2,y3,y4,y5,y6,x7,x8] T:=r5.put 6 y6;have r7:Whole _ B #[y0,y1,y2,y3,y4,y5,y6,y7,x8] T:=r6.put 7 y7;have r8:Whole _ B #[y0,y1,y2,y3,y4,y5,y6,y7,y8] T:=r7.put 8 y8;exact⟨_,rfl,r8,aJ (aJ (aJ (aJ (aJ (aJ (aJ (aJ (aJ (ay (Below.refl W.heap.size W) (some B)) 0 y0) 1 y1) 2 y2) 3 y3) 4 y4) 5 y5) 6 y6) 7 y7) 8 y8⟩
theorem OV (base B:Nat) (b s root h:Int) (live n:Nat) (R:Int→Option Tr.Nd) (fr:List Nat) (vs vf:Value) (w:World) (hM:TV base w B b s vs n R vf fr live root) (hS:Sound b s n R fr live) (hh:gI h):
  Calls Tryz.prog 100 #[.pointer (some ⟨B,0,none⟩),.int .i64 h] w fun e w'=>e=.returned (.tuple #[Uo ((R h).getD Tr.yX),.bool (R h).isSome])∧Below w.heap.size w w':=by
 obtain⟨A,c,A',c',rfl,rfl⟩:=hM.slices;have hB1:=(Below.refl _ w).alloc (Nat.le_refl _) (.cells #[.int .i64 0,.string ⟨#[]⟩,.slice none 0 0,.string ⟨#[]⟩,.int .i64 0,.int .i64 0,.int .i64 0,.int .i64 0,.int .i64 0] 82);have hX:=Whole.new w #[.int .i64 0,.string ⟨#[]⟩,.slice none 0 0,.string ⟨#[]⟩,.int .i64 0,.int .i64 0,.int .i64 0,.int .i64 0,.int .i64 0] 82;have hM1:=hM.below hB1;rcases nI (h:=h) hS with ⟨i,d,e1,e2,e3,e4⟩ | ⟨e1,_⟩
 ·rw[e1]
  go_enter Tryz.func100,Tryz.ntmps100
  go_wp2_with fail;refine (sM base B b s root h live n R fr _ _ _ hM1 hS hh).mono ?_;rintro e w2 ⟨rfl,hb2⟩;have hM2:=hM1.below hb2;obtain⟨g,rfl,hgB,hgl,hcell⟩:=hM2.slot (by omega);have hpt:nodeAt b s (.slice (some ⟨g,0,none⟩) n c) R h=some ⟨g,i*10+1,none⟩:=by
   have:Ar.idx b s h=i:=by unfold rC at e2;rw[e1] at e2;exact e2
   unfold nodeAt;rw[e1,this];rfl
  rw[hpt];have hc:∀ j,j<10→w2.cell? ⟨g,i*10+j,none⟩=(EB (true,d))[j]?:=fun j hj=>by
   have:=(hcell i j e3 hj).1;rw[e4,e1] at this;exact this
  have t1:w2.cell? ⟨g,i*10+1,none⟩=some (.int .i64 d.kind):=hc 1 (by omega);have t2:w2.cell? ⟨g,i*10+2,none⟩=some (.string d.name):=hc 2 (by omega);have t3:w2.cell? ⟨g,i*10+3,none⟩=some (.slice d.av.a d.av.n d.av.c):=hc 3 (by omega);have t4:w2.cell? ⟨g,i*10+4,none⟩=some (.string d.data):=hc 4 (by omega);have t5:w2.cell? ⟨g,i*10+5,none⟩=some (.int .i64 d.pa):=hc 5 (by omega);have t6:w2.cell? ⟨g,i*10+6,none⟩=some (.int .i64 d.fi):=hc 6 (by omega);have t7:w2.cell? ⟨g,i*10+7,none⟩=some (.int .i64 d.la):=hc 7 (by omega);have t8:w2.cell? ⟨g,i*10+8,none⟩=some (.int .i64 d.pr):=hc 8 (by omega);have t9:w2.cell? ⟨g,i*10+9,none⟩=some (.int .i64 d.ne):=hc 9 (by omega);have hX2:=hX.below hb2 hX.lt;have x0:w2.cell? ⟨w.heap.size,0,none⟩=some (.int .i64 0):=hX2.cell 0;have z0:=hX2.free 0;have x1:w2.cell? ⟨w.heap.size,1,none⟩=some (.string ⟨#[]⟩):=hX2.cell 1;have z1:=hX2.free 1;have x2:w2.cell? ⟨w.heap.size,2,none⟩=some (.slice none 0 0):=hX2.cell 2;have z2:=hX2.free 2;have x3:w2.cell? ⟨w.heap.size,3,none⟩=some (.string ⟨#[]⟩):=hX2.cell 3;have z3:=hX2.free 3;have x4:w2.cell? ⟨w.heap.size,4,none⟩=some (.int .i64 0):=hX2.cell 4;have z4:=hX2.free 4;have x5:w2.cell? ⟨w.heap.size,5,none⟩=some (.int .i64 0):=hX2.cell 5;have z5:=hX2.free 5;have x6:w2.cell? ⟨w.heap.size,6,none⟩=some (.int .i64 0):=hX2.cell 6;have z6:=hX2.free 6;have x7:w2.cell? ⟨w.heap.size,7,none⟩=some (.int .i64 0):=hX2.cell 7;have z7:=hX2.free 7;have x8:w2.cell? ⟨w.heap.size,8,none⟩=some (.int .i64 0):=hX2.cell 8;have z8:=hX2.free 8;have hB2:Below w.heap.size w w2:=hB1.trans (hb2.mono hB1.size);obtain⟨w3,hw3,aW,g3⟩:=Vs hX2 (.int .i64 d.kind) (.string d.name) (.slice d.av.a d.av.n d.av.c) (.string d.data) (.int .i64 d.pa) (.int .i64 d.fi) (.int .i64 d.la) (.int .i64 d.pr) (.int .i64 d.ne);have hB3:=hB2.grown g3 hB2.size (fun j hj=>by simp at hj;omega);have y0:w3.cell? ⟨w.heap.size,0,none⟩=some (.int .i64 d.kind):=aW.cell 0;have y1:w3.cell? ⟨w.heap.size,1,none⟩=some (.string d.name):=aW.cell 1;have y2:w3.cell? ⟨w.heap.size,2,none⟩=some (.slice d.av.a d.av.n d.av.c):=aW.cell 2;have y3:w3.cell? ⟨w.heap.size,3,none⟩=some (.string d.data):=aW.cell 3;have y4:w3.cell? ⟨w.heap.size,4,none⟩=some (.int .i64 d.pa):=aW.cell 4;have y5:w3.cell? ⟨w.heap.size,5,none⟩=some (.int .i64 d.fi):=aW.cell 5;have y6:w3.cell? ⟨w.heap.size,6,none⟩=some (.int .i64 d.la):=aW.cell 6;have y7:w3.cell? ⟨w.heap.size,7,none⟩=some (.int .i64 d.pr):=aW.cell 7;have y8:w3.cell? ⟨w.heap.size,8,none⟩=some (.int .i64 d.ne):=aW.cell 8;clear hM2 hM hM1 hcell hc e1 e2 e4 hpt hX hX2 aW g3 hB1 hS;go_wp2_with fail;refine bodyPost_ret (v:=.tuple #[Uo d,.bool true]) ?_ rfl ⟨rfl,hB3⟩;simp[results,Tryz.f100,go_sem,y0,y1,y2,y3,y4,y5,y6,y7,y8]
 ·rw[e1]
  go_enter Tryz.func100,Tryz.ntmps100
  go_wp2_with fail;refine (sM base B b s root h live n R fr _ _ _ hM1 hS hh).mono ?_;rintro e w2 ⟨rfl,hb2⟩;have hpt:nodeAt b s (.slice A n c) R h=none:=by unfold nodeAt;rw[e1]
  rw[hpt];have hX2:=hX.below hb2 hX.lt;have hB2:Below w.heap.size w w2:=hB1.trans (hb2.mono hB1.size);have aW:=hX2.alloc (.cells #[.int .i64 0,.string ⟨#[]⟩,.slice none 0 0,.string ⟨#[]⟩,.int .i64 0,.int .i64 0,.int .i64 0,.int .i64 0,.int .i64 0] 82);have fG:=Whole.new w2 #[.int .i64 0,.string ⟨#[]⟩,.slice none 0 0,.string ⟨#[]⟩,.int .i64 0,.int .i64 0,.int .i64 0,.int .i64 0,.int .i64 0] 82;have hB3:=hB2.alloc hB2.size (.cells #[.int .i64 0,.string ⟨#[]⟩,.slice none 0 0,.string ⟨#[]⟩,.int .i64 0,.int .i64 0,.int .i64 0,.int .i64 0,.int .i64 0] 82);obtain⟨w3,hw3⟩:=eX (w2.alloc (.cells #[.int .i64 0,.string ⟨#[]⟩,.slice none 0 0,.string ⟨#[]⟩,.int .i64 0,.int .i64 0,.int .i64 0,.int .i64 0,.int .i64 0] 82))
  rw[hw3] at aW fG hB3;have x0:w3.cell? ⟨w.heap.size,0,none⟩=some (.int .i64 0):=aW.cell 0;have z0:=aW.free 0;have u0:w3.cell? ⟨w2.heap.size,0,none⟩=some (.int .i64 0):=fG.cell 0;have x1:w3.cell? ⟨w.heap.size,1,none⟩=some (.string ⟨#[]⟩):=aW.cell 1;have z1:=aW.free 1;have u1:w3.cell? ⟨w2.heap.size,1,none⟩=some (.string ⟨#[]⟩):=fG.cell 1;have x2:w3.cell? ⟨w.heap.size,2,none⟩=some (.slice none 0 0):=aW.cell 2;have z2:=aW.free 2;have u2:w3.cell? ⟨w2.heap.size,2,none⟩=some (.slice none 0 0):=fG.cell 2;have x3:w3.cell? ⟨w.heap.size,3,none⟩=some (.string ⟨#[]⟩):=aW.cell 3;have z3:=aW.free 3;have u3:w3.cell? ⟨w2.heap.size,3,none⟩=some (.string ⟨#[]⟩):=fG.cell 3;have x4:w3.cell? ⟨w.heap.size,4,none⟩=some (.int .i64 0):=aW.cell 4;have z4:=aW.free 4;have u4:w3.cell? ⟨w2.heap.size,4,none⟩=some (.int .i64 0):=fG.cell 4;have x5:w3.cell? ⟨w.heap.size,5,none⟩=some (.int .i64 0):=aW.cell 5;have z5:=aW.free 5;have u5:w3.cell? ⟨w2.heap.size,5,none⟩=some (.int .i64 0):=fG.cell 5;have x6:w3.cell? ⟨w.heap.size,6,none⟩=some (.int .i64 0):=aW.cell 6;have z6:=aW.free 6;have u6:w3.cell? ⟨w2.heap.size,6,none⟩=some (.int .i64 0):=fG.cell 6;have x7:w3.cell? ⟨w.heap.size,7,none⟩=some (.int .i64 0):=aW.cell 7;have z7:=aW.free 7;have u7:w3.cell? ⟨w2.heap.size,7,none⟩=some (.int .i64 0):=fG.cell 7;have x8:w3.cell? ⟨w.heap.size,8,none⟩=some (.int .i64 0):=aW.cell 8;have z8:=aW.free 8;have u8:w3.cell? ⟨w2.heap.size,8,none⟩=some (.int .i64 0):=fG.cell 8;obtain⟨w4,hw4,bI,g4⟩:=Vs aW (.int .i64 0) (.string ⟨#[]⟩) (.slice none 0 0) (.string ⟨#[]⟩) (.int .i64 0) (.int .i64 0) (.int .i64 0) (.int .i64 0) (.int .i64 0);have hB4:=hB3.grown g4 hB3.size (fun j hj=>by simp at hj;omega);have y0:w4.cell? ⟨w.heap.size,0,none⟩=some (.int .i64 0):=bI.cell 0;have y1:w4.cell? ⟨w.heap.size,1,none⟩=some (.string ⟨#[]⟩):=bI.cell 1;have y2:w4.cell? ⟨w.heap.size,2,none⟩=some (.slice none 0 0):=bI.cell 2;have y3:w4.cell? ⟨w.heap.size,3,none⟩=some (.string ⟨#[]⟩):=bI.cell 3;have y4:w4.cell? ⟨w.heap.size,4,none⟩=some (.int .i64 0):=bI.cell 4;have y5:w4.cell? ⟨w.heap.size,5,none⟩=some (.int .i64 0):=bI.cell 5;have y6:w4.cell? ⟨w.heap.size,6,none⟩=some (.int .i64 0):=bI.cell 6;have y7:w4.cell? ⟨w.heap.size,7,none⟩=some (.int .i64 0):=bI.cell 7;have y8:w4.cell? ⟨w.heap.size,8,none⟩=some (.int .i64 0):=bI.cell 8;clear hM hM1 e1 hpt hX hX2 hB1 aW fG bI g4 hS;go_wp2_with fail;refine bodyPost_ret (v:=.tuple #[Uo Tr.yX,.bool false]) ?_ rfl ⟨rfl,hB4⟩;simp[results,Tryz.f100,go_sem,y0,y1,y2,y3,y4,y5,y6,y7,y8]
theorem OW (b s:Int) (w:World):
  Calls Tryz.prog 23 #[xV b s] w fun e w'=>e=.returned (.agg #[.int .i64 b,.int .i64 s,.slice none 0 0,.slice none 0 0,.int .i64 0])∧Below w.heap.size w w':=by
 have hb0:=(Below.refl _ w).alloc (Nat.le_refl _) (.cells #[.int .i64 b,.int .i64 s] 48)
 go_enter Tryz.func23,Tryz.ntmps23
 go_wp2_with fail;refine bodyPost_ret (v:=.agg #[.int .i64 b,.int .i64 s,.slice none 0 0,.slice none 0 0,.int .i64 0]) ?_ rfl ⟨rfl,hb0.alloc (by simp) _⟩;simp[results,Tryz.f23,go_sem]
end
end Go.Proofs.YtmhjlifmcadefaaGreatDoor
