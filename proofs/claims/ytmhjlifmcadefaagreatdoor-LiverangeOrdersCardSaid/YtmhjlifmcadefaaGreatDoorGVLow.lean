/- Part of a proof about trees. -/
import Derived.Deep.CutBlock
import Derived.Deep.DeepCutAuto
import Derived.RangeFuncCalls
import Derived.TacticsIn
import Derived.Test.YtmhjlifmcadefaaGreatDoorS08
set_option linter.unusedVariables false
set_option linter.unusedSimpArgs false
set_option linter.unusedSectionVars false
set_option maxHeartbeats 4000000
set_option maxRecDepth 100000
namespace Go.Proofs.YtmhjlifmcadefaaGreatDoor
section
open Go.RowKit Go.Shelf
theorem DN (w:World) (cs ds:Array Value) (t u:TypeId):∃ W,(w.alloc (.cells cs t)).alloc (.cells ds u)=W∧Whole W w.heap.size cs t∧Whole W (w.heap.size+1) ds u∧Below w.heap.size w W:=by
 refine⟨_,rfl,(Whole.new w _ _).alloc _,?_,((Below.refl _ w).alloc (Nat.le_refl _) _).alloc (by simp) _⟩;have:=Whole.new (w.alloc (.cells cs t)) ds u
 rwa [World.size_alloc] at this
section
variable [mQ]
theorem TW.LD {w:World} {base bM T B M:Nat} {b s:Int} {vs vf aP vh:Value} {n live m:Nat} {fr:List Nat} {av:Int→Tr.Sl} {f:Nat→RS} {hs:List Int} {g:Tr.G} {K:Nat} (H:TW w base bM T B M b s vs vf aP vh n live m fr av f hs g K) {x:Nat} (hx:x<m):gI (hof hs (x:Int)):=by
 cases hg:(f x).gone with
 | true=>rw[oO (H.gn x hx hg)];constructor<;>omega
 | false=>exact (bH H.so (h:=hof hs (x:Int)) (by rw[aK,H.dx hx hg];rfl)).1
theorem TW.PU {w:World} {base bM T B M:Nat} {b s:Int} {vs vf aP vh:Value} {n live m:Nat} {fr:List Nat} {av:Int→Tr.Sl} {f:Nat→RS} {hs:List Int} {g:Tr.G} {K:Nat} (H:TW w base bM T B M b s vs vf aP vh n live m fr av f hs g K) (hK:K≤62) {x:Nat} (hx:x<m) {sb:Int} (hb:0≤sb∧sb≤255):gI (nX (f x) sb):=by
 cases hg:(f x).gone with
 | true=>unfold nX;rw[hg,if_pos rfl];constructor<;>omega
 | false=>
  obtain⟨k,e,hk⟩:=LG (n:=f x) (sb:=sb) hb.1 hg;have h1:=size_le (H.lv hK) (H.dx hx hg);rw[(H.qK x).2] at h1;rw[e];constructor<;>omega
end
theorem Eo (v:Value) (n:Nat) (F:Nat→qp) (a0 a1 b0 b1:Int) (w:World) (H:JY w v n F) (hn:n≤9223372036854775807) (hF:∀ i,i<n→XO (F i)) (ha0:0≤a0∧a0≤255) (ha1:0≤a1∧a1≤255) (hb0:0≤b0∧b0≤255) (hb1:0≤b1∧b1≤255) (hT:Lit w):
  Calls Tryz.prog 3 #[v,.agg #[.int .u8 a0,.int .u8 a1],.agg #[.int .u8 b0,.int .u8 b1]] w fun e w'=>e=.returned (.bool true)∧Below w.heap.size w w':=by
 have HH:=zh (fun (W:World) (hb:Below w.heap.size w W)=>H.below hb);have HT:=zh (fun (W:World) (hb:Below w.heap.size w W)=>hT.below hb);have HF:=zh hF;obtain⟨A,c,rfl,-⟩:=H;clear hT hF;obtain⟨w0,hw0⟩:=eX ((w.alloc (.cells #[.int .u8 a0,.int .u8 a1] 24)).alloc (.cells #[.int .u8 b0,.int .u8 b1] 24))
 have Xu:Whole w0 w.heap.size #[.int .u8 a0,.int .u8 a1] 24:=by rw[←hw0];exact (Whole.new w _ _).alloc _
 have hB0:Whole w0 (w.heap.size+1) #[.int .u8 b0,.int .u8 b1] 24:=by
  rw[←hw0];have:=Whole.new (w.alloc (.cells #[.int .u8 a0,.int .u8 a1] 24)) #[.int .u8 b0,.int .u8 b1] 24
  rwa [World.size_alloc] at this
 have hz0:w0.heap.size=w.heap.size+2:=by rw[←hw0];simp
 have Zk:Below w.heap.size w w0:=by rw[←hw0];exact ((Below.refl _ w).alloc (Nat.le_refl _) _).alloc (by simp) _
 have uO:=zh (fun (W:World) (hb:Below w0.heap.size w0 W)=>And.intro (Xu.below hb Xu.lt) (hB0.below hb hB0.lt));have HB0:=zh Zk;have HW0:=zh hw0;clear hw0 Xu hB0 hz0 Zk
 go_enter Tryz.func3,Tryz.ntmps3
 go_upto_region 1 with fail
 rw[HW0.out];clear HW0;go_wp2_with fail;refine (yG w0).mono ?_;rintro e w1 ⟨rfl,hb1'⟩;have HB1:=zh hb1';have PV:=zh (HB0.out.trans (hb1'.mono HB0.out.size));clear hb1';go_wp2_with fail;refine (Sy _ n F w1 (HH.out w1 PV.out) hn).mono ?_;rintro e w2 ⟨r,rfl,hw2,PW⟩;rw[hw2];clear hw2;cases r with
 | false=>
  go_wp2_with fail;refine (yG w1).mono ?_;rintro e w3 ⟨rfl,hb3⟩;have HB3:=zh (PV.out.trans (hb3.mono PV.out.size));clear hb3;go_wp2_with fail
  go_ret
  exact⟨rfl,HB3.out⟩
 | true=>
  have Zl:=zh (PW rfl);clear PW;go_wp2_with fail;obtain⟨K2,e1,e2,e3⟩:∃ K2:mQ,K2.L=w1.heap.size∧K2.w0=w1∧K2.S=fun _=>False:=⟨⟨w1.heap.size,w1,fun _=>False⟩,rfl,rfl,rfl⟩
  refine (GV _ n F w1 (HH.out w1 PV.out) hn HF.out Zl.out (HT.out w1 PV.out) e1 e2 (by rw[e3];exact fun _ h=>h)).mono ?_;rintro e w3 ⟨T,B,M,base,bM,i,m,ch,Ah,rfl,hi,hms⟩;obtain⟨vs,vf,aP,nn,live,fr,av,f,hs,g,CP⟩:=hms;have hb3:=CP.kp.1;rw[e1,e2] at hb3;have HB3:=zh (HB1.out.trans (hb3.mono HB1.out.size));have O6:=zh (fun (W:World) (hb:Below w3.heap.size w3 W)=>CP.below hb);obtain⟨gh,oh,rfl,-⟩:∃ gh oh,Ah=some ⟨gh,oh,none⟩∧True:=by
   have h:=CP.tw.row;rw[CP.len] at h;obtain⟨g1,o1,h1,-⟩:=h.cells CP.m0;exact⟨g1,o1,h1,trivial⟩
  have hm0:=CP.m0;have hml:=CP.ml;clear hb3 e1 e2 e3 CP HF Zl HH HT;obtain⟨x,hx⟩:∃ x:Nat,a0.tmod (m:Int)=(x:Int):=⟨(a0.tmod (m:Int)).toNat,by have:=Int.tmod_nonneg (m:Int) ha0.1;omega⟩
  obtain⟨y,hy⟩:∃ y:Nat,b0.tmod (m:Int)=(y:Int):=⟨(b0.tmod (m:Int)).toNat,by have:=Int.tmod_nonneg (m:Int) hb0.1;omega⟩
  have hxm:x<m:=by have:=Int.tmod_lt_of_pos a0 (by omega:(0:Int)<(m:Int));omega
  have hym:y<m:=by have:=Int.tmod_lt_of_pos b0 (by omega:(0:Int)<(m:Int));omega
  have VT:=zh (fun (W:World) (hb:Below w3.heap.size w3 W)=>yH base bM T B M 2 2 vs vf aP nn live m fr av f hs g i gh oh ch W (O6.out W hb) a0 a1 ha0 ha1 hi x hx hxm);have HPB:=zh (fun (W:World) (hb:Below w3.heap.size w3 W)=>yH base bM T B M 2 2 vs vf aP nn live m fr av f hs g i gh oh ch W (O6.out W hb) b0 b1 hb0 hb1 hi y hy hym);obtain⟨ix,hix⟩:=eX (nX (f x) a1)
  obtain⟨iy,RF⟩:=eX (nX (f y) b1)
  obtain⟨JZ,hhx⟩:=eX (hof hs (x:Int))
  obtain⟨J3,hhy⟩:=eX (hof hs (y:Int))
  rw[hix,hhx] at VT;rw[RF,hhy] at HPB;have HQ:=zh (And.intro hix (And.intro RF (And.intro hhx hhy)));clear hix RF hhx hhy hx hy;have HR3:=zh (Below.refl w3.heap.size w3);have r1:=(uO.out w3 HB3.out).1.cell 0;have r2:=(uO.out w3 HB3.out).1.cell 1;go_wp2_with fail;refine (VT.out w3 HR3.out).mono ?_;rintro e w4 ⟨rfl,hb4⟩;have jy:=zh hb4;have aa1:=zh (HB3.out.trans (hb4.mono HB3.out.size));clear hb4
  go_upto_region 5 with fail
  obtain⟨w5,fE,RG,PX,hb5⟩:=DN w4 #[.int .i64 (x:Int),.int .i64 ix] #[.int .i64 JZ,.int .i64 ix] 30 31;rw[fE];have jg:=zh (jy.out.trans (hb5.mono jy.out.size));have hz5:w4.heap.size+2≤w5.heap.size:=by have:=PX.lt;omega
  obtain⟨X8,xu⟩:=eX (w4.heap.size)
  rw[xu] at RG PX;(try rw[xu]);have HPX:=zh (fun (W:World) (hb:Below w5.heap.size w5 W)=>And.intro (RG.below hb RG.lt) (PX.below hb PX.lt));have Zm:=zh (HB3.out.trans (jg.out.mono HB3.out.size));clear fE hb5 RG PX hz5 r1 r2;have r1:=(uO.out w5 Zm.out).2.cell 0;have r2:=(uO.out w5 Zm.out).2.cell 1;go_wp2_with fail;refine (HPB.out w5 jg.out).mono ?_;rintro e w6 ⟨rfl,hb6⟩;have iQ:=zh (jg.out.trans (hb6.mono jg.out.size));have Zn:=zh (HPX.out w6 hb6);clear hb6 r1 r2
  go_upto_region 6 with fail
  obtain⟨w7,hw7,Nf,Ng,lq⟩:=DN w6 #[.int .i64 (y:Int),.int .i64 iy] #[.int .i64 J3,.int .i64 iy] 30 31;rw[hw7];have lT:=zh (iQ.out.trans (lq.mono iQ.out.size));have GX:=zh (HB0.out.trans ((HB3.out.trans (lT.out.mono HB3.out.size)).mono HB0.out.size));have RG:=Zn.out.1.below lq Zn.out.1.lt;have PX:=Zn.out.2.below lq Zn.out.2.lt;obtain⟨uF,oL⟩:=eX (w6.heap.size)
  rw[oL] at Nf Ng;rw[oL];have Ai:=zh (fun (W:World) (hb:Below w7.heap.size w7 W)=>(O6.out w7 lT.out).below hb);have HS:=zh (fun (W:World) (hb:Below w7.heap.size w7 W)=>show W.cell? ⟨T,0,none⟩=some (.pointer (some ⟨B,0,none⟩))∧W.cell? ⟨T,1,none⟩=some (.pointer (some ⟨M,0,none⟩))∧W.cell? ⟨X8,0,none⟩=some (.int .i64 (x:Int))∧W.cell? ⟨X8,1,none⟩=some (.int .i64 ix)∧W.cell? ⟨X8+1,0,none⟩=some (.int .i64 JZ)∧W.cell? ⟨X8+1,1,none⟩=some (.int .i64 ix)∧W.cell? ⟨uF,0,none⟩=some (.int .i64 (y:Int))∧W.cell? ⟨uF,1,none⟩=some (.int .i64 iy)∧W.cell? ⟨uF+1,0,none⟩=some (.int .i64 J3)∧W.cell? ⟨uF+1,1,none⟩=some (.int .i64 iy) from
   ⟨(Ai.out W hb).tw.var.cell 0,(Ai.out W hb).tw.var.cell 1,(RG.below hb RG.lt).cell 0,(RG.below hb RG.lt).cell 1,(PX.below hb PX.lt).cell 0,(PX.below hb PX.lt).cell 1,(Nf.below hb Nf.lt).cell 0,(Nf.below hb Nf.lt).cell 1,(Ng.below hb Ng.lt).cell 0,(Ng.below hb Ng.lt).cell 1⟩)
  obtain⟨cz,hcz⟩:=eX ((rP g JZ ix J3 iy).1)
  obtain⟨ez,hez⟩:=eX ((rP g JZ ix J3 iy).2)
  have HCM:=zh (fun (W:World) (hb:Below w7.heap.size w7 W)=>show Calls Tryz.prog 8 #[.pointer (some ⟨B,0,none⟩),.agg #[.int .i64 JZ,.int .i64 ix],.agg #[.int .i64 J3,.int .i64 iy]] W fun e w'=>e=.returned (.tuple #[.int .i64 cz,.int .i64 ez])∧Below W.heap.size W w' from by
   have h:=Ai.out W hb;rw[←hcz,←hez]
   exact PY base B 2 2 (hof hs 0) JZ ix J3 iy live nn g av fr vs vf W (h.lv (by omega)) (by rw[←HQ.out.2.2.1];exact h.LD hxm) (by rw[←HQ.out.1];exact h.PU (by omega) hxm ha1) (by rw[←HQ.out.2.2.2];exact h.LD hym) (by rw[←HQ.out.2.1];exact h.PU (by omega) hym hb1))
  have UU:=zh (And.intro hcz hez);obtain⟨gx,hgx⟩:=eX ((f x).gone)
  obtain⟨gy,hgy⟩:=eX ((f y).gone)
  have Wx:=zh (And.intro hgx hgy);have HHX:=zh (fun W (hb:Below w7.heap.size w7 W)=>show Calls Tryz.prog 9 #[.pointer (some ⟨M,0,none⟩),.int .i64 (x:Int)] W fun e w'=>e=.returned (.bool (!gx))∧w'=W from by rw[←hgx];exact bX bM M m aP f x W (Ai.out W hb).mv hxm (by omega));have HHY:=zh (fun W (hb:Below w7.heap.size w7 W)=>show Calls Tryz.prog 9 #[.pointer (some ⟨M,0,none⟩),.int .i64 (y:Int)] W fun e w'=>e=.returned (.bool (!gy))∧w'=W from by rw[←hgy];exact bX bM M m aP f y W (Ai.out W hb).mv hym (by omega));have Zo:=zh (Below.refl w7.heap.size w7);clear hw7 lq RG PX Nf Ng hcz hez hgx hgy xu oL VT HPB uO jy aa1 jg iQ Zn HPX;obtain⟨V6,hV6⟩:=eX (w7.drew)
  have HV6:=zh (Zo.out.trans ((lW hV6).mono Zo.out.size));refine wp_region_noPanic ?_;refine wp_region_held_drew (S:=(fun W=>W.cell? ⟨T,0,none⟩=some (.pointer (some ⟨B,0,none⟩))∧W.cell? ⟨T,1,none⟩=some (.pointer (some ⟨M,0,none⟩))∧W.cell? ⟨X8,0,none⟩=some (.int .i64 (x:Int))∧W.cell? ⟨X8,1,none⟩=some (.int .i64 ix)∧W.cell? ⟨X8+1,0,none⟩=some (.int .i64 JZ)∧W.cell? ⟨X8+1,1,none⟩=some (.int .i64 ix)∧W.cell? ⟨uF,0,none⟩=some (.int .i64 (y:Int))∧W.cell? ⟨uF,1,none⟩=some (.int .i64 iy)∧W.cell? ⟨uF+1,0,none⟩=some (.int .i64 J3)∧W.cell? ⟨uF+1,1,none⟩=some (.int .i64 iy))) (by kernel_rfl) ?_ (fun ah=>?_)
  ·exact (by rw[hV6];exact HS.out V6 HV6.out)
  rw[hV6] at ah ⊢;refine bn [0,1,2,3,4,5] ?_;iterate 6 (refine cZ ?_;try simp only[pS])
  refine bq ?_;refine bG 6 fun K hK=>?_;go_simp;refine (HCM.out V6 HV6.out).mono ?_;rintro e w8 ⟨rfl,hbb⟩;have uE:=zh (HV6.out.trans (hbb.mono HV6.out.size));refine hK.out _ _ (HS.out w8 uE.out) fun ah=>?_;clear hK K hbb;(try simp only[pS]);refine bn [7,8,9,10,11] ?_;iterate 5 (refine cZ ?_;try simp only[pS])
  refine bq ?_;refine eY ?_;clear ah HCM hV6;cases gx with
  | true=>
   have hl:rP g JZ ix J3 iy=(0,2):=by
    have h:=(Ai.out w7 Zo.out).zx hxm (sb:=a1) ha1.1;rw[Wx.out.1,if_pos rfl,HQ.out.2.2.1,HQ.out.1] at h;unfold rP;rw[h,if_pos (Or.inl (by decide))]
   obtain⟨rfl,rfl⟩:(0:Int)=cz∧(2:Int)=ez:=⟨by rw[←UU.out.1,hl],by rw[←UU.out.2,hl]⟩
   clear hl
   go_upto_region 7 with fail
   obtain⟨V7,LH⟩:=eX (w8.drew)
   have Cu:=zh (uE.out.trans ((lW LH).mono uE.out.size));refine wp_region_noPanic ?_;refine wp_region_held_drew (S:=(fun W=>W.cell? ⟨T,0,none⟩=some (.pointer (some ⟨B,0,none⟩))∧W.cell? ⟨T,1,none⟩=some (.pointer (some ⟨M,0,none⟩))∧W.cell? ⟨X8,0,none⟩=some (.int .i64 (x:Int))∧W.cell? ⟨X8,1,none⟩=some (.int .i64 ix)∧W.cell? ⟨X8+1,0,none⟩=some (.int .i64 JZ)∧W.cell? ⟨X8+1,1,none⟩=some (.int .i64 ix)∧W.cell? ⟨uF,0,none⟩=some (.int .i64 (y:Int))∧W.cell? ⟨uF,1,none⟩=some (.int .i64 iy)∧W.cell? ⟨uF+1,0,none⟩=some (.int .i64 J3)∧W.cell? ⟨uF+1,1,none⟩=some (.int .i64 iy))) (by kernel_rfl) ?_ (fun ah=>?_)
   ·exact (by rw[LH];exact HS.out V7 Cu.out)
   rw[LH] at ah ⊢;refine bn [0,1,2,3,4,5] ?_;iterate 6 (refine cZ ?_;try simp only[pS])
   refine bq ?_;refine bG 6 fun K hK=>?_;go_simp;refine (HHX.out V7 Cu.out).mono ?_;rintro e wh ⟨rfl,hsm⟩;rw[hsm];refine hK.out _ _ (HS.out V7 Cu.out) fun ah=>?_;clear hK K hsm wh;(try simp only[pS]);refine bn [7,8] ?_;iterate 2 (refine cZ ?_;try simp only[pS])
   refine bq ?_;refine bn [9,10,11,12,13,14,15,16] ?_;iterate 8 (refine cZ (v:=undef) ?_ (hy:=Or.inr ⟨by rfl,rfl⟩);try simp only[pS])
   refine bq ?_;refine bn [17] ?_;iterate 1 (refine cZ ?_;try simp only[pS])
   refine bq ?_;refine eY ?_;clear ah LH;go_wp2_with fail
   go_ret
   exact⟨rfl,GX.out.trans (Cu.out.mono GX.out.size)⟩
  | false=>
   cases gy with
   | true=>
    have hl:rP g JZ ix J3 iy=(0,2):=by
     have h:=(Ai.out w7 Zo.out).zx hym (sb:=b1) hb1.1;rw[Wx.out.2,if_pos rfl,HQ.out.2.2.2,HQ.out.2.1] at h;unfold rP;rw[h,if_pos (Or.inr (by decide))]
    obtain⟨rfl,rfl⟩:(0:Int)=cz∧(2:Int)=ez:=⟨by rw[←UU.out.1,hl],by rw[←UU.out.2,hl]⟩
    clear hl
    go_upto_region 7 with fail
    obtain⟨V7,LH⟩:=eX (w8.drew)
    have Cu:=zh (uE.out.trans ((lW LH).mono uE.out.size));refine wp_region_noPanic ?_;refine wp_region_held_drew (S:=(fun W=>W.cell? ⟨T,0,none⟩=some (.pointer (some ⟨B,0,none⟩))∧W.cell? ⟨T,1,none⟩=some (.pointer (some ⟨M,0,none⟩))∧W.cell? ⟨X8,0,none⟩=some (.int .i64 (x:Int))∧W.cell? ⟨X8,1,none⟩=some (.int .i64 ix)∧W.cell? ⟨X8+1,0,none⟩=some (.int .i64 JZ)∧W.cell? ⟨X8+1,1,none⟩=some (.int .i64 ix)∧W.cell? ⟨uF,0,none⟩=some (.int .i64 (y:Int))∧W.cell? ⟨uF,1,none⟩=some (.int .i64 iy)∧W.cell? ⟨uF+1,0,none⟩=some (.int .i64 J3)∧W.cell? ⟨uF+1,1,none⟩=some (.int .i64 iy))) (by kernel_rfl) ?_ (fun ah=>?_)
    ·exact (by rw[LH];exact HS.out V7 Cu.out)
    rw[LH] at ah ⊢;refine bn [0,1,2,3,4,5] ?_;iterate 6 (refine cZ ?_;try simp only[pS])
    refine bq ?_;refine bG 6 fun K hK=>?_;go_simp;refine (HHX.out V7 Cu.out).mono ?_;rintro e wh ⟨rfl,hsm⟩;rw[hsm];refine hK.out _ _ (HS.out V7 Cu.out) fun ah=>?_;clear hK K hsm wh;(try simp only[pS]);refine bn [7,8,9,10,11,12,13,14] ?_;iterate 8 (refine cZ ?_;try simp only[pS])
    refine bq ?_;refine bG 15 fun K hK=>?_;go_simp;refine (HHY.out V7 Cu.out).mono ?_;rintro e wi ⟨rfl,hsm⟩;rw[hsm];refine hK.out _ _ (HS.out V7 Cu.out) fun ah=>?_;clear hK K hsm wi;(try simp only[pS]);refine bn [16,17] ?_;iterate 2 (refine cZ ?_;try simp only[pS])
    refine bq ?_;refine eY ?_;clear ah LH;go_wp2_with fail
    go_ret
    exact⟨rfl,GX.out.trans (Cu.out.mono GX.out.size)⟩
   | false=>
    obtain⟨t,u,ht,hu,hts,hne,heq⟩:=(Ai.out w7 Zo.out).Sz (by omega) hxm hym (sa:=a1) (sb:=b1) ha1.1 hb1.1 Wx.out.1 Wx.out.2;rw[HQ.out.1,HQ.out.2.1,HQ.out.2.2.1,HQ.out.2.2.2] at hne heq;have Oz:=zh (fun W (hb:Below w7.heap.size w7 W)=>show Calls Tryz.prog 10 #[.pointer (some ⟨M,0,none⟩),.int .i64 (x:Int)] W fun e w'=>e=.returned (.int .i64 t)∧w'=W from by
     have h:=Ai.out W hb
     rw[←ht];exact AU bM M m aP f (x:Int) W h.mv (h.im.pull h.wf) (by exact .inr (by rw[aM hxm Wx.out.1];rfl)) (by omega) (by omega))
    have HTY:=zh (fun W (hb:Below w7.heap.size w7 W)=>show Calls Tryz.prog 10 #[.pointer (some ⟨M,0,none⟩),.int .i64 (y:Int)] W fun e w'=>e=.returned (.int .i64 u)∧w'=W from by
     have h:=Ai.out W hb
     rw[←hu];exact AU bM M m aP f (y:Int) W h.mv (h.im.pull h.wf) (by exact .inr (by rw[aM hym Wx.out.2];rfl)) (by omega) (by omega))
    have HU:=zh (And.intro ht (And.intro hts (And.intro hne heq)));clear ht hu hts hne heq
    go_upto_region 7 with fail
    obtain⟨V7,LH⟩:=eX (w8.drew)
    have Cu:=zh (uE.out.trans ((lW LH).mono uE.out.size));refine wp_region_noPanic ?_;refine wp_region_held_drew (S:=(fun W=>W.cell? ⟨T,0,none⟩=some (.pointer (some ⟨B,0,none⟩))∧W.cell? ⟨T,1,none⟩=some (.pointer (some ⟨M,0,none⟩))∧W.cell? ⟨X8,0,none⟩=some (.int .i64 (x:Int))∧W.cell? ⟨X8,1,none⟩=some (.int .i64 ix)∧W.cell? ⟨X8+1,0,none⟩=some (.int .i64 JZ)∧W.cell? ⟨X8+1,1,none⟩=some (.int .i64 ix)∧W.cell? ⟨uF,0,none⟩=some (.int .i64 (y:Int))∧W.cell? ⟨uF,1,none⟩=some (.int .i64 iy)∧W.cell? ⟨uF+1,0,none⟩=some (.int .i64 J3)∧W.cell? ⟨uF+1,1,none⟩=some (.int .i64 iy))) (by kernel_rfl) ?_ (fun ah=>?_)
    ·exact (by rw[LH];exact HS.out V7 Cu.out)
    rw[LH] at ah ⊢;refine bn [0,1,2,3,4,5] ?_;iterate 6 (refine cZ ?_;try simp only[pS])
    refine bq ?_;refine bG 6 fun K hK=>?_;go_simp;refine (HHX.out V7 Cu.out).mono ?_;rintro e wh ⟨rfl,hsm⟩;rw[hsm];refine hK.out _ _ (HS.out V7 Cu.out) fun ah=>?_;clear hK K hsm wh;(try simp only[pS]);refine bn [7,8,9,10,11,12,13,14] ?_;iterate 8 (refine cZ ?_;try simp only[pS])
    refine bq ?_;refine bG 15 fun K hK=>?_;go_simp;refine (HHY.out V7 Cu.out).mono ?_;rintro e wi ⟨rfl,hsm⟩;rw[hsm];refine hK.out _ _ (HS.out V7 Cu.out) fun ah=>?_;clear hK K hsm wi;(try simp only[pS]);refine bn [16,17] ?_;iterate 2 (refine cZ ?_;try simp only[pS])
    refine bq ?_;refine eY ?_;clear ah LH;by_cases htu:t=u
    ·subst htu;obtain⟨hl,hmx,hmy,hln⟩:=HU.out.2.2.2 rfl;obtain⟨z,hz⟩:=eX (ou ((Lv.cO nE (mg m f) t).idxOf ((x:Int),ix):Nat) ((Lv.cO nE (mg m f) t).idxOf ((y:Int),iy):Nat))
     rw[hz] at hl;obtain⟨rfl,rfl⟩:z=cz∧(0:Int)=ez:=⟨by rw[←UU.out.1,hl],by rw[←UU.out.2,hl]⟩
     have HRC:=zh (fun W (hb:Below w7.heap.size w7 W)=>show Calls Tryz.prog 11 #[.pointer (some ⟨M,0,none⟩),.agg #[.int .i64 (x:Int),.int .i64 ix],.agg #[.int .i64 (y:Int),.int .i64 iy]] W fun e w'=>e=.returned (.int .i64 z)∧Below W.heap.size W w' from by
      have h:=Ai.out W hb;rw[←hz];exact Nh bM M m aP f (x:Int) ix (y:Int) iy W h.mv (h.im.pull h.wf) (by omega) (fun k hk=>⟨by have:=(h.bd k hk).2.1;omega,(h.bd k hk).2.2,by
       by_cases h0:k=0
       ·subst h0;have:=h.km.1;omega
       ·have:=h.km.2 k hk h0;omega⟩) (by rw[aM hxm Wx.out.1];rfl) (by omega) t HU.out.1 HU.out.2.1 hmx hmy hln)
     clear hl hmx hmy hln hz
     go_upto_region 9 with fail
     obtain⟨V9,SA⟩:=eX (V7.drew)
     have LJ:=zh (Cu.out.trans ((lW SA).mono Cu.out.size));refine wp_region_noPanic ?_;refine wp_region_held_drew (S:=(fun W=>W.cell? ⟨T,0,none⟩=some (.pointer (some ⟨B,0,none⟩))∧W.cell? ⟨T,1,none⟩=some (.pointer (some ⟨M,0,none⟩))∧W.cell? ⟨X8,0,none⟩=some (.int .i64 (x:Int))∧W.cell? ⟨X8,1,none⟩=some (.int .i64 ix)∧W.cell? ⟨X8+1,0,none⟩=some (.int .i64 JZ)∧W.cell? ⟨X8+1,1,none⟩=some (.int .i64 ix)∧W.cell? ⟨uF,0,none⟩=some (.int .i64 (y:Int))∧W.cell? ⟨uF,1,none⟩=some (.int .i64 iy)∧W.cell? ⟨uF+1,0,none⟩=some (.int .i64 J3)∧W.cell? ⟨uF+1,1,none⟩=some (.int .i64 iy))) (by kernel_rfl) ?_ (fun ah=>?_)
     ·exact (by rw[SA];exact HS.out V9 LJ.out)
     rw[SA] at ah ⊢;refine bn [0,1,2,3,4,5,7,8,9,10,11,12] ?_;iterate 12 (refine cZ ?_;try simp only[pS])
     refine bq ?_;refine bG 6 fun K hK=>?_;go_simp;refine (Oz.out V9 LJ.out).mono ?_;rintro e wj ⟨rfl,hsm⟩;rw[hsm];refine hK.out _ _ (HS.out V9 LJ.out) fun ah=>?_;clear hK K hsm wj;(try simp only[pS]);refine bG 13 fun K hK=>?_;go_simp;refine (HTY.out V9 LJ.out).mono ?_;rintro e wk ⟨rfl,hsm⟩;rw[hsm];refine hK.out _ _ (HS.out V9 LJ.out) fun ah=>?_;clear hK K hsm wk;(try simp only[pS]);refine bn [14] ?_;iterate 1 (refine cZ ?_;try simp only[pS])
     refine bq ?_;refine eY ?_;clear ah SA
     go_upto_region 11 with fail
     obtain⟨V11,SB⟩:=eX (V9.drew)
     have SC:=zh (LJ.out.trans ((lW SB).mono LJ.out.size));refine wp_region_noPanic ?_;refine wp_region_held_drew (S:=(fun W=>W.cell? ⟨T,0,none⟩=some (.pointer (some ⟨B,0,none⟩))∧W.cell? ⟨T,1,none⟩=some (.pointer (some ⟨M,0,none⟩))∧W.cell? ⟨X8,0,none⟩=some (.int .i64 (x:Int))∧W.cell? ⟨X8,1,none⟩=some (.int .i64 ix)∧W.cell? ⟨X8+1,0,none⟩=some (.int .i64 JZ)∧W.cell? ⟨X8+1,1,none⟩=some (.int .i64 ix)∧W.cell? ⟨uF,0,none⟩=some (.int .i64 (y:Int))∧W.cell? ⟨uF,1,none⟩=some (.int .i64 iy)∧W.cell? ⟨uF+1,0,none⟩=some (.int .i64 J3)∧W.cell? ⟨uF+1,1,none⟩=some (.int .i64 iy))) (by kernel_rfl) ?_ (fun ah=>?_)
     ·exact (by rw[SB];exact HS.out V11 SC.out)
     rw[SB] at ah ⊢;refine bn [0,1,2,3,4,5,6,7,8,9] ?_;iterate 10 (refine cZ ?_;try simp only[pS])
     refine bq ?_;refine bG 10 fun K hK=>?_;go_simp;refine (HRC.out V11 SC.out).mono ?_;rintro e uU ⟨rfl,hbb⟩;have SE:=zh (SC.out.trans (hbb.mono SC.out.size));refine hK.out _ _ (HS.out uU SE.out) fun ah=>?_;clear hK K hbb;(try simp only[pS]);refine bn [11,12,13] ?_;iterate 3 (refine cZ ?_;try simp only[pS])
     refine bq ?_;refine eY ?_;clear ah SB;go_wp2_with fail
     go_ret
     exact⟨by simp,GX.out.trans (SE.out.mono GX.out.size)⟩
    ·skip
     have hl:=HU.out.2.2.1 htu;obtain⟨rfl,rfl⟩:(0:Int)=cz∧(6:Int)=ez:=⟨by rw[←UU.out.1,hl],by rw[←UU.out.2,hl]⟩
     have hq1:(t == u)=false:=by simpa using htu
     have hq2:(t != u)=true:=by simpa using htu
     clear hl
     go_upto_region 9 with fail
     obtain⟨V9,SA⟩:=eX (V7.drew)
     have LJ:=zh (Cu.out.trans ((lW SA).mono Cu.out.size));refine wp_region_noPanic ?_;refine wp_region_held_drew (S:=(fun W=>W.cell? ⟨T,0,none⟩=some (.pointer (some ⟨B,0,none⟩))∧W.cell? ⟨T,1,none⟩=some (.pointer (some ⟨M,0,none⟩))∧W.cell? ⟨X8,0,none⟩=some (.int .i64 (x:Int))∧W.cell? ⟨X8,1,none⟩=some (.int .i64 ix)∧W.cell? ⟨X8+1,0,none⟩=some (.int .i64 JZ)∧W.cell? ⟨X8+1,1,none⟩=some (.int .i64 ix)∧W.cell? ⟨uF,0,none⟩=some (.int .i64 (y:Int))∧W.cell? ⟨uF,1,none⟩=some (.int .i64 iy)∧W.cell? ⟨uF+1,0,none⟩=some (.int .i64 J3)∧W.cell? ⟨uF+1,1,none⟩=some (.int .i64 iy))) (by kernel_rfl) ?_ (fun ah=>?_)
     ·exact (by rw[SA];exact HS.out V9 LJ.out)
     rw[SA] at ah ⊢;refine bn [0,1,2,3,4,5,7,8,9,10,11,12] ?_;iterate 12 (refine cZ ?_;try simp only[pS])
     refine bq ?_;refine bG 6 fun K hK=>?_;go_simp;refine (Oz.out V9 LJ.out).mono ?_;rintro e wj ⟨rfl,hsm⟩;rw[hsm];refine hK.out _ _ (HS.out V9 LJ.out) fun ah=>?_;clear hK K hsm wj;(try simp only[pS]);refine bG 13 fun K hK=>?_;go_simp;refine (HTY.out V9 LJ.out).mono ?_;rintro e wk ⟨rfl,hsm⟩;rw[hsm];refine hK.out _ _ (HS.out V9 LJ.out) fun ah=>?_;clear hK K hsm wk;(try simp only[pS]);refine bn [14] ?_;iterate 1 (refine cZ ?_;try simp only[pS])
     refine bq ?_;refine eY ?_;clear ah SA;go_wp2_with fail
     go_ret
     exact⟨rfl,GX.out.trans (LJ.out.mono GX.out.size)⟩
end
end Go.Proofs.YtmhjlifmcadefaaGreatDoor
