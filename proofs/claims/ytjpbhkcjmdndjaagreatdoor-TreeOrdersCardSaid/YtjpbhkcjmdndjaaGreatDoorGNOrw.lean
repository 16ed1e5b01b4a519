/- Part of a proof about trees. -/
import Derived.Deep.CutBlock
import Derived.Deep.DeepCutAuto
import Derived.Test.YtjpbhkcjmdndjaaGreatDoorS08
set_option linter.unusedVariables false
set_option linter.unusedSimpArgs false
set_option maxHeartbeats 16000000
set_option maxRecDepth 100000
namespace Go.Proofs.YtjpbhkcjmdndjaaGreatDoor
section
open Go.RowKit Go.Shelf
attribute [local go_sem] Oper.semAt_some
theorem Bq {P:Program} {ops:Array Oper} {Q:Exit→Act→World→Prop} {md:Region.Mode} {S:World→Prop} {is:List Nat} {i:Nat} {oi:Oper} {v:Value} {fuel:Nat} {listed:Array Bool} {a:Act} {w:World}
  (h:AG is (wpAnyH P md ops Q S fuel (listed.setIfInBounds i true) (a.put oi.dst v) w)) (hi:QX ops.toList i=some oi:=by rfl)
  (hc:(Region.noSelect ops && Region.free md ops listed i && (Region.ready md ops listed).contains i)=true:=by as_aux_lemma=>kernel_rfl)
  (hy:YieldsIf P ops S oi v a:=by (refine .inl ⟨rfl,?_⟩;intro w' hSw;(try dsimp only at hSw);(repeat (obtain⟨_,hSw⟩:_∧_:=hSw));go_simp<;>with_reducible rfl))
  (hQ:∀ c a w,Q (.panic c) (a.put oi.dst v) w→Q (.panic c) a w:=by exact fun _ _ _ h=>h) (hS:S w:=by assumption):
  AG (i::is) (wpAnyH P md ops Q S (fuel+1) listed a w):=eY h hi hc hy hQ hS
theorem tZ {P:Program} {ops:Array Oper} {Q:Exit→Act→World→Prop} {md:Region.Mode} {S:World→Prop} (i:Nat) {o:Oper} {fuel:Nat} {listed:Array Bool} {a:Act} {w:World}
  (h:∀ K':Act→World→Prop,Shut (∀ a w,S w→(S w→wpAnyH P md ops Q S fuel (listed.setIfInBounds i true) a w)→K' a w)→if Region.wanted o (yielded ops a.tmps)=true then Oper.wp P o a w K' Q else K' (a.put o.dst undef) w)
  (hr:Region.ready md ops listed=[i]:=by as_aux_lemma=>kernel_rfl) (ho:ops[i]?=some o:=by rfl):wpAnyH P md ops Q S (fuel+1) listed a w:=bO i h hr ho
theorem KO {P:Program} {ops:Array Oper} {Q:Exit→Act→World→Prop} {md:Region.Mode} {S:World→Prop} {fuel:Nat} {listed:Array Bool} {a:Act} {w:World} (h:Q .normal a w) (hr:Region.ready md ops listed=[]:=by as_aux_lemma=>kernel_rfl):wpAnyH P md ops (NoPanic Q) S fuel listed a w:=gQ h hr
theorem EU (v:Value) (n:Nat) (F:Nat→qQ) (pa pb:Int) (w:World) (H:Mc w v n F) (hn:n≤9223372036854775807) (hF:∀ i,i<n→XK (F i)) (ha:0≤pa∧pa≤255) (hb:0≤pb∧pb≤255) (hT:Lit w):
  Calls Tryz.prog 3 #[v,.int .u8 pa,.int .u8 pb] w fun e w'=>e=.returned (.bool true)∧Below w.heap.size w w':=by
 have HH:=zh (fun (W:World) (hb:Below w.heap.size w W)=>H.below hb);have HT:=zh (fun (W:World) (hb:Below w.heap.size w W)=>hT.below hb);have HF:=zh hF;have QC:=zh (And.intro ha hb);obtain⟨A,c,rfl,-⟩:=H;clear hT hF ha hb;obtain⟨w0,hw0⟩:=eX (w.alloc (.cells #[.bool false] 4))
 have hb0:Below w.heap.size w w0:=gU hw0;have hR0:Whole w0 w.heap.size #[.bool false] 4:=by rw[←hw0];exact Whole.new _ _ _
 have hz0:w0.heap.size=w.heap.size+1:=by rw[←hw0];simp
 have HW0:=zh (And.intro hw0 (And.intro hb0 (And.intro hR0 hz0)));clear hw0 hb0 hR0 hz0;refine (callsIn_wide (n:=8)).1 ?_;refine callsIn_of_wp_marks Tryz.func3 rfl trivial ?_ rfl;refine wpIn_wide.2 ?_;simp only[Tryz.ntmps3,pT,Nat.reduceAdd,Nat.reduceSub]
 go_upto_region 1 with fail
 rw[HW0.out.1];go_wp2_with fail;refine (Cy w0 (HT.out w0 HW0.out.2.1)).mono ?_;rintro e w1 ⟨rfl,hb1⟩;have HB1:=zh hb1;have QZ:=zh (HW0.out.2.1.trans (hb1.mono HW0.out.2.1.size));clear hb1;go_wp2_with fail;refine (Q0 _ n F w1 (HH.out w1 QZ.out) hn).mono ?_;rintro e w2 ⟨r,rfl,hw2,XL⟩;rw[hw2];clear hw2;cases r with
 | false=>
  have r0:=(HW0.out.2.2.1.below HB1.out HW0.out.2.2.1.lt).cell 0;go_wp2_with fail;refine (Cy w1 (HT.out w1 QZ.out)).mono ?_;rintro e w3 ⟨rfl,hb3⟩;have HR3:=zh ((HW0.out.2.2.1.below HB1.out HW0.out.2.2.1.lt).below hb3 (HW0.out.2.2.1.below HB1.out HW0.out.2.2.1.lt).lt);have HB3:=zh (QZ.out.trans (hb3.mono QZ.out.size));have r1:=HR3.out.cell 0;have f1:=HR3.out.free 0;clear hb3;go_wp2_with fail;have r2:=(HR3.out.put 0 (.bool true)).cell 0;refine⟨.bool true,?_,rfl,HB3.out.setCell (Nat.le_refl _) _⟩;simp[results,Tryz.results3,go_sem,r2]
 | true=>
  have HFW:=zh (XL rfl);clear XL;go_wp2_with fail;refine (Md 2 5 w1).mono ?_;rintro e w3 hS;obtain⟨T,B,M,base,bM,vs,vf,aQ,vh,rfl,Nz⟩:=@tw_start ⟨w0.heap.size,w0,fun _=>False⟩ 2 5 w1 w3 e hS HB1.out HB1.out.size (fun _ h=>h);have HB3:Hid (Below w0.heap.size w0 w3):=zh (by letI:mY:=⟨w0.heap.size,w0,fun _=>False⟩;exact Nz.kp.1);obtain⟨w4,hw4⟩:=eX (w3.alloc (.cells #[.pointer (some ⟨T,0,none⟩)] 25))
  have hb4:Below w3.heap.size w3 w4:=gU hw4;have ow:Hid (Below w0.heap.size w0 w4):=zh (HB3.out.trans (hb4.mono HB3.out.size));obtain⟨K2,e1,e2,e3⟩:∃ K2:mY,K2.L=w0.heap.size∧K2.w0=w4∧K2.S=fun k=>k=w3.heap.size:=⟨⟨w0.heap.size,w4,fun k=>k=w3.heap.size⟩,rfl,rfl,rfl⟩
  obtain⟨Ah,ch,hms⟩:=TW.ms (TW.keep Nz hb4 (by rw[←hw4];simp) e1 e2 e3);have XM:=zh hms;have ZF:Hid (∀ (i m ch:Nat) (Ah:Option Addr) (W:World),MS T B M base bM 2 5 m Ah ch i W→Whole W w3.heap.size #[.pointer (some ⟨T,0,none⟩)] 25∧Below w0.heap.size w0 W):=zh fun i m ch Ah W h=>⟨h.box (by rw[e3]) (by rw[e2,←hw4];exact Whole.new _ _ _),by have h2:=h.cell.2.2;rw[e1,e2] at h2;exact ow.out.trans h2⟩
  have gJ:=zh hw4;have XO:=zh e1;have HZ3:=zh HB3.out.size;clear hS Nz hms hw4 hb4 e1 e2 e3 HB3
  go_upto_block 0 with fail
  rw[gJ.out];clear gJ
  go_cut [8] from 32 to 51 (fun u wx=>∃ (i m ch:Nat) (Ah:Option Addr),u=.int .i64 (i:Int)∧i≤60∧Hid (MS T B M base bM 2 5 m Ah ch i wx))
  case first=>
   go_wp2_with fail
   go_loopw [8] (fun u wr=>∃ (i m ch:Nat) (Ah:Option Addr),u=.int .i64 (i:Int)∧i≤n∧Hid (MS T B M base bM 2 5 m Ah ch i wr)) (fun u _=>n - (intOf u).toNat)
   case atStart=>exact⟨0,1,ch,Ah,rfl,Nat.zero_le _,XM⟩
   case round=>
    clear XM;obtain⟨wo,hwo⟩:∃ wo:World,wo=wr:=⟨_,rfl⟩
    subst hwo;obtain⟨i,m,ch,Ah,rfl,hi,HM⟩:=hrel;obtain⟨t2,hml,-⟩:=HM.out.cell;obtain⟨hwx,hbk⟩:=ZF.out _ _ _ _ _ HM.out;have x0:=hwx.cell 0;have Tp:=zh hbk;have abL:=HFW.out.1;clear hbk hwx;by_cases hin:i<n
    ·have y0:(0:Int)≤(i:Int):=by omega
     have y1:(i:Int)<(n:Int):=by omega
     by_cases IG:m<300
     ·have y2:(m:Int)<300:=by omega
      obtain⟨A',c',e1,h2⟩:=HH.out wo (HW0.out.2.1.trans (Tp.out.mono HW0.out.2.1.size));injection e1 with e1 e2 e3;obtain⟨go,oo,hA,hcells⟩:=h2 (by omega);rw[←e1] at hA;subst hA;have ho:=(HF.out i hin).ok (HFW.out.2 i hin);have pO:∀ W,Below w0.heap.size w0 W→((W.cell? ⟨go,oo+i*8,none⟩=some (.int .u8 (F i).kind)∧W.cell? ⟨go,oo+i*8+1,none⟩=some (.int .u8 (F i).a)∧W.cell? ⟨go,oo+i*8+2,none⟩=some (.int .u8 (F i).b)∧W.cell? ⟨go,oo+i*8+3,none⟩=some (.int .u8 (F i).c)∧W.cell? ⟨go,oo+i*8+4,none⟩=some (.string (F i).s)∧W.cell? ⟨go,oo+i*8+5,none⟩=some (.string (F i).t)∧W.cell? ⟨go,oo+i*8+6,none⟩=some (.int .i8 (F i).n)∧W.cell? ⟨go,oo+i*8+7,none⟩=some (.int .i8 (F i).k))∧True):=fun W hb=>by
       obtain⟨A2,c2,f1,f2⟩:=HH.out W (HW0.out.2.1.trans (hb.mono HW0.out.2.1.size));injection f1 with f1 f3 f4;obtain⟨g2,o2,hA2,hc⟩:=f2 (by omega);rw[←f1] at hA2;injection hA2 with hA2;injection hA2 with hA2 hA3;subst hA2;subst hA3;exact⟨⟨hc i 0 _ hin rfl,hc i 1 _ hin rfl,hc i 2 _ hin rfl,hc i 3 _ hin rfl,hc i 4 _ hin rfl,hc i 5 _ hin rfl,hc i 6 _ hin rfl,hc i 7 _ hin rfl⟩,trivial⟩
      obtain⟨V,hV⟩:=eX (wo.drew)
      have cZ:=zh (Tp.out.trans ((mW hV).mono Tp.out.size));have hmv:=HM.out.below (mW hV);have HOP:=zh (hmv.op (F i) ho (by omega) (by omega) (HT.out V (HW0.out.2.1.trans (cZ.out.mono HW0.out.2.1.size))));have hs0:=And.intro ((ZF.out _ _ _ _ _ hmv).1.cell 0) (pO V cZ.out).1;have BF:=zh pO;clear e1 e2 e3 hcells h2 ho HM pO hmv
      go_upto_region 7 with fail
      refine wp_region_noPanic ?_;refine wp_region_held_drew (S:=(fun W=>W.cell? ⟨w3.heap.size,0,none⟩=some (.pointer (some ⟨T,0,none⟩))∧W.cell? ⟨go,oo+i*8,none⟩=some (.int .u8 (F i).kind)∧W.cell? ⟨go,oo+i*8+1,none⟩=some (.int .u8 (F i).a)∧W.cell? ⟨go,oo+i*8+2,none⟩=some (.int .u8 (F i).b)∧W.cell? ⟨go,oo+i*8+3,none⟩=some (.int .u8 (F i).c)∧W.cell? ⟨go,oo+i*8+4,none⟩=some (.string (F i).s)∧W.cell? ⟨go,oo+i*8+5,none⟩=some (.string (F i).t)∧W.cell? ⟨go,oo+i*8+6,none⟩=some (.int .i8 (F i).n)∧W.cell? ⟨go,oo+i*8+7,none⟩=some (.int .i8 (F i).k))) (by kernel_rfl) ?_ (fun ah=>?_)
      ·exact (by rw[hV];exact hs0)
      rw[hV] at ah ⊢;refine bE [0,1,2,3,4] ?_;iterate 5 (refine Bq ?_;try simp only[pS])
      refine bF ?_;refine tZ 5 fun K hK=>?_;go_simp;refine HOP.out.mono ?_;rintro e w5 ⟨lv,m',Ah',ch',rfl,hms⟩;have XM:=zh hms;have hx5:=ZF.out _ _ _ _ _ hms;refine hK.out _ _ ⟨hx5.1.cell 0,(BF.out w5 hx5.2).1⟩ fun ah=>?_;clear hK K hms HOP hx5 hs0;(try simp only[pS]);refine KO ?_;clear ah;go_wp2_with fail
      go_roundw
      case rel=>exact⟨i+1,m',ch',Ah',by go_num,by omega,XM⟩
      case measure=>simp[intOf];omega
     ·have y2:¬ (m:Int)<300:=by omega
      go_wp2_with fail;go_meet
      case rel=>exact⟨i,m,ch,Ah,rfl,by omega,HM⟩
    ·have y1:¬ (i:Int)<(n:Int):=by omega
     go_wp2_with fail;go_meet
     case rel=>exact⟨i,m,ch,Ah,rfl,by omega,HM⟩
  case rest=>
   obtain⟨wk,hwk⟩:∃ x:World,x=wc:=⟨_,rfl⟩
   subst hwk;obtain⟨i,m,ch,Ah,rfl,abM,HM⟩:=hcut;obtain⟨t2,hml,-⟩:=HM.out.cell;obtain⟨hwx,hbk⟩:=ZF.out _ _ _ _ _ HM.out;have Tp:=zh hbk;have NA:=zh (fun (W:World) (hb:Below wk.heap.size wk W)=>(hwx.below hb hwx.lt).cell 0);obtain⟨vs,vf,aQ,n',live,fr,av,f,hs,g,Jh⟩:=HM.out;have Cz:=zh Jh;have HW:=zh (fun (W:World) (hb:Below wk.heap.size wk W)=>Jh.below hb);have hm0:=Jh.m0;obtain⟨gh,oh,hA⟩:∃ gh oh,Ah=some ⟨gh,oh,none⟩:=by
    have hr:=Jh.tw.row;rw[Jh.len] at hr;obtain⟨gh,oh,e1,-,-,-,-⟩:=hr.cells (by omega);exact⟨gh,oh,e1⟩
   subst hA;have qy:=zh (fun (W:World) (hb:Below wk.heap.size wk W) (j:Nat) (hj:j<m)=>(show W.cell? ⟨gh,oh+j,none⟩=some (.int .i64 (hof hs (j:Int))) from by
    have hr:=(Jh.below hb).tw.row;rw[Jh.len] at hr
    exact hr.cellAt j _ (by omega) (dP (Jh.bI hj))))
   obtain⟨x,hx⟩:∃ x:Nat,x=pa.toNat % m:=⟨_,rfl⟩
   obtain⟨y,hy⟩:∃ y:Nat,y=pb.toNat % m:=⟨_,rfl⟩
   have hxm:x<m:=by rw[hx];exact Nat.mod_lt _ hm0
   have hym:y<m:=by rw[hy];exact Nat.mod_lt _ hm0
   have hpx:Int.tmod pa (m:Int)=(x:Int):=by rw[hx,Int.tmod_eq_emod_of_nonneg QC.out.1.1,Int.natCast_emod,Int.toNat_of_nonneg QC.out.1.1]
   have hpy:Int.tmod pb (m:Int)=(y:Int):=by rw[hy,Int.tmod_eq_emod_of_nonneg QC.out.2.1,Int.natCast_emod,Int.toNat_of_nonneg QC.out.2.1]
   clear hx hy;obtain⟨cc,er,hcm,hgo,hlv⟩:=Jh.cmp hxm hym;have HCM:=zh hcm;have HGO:=zh hgo;have uG:=zh hlv;obtain⟨hx,hhx⟩:=eX (hof hs (x:Int))
   obtain⟨hy,ZG⟩:=eX (hof hs (y:Int))
   have HC:=zh (fun (W:World) (hb:Below wk.heap.size wk W)=>(show W.cell? ⟨w3.heap.size,0,none⟩=some (.pointer (some ⟨T,0,none⟩))∧W.cell? ⟨T,0,none⟩=some (.pointer (some ⟨B,0,none⟩))∧W.cell? ⟨T,1,none⟩=some (.pointer (some ⟨M,0,none⟩))∧W.cell? ⟨T,2,none⟩=some (.slice (some ⟨gh,oh,none⟩) m ch)∧W.cell? ⟨gh,oh+x,none⟩=some (.int .i64 hx)∧W.cell? ⟨gh,oh+y,none⟩=some (.int .i64 hy) from⟨NA.out W hb,(Jh.below hb).tw.var.cell 0,(Jh.below hb).tw.var.cell 1,(Jh.below hb).tw.var.cell 2,by rw[←hhx];exact qy.out W hb x hxm,by rw[←ZG];exact qy.out W hb y hym⟩));rw[hhx,ZG] at hcm;have aaj:=zh hcm;have Q5:=zh (And.intro hhx ZG);have x0:(0:Int)≤(x:Int):=by omega
   have x1:(x:Int)<(m:Int):=by omega
   have z0:(0:Int)≤(y:Int):=by omega
   have z1:(y:Int)<(m:Int):=by omega
   have m1:(0:Int)<(m:Int):=by omega
   have m2:((m:Int) == 0)=false:=by simp;omega
   have m3:¬ (m:Int)=0:=by omega
   have m4:¬ m=0:=by omega
   have wa:IntKind.i64.wrap pa=pa:=by rw[IntKind.wrap_i64];have:=QC.out;omega
   have wb:IntKind.i64.wrap pb=pb:=by rw[IntKind.wrap_i64];have:=QC.out;omega
   have pa0:=QC.out.1.1;have pa1:=QC.out.1.2;have pb0:=QC.out.2.1;have pb1:=QC.out.2.2;have HLO:=zh (show w.heap.size<w3.heap.size∧w.heap.size<T∧w.heap.size<gh from by
    have h1:=Jh.kp.2.2.2.1;have h2:=Jh.kp.2.2.2.2 gh rfl;have h3:=HZ3.out;have h4:=HW0.out.2.2.2;rw[XO.out] at h1 h2
    omega)
   clear hbk Jh XM t2 HFW HF HH HM hn hwx hcm hgo hlv hhx ZG HCM;have HBk:=zh (Below.refl wk.heap.size wk);obtain⟨V8,hV8⟩:=eX (wk.drew)
   have UG:=zh (HBk.out.trans ((mW hV8).mono HBk.out.size))
   go_upto_region 8 with fail
   refine wp_region_noPanic ?_;refine wp_region_held_drew (S:=(fun W=>W.cell? ⟨w3.heap.size,0,none⟩=some (.pointer (some ⟨T,0,none⟩))∧W.cell? ⟨T,0,none⟩=some (.pointer (some ⟨B,0,none⟩))∧W.cell? ⟨T,1,none⟩=some (.pointer (some ⟨M,0,none⟩))∧W.cell? ⟨T,2,none⟩=some (.slice (some ⟨gh,oh,none⟩) m ch)∧W.cell? ⟨gh,oh+x,none⟩=some (.int .i64 hx)∧W.cell? ⟨gh,oh+y,none⟩=some (.int .i64 hy))) (by kernel_rfl) ?_ (fun ah=>?_)
   ·exact (by rw[hV8];exact HC.out V8 UG.out)
   rw[hV8] at ah ⊢;refine bE [0,1,2,3,4,5,6,7,8,9,10,11,12,13,14,15,16,17] ?_;iterate 18 (refine Bq ?_;try simp only[pS])
   refine bF ?_;refine KO ?_;clear ah;obtain⟨V9,hV9⟩:=eX (V8.drew)
   have Q6:=zh (UG.out.trans ((mW hV9).mono UG.out.size))
   go_upto_region 9 with fail
   refine wp_region_noPanic ?_;refine wp_region_held_drew (S:=(fun W=>W.cell? ⟨w3.heap.size,0,none⟩=some (.pointer (some ⟨T,0,none⟩))∧W.cell? ⟨T,0,none⟩=some (.pointer (some ⟨B,0,none⟩))∧W.cell? ⟨T,1,none⟩=some (.pointer (some ⟨M,0,none⟩))∧W.cell? ⟨T,2,none⟩=some (.slice (some ⟨gh,oh,none⟩) m ch)∧W.cell? ⟨gh,oh+x,none⟩=some (.int .i64 hx)∧W.cell? ⟨gh,oh+y,none⟩=some (.int .i64 hy))) (by kernel_rfl) ?_ (fun ah=>?_)
   ·exact (by rw[hV9];exact HC.out V9 Q6.out)
   rw[hV9] at ah ⊢;refine bE [0,1,2,3,4,5,6,7,8,9,10,11,12,13,14,15,16,17] ?_;iterate 18 (refine Bq ?_;try simp only[pS])
   refine bF ?_;refine tZ 18 fun K hK=>?_;go_simp;refine (aaj.out V9 Q6.out).mono ?_;rintro e w5 ⟨rfl,hbb⟩;have mH:=zh (Q6.out.trans (hbb.mono Q6.out.size));refine hK.out _ _ (HC.out w5 mH.out) fun ah=>?_;clear hK K hbb;(try simp only[pS]);refine bE [19,20,21,22,23] ?_;iterate 5 (refine Bq ?_;try simp only[pS])
   refine bF ?_;refine KO ?_;clear ah;have hb5:=mH.out;obtain⟨c0,c1,c2,c3,c4,c5⟩:=HC.out w5 hb5;obtain⟨gx,hgx⟩:=eX ((f x).gone)
   obtain⟨gy,hgy⟩:=eX ((f y).gone)
   have Wn:=zh (bX bM M m aQ f x w5 (HW.out w5 hb5).mv hxm (by omega));have HRY:=zh (bX bM M m aQ f y w5 (HW.out w5 hb5).mv hym (by omega));rw[hgx] at Wn;rw[hgy] at HRY;have Wt:=zh (fun (W:World) (hb:Below wk.heap.size wk W)=>(show Calls Tryz.prog 10 #[.pointer (some ⟨B,0,none⟩),.int .i64 hx,.int .i64 hy] W fun e w'=>e=.returned (.bool (decide (hx∈Tr.aY g hy)))∧Below W.heap.size W w' from nA base B 2 5 (hof hs 0) hx hy live n' g av fr vs vf W (HW.out W hb).tv Cz.out.so Cz.out.wf (by rw[←Q5.out.2];exact Cz.out.i64 hym)));have Wu:=zh hgx;have HGY:=zh hgy;have hRl:w.heap.size<w0.heap.size:=HW0.out.2.2.1.lt;have HRW:=zh (fun (W:World) (hb:Below wk.heap.size wk W)=>(HW0.out.2.2.1.below Tp.out hRl).below hb (HW0.out.2.2.1.below Tp.out hRl).lt);have QD:=zh (fun (W:World) (hb:Below wk.heap.size wk W)=>HW0.out.2.1.trans ((Tp.out.trans (hb.mono Tp.out.size)).mono HW0.out.2.1.size));have KQ:=zh (fun (W:World) (hb:Below wk.heap.size wk W) (v:Value)=>(show (W.setCell ⟨w.heap.size,0,none⟩ v).cell? ⟨w3.heap.size,0,none⟩=some (.pointer (some ⟨T,0,none⟩))∧(W.setCell ⟨w.heap.size,0,none⟩ v).cell? ⟨T,0,none⟩=some (.pointer (some ⟨B,0,none⟩))∧(W.setCell ⟨w.heap.size,0,none⟩ v).cell? ⟨T,1,none⟩=some (.pointer (some ⟨M,0,none⟩))∧(W.setCell ⟨w.heap.size,0,none⟩ v).cell? ⟨T,2,none⟩=some (.slice (some ⟨gh,oh,none⟩) m ch)∧(W.setCell ⟨w.heap.size,0,none⟩ v).cell? ⟨gh,oh+x,none⟩=some (.int .i64 hx)∧(W.setCell ⟨w.heap.size,0,none⟩ v).cell? ⟨gh,oh+y,none⟩=some (.int .i64 hy) from by
    obtain⟨h1,h2,h3,h4,h5,h6⟩:=HC.out W hb;obtain⟨g1,g2,g3⟩:=HLO.out;rw[World.cell?_setCell_far _ _ _ _ (Nat.ne_of_lt g1),World.cell?_setCell_far _ _ _ _ (Nat.ne_of_lt g2),World.cell?_setCell_far _ _ _ _ (Nat.ne_of_lt g2),World.cell?_setCell_far _ _ _ _ (Nat.ne_of_lt g2),World.cell?_setCell_far _ _ _ _ (Nat.ne_of_lt g3),World.cell?_setCell_far _ _ _ _ (Nat.ne_of_lt g3)]
    exact⟨h1,h2,h3,h4,h5,h6⟩))
   clear hb5 hgx hgy hRl;go_wp2_with fail;refine Wn.out.mono ?_;rintro e w6 ⟨rfl,jM⟩;rw[jM];clear jM w6;have FX:gx=true∨gy=true→cc=0∧er=6∧decide (hx∈Tr.aY g hy)=false:=fun h=>by
    have:=HGO.out (by rw[Wu.out,HGY.out];exact h);rw[Q5.out.1,Q5.out.2] at this;exact this
   cases gx with
   | true=>
    obtain⟨rfl,rfl,hcf⟩:=FX (.inl rfl);rw[hcf] at Wt;clear FX hcf;obtain⟨VB,mX⟩:=eX (w5.drew)
    have DY:=zh (mH.out.trans ((mW mX).mono mH.out.size))
    go_upto_region 11 with fail
    refine wp_region_noPanic ?_;refine wp_region_held_drew (S:=(fun W=>W.cell? ⟨w3.heap.size,0,none⟩=some (.pointer (some ⟨T,0,none⟩))∧W.cell? ⟨T,0,none⟩=some (.pointer (some ⟨B,0,none⟩))∧W.cell? ⟨T,1,none⟩=some (.pointer (some ⟨M,0,none⟩))∧W.cell? ⟨T,2,none⟩=some (.slice (some ⟨gh,oh,none⟩) m ch)∧W.cell? ⟨gh,oh+x,none⟩=some (.int .i64 hx)∧W.cell? ⟨gh,oh+y,none⟩=some (.int .i64 hy))) (by kernel_rfl) ?_ (fun ah=>?_)
    ·exact (by rw[mX];exact HC.out VB DY.out)
    rw[mX] at ah ⊢;refine bE [0,1,2,3,4,5,6,7,8,9,10,11,12,13,14,15,16,17,18,19,20,21,22,23,24] ?_;iterate 25 (refine Bq ?_;try simp only[pS])
    refine bF ?_;refine tZ 25 fun K hK=>?_;go_simp;refine (Wt.out VB DY.out).mono ?_;rintro e w7 ⟨rfl,hbb⟩;have iL:=zh (DY.out.trans (hbb.mono DY.out.size));refine hK.out _ _ (HC.out w7 iL.out) fun ah=>?_;clear hK K hbb;(try simp only[pS]);refine bE [26,27] ?_;iterate 2 (refine Bq ?_;try simp only[pS])
    refine bF ?_;have rs:=HRW.out w7 iL.out;have r0:=rs.cell 0;have rf:=rs.free 0;refine tZ 28 fun K hK=>?_;go_simp;refine hK.out _ _ (KQ.out w7 iL.out _) fun ah=>?_;clear hK K;(try simp only[pS]);refine KO ?_;clear ah;have r2:=(rs.put 0 (.bool true)).cell 0;go_wp2_with fail;refine⟨.bool true,?_,rfl,(QD.out w7 iL.out).setCell (Nat.le_refl _) _⟩;simp[results,Tryz.results3,go_sem,r2]
   | false=>
    go_wp2_with fail;refine HRY.out.mono ?_;rintro e w6 ⟨rfl,jM⟩;rw[jM];clear jM w6;cases gy with
    | true=>
     obtain⟨rfl,rfl,hcf⟩:=FX (.inr rfl);rw[hcf] at Wt;clear FX hcf;obtain⟨VB,mX⟩:=eX (w5.drew)
     have DY:=zh (mH.out.trans ((mW mX).mono mH.out.size))
     go_upto_region 11 with fail
     refine wp_region_noPanic ?_;refine wp_region_held_drew (S:=(fun W=>W.cell? ⟨w3.heap.size,0,none⟩=some (.pointer (some ⟨T,0,none⟩))∧W.cell? ⟨T,0,none⟩=some (.pointer (some ⟨B,0,none⟩))∧W.cell? ⟨T,1,none⟩=some (.pointer (some ⟨M,0,none⟩))∧W.cell? ⟨T,2,none⟩=some (.slice (some ⟨gh,oh,none⟩) m ch)∧W.cell? ⟨gh,oh+x,none⟩=some (.int .i64 hx)∧W.cell? ⟨gh,oh+y,none⟩=some (.int .i64 hy))) (by kernel_rfl) ?_ (fun ah=>?_)
     ·exact (by rw[mX];exact HC.out VB DY.out)
     rw[mX] at ah ⊢;refine bE [0,1,2,3,4,5,6,7,8,9,10,11,12,13,14,15,16,17,18,19,20,21,22,23,24] ?_;iterate 25 (refine Bq ?_;try simp only[pS])
     refine bF ?_;refine tZ 25 fun K hK=>?_;go_simp;refine (Wt.out VB DY.out).mono ?_;rintro e w7 ⟨rfl,hbb⟩;have iL:=zh (DY.out.trans (hbb.mono DY.out.size));refine hK.out _ _ (HC.out w7 iL.out) fun ah=>?_;clear hK K hbb;(try simp only[pS]);refine bE [26,27] ?_;iterate 2 (refine Bq ?_;try simp only[pS])
     refine bF ?_;have rs:=HRW.out w7 iL.out;have r0:=rs.cell 0;have rf:=rs.free 0;refine tZ 28 fun K hK=>?_;go_simp;refine hK.out _ _ (KQ.out w7 iL.out _) fun ah=>?_;clear hK K;(try simp only[pS]);refine KO ?_;clear ah;have r2:=(rs.put 0 (.bool true)).cell 0;go_wp2_with fail;refine⟨.bool true,?_,rfl,(QD.out w7 iL.out).setCell (Nat.le_refl _) _⟩;simp[results,Tryz.results3,go_sem,r2]
    | false=>
     clear FX;obtain⟨t,htm,htg,et,eg,hxt,hct,hno,hye⟩:=uG.out Wu.out HGY.out;obtain⟨ht,hht⟩:=eX (hof hs (t:Int))
     rw[Q5.out.1,Q5.out.2] at hct;rw[Q5.out.1,hht] at eg;have DZ:=Cz.out.im.pull Cz.out.wf;obtain⟨l,hl⟩:=eX (Tr.ak (mg m f) (t:Int))
     rw[hl] at hxt hno hye;have Wv:=zh (show l.Nodup by rw[←hl];exact DZ.lN _);have hll:l.length≤m:=by rw[←hl];exact yR DZ _
     obtain⟨cb,hcb⟩:=eX (decide ((x:Int)∈Tr.aY (mg m f) (y:Int)))
     rw[hcb] at hct;rw[hct] at Wt;have HMC:=zh (fun (W:World) (hb:Below wk.heap.size wk W)=>uq bM M m aQ f (x:Int) (y:Int) W (HW.out W hb).mv DZ (.inr (by rw[eB hym,HGY.out];rfl)) (by omega));rw[hcb] at HMC;have HTP:=zh (fun (W:World) (hb:Below wk.heap.size wk W)=>(show Calls Tryz.prog 12 #[.pointer (some ⟨B,0,none⟩),.int .i64 hx] W fun e w'=>e=.returned (.int .i64 ht)∧Below W.heap.size W w' from by rw[←eg];exact vF base B 2 5 (hof hs 0) hx live n' g av fr vs vf W (HW.out W hb).tv Cz.out.so Cz.out.wf (by rw[←Q5.out.1];exact Cz.out.i64 hxm)));have oN:=zh (fun (W:World) (hb:Below wk.heap.size wk W)=>Ou bM M m aQ f (x:Int) W (HW.out W hb).mv DZ (.inr (by rw[eB hxm,Wu.out];rfl)) (by omega) (by omega));rw[et] at oN;have NC:=zh (fun (W:World) (hb:Below wk.heap.size wk W)=>(show W.cell? ⟨w3.heap.size,0,none⟩=some (.pointer (some ⟨T,0,none⟩))∧W.cell? ⟨T,0,none⟩=some (.pointer (some ⟨B,0,none⟩))∧W.cell? ⟨T,1,none⟩=some (.pointer (some ⟨M,0,none⟩))∧W.cell? ⟨T,2,none⟩=some (.slice (some ⟨gh,oh,none⟩) m ch)∧W.cell? ⟨gh,oh+x,none⟩=some (.int .i64 hx)∧W.cell? ⟨gh,oh+y,none⟩=some (.int .i64 hy)∧W.cell? ⟨gh,oh+t,none⟩=some (.int .i64 ht) from⟨(HC.out W hb).1,(HC.out W hb).2.1,(HC.out W hb).2.2.1,(HC.out W hb).2.2.2.1,(HC.out W hb).2.2.2.2.1,(HC.out W hb).2.2.2.2.2,by rw[←hht];exact qy.out W hb t htm⟩));have t0:(0:Int)≤(t:Int):=by omega
     have t1:(t:Int)<(m:Int):=by omega
     have hq1:(cb != cb)=false:=by simp
     have hq2:(ht != ht)=false:=by simp
     have XP:=zh hno;have HYE:=zh hye;have HXT:=zh hxt;have HTG:=zh htg;clear et eg hct hcb hno hye hxt htg hht c0 c1 c2 c3 c4 c5;obtain⟨VC,hVC⟩:=eX (w5.drew)
     have Q7:=zh (mH.out.trans ((mW hVC).mono mH.out.size))
     go_upto_region 12 with fail
     refine wp_region_noPanic ?_;refine wp_region_held_drew (S:=(fun W=>W.cell? ⟨w3.heap.size,0,none⟩=some (.pointer (some ⟨T,0,none⟩))∧W.cell? ⟨T,0,none⟩=some (.pointer (some ⟨B,0,none⟩))∧W.cell? ⟨T,1,none⟩=some (.pointer (some ⟨M,0,none⟩))∧W.cell? ⟨T,2,none⟩=some (.slice (some ⟨gh,oh,none⟩) m ch)∧W.cell? ⟨gh,oh+x,none⟩=some (.int .i64 hx)∧W.cell? ⟨gh,oh+y,none⟩=some (.int .i64 hy)∧W.cell? ⟨gh,oh+t,none⟩=some (.int .i64 ht))) (by kernel_rfl) ?_ (fun ah=>?_)
     ·exact (by rw[hVC];exact NC.out VC Q7.out)
     rw[hVC] at ah ⊢;refine bE [0,1,2,3,4,5,6,7,8,9,10,11,12,13,14,15,16,17,19,20,21,22,23,24] ?_;iterate 24 (refine Bq ?_;try simp only[pS])
     refine bF ?_;refine tZ 18 fun K hK=>?_;go_simp;refine (Wt.out VC Q7.out).mono ?_;rintro e w7 ⟨rfl,hbb⟩;have iL:=zh (Q7.out.trans (hbb.mono Q7.out.size));refine hK.out _ _ (NC.out w7 iL.out) fun ah=>?_;clear hK K hbb;(try simp only[pS]);refine tZ 25 fun K hK=>?_;go_simp;refine (HMC.out w7 iL.out).mono ?_;rintro e w8 ⟨rfl,hsm⟩;rw[hsm];refine hK.out _ _ (NC.out w7 iL.out) fun ah=>?_;clear hK K hsm w8;(try simp only[pS]);refine bE [26,27,28,29,30,31,32,33,34,35,36,37,38,40,41,42,43,44,45,46,47,48] ?_;iterate 22 (refine Bq ?_;try simp only[pS])
     refine bF ?_;refine tZ 39 fun K hK=>?_;go_simp;refine (HTP.out w7 iL.out).mono ?_;rintro e w9 ⟨rfl,hbb⟩;have XQ:=zh (iL.out.trans (hbb.mono iL.out.size));refine hK.out _ _ (NC.out w9 XQ.out) fun ah=>?_;clear hK K hbb;(try simp only[pS]);refine tZ 49 fun K hK=>?_;go_simp;refine (oN.out w9 XQ.out).mono ?_;rintro e fO ⟨rfl,hsm⟩;rw[hsm];refine hK.out _ _ (NC.out w9 XQ.out) fun ah=>?_;clear hK K hsm fO;(try simp only[pS]);refine bE [50,51,52,53] ?_;iterate 4 (refine Bq ?_;try simp only[pS])
     refine bF ?_;refine KO ?_;clear ah;have HWM:=zh (fun (W:World) (hb:Below wk.heap.size wk W)=>wW bM M m aQ f DZ (by omega) (t:Int) (by rw[eB htm,HTG.out];rfl) W (HW.out W hb).mv);rw[hl] at HWM;clear hl;obtain⟨VD,hVD⟩:=eX (w9.drew)
     have Me:=zh (XQ.out.trans ((mW hVD).mono XQ.out.size))
     go_upto_region 14 with fail
     refine wp_region_noPanic ?_;refine wp_region_held_drew (S:=(fun W=>W.cell? ⟨w3.heap.size,0,none⟩=some (.pointer (some ⟨T,0,none⟩))∧W.cell? ⟨T,0,none⟩=some (.pointer (some ⟨B,0,none⟩))∧W.cell? ⟨T,1,none⟩=some (.pointer (some ⟨M,0,none⟩))∧W.cell? ⟨T,2,none⟩=some (.slice (some ⟨gh,oh,none⟩) m ch)∧W.cell? ⟨gh,oh+x,none⟩=some (.int .i64 hx)∧W.cell? ⟨gh,oh+y,none⟩=some (.int .i64 hy)∧W.cell? ⟨gh,oh+t,none⟩=some (.int .i64 ht))) (by kernel_rfl) ?_ (fun ah=>?_)
     ·exact (by rw[hVD];exact NC.out VD Me.out)
     rw[hVD] at ah ⊢;refine bE [0,1,2,3,4,5,6,7,8] ?_;iterate 9 (refine Bq ?_;try simp only[pS])
     refine bF ?_;refine tZ 9 fun K hK=>?_;go_simp;refine (oN.out VD Me.out).mono ?_;rintro e fO ⟨rfl,hsm⟩;rw[hsm];refine hK.out _ _ (NC.out VD Me.out) fun ah=>?_;clear hK K hsm fO;(try simp only[pS]);refine tZ 10 fun K hK=>?_;go_simp;refine (HWM.out VD Me.out).mono ?_;rintro e iK ⟨vL,rfl,htr,hbb⟩;have Q8:=zh (Me.out.trans (hbb.mono Me.out.size));obtain⟨AL,cL,rfl⟩:=TR.form htr;obtain⟨gl,ol,hAL,-,-,-,-⟩:=TR.cells htr (by have:=List.length_pos_of_mem HXT.out;omega);subst hAL;have HTR:=zh htr;clear htr;refine hK.out _ _ (NC.out iK Q8.out) fun ah=>?_;clear hK K hbb;(try simp only[pS]);refine bE [11] ?_;iterate 1 (refine Bq ?_;try simp only[pS])
     refine bF ?_;refine KO ?_;clear ah;obtain⟨wz,hwz⟩:=eX (iK.alloc (.cells #[.string ⟨#[]⟩] 9))
     have HXZ:Hid (Whole wz iK.heap.size #[.string ⟨#[]⟩] 9):=zh (by rw[←hwz];exact Whole.new _ _ _);have hbz:Below iK.heap.size iK wz:=gU hwz;have HZW:Hid (wz.heap.size=iK.heap.size+1):=zh (by rw[←hwz];simp);have HBZ:=zh (Q8.out.trans (hbz.mono Q8.out.size));have HLC:=zh (fun (W:World) (hb:Below wz.heap.size wz W) (k:Nat) (q:Int) (hk:l[k]?=some q)=>(show W.cell? ⟨gl,ol+k,none⟩=some (.int .i64 q) from by
      have h1:=((TR.below HTR.out hbz).below hb)
      exact h1.cellAt k _ (by have:=(List.getElem?_eq_some_iff.1 hk).1;omega) (dP hk)))
     have HWZ:=zh hwz;clear hwz hbz
     go_upto_region 16 with fail
     rw[HWZ.out];clear HWZ;go_wp2_with fail
     go_loopw [14,15,17] (fun u14 u15 u17 wr=>∃ k:Nat,u17=.int .i64 (k:Int)∧k≤l.length∧u14=.int .i64 (pos l (x:Int) k)∧u15=.int .i64 (pos l (y:Int) k)∧Hid (Below wk.heap.size wk wr∧Below wz.heap.size wz wr)) (fun _ _ u17 _=>l.length - (intOf u17).toNat)
     case atStart=>exact⟨0,rfl,Nat.zero_le _,by rw[FY],by rw[FY],zh ⟨HBZ.out,Below.refl _ _⟩⟩
     case round=>
      obtain⟨wo,hwo⟩:∃ wo:World,wo=wr:=⟨_,rfl⟩
      subst hwo;obtain⟨k,rfl,hk,rfl,rfl,HB⟩:=hrel;by_cases hkl:k<l.length
      ·obtain⟨q,hq⟩:∃ q,l[k]?=some q:=⟨l[k],by simp[hkl]⟩
       have y0:(0:Int)≤(k:Int):=by omega
       have y1:(k:Int)<(l.length:Int):=by omega
       have q0:=HLC.out wo HB.out.2 k q hq;have HQ:=zh hq;clear hq;obtain⟨px,Ji⟩:∃ p,pos l (x:Int) k=p:=⟨_,rfl⟩
       obtain⟨py,Jj⟩:∃ p,pos l (y:Int) k=p:=⟨_,rfl⟩
       rw[Ji,Jj];have HPX:=zh Ji;have HPY:=zh Jj;clear Ji Jj;by_cases Tq:q=(x:Int)
       ·have e1:(q == (x:Int))=true:=by simpa using Tq
        have eP:=zh (show pos l (x:Int) (k+1)=(k:Nat) from D5 Wv.out (by rw[HQ.out,Tq]));by_cases Mf:q=(y:Int)
        ·have e2:(q == (y:Int))=true:=by simpa using Mf
         have UH:=zh (show pos l (y:Int) (k+1)=(k:Nat) from D5 Wv.out (by rw[HQ.out,Mf]));clear Tq Mf;go_wp2_with fail
         go_roundw
         case rel=>exact⟨k+1,by go_num,by omega,by rw[eP.out],by rw[UH.out],HB⟩
         case measure=>simp[intOf];omega
        ·have e2:(q == (y:Int))=false:=by simpa using Mf
         have UH:=zh (show pos l (y:Int) (k+1)=py from by rw[←HPY.out];exact zD HQ.out Mf);clear Tq Mf;go_wp2_with fail
         go_roundw
         case rel=>exact⟨k+1,by go_num,by omega,by rw[eP.out],by rw[UH.out],HB⟩
         case measure=>simp[intOf];omega
       ·have e1:(q == (x:Int))=false:=by simpa using Tq
        have eP:=zh (show pos l (x:Int) (k+1)=px from by rw[←HPX.out];exact zD HQ.out Tq);by_cases Mf:q=(y:Int)
        ·have e2:(q == (y:Int))=true:=by simpa using Mf
         have UH:=zh (show pos l (y:Int) (k+1)=(k:Nat) from D5 Wv.out (by rw[HQ.out,Mf]));clear Tq Mf;go_wp2_with fail
         go_roundw
         case rel=>exact⟨k+1,by go_num,by omega,by rw[eP.out],by rw[UH.out],HB⟩
         case measure=>simp[intOf];omega
        ·have e2:(q == (y:Int))=false:=by simpa using Mf
         have UH:=zh (show pos l (y:Int) (k+1)=py from by rw[←HPY.out];exact zD HQ.out Mf);clear Tq Mf;go_wp2_with fail
         go_roundw
         case rel=>exact⟨k+1,by go_num,by omega,by rw[eP.out],by rw[UH.out],HB⟩
         case measure=>simp[intOf];omega
      ·have y1:¬ (k:Int)<(l.length:Int):=by omega
       have hkl':k=l.length:=by omega
       have Ji:=KR l (x:Int) hkl';rw[if_pos HXT.out] at Ji;have Jj:=KR l (y:Int) hkl';rw[Ji];obtain⟨iv,hiv⟩:=eX (l.idxOf (x:Int))
       obtain⟨jy,Tt⟩:=eX (pos l (y:Int) k)
       rw[Tt] at Jj ⊢;rw[hiv];have HJY:=zh Jj;have HIV:=zh hiv;clear hkl' Ji Jj hiv Tt;have HWY:=zh (fun (W:World) (hb:Below wk.heap.size wk W)=>wW bM M m aQ f DZ (by omega) (x:Int) (by rw[eB hxm,Wu.out];rfl) W (HW.out W hb).mv);obtain⟨lb,hlb⟩:=eX (Tr.ak (mg m f) (x:Int))
       rw[hlb] at HWY;have XR:0<lb.length:=by
        rw[←hlb,DZ.dx (aP hxm Wu.out),List.length_cons];omega
       have abN:lb.length≤m:=by rw[←hlb];exact yR DZ _
       have Jd:=zh (show (∀ q∈lb,∃ n:Nat,q=(n:Int)∧n<m∧(f n).gone=false)∧Tr.ak g hx=lb.map (hof hs) from by
        refine⟨fun q hq=>?_,by rw[←Q5.out.1,Cz.out.im.walk Cz.out.wf (x:Int) (by rw[eB hxm,Wu.out];rfl),hlb]⟩;have:=DZ.jI (by rw[hlb];exact hq);obtain⟨n,h1,h2,h3,-⟩:=jq this
        exact⟨n,h1,h2,h3⟩)
       obtain⟨AM,cM,WW⟩:=(HW.out wo HB.out.1).mv.form;subst WW;have XT:kM hx:=by rw[←Q5.out.1];exact Cz.out.i64 hxm
       obtain⟨c0,c1,c2,c3,c4,c5⟩:=HC.out wo HB.out.1;clear hlb;go_wp2_with fail;refine (HWY.out wo HB.out.1).mono ?_;rintro e wp ⟨vB,rfl,htr,hbp⟩;obtain⟨AB,cB,rfl⟩:=TR.form htr;obtain⟨gB,oB,hAB,hgB,-,hcB,-⟩:=TR.cells htr XR;subst hAB;have Ov:gB<wp.heap.size:=World.block_lt_of_cell? wp _ (hcB 0 _ (by omega) (dP (List.getElem?_eq_getElem XR)));obtain⟨wn,hwn⟩:=eX ((wp.alloc (.cells #[.slice (some ⟨gB,oB,none⟩) lb.length cB] 31)).alloc (.cells #[.int .i64 0] 3))
       have uI:Whole wn wp.heap.size #[.slice (some ⟨gB,oB,none⟩) lb.length cB] 31:=by rw[←hwn];exact (Whole.new wp _ _).alloc _
       have Ww:Whole wn (wp.heap.size+1) #[.int .i64 0] 3:=by
        rw[←hwn];have:=Whole.new (wp.alloc (.cells #[.slice (some ⟨gB,oB,none⟩) lb.length cB] 31)) #[.int .i64 0] 3
        rwa [World.size_alloc] at this
       have hbn:Below wp.heap.size wp wn:=by rw[←hwn];exact ((Below.refl _ wp).alloc (Nat.le_refl _) _).alloc (by simp) _
       have hzn:wn.heap.size=wp.heap.size+2:=by rw[←hwn];simp
       have HWN:=zh hwn;have HBN:=zh ((HB.out.1.trans (hbp.mono HB.out.1.size)).trans (hbn.mono (Nat.le_trans HB.out.1.size hbp.size)));have XU:=zh (And.intro uI (And.intro Ww (And.intro hzn (And.intro hbp (And.intro hbn (And.intro htr (And.intro hgB Ov)))))));clear hwn uI Ww hzn hbp hbn htr hgB Ov hcB c0 c1 c2 c3 c4 c5
       go_upto_region 25 with fail
       rw[HWN.out];clear HWN;obtain⟨VE,ZH⟩:=eX (wn.drew)
       have Q9:=zh (HBN.out.trans ((mW ZH).mono HBN.out.size));refine wp_region_noPanic ?_;refine wp_region_held_drew (S:=(fun W=>W.cell? ⟨w3.heap.size,0,none⟩=some (.pointer (some ⟨T,0,none⟩))∧W.cell? ⟨T,0,none⟩=some (.pointer (some ⟨B,0,none⟩))∧W.cell? ⟨T,1,none⟩=some (.pointer (some ⟨M,0,none⟩))∧W.cell? ⟨T,2,none⟩=some (.slice (some ⟨gh,oh,none⟩) m ch)∧W.cell? ⟨gh,oh+x,none⟩=some (.int .i64 hx)∧W.cell? ⟨gh,oh+y,none⟩=some (.int .i64 hy))) (by kernel_rfl) ?_ (fun ah=>?_)
       ·exact (by rw[ZH];exact HC.out VE Q9.out)
       rw[ZH] at ah ⊢;refine bE [0,1,2,3,4,5,6,7,8,9,10] ?_;iterate 11 (refine Bq ?_;try simp only[pS])
       refine bF ?_;refine tZ 11 fun K hK=>?_;go_simp;refine (pI B hx VE).mono ?_;rintro e w' ⟨rfl,hw'⟩;have hbb:Below VE.heap.size VE w':=by rw[hw'];exact ((Below.refl _ VE).alloc (Nat.le_refl _) _).alloc (by simp) _
       have Bn:=zh (Q9.out.trans (hbb.mono Q9.out.size));have hL:=LS.made (h:=hx) (HW.out VE Q9.out).tv;rw[←hw'] at hL;have hsz':w'.heap.size=VE.heap.size+2:=by rw[hw'];simp
       have Zu:=zh (And.intro hL (And.intro hbb hsz'));refine hK.out _ _ (HC.out w' Bn.out) fun ah=>?_;clear hK K hbb hw' hL hsz';(try simp only[pS]);refine KO ?_;clear ah;obtain⟨hL,hbb,hsz'⟩:=Zu.out;obtain⟨uI,Ww,hzn,hbp,hbn,htr,hgB,Ov⟩:=XU.out;have Wx:Below wn.heap.size wn VE:=mW ZH;have hp':Below wp.heap.size wp w':=(hbn.trans (Wx.mono hbn.size)).trans (hbb.mono (Nat.le_trans hbn.size Wx.size));have hn':Below wn.heap.size wn w':=Wx.trans (hbb.mono Wx.size);have hz':Below wz.heap.size wz w':=((HB.out.2.trans (hbp.mono HB.out.2.size)).trans (hp'.mono (Nat.le_trans HB.out.2.size hbp.size)))
       have aak:Whole w' iK.heap.size #[.string ⟨#[]⟩] 9:=HXZ.out.below hz' HXZ.out.lt;have Ra:Whole w' wp.heap.size #[.slice (some ⟨gB,oB,none⟩) lb.length cB] 31:=uI.below hn' uI.lt;have aal:Whole w' (wp.heap.size+1) #[.int .i64 0] 3:=Ww.below hn' Ww.lt;have Rb:=TR.below htr hp';have hseq:=rF Cz.out.so Cz.out.wf XT 7 (by omega) _ hL;have Rc:=zh (show wk.heap.size≤iK.heap.size∧iK.heap.size<wo.heap.size∧wo.heap.size≤gB∧gB<wp.heap.size∧wp.heap.size+2≤VE.heap.size∧w'.heap.size=VE.heap.size+2 from⟨Q8.out.size,by have:=HB.out.2.size;have:=HZW.out;omega,hgB,Ov,by have:=Wx.size;omega,hsz'⟩);have NK:=zh (And.intro hL (And.intro Ra Rb));have Wy:Hid (∀ W,Turns (fun k=>k=iK.heap.size∨k=wp.heap.size+1) w' W→Below wk.heap.size wk W∧LS base B VE.heap.size (VE.heap.size+1) 2 5 hx vs n' (Tr.raw g av) vf fr live (hof hs 0) W∧W.cell? ⟨wp.heap.size,0,none⟩=some (.slice (some ⟨gB,oB,none⟩) lb.length cB)∧∀ k q,lb[k]?=some q→W.cell? ⟨gB,oB+k,none⟩=some (.int .i64 q)):=zh fun W ht=>by
        obtain⟨n1,n2,n3,n4,n5,n6⟩:=Rc.out;obtain⟨hL,Ra,Rb⟩:=NK.out;have hbw:Below wk.heap.size wk W:=Bn.out.trans (ht.below Bn.out.size (fun k hk=>by rcases hk with e | e<;>omega));refine⟨hbw,⟨(HW.out W hbw).tv,hL.bt.turns ht (fun h=>by rcases h with e | e<;>omega),hL.bh.turns ht (fun h=>by rcases h with e | e<;>omega)⟩,(Ra.turns ht (fun h=>by rcases h with e | e<;>omega)).cell 0,fun k q hk=>?_⟩;exact (TR.turns Rb ht (fun k hk h=>(have hk2:gB=k:=(by simpa [Value.ownBlock] using hk);by rcases h with e | e<;>omega))).cellAt k _ (by have:=(List.getElem?_eq_some_iff.1 hk).1;omega) (dP hk)
       clear hL hbb hsz' uI Ww hzn hbp hbn htr hgB Ov Wx hp' hn' hz' Ra Rb XU Zu;go_wp2_with fail;refine (wpIn_wide (n:=8)).1 ?_;refine' wpIn_rangeFunc_ownF (w:=w') rfl (by decide) (gf:=40) (lb:=#[.pointer (some ⟨VE.heap.size,0,none⟩),.pointer (some ⟨VE.heap.size+1,0,none⟩)]) rfl trivial (enters_of Tryz.func40 (by kernel_rfl) rfl) hseq LS.pJ (LS.qP _) (Below.refl _ _) (fun _=>rfl)
        (fun pre W=>∃ s:ByteArray,Whole W iK.heap.size #[.string s] 9∧Whole W (wp.heap.size+1) #[.int .i64 (pre.length:Int)] 3∧s.size≤pre.length*10000∧(pre <+: (Tr.ak g hx).attach→s.data.toList=cont g (pre.map (·.1)))∧Turns (fun k=>k=iK.heap.size∨k=wp.heap.size+1) w' W)
        (fun _ pre _=>¬ pre <+: (Tr.ak g hx).attach)
        ?hI ?hIx ⟨⟨#[]⟩,aak,aal,Nat.zero_le _,fun _=>rfl,Turns.refl _ _⟩ _ ?assign ?body ?done ?stop
       case hI=>
        rintro pre W W' row ⟨s,h1,h2,h3,h4,h5⟩ hg hr;exact⟨s,aS h1 hg (fun r e=>(hr r e).2),aS h2 hg (fun r e=>(hr r e).2),h3,h4,h5.trans (Turns.aT (S:=fun k=>row=some k) hg (fun k e=>e)) (fun k _ h=>h) (fun k hk e=>absurd (hr k e).1 (Nat.not_le.2 hk))⟩
       case hIx=>intro c pre W W' row h _ _;exact h
       case assign=>
        intro l x W K hK
        gi_wp2
        exact hK
       case stop=>
        rintro D c pre W _ h h2 _;exact absurd h h2
       case body=>
        rintro l2 pre z W ⟨s,h1,h2,h3,h4,h5⟩ hlen;obtain⟨p,hp⟩:=eX (pre.length)
        rw[hp] at h2 h3 hlen;have hpl:p<lb.length:=by rw[Jd.out.2,List.length_map] at hlen;exact hlen
        obtain⟨q,hq0⟩:∃ q,lb[p]?=some q:=⟨lb[p],by simp[hpl]⟩
        obtain⟨qn,rfl,hqm,hqg⟩:=Jd.out.1 q (List.mem_of_getElem? hq0);obtain⟨hq,ZI⟩:=eX (hof hs (qn:Int))
        obtain⟨kq,hkq⟩:=eX ((f qn).kind)
        obtain⟨dq,ZJ⟩:=eX ((f qn).data)
        obtain⟨gN,hAM,-⟩:=((HW.out W (Wy.out W h5).1).mv.read hqm)
        subst hAM;have QE:Hid (∀ U,Turns (fun k=>k=iK.heap.size∨k=wp.heap.size+1) w' U→U.cell? ⟨wp.heap.size+1,0,none⟩=some (.int .i64 (p:Int))→U.cell? ⟨w3.heap.size,0,none⟩=some (.pointer (some ⟨T,0,none⟩))∧U.cell? ⟨T,1,none⟩=some (.pointer (some ⟨M,0,none⟩))∧U.cell? ⟨T,2,none⟩=some (.slice (some ⟨gh,oh,none⟩) m ch)∧U.cell? ⟨M,0,none⟩=some (.slice (some ⟨gN,0,none⟩) m cM)∧U.cell? ⟨gN,qn*7,none⟩=some (.int .i64 kq)∧U.cell? ⟨gN,qn*7+3,none⟩=some (.string dq)∧U.cell? ⟨wp.heap.size+1,0,none⟩=some (.int .i64 (p:Int))∧U.cell? ⟨wp.heap.size,0,none⟩=some (.slice (some ⟨gB,oB,none⟩) lb.length cB)∧U.cell? ⟨gB,oB+p,none⟩=some (.int .i64 (qn:Int))∧U.cell? ⟨gh,oh+qn,none⟩=some (.int .i64 hq)):=zh fun U ht hn=>by
         obtain⟨b1,-,b3,b4⟩:=Wy.out U ht;have mv:=(HW.out U b1).mv;obtain⟨g2,hA2,n0,-,-,n3,-⟩:=mv.read hqm;injection hA2 with hA2;injection hA2 with hA2;subst hA2;obtain⟨d0,d1,d2,d3,-,-⟩:=HC.out U b1;exact⟨d0,d2,d3,mv.cell.1,by rw[←hkq];exact n0,by rw[←ZJ];exact n3,hn,b3,b4 p _ hq0,by rw[←ZI];exact qy.out U b1 qn hqm⟩
        have hdl:dq.size≤7200:=by have:=(Cz.out.bd qn hqm).2.1;rw[ZJ] at this;omega
        have IE:Hid ((Tr.ak g hx)[p]?=some hq):=zh (by rw[Jd.out.2,List.getElem?_map,hq0,←ZI];rfl);have HGN:Hid (∃ mq:Tr.GN,g hq=some mq∧mq.kind=kq∧mq.data=dq):=zh ⟨_,by rw[←ZI];exact Cz.out.dJ hqm hqg,hkq,ZJ⟩;have Jk:=zh (And.intro hp h4);have p0:(0:Int)≤(p:Int):=by omega
        have p1:(p:Int)<(lb.length:Int):=by omega
        have p2:¬ (lb.length:Int)≤(p:Int):=by omega
        have p3:¬ lb.length≤p:=by omega
        have g0:(0:Int)≤(qn:Int):=by omega
        have g1:(qn:Int)<(m:Int):=by omega
        have hpm:p≤700:=by omega
        have D6:=zh (And.intro h1 (And.intro h2 h5));have jh:=zh h3;have hss:s.size≤7000000:=by omega
        clear hlen hq0 hqg ZI hkq ZJ h4 hp;obtain⟨VF,XV⟩:=eX (W.drew)
        have Ow:Below W.heap.size W VF:=mW XV;have Rf:=h5.trans (Turns.of_below (S:=fun _=>False) Ow) (fun k _ h=>h) (fun k _ h=>h.elim);have UJ:=h2.below Ow h2.lt;have nVF:=UJ.cell 0;have aam:=(Wy.out VF Rf).1;have S9:=zh (l9 Ow);clear h1 h2 h5
        gi_wp2_with fail
        by_cases hz:z.1=hq
        ·have hq1:(z.1 != hq)=false:=by simpa using hz
         have HZ:=zh hz;clear hz;refine rV (S:=(fun W=>W.cell? ⟨w3.heap.size,0,none⟩=some (.pointer (some ⟨T,0,none⟩))∧W.cell? ⟨T,1,none⟩=some (.pointer (some ⟨M,0,none⟩))∧W.cell? ⟨T,2,none⟩=some (.slice (some ⟨gh,oh,none⟩) m ch)∧W.cell? ⟨M,0,none⟩=some (.slice (some ⟨gN,0,none⟩) m cM)∧W.cell? ⟨gN,qn*7,none⟩=some (.int .i64 kq)∧W.cell? ⟨gN,qn*7+3,none⟩=some (.string dq)∧W.cell? ⟨wp.heap.size+1,0,none⟩=some (.int .i64 (p:Int))∧W.cell? ⟨wp.heap.size,0,none⟩=some (.slice (some ⟨gB,oB,none⟩) lb.length cB)∧W.cell? ⟨gB,oB+p,none⟩=some (.int .i64 (qn:Int))∧W.cell? ⟨gh,oh+qn,none⟩=some (.int .i64 hq))) (by kernel_rfl) ?_ (by rfl) (fun ah=>?_)
         ·exact (by rw[XV];exact QE.out VF Rf nVF)
         rw[XV] at ah ⊢;refine bE [0,1,2,3,4,5,6,7,8,9,10,11,12,13,14,15,16,17] ?_;iterate 18 (refine Bq ?_;try simp only[pS])
         refine bF ?_;refine KO ?_;simp only[NJ];clear ah;obtain⟨VG,XW⟩:=eX (VF.drew)
         have Rh:Below VF.heap.size VF VG:=mW XW;have Ox:=Rf.trans (Turns.of_below (S:=fun _=>False) Rh) (fun k _ h=>h) (fun k _ h=>h.elim);have Jl:=UJ.below Rh UJ.lt;have nVG:=Jl.cell 0;have hC0:=(D6.out.1.below Ow D6.out.1.lt).below Rh (D6.out.1.below Ow D6.out.1.lt).lt;have XY:=zh (S9.out.trans (l9 Rh));by_cases hk:kq=3
         ·subst hk;have hsd:¬ 9223372036854775807<s.size+dq.size:=by omega
          gi_wp2_with fail
          refine rV (S:=(fun W=>W.cell? ⟨w3.heap.size,0,none⟩=some (.pointer (some ⟨T,0,none⟩))∧W.cell? ⟨T,1,none⟩=some (.pointer (some ⟨M,0,none⟩))∧W.cell? ⟨T,2,none⟩=some (.slice (some ⟨gh,oh,none⟩) m ch)∧W.cell? ⟨M,0,none⟩=some (.slice (some ⟨gN,0,none⟩) m cM)∧W.cell? ⟨gN,qn*7,none⟩=some (.int .i64 3)∧W.cell? ⟨gN,qn*7+3,none⟩=some (.string dq)∧W.cell? ⟨wp.heap.size+1,0,none⟩=some (.int .i64 (p:Int))∧W.cell? ⟨wp.heap.size,0,none⟩=some (.slice (some ⟨gB,oB,none⟩) lb.length cB)∧W.cell? ⟨gB,oB+p,none⟩=some (.int .i64 (qn:Int))∧W.cell? ⟨gh,oh+qn,none⟩=some (.int .i64 hq))) (by kernel_rfl) ?_ (by rfl) (fun ah=>?_)
          ·exact (by rw[XW];exact QE.out VG Ox nVG)
          rw[XW] at ah ⊢;refine bE [0,1,2,3,4,5,6,7,8,9,10,11,12,13,14] ?_;iterate 15 (refine Bq ?_;try simp only[pS])
          refine bF ?_;refine KO ?_;simp only[NJ];clear ah;obtain⟨VH,hVH⟩:=eX (VG.drew)
          have Ri:Below VG.heap.size VG VH:=mW hVH;have UK:=Ox.trans (Turns.of_below (S:=fun _=>False) Ri) (fun k _ h=>h) (fun k _ h=>h.elim);have XZ:=Jl.below Ri Jl.lt;have nVH:=XZ.cell 0;have X0:=hC0.below Ri hC0.lt;have aan:=zh (XY.out.trans (l9 Ri));have xc:=X0.cell 0;have xf:=X0.free 0;obtain⟨W1,hW1⟩:=eX (VH.setCell ⟨iK.heap.size,0,none⟩ (.string (s++dq)))
          have aao:Whole W1 iK.heap.size #[.string (s++dq)] 9:=by rw[←hW1];exact X0.put 0 _
          have Oy:Whole W1 (wp.heap.size+1) #[.int .i64 (p:Int)] 3:=by rw[←hW1];exact XZ.other (a:=⟨iK.heap.size,0,none⟩) (by have:=Rc.out;show wp.heap.size+1≠iK.heap.size;omega) _
          have UL:Turns (fun k=>k=iK.heap.size∨k=wp.heap.size+1) w' W1:=by rw[←hW1];exact UK.trans (Turns.aT (S:=fun k=>k=iK.heap.size) (grownBy_setCell' VH iK.heap.size _) (fun k e=>by injection e with e;exact e.symm)) (fun k _ h=>h) (fun k _ h=>.inl h)
          have UC:=zh (show KeepsOthers W W1 from by rw[←hW1];exact aan.out.trans (KeepsOthers.setCell _ _ _))
          gi_wp2_with fail
          refine rV (S:=(fun W=>W.cell? ⟨w3.heap.size,0,none⟩=some (.pointer (some ⟨T,0,none⟩))∧W.cell? ⟨T,1,none⟩=some (.pointer (some ⟨M,0,none⟩))∧W.cell? ⟨T,2,none⟩=some (.slice (some ⟨gh,oh,none⟩) m ch)∧W.cell? ⟨M,0,none⟩=some (.slice (some ⟨gN,0,none⟩) m cM)∧W.cell? ⟨gN,qn*7,none⟩=some (.int .i64 3)∧W.cell? ⟨gN,qn*7+3,none⟩=some (.string dq)∧W.cell? ⟨wp.heap.size+1,0,none⟩=some (.int .i64 (p:Int))∧W.cell? ⟨wp.heap.size,0,none⟩=some (.slice (some ⟨gB,oB,none⟩) lb.length cB)∧W.cell? ⟨gB,oB+p,none⟩=some (.int .i64 (qn:Int))∧W.cell? ⟨gh,oh+qn,none⟩=some (.int .i64 hq))) (by kernel_rfl) ?_ (by rfl) (fun ah=>?_)
          ·exact (by rw[hVH];exact QE.out VH UK nVH)
          rw[hVH] at ah ⊢;refine bE [1,2,3,4,5,6,7,8,9,10,11,12,13,14] ?_;iterate 14 (refine Bq ?_;try simp only[pS])
          refine bF ?_;refine tZ 0 fun K hK=>?_;go_simp;refine hK.out _ _ (QE.out VH UK nVH) fun ah=>?_;clear hK K;(try simp only[pS]);refine bE [15] ?_;iterate 1 (refine Bq ?_;try simp only[pS])
          refine bF ?_;refine tZ 16 fun K hK=>?_;go_simp;(try rw[hW1]);refine hK.out _ _ (QE.out W1 UL (Oy.cell 0)) fun ah=>?_;clear hK K;(try simp only[pS]);refine KO ?_;simp only[NJ];clear ah;have n1:=Oy.cell 0;have nf1:=Oy.free 0;have HE:=zh (And.intro UL (And.intro Oy aao));clear UL Oy
          gi_wp2_with fail
          have hX2:=HE.out.2.1.put 0 (.int .i64 ((p:Int)+1));have hC2:=HE.out.2.2.other (a:=⟨wp.heap.size+1,0,none⟩) (by have:=Rc.out;show iK.heap.size≠wp.heap.size+1;omega) (.int .i64 ((p:Int)+1));have IC:Turns (fun k=>k=iK.heap.size∨k=wp.heap.size+1) w' (W1.setCell ⟨wp.heap.size+1,0,none⟩ (.int .i64 ((p:Int)+1))):=HE.out.1.trans (Turns.aT (S:=fun k=>k=wp.heap.size+1) (grownBy_setCell' W1 (wp.heap.size+1) _) (fun k e=>by injection e with e;exact e.symm)) (fun k _ h=>h) (fun k _ h=>.inr h);refine⟨UC.out.trans (KeepsOthers.setCell _ _ _),fun _=>(Wy.out _ IC).2.1,s++dq,hC2,?_,?_,fun h=>?_,IC⟩
          ·rw[List.length_append,Jk.out.1];exact hX2
          ·rw[List.length_append,Jk.out.1,List.length_singleton];rw[ByteArray.size_append];have:=jh.out;omega
          ·obtain⟨hpre,-⟩:=zF h;have h6:=Jk.out.2 hpre;obtain⟨mq,e1,e2,e3⟩:=HGN.out;rw[List.map_append,List.map_cons,List.map_nil];rw[CB (by rw[HZ.out];exact e1) e2,e3,←h6,ByteArray.data_append,Array.toList_append]
         ·have hk1:(kq == 3)=false:=by simpa using hk
          have X3:=zh hk;clear hk
          gi_wp2_with fail
          refine rV (S:=(fun W=>W.cell? ⟨w3.heap.size,0,none⟩=some (.pointer (some ⟨T,0,none⟩))∧W.cell? ⟨T,1,none⟩=some (.pointer (some ⟨M,0,none⟩))∧W.cell? ⟨T,2,none⟩=some (.slice (some ⟨gh,oh,none⟩) m ch)∧W.cell? ⟨M,0,none⟩=some (.slice (some ⟨gN,0,none⟩) m cM)∧W.cell? ⟨gN,qn*7,none⟩=some (.int .i64 kq)∧W.cell? ⟨gN,qn*7+3,none⟩=some (.string dq)∧W.cell? ⟨wp.heap.size+1,0,none⟩=some (.int .i64 (p:Int))∧W.cell? ⟨wp.heap.size,0,none⟩=some (.slice (some ⟨gB,oB,none⟩) lb.length cB)∧W.cell? ⟨gB,oB+p,none⟩=some (.int .i64 (qn:Int))∧W.cell? ⟨gh,oh+qn,none⟩=some (.int .i64 hq))) (by kernel_rfl) ?_ (by rfl) (fun ah=>?_)
          ·exact (by rw[XW];exact QE.out VG Ox nVG)
          rw[XW] at ah ⊢;refine bE [0,1,2,3,4,5,6,7,8,9,10,11,12,13,14] ?_;iterate 15 (refine Bq ?_;try simp only[pS])
          refine bF ?_;refine KO ?_;simp only[NJ];clear ah;have n1:=Jl.cell 0;have nf1:=Jl.free 0;have HE:=zh (And.intro Ox (And.intro Jl hC0));clear Ox Jl
          gi_wp2_with fail
          have hX2:=HE.out.2.1.put 0 (.int .i64 ((p:Int)+1));have hC2:=HE.out.2.2.other (a:=⟨wp.heap.size+1,0,none⟩) (by have:=Rc.out;show iK.heap.size≠wp.heap.size+1;omega) (.int .i64 ((p:Int)+1));have IC:Turns (fun k=>k=iK.heap.size∨k=wp.heap.size+1) w' (VG.setCell ⟨wp.heap.size+1,0,none⟩ (.int .i64 ((p:Int)+1))):=HE.out.1.trans (Turns.aT (S:=fun k=>k=wp.heap.size+1) (grownBy_setCell' VG (wp.heap.size+1) _) (fun k e=>by injection e with e;exact e.symm)) (fun k _ h=>h) (fun k _ h=>.inr h);refine⟨XY.out.trans (KeepsOthers.setCell _ _ _),fun _=>(Wy.out _ IC).2.1,s,hC2,?_,?_,fun h=>?_,IC⟩
          ·rw[List.length_append,Jk.out.1];exact hX2
          ·rw[List.length_append,Jk.out.1,List.length_singleton];have:=jh.out;omega
          ·obtain⟨hpre,-⟩:=zF h;have h6:=Jk.out.2 hpre;obtain⟨mq,e1,e2,e3⟩:=HGN.out;rw[List.map_append,List.map_cons,List.map_nil];rw[zG (by rw[HZ.out];exact e1) (by rw[e2];exact X3.out),←h6]
        ·have hq1:(z.1 != hq)=true:=by simpa using hz
         have HZ:=zh hz;clear hz;refine rV (S:=(fun W=>W.cell? ⟨w3.heap.size,0,none⟩=some (.pointer (some ⟨T,0,none⟩))∧W.cell? ⟨T,1,none⟩=some (.pointer (some ⟨M,0,none⟩))∧W.cell? ⟨T,2,none⟩=some (.slice (some ⟨gh,oh,none⟩) m ch)∧W.cell? ⟨M,0,none⟩=some (.slice (some ⟨gN,0,none⟩) m cM)∧W.cell? ⟨gN,qn*7,none⟩=some (.int .i64 kq)∧W.cell? ⟨gN,qn*7+3,none⟩=some (.string dq)∧W.cell? ⟨wp.heap.size+1,0,none⟩=some (.int .i64 (p:Int))∧W.cell? ⟨wp.heap.size,0,none⟩=some (.slice (some ⟨gB,oB,none⟩) lb.length cB)∧W.cell? ⟨gB,oB+p,none⟩=some (.int .i64 (qn:Int))∧W.cell? ⟨gh,oh+qn,none⟩=some (.int .i64 hq))) (by kernel_rfl) ?_ (by rfl) (fun ah=>?_)
         ·exact (by rw[XV];exact QE.out VF Rf nVF)
         rw[XV] at ah ⊢;refine bE [0,1,2,3,4,5,6,7,8,9,10,11,12,13,14,15,16,17] ?_;iterate 18 (refine Bq ?_;try simp only[pS])
         refine bF ?_;refine KO ?_;simp only[NJ];clear ah;have rs:=HRW.out VF aam;have r0:=rs.cell 0;have rf:=rs.free 0
         gi_wp2_with fail
         refine⟨S9.out.trans (KeepsOthers.setCell VF _ _),fun h=>HZ.out ?_⟩;obtain⟨-,e⟩:=zF h;rw[Jk.out.1] at e;have e2:=congrArg (Option.map Subtype.val) e;rw[←List.getElem?_map,List.attach_map_subtype_val,IE.out] at e2;injection e2 with e2;exact e2.symm
       case done=>
        rintro D xs W hD rfl ⟨s,h1,h2,h3,h4,h5⟩ hK;have hs2:s.data.toList=cont g (Tr.ak g hx):=by have:=h4 (List.prefix_refl _);rwa [List.attach_map_subtype_val] at this
        rw[List.length_attach,Jd.out.2,List.length_map] at h2;obtain⟨hbw,-,cB0,-⟩:=Wy.out W h5;have ZK:=zh hbw;obtain⟨c0,c1,c2,c3,c4,c5⟩:=HC.out W hbw;have ZL:Hid (∀ U,Below W.heap.size W U→U.cell? ⟨w3.heap.size,0,none⟩=some (.pointer (some ⟨T,0,none⟩))∧U.cell? ⟨T,0,none⟩=some (.pointer (some ⟨B,0,none⟩))∧U.cell? ⟨T,2,none⟩=some (.slice (some ⟨gh,oh,none⟩) m ch)∧U.cell? ⟨gh,oh+x,none⟩=some (.int .i64 hx)∧U.cell? ⟨wp.heap.size+1,0,none⟩=some (.int .i64 (lb.length:Int))∧U.cell? ⟨wp.heap.size,0,none⟩=some (.slice (some ⟨gB,oB,none⟩) lb.length cB)∧U.cell? ⟨iK.heap.size,0,none⟩=some (.string s)):=zh fun U hb=>⟨nC c0 hb,nC c1 hb,nC c3 hb,nC c4 hb,nC (h2.cell 0) hb,nC cB0 hb,nC (h1.cell 0) hb⟩
        have ZM:=zh (fun (U:World) (hb:Below wk.heap.size wk U)=>show Calls Tryz.prog 16 #[.pointer (some ⟨B,0,none⟩),.int .i64 hx] U fun e U'=>e=.returned (.string s)∧Below U.heap.size U U' from by
         have h:=FZ base B 2 5 (hof hs 0) hx live n' g av fr vs vf U (HW.out U hb).tv Cz.out.so Cz.out.wf XT (by rw[Jd.out.2,List.length_map];omega) (fun k q hq=>by
          obtain⟨y2,hy2,e2⟩:=Cz.out.im.dom k (by rw[hq];rfl);obtain⟨i2,rfl,hi2,hg2,-⟩:=jq hy2;have e3:=Cz.out.dJ hi2 hg2;rw[e2,hq] at e3;obtain rfl:=Option.some.inj e3;have:=(Cz.out.bd i2 hi2).2.1;show (f i2).data.size≤_
          omega)
         rw[←hs2] at h
         exact h)
        have KT:=zh (And.intro hD hK);have HB0:=zh (Below.refl W.heap.size W);clear h1 h2 h3 h4 h5 hK hD hbw cB0 c0 c1 c2 c3 c4 c5 hs2;obtain⟨VI,hVI⟩:=eX (W.drew)
        have Rj:=zh (HB0.out.trans ((mW hVI).mono HB0.out.size))
        go_upto_region 32 with fail
        refine wp_region_noPanic ?_;refine wp_region_held_drew (S:=(fun W=>W.cell? ⟨w3.heap.size,0,none⟩=some (.pointer (some ⟨T,0,none⟩))∧W.cell? ⟨T,0,none⟩=some (.pointer (some ⟨B,0,none⟩))∧W.cell? ⟨T,2,none⟩=some (.slice (some ⟨gh,oh,none⟩) m ch)∧W.cell? ⟨gh,oh+x,none⟩=some (.int .i64 hx)∧W.cell? ⟨wp.heap.size+1,0,none⟩=some (.int .i64 (lb.length:Int))∧W.cell? ⟨wp.heap.size,0,none⟩=some (.slice (some ⟨gB,oB,none⟩) lb.length cB)∧W.cell? ⟨iK.heap.size,0,none⟩=some (.string s))) (by kernel_rfl) ?_ (fun ah=>?_)
        ·exact (by rw[hVI];exact ZL.out VI Rj.out)
        rw[hVI] at ah ⊢;refine bE [0,1,2,3,4,5,6,7,8,9,10,11,12,13,14,15,17] ?_;iterate 17 (refine Bq ?_;try simp only[pS])
        refine bF ?_;refine tZ 16 fun K hK=>?_;go_simp;refine (ZM.out VI (ZK.out.trans (Rj.out.mono ZK.out.size))).mono ?_;rintro e qY ⟨rfl,hbb⟩;have Oz:=zh (Rj.out.trans (hbb.mono Rj.out.size));refine hK.out _ _ (ZL.out qY Oz.out) fun ah=>?_;clear hK K hbb;(try simp only[pS]);refine bE [18,19] ?_;iterate 2 (refine Bq ?_;try simp only[pS])
        refine bF ?_;refine KO ?_;clear ah;have OA:=ZK.out.trans (Oz.out.mono ZK.out.size);have rs:=HRW.out qY OA;have r0:=rs.cell 0;have rf:=rs.free 0;have Wz:Hid (∃ W5,(qY.setCell ⟨w.heap.size,0,none⟩ (.bool true))=W5∧W5.heap[D]?=some (.deferred (some []))∧(W5.putObj D (.deferred none)).cell? ⟨w.heap.size,0,none⟩=some (.bool true)∧Below w.heap.size w (W5.putObj D (.deferred none))):=zh (by
         obtain⟨hD,hK⟩:=KT.out;have hRl:=(HRW.out w' Bn.out).lt;have hDl:D<W.heap.size:=(Array.getElem?_eq_some_iff.1 hK).1;have hK2:(qY.setCell ⟨w.heap.size,0,none⟩ (.bool true)).heap[D]?=some (.deferred (some [])):=(heap_setCell_other qY ⟨w.heap.size,0,none⟩ D (.bool true) (by show D≠w.heap.size;omega)).trans ((Oz.out.block D hDl).trans hK);have fT:Whole ((qY.setCell ⟨w.heap.size,0,none⟩ (.bool true)).putObj D (.deferred none)) w.heap.size #[.bool true] 4:=(World.putObj_heap_other (by omega)).trans (rs.put 0 (.bool true))
         exact⟨_,rfl,hK2,fT.cell 0,((QD.out qY OA).setCell (Nat.le_refl _) _).trans (belowK_b (w:=w) (Nat.le_refl _) _ D _ (.deferred none) (by omega) hK2 rfl rfl)⟩)
        obtain⟨W5,Cc,Qz,r5,FV⟩:=Wz.out;have kK:=zh (And.intro Cc (And.intro Qz (And.intro r5 FV)));clear Cc Qz r5 FV Wz OA;by_cases hyl:(y:Int)∈l
        ·obtain⟨rfl,hcc⟩:=HYE.out hyl;obtain⟨jv,hjv⟩:=eX (l.idxOf (y:Int))
         rw[HIV.out,hjv] at hcc;have Tt:=HJY.out;rw[if_pos hyl,hjv] at Tt;subst Tt;have j0:¬ (jv:Int)<0:=by omega
         rcases Nat.lt_trichotomy iv jv with h | h | h
         ·rw[uL (by omega)] at hcc;subst hcc;have j1:(iv:Int)<(jv:Int):=by omega
          have j2:¬ (jv:Int)<(iv:Int):=by omega
          have j3:¬ jv<iv:=by omega
          go_wp2_with fail;(try rw[kK.out.1]);refine⟨by simp,.inl ⟨_,_,rfl,run_takeDeferred kK.out.2.1,?_⟩⟩;have r6:=kK.out.2.2.1;refine⟨.bool true,?_,rfl,kK.out.2.2.2⟩;simp[results,Tryz.results3,go_sem,r6]
         ·subst h;rw[vG] at hcc;subst hcc;have j1:¬ (iv:Int)<(iv:Int):=by omega
          have j3:¬ iv<iv:=by omega
          go_wp2_with fail;(try rw[kK.out.1]);refine⟨by simp,.inl ⟨_,_,rfl,run_takeDeferred kK.out.2.1,?_⟩⟩;have r6:=kK.out.2.2.1;refine⟨.bool true,?_,rfl,kK.out.2.2.2⟩;simp[results,Tryz.results3,go_sem,r6]
         ·rw[uM (by omega)] at hcc;subst hcc;have j1:¬ (iv:Int)<(jv:Int):=by omega
          have j2:(jv:Int)<(iv:Int):=by omega
          have j3:¬ iv<jv:=by omega
          go_wp2_with fail;(try rw[kK.out.1]);refine⟨by simp,.inl ⟨_,_,rfl,run_takeDeferred kK.out.2.1,?_⟩⟩;have r6:=kK.out.2.2.1;refine⟨.bool true,?_,rfl,kK.out.2.2.2⟩;simp[results,Tryz.results3,go_sem,r6]
        ·obtain⟨rfl,rfl⟩:=XP.out hyl;have Tt:=HJY.out;rw[if_neg hyl] at Tt;subst Tt;go_wp2_with fail;(try rw[kK.out.1]);refine⟨by simp,.inl ⟨_,_,rfl,run_takeDeferred kK.out.2.1,?_⟩⟩;have r6:=kK.out.2.2.1;refine⟨.bool true,?_,rfl,kK.out.2.2.2⟩;simp[results,Tryz.results3,go_sem,r6]
end
end Go.Proofs.YtjpbhkcjmdndjaaGreatDoor
