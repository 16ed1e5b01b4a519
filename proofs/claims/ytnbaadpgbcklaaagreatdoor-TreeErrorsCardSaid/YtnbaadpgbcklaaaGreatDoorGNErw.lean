/- Part of a proof about trees: NErw. -/
import Derived.Deep.CutBlock
import Derived.Deep.DeepCutAuto
import Derived.Test.YtnbaadpgbcklaaaGreatDoorS08
set_option linter.unusedVariables false
set_option linter.unusedSimpArgs false
set_option linter.unusedSectionVars false
set_option maxHeartbeats 4000000
set_option maxRecDepth 100000
namespace Go.Proofs.YtnbaadpgbcklaaaGreatDoor
section
open Go.RowKit Go.Shelf
variable [nX]
attribute [local go_sem] Oper.semAt_some
theorem errors_walk (v:Value) (n:Nat) (F:Nat→qg) (h kd:Int) (w:World) (H:KH w v n F) (hn:n≤9223372036854775807) (hF:∀ i,i<n→Vz (F i)) (hh:lU h) (hkd:lU kd) (hT:Lit w) (hL:nX.L=w.heap.size) (h0:nX.w0=w):
  Calls Tryz.prog 8 #[v,.int .i64 h,.int .i64 kd] w fun e w'=>e=.returned (.bool true)∧Below w.heap.size w w':=by
 have HH:=zh (fun (W:World) (hb:Below w.heap.size w W)=>H.below hb);have HT:=zh (fun (W:World) (hb:Below w.heap.size w W)=>hT.below hb);have HF:=zh hF;have HL:=zh (And.intro hL h0);obtain⟨A,c,rfl,-⟩:=H;clear hT hF hL h0;refine (callsIn_wide (n:=8)).1 ?_;refine callsIn_of_wp_marks Tryz.func8 rfl trivial ?_ rfl;refine wpIn_wide.2 ?_;simp only[Tryz.ntmps8,List.size_toArray,List.length_cons,List.length_nil,Nat.reduceAdd,Nat.reduceSub,Array.replicate_succ,Array.replicate_zero,List.push_toArray,List.append_toArray,List.nil_append,List.cons_append];go_wp2_with fail;refine (BJ w (HT.out w (Below.refl _ _))).mono ?_;rintro e w1 ⟨rfl,hb1⟩;have HB1:=zh hb1;go_wp2_with fail;refine (Px _ n F w1 (HH.out w1 HB1.out) hn).mono ?_;rintro e w2 ⟨r,rfl,hw2,VA⟩;rw[hw2];clear hw2 hb1;cases r with
 | false=>
  go_wp2_with fail;refine (BJ w1 (HT.out w1 HB1.out)).mono ?_;rintro e w3 ⟨rfl,hb3⟩;have HB3:=zh (HB1.out.trans (hb3.mono HB1.out.size));clear hb3;go_wp2_with fail;exact⟨_,results_tmp rfl _ _ _,rfl,HB3.out⟩
 | true=>
  have YR:=zh (VA rfl);clear VA;go_wp2_with fail;refine (KJ 7 3 w1).mono ?_;rintro e w3 hS;obtain⟨T,B,M,base,bM,vs,vf,aT,vh,rfl,Ml⟩:=MQ 7 3 w1 w3 e hS (by rw[HL.out.1,HL.out.2];exact HB1.out) (by rw[HL.out.1];exact HB1.out.size);obtain⟨Ah,ch,hms⟩:=Ml.ms;have VB:=zh hms;clear hS Ml hms
  go_upto_block 0 with fail
  go_cut [8] from 37 to 56 (fun u wx=>∃ (i m ch:Nat) (Ah:Option Addr),u=.int .i64 (i:Int)∧i≤60∧Hid (MS T B M base bM 7 3 m Ah ch i wx))
  case first=>
   go_wp2_with fail
   go_loopw [8] (fun u wr=>∃ (i m ch:Nat) (Ah:Option Addr),u=.int .i64 (i:Int)∧i≤n∧Hid (MS T B M base bM 7 3 m Ah ch i wr)) (fun u _=>n - (intOf u).toNat)
   case atStart=>exact⟨0,1,ch,Ah,rfl,Nat.zero_le _,VB⟩
   case round=>
    clear VB;obtain⟨wo,hwo⟩:∃ wo:World,wo=wr:=⟨_,rfl⟩
    subst hwo;obtain⟨i,m,ch,Ah,rfl,hi,HM⟩:=hrel;obtain⟨t2,hml,hbk⟩:=HM.out.cell;rw[HL.out.1,HL.out.2] at hbk;have QW:=zh hbk;have aaL:=YR.out.1;clear hbk;by_cases hin:i<n
    ·have y0:(0:Int)≤(i:Int):=by omega
     have y1:(i:Int)<(n:Int):=by omega
     by_cases GH:m<300
     ·have y2:(m:Int)<300:=by omega
      obtain⟨A',c',e1,h2⟩:=HH.out wo QW.out;injection e1 with e1 e2 e3;obtain⟨go,oo,hA,hcells⟩:=h2 (by omega);rw[←e1] at hA;subst hA;have ho:=(HF.out i hin).ok (YR.out.2 i hin);have k0:wo.cell? ⟨go,oo+i*8,none⟩=some (.int .u8 (F i).kind):=hcells i 0 _ hin rfl;have k1:wo.cell? ⟨go,oo+i*8+1,none⟩=some (.int .u8 (F i).a):=hcells i 1 _ hin rfl;have k2:wo.cell? ⟨go,oo+i*8+2,none⟩=some (.int .u8 (F i).b):=hcells i 2 _ hin rfl;have k3:wo.cell? ⟨go,oo+i*8+3,none⟩=some (.int .u8 (F i).c):=hcells i 3 _ hin rfl;have k4:wo.cell? ⟨go,oo+i*8+4,none⟩=some (.string (F i).s):=hcells i 4 _ hin rfl;have k5:wo.cell? ⟨go,oo+i*8+5,none⟩=some (.string (F i).t):=hcells i 5 _ hin rfl;have k6:wo.cell? ⟨go,oo+i*8+6,none⟩=some (.int .i8 (F i).n):=hcells i 6 _ hin rfl;have k7:wo.cell? ⟨go,oo+i*8+7,none⟩=some (.int .i8 (F i).k):=hcells i 7 _ hin rfl;have HOP:=zh (HM.out.op (F i) ho (by omega) (by omega) (HT.out wo QW.out));clear e1 e2 e3 hcells h2 ho HM;go_wp2_with fail;refine HOP.out.mono ?_;rintro e w5 ⟨lv,m',YS,ch',rfl,hms⟩;have VB:=zh hms;clear hms HOP;go_wp2_with fail
      go_roundw
      case rel=>exact⟨i+1,m',ch',YS,by go_num,by omega,VB⟩
      case measure=>simp[intOf];omega
     ·have y2:¬ (m:Int)<300:=by omega
      go_wp2_with fail;go_meet
      case rel=>exact⟨i,m,ch,Ah,rfl,by omega,HM⟩
    ·have y1:¬ (i:Int)<(n:Int):=by omega
     go_wp2_with fail;go_meet
     case rel=>exact⟨i,m,ch,Ah,rfl,by omega,HM⟩
  case rest=>
   obtain⟨wk,hwk⟩:∃ x:World,x=wc:=⟨_,rfl⟩
   subst hwk;obtain⟨i,m,ch,Ah,rfl,aaM,HM⟩:=hcut;obtain⟨t2,hml,hbk⟩:=HM.out.cell;rw[HL.out.1,HL.out.2] at hbk;have QW:=zh hbk;obtain⟨vs,vf,aT,n',live,fr,av,f,hs,g,Sm⟩:=HM.out;have HW:=zh (fun (W:World) (hb:Below wk.heap.size wk W)=>Sm.below hb);have HLEN:=zh Sm.len;have HC:=zh (fun (W:World) (hb:Below wk.heap.size wk W)=>show W.cell? ⟨T,0,none⟩=some (.pointer (some ⟨B,0,none⟩))∧W.cell? ⟨T,2,none⟩=some (.slice Ah m ch)∧W.cell? ⟨B,5,none⟩=some (.int .i64 (hof hs 0)) from⟨(Sm.below hb).tw.var.cell 0,(Sm.below hb).tw.var.cell 2,by obtain⟨_,_,_,_,_,r5⟩:=(Sm.below hb).tv.cells;exact r5⟩);have hm0:=Sm.m0;clear hbk Sm VB t2;have c0:wk.cell? ⟨T,0,none⟩=some (.pointer (some ⟨B,0,none⟩)):=(HC.out wk (Below.refl _ _)).1;clear YR HF HH HM hn
   go_upto_region 8 with fail
   go_cut [71] from 57 to 71 (fun u wx=>u=.bool false∧Below wk.heap.size wk wx)
   case first=>
    by_cases h2:kd<2
    ·have HR:=zh (xE B kd wk (by omega) (by omega) (by omega));go_wp2_with fail;refine HR.out.mono ?_;rintro e w5 ⟨rfl,hb5⟩;go_wp2_with fail;go_meet
     case rel=>exact⟨rfl,hb5⟩
    ·by_cases h4:4<kd
     ·have HR:=zh (xE B kd wk (by omega) (by omega) (by omega));go_wp2_with fail;refine HR.out.mono ?_;rintro e w5 ⟨rfl,hb5⟩;go_wp2_with fail;go_meet
      case rel=>exact⟨rfl,hb5⟩
     ·go_wp2_with fail;go_meet
      case rel=>exact⟨rfl,Below.refl _ _⟩
   case rest=>
    obtain⟨rfl,hbd⟩:=hcut;obtain⟨wd,hwd⟩:∃ x:World,x=wc:=⟨_,rfl⟩
    subst hwd;have Bw:=zh hbd;clear hbd c0;go_wp2_with fail
    go_loopw [9] (fun u wr=>∃ j:Nat,u=.int .i64 (j:Int)∧j≤m∧Hid ((∀ q,q<j→hof hs (q:Int)≠h)∧Below wk.heap.size wk wr)) (fun u _=>m - (intOf u).toNat)
    case atStart=>exact⟨0,rfl,Nat.zero_le _,zh ⟨fun q hq=>absurd hq (Nat.not_lt_zero _),Bw.out⟩⟩
    case round=>
     obtain⟨wo,hwo⟩:∃ wo:World,wo=wr:=⟨_,rfl⟩
     subst hwo;obtain⟨j,rfl,hj,HJ⟩:=hrel;have s2:=(HC.out wo HJ.out.2).2.1;by_cases hjm:j<m
     ·have y0:(0:Int)≤(j:Int):=by omega
      have y1:(j:Int)<(m:Int):=by omega
      obtain⟨gh,oh,hA,hcell⟩:∃ gh oh,Ah=some ⟨gh,oh,none⟩∧wo.cell? ⟨gh,oh+j,none⟩=some (.int .i64 (hof hs (j:Int))):=by
       have hT:=HW.out wo HJ.out.2;have hr:=hT.tw.row;rw[HLEN.out] at hr;obtain⟨gh,oh,e1,-,-,-,-⟩:=hr.cells (by omega);refine⟨gh,oh,e1,?_⟩;rw[e1] at hr;exact hr.cellAt j _ (by omega) (aY (hT.aW hjm))
      subst hA;by_cases hx:hof hs (j:Int)=h
      ·have GL:=zh (And.intro hx (QW.out.trans (HJ.out.2.mono QW.out.size)));obtain⟨X,hX⟩:∃ X,hof hs (j:Int)=X:=⟨_,rfl⟩
       rw[hX] at hx hcell;have hq:(X == h)=true:=by simpa using hx
       clear hX hx;go_wp2_with fail;exact⟨_,results_tmp rfl _ _ _,rfl,GL.out.2⟩
      ·have HJ2:Hid ((∀ q,q<j+1→hof hs (q:Int)≠h)∧Below wk.heap.size wk wo):=zh ⟨fun q hq=>by
        by_cases e:q=j
        ·rw[e];exact hx
        ·exact HJ.out.1 q (by omega),HJ.out.2⟩
       obtain⟨X,hX⟩:∃ X,hof hs (j:Int)=X:=⟨_,rfl⟩
       rw[hX] at hx hcell;have hq:(X == h)=false:=by simpa using hx
       clear hX hx HJ;go_wp2_with fail
       go_roundw
       case rel=>exact⟨j+1,by go_num,by omega,HJ2⟩
       case measure=>simp[intOf];omega
     ·have y1:¬ (j:Int)<(m:Int):=by omega
      have AB:j=m:=by omega
      have hgn:g h=none:=by
       have hT:=HW.out wo HJ.out.2;cases e:g h with
       | none=>rfl
       | some q=>
        obtain⟨y,hy,e2⟩:=hT.im.dom h (by rw[e];rfl);obtain⟨i2,rfl,hi2,hg2,-⟩:=jA hy;exact absurd e2 (HJ.out.1 i2 (by omega))
      have HG:=zh hgn;have dZ:=zh HJ.out.2;have s0:=(HC.out wo dZ.out).1;have s5:=(HC.out wo dZ.out).2.2;clear hgn AB HJ;have hroot:lU (hof hs 0):=(HW.out wo dZ.out).i64 (i:=0) hm0;obtain⟨rt,hrt⟩:∃ rt,hof hs 0=rt:=⟨_,rfl⟩
      rw[hrt] at s5 hroot;have HRT:=zh hrt;clear hrt;have HX:=zh (iR base B 7 3 (hof hs 0) rt h 0 live n' (Tr.raw g av) fr vs vf wo (HW.out wo dZ.out).tv (HW.out wo dZ.out).so hroot hh (by constructor<;>omega) (.inr (.inl (Tr.aV HG.out))));go_wp2_with fail;refine HX.out.mono ?_;rintro e jV ⟨rfl,hbn⟩;have qY:=zh (dZ.out.trans (hbn.mono dZ.out.size));clear hbn HX dZ;have dZ:=qY;clear qY;have s0:=(HC.out jV dZ.out).1;have HX:=zh (iR base B 7 3 (hof hs 0) h rt 0 live n' (Tr.raw g av) fr vs vf jV (HW.out jV dZ.out).tv (HW.out jV dZ.out).so hh hroot (by constructor<;>omega) (.inl (Tr.aV HG.out)));go_wp2_with fail;refine HX.out.mono ?_;rintro e qP ⟨rfl,hbn⟩;have qY:=zh (dZ.out.trans (hbn.mono dZ.out.size));clear hbn HX dZ;have dZ:=qY;clear qY;have s0:=(HC.out qP dZ.out).1;have HX:=zh (uX base B 7 3 (hof hs 0) h live n' (Tr.raw g av) fr vs vf qP (HW.out qP dZ.out).tv (HW.out qP dZ.out).so hh (Tr.aV HG.out));go_wp2_with fail;refine HX.out.mono ?_;rintro e EY ⟨rfl,hbn⟩;have qY:=zh (dZ.out.trans (hbn.mono dZ.out.size));clear hbn HX dZ;have dZ:=qY;clear qY;have s0:=(HC.out EY dZ.out).1;have HX:=zh ((show Calls Tryz.prog 21 #[.pointer (some ⟨B,0,none⟩),.int .i64 h,.string ⟨#[]⟩,.string ⟨#[]⟩] EY fun e w'=>e=.returned (nG 6)∧Below EY.heap.size EY w' from by have c:=uE base B 7 3 (hof hs 0) h live n' g av fr vs vf ⟨#[]⟩ ⟨#[]⟩ EY (HW.out EY dZ.out).tv (HW.out EY dZ.out).so hh (HW.out EY dZ.out).kinds (by unfold eX;rw[HG.out];decide);rw[show eX g h=6 by unfold eX;rw[HG.out]] at c;exact c));go_wp2_with fail;refine HX.out.mono ?_;rintro e KG ⟨rfl,hbn⟩;have qY:=zh (dZ.out.trans (hbn.mono dZ.out.size));clear hbn HX dZ;have dZ:=qY;clear qY;have s0:=(HC.out KG dZ.out).1;have HX:=zh (mO base B 7 3 (hof hs 0) h (-1) 0 6 live n' (Tr.raw g av) fr vs vf Tr.wD ⟨#[]⟩ KG (HW.out KG dZ.out).tv (HW.out KG dZ.out).so hh (by rw[Tr.aV HG.out];rfl) (by decide) rfl (by decide));go_wp2_with fail;refine HX.out.mono ?_;rintro e XF ⟨rfl,hbn⟩;have qY:=zh (dZ.out.trans (hbn.mono dZ.out.size));clear hbn HX dZ;have dZ:=qY;clear qY;have s0:=(HC.out XF dZ.out).1;have HX:=zh (wC base B 7 3 (hof hs 0) h 6 true live n' (Tr.raw g av) fr vs vf Tr.wD XF (HW.out XF dZ.out).tv (HW.out XF dZ.out).so hh (by rw[Tr.aV HG.out];rfl) (.inl ⟨rfl,rfl⟩));go_wp2_with fail;refine HX.out.mono ?_;rintro e w16 ⟨rfl,hbn⟩;have qY:=zh (dZ.out.trans (hbn.mono dZ.out.size));clear hbn HX dZ;have dZ:=qY;clear qY;have s0:=(HC.out w16 dZ.out).1;have HX:=zh (sZ base B 7 3 (hof hs 0) h live n' (Tr.raw g av) fr vs vf Tr.wD [] w16 (HW.out w16 dZ.out).tv (HW.out w16 dZ.out).so hh (by rw[Tr.aV HG.out];rfl) (TR.nil _ _ _ _) (by decide));rw[show (Tr.raw g av h).isSome=false by rw[Tr.aV HG.out];rfl] at HX;go_wp2_with fail;refine HX.out.mono ?_;rintro e wn ⟨v,rfl,har,hbn⟩;obtain⟨Av,cv,rfl⟩:=TR.form har;have qY:=zh (dZ.out.trans (hbn.mono dZ.out.size));clear hbn HX dZ har;have dZ:=qY;clear qY;obtain⟨VD,Sn⟩:∃ x,wn.alloc (.cells #[.int .i64 0,.string ⟨#[]⟩,.slice Av 0 cv,.string ⟨#[]⟩,.int .i64 0,.int .i64 0,.int .i64 0,.int .i64 0,.int .i64 0] 42)=x:=⟨_,rfl⟩
      have MR:=zh (show Below wk.heap.size wk VD by rw[←Sn];exact dZ.out.alloc dZ.out.size _);have YT:=zh Sn;clear Sn dZ;have dZ:=MR;clear MR;have s0:=(HC.out VD dZ.out).1;have HX:=zh (yO base B 7 3 (hof hs 0) h live n' (Tr.raw g av) fr vs vf VD (HW.out VD dZ.out).tv (HW.out VD dZ.out).so hh (Tr.aV HG.out))
      go_upto_region 23 with fail
      rw[YT.out];go_wp2_with fail;refine HX.out.mono ?_;rintro e Uk ⟨rfl,hbn⟩;have qY:=zh (dZ.out.trans (hbn.mono dZ.out.size));clear hbn HX dZ;have dZ:=qY;clear qY;obtain⟨GI,MU⟩:∃ x,Uk.alloc (.cells #[.int .i64 0] 3)=x:=⟨_,rfl⟩
      have MR:=zh (show Below wk.heap.size wk GI by rw[←MU];exact dZ.out.alloc dZ.out.size _);have HN0:Hid (Whole GI Uk.heap.size #[.int .i64 0] 3):=zh (by rw[←MU];exact Whole.new Uk _ _);have HZ:Hid (Uk.heap.size<GI.heap.size∧wk.heap.size≤Uk.heap.size):=zh ⟨by rw[←MU];simp,dZ.out.size⟩;have YU:=zh MU;clear MU dZ;have dZ:=MR;clear MR;have s0:=(HC.out GI dZ.out).1;have HX:=zh (oW B h GI)
      go_upto_region 25 with fail
      rw[YU.out];go_wp2_with fail;refine HX.out.mono ?_;rintro e w' ⟨rfl,hw'⟩;have hno:∀ x:{x:Int // x∈Tr.au g h},False:=fun x=>by have h9:x.1∈([]:List Int):=Tr.lq HG.out▸x.2;cases h9
      have hL:=LS.made (h:=h) (HW.out GI dZ.out).tv;have hb2:Below GI.heap.size GI ((GI.alloc (.cells #[.pointer (some ⟨B,0,none⟩)] 29)).alloc (.cells #[.int .i64 h] 3)):=((Below.refl _ GI).alloc (Nat.le_refl _) _).alloc (by simp) _;have hseq:=rD (HW.out GI dZ.out).so (HW.out GI dZ.out).wf hh 7 (by omega) _ hL;rw[←hw'] at hL hb2 hseq;have hN2:=HN0.out.below hb2 HN0.out.lt;have hB2:=dZ.out.trans (hb2.mono dZ.out.size);have hsw:=hb2.size;clear hw' hb2 HX s0;go_wp2_with fail;refine (wpIn_wide (n:=8)).1 ?_;refine wpIn_rangeFunc_ownF (w:=w') rfl (by decide) (gf:=87) (lb:=#[.pointer (some ⟨GI.heap.size,0,none⟩),.pointer (some ⟨GI.heap.size+1,0,none⟩)]) rfl trivial (enters_of Tryz.func87 (by kernel_rfl) rfl) hseq LS.qO (LS.rE _) (Below.refl _ _) (fun _=>rfl)
       (fun pre W=>Whole W Uk.heap.size #[.int .i64 0] 3∧LS base B GI.heap.size (GI.heap.size+1) 7 3 h vs n' (Tr.raw g av) vf fr live (hof hs 0) W∧Below wk.heap.size wk W) (fun _ _ _=>False)
       ?hI ?hIx ⟨hN2,hL,hB2⟩ (fun x=>{ tmps:=#[],defers:=[] }) ?assign ?body ?done ?stop
      case hI=>
       rintro pre W W' row ⟨h1,h2,h3⟩ hg hr;exact⟨bn h1 hg (fun r e=>(hr r e).2),h2.others hg (fun r e=>(hr r e).2),h3.grown hg h3.size (fun r e=>by have:=(hr r e).1;have:=HZ.out;omega)⟩
      case hIx=>intro c pre W W' row h _ _;exact h
      case assign=>intro l x;exact (hno x).elim
      case body=>intro l pre x;exact (hno x).elim
      case stop=>
       rintro D c pre W _ _ h _;exact h.elim
      case done=>
       rintro D xs W hD rfl ⟨hX,mR,hBW⟩ hK;have HN:=zh hX;have dZ:=zh hBW;have HK:=zh hK;have s0:=(HC.out W dZ.out).1;have n0:=HN.out.cell 0;have hWD:wk.heap.size≤D:=by have:=HZ.out;omega
       clear hX mR hBW hK;have HX:=zh (EX base B 7 3 (hof hs 0) h live n' g av fr vs vf W (HW.out W dZ.out).tv (HW.out W dZ.out).so (HW.out W dZ.out).wf hh (by rw[Tr.fO HG.out];decide));go_wp2_with fail;refine HX.out.mono ?_;rintro e QX ⟨v,rfl,ho,hbn⟩;rw[Tr.fO HG.out] at ho;obtain⟨Ak,ck,rfl⟩:=aF (aH ho);have qY:=zh (dZ.out.trans (hbn.mono dZ.out.size));have Jy:=zh ((hbn.block D (Array.getElem?_eq_some_iff.1 HK.out).1).trans HK.out);have MW:=zh (HN.out.below hbn HN.out.lt);clear hbn HX dZ HK HN s0 ho n0;have dZ:=qY;have HK:=Jy;have HN:=MW;clear qY Jy MW;have s0:=(HC.out QX dZ.out).1;have HX:=zh ((show Calls Tryz.prog 17 #[.pointer (some ⟨B,0,none⟩),.int .i64 h] QX fun e w'=>e=.returned (.int .i64 (-1))∧Below QX.heap.size QX w' from by have c:=wM base B 7 3 (hof hs 0) h live n' g av fr vs vf QX (HW.out QX dZ.out).tv (HW.out QX dZ.out).so (HW.out QX dZ.out).wf hh;rw[show Tr.jG g h = -1 by unfold Tr.jG;rw[HG.out]] at c;exact c));go_wp2_with fail;refine HX.out.mono ?_;rintro e Pv ⟨rfl,hbn⟩;have qY:=zh (dZ.out.trans (hbn.mono dZ.out.size));have Jy:=zh ((hbn.block D (Array.getElem?_eq_some_iff.1 HK.out).1).trans HK.out);have MW:=zh (HN.out.below hbn HN.out.lt);clear hbn HX dZ HK HN s0;have dZ:=qY;have HK:=Jy;have HN:=MW;clear qY Jy MW;have s0:=(HC.out Pv dZ.out).1;have HX:=zh (MX base B 7 3 (hof hs 0) h live n' g av fr vs vf Pv (HW.out Pv dZ.out).tv (HW.out Pv dZ.out).so (HW.out Pv dZ.out).wf hh HG.out);go_wp2_with fail;refine HX.out.mono ?_;rintro e VE ⟨rfl,hbn⟩;have qY:=zh (dZ.out.trans (hbn.mono dZ.out.size));have Jy:=zh ((hbn.block D (Array.getElem?_eq_some_iff.1 HK.out).1).trans HK.out);have MW:=zh (HN.out.below hbn HN.out.lt);clear hbn HX dZ HK HN s0;have dZ:=qY;have HK:=Jy;have HN:=MW;clear qY Jy MW;have s0:=(HC.out VE dZ.out).1;have HX:=zh (Db base B 7 3 (hof hs 0) h live n' g av fr vs vf VE (HW.out VE dZ.out).tv (HW.out VE dZ.out).so (HW.out VE dZ.out).wf hh HG.out);go_wp2_with fail;refine HX.out.mono ?_;rintro e YV ⟨rfl,hbn⟩;have qY:=zh (dZ.out.trans (hbn.mono dZ.out.size));have Jy:=zh ((hbn.block D (Array.getElem?_eq_some_iff.1 HK.out).1).trans HK.out);have MW:=zh (HN.out.below hbn HN.out.lt);clear hbn HX dZ HK HN s0;have dZ:=qY;have HK:=Jy;have HN:=MW;clear qY Jy MW;have s0:=(HC.out YV dZ.out).1;have HX:=zh (KD base bM T B M 7 3 vs vf aT _ n' live m fr av f hs g i YV (HW.out YV dZ.out) hml (by omega));go_wp2_with fail;refine HX.out.mono ?_;rintro e w25 ⟨rfl,hbn⟩;have qY:=zh (dZ.out.trans (hbn.mono dZ.out.size));have Jy:=zh ((hbn.block D (Array.getElem?_eq_some_iff.1 HK.out).1).trans HK.out);clear hbn HX dZ HK HN s0;go_wp2_with fail;refine⟨by simp,.inl ⟨_,_,rfl,run_takeDeferred Jy.out,?_⟩⟩;refine⟨_,results_tmp rfl _ _ _,rfl,?_⟩;exact (QW.out.trans (qY.out.mono QW.out.size)).trans (belowK_b (w:=w) (Nat.le_refl _) _ D _ (.deferred none) (Nat.le_trans QW.out.size hWD) Jy.out rfl rfl)
end
end Go.Proofs.YtnbaadpgbcklaaaGreatDoor
