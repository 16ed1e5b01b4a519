/- Part of a proof about trees. -/
import Derived.Deep.CutBlock
import Derived.Deep.DeepCutAuto
import Derived.Test.YtnbaadpgbcklaaaGreatDoorS08
set_option linter.unusedVariables false
set_option linter.unusedSimpArgs false
set_option linter.unusedSectionVars false
set_option maxHeartbeats 4000000
set_option maxRecDepth 100000
namespace Go.Proofs.YtnbaadpgbcklaaaGreatDoor
section
open Go.RowKit
variable [oQ]
theorem MS.valid {T B M base bM:Nat} {b s:Int} {m:Nat} {Ah:Option Addr} {ch i:Nat} {w:World} (H:MS T B M base bM b s m Ah ch i w) (hi:i≤62) (hT:Lit w):
  w.cell? ⟨T,0,none⟩=some (.pointer (some ⟨B,0,none⟩))∧Calls Tryz.prog 14 #[.pointer (some ⟨B,0,none⟩)] w fun e w'=>e=.returned (.bool true)∧Below w.heap.size w w':=by
 obtain⟨vs,vf,aT,n,live,fr,av,f,hs,g,h⟩:=H;exact⟨h.tw.var.cell 0,h.valid hi hT⟩
theorem valid_walk (v:Value) (n:Nat) (F:Nat→qM) (w:World) (H:LU w v n F) (hn:n≤9223372036854775807) (hF:∀ i,i<n→Xu (F i)) (hT:Lit w) (hL:oQ.L=w.heap.size) (h0:oQ.w0=w):
  Calls Tryz.prog 3 #[v] w fun e w'=>e=.returned (.bool true)∧Below w.heap.size w w':=by
 have HH:=zh (fun (W:World) (hb:Below w.heap.size w W)=>H.below hb);have HT:=zh (fun (W:World) (hb:Below w.heap.size w W)=>hT.below hb);have HF:=zh hF;have HL:=zh (And.intro hL h0);obtain⟨A,c,rfl,-⟩:=H;clear hT hF hL h0
 go_enter Tryz.func3,Tryz.ntmps3
 go_wp2_with fail;refine (Cx w (HT.out w (Below.refl _ _))).mono ?_;rintro e w1 ⟨rfl,hb1⟩;have HB1:=zh hb1;go_wp2_with fail;refine (QH _ n F w1 (HH.out w1 HB1.out) hn).mono ?_;rintro e w2 ⟨r,rfl,hw2,Xv⟩;rw[hw2];clear hw2 hb1;cases r with
 | false=>
  go_wp2_with fail;refine (Cx w1 (HT.out w1 HB1.out)).mono ?_;rintro e w3 ⟨rfl,hb3⟩;have HB3:=zh (HB1.out.trans (hb3.mono HB1.out.size));clear hb3;go_wp2_with fail
  go_ret
  exact⟨rfl,HB3.out⟩
 | true=>
  have HFW:=zh (Xv rfl);clear Xv;go_wp2_with fail;refine (LV 0 0 w1).mono ?_;rintro e w3 hS;obtain⟨T,B,M,base,bM,vs,vf,aT,vh,rfl,Nn⟩:=Oy 0 0 w1 w3 e hS (by rw[HL.out.1,HL.out.2];exact HB1.out) (by rw[HL.out.1];exact HB1.out.size);obtain⟨Ah,ch,hms⟩:=Nn.ms;have Vq:=zh hms;clear hS Nn hms
  go_upto_block 0 with fail
  go_cut [4] from 23 to 48 (fun u wx=>∃ (i m ch:Nat) (Ah:Option Addr),u=.int .i64 (i:Int)∧i≤60∧Hid (MS T B M base bM 0 0 m Ah ch i wx))
  case first=>
   go_wp2_with fail
   go_loopw [4] (fun u wr=>∃ (i m ch:Nat) (Ah:Option Addr),u=.int .i64 (i:Int)∧i≤n∧Hid (MS T B M base bM 0 0 m Ah ch i wr)) (fun u _=>n - (intOf u).toNat)
   case atStart=>exact⟨0,1,ch,Ah,rfl,Nat.zero_le _,Vq⟩
   case round=>
    clear Vq;obtain⟨wo,hwo⟩:∃ wo:World,wo=wr:=⟨_,rfl⟩
    subst hwo;obtain⟨i,m,ch,Ah,rfl,hi,HM⟩:=hrel;obtain⟨t2,hml,hbk⟩:=HM.out.cell;rw[HL.out.1,HL.out.2] at hbk;have Xw:=zh hbk;have abH:=HFW.out.1;clear hbk;by_cases hin:i<n
    ·have y0:(0:Int)≤(i:Int):=by omega
     have y1:(i:Int)<(n:Int):=by omega
     by_cases AJ:m<300
     ·have y2:(m:Int)<300:=by omega
      obtain⟨A',c',e1,h2⟩:=HH.out wo Xw.out;injection e1 with e1 e2 e3;obtain⟨go,oo,hA,hcells⟩:=h2 (by omega);rw[←e1] at hA;subst hA;have ho:=(HF.out i hin).ok (HFW.out.2 i hin);have k0:wo.cell? ⟨go,oo+i*8,none⟩=some (.int .u8 (F i).kind):=hcells i 0 _ hin rfl;have k1:wo.cell? ⟨go,oo+i*8+1,none⟩=some (.int .u8 (F i).a):=hcells i 1 _ hin rfl;have k2:wo.cell? ⟨go,oo+i*8+2,none⟩=some (.int .u8 (F i).b):=hcells i 2 _ hin rfl;have k3:wo.cell? ⟨go,oo+i*8+3,none⟩=some (.int .u8 (F i).c):=hcells i 3 _ hin rfl;have k4:wo.cell? ⟨go,oo+i*8+4,none⟩=some (.string (F i).s):=hcells i 4 _ hin rfl;have k5:wo.cell? ⟨go,oo+i*8+5,none⟩=some (.string (F i).t):=hcells i 5 _ hin rfl;have k6:wo.cell? ⟨go,oo+i*8+6,none⟩=some (.int .i8 (F i).n):=hcells i 6 _ hin rfl;have k7:wo.cell? ⟨go,oo+i*8+7,none⟩=some (.int .i8 (F i).k):=hcells i 7 _ hin rfl;have HOP:=zh (HM.out.op (F i) ho (by omega) (by omega) (HT.out wo Xw.out));clear e1 e2 e3 hcells h2 ho HM;go_wp2_with fail;refine HOP.out.mono ?_;rintro e w5 ⟨lv,m',Ah',ch',rfl,hms⟩;have Ur:=zh (hms.valid (by omega) (HT.out w5 (by have h9:=hms.cell.2.2;rw[HL.out.1,HL.out.2] at h9;exact h9)));have v0:=Ur.out.1;have Vq:=zh hms;clear hms HOP;go_wp2_with fail;refine Ur.out.2.mono ?_;rintro e w6 ⟨rfl,hb6⟩;have HM6:=zh (Vq.out.below hb6);clear hb6 Ur Vq;go_wp2_with fail
      go_roundw
      case rel=>exact⟨i+1,m',ch',Ah',by go_num,by omega,HM6⟩
      case measure=>simp[intOf];omega
     ·have y2:¬ (m:Int)<300:=by omega
      go_wp2_with fail;go_meet
      case rel=>exact⟨i,m,ch,Ah,rfl,by omega,HM⟩
    ·have y1:¬ (i:Int)<(n:Int):=by omega
     go_wp2_with fail;go_meet
     case rel=>exact⟨i,m,ch,Ah,rfl,by omega,HM⟩
  case rest=>
   obtain⟨wk,hwk⟩:∃ x:World,x=wc:=⟨_,rfl⟩
   subst hwk;obtain⟨i,m,ch,Ah,rfl,abI,HM⟩:=hcut;obtain⟨t2,hml,hbk⟩:=HM.out.cell;rw[HL.out.1,HL.out.2] at hbk;have Xw:=zh hbk;obtain⟨vs,vf,aT,n',live,fr,av,f,hs,g,Oz⟩:=HM.out;have AP:=zh Oz;have HW:=zh (fun (W:World) (hb:Below wk.heap.size wk W)=>Oz.below hb);have hm0:=Oz.m0;obtain⟨gh,oh,hA⟩:∃ gh oh,Ah=some ⟨gh,oh,none⟩:=by
    have hr:=Oz.tw.row;rw[Oz.len] at hr;obtain⟨gh,oh,e1,-,-,-,-⟩:=hr.cells (by omega);exact⟨gh,oh,e1⟩
   subst hA;have qh:=zh (fun (W:World) (hb:Below wk.heap.size wk W)=>(show W.cell? ⟨T,0,none⟩=some (.pointer (some ⟨B,0,none⟩))∧W.cell? ⟨T,2,none⟩=some (.slice (some ⟨gh,oh,none⟩) m ch) from⟨(Oz.below hb).tw.var.cell 0,(Oz.below hb).tw.var.cell 2⟩));have qX:=zh (fun (W:World) (hb:Below wk.heap.size wk W) (j:Nat) (hj:j<m)=>(show W.cell? ⟨gh,oh+j,none⟩=some (.int .i64 (hof hs (j:Int))) from by
    have hr:=(Oz.below hb).tw.row;rw[Oz.len] at hr
    exact hr.cellAt j _ (by omega) (dX (Oz.bH hj))))
   clear hbk Oz Vq t2 HFW HF HH HM hn;go_wp2_with fail
   go_loopw [5] (fun u wr=>∃ j:Nat,u=.int .i64 (j:Int)∧j≤m∧Hid (Below wk.heap.size wk wr)) (fun u _=>m - (intOf u).toNat)
   case atStart=>exact⟨0,rfl,Nat.zero_le _,zh (Below.refl _ _)⟩
   case round=>
    obtain⟨wo,hwo⟩:∃ wo:World,wo=wr:=⟨_,rfl⟩
    subst hwo;obtain⟨j,rfl,hj,HB⟩:=hrel;obtain⟨t0,t2⟩:=qh.out wo HB.out;by_cases hjm:j<m
    ·have y0:(0:Int)≤(j:Int):=by omega
     have y1:(j:Int)<(m:Int):=by omega
     obtain⟨h,hh⟩:=eX (hof hs (j:Int))
     obtain⟨V,hV⟩:=eX (wo.drew)
     have bW:=zh (show Below wk.heap.size wk V by rw[←hV];exact HB.out.trans ⟨rfl,rfl,rfl,Nat.le_refl _,fun _ _=>rfl⟩);have vY:=zh (fun (W:World) (hb:Below wk.heap.size wk W)=>(show W.cell? ⟨T,0,none⟩=some (.pointer (some ⟨B,0,none⟩))∧W.cell? ⟨T,2,none⟩=some (.slice (some ⟨gh,oh,none⟩) m ch)∧W.cell? ⟨gh,oh+j,none⟩=some (.int .i64 h) from⟨(qh.out W hb).1,(qh.out W hb).2,by have:=qX.out W hb j hjm;rw[hh] at this;exact this⟩));obtain⟨q,hq⟩:=eX ((f j).gone)
     obtain⟨D,l,hDl⟩:∃ (D:Tr.Nd) (l:List (ByteArray×ByteArray)),(Tr.raw g av h).getD Tr.yD=D∧(∀ W,Below wk.heap.size wk W→AR W 0 (.slice D.av.a D.av.n D.av.c) l)∧l.length≤1000∧(Tr.raw g av h).isSome=!q∧(q=false→D=Tr.bU g av h (Tr.dV (hof hs) (jD (f j)))∧l=(f j).at'):=by
      cases hg:(f j).gone with
      | true=>
       obtain⟨e1,e2⟩:=AP.out.lC hjm hg;have e3:Tr.raw g av h=none:=by rw[←hh,e1];exact Tr.bB e2
       refine⟨Tr.yD,[],by rw[e3];rfl,fun W _=>TR.nil _ _ _ _,by simp,by rw[e3,←hq,hg];rfl,fun e=>by rw[←hq,hg] at e;cases e⟩
      | false=>
       have eg:g h=some (Tr.dV (hof hs) (jD (f j))):=by rw[←hh];exact AP.out.cK hjm hg
       refine⟨_,(f j).at',by rw[Tr.aj eg];rfl,fun W hb=>(HW.out W hb).at' h _ eg,by have:=(AP.out.bd j hjm).1;omega,by rw[Tr.aj eg,←hq,hg];rfl,fun _=>⟨rfl,rfl⟩⟩
     obtain⟨hD,hla,hll,hsm,hlv⟩:=hDl;have HN:=zh (fun (W:World) (hb:Below wk.heap.size wk W)=>by have h1:=sU base B 0 0 (hof hs 0) h live n' (Tr.raw g av) fr vs vf D l W (HW.out W hb).tv AP.out.so (by rw[←hh];exact AP.out.i64 hjm) hD (hla W hb) hll;rw[hsm] at h1;exact h1);have uq:=zh hlv;have HHQ:=zh (And.intro hh hq);clear hD hla hsm hlv hh hq;go_wp2_with fail;clear t0 t2
     go_cut [6,7] (fun u6 u7 wc=>∃ (X:Nat) (vA:Value),u7=.bool (!q)∧u6=.pointer (some ⟨X,0,none⟩)∧Whole wc X #[.int .i64 D.kind,.string D.name,vA,.string D.data,.int .i64 D.pa,.int .i64 D.fi,.int .i64 D.la,.int .i64 D.pr,.int .i64 D.ne] 42∧Below wk.heap.size wk wc)
     case first=>
      rename_i J0 K0 hJ0 jg;refine wp_region_noPanic ?_;refine wp_region_held_drew (S:=(fun W=>W.cell? ⟨T,0,none⟩=some (.pointer (some ⟨B,0,none⟩))∧W.cell? ⟨T,2,none⟩=some (.slice (some ⟨gh,oh,none⟩) m ch)∧W.cell? ⟨gh,oh+j,none⟩=some (.int .i64 h))) (by kernel_rfl) ?_ (fun ah=>?_)
      ·exact (by rw[hV];exact vY.out V bW.out)
      rw[hV] at ah ⊢;refine bE [0,1,2,3,4,5,6,7,8,9,10] ?_;iterate 11 (refine dQ ?_;try simp only[pS])
      refine bF ?_;refine yg 11 15 (fun K hK=>?_) fun K hK=>?_
      ·go_simp;refine (HN.out V bW.out).mono ?_;rintro e w2 ⟨vA,rfl,hra,hb2⟩;obtain⟨Av,cv,rfl⟩:=hra.form;have HB2:=zh (bW.out.trans (hb2.mono bW.out.size));refine hK.out _ _ (vY.out w2 HB2.out) fun ah=>?_;clear hK K;(try simp only[pS]);refine bE [12,13,14] ?_;iterate 3 (refine dQ ?_;try simp only[pS])
       refine bF ?_;obtain⟨w3,hw3⟩:=eX (w2.alloc (.cells #[.int .i64 0,.string ⟨#[]⟩,.slice none 0 0,.string ⟨#[]⟩,.int .i64 0,.int .i64 0,.int .i64 0,.int .i64 0,.int .i64 0] 42))
       have aR:Whole w3 w2.heap.size #[.int .i64 0,.string ⟨#[]⟩,.slice none 0 0,.string ⟨#[]⟩,.int .i64 0,.int .i64 0,.int .i64 0,.int .i64 0,.int .i64 0] 42:=by rw[←hw3];exact Whole.new w2 _ _
       have hb3:Below w2.heap.size w2 w3:=gP hw3;have HB3:=zh (HB2.out.trans (hb3.mono HB2.out.size));refine bI 15 fun K hK=>?_;go_simp;(try rw[hw3]);refine hK.out _ _ (vY.out w3 HB3.out) fun ah=>?_;clear hK K;(try simp only[pS]);obtain⟨W3,hW3,Ox,g3⟩:=QI aR (.int .i64 D.kind) (.string D.name) (.slice Av l.length cv) (.string D.data) (.int .i64 D.pa) (.int .i64 D.fi) (.int .i64 D.la) (.int .i64 D.pr) (.int .i64 D.ne);have OA:=zh (HB3.out.grown g3 HB3.out.size (fun k hk=>by injection hk with hk;have:=HB2.out.size;omega));have y0:w3.cell? ⟨w2.heap.size,0,none⟩=some (.int .i64 0):=aR.cell 0;have y1:w3.cell? ⟨w2.heap.size,1,none⟩=some (.string ⟨#[]⟩):=aR.cell 1;have y2:w3.cell? ⟨w2.heap.size,2,none⟩=some (.slice none 0 0):=aR.cell 2;have y3:w3.cell? ⟨w2.heap.size,3,none⟩=some (.string ⟨#[]⟩):=aR.cell 3;have y4:w3.cell? ⟨w2.heap.size,4,none⟩=some (.int .i64 0):=aR.cell 4;have y5:w3.cell? ⟨w2.heap.size,5,none⟩=some (.int .i64 0):=aR.cell 5;have y6:w3.cell? ⟨w2.heap.size,6,none⟩=some (.int .i64 0):=aR.cell 6;have y7:w3.cell? ⟨w2.heap.size,7,none⟩=some (.int .i64 0):=aR.cell 7;have y8:w3.cell? ⟨w2.heap.size,8,none⟩=some (.int .i64 0):=aR.cell 8;have AU:=aR.free 0;have AV:=aR.free 1;have AX:=aR.free 2;have AY:=aR.free 3;have AZ:=aR.free 4;have Ba:=aR.free 5;have Bb:=aR.free 6;have Bc:=aR.free 7;have Bd:=aR.free 8;refine bI 16 fun K hK=>?_;go_simp;(try rw[hW3]);refine hK.out _ _ (vY.out W3 OA.out) fun ah=>?_;clear hK K;(try simp only[pS]);refine bE [17] ?_;iterate 1 (refine dQ ?_;try simp only[pS])
       refine bF ?_;refine gq ?_;refine jg _ _ (Met.intro (hJ0 _ _ ?_))
       repeat apply Exists.intro
       exact⟨⟨_,_,rfl,rfl,Ox,OA.out⟩,rfl⟩
      ·go_simp;obtain⟨w2,hw2⟩:=eX (V.alloc (.cells #[.int .i64 0,.string ⟨#[]⟩,.slice none 0 0,.string ⟨#[]⟩,.int .i64 0,.int .i64 0,.int .i64 0,.int .i64 0,.int .i64 0] 42))
       have hX2:Whole w2 V.heap.size #[.int .i64 0,.string ⟨#[]⟩,.slice none 0 0,.string ⟨#[]⟩,.int .i64 0,.int .i64 0,.int .i64 0,.int .i64 0,.int .i64 0] 42:=by rw[←hw2];exact Whole.new V _ _
       have hb2:Below V.heap.size V w2:=gP hw2;have HB2:=zh (bW.out.trans (hb2.mono bW.out.size));(try rw[hw2]);refine hK.out _ _ (vY.out w2 HB2.out) fun ah=>?_;clear hK K;(try simp only[pS]);refine bI 11 fun K hK=>?_;go_simp;refine (HN.out w2 HB2.out).mono ?_;rintro e w3 ⟨vA,rfl,hra,hb3⟩;obtain⟨Av,cv,rfl⟩:=hra.form;have aR:=hX2.below hb3 hX2.lt;have HB3:=zh (HB2.out.trans (hb3.mono HB2.out.size));refine hK.out _ _ (vY.out w3 HB3.out) fun ah=>?_;clear hK K;(try simp only[pS]);refine bE [12,13,14] ?_;iterate 3 (refine dQ ?_;try simp only[pS])
       refine bF ?_;obtain⟨W3,hW3,Ox,g3⟩:=QI aR (.int .i64 D.kind) (.string D.name) (.slice Av l.length cv) (.string D.data) (.int .i64 D.pa) (.int .i64 D.fi) (.int .i64 D.la) (.int .i64 D.pr) (.int .i64 D.ne);have OA:=zh (HB3.out.grown g3 HB3.out.size (fun k hk=>by injection hk with hk;have:=bW.out.size;omega));have y0:w3.cell? ⟨V.heap.size,0,none⟩=some (.int .i64 0):=aR.cell 0;have y1:w3.cell? ⟨V.heap.size,1,none⟩=some (.string ⟨#[]⟩):=aR.cell 1;have y2:w3.cell? ⟨V.heap.size,2,none⟩=some (.slice none 0 0):=aR.cell 2;have y3:w3.cell? ⟨V.heap.size,3,none⟩=some (.string ⟨#[]⟩):=aR.cell 3;have y4:w3.cell? ⟨V.heap.size,4,none⟩=some (.int .i64 0):=aR.cell 4;have y5:w3.cell? ⟨V.heap.size,5,none⟩=some (.int .i64 0):=aR.cell 5;have y6:w3.cell? ⟨V.heap.size,6,none⟩=some (.int .i64 0):=aR.cell 6;have y7:w3.cell? ⟨V.heap.size,7,none⟩=some (.int .i64 0):=aR.cell 7;have y8:w3.cell? ⟨V.heap.size,8,none⟩=some (.int .i64 0):=aR.cell 8;have AU:=aR.free 0;have AV:=aR.free 1;have AX:=aR.free 2;have AY:=aR.free 3;have AZ:=aR.free 4;have Ba:=aR.free 5;have Bb:=aR.free 6;have Bc:=aR.free 7;have Bd:=aR.free 8;refine bI 16 fun K hK=>?_;go_simp;(try rw[hW3]);refine hK.out _ _ (vY.out W3 OA.out) fun ah=>?_;clear hK K;(try simp only[pS]);refine bE [17] ?_;iterate 1 (refine dQ ?_;try simp only[pS])
       refine bF ?_;refine gq ?_;refine jg _ _ (Met.intro (hJ0 _ _ ?_))
       repeat apply Exists.intro
       exact⟨⟨_,_,rfl,rfl,Ox,OA.out⟩,rfl⟩
     case rest=>
      obtain⟨wa,Bn⟩:∃ x:World,x=wc:=⟨_,rfl⟩
      subst Bn;obtain⟨X,vA,rfl,rfl,hX,hbc⟩:=hcut;have HX:=zh hX;have WJ:=zh hbc;clear hX hbc;cases q with
      | true=>
       go_wp2_with fail
       go_roundw
       case rel=>exact⟨j+1,by go_num,by omega,WJ⟩
       case measure=>simp[intOf];omega
      | false=>
       have eg:g h=some (Tr.dV (hof hs) (jD (f j))):=by rw[←HHQ.out.1];exact AP.out.cK hjm HHQ.out.2
       obtain⟨kl,hkl⟩:=eX (Tr.ak g h)
       have hke:(Tr.dV (hof hs) (jD (f j))).kids=kl:=by rw[←hkl,Tr.aJ eg]
       have HD:=zh (show D.fi=Tr.fs kl∧D.la=Tr.eZ kl by rw[(uq.out rfl).1,←hke];exact⟨rfl,rfl⟩);have Y0:=zh (show kl.Nodup by rw[←hkl];exact AP.out.wf.gF h);have hkn:kl.length≤100000:=by rw[←hkl];exact Nat.le_trans (F3 AP.out.so AP.out.wf h) (by have:=AP.out.so.le;omega)
       have HKM:=zh (show ∀ x∈kl,∃ q,g x=some q∧q.pa=h from fun x hx=>AP.out.wf.down h _ x eg (by rw[hke];exact hx));have aaL:lQ h:=by rw[←HHQ.out.1];exact AP.out.i64 hjm
       have IW:=zh (fun (W:World) (hb:Below wk.heap.size wk W)=>show Calls Tryz.prog 16 #[.pointer (some ⟨B,0,none⟩),.int .i64 h] W fun e w'=>∃ v,e=.returned v∧w'.ownsRow W.heap.size 3 1 v kl.length (ints kl)∧Below W.heap.size W w' from by rw[←hkl];exact OB base B 0 0 (hof hs 0) h live n' g av fr vs vf W (HW.out W hb).tv AP.out.so AP.out.wf aaL (by rw[hkl];exact hkn));have nX:=zh (And.intro eg hkl);obtain⟨NL,hNL⟩:=eX (kl.length)
       rw[hNL] at IW hkn;have Vr:=zh hNL;obtain⟨V2,hV2⟩:=eX (wa.drew)
       have Ur:=zh (show Below wa.heap.size wa V2 from qd hV2);have nV:=zh (WJ.out.trans (Ur.out.mono WJ.out.size));clear eg hkl hke hNL;go_wp2_with fail
       go_cut [9] (fun u9 wc=>∃ (kA:Option Addr) (kc:Nat),u9=.slice kA NL kc∧wc.ownsRow 0 3 1 (.slice kA NL kc) NL (ints kl)∧Whole wc X #[.int .i64 D.kind,.string D.name,vA,.string D.data,.int .i64 D.pa,.int .i64 D.fi,.int .i64 D.la,.int .i64 D.pr,.int .i64 D.ne] 42∧Below wk.heap.size wk wc)
       case first=>
        rename_i J0 K0 hJ0 jg;refine wp_region_noPanic ?_;refine wp_region_held_drew (S:=(fun W=>W.cell? ⟨T,0,none⟩=some (.pointer (some ⟨B,0,none⟩))∧W.cell? ⟨T,2,none⟩=some (.slice (some ⟨gh,oh,none⟩) m ch)∧W.cell? ⟨gh,oh+j,none⟩=some (.int .i64 h))) (by kernel_rfl) ?_ (fun ah=>?_)
        ·exact (by rw[hV2];exact vY.out V2 nV.out)
        rw[hV2] at ah ⊢;refine bE [0,1,2,3,4,5,6,7,8,9,10] ?_;iterate 11 (refine dQ ?_;try simp only[pS])
        refine bF ?_;refine bI 11 fun K hK=>?_;go_simp;refine (IW.out V2 nV.out).mono ?_;rintro e w2 ⟨v,rfl,hkr,hb2⟩;obtain⟨kA,kc,rfl⟩:=aG (aH hkr);have HB2:=zh (nV.out.trans (hb2.mono nV.out.size));have gH:=zh ((HX.out.below Ur.out HX.out.lt).below hb2 (HX.out.below Ur.out HX.out.lt).lt);refine hK.out _ _ (vY.out w2 HB2.out) fun ah=>?_;clear hK K;(try simp only[pS]);refine bE [12] ?_;iterate 1 (refine dQ ?_;try simp only[pS])
        refine bF ?_;refine gq ?_;refine jg _ _ (Met.intro (hJ0 _ _ ?_))
        repeat apply Exists.intro
        exact⟨⟨_,_,rfl,aH hkr,gH.out,HB2.out⟩,rfl⟩
       case rest=>
        obtain⟨wb,hwb⟩:∃ x:World,x=wc:=⟨_,rfl⟩
        subst hwb;obtain⟨kA,kc,rfl,hkr,Vp,hbb⟩:=hcut;have Qf:=zh hkr;have HXB:=zh Vp;have Y1:=zh hbb;clear hkr Vp hbb HX;go_wp2_with fail
        go_loopw [8,10] (fun u8 u10 wr=>∃ k:Nat,u8=.int .i64 (Xx kl k)∧u10=.int .i64 (k:Int)∧k≤NL∧Hid (Below wb.heap.size wb wr)) (fun _ u10 _=>NL - (intOf u10).toNat)
        case atStart=>exact⟨0,rfl,rfl,Nat.zero_le _,zh (Below.refl _ _)⟩
        case round=>
         obtain⟨wp,hwp⟩:∃ wp:World,wp=wr:=⟨_,rfl⟩
         subst hwp;obtain⟨k,rfl,rfl,hk,HP⟩:=hrel;obtain⟨L,hL⟩:=eX (Xx kl k)
         have TT:=zh hL;rw[hL];clear hL;have HBP:=zh (Y1.out.trans (HP.out.mono Y1.out.size));by_cases hkN:k<NL
         ·have z1:(k:Int)<(NL:Int):=by omega
          have z0:(0:Int)≤(k:Int):=by omega
          obtain⟨x,hx⟩:∃ x,kl[k]?=some x:=⟨kl[k]'(by rw[Vr.out];exact hkN),by simp⟩
          obtain⟨kg,hkA,hkc⟩:∃ kg,kA=some ⟨kg,0,none⟩∧∀ W,Below wb.heap.size wb W→W.cell? ⟨kg,k,none⟩=some (.int .i64 x):=by
           obtain⟨kg,e1,-,-⟩:=iJ Qf.out (by omega);refine⟨kg,e1,fun W hb=>?_⟩;have hr:=own_below Qf.out hb;rw[e1] at hr;obtain⟨kg2,e2,-,e3⟩:=iJ hr (by omega);injection e2 with e2;injection e2 with e2;rw[e2];exact e3 k _ (dX hx)
          subst hkA;obtain⟨Q,eQ,Xy⟩:=HKM.out x (List.mem_of_getElem? hx);have hpr:=QJ Y0.out hx;obtain⟨E,hE⟩:=eX (Tr.bU g av x Q)
          have HE:=zh (show E.pa=h∧E.pr=L from by
           rw[←hE];refine⟨Xy,?_⟩;show Tr.prv (Tr.ak g Q.pa) x=L
           rw[Xy,nX.out.2,hpr.1,TT.out])
          have hh0:h≠0:=fun e=>by have:=nX.out.1;rw[e,AP.out.wf.zero] at this;cases this
          have aaM:=zh (show Tr.kQ g x=(k:Int) from by
           unfold Tr.kQ;rw[eQ];show (if Q.pa=0 then _ else _)=_
           rw[if_neg (by rw[Xy];exact hh0),Xy,nX.out.2,hpr.2])
          have hxi:lQ x:=(bC AP.out.so (h:=x) (by rw[aI,eQ];rfl)).1;have hal:Q.attrs.length≤1000:=by
           obtain⟨y,hy,e2⟩:=AP.out.im.dom x (by rw[eQ];rfl);obtain⟨i2,rfl,hi2,hg2,-⟩:=jE hy;have e3:=AP.out.cK hi2 hg2;rw[e2,eQ] at e3;obtain rfl:=Option.some.inj e3;have:=(AP.out.bd i2 hi2).1;show (f i2).at'.length≤_;omega
          obtain⟨l3,hl3⟩:=eX (Q.attrs)
          rw[hl3] at hal;have xg:=zh (fun (W:World) (hb:Below wb.heap.size wb W)=>Y1.out.trans (hb.mono Y1.out.size));have HN3:=zh (fun (W:World) (hb:Below wb.heap.size wb W)=>by have h1:=sU base B 0 0 (hof hs 0) x live n' (Tr.raw g av) fr vs vf E l3 W (HW.out W (xg.out W hb)).tv AP.out.so hxi (by rw[Tr.aj eQ];exact hE) (by rw[←hE,←hl3];exact (HW.out W (xg.out W hb)).at' x Q eQ) hal;rw[show (Tr.raw g av x).isSome=true by rw[aI,eQ];rfl] at h1;exact h1);have Sb:=zh (fun (W:World) (hb:Below wk.heap.size wk W)=>show Calls Tryz.prog 17 #[.pointer (some ⟨B,0,none⟩),.int .i64 x] W fun e w'=>e=.returned (.int .i64 (k:Int))∧Below W.heap.size W w' from by rw[←aaM.out];exact Cy base B 0 0 (hof hs 0) x live n' g av fr vs vf W (HW.out W hb).tv AP.out.so AP.out.wf hxi);have D5:=zh (fun (W:World) (hb:Below wb.heap.size wb W)=>show W.cell? ⟨T,0,none⟩=some (.pointer (some ⟨B,0,none⟩))∧W.cell? ⟨kg,k,none⟩=some (.int .i64 x) from⟨(qh.out W (xg.out W hb)).1,hkc W hb⟩);obtain⟨V3,jJ⟩:=eX (wp.drew)
          have Je:=zh (HP.out.trans (show Below wb.heap.size wp V3 by rw[←jJ];exact ⟨rfl,rfl,rfl,Nat.le_refl _,fun _ _=>rfl⟩));have RX:=zh hx;clear hx hkc eQ Xy hpr hE hl3;go_wp2_with fail
          go_cut [11] (fun u11 wc=>∃ (Y:Nat) (vB:Value),u11=.pointer (some ⟨Y,0,none⟩)∧Whole wc Y #[.int .i64 E.kind,.string E.name,vB,.string E.data,.int .i64 E.pa,.int .i64 E.fi,.int .i64 E.la,.int .i64 E.pr,.int .i64 E.ne] 42∧Below wb.heap.size wb wc)
          case first=>
           rename_i J0 K0 hJ0 jg;refine wp_region_noPanic ?_;refine wp_region_held_drew (S:=(fun W=>W.cell? ⟨T,0,none⟩=some (.pointer (some ⟨B,0,none⟩))∧W.cell? ⟨kg,k,none⟩=some (.int .i64 x))) (by kernel_rfl) ?_ (fun ah=>?_)
           ·exact (by rw[jJ];exact D5.out V3 Je.out)
           rw[jJ] at ah ⊢;refine bE [0,1,2,3,4,5,6,7] ?_;iterate 8 (refine dQ ?_;try simp only[pS])
           refine bF ?_;refine yg 8 12 (fun K hK=>?_) fun K hK=>?_
           ·go_simp;refine (HN3.out V3 Je.out).mono ?_;rintro e w2 ⟨vA,rfl,hra,hb2⟩;obtain⟨Av,cv,rfl⟩:=hra.form;have HB2:=zh (Je.out.trans (hb2.mono Je.out.size));refine hK.out _ _ (D5.out w2 HB2.out) fun ah=>?_;clear hK K;(try simp only[pS]);refine bE [9,10,11] ?_;iterate 3 (refine dQ ?_;try simp only[pS])
            refine bF ?_;obtain⟨w3,hw3⟩:=eX (w2.alloc (.cells #[.int .i64 0,.string ⟨#[]⟩,.slice none 0 0,.string ⟨#[]⟩,.int .i64 0,.int .i64 0,.int .i64 0,.int .i64 0,.int .i64 0] 42))
            have aR:Whole w3 w2.heap.size #[.int .i64 0,.string ⟨#[]⟩,.slice none 0 0,.string ⟨#[]⟩,.int .i64 0,.int .i64 0,.int .i64 0,.int .i64 0,.int .i64 0] 42:=by rw[←hw3];exact Whole.new w2 _ _
            have hb3:Below w2.heap.size w2 w3:=gP hw3;have HB3:=zh (HB2.out.trans (hb3.mono HB2.out.size));refine bI 12 fun K hK=>?_;go_simp;(try rw[hw3]);refine hK.out _ _ (D5.out w3 HB3.out) fun ah=>?_;clear hK K;(try simp only[pS]);obtain⟨W3,hW3,Ox,g3⟩:=QI aR (.int .i64 E.kind) (.string E.name) (.slice Av l3.length cv) (.string E.data) (.int .i64 E.pa) (.int .i64 E.fi) (.int .i64 E.la) (.int .i64 E.pr) (.int .i64 E.ne);have OA:=zh (HB3.out.grown g3 HB3.out.size (fun k hk=>by injection hk with hk;have:=HB2.out.size;omega));have y0:w3.cell? ⟨w2.heap.size,0,none⟩=some (.int .i64 0):=aR.cell 0;have y1:w3.cell? ⟨w2.heap.size,1,none⟩=some (.string ⟨#[]⟩):=aR.cell 1;have y2:w3.cell? ⟨w2.heap.size,2,none⟩=some (.slice none 0 0):=aR.cell 2;have y3:w3.cell? ⟨w2.heap.size,3,none⟩=some (.string ⟨#[]⟩):=aR.cell 3;have y4:w3.cell? ⟨w2.heap.size,4,none⟩=some (.int .i64 0):=aR.cell 4;have y5:w3.cell? ⟨w2.heap.size,5,none⟩=some (.int .i64 0):=aR.cell 5;have y6:w3.cell? ⟨w2.heap.size,6,none⟩=some (.int .i64 0):=aR.cell 6;have y7:w3.cell? ⟨w2.heap.size,7,none⟩=some (.int .i64 0):=aR.cell 7;have y8:w3.cell? ⟨w2.heap.size,8,none⟩=some (.int .i64 0):=aR.cell 8;have AU:=aR.free 0;have AV:=aR.free 1;have AX:=aR.free 2;have AY:=aR.free 3;have AZ:=aR.free 4;have Ba:=aR.free 5;have Bb:=aR.free 6;have Bc:=aR.free 7;have Bd:=aR.free 8;refine bI 13 fun K hK=>?_;go_simp;(try rw[hW3]);refine hK.out _ _ (D5.out W3 OA.out) fun ah=>?_;clear hK K;(try simp only[pS]);refine bE [14] ?_;iterate 1 (refine dQ ?_;try simp only[pS])
            refine bF ?_;refine gq ?_;refine jg _ _ (Met.intro (hJ0 _ _ ?_))
            repeat apply Exists.intro
            exact⟨⟨_,_,rfl,Ox,OA.out⟩,rfl⟩
           ·go_simp;obtain⟨w2,hw2⟩:=eX (V3.alloc (.cells #[.int .i64 0,.string ⟨#[]⟩,.slice none 0 0,.string ⟨#[]⟩,.int .i64 0,.int .i64 0,.int .i64 0,.int .i64 0,.int .i64 0] 42))
            have hX2:Whole w2 V3.heap.size #[.int .i64 0,.string ⟨#[]⟩,.slice none 0 0,.string ⟨#[]⟩,.int .i64 0,.int .i64 0,.int .i64 0,.int .i64 0,.int .i64 0] 42:=by rw[←hw2];exact Whole.new V3 _ _
            have hb2:Below V3.heap.size V3 w2:=gP hw2;have HB2:=zh (Je.out.trans (hb2.mono Je.out.size));(try rw[hw2]);refine hK.out _ _ (D5.out w2 HB2.out) fun ah=>?_;clear hK K;(try simp only[pS]);refine bI 8 fun K hK=>?_;go_simp;refine (HN3.out w2 HB2.out).mono ?_;rintro e w3 ⟨vA,rfl,hra,hb3⟩;obtain⟨Av,cv,rfl⟩:=hra.form;have aR:=hX2.below hb3 hX2.lt;have HB3:=zh (HB2.out.trans (hb3.mono HB2.out.size));refine hK.out _ _ (D5.out w3 HB3.out) fun ah=>?_;clear hK K;(try simp only[pS]);refine bE [9,10,11] ?_;iterate 3 (refine dQ ?_;try simp only[pS])
            refine bF ?_;obtain⟨W3,hW3,Ox,g3⟩:=QI aR (.int .i64 E.kind) (.string E.name) (.slice Av l3.length cv) (.string E.data) (.int .i64 E.pa) (.int .i64 E.fi) (.int .i64 E.la) (.int .i64 E.pr) (.int .i64 E.ne);have OA:=zh (HB3.out.grown g3 HB3.out.size (fun k hk=>by injection hk with hk;have:=Je.out.size;omega));have y0:w3.cell? ⟨V3.heap.size,0,none⟩=some (.int .i64 0):=aR.cell 0;have y1:w3.cell? ⟨V3.heap.size,1,none⟩=some (.string ⟨#[]⟩):=aR.cell 1;have y2:w3.cell? ⟨V3.heap.size,2,none⟩=some (.slice none 0 0):=aR.cell 2;have y3:w3.cell? ⟨V3.heap.size,3,none⟩=some (.string ⟨#[]⟩):=aR.cell 3;have y4:w3.cell? ⟨V3.heap.size,4,none⟩=some (.int .i64 0):=aR.cell 4;have y5:w3.cell? ⟨V3.heap.size,5,none⟩=some (.int .i64 0):=aR.cell 5;have y6:w3.cell? ⟨V3.heap.size,6,none⟩=some (.int .i64 0):=aR.cell 6;have y7:w3.cell? ⟨V3.heap.size,7,none⟩=some (.int .i64 0):=aR.cell 7;have y8:w3.cell? ⟨V3.heap.size,8,none⟩=some (.int .i64 0):=aR.cell 8;have AU:=aR.free 0;have AV:=aR.free 1;have AX:=aR.free 2;have AY:=aR.free 3;have AZ:=aR.free 4;have Ba:=aR.free 5;have Bb:=aR.free 6;have Bc:=aR.free 7;have Bd:=aR.free 8;refine bI 13 fun K hK=>?_;go_simp;(try rw[hW3]);refine hK.out _ _ (D5.out W3 OA.out) fun ah=>?_;clear hK K;(try simp only[pS]);refine bE [14] ?_;iterate 1 (refine dQ ?_;try simp only[pS])
            refine bF ?_;refine gq ?_;refine jg _ _ (Met.intro (hJ0 _ _ ?_))
            repeat apply Exists.intro
            exact⟨⟨_,_,rfl,Ox,OA.out⟩,rfl⟩
          case rest=>
           obtain⟨wd,hwd⟩:∃ x:World,x=wc:=⟨_,rfl⟩
           subst hwd;obtain⟨Y,vB,rfl,hY,hbd⟩:=hcut;have yZ:=zh hbd;obtain⟨F1,hF1⟩:=eX (D.fi)
           have QK:=zh (fun (W:World) (hb:Below wd.heap.size wd W)=>show W.cell? ⟨T,0,none⟩=some (.pointer (some ⟨B,0,none⟩))∧W.cell? ⟨T,2,none⟩=some (.slice (some ⟨gh,oh,none⟩) m ch)∧W.cell? ⟨gh,oh+j,none⟩=some (.int .i64 h)∧W.cell? ⟨kg,k,none⟩=some (.int .i64 x)∧W.cell? ⟨Y,4,none⟩=some (.int .i64 h)∧W.cell? ⟨Y,7,none⟩=some (.int .i64 L)∧W.cell? ⟨X,5,none⟩=some (.int .i64 F1) from by
            have h1:=hbd.trans (hb.mono hbd.size);have h2:=hY.below hb hY.lt;have h3:=HXB.out.below h1 HXB.out.lt;have h4:=vY.out W (xg.out W h1);refine⟨h4.1,h4.2.1,h4.2.2,(D5.out W h1).2,?_,?_,?_⟩
            ·rw[←HE.out.1];exact h2.cell 4
            ·rw[←HE.out.2];exact h2.cell 7
            ·rw[←hF1];exact h3.cell 5)
           obtain⟨V4,yt⟩:=eX (wd.drew)
           have F4:=zh (show Below wd.heap.size wd V4 from qd yt);have Xz:=zh (fun (W:World) (hb:Below wd.heap.size wd W)=>Sb.out W (xg.out W (yZ.out.trans (hb.mono yZ.out.size))));have HF:=zh (show k=0→F1=x from fun e=>by
            rw[←hF1,HD.out.1];have h9:=RX.out;rw[e] at h9;cases QE:kl with
            | nil=>rw[QE] at h9;cases h9
            | cons a r=>rw[QE] at h9;exact Option.some.inj h9)
           clear hY hbd hF1 Sb;go_wp2_with fail
           go_cut [146] (fun u wc=>u=.bool false∧Below wd.heap.size wd wc)
           case first=>
            rcases Nat.eq_zero_or_pos k with hk0 | hk0
            ·have q0:((k:Int) == 0)=true:=by simp[hk0]
             have hf1:=HF.out hk0;have q1:(F1 != x)=false:=by simp[hf1]
             have q2:(F1 == x)=true:=by simp[hf1]
             clear hf1;clear hk0;rename_i J0 K0 hJ0 jg;refine wp_region_noPanic ?_;refine wp_region_held_drew (S:=(fun W=>W.cell? ⟨T,0,none⟩=some (.pointer (some ⟨B,0,none⟩))∧W.cell? ⟨T,2,none⟩=some (.slice (some ⟨gh,oh,none⟩) m ch)∧W.cell? ⟨gh,oh+j,none⟩=some (.int .i64 h)∧W.cell? ⟨kg,k,none⟩=some (.int .i64 x)∧W.cell? ⟨Y,4,none⟩=some (.int .i64 h)∧W.cell? ⟨Y,7,none⟩=some (.int .i64 L)∧W.cell? ⟨X,5,none⟩=some (.int .i64 F1))) (by kernel_rfl) ?_ (fun ah=>?_)
             ·exact (by rw[yt];exact QK.out V4 F4.out)
             rw[yt] at ah ⊢;refine bE [0,1,2,3,4,5,6,7,8,9,10,11,12,13,14,15,16,17,18,19] ?_;iterate 20 (refine dQ ?_;try simp only[pS])
             refine bF ?_;refine bE [20,21,22,23,24,25,26] ?_;iterate 7 (refine dQ ?_;try simp only[pS])
             refine bF ?_;refine bE [27,28,29,30,31,32,33,34,35,36,37,39] ?_;iterate 12 (refine dQ ?_;try simp only[pS])
             refine bF ?_;refine bI 38 fun K hK=>?_;go_simp;refine (Xz.out V4 F4.out).mono ?_;rintro e w2 ⟨rfl,hb2⟩;have HB2:=zh (F4.out.trans (hb2.mono F4.out.size));refine hK.out _ _ (QK.out w2 HB2.out) fun ah=>?_;clear hK K;(try simp only[pS]);refine bE [40,41] ?_;iterate 2 (refine dQ ?_;try simp only[pS])
             refine bF ?_;refine gq ?_;refine jg _ _ (Met.intro (hJ0 _ _ ?_))
             repeat apply Exists.intro
             exact⟨⟨rfl,HB2.out⟩,rfl⟩
            ·have q0:((k:Int) == 0)=false:=by simp;omega
             rename_i J0 K0 hJ0 jg;refine wp_region_noPanic ?_;refine wp_region_held_drew (S:=(fun W=>W.cell? ⟨T,0,none⟩=some (.pointer (some ⟨B,0,none⟩))∧W.cell? ⟨T,2,none⟩=some (.slice (some ⟨gh,oh,none⟩) m ch)∧W.cell? ⟨gh,oh+j,none⟩=some (.int .i64 h)∧W.cell? ⟨kg,k,none⟩=some (.int .i64 x)∧W.cell? ⟨Y,4,none⟩=some (.int .i64 h)∧W.cell? ⟨Y,7,none⟩=some (.int .i64 L)∧W.cell? ⟨X,5,none⟩=some (.int .i64 F1))) (by kernel_rfl) ?_ (fun ah=>?_)
             ·exact (by rw[yt];exact QK.out V4 F4.out)
             rw[yt] at ah ⊢;refine bE [0,1,2,3,4,5,6,7,8,9,10,11,12,13,14,15,16,17,18,19] ?_;iterate 20 (refine dQ ?_;try simp only[pS])
             refine bF ?_;refine bE [20,21,22,23,24,25,26] ?_;iterate 7 (refine dQ (v:=undef) ?_ (hy:=Or.inr ⟨by rfl,rfl⟩);try simp only[pS])
             refine bF ?_;refine bE [27,28,29,30,31,32,33,34,35,36,37,39] ?_;iterate 12 (refine dQ ?_;try simp only[pS])
             refine bF ?_;refine bI 38 fun K hK=>?_;go_simp;refine (Xz.out V4 F4.out).mono ?_;rintro e w2 ⟨rfl,hb2⟩;have HB2:=zh (F4.out.trans (hb2.mono F4.out.size));refine hK.out _ _ (QK.out w2 HB2.out) fun ah=>?_;clear hK K;(try simp only[pS]);refine bE [40,41] ?_;iterate 2 (refine dQ ?_;try simp only[pS])
             refine bF ?_;refine gq ?_;refine jg _ _ (Met.intro (hJ0 _ _ ?_))
             repeat apply Exists.intro
             exact⟨⟨rfl,HB2.out⟩,rfl⟩
           case rest=>
            obtain⟨we,hwe⟩:∃ x:World,x=wc:=⟨_,rfl⟩
            subst hwe;obtain⟨rfl,hbe⟩:=hcut;have HBE:=zh (yZ.out.trans (hbe.mono yZ.out.size));have e2:=(D5.out we HBE.out).2;have HAT:=zh (show x=Xx kl (k+1) from by show x=(kl[k]?).getD 0;rw[RX.out];rfl);clear hbe;go_wp2_with fail
            go_roundw
            case rel=>exact⟨k+1,by rw[HAT.out],by go_num,by omega,HBE⟩
            case measure=>simp[intOf];omega
         ·have y2:¬ (k:Int)<(NL:Int):=by omega
          have hxp:=HXB.out.below HP.out HXB.out.lt;have x6:wp.cell? ⟨X,6,none⟩=some (.int .i64 D.la):=hxp.cell 6;rw[show D.la=L by rw[HD.out.2,Kr,Vr.out,←TT.out,show k=NL by omega]] at x6;clear hxp;go_wp2_with fail
          go_roundw
          case rel=>exact⟨j+1,by go_num,by omega,HBP⟩
          case measure=>simp[intOf];omega
    ·have y1:¬ (j:Int)<(m:Int):=by omega
     go_wp2_with fail
     go_ret
     exact⟨rfl,Xw.out.trans (HB.out.mono Xw.out.size)⟩
end
end Go.Proofs.YtnbaadpgbcklaaaGreatDoor
