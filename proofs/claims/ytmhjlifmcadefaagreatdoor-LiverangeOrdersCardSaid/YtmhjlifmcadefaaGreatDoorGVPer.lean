/- Part of a proof about trees. -/
import Derived.Deep.RegionHeld3
import Derived.Test.YtmhjlifmcadefaaGreatDoorGNMat
import Derived.Test.YtmhjlifmcadefaaGreatDoorGVOrd
set_option linter.unusedVariables false
set_option linter.unusedSimpArgs false
set_option maxHeartbeats 2000000
set_option maxRecDepth 100000
namespace Go.Proofs.YtmhjlifmcadefaaGreatDoor
section
open Go.RowKit
def nE (s:ByteArray):Nat:=(bB.chunks s.data.toList).length
theorem rQ (B:Nat) (w:World):Calls Tryz.prog 25 #[.pointer (some ⟨B,0,none⟩)] w fun e w'=>e=.returned (.pointer (some ⟨B,0,none⟩))∧w'=w:=by
 go_enter Tryz.func25,Tryz.ntmps25
 go_wp2_with fail
 go_ret
 exact⟨rfl,rfl⟩
theorem GZ (k pa fi la pr ne:Int) (nm dt:ByteArray) (v:Value) (w:World):Calls Tryz.prog 50 #[.agg #[.int .i64 k,.string nm,v,.string dt,.int .i64 pa,.int .i64 fi,.int .i64 la,.int .i64 pr,.int .i64 ne]] w fun e w'=>e=.returned (.bool (k == 3 || k == 4))∧Below w.heap.size w w':=by
 obtain⟨w1,hw1⟩:=eX (w.alloc (.cells #[.int .i64 k,.string nm,v,.string dt,.int .i64 pa,.int .i64 fi,.int .i64 la,.int .i64 pr,.int .i64 ne] 82))
 have hX:Whole w1 w.heap.size #[.int .i64 k,.string nm,v,.string dt,.int .i64 pa,.int .i64 fi,.int .i64 la,.int .i64 pr,.int .i64 ne] 82:=by rw[←hw1];exact Whole.new _ _ _
 have HB1:Hid (Below w.heap.size w w1):=zh (by rw[←hw1];exact (Below.refl _ w).alloc (Nat.le_refl _) _);have x0:w1.cell? ⟨w.heap.size,0,none⟩=some (.int .i64 k):=hX.cell 0;have HW1:=zh hw1;clear hw1 hX
 go_enter Tryz.func50,Tryz.ntmps50
 go_upto_region 1 with fail
 rw[HW1.out];by_cases h3:k=3
 ·subst h3;go_wp2_with fail
  go_ret
  exact⟨rfl,HB1.out⟩
 ·have q3:(k == 3)=false:=by simpa using h3
  by_cases h4:k=4
  ·subst h4;go_wp2_with fail
   go_ret
   exact⟨rfl,HB1.out⟩
  ·have q4:(k == 4)=false:=by simpa using h4
   clear h3 h4;go_wp2_with fail
   go_ret
   exact⟨by rw[q3,q4];rfl,HB1.out⟩
theorem G5 (base B:Nat) (b s root h i:Int) (live n:Nat) (g:Tr.G) (av:Int→Tr.Sl) (fr:List Nat) (vs vf:Value) (w:World) (D:Tr.Nd) (l:List (ByteArray×ByteArray)) (ok:Bool) (hM:TV base w B b s vs n (Tr.raw g av) vf fr live root) (hS:Sound b s n (Tr.raw g av) fr live) (hw:Tr.WF 0 g) (hh:gI h) (hi:gI i)
  (hD:(Tr.raw g av h).getD Tr.yX=D) (har:AR w 0 (.slice D.av.a D.av.n D.av.c) l) (hll:l.length≤1000) (hok:(Tr.raw g av h).isSome=ok) (N:Nat) (hN:(Tr.au g h).length=N) (hN2:N≤100000) (hds:D.data.size≤10000):
  Calls Tryz.prog 18 #[.pointer (some ⟨B,0,none⟩),.agg #[.int .i64 h,.int .i64 i]] w fun e w'=>e=.returned (.int .i64 (if ok=false then 6 else if i<0∨((if D.kind=3∨D.kind=4 then nE D.data else N:Nat):Int)<i then 2 else 0))∧Below w.heap.size w w':=by
 obtain⟨R,hR⟩:∃ R:Int,(if ok=false then 6 else if i<0∨((if D.kind=3∨D.kind=4 then nE D.data else N:Nat):Int)<i then 2 else 0)=R:=⟨_,rfl⟩
 rw[hR];have HR:=zh hR;clear hR;obtain⟨w1,hw1⟩:=eX (w.alloc (.cells #[.int .i64 h,.int .i64 i] 31))
 have hX:Whole w1 w.heap.size #[.int .i64 h,.int .i64 i] 31:=by rw[←hw1];exact Whole.new _ _ _
 have hb1:Below w.heap.size w w1:=fI hw1;have HB1:=zh hb1;have HC:Hid (∀ W,Below w1.heap.size w1 W→W.cell? ⟨w.heap.size,0,none⟩=some (.int .i64 h)∧W.cell? ⟨w.heap.size,1,none⟩=some (.int .i64 i)):=zh fun W hb=>⟨(hX.below hb hX.lt).cell 0,(hX.below hb hX.lt).cell 1⟩
 have HM:Hid (∀ W,Below w1.heap.size w1 W→TV base W B b s vs n (Tr.raw g av) vf fr live root∧AR W 0 (.slice D.av.a D.av.n D.av.c) l):=zh fun W hb=>⟨(hM.below hb1).below hb,(har.below hb1).below hb⟩
 have HN:Hid (∀ W,Below w1.heap.size w1 W→Calls Tryz.prog 48 #[.pointer (some ⟨B,0,none⟩),.int .i64 h] W fun e w'=>∃ v,e=.returned (.tuple #[ndW D v,.bool ok])∧AR w' W.heap.size v l∧Below W.heap.size W w'):=zh fun W hb=>by rw[←hok];exact sO base B b s root h live n (Tr.raw g av) fr vs vf D l W (HM.out W hb).1 hS hh hD (HM.out W hb).2 hll
 have Lm:Hid (∀ W,Below w1.heap.size w1 W→Calls Tryz.prog 49 #[.pointer (some ⟨B,0,none⟩),.int .i64 h] W fun e w'=>∃ v,e=.returned v∧w'.ownsRow W.heap.size 3 1 v N (ints (Tr.au g h))∧Below W.heap.size W w'):=zh fun W hb=>by
  have:=P9 base B b s root h live n g av fr vs vf W (HM.out W hb).1 hS hw hh (by omega);rw[hN] at this;exact this
 have HLN:=zh (fun W=>pV D.data W hds);have HW1:=zh hw1;obtain⟨V,hV⟩:=eX (w1.drew)
 have bK:=zh (lW hV);clear hw1 hX hb1 hM har hD hll hok hN hS hw
 go_enter Tryz.func18,Tryz.ntmps18
 go_upto_region 1 with fail
 rw[HW1.out];clear HW1
 go_cut [5,6] from 7 to 36 (fun u5 u6 wc=>∃ (X:Nat) (vA:Value),u6=.bool ok∧u5=.pointer (some ⟨X,0,none⟩)∧Whole wc X #[.int .i64 D.kind,.string D.name,vA,.string D.data,.int .i64 D.pa,.int .i64 D.fi,.int .i64 D.la,.int .i64 D.pr,.int .i64 D.ne] 82∧Below w1.heap.size w1 wc)
 case first=>
  rename_i J0 K0 hJ0 xW;refine wp_region_noPanic ?_;refine wp_region_held_drew (S:=(fun W=>W.cell? ⟨w.heap.size,0,none⟩=some (.int .i64 h)∧W.cell? ⟨w.heap.size,1,none⟩=some (.int .i64 i))) (by kernel_rfl) ?_ (fun ah=>?_)
  ·exact (by rw[hV];exact HC.out V bK.out)
  rw[hV] at ah ⊢;refine bn [0,2,3] ?_;iterate 3 (refine jf ?_;try simp only[pS])
  refine bq ?_;refine zQ 1 8 (fun K hK=>?_) fun K hK=>?_
  ·go_simp;refine (rQ B V).mono ?_;rintro e wz ⟨rfl,hsm⟩;rw[hsm];refine hK.out _ _ (HC.out V bK.out) fun ah=>?_;clear hK K hsm wz;(try simp only[pS]);refine zQ 4 8 (fun K hK=>?_) fun K hK=>?_
   ·go_simp;refine (HN.out V bK.out).mono ?_;rintro e w2 ⟨vA,rfl,hra,hb2⟩;obtain⟨Av,cv,rfl⟩:=hra.form;have HB2:=zh (bK.out.trans (hb2.mono bK.out.size));refine hK.out _ _ (HC.out w2 HB2.out) fun ah=>?_;clear hK K;(try simp only[pS]);refine bn [5,6,7] ?_;iterate 3 (refine jf ?_;try simp only[pS])
    refine bq ?_;refine bG 8 fun K hK=>?_;go_simp;obtain⟨w3,hw3⟩:=eX (w2.alloc (.cells #[.int .i64 0,.string ⟨#[]⟩,.slice none 0 0,.string ⟨#[]⟩,.int .i64 0,.int .i64 0,.int .i64 0,.int .i64 0,.int .i64 0] 82))
    have aW:Whole w3 w2.heap.size #[.int .i64 0,.string ⟨#[]⟩,.slice none 0 0,.string ⟨#[]⟩,.int .i64 0,.int .i64 0,.int .i64 0,.int .i64 0,.int .i64 0] 82:=by rw[←hw3];exact Whole.new w2 _ _
    have HB3:Hid (Below w1.heap.size w1 w3):=zh (HB2.out.trans ((fI hw3).mono HB2.out.size));(try rw[hw3]);refine hK.out _ _ (HC.out w3 HB3.out) fun ah=>?_;clear hK K;(try simp only[pS]);obtain⟨W3,hW3,Zp,g3⟩:=Wz aW (.int .i64 D.kind) (.string D.name) (.slice Av l.length cv) (.string D.data) (.int .i64 D.pa) (.int .i64 D.fi) (.int .i64 D.la) (.int .i64 D.pr) (.int .i64 D.ne);have UW:=zh (HB3.out.grown g3 HB3.out.size (fun k hk=>by injection hk with hk;have:=HB2.out.size;omega));have y0:w3.cell? ⟨w2.heap.size,0,none⟩=some (.int .i64 0):=aW.cell 0;have y1:w3.cell? ⟨w2.heap.size,1,none⟩=some (.string ⟨#[]⟩):=aW.cell 1;have y2:w3.cell? ⟨w2.heap.size,2,none⟩=some (.slice none 0 0):=aW.cell 2;have y3:w3.cell? ⟨w2.heap.size,3,none⟩=some (.string ⟨#[]⟩):=aW.cell 3;have y4:w3.cell? ⟨w2.heap.size,4,none⟩=some (.int .i64 0):=aW.cell 4;have y5:w3.cell? ⟨w2.heap.size,5,none⟩=some (.int .i64 0):=aW.cell 5;have y6:w3.cell? ⟨w2.heap.size,6,none⟩=some (.int .i64 0):=aW.cell 6;have y7:w3.cell? ⟨w2.heap.size,7,none⟩=some (.int .i64 0):=aW.cell 7;have y8:w3.cell? ⟨w2.heap.size,8,none⟩=some (.int .i64 0):=aW.cell 8;have yZ:=aW.free 0;have za:=aW.free 1;have CZ:=aW.free 2;have C8:=aW.free 3;have C9:=aW.free 4;have Da:=aW.free 5;have Db:=aW.free 6;have Dc:=aW.free 7;have Df:=aW.free 8;refine bG 9 fun K hK=>?_;go_simp;(try rw[hW3]);refine hK.out _ _ (HC.out W3 UW.out) fun ah=>?_;clear hK K;(try simp only[pS]);refine bn [10] ?_;iterate 1 (refine jf ?_;try simp only[pS])
    refine bq ?_;refine eY ?_;refine xW _ _ (Met.intro (hJ0 _ _ ?_))
    repeat apply Exists.intro
    exact⟨⟨_,_,rfl,rfl,Zp,UW.out⟩,rfl⟩
   ·go_simp;obtain⟨w2,hw2⟩:=eX (V.alloc (.cells #[.int .i64 0,.string ⟨#[]⟩,.slice none 0 0,.string ⟨#[]⟩,.int .i64 0,.int .i64 0,.int .i64 0,.int .i64 0,.int .i64 0] 82))
    have hX2:Whole w2 V.heap.size #[.int .i64 0,.string ⟨#[]⟩,.slice none 0 0,.string ⟨#[]⟩,.int .i64 0,.int .i64 0,.int .i64 0,.int .i64 0,.int .i64 0] 82:=by rw[←hw2];exact Whole.new V _ _
    have HB2:Hid (Below w1.heap.size w1 w2):=zh (bK.out.trans ((fI hw2).mono bK.out.size));(try rw[hw2]);refine hK.out _ _ (HC.out w2 HB2.out) fun ah=>?_;clear hK K;(try simp only[pS]);refine bG 4 fun K hK=>?_;go_simp;refine (HN.out w2 HB2.out).mono ?_;rintro e w3 ⟨vA,rfl,hra,hb2⟩;obtain⟨Av,cv,rfl⟩:=hra.form;have HB3:=zh (HB2.out.trans (hb2.mono HB2.out.size));have aW:=hX2.below hb2 hX2.lt;refine hK.out _ _ (HC.out w3 HB3.out) fun ah=>?_;clear hK K;(try simp only[pS]);refine bn [5,6,7] ?_;iterate 3 (refine jf ?_;try simp only[pS])
    refine bq ?_;obtain⟨W3,hW3,Zp,g3⟩:=Wz aW (.int .i64 D.kind) (.string D.name) (.slice Av l.length cv) (.string D.data) (.int .i64 D.pa) (.int .i64 D.fi) (.int .i64 D.la) (.int .i64 D.pr) (.int .i64 D.ne);have UW:=zh (HB3.out.grown g3 HB3.out.size (fun k hk=>by injection hk with hk;have:=bK.out.size;omega));have y0:w3.cell? ⟨V.heap.size,0,none⟩=some (.int .i64 0):=aW.cell 0;have y1:w3.cell? ⟨V.heap.size,1,none⟩=some (.string ⟨#[]⟩):=aW.cell 1;have y2:w3.cell? ⟨V.heap.size,2,none⟩=some (.slice none 0 0):=aW.cell 2;have y3:w3.cell? ⟨V.heap.size,3,none⟩=some (.string ⟨#[]⟩):=aW.cell 3;have y4:w3.cell? ⟨V.heap.size,4,none⟩=some (.int .i64 0):=aW.cell 4;have y5:w3.cell? ⟨V.heap.size,5,none⟩=some (.int .i64 0):=aW.cell 5;have y6:w3.cell? ⟨V.heap.size,6,none⟩=some (.int .i64 0):=aW.cell 6;have y7:w3.cell? ⟨V.heap.size,7,none⟩=some (.int .i64 0):=aW.cell 7;have y8:w3.cell? ⟨V.heap.size,8,none⟩=some (.int .i64 0):=aW.cell 8;have yZ:=aW.free 0;have za:=aW.free 1;have CZ:=aW.free 2;have C8:=aW.free 3;have C9:=aW.free 4;have Da:=aW.free 5;have Db:=aW.free 6;have Dc:=aW.free 7;have Df:=aW.free 8;refine bG 9 fun K hK=>?_;go_simp;(try rw[hW3]);refine hK.out _ _ (HC.out W3 UW.out) fun ah=>?_;clear hK K;(try simp only[pS]);refine bn [10] ?_;iterate 1 (refine jf ?_;try simp only[pS])
    refine bq ?_;refine eY ?_;refine xW _ _ (Met.intro (hJ0 _ _ ?_))
    repeat apply Exists.intro
    exact⟨⟨_,_,rfl,rfl,Zp,UW.out⟩,rfl⟩
  ·go_simp;obtain⟨w2,hw2⟩:=eX (V.alloc (.cells #[.int .i64 0,.string ⟨#[]⟩,.slice none 0 0,.string ⟨#[]⟩,.int .i64 0,.int .i64 0,.int .i64 0,.int .i64 0,.int .i64 0] 82))
   have hX2:Whole w2 V.heap.size #[.int .i64 0,.string ⟨#[]⟩,.slice none 0 0,.string ⟨#[]⟩,.int .i64 0,.int .i64 0,.int .i64 0,.int .i64 0,.int .i64 0] 82:=by rw[←hw2];exact Whole.new V _ _
   have HB2:Hid (Below w1.heap.size w1 w2):=zh (bK.out.trans ((fI hw2).mono bK.out.size));(try rw[hw2]);refine hK.out _ _ (HC.out w2 HB2.out) fun ah=>?_;clear hK K;(try simp only[pS]);refine bG 1 fun K hK=>?_;go_simp;refine (rQ B w2).mono ?_;rintro e wz ⟨rfl,hsm⟩;rw[hsm];refine hK.out _ _ (HC.out w2 HB2.out) fun ah=>?_;clear hK K hsm wz;(try simp only[pS]);refine bG 4 fun K hK=>?_;go_simp;refine (HN.out w2 HB2.out).mono ?_;rintro e w3 ⟨vA,rfl,hra,hb2⟩;obtain⟨Av,cv,rfl⟩:=hra.form;have HB3:=zh (HB2.out.trans (hb2.mono HB2.out.size));have aW:=hX2.below hb2 hX2.lt;refine hK.out _ _ (HC.out w3 HB3.out) fun ah=>?_;clear hK K;(try simp only[pS]);refine bn [5,6,7] ?_;iterate 3 (refine jf ?_;try simp only[pS])
   refine bq ?_;obtain⟨W3,hW3,Zp,g3⟩:=Wz aW (.int .i64 D.kind) (.string D.name) (.slice Av l.length cv) (.string D.data) (.int .i64 D.pa) (.int .i64 D.fi) (.int .i64 D.la) (.int .i64 D.pr) (.int .i64 D.ne);have UW:=zh (HB3.out.grown g3 HB3.out.size (fun k hk=>by injection hk with hk;have:=bK.out.size;omega));have y0:w3.cell? ⟨V.heap.size,0,none⟩=some (.int .i64 0):=aW.cell 0;have y1:w3.cell? ⟨V.heap.size,1,none⟩=some (.string ⟨#[]⟩):=aW.cell 1;have y2:w3.cell? ⟨V.heap.size,2,none⟩=some (.slice none 0 0):=aW.cell 2;have y3:w3.cell? ⟨V.heap.size,3,none⟩=some (.string ⟨#[]⟩):=aW.cell 3;have y4:w3.cell? ⟨V.heap.size,4,none⟩=some (.int .i64 0):=aW.cell 4;have y5:w3.cell? ⟨V.heap.size,5,none⟩=some (.int .i64 0):=aW.cell 5;have y6:w3.cell? ⟨V.heap.size,6,none⟩=some (.int .i64 0):=aW.cell 6;have y7:w3.cell? ⟨V.heap.size,7,none⟩=some (.int .i64 0):=aW.cell 7;have y8:w3.cell? ⟨V.heap.size,8,none⟩=some (.int .i64 0):=aW.cell 8;have yZ:=aW.free 0;have za:=aW.free 1;have CZ:=aW.free 2;have C8:=aW.free 3;have C9:=aW.free 4;have Da:=aW.free 5;have Db:=aW.free 6;have Dc:=aW.free 7;have Df:=aW.free 8;refine bG 9 fun K hK=>?_;go_simp;(try rw[hW3]);refine hK.out _ _ (HC.out W3 UW.out) fun ah=>?_;clear hK K;(try simp only[pS]);refine bn [10] ?_;iterate 1 (refine jf ?_;try simp only[pS])
   refine bq ?_;refine eY ?_;refine xW _ _ (Met.intro (hJ0 _ _ ?_))
   repeat apply Exists.intro
   exact⟨⟨_,_,rfl,rfl,Zp,UW.out⟩,rfl⟩
 case rest=>
  obtain⟨wa,hwa⟩:∃ x:World,x=wc:=⟨_,rfl⟩
  subst hwa;obtain⟨X,vA,rfl,rfl,hX,hbc⟩:=hcut;have HX:=zh hX;have VH:=zh hbc;clear hX hbc;cases ok with
  | false=>
   go_wp2_with fail
   go_ret
   exact⟨by rw[show R=6 from by rw[←HR.out];rfl];rfl,HB1.out.trans (VH.out.mono HB1.out.size)⟩
  | true=>
   obtain⟨c0,c1⟩:=HC.out wa VH.out;go_wp2_with fail;refine (Lm.out wa VH.out).mono ?_;rintro e w2 ⟨v,rfl,hkr,hb2⟩;obtain⟨kA,kc,rfl⟩:=aF (aG hkr);have HB2:=zh (VH.out.trans (hb2.mono VH.out.size));have hX2:=HX.out.below hb2 HX.out.lt;have gG:=zh hX2;have z0:=hX2.cell 0;have z1:=hX2.cell 1;have z2:=hX2.cell 2;have z3:=hX2.cell 3;have z4:=hX2.cell 4;have z5:=hX2.cell 5;have z6:=hX2.cell 6;have z7:=hX2.cell 7;have z8:=hX2.cell 8;clear hb2 hkr hX2 c0 c1;go_wp2_with fail;refine (GZ _ _ _ _ _ _ _ _ _ w2).mono ?_;rintro e w3 ⟨rfl,hb3⟩;have HB3:=zh (HB2.out.trans (hb3.mono HB2.out.size));have aW:=gG.out.below hb3 gG.out.lt;have x3:w3.cell? ⟨X,3,none⟩=some (.string D.data):=aW.cell 3;have eU:=zh aW;clear hb3 aW z0 z1 z2 z3 z4 z5 z6 z7 z8;obtain⟨c0,c1⟩:=HC.out w3 HB3.out;by_cases hk:D.kind=3∨D.kind=4
   ·have hb:(D.kind == 3 || D.kind == 4)=true:=by rcases hk with h | h<;>rw[h]<;>rfl
    rw[hb];have HK:=zh hk;clear hb hk;go_wp2_with fail;refine (HLN.out w3).mono ?_;rintro e w4 ⟨rfl,hb4⟩;have jy:=zh (HB3.out.trans (hb4.mono HB3.out.size));obtain⟨d0,d1⟩:=HC.out w4 jy.out;clear hb4 x3 c0 c1;obtain⟨M,hM⟩:=eX ((bB.chunks D.data.data.toList).length)
    rw[hM];have WC:=zh (show nE D.data=M from hM);clear hM;by_cases h1:i<0
    ·go_wp2_with fail
     go_ret
     exact⟨by rw[show R=2 from by rw[←HR.out,if_pos HK.out,WC.out,if_neg (by decide),if_pos (.inl h1)]];rfl,HB1.out.trans (jy.out.mono HB1.out.size)⟩
    ·by_cases h2:(M:Int)<i
     ·go_wp2_with fail
      go_ret
      exact⟨by rw[show R=2 from by rw[←HR.out,if_pos HK.out,WC.out,if_neg (by decide),if_pos (.inr h2)]];rfl,HB1.out.trans (jy.out.mono HB1.out.size)⟩
     ·go_wp2_with fail
      go_ret
      exact⟨by rw[show R=0 from by rw[←HR.out,if_pos HK.out,WC.out,if_neg (by decide),if_neg (by omega)]];rfl,HB1.out.trans (jy.out.mono HB1.out.size)⟩
   ·have hb:(D.kind == 3 || D.kind == 4)=false:=by
     rw[Bool.or_eq_false_iff];exact⟨by simpa using fun h=>hk (.inl h),by simpa using fun h=>hk (.inr h)⟩
    rw[hb];have HK:=zh hk;clear hb hk;by_cases h1:i<0
    ·go_wp2_with fail
     go_ret
     exact⟨by rw[show R=2 from by rw[←HR.out,if_neg HK.out,if_neg (by decide),if_pos (.inl h1)]];rfl,HB1.out.trans (HB3.out.mono HB1.out.size)⟩
    ·by_cases h2:(N:Int)<i
     ·go_wp2_with fail
      go_ret
      exact⟨by rw[show R=2 from by rw[←HR.out,if_neg HK.out,if_neg (by decide),if_pos (.inr h2)]];rfl,HB1.out.trans (HB3.out.mono HB1.out.size)⟩
     ·go_wp2_with fail
      go_ret
      exact⟨by rw[show R=0 from by rw[←HR.out,if_neg HK.out,if_neg (by decide),if_neg (by omega)]];rfl,HB1.out.trans (HB3.out.mono HB1.out.size)⟩
end
end Go.Proofs.YtmhjlifmcadefaaGreatDoor
