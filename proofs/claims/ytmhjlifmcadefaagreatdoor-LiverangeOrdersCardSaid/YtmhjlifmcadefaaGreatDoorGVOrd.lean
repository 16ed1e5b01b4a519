/- Part of a proof about trees. -/
import Derived.Deep.RegionHeld3
import Derived.Test.YtmhjlifmcadefaaGreatDoorS02
set_option linter.unusedVariables false
set_option linter.unusedSimpArgs false
set_option maxHeartbeats 2000000
set_option maxRecDepth 100000
namespace Go.Proofs.YtmhjlifmcadefaaGreatDoor
section
open Go.RowKit
theorem AV {g:Tr.G} (hw:Tr.WF 0 g) {x t:Int} {n:Tr.GN} (e:g x=some n) (h:Tr.dF (Tr.aS g x)=t):x∈Tr.ak g t∧t≠0:=by
 have hne:Tr.aS g x≠[]:=by rw[hw.aT e];simp
 obtain⟨a,-,e2,hm⟩:=J4 hw h hne;refine⟨hm,fun h0=>?_⟩;rw[h0,hw.jI hw.zero] at e2;cases e2
theorem PZ {g:Tr.G} (hw:Tr.WF 0 g) {x y:Int} {nx ny:Tr.GN} (ex:g x=some nx) (ey:g y=some ny) (hxy:x≠y) (h:y∈Tr.aS g x):x∉Tr.aS g y:=fun h2=>by
 obtain⟨a,c,l1,l2,e1,-,-,-⟩:=Lv.J5 hw ey h hxy;obtain⟨a',c',l1',l2',e2,-,-,-⟩:=Lv.J5 hw ex h2 (Ne.symm hxy);have h3:=congrArg List.length e1;have h4:=congrArg List.length e2;rw[List.length_append,List.length_cons] at h3 h4;omega
theorem GY (base B:Nat) (b s root x y t:Int) (i j live n:Nat) (g:Tr.G) (av:Int→Tr.Sl) (fr:List Nat) (vs vf:Value) (nx ny:Tr.GN) (P:ByteArray→Nat) (w:World) (hM:TV base w B b s vs n (Tr.raw g av) vf fr live root) (hS:Sound b s n (Tr.raw g av) fr live) (hw:Tr.WF 0 g) (hA:AT w g av) (hal:∀ k m,g k=some m→m.attrs.length≤1000) (hl:Lv.Leaf g) (ex:g x=some nx) (ey:g y=some ny) (hi:i≤Lv.qK P nx) (hj:j≤Lv.qK P ny) (hib:i≤1000000000) (hjb:j≤1000000000) (tx:Tr.dF (Tr.aS g x)=t) (ty:Tr.dF (Tr.aS g y)=t) (hxy:x≠y) (hup:y∈Tr.aS g x):
  Calls Tryz.prog 20 #[.pointer (some ⟨B,0,none⟩),.agg #[.int .i64 y,.int .i64 (j:Int)],.agg #[.int .i64 x,.int .i64 (i:Int)]] w fun e w'=>e=.returned (.int .i64 (ou ((Lv.cO P g t).idxOf (y,(j:Int)):Nat) ((Lv.cO P g t).idxOf (x,(i:Int)):Nat)))∧Below w.heap.size w w':=by
 have HM:=zh (fun (W:World) (hb:Below w.heap.size w W)=>And.intro (hM.below hb) (hA.below hb));have P5:gI x:=xw hS (by rw[ex];rfl);have P6:gI y:=xw hS (by rw[ey];rfl);obtain⟨a,k,l1,l2,hu,ek,hxk,hik⟩:=Lv.J5 hw ey hup hxy;have aa2:gI k:=by
  obtain⟨q,e1,-⟩:=hw.down y ny k ey (by rw[ek];simp);exact xw hS (by rw[e1];rfl)
 have hval:=Lv.Wy (P:=P) hw hl (AV hw ey ty).1 ey ek hxk hik ex hi hj;have hnb:=PZ hw ex ey hxy hup;have HV:=zh hval;have LK:=zh (fun (W:World) (hb:Below w.heap.size w W)=>fA base B b s root x y live n g av fr vs vf W (HM.out W hb).1 hS hw P6);have RN:=zh (fun (W:World) (hb:Below w.heap.size w W)=>fA base B b s root y x live n g av fr vs vf W (HM.out W hb).1 hS hw P5);rw[decide_eq_false hnb] at LK;rw[decide_eq_true hup] at RN;have LM:=zh (fun (W:World) (hb:Below w.heap.size w W)=>J6 base B b s root x y k live n g av fr vs vf W (HM.out W hb).1 hS hw (HM.out W hb).2 hal P6 a hu (by rw[ey];rfl));have R9:=zh (fun (W:World) (hb:Below w.heap.size w W)=>tJ base B b s root k live n g av fr vs vf W (HM.out W hb).1 hS hw aa2);rw[hik] at R9 HV;obtain⟨L,hL⟩:=eX (l1.length)
 rw[hL] at R9 HV;have hq:(y == x)=false:=by simpa using (Ne.symm hxy)
 obtain⟨w1,hw1⟩:=eX (w.alloc (.cells #[.int .i64 y,.int .i64 (j:Int)] 31))
 obtain⟨w2,hw2⟩:=eX (w1.alloc (.cells #[.int .i64 x,.int .i64 (i:Int)] 31))
 have hX1:Whole w1 w.heap.size #[.int .i64 y,.int .i64 (j:Int)] 31:=by rw[←hw1];exact Whole.new _ _ _
 have hz1:w1.heap.size=w.heap.size+1:=by rw[←hw1];simp
 have hb1:Below w.heap.size w w1:=fI hw1;have hb2:Below w1.heap.size w1 w2:=fI hw2;have hX2:Whole w2 (w.heap.size+1) #[.int .i64 x,.int .i64 (i:Int)] 31:=by rw[←hw2,←hz1];exact Whole.new _ _ _
 have HB2:Hid (Below w.heap.size w w2):=zh (hb1.trans (hb2.mono hb1.size));have HC:Hid (∀ W,Below w2.heap.size w2 W→W.cell? ⟨w.heap.size,0,none⟩=some (.int .i64 y)∧W.cell? ⟨w.heap.size,1,none⟩=some (.int .i64 (j:Int))∧W.cell? ⟨w.heap.size+1,0,none⟩=some (.int .i64 x)∧W.cell? ⟨w.heap.size+1,1,none⟩=some (.int .i64 (i:Int))):=zh fun W hb=>by
  have h1:=(hX1.below hb2 hX1.lt).below hb (hX1.below hb2 hX1.lt).lt;have h2:=hX2.below hb hX2.lt;exact⟨h1.cell 0,h1.cell 1,h2.cell 0,h2.cell 1⟩
 have HW2:Hid ((w.alloc (.cells #[.int .i64 y,.int .i64 (j:Int)] 31)).alloc (.cells #[.int .i64 x,.int .i64 (i:Int)] 31)=w2):=zh (by rw[hw1,hw2]);obtain⟨c0,c1,c2,c3⟩:=HC.out w2 (Below.refl _ _);clear hw1 hw2 hX1 hX2 hz1 hb1 hb2 hM hA;clear hval hnb hu ek hxk hik hL hxy hup hl hal hw hS ex ey tx ty;have HD:=zh (Below.refl w2.heap.size w2);have qU:=HB2
 go_enter Tryz.func20,Tryz.ntmps20
 go_upto_region 1 with fail
 rw[HW2.out];clear HW2;go_wp2_with fail;refine (LK.out w2 qU.out).mono ?_;rintro e w3 ⟨rfl,hb⟩;have HB3:=zh (qU.out.trans (hb.mono qU.out.size));have LP:=zh (HD.out.trans (hb.mono HD.out.size));clear hb qU HD c0 c1 c2 c3;have qU:=HB3;have HD:=LP;clear HB3 LP;obtain⟨c0,c1,c2,c3⟩:=HC.out w3 HD.out;go_wp2_with fail;refine (RN.out w3 qU.out).mono ?_;rintro e w4 ⟨rfl,hb⟩;have jy:=zh (qU.out.trans (hb.mono qU.out.size));have LP:=zh (HD.out.trans (hb.mono HD.out.size));clear hb qU HD c0 c1 c2 c3;have qU:=jy;have HD:=LP;clear jy LP;obtain⟨c0,c1,c2,c3⟩:=HC.out w4 HD.out;have abV:gI (j:Int):=by constructor<;>omega
 obtain⟨V,hV⟩:=eX (w4.drew)
 have dS:Below w4.heap.size w4 V:=lW hV;have bK:=zh (qU.out.trans (dS.mono qU.out.size));have HDV:=zh (HD.out.trans (dS.mono HD.out.size))
 go_upto_region 6 with fail
 refine wp_region_noPanic ?_;refine wp_region_held_drew (S:=(fun W=>W.cell? ⟨w.heap.size,0,none⟩=some (.int .i64 y)∧W.cell? ⟨w.heap.size,1,none⟩=some (.int .i64 (j:Int))∧W.cell? ⟨w.heap.size+1,0,none⟩=some (.int .i64 x)∧W.cell? ⟨w.heap.size+1,1,none⟩=some (.int .i64 (i:Int)))) (by kernel_rfl) ?_ (fun ah=>?_)
 ·exact (by rw[hV];exact HC.out V HDV.out)
 rw[hV] at ah ⊢;refine bn [0,1,2,3,4,5,6,7] ?_;iterate 8 (refine jf ?_;try simp only[pS])
 refine bq ?_;refine bG 8 fun K hK=>?_;go_simp;refine (LM.out V bK.out).mono ?_;rintro e w5 ⟨rfl,hb⟩;have jg:=zh (bK.out.trans (hb.mono bK.out.size));have HD5:=zh (HDV.out.trans (hb.mono HDV.out.size));refine hK.out _ _ (HC.out w5 HD5.out) fun ah=>?_;clear hK K hb;(try simp only[pS]);refine bG 9 fun K hK=>?_;go_simp;refine (R9.out w5 jg.out).mono ?_;rintro e w6 ⟨rfl,hb⟩;have iQ:=zh (jg.out.trans (hb.mono jg.out.size));have HD6:=zh (HD5.out.trans (hb.mono HD5.out.size));refine hK.out _ _ (HC.out w6 HD6.out) fun ah=>?_;clear hK K hb;(try simp only[pS]);refine bn [10] ?_;iterate 1 (refine jf ?_;try simp only[pS])
 refine bq ?_;refine eY ?_;clear c0 c1 c2 c3 HD qU ah;by_cases hjL:(j:Int)≤(L:Int)
 ·rw[if_pos hjL] at HV;go_wp2_with fail
  go_ret
  exact⟨by rw[HV.out];rfl,iQ.out⟩
 ·rw[if_neg hjL] at HV;go_wp2_with fail
  go_ret
  exact⟨by rw[HV.out];rfl,iQ.out⟩
theorem P7 (x y:Int) : -1≤ou x y∧ou x y≤1:=by unfold ou;split<;>(try split)<;>omega
theorem DR (base B:Nat) (b s root x y t:Int) (i j live n:Nat) (g:Tr.G) (av:Int→Tr.Sl) (fr:List Nat) (vs vf:Value) (nx ny:Tr.GN) (P:ByteArray→Nat) (w:World) (hM:TV base w B b s vs n (Tr.raw g av) vf fr live root) (hS:Sound b s n (Tr.raw g av) fr live) (hw:Tr.WF 0 g) (hA:AT w g av) (hal:∀ k m,g k=some m→m.attrs.length≤1000) (hl:Lv.Leaf g) (ex:g x=some nx) (ey:g y=some ny) (hi:i≤Lv.qK P nx) (hj:j≤Lv.qK P ny) (hib:i≤1000000000) (hjb:j≤1000000000) (tx:Tr.dF (Tr.aS g x)=t) (ty:Tr.dF (Tr.aS g y)=t):
  Calls Tryz.prog 20 #[.pointer (some ⟨B,0,none⟩),.agg #[.int .i64 x,.int .i64 (i:Int)],.agg #[.int .i64 y,.int .i64 (j:Int)]] w fun e w'=>e=.returned (.int .i64 (ou ((Lv.cO P g t).idxOf (x,(i:Int)):Nat) ((Lv.cO P g t).idxOf (y,(j:Int)):Nat)))∧Below w.heap.size w w':=by
 have HM:=zh (fun (W:World) (hb:Below w.heap.size w W)=>And.intro (hM.below hb) (hA.below hb));have P5:gI x:=xw hS (by rw[ex];rfl);have P6:gI y:=xw hS (by rw[ey];rfl);have htx:=AV hw ex tx;have hty:=AV hw ey ty;by_cases hxy:x=y
 ·subst hxy;obtain rfl:ny=nx:=by rw[ex] at ey;exact (Option.some.inj ey).symm
  have HV:=zh (Lv.P8 (P:=P) hw hl htx.1 ex hi hj);have hq:(x == x)=true:=by simp
  obtain⟨w1,hw1⟩:=eX (w.alloc (.cells #[.int .i64 x,.int .i64 (i:Int)] 31))
  obtain⟨w2,hw2⟩:=eX (w1.alloc (.cells #[.int .i64 x,.int .i64 (j:Int)] 31))
  have hX1:Whole w1 w.heap.size #[.int .i64 x,.int .i64 (i:Int)] 31:=by rw[←hw1];exact Whole.new _ _ _
  have hz1:w1.heap.size=w.heap.size+1:=by rw[←hw1];simp
  have hb1:Below w.heap.size w w1:=fI hw1;have hb2:Below w1.heap.size w1 w2:=fI hw2;have hX2:Whole w2 (w.heap.size+1) #[.int .i64 x,.int .i64 (j:Int)] 31:=by rw[←hw2,←hz1];exact Whole.new _ _ _
  have HB2:Hid (Below w.heap.size w w2):=zh (hb1.trans (hb2.mono hb1.size));have HC:Hid (∀ W,Below w2.heap.size w2 W→W.cell? ⟨w.heap.size,0,none⟩=some (.int .i64 x)∧W.cell? ⟨w.heap.size,1,none⟩=some (.int .i64 (i:Int))∧W.cell? ⟨w.heap.size+1,0,none⟩=some (.int .i64 x)∧W.cell? ⟨w.heap.size+1,1,none⟩=some (.int .i64 (j:Int))):=zh fun W hb=>by
   have h1:=(hX1.below hb2 hX1.lt).below hb (hX1.below hb2 hX1.lt).lt;have h2:=hX2.below hb hX2.lt;exact⟨h1.cell 0,h1.cell 1,h2.cell 0,h2.cell 1⟩
  have HW2:Hid ((w.alloc (.cells #[.int .i64 x,.int .i64 (i:Int)] 31)).alloc (.cells #[.int .i64 x,.int .i64 (j:Int)] 31)=w2):=zh (by rw[hw1,hw2]);obtain⟨c0,c1,c2,c3⟩:=HC.out w2 (Below.refl _ _);clear hw1 hw2 hX1 hX2 hz1 hb1 hb2 hM hA;have HCC:=zh (ow (i:Int) (j:Int) w2);clear htx hty hl hal hw hS ex ey tx ty
  go_enter Tryz.func20,Tryz.ntmps20
  go_upto_region 1 with fail
  rw[HW2.out];clear HW2;go_wp2_with fail;refine HCC.out.mono ?_;rintro e w3 ⟨rfl,hw3⟩;rw[hw3];go_wp2_with fail
  go_ret
  exact⟨by rw[HV.out];rfl,HB2.out⟩
 ·have hq:(x == y)=false:=by simpa using hxy
  by_cases hup:y∈Tr.aS g x
  ·have LK:=zh (fun (W:World) (hb:Below w.heap.size w W)=>fA base B b s root y x live n g av fr vs vf W (HM.out W hb).1 hS hw P5);rw[decide_eq_true hup] at LK;have HOI:=zh (fun (W:World) (hb:Below w.heap.size w W)=>GY base B b s root x y t i j live n g av fr vs vf nx ny P W (HM.out W hb).1 hS hw (HM.out W hb).2 hal hl ex ey hi hj hib hjb tx ty hxy hup);obtain⟨z,hz⟩:=eX (ou ((Lv.cO P g t).idxOf (y,(j:Int)):Nat) ((Lv.cO P g t).idxOf (x,(i:Int)):Nat))
   have hzb:=P7 ((Lv.cO P g t).idxOf (y,(j:Int)):Nat) ((Lv.cO P g t).idxOf (x,(i:Int)):Nat);have hzn:=Lv.SF ((Lv.cO P g t).idxOf (y,(j:Int)):Nat) ((Lv.cO P g t).idxOf (x,(i:Int)):Nat);rw[hz] at HOI hzb hzn;obtain⟨hz1,hz2⟩:=hzb;have HV:=zh hzn;obtain⟨w1,hw1⟩:=eX (w.alloc (.cells #[.int .i64 x,.int .i64 (i:Int)] 31))
   obtain⟨w2,hw2⟩:=eX (w1.alloc (.cells #[.int .i64 y,.int .i64 (j:Int)] 31))
   have hX1:Whole w1 w.heap.size #[.int .i64 x,.int .i64 (i:Int)] 31:=by rw[←hw1];exact Whole.new _ _ _
   have hz1:w1.heap.size=w.heap.size+1:=by rw[←hw1];simp
   have hb1:Below w.heap.size w w1:=fI hw1;have hb2:Below w1.heap.size w1 w2:=fI hw2;have hX2:Whole w2 (w.heap.size+1) #[.int .i64 y,.int .i64 (j:Int)] 31:=by rw[←hw2,←hz1];exact Whole.new _ _ _
   have HB2:Hid (Below w.heap.size w w2):=zh (hb1.trans (hb2.mono hb1.size));have HC:Hid (∀ W,Below w2.heap.size w2 W→W.cell? ⟨w.heap.size,0,none⟩=some (.int .i64 x)∧W.cell? ⟨w.heap.size,1,none⟩=some (.int .i64 (i:Int))∧W.cell? ⟨w.heap.size+1,0,none⟩=some (.int .i64 y)∧W.cell? ⟨w.heap.size+1,1,none⟩=some (.int .i64 (j:Int))):=zh fun W hb=>by
    have h1:=(hX1.below hb2 hX1.lt).below hb (hX1.below hb2 hX1.lt).lt;have h2:=hX2.below hb hX2.lt;exact⟨h1.cell 0,h1.cell 1,h2.cell 0,h2.cell 1⟩
   have HW2:Hid ((w.alloc (.cells #[.int .i64 x,.int .i64 (i:Int)] 31)).alloc (.cells #[.int .i64 y,.int .i64 (j:Int)] 31)=w2):=zh (by rw[hw1,hw2]);obtain⟨c0,c1,c2,c3⟩:=HC.out w2 (Below.refl _ _);clear hw1 hw2 hX1 hX2 hz1 hb1 hb2 hM hA;clear hz hzn htx hty hl hal hw hS ex ey tx ty hup hxy;have HD:=zh (Below.refl w2.heap.size w2);have qU:=HB2
   go_enter Tryz.func20,Tryz.ntmps20
   go_upto_region 1 with fail
   rw[HW2.out];clear HW2;go_wp2_with fail;refine (LK.out w2 qU.out).mono ?_;rintro e w3 ⟨rfl,hb⟩;have HB3:=zh (qU.out.trans (hb.mono qU.out.size));have LP:=zh (HD.out.trans (hb.mono HD.out.size));clear hb qU HD c0 c1 c2 c3;have qU:=HB3;have HD:=LP;clear HB3 LP;obtain⟨c0,c1,c2,c3⟩:=HC.out w3 HD.out;go_wp2_with fail;refine (HOI.out w3 qU.out).mono ?_;rintro e w4 ⟨rfl,hb⟩;have jy:=zh (qU.out.trans (hb.mono qU.out.size));clear hb c0 c1 c2 c3;go_wp2_with fail
   go_ret
   exact⟨by rw[←HV.out];rfl,jy.out⟩
  ·have LK:=zh (fun (W:World) (hb:Below w.heap.size w W)=>fA base B b s root y x live n g av fr vs vf W (HM.out W hb).1 hS hw P5);rw[decide_eq_false hup] at LK;by_cases hdn:x∈Tr.aS g y
   ·exact GY base B b s root y x t j i live n g av fr vs vf ny nx P w hM hS hw hA hal hl ey ex hj hi hjb hib ty tx (Ne.symm hxy) hdn
   ·have RN:=zh (fun (W:World) (hb:Below w.heap.size w W)=>fA base B b s root x y live n g av fr vs vf W (HM.out W hb).1 hS hw P6);rw[decide_eq_false hdn] at RN;have HV:=zh (Lv.Ni (P:=P) hw hl htx.1 hty.1 hdn hup ex ey hi hj);have HCM:=zh (fun (W:World) (hb:Below w.heap.size w W)=>SG base B b s root x y live n g av fr vs vf W (HM.out W hb).1 hS hw P5 P6 (by rw[tx];exact htx.2) (by rw[tx,ty]));rw[SH hw htx.2 tx ty] at HCM;obtain⟨z,hz⟩:=eX (ou ((Tr.ak g t).idxOf x:Nat) ((Tr.ak g t).idxOf y:Nat))
    rw[hz] at HCM HV;obtain⟨w1,hw1⟩:=eX (w.alloc (.cells #[.int .i64 x,.int .i64 (i:Int)] 31))
    obtain⟨w2,hw2⟩:=eX (w1.alloc (.cells #[.int .i64 y,.int .i64 (j:Int)] 31))
    have hX1:Whole w1 w.heap.size #[.int .i64 x,.int .i64 (i:Int)] 31:=by rw[←hw1];exact Whole.new _ _ _
    have hz1:w1.heap.size=w.heap.size+1:=by rw[←hw1];simp
    have hb1:Below w.heap.size w w1:=fI hw1;have hb2:Below w1.heap.size w1 w2:=fI hw2;have hX2:Whole w2 (w.heap.size+1) #[.int .i64 y,.int .i64 (j:Int)] 31:=by rw[←hw2,←hz1];exact Whole.new _ _ _
    have HB2:Hid (Below w.heap.size w w2):=zh (hb1.trans (hb2.mono hb1.size));have HC:Hid (∀ W,Below w2.heap.size w2 W→W.cell? ⟨w.heap.size,0,none⟩=some (.int .i64 x)∧W.cell? ⟨w.heap.size,1,none⟩=some (.int .i64 (i:Int))∧W.cell? ⟨w.heap.size+1,0,none⟩=some (.int .i64 y)∧W.cell? ⟨w.heap.size+1,1,none⟩=some (.int .i64 (j:Int))):=zh fun W hb=>by
     have h1:=(hX1.below hb2 hX1.lt).below hb (hX1.below hb2 hX1.lt).lt;have h2:=hX2.below hb hX2.lt;exact⟨h1.cell 0,h1.cell 1,h2.cell 0,h2.cell 1⟩
    have HW2:Hid ((w.alloc (.cells #[.int .i64 x,.int .i64 (i:Int)] 31)).alloc (.cells #[.int .i64 y,.int .i64 (j:Int)] 31)=w2):=zh (by rw[hw1,hw2]);obtain⟨c0,c1,c2,c3⟩:=HC.out w2 (Below.refl _ _);clear hw1 hw2 hX1 hX2 hz1 hb1 hb2 hM hA;clear hz htx hty hl hal hw hS ex ey tx ty hup hdn hxy;have HD:=zh (Below.refl w2.heap.size w2);have qU:=HB2
    go_enter Tryz.func20,Tryz.ntmps20
    go_upto_region 1 with fail
    rw[HW2.out];clear HW2;go_wp2_with fail;refine (LK.out w2 qU.out).mono ?_;rintro e w3 ⟨rfl,hb⟩;have HB3:=zh (qU.out.trans (hb.mono qU.out.size));have LP:=zh (HD.out.trans (hb.mono HD.out.size));clear hb qU HD c0 c1 c2 c3;have qU:=HB3;have HD:=LP;clear HB3 LP;obtain⟨c0,c1,c2,c3⟩:=HC.out w3 HD.out;go_wp2_with fail;refine (RN.out w3 qU.out).mono ?_;rintro e w4 ⟨rfl,hb⟩;have jy:=zh (qU.out.trans (hb.mono qU.out.size));have LP:=zh (HD.out.trans (hb.mono HD.out.size));clear hb qU HD c0 c1 c2 c3;have qU:=jy;have HD:=LP;clear jy LP;obtain⟨c0,c1,c2,c3⟩:=HC.out w4 HD.out;go_wp2_with fail;refine (HCM.out w4 qU.out).mono ?_;rintro e w5 ⟨rfl,hb⟩;have jg:=zh (qU.out.trans (hb.mono qU.out.size));clear hb c0 c1 c2 c3;go_wp2_with fail
    go_ret
    exact⟨by rw[HV.out];rfl,jg.out⟩
end
end Go.Proofs.YtmhjlifmcadefaaGreatDoor
