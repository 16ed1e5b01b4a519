/- Part of a proof about trees: NDat. -/
import Derived.Test.YtaigmpkcdjbpiaaGreatDoorGNRsa
set_option linter.unusedVariables false
set_option linter.unusedSimpArgs false
set_option linter.unusedSectionVars false
set_option maxHeartbeats 2000000
set_option maxRecDepth 100000
namespace Go.Proofs.YtaigmpkcdjbpiaaGreatDoor
section
open Go.RowKit
def dropA (l:List (ByteArray×ByteArray)) (nm:ByteArray):List (ByteArray×ByteArray):=l.eraseIdx (atN l nm)
theorem TR.parts2 {w:World} {base g o d b cp:Nat} {e:TypeId} {l1 l2:List (ByteArray×ByteArray)} {p:ByteArray×ByteArray} (h:TR w base e 2 (.slice (some ⟨g,o,none⟩) (d+1+b) cp) (d+1+b) (atC (l1++p::l2))) (h1:l1.length=d) (h2:l2.length=b):
  TR w base e 2 (.slice (some ⟨g,o,none⟩) d cp) d (atC l1)∧TR w base e 2 (.slice (if cp=d+1 then some ⟨g,o,none⟩ else some ⟨g,o+(d+1)*2,none⟩) b (cp - (d+1))) b (atC l2):=by
 have a1:=h.head (k:=d) (by omega);have a2:=h.tail (k:=d+1) (by omega);rw[atC_take,List.take_left' h1] at a1;rw[atC_drop,show l1++p::l2=(l1++[p])++l2 from by simp,List.drop_left' (by rw[List.length_append,h1];rfl),Nat.add_sub_cancel_left] at a2;have et:tailV (.slice (some ⟨g,o,none⟩) (d+1+b) cp) (d+1) 2=.slice (if cp=d+1 then some ⟨g,o,none⟩ else some ⟨g,o+(d+1)*2,none⟩) b (cp - (d+1)):=by
  unfold tailV;simp only[Option.map_some,Addr.add_lit,Nat.add_sub_cancel_left]
 rw[et] at a2;exact⟨a1,a2⟩
theorem pdattr_not (base B:Nat) (b s root h:Int) (live n:Nat) (g:Tr.G) (av:Int→Tr.Sl) (fr:List Nat) (vs vf:Value) (nm:ByteArray) (w:World) (hm:TV base w B b s vs n (Tr.raw g av) vf fr live root) (hS:Sound b s n (Tr.raw g av) fr live) (hh:I64 h) (hk:∀ x m,g x=some m→m.kind≠0) (he:elemE g h≠0):
  Calls Tryz.prog 21 #[.pointer (some ⟨B,0,none⟩),.int .i64 h,.string nm] w fun e w'=>e=.returned (errV (elemE g h))∧Below w.heap.size w w':=by
 have hE:=elemErr_any base B b s root h live n g av fr vs vf w hm hS hh hk;obtain⟨z,hz⟩:∃ z,elemE g h=z:=⟨_,rfl⟩
 rw[hz] at hE he ⊢;have q:=bne_true he;clear hm hz
 go_enter Tryz.func21,Tryz.ntmps21
 go_wp2_with fail;refine hE.mono ?_;rintro e w1 ⟨rfl,hb⟩;clear hE;go_wp2_with fail;go_ret2;exact⟨rfl,hb⟩
theorem pdattr_none (base B:Nat) (b s root h:Int) (live n:Nat) (g:Tr.G) (av:Int→Tr.Sl) (fr:List Nat) (vs vf:Value) (nd:Tr.GN) (nm:ByteArray) (w:World) (hm:TV base w B b s vs n (Tr.raw g av) vf fr live root) (hS:Sound b s n (Tr.raw g av) fr live) (ha:AT w g av) (hk:∀ x m,g x=some m→m.kind≠0) (eg:g h=some nd) (he:nd.kind=2) (hl:nd.attrs.length≤1000) (hcase:¬ atN nd.attrs nm<nd.attrs.length):
  Calls Tryz.prog 21 #[.pointer (some ⟨B,0,none⟩),.int .i64 h,.string nm] w fun e w'=>e=.returned (errV 0)∧Below w.heap.size w w':=by
 have hE:=elemErr_any base B b s root h live n g av fr vs vf w hm hS ((tmem_i64 hS (h:=h) (by rw[raw_isSome,eg];rfl)).1) hk;have he0:elemE g h=0:=by unfold elemE;rw[eg];exact if_pos he
 rw[he0] at hE;have HM:=zh (fun (W:World) (hb:Below w.heap.size w W)=>hm.below hb);have HA:=zh (fun (W:World) (hb:Below w.heap.size w W)=>at_tv base B b s root h live n _ fr vs vf _ W (hm.below hb) hS (Tr.raw_some eg));have HAT:=zh (fun (W:World) (hb:Below w.heap.size w W)=>(ha.below hb));have HFL:=zh hm.lt;have HSS:=zh hS;have HEG:=zh eg;clear he0 hm ha hS he hk
 go_enter Tryz.func21,Tryz.ntmps21
 go_wp2_with fail;refine hE.mono ?_;rintro e w1 ⟨rfl,hb1⟩;have HA2:=HA.out w1 hb1;clear hE HA;go_wp2_with fail;refine HA2.mono ?_;rintro e w2 ⟨gb,o,rfl,hpt,hb2⟩;have hb02:=hb1.trans (hb2.mono hb1.size);obtain⟨_,_,t2,_⟩:=((HM.out w2 hb02).np hpt (Tr.raw_some HEG.out)).cells;rw[show (Tr.raw1 g av h nd).av=av h from rfl] at t2;have hgw:gb<w.heap.size:=(HFL.out gb hpt.foot).2;have HPT:=zh hpt;have HI:=zh (indexOf_any _ nd.attrs nm w2 (HAT.out w2 hb02 h nd HEG.out) hl);clear HA2 hb1 hb2 hpt;go_wp2_with fail;refine HI.out.mono ?_;rintro e w3 ⟨rfl,hb3⟩;have hb03:=hb02.trans (hb3.mono hb02.size);clear HI hb02 hb3;have hai:atI nd.attrs nm = -1:=by unfold atI;rw[if_neg hcase]
 rw[hai];go_wp2_with fail;go_ret2;exact⟨rfl,hb03⟩
theorem pdattr_some (base B:Nat) (b s root h:Int) (live n:Nat) (g:Tr.G) (av:Int→Tr.Sl) (fr:List Nat) (vs vf:Value) (nd:Tr.GN) (nm:ByteArray) (w:World) (hm:TV base w B b s vs n (Tr.raw g av) vf fr live root) (hS:Sound b s n (Tr.raw g av) fr live) (ha:AT w g av) (hk:∀ x m,g x=some m→m.kind≠0) (eg:g h=some nd) (he:nd.kind=2) (hl:nd.attrs.length≤1000) (hcase:atN nd.attrs nm<nd.attrs.length):
  Calls Tryz.prog 21 #[.pointer (some ⟨B,0,none⟩),.int .i64 h,.string nm] w fun e w'=>∃ r sl,e=.returned (.tuple #[r,.int .i64 0])∧RecRow w.heap.size w' r [attrRec h nm (oldA nd.attrs nm) true]∧
   TV base w' B b s vs n (Tr.raw (Tr.putG g h fun n=>{ n with attrs:=dropA n.attrs nm }) (Tr.addA av h sl)) vf fr live root∧Sound b s n (Tr.raw (Tr.putG g h fun n=>{ n with attrs:=dropA n.attrs nm }) (Tr.addA av h sl)) fr live∧
   AT w' (Tr.putG g h fun n=>{ n with attrs:=dropA n.attrs nm }) (Tr.addA av h sl)∧AStep w w' (Foot B vs vf) (Foot B vs vf):=by
 have hE:=elemErr_any base B b s root h live n g av fr vs vf w hm hS ((tmem_i64 hS (h:=h) (by rw[raw_isSome,eg];rfl)).1) hk;have he0:elemE g h=0:=by unfold elemE;rw[eg];exact if_pos he
 rw[he0] at hE;have HM:=zh (fun (W:World) (hb:Below w.heap.size w W)=>hm.below hb);have HA:=zh (fun (W:World) (hb:Below w.heap.size w W)=>at_tv base B b s root h live n _ fr vs vf _ W (hm.below hb) hS (Tr.raw_some eg));have HAT:=zh (fun (W:World) (hb:Below w.heap.size w W)=>(ha.below hb));have HFL:=zh hm.lt;have HSS:=zh hS;have HEG:=zh eg;clear he0 hm ha hS he hk
 go_enter Tryz.func21,Tryz.ntmps21
 go_wp2_with fail;refine hE.mono ?_;rintro e w1 ⟨rfl,hb1⟩;have HA2:=HA.out w1 hb1;clear hE HA;go_wp2_with fail;refine HA2.mono ?_;rintro e w2 ⟨gb,o,rfl,hpt,hb2⟩;have hb02:=hb1.trans (hb2.mono hb1.size);obtain⟨_,_,t2,_⟩:=((HM.out w2 hb02).np hpt (Tr.raw_some HEG.out)).cells;rw[show (Tr.raw1 g av h nd).av=av h from rfl] at t2;have hgw:gb<w.heap.size:=(HFL.out gb hpt.foot).2;have HPT:=zh hpt;have HI:=zh (indexOf_any _ nd.attrs nm w2 (HAT.out w2 hb02 h nd HEG.out) hl);clear HA2 hb1 hb2 hpt;go_wp2_with fail;refine HI.out.mono ?_;rintro e w3 ⟨rfl,hb3⟩;have hb03:=hb02.trans (hb3.mono hb02.size);clear HI hb02 hb3;obtain⟨l1,p,l2,hL,hd1⟩:∃ l1 p l2,nd.attrs=l1++p::l2∧l1.length=atN nd.attrs nm:=by
  refine⟨nd.attrs.take (atN nd.attrs nm),nd.attrs[atN nd.attrs nm],nd.attrs.drop (atN nd.attrs nm+1),?_,by rw[List.length_take];omega⟩;rw[←List.drop_eq_getElem_cons hcase,List.take_append_drop]
 obtain⟨d,hd⟩:∃ d,l1.length=d:=⟨_,rfl⟩
 obtain⟨bb,hbb⟩:∃ bb,l2.length=bb:=⟨_,rfl⟩
 have hai:atI nd.attrs nm=(d:Int):=by unfold atI;rw[if_pos hcase,←hd1,hd]
 have hget:nd.attrs[d]?=some p:=by rw[hL,←hd];simp
 have hdrop:dropA nd.attrs nm=l1++l2:=by unfold dropA;rw[←hd1,hL,List.eraseIdx_append_of_length_le (Nat.le_refl _),Nat.sub_self];rfl
 have hold:oldA nd.attrs nm=p.2:=by unfold oldA;rw[←hd1,hd,hget]
 have hlen:nd.attrs.length=d+1+bb:=by rw[hL,List.length_append,List.length_cons];omega
 rw[hai];have hat3:TR w3 0 91 2 (av h).v nd.attrs.length (atC nd.attrs):=HAT.out w3 hb03 h nd HEG.out;have havn:(av h).n=d+1+bb:=by
  obtain⟨A',c',e⟩:=hat3.form;unfold Tr.Sl.v at e;injection e with _ e _;rw[e,hlen]
 obtain⟨cp,hcp⟩:∃ cp,(av h).c=cp:=⟨_,rfl⟩
 have hv3:(av h).v=.slice (av h).a (d+1+bb) cp:=by unfold Tr.Sl.v;rw[havn,hcp]
 rw[hv3,hlen] at hat3;have hcap:=hat3.le;obtain⟨ga,oa,hA,_⟩:=hat3.cells (by omega);have HDR:=zh (And.intro hdrop (And.intro hold (And.intro hL (And.intro hd (And.intro hbb (And.intro hlen hv3))))));have hreads:∀ W,Below w.heap.size w W→W.cell? ⟨gb,o+2,none⟩=some (.slice (some ⟨ga,oa,none⟩) (d+1+bb) cp)∧W.cell? ⟨ga,oa+d*2+1,none⟩=some (.string p.2)∧TR W 0 91 2 (.slice (some ⟨ga,oa,none⟩) (d+1+bb) cp) (d+1+bb) (atC nd.attrs):=fun W hb=>by
  obtain⟨_,_,c2,_⟩:=((HM.out W hb).np HPT.out (Tr.raw_some HEG.out)).cells;have hr:TR W 0 91 2 (av h).v nd.attrs.length (atC nd.attrs):=HAT.out W hb h nd HEG.out;rw[show (Tr.raw1 g av h nd).av=av h from rfl,havn,hcp,hA] at c2;rw[hv3,hlen,hA] at hr;refine⟨c2,?_,hr⟩;rw[Nat.add_assoc];exact hr.cellAt _ _ (by omega) (atC_get _ _ _ hget).2
 have HRD:=zh hreads;obtain⟨t3,a3,_⟩:=hreads w3 hb03;have q0:(0:Int)≤(d:Int):=by omega
 have q1:(d:Int)<(d:Int)+1+(bb:Int):=by omega
 have q1b:(d:Int)<((d+1+bb:Nat):Int):=by omega
 obtain⟨w4a,hw4a⟩:∃ w4a,w3.alloc (.cells #[.int .i64 0,.int .i64 0,.int .i64 0,.int .i64 0,.int .i64 0,.int .i64 0,.string ⟨#[]⟩,.string ⟨#[]⟩,.bool false,.int .i64 0,.int .i64 0] 48)=w4a:=⟨_,rfl⟩
 have hb4a:Below w3.heap.size w3 w4a:=bzA hw4a;have hX4a:Whole w4a w3.heap.size #[.int .i64 0,.int .i64 0,.int .i64 0,.int .i64 0,.int .i64 0,.int .i64 0,.string ⟨#[]⟩,.string ⟨#[]⟩,.bool false,.int .i64 0,.int .i64 0] 48:=by rw[←hw4a];exact Whole.new w3 _ _
 have hb04a:=hb03.trans (hb4a.mono hb03.size);have hs3:w.heap.size≤w3.heap.size:=hb03.size;have y0:w4a.cell? ⟨w3.heap.size,0,none⟩=some (.int .i64 0):=hX4a.cell 0;have yf0:=hX4a.free 0;have y1:w4a.cell? ⟨w3.heap.size,1,none⟩=some (.int .i64 0):=hX4a.cell 1;have yf1:=hX4a.free 1;have y2:w4a.cell? ⟨w3.heap.size,2,none⟩=some (.int .i64 0):=hX4a.cell 2;have yf2:=hX4a.free 2;have y3:w4a.cell? ⟨w3.heap.size,3,none⟩=some (.int .i64 0):=hX4a.cell 3;have yf3:=hX4a.free 3;have y4:w4a.cell? ⟨w3.heap.size,4,none⟩=some (.int .i64 0):=hX4a.cell 4;have yf4:=hX4a.free 4;have y5:w4a.cell? ⟨w3.heap.size,5,none⟩=some (.int .i64 0):=hX4a.cell 5;have yf5:=hX4a.free 5;have y6:w4a.cell? ⟨w3.heap.size,6,none⟩=some (.string ⟨#[]⟩):=hX4a.cell 6;have yf6:=hX4a.free 6;have y7:w4a.cell? ⟨w3.heap.size,7,none⟩=some (.string ⟨#[]⟩):=hX4a.cell 7;have yf7:=hX4a.free 7;have y8:w4a.cell? ⟨w3.heap.size,8,none⟩=some (.bool false):=hX4a.cell 8;have yf8:=hX4a.free 8;have y9:w4a.cell? ⟨w3.heap.size,9,none⟩=some (.int .i64 0):=hX4a.cell 9;have yf9:=hX4a.free 9;have y10:w4a.cell? ⟨w3.heap.size,10,none⟩=some (.int .i64 0):=hX4a.cell 10;have yf10:=hX4a.free 10;obtain⟨w4,hw4,hX4,g4⟩:=box11 hX4a (.int .i64 3) (.int .i64 h) (.int .i64 0) (.int .i64 0) (.int .i64 0) (.int .i64 0) (.string nm) (.string p.2) (.bool true) (.int .i64 0) (.int .i64 0);have hb04:Below w.heap.size w w4:=hb04a.grown g4 hb04a.size (fun j hj=>by simp at hj;omega);have hb4d:Below w.heap.size w w4.drew:=hb04.trans ((below_drew1 _ w4).mono hb04.size);have hX4d:=hX4.below (below_drew1 _ w4) hX4.lt;obtain⟨t4,_,r4⟩:=hreads w4.drew hb4d;have hs34:w3.heap.size<w4.heap.size:=hX4.lt;obtain⟨w5,hw5⟩:∃ w5,w4.drew.alloc (.cells #[.slice (some ⟨ga,oa,none⟩) d cp,.slice (if cp=d+1 then some ⟨ga,oa,none⟩ else some ⟨ga,oa+(d+1)*2,none⟩) bb (cp - (d+1))] 40)=w5:=⟨_,rfl⟩
 have hb45:Below w4.drew.heap.size w4.drew w5:=by rw[←hw5];exact (Below.refl _ w4.drew).alloc (Nat.le_refl _) _
 have hS5:Whole w5 w4.heap.size #[.slice (some ⟨ga,oa,none⟩) d cp,.slice (if cp=d+1 then some ⟨ga,oa,none⟩ else some ⟨ga,oa+(d+1)*2,none⟩) bb (cp - (d+1))] 40:=by rw[←hw5];exact Whole.new w4.drew _ _
 have hb05:=hb4d.trans (hb45.mono hb4d.size);have r5:=(hreads w5 hb05).2.2;rw[hL] at r5;obtain⟨ra,rb⟩:=r5.parts2 hd hbb;have hHC:=concat_any w4.heap.size _ _ l1 l2 w5 (hS5.cell 0) (hS5.cell 1) hS5.lt (by show TR _ _ _ _ _ l1.length _;rw[hd];exact ra) (by show TR _ _ _ _ _ l2.length _;rw[hbb];exact rb) (by omega) (by omega);have HC:=zh hHC;have hX5:=hX4d.below hb45 hX4d.lt;have HX5:=zh hX5;have HB05:=zh hb05;have hdc:(d:Int)≤(cp:Int):=by omega
 have hi2:(d:Int)+1≤((d+1+bb:Nat):Int):=by omega
 have hi3:(0:Int)≤(d:Int)+1:=by omega
 have hi2b:(d:Int)+1≤(d:Int)+1+(bb:Int):=by omega
 have ht1':((d:Int)+1).toNat=d+1:=by omega
 have hs2:IntKind.i64.wrap ((d:Int)+1)=(d:Int)+1:=by rw[IntKind.wrap_i64];omega
 have q4:¬ (d:Int)<0:=by omega
 clear hat3 hv3 havn hcp hA hreads hX4a hX4 hX4d hX5 g4 hb4a hb04a hb03 hb04 hb4d hb45 hb05 hS5 r4 r5 ra rb hL hd1 hget hdrop hold hlen hHC hai hcase hd hbb;go_wp2_with fail;(try rw[hw4]);go_wp2_with fail;refine wp_region_noPanic ?_;refine wp_region_held_drew (S:=(fun _=>True)) (by kernel_rfl) ?_ (fun hHeld=>?_)
 ·exact trivial
 refine agE [0,1,2,3,5,7,8,9,11,12] ?_;iterate 10 (refine tkA ?_;try simp only[pS])
 refine agN ?_;apply memo1
 ·intro KEY;refine wpAnyH_ready (rs:=[4,10]) (by kernel_rfl) (by simp) ?_;refine AllReadyH.cons rfl (fun K hK=>?_) (AllReadyH.cons rfl (fun K hK=>?_) AllReadyH.nil)
  ·go_simp;refine hK.out _ _ (trivial) fun hHeld=>?_;clear hK K;(try simp only[pS]);refine agE [6] ?_
   (refine tkA ?_;try simp only[pS])
   refine agN ?_;refine rd1 10 fun K hK=>?_;go_simp;refine hK.out _ _ (trivial) fun hHeld=>?_;clear hK K;(try simp only[pS]);refine agE [13] ?_
   (refine tkA ?_;try simp only[pS])
   refine agN ?_;exact KEY
  ·go_simp;refine hK.out _ _ (trivial) fun hHeld=>?_;clear hK K;(try simp only[pS]);refine agE [13] ?_
   (refine tkA ?_;try simp only[pS])
   refine agN ?_;refine rd1 4 fun K hK=>?_;go_simp;refine hK.out _ _ (trivial) fun hHeld=>?_;clear hK K;(try simp only[pS]);refine agE [6] ?_
   (refine tkA ?_;try simp only[pS])
   refine agN ?_;exact KEY
 refine rd1 14 fun K hK=>?_;go_simp;(try rw[hw5]);refine hK.out _ _ (trivial) fun hHeld=>?_;clear hK K;(try simp only[pS]);refine rd1 15 fun K hK=>?_;go_simp;refine HC.out.mono ?_;rintro e w6 ⟨v6,rfl,o6,hb6⟩;have hX6:=HX5.out.below hb6 HX5.out.lt;have hb06:=HB05.out.trans (hb6.mono HB05.out.size);obtain⟨sl,rfl,-⟩:=sl_of o6;have o6':AR w6 0 sl.v (dropA nd.attrs nm):=by rw[HDR.out.1];exact o6.zero
 obtain⟨hm7,hS7,hat7,st7⟩:=(HM.out w6 hb06).put_attrs HSS.out (HAT.out w6 hb06) HPT.out HEG.out (fun n=>dropA n.attrs nm) sl o6';have f6:=(((HM.out w6 hb06).np HPT.out (Tr.raw_some HEG.out)) 2 (by omega)).2;have t6:=(HRD.out w6 hb06).1;obtain⟨w7,hw7⟩:∃ w7,w6.setCell ⟨gb,o+2,none⟩ sl.v=w7:=⟨_,rfl⟩
 rw[hw7] at hm7 hat7 st7;have g7:w6.grownBy w7 (some gb):=by rw[←hw7];exact gb_put (gb_of_below (Below.refl w6.heap.size w6) _) _ _
 have hX7:=hX6.grown g7 (fun e=>by injection e with e;omega);have hBA:=(Below.refl _ w7).alloc (Nat.le_refl _) (.cells #[.int .i64 3,.int .i64 h,.int .i64 0,.int .i64 0,.int .i64 0,.int .i64 0,.string nm,.string p.2,.bool true,.int .i64 0,.int .i64 0] 48);have HFIN:=zh (And.intro (rec_row w7 (attrRec h nm p.2 true) w.heap.size (Nat.le_trans hb06.size g7.size)) (And.intro (hm7.below hBA) (And.intro hS7 (And.intro (hat7.below hBA) (((AStep.of_below hb06).trans st7).trans (.of_below hBA))))));have s0:w7.cell? ⟨w3.heap.size,0,none⟩=some (.int .i64 3):=hX7.cell 0;have sf0:=hX7.free 0;have s1:w7.cell? ⟨w3.heap.size,1,none⟩=some (.int .i64 h):=hX7.cell 1;have sf1:=hX7.free 1;have s2:w7.cell? ⟨w3.heap.size,2,none⟩=some (.int .i64 0):=hX7.cell 2;have sf2:=hX7.free 2;have s3:w7.cell? ⟨w3.heap.size,3,none⟩=some (.int .i64 0):=hX7.cell 3;have sf3:=hX7.free 3;have s4:w7.cell? ⟨w3.heap.size,4,none⟩=some (.int .i64 0):=hX7.cell 4;have sf4:=hX7.free 4;have s5:w7.cell? ⟨w3.heap.size,5,none⟩=some (.int .i64 0):=hX7.cell 5;have sf5:=hX7.free 5;have s6:w7.cell? ⟨w3.heap.size,6,none⟩=some (.string nm):=hX7.cell 6;have sf6:=hX7.free 6;have s7:w7.cell? ⟨w3.heap.size,7,none⟩=some (.string p.2):=hX7.cell 7;have sf7:=hX7.free 7;have s8:w7.cell? ⟨w3.heap.size,8,none⟩=some (.bool true):=hX7.cell 8;have sf8:=hX7.free 8;have s9:w7.cell? ⟨w3.heap.size,9,none⟩=some (.int .i64 0):=hX7.cell 9;have sf9:=hX7.free 9;have s10:w7.cell? ⟨w3.heap.size,10,none⟩=some (.int .i64 0):=hX7.cell 10;have sf10:=hX7.free 10;clear hm7 hS7 hat7 st7 hBA hX7 hX6 g7 o6 o6' hb6 hb06;refine hK.out _ _ (trivial) fun hHeld=>?_;clear hK K;(try simp only[pS]);refine agE [16,17] ?_;iterate 2 (refine tkA ?_;try simp only[pS])
 refine agN ?_;refine rd1 18 fun K hK=>?_;go_simp;(try rw[hw7]);refine hK.out _ _ (trivial) fun hHeld=>?_;clear hK K;(try simp only[pS]);refine dnH ?_;go_wp2_with fail;all_goals go_ret2
 all_goals
  obtain⟨z1,z2,z3,z4,z5⟩:=HFIN.out;refine⟨_,rfl,?_,sl,z2,z3,z4,z5⟩;rw[HDR.out.2.1];exact z1
end
end Go.Proofs.YtaigmpkcdjbpiaaGreatDoor
