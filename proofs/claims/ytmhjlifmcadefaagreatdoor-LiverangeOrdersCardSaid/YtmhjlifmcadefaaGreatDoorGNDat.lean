/- Part of a proof about trees. -/
import Derived.Test.YtmhjlifmcadefaaGreatDoorGNRsa
set_option linter.unusedVariables false
set_option linter.unusedSimpArgs false
set_option maxHeartbeats 2000000
set_option maxRecDepth 100000
namespace Go.Proofs.YtmhjlifmcadefaaGreatDoor
section
open Go.RowKit
def jY (l:List (ByteArray×ByteArray)) (nm:ByteArray):List (ByteArray×ByteArray):=l.eraseIdx (oZ l nm)
theorem TR.OJ {w:World} {base g o d b cp:Nat} {e:TypeId} {l1 l2:List (ByteArray×ByteArray)} {p:ByteArray×ByteArray} (h:TR w base e 2 (.slice (some ⟨g,o,none⟩) (d+1+b) cp) (d+1+b) (fP (l1++p::l2))) (h1:l1.length=d) (h2:l2.length=b):
  TR w base e 2 (.slice (some ⟨g,o,none⟩) d cp) d (fP l1)∧TR w base e 2 (.slice (if cp=d+1 then some ⟨g,o,none⟩ else some ⟨g,o+(d+1)*2,none⟩) b (cp - (d+1))) b (fP l2):=by
 have a1:=h.head (k:=d) (by omega);have a2:=h.tail (k:=d+1) (by omega);rw[OL,List.take_left' h1] at a1;rw[OM,show l1++p::l2=(l1++[p])++l2 from by simp,List.drop_left' (by rw[List.length_append,h1];rfl),Nat.add_sub_cancel_left] at a2;have et:tailV (.slice (some ⟨g,o,none⟩) (d+1+b) cp) (d+1) 2=.slice (if cp=d+1 then some ⟨g,o,none⟩ else some ⟨g,o+(d+1)*2,none⟩) b (cp - (d+1)):=by
  unfold tailV;simp only[Option.map_some,Addr.add_lit,Nat.add_sub_cancel_left]
 rw[et] at a2;exact⟨a1,a2⟩
theorem zP (base B:Nat) (b s root h:Int) (live n:Nat) (g:Tr.G) (av:Int→Tr.Sl) (fr:List Nat) (vs vf:Value) (nm:ByteArray) (w:World) (hm:TV base w B b s vs n (Tr.raw g av) vf fr live root) (hS:Sound b s n (Tr.raw g av) fr live) (hh:gI h) (hk:∀ x m,g x=some m→m.kind≠0) (he:fD g h≠0):
  Calls Tryz.prog 39 #[.pointer (some ⟨B,0,none⟩),.int .i64 h,.string nm] w fun e w'=>e=.returned (nW (fD g h))∧Below w.heap.size w w':=by
 have hE:=iV base B b s root h live n g av fr vs vf w hm hS hh hk;obtain⟨z,hz⟩:=eX (fD g h)
 rw[hz] at hE he ⊢;have q:=bne_true he;clear hm hz
 go_enter Tryz.func39,Tryz.ntmps39
 go_wp2_with fail;refine hE.mono ?_;rintro e w1 ⟨rfl,hb⟩;clear hE;go_wp2_with fail;go_ret2;exact⟨rfl,hb⟩
theorem FL (base B:Nat) (b s root h:Int) (live n:Nat) (g:Tr.G) (av:Int→Tr.Sl) (fr:List Nat) (vs vf:Value) (nd:Tr.GN) (nm:ByteArray) (w:World) (hm:TV base w B b s vs n (Tr.raw g av) vf fr live root) (hS:Sound b s n (Tr.raw g av) fr live) (ha:AT w g av) (hk:∀ x m,g x=some m→m.kind≠0) (eg:g h=some nd) (he:nd.kind=2) (hl:nd.attrs.length≤1000) (hcase:¬ oZ nd.attrs nm<nd.attrs.length):
  Calls Tryz.prog 39 #[.pointer (some ⟨B,0,none⟩),.int .i64 h,.string nm] w fun e w'=>e=.returned (nW 0)∧Below w.heap.size w w':=by
 have hE:=iV base B b s root h live n g av fr vs vf w hm hS ((bH hS (h:=h) (by rw[aK,eg];rfl)).1) hk;have he0:fD g h=0:=by unfold fD;rw[eg];exact if_pos he
 rw[he0] at hE;have HM:=zh (fun (W:World) (hb:Below w.heap.size w W)=>hm.below hb);have HA:=zh (fun (W:World) (hb:Below w.heap.size w W)=>gW base B b s root h live n _ fr vs vf _ W (hm.below hb) hS (Tr.aj eg));have HAT:=zh (fun (W:World) (hb:Below w.heap.size w W)=>(ha.below hb));have MB:=zh hm.lt;have gV:=zh hS;have qg:=zh eg;clear he0 hm ha hS he hk
 go_enter Tryz.func39,Tryz.ntmps39
 go_wp2_with fail;refine hE.mono ?_;rintro e w1 ⟨rfl,hb1⟩;have HA2:=HA.out w1 hb1;clear hE HA;go_wp2_with fail;refine HA2.mono ?_;rintro e w2 ⟨gb,o,rfl,hpt,hb2⟩;have dV:=hb1.trans (hb2.mono hb1.size);obtain⟨_,_,t2,_⟩:=((HM.out w2 dV).np hpt (Tr.aj qg.out)).cells;rw[show (Tr.dW g av h nd).av=av h from rfl] at t2;have hgw:gb<w.heap.size:=(MB.out gb hpt.foot).2;have yY:=zh hpt;have HI:=zh (nY _ nd.attrs nm w2 (HAT.out w2 dV h nd qg.out) hl);clear HA2 hb1 hb2 hpt;go_wp2_with fail;refine HI.out.mono ?_;rintro e w3 ⟨rfl,hb3⟩;have dA:=dV.trans (hb3.mono dV.size);clear HI dV hb3;have hai:yO nd.attrs nm = -1:=by unfold yO;rw[if_neg hcase]
 rw[hai];go_wp2_with fail;go_ret2;exact⟨rfl,dA⟩
theorem FM (base B:Nat) (b s root h:Int) (live n:Nat) (g:Tr.G) (av:Int→Tr.Sl) (fr:List Nat) (vs vf:Value) (nd:Tr.GN) (nm:ByteArray) (w:World) (hm:TV base w B b s vs n (Tr.raw g av) vf fr live root) (hS:Sound b s n (Tr.raw g av) fr live) (ha:AT w g av) (hk:∀ x m,g x=some m→m.kind≠0) (eg:g h=some nd) (he:nd.kind=2) (hl:nd.attrs.length≤1000) (hcase:oZ nd.attrs nm<nd.attrs.length):
  Calls Tryz.prog 39 #[.pointer (some ⟨B,0,none⟩),.int .i64 h,.string nm] w fun e w'=>∃ r sl,e=.returned (.tuple #[r,.int .i64 0])∧bL w.heap.size w' r [jL h nm (lD nd.attrs nm) true]∧
   TV base w' B b s vs n (Tr.raw (Tr.cK g h fun n=>{ n with attrs:=jY n.attrs nm }) (Tr.fq av h sl)) vf fr live root∧Sound b s n (Tr.raw (Tr.cK g h fun n=>{ n with attrs:=jY n.attrs nm }) (Tr.fq av h sl)) fr live∧
   AT w' (Tr.cK g h fun n=>{ n with attrs:=jY n.attrs nm }) (Tr.fq av h sl)∧aB w w' (aD B vs vf) (aD B vs vf):=by
 have hE:=iV base B b s root h live n g av fr vs vf w hm hS ((bH hS (h:=h) (by rw[aK,eg];rfl)).1) hk;have he0:fD g h=0:=by unfold fD;rw[eg];exact if_pos he
 rw[he0] at hE;have HM:=zh (fun (W:World) (hb:Below w.heap.size w W)=>hm.below hb);have HA:=zh (fun (W:World) (hb:Below w.heap.size w W)=>gW base B b s root h live n _ fr vs vf _ W (hm.below hb) hS (Tr.aj eg));have HAT:=zh (fun (W:World) (hb:Below w.heap.size w W)=>(ha.below hb));have MB:=zh hm.lt;have gV:=zh hS;have qg:=zh eg;clear he0 hm ha hS he hk
 go_enter Tryz.func39,Tryz.ntmps39
 go_wp2_with fail;refine hE.mono ?_;rintro e w1 ⟨rfl,hb1⟩;have HA2:=HA.out w1 hb1;clear hE HA;go_wp2_with fail;refine HA2.mono ?_;rintro e w2 ⟨gb,o,rfl,hpt,hb2⟩;have dV:=hb1.trans (hb2.mono hb1.size);obtain⟨_,_,t2,_⟩:=((HM.out w2 dV).np hpt (Tr.aj qg.out)).cells;rw[show (Tr.dW g av h nd).av=av h from rfl] at t2;have hgw:gb<w.heap.size:=(MB.out gb hpt.foot).2;have yY:=zh hpt;have HI:=zh (nY _ nd.attrs nm w2 (HAT.out w2 dV h nd qg.out) hl);clear HA2 hb1 hb2 hpt;go_wp2_with fail;refine HI.out.mono ?_;rintro e w3 ⟨rfl,hb3⟩;have dA:=dV.trans (hb3.mono dV.size);clear HI dV hb3;obtain⟨l1,p,l2,hL,hd1⟩:∃ l1 p l2,nd.attrs=l1++p::l2∧l1.length=oZ nd.attrs nm:=by
  refine⟨nd.attrs.take (oZ nd.attrs nm),nd.attrs[oZ nd.attrs nm],nd.attrs.drop (oZ nd.attrs nm+1),?_,by rw[List.length_take];omega⟩;rw[←List.drop_eq_getElem_cons hcase,List.take_append_drop]
 obtain⟨d,hd⟩:=eX (l1.length)
 obtain⟨bb,hbb⟩:=eX (l2.length)
 have hai:yO nd.attrs nm=(d:Int):=by unfold yO;rw[if_pos hcase,←hd1,hd]
 have hget:nd.attrs[d]?=some p:=by rw[hL,←hd];simp
 have hdrop:jY nd.attrs nm=l1++l2:=by unfold jY;rw[←hd1,hL,List.eraseIdx_append_of_length_le (Nat.le_refl _),Nat.sub_self];rfl
 have hold:lD nd.attrs nm=p.2:=by unfold lD;rw[←hd1,hd,hget]
 have hlen:nd.attrs.length=d+1+bb:=by rw[hL,List.length_append,List.length_cons];omega
 rw[hai];have pz:TR w3 0 95 2 (av h).v nd.attrs.length (fP nd.attrs):=HAT.out w3 dA h nd qg.out;have Vn:(av h).n=d+1+bb:=by
  obtain⟨A',c',e⟩:=pz.form;unfold Tr.Sl.v at e;injection e with _ e _;rw[e,hlen]
 obtain⟨cp,hcp⟩:=eX ((av h).c)
 have hv3:(av h).v=.slice (av h).a (d+1+bb) cp:=by unfold Tr.Sl.v;rw[Vn,hcp]
 rw[hv3,hlen] at pz;have hcap:=pz.le;obtain⟨ga,oa,hA,_⟩:=pz.cells (by omega);have HDR:=zh (And.intro hdrop (And.intro hold (And.intro hL (And.intro hd (And.intro hbb (And.intro hlen hv3))))));have hreads:∀ W,Below w.heap.size w W→W.cell? ⟨gb,o+2,none⟩=some (.slice (some ⟨ga,oa,none⟩) (d+1+bb) cp)∧W.cell? ⟨ga,oa+d*2+1,none⟩=some (.string p.2)∧TR W 0 95 2 (.slice (some ⟨ga,oa,none⟩) (d+1+bb) cp) (d+1+bb) (fP nd.attrs):=fun W hb=>by
  obtain⟨_,_,c2,_⟩:=((HM.out W hb).np yY.out (Tr.aj qg.out)).cells;have hr:TR W 0 95 2 (av h).v nd.attrs.length (fP nd.attrs):=HAT.out W hb h nd qg.out;rw[show (Tr.dW g av h nd).av=av h from rfl,Vn,hcp,hA] at c2;rw[hv3,hlen,hA] at hr;refine⟨c2,?_,hr⟩;rw[Nat.add_assoc];exact hr.cellAt _ _ (by omega) (ji _ _ _ hget).2
 have Rw:=zh hreads;obtain⟨t3,a3,_⟩:=hreads w3 dA;have q0:(0:Int)≤(d:Int):=by omega
 have q1:(d:Int)<(d:Int)+1+(bb:Int):=by omega
 have q1b:(d:Int)<((d+1+bb:Nat):Int):=by omega
 obtain⟨MC,X7⟩:=eX (w3.alloc (.cells #[.int .i64 0,.int .i64 0,.int .i64 0,.int .i64 0,.int .i64 0,.int .i64 0,.string ⟨#[]⟩,.string ⟨#[]⟩,.bool false,.int .i64 0,.int .i64 0] 144))
 have X9:Below w3.heap.size w3 MC:=fI X7;have mR:Whole MC w3.heap.size #[.int .i64 0,.int .i64 0,.int .i64 0,.int .i64 0,.int .i64 0,.int .i64 0,.string ⟨#[]⟩,.string ⟨#[]⟩,.bool false,.int .i64 0,.int .i64 0] 144:=by rw[←X7];exact Whole.new w3 _ _
 have OO:=dA.trans (X9.mono dA.size);have hs3:w.heap.size≤w3.heap.size:=dA.size;have y0:MC.cell? ⟨w3.heap.size,0,none⟩=some (.int .i64 0):=mR.cell 0;have yZ:=mR.free 0;have y1:MC.cell? ⟨w3.heap.size,1,none⟩=some (.int .i64 0):=mR.cell 1;have za:=mR.free 1;have y2:MC.cell? ⟨w3.heap.size,2,none⟩=some (.int .i64 0):=mR.cell 2;have CZ:=mR.free 2;have y3:MC.cell? ⟨w3.heap.size,3,none⟩=some (.int .i64 0):=mR.cell 3;have C8:=mR.free 3;have y4:MC.cell? ⟨w3.heap.size,4,none⟩=some (.int .i64 0):=mR.cell 4;have C9:=mR.free 4;have y5:MC.cell? ⟨w3.heap.size,5,none⟩=some (.int .i64 0):=mR.cell 5;have Da:=mR.free 5;have y6:MC.cell? ⟨w3.heap.size,6,none⟩=some (.string ⟨#[]⟩):=mR.cell 6;have Db:=mR.free 6;have y7:MC.cell? ⟨w3.heap.size,7,none⟩=some (.string ⟨#[]⟩):=mR.cell 7;have Dc:=mR.free 7;have y8:MC.cell? ⟨w3.heap.size,8,none⟩=some (.bool false):=mR.cell 8;have Df:=mR.free 8;have y9:MC.cell? ⟨w3.heap.size,9,none⟩=some (.int .i64 0):=mR.cell 9;have FN:=mR.free 9;have wT:MC.cell? ⟨w3.heap.size,10,none⟩=some (.int .i64 0):=mR.cell 10;have qZ:=mR.free 10;obtain⟨w4,hw4,bI,g4⟩:=kJ mR (.int .i64 3) (.int .i64 h) (.int .i64 0) (.int .i64 0) (.int .i64 0) (.int .i64 0) (.string nm) (.string p.2) (.bool true) (.int .i64 0) (.int .i64 0);have bU:Below w.heap.size w w4:=OO.grown g4 OO.size (fun j hj=>by simp at hj;omega);have uK:Below w.heap.size w w4.drew:=bU.trans ((bf _ w4).mono bU.size);have OP:=bI.below (bf _ w4) bI.lt;obtain⟨t4,_,r4⟩:=hreads w4.drew uK;have Ya:w3.heap.size<w4.heap.size:=bI.lt;obtain⟨w5,fE⟩:=eX (w4.drew.alloc (.cells #[.slice (some ⟨ga,oa,none⟩) d cp,.slice (if cp=d+1 then some ⟨ga,oa,none⟩ else some ⟨ga,oa+(d+1)*2,none⟩) bb (cp - (d+1))] 80))
 have eZ:Below w4.drew.heap.size w4.drew w5:=by rw[←fE];exact (Below.refl _ w4.drew).alloc (Nat.le_refl _) _
 have hS5:Whole w5 w4.heap.size #[.slice (some ⟨ga,oa,none⟩) d cp,.slice (if cp=d+1 then some ⟨ga,oa,none⟩ else some ⟨ga,oa+(d+1)*2,none⟩) bb (cp - (d+1))] 80:=by rw[←fE];exact Whole.new w4.drew _ _
 have dX:=uK.trans (eZ.mono uK.size);have r5:=(hreads w5 dX).2.2;rw[hL] at r5;obtain⟨ra,rb⟩:=r5.OJ hd hbb;have hHC:=Je w4.heap.size _ _ l1 l2 w5 (hS5.cell 0) (hS5.cell 1) hS5.lt (by show TR _ _ _ _ _ l1.length _;rw[hd];exact ra) (by show TR _ _ _ _ _ l2.length _;rw[hbb];exact rb) (by omega) (by omega);have HC:=zh hHC;have dM:=OP.below eZ OP.lt;have iJ:=zh dM;have Jf:=zh dX;have hdc:(d:Int)≤(cp:Int):=by omega
 have hi2:(d:Int)+1≤((d+1+bb:Nat):Int):=by omega
 have hi3:(0:Int)≤(d:Int)+1:=by omega
 have Yb:(d:Int)+1≤(d:Int)+1+(bb:Int):=by omega
 have ht1':((d:Int)+1).toNat=d+1:=by omega
 have hs2:IntKind.i64.wrap ((d:Int)+1)=(d:Int)+1:=by rw[IntKind.wrap_i64];omega
 have q4:¬ (d:Int)<0:=by omega
 clear pz hv3 Vn hcp hA hreads mR bI OP dM g4 X9 OO dA bU uK eZ dX hS5 r4 r5 ra rb hL hd1 hget hdrop hold hlen hHC hai hcase hd hbb;go_wp2_with fail;(try rw[hw4]);go_wp2_with fail;refine wp_region_noPanic ?_;refine wp_region_held_drew (S:=(fun _=>True)) (by kernel_rfl) ?_ (fun ah=>?_)
 ·exact trivial
 refine bn [0,1,2,3,5,7,8,9,11,12] ?_;iterate 10 (refine jf ?_;try simp only[pS])
 refine bq ?_;apply Dh
 ·intro KEY;refine zQ 4 10 (fun K hK=>?_) fun K hK=>?_
  ·go_simp;refine hK.out _ _ (trivial) fun ah=>?_;clear hK K;(try simp only[pS]);refine bn [6] ?_
   (refine jf ?_;try simp only[pS])
   refine bq ?_;refine bG 10 fun K hK=>?_;go_simp;refine hK.out _ _ (trivial) fun ah=>?_;clear hK K;(try simp only[pS]);refine bn [13] ?_
   (refine jf ?_;try simp only[pS])
   refine bq ?_;exact KEY
  ·go_simp;refine hK.out _ _ (trivial) fun ah=>?_;clear hK K;(try simp only[pS]);refine bn [13] ?_
   (refine jf ?_;try simp only[pS])
   refine bq ?_;refine bG 4 fun K hK=>?_;go_simp;refine hK.out _ _ (trivial) fun ah=>?_;clear hK K;(try simp only[pS]);refine bn [6] ?_
   (refine jf ?_;try simp only[pS])
   refine bq ?_;exact KEY
 refine bG 14 fun K hK=>?_;go_simp;(try rw[fE]);refine hK.out _ _ (trivial) fun ah=>?_;clear hK K;(try simp only[pS]);refine bG 15 fun K hK=>?_;go_simp;refine HC.out.mono ?_;rintro e w6 ⟨v6,rfl,o6,hb6⟩;have gL:=iJ.out.below hb6 iJ.out.lt;have iF:=Jf.out.trans (hb6.mono Jf.out.size);obtain⟨sl,rfl,-⟩:=Yc o6;have o6':AR w6 0 sl.v (jY nd.attrs nm):=by rw[HDR.out.1];exact o6.zero
 obtain⟨qM,vg,Vo,yP⟩:=(HM.out w6 iF).nC gV.out (HAT.out w6 iF) yY.out qg.out (fun n=>jY n.attrs nm) sl o6';have f6:=(((HM.out w6 iF).np yY.out (Tr.aj qg.out)) 2 (by omega)).2;have t6:=(Rw.out w6 iF).1;obtain⟨w7,hw7⟩:=eX (w6.setCell ⟨gb,o+2,none⟩ sl.v)
 rw[hw7] at qM Vo yP;have g7:w6.grownBy w7 (some gb):=by rw[←hw7];exact aJ (ay (Below.refl w6.heap.size w6) _) _ _
 have aL:=gL.grown g7 (fun e=>by injection e with e;omega);have qh:=(Below.refl _ w7).alloc (Nat.le_refl _) (.cells #[.int .i64 3,.int .i64 h,.int .i64 0,.int .i64 0,.int .i64 0,.int .i64 0,.string nm,.string p.2,.bool true,.int .i64 0,.int .i64 0] 144);have bC:=zh (And.intro (mU w7 (jL h nm p.2 true) w.heap.size (Nat.le_trans iF.size g7.size)) (And.intro (qM.below qh) (And.intro vg (And.intro (Vo.below qh) (((aB.of_below iF).trans yP).trans (.of_below qh))))));have s0:w7.cell? ⟨w3.heap.size,0,none⟩=some (.int .i64 3):=aL.cell 0;have Yd:=aL.free 0;have s1:w7.cell? ⟨w3.heap.size,1,none⟩=some (.int .i64 h):=aL.cell 1;have Ye:=aL.free 1;have s2:w7.cell? ⟨w3.heap.size,2,none⟩=some (.int .i64 0):=aL.cell 2;have Yf:=aL.free 2;have s3:w7.cell? ⟨w3.heap.size,3,none⟩=some (.int .i64 0):=aL.cell 3;have Yg:=aL.free 3;have s4:w7.cell? ⟨w3.heap.size,4,none⟩=some (.int .i64 0):=aL.cell 4;have Yh:=aL.free 4;have s5:w7.cell? ⟨w3.heap.size,5,none⟩=some (.int .i64 0):=aL.cell 5;have Yi:=aL.free 5;have s6:w7.cell? ⟨w3.heap.size,6,none⟩=some (.string nm):=aL.cell 6;have Yj:=aL.free 6;have s7:w7.cell? ⟨w3.heap.size,7,none⟩=some (.string p.2):=aL.cell 7;have Yk:=aL.free 7;have s8:w7.cell? ⟨w3.heap.size,8,none⟩=some (.bool true):=aL.cell 8;have Yl:=aL.free 8;have s9:w7.cell? ⟨w3.heap.size,9,none⟩=some (.int .i64 0):=aL.cell 9;have Ym:=aL.free 9;have s10:w7.cell? ⟨w3.heap.size,10,none⟩=some (.int .i64 0):=aL.cell 10;have OQ:=aL.free 10;clear qM vg Vo yP qh aL gL g7 o6 o6' hb6 iF;refine hK.out _ _ (trivial) fun ah=>?_;clear hK K;(try simp only[pS]);refine bn [16,17] ?_;iterate 2 (refine jf ?_;try simp only[pS])
 refine bq ?_;refine bG 18 fun K hK=>?_;go_simp;(try rw[hw7]);refine hK.out _ _ (trivial) fun ah=>?_;clear hK K;(try simp only[pS]);refine eY ?_;go_wp2_with fail;all_goals go_ret2
 all_goals
  obtain⟨z1,z2,z3,z4,z5⟩:=bC.out;refine⟨_,rfl,?_,sl,z2,z3,z4,z5⟩;rw[HDR.out.2.1];exact z1
end
end Go.Proofs.YtmhjlifmcadefaaGreatDoor
