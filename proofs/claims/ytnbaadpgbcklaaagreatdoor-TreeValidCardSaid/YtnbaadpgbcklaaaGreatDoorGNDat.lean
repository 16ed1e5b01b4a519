/- Part of a proof about trees. -/
import Derived.Test.YtnbaadpgbcklaaaGreatDoorGNRsa
import Derived.Test.YtnbaadpgbcklaaaGreatDoorGNVal
set_option linter.unusedVariables false
set_option linter.unusedSimpArgs false
set_option maxHeartbeats 2000000
set_option maxRecDepth 100000
namespace Go.Proofs.YtnbaadpgbcklaaaGreatDoor
section
open Go.RowKit
def jT (l:List (ByteArray×ByteArray)) (nm:ByteArray):List (ByteArray×ByteArray):=l.eraseIdx (oV l nm)
theorem TR.Nr {w:World} {base g o d b cp:Nat} {e:TypeId} {l1 l2:List (ByteArray×ByteArray)} {p:ByteArray×ByteArray} (h:TR w base e 2 (.slice (some ⟨g,o,none⟩) (d+1+b) cp) (d+1+b) (fF (l1++p::l2))) (h1:l1.length=d) (h2:l2.length=b):
  TR w base e 2 (.slice (some ⟨g,o,none⟩) d cp) d (fF l1)∧TR w base e 2 (.slice (if cp=d+1 then some ⟨g,o,none⟩ else some ⟨g,o+(d+1)*2,none⟩) b (cp - (d+1))) b (fF l2):=by
 have a1:=h.head (k:=d) (by omega);have a2:=h.tail (k:=d+1) (by omega);rw[Ns,List.take_left' h1] at a1;rw[Nt,show l1++p::l2=(l1++[p])++l2 from by simp,List.drop_left' (by rw[List.length_append,h1];rfl),Nat.add_sub_cancel_left] at a2;have et:tailV (.slice (some ⟨g,o,none⟩) (d+1+b) cp) (d+1) 2=.slice (if cp=d+1 then some ⟨g,o,none⟩ else some ⟨g,o+(d+1)*2,none⟩) b (cp - (d+1)):=by
  unfold tailV;simp only[Option.map_some,Addr.add_lit,Nat.add_sub_cancel_left]
 rw[et] at a2;exact⟨a1,a2⟩
theorem yT (base B:Nat) (b s root h:Int) (live n:Nat) (g:Tr.G) (av:Int→Tr.Sl) (fr:List Nat) (vs vf:Value) (nm:ByteArray) (w:World) (hm:TV base w B b s vs n (Tr.raw g av) vf fr live root) (hS:Sound b s n (Tr.raw g av) fr live) (hh:lQ h) (hk:∀ x m,g x=some m→m.kind≠0) (he:fC g h≠0):
  Calls Tryz.prog 20 #[.pointer (some ⟨B,0,none⟩),.int .i64 h,.string nm] w fun e w'=>e=.returned (nU (fC g h))∧Below w.heap.size w w':=by
 have hE:=iW base B b s root h live n g av fr vs vf w hm hS hh hk;obtain⟨z,hz⟩:=eX (fC g h)
 rw[hz] at hE he ⊢;have q:=bne_true he;clear hm hz
 go_enter Tryz.func20,Tryz.ntmps20
 go_wp2_with fail;refine hE.mono ?_;rintro e w1 ⟨rfl,hb⟩;clear hE;go_wp2_with fail;go_ret2;exact⟨rfl,hb⟩
theorem EK (base B:Nat) (b s root h:Int) (live n:Nat) (g:Tr.G) (av:Int→Tr.Sl) (fr:List Nat) (vs vf:Value) (nd:Tr.GN) (nm:ByteArray) (w:World) (hm:TV base w B b s vs n (Tr.raw g av) vf fr live root) (hS:Sound b s n (Tr.raw g av) fr live) (ha:AT w g av) (hk:∀ x m,g x=some m→m.kind≠0) (eg:g h=some nd) (he:nd.kind=2) (hl:nd.attrs.length≤1000) (hcase:¬ oV nd.attrs nm<nd.attrs.length):
  Calls Tryz.prog 20 #[.pointer (some ⟨B,0,none⟩),.int .i64 h,.string nm] w fun e w'=>e=.returned (nU 0)∧Below w.heap.size w w':=by
 have hE:=iW base B b s root h live n g av fr vs vf w hm hS ((bC hS (h:=h) (by rw[aI,eg];rfl)).1) hk;have he0:fC g h=0:=by unfold fC;rw[eg];exact if_pos he
 rw[he0] at hE;have HM:=zh (fun (W:World) (hb:Below w.heap.size w W)=>hm.below hb);have HA:=zh (fun (W:World) (hb:Below w.heap.size w W)=>gZ base B b s root h live n _ fr vs vf _ W (hm.below hb) hS (Tr.aj eg));have HAT:=zh (fun (W:World) (hb:Below w.heap.size w W)=>(ha.below hb));have K3:=zh hm.lt;have gI:=zh hS;have nX:=zh eg;clear he0 hm ha hS he hk
 go_enter Tryz.func20,Tryz.ntmps20
 go_wp2_with fail;refine hE.mono ?_;rintro e w1 ⟨rfl,hb1⟩;have HA2:=HA.out w1 hb1;clear hE HA;go_wp2_with fail;refine HA2.mono ?_;rintro e w2 ⟨gb,o,rfl,hpt,hb2⟩;have eP:=hb1.trans (hb2.mono hb1.size);obtain⟨_,_,t2,_⟩:=((HM.out w2 eP).np hpt (Tr.aj nX.out)).cells;rw[show (Tr.bU g av h nd).av=av h from rfl] at t2;have hgw:gb<w.heap.size:=(K3.out gb hpt.foot).2;have yE:=zh hpt;have HI:=zh (nY _ nd.attrs nm w2 (HAT.out w2 eP h nd nX.out) hl);clear HA2 hb1 hb2 hpt;go_wp2_with fail;refine HI.out.mono ?_;rintro e w3 ⟨rfl,hb3⟩;have dA:=eP.trans (hb3.mono eP.size);clear HI eP hb3;have hai:yc nd.attrs nm = -1:=by unfold yc;rw[if_neg hcase]
 rw[hai];go_wp2_with fail;go_ret2;exact⟨rfl,dA⟩
theorem EL (base B:Nat) (b s root h:Int) (live n:Nat) (g:Tr.G) (av:Int→Tr.Sl) (fr:List Nat) (vs vf:Value) (nd:Tr.GN) (nm:ByteArray) (w:World) (hm:TV base w B b s vs n (Tr.raw g av) vf fr live root) (hS:Sound b s n (Tr.raw g av) fr live) (ha:AT w g av) (hk:∀ x m,g x=some m→m.kind≠0) (eg:g h=some nd) (he:nd.kind=2) (hl:nd.attrs.length≤1000) (hcase:oV nd.attrs nm<nd.attrs.length):
  Calls Tryz.prog 20 #[.pointer (some ⟨B,0,none⟩),.int .i64 h,.string nm] w fun e w'=>∃ r sl,e=.returned (.tuple #[r,.int .i64 0])∧bG w.heap.size w' r [jH h nm (lD nd.attrs nm) true]∧
   TV base w' B b s vs n (Tr.raw (Tr.cB g h fun n=>{ n with attrs:=jT n.attrs nm }) (Tr.eT av h sl)) vf fr live root∧Sound b s n (Tr.raw (Tr.cB g h fun n=>{ n with attrs:=jT n.attrs nm }) (Tr.eT av h sl)) fr live∧
   AT w' (Tr.cB g h fun n=>{ n with attrs:=jT n.attrs nm }) (Tr.eT av h sl)∧aB w w' (aD B vs vf) (aD B vs vf):=by
 have hE:=iW base B b s root h live n g av fr vs vf w hm hS ((bC hS (h:=h) (by rw[aI,eg];rfl)).1) hk;have he0:fC g h=0:=by unfold fC;rw[eg];exact if_pos he
 rw[he0] at hE;have HM:=zh (fun (W:World) (hb:Below w.heap.size w W)=>hm.below hb);have HA:=zh (fun (W:World) (hb:Below w.heap.size w W)=>gZ base B b s root h live n _ fr vs vf _ W (hm.below hb) hS (Tr.aj eg));have HAT:=zh (fun (W:World) (hb:Below w.heap.size w W)=>(ha.below hb));have K3:=zh hm.lt;have gI:=zh hS;have nX:=zh eg;clear he0 hm ha hS he hk
 go_enter Tryz.func20,Tryz.ntmps20
 go_wp2_with fail;refine hE.mono ?_;rintro e w1 ⟨rfl,hb1⟩;have HA2:=HA.out w1 hb1;clear hE HA;go_wp2_with fail;refine HA2.mono ?_;rintro e w2 ⟨gb,o,rfl,hpt,hb2⟩;have eP:=hb1.trans (hb2.mono hb1.size);obtain⟨_,_,t2,_⟩:=((HM.out w2 eP).np hpt (Tr.aj nX.out)).cells;rw[show (Tr.bU g av h nd).av=av h from rfl] at t2;have hgw:gb<w.heap.size:=(K3.out gb hpt.foot).2;have yE:=zh hpt;have HI:=zh (nY _ nd.attrs nm w2 (HAT.out w2 eP h nd nX.out) hl);clear HA2 hb1 hb2 hpt;go_wp2_with fail;refine HI.out.mono ?_;rintro e w3 ⟨rfl,hb3⟩;have dA:=eP.trans (hb3.mono eP.size);clear HI eP hb3;obtain⟨l1,p,l2,hL,hd1⟩:∃ l1 p l2,nd.attrs=l1++p::l2∧l1.length=oV nd.attrs nm:=by
  refine⟨nd.attrs.take (oV nd.attrs nm),nd.attrs[oV nd.attrs nm],nd.attrs.drop (oV nd.attrs nm+1),?_,by rw[List.length_take];omega⟩;rw[←List.drop_eq_getElem_cons hcase,List.take_append_drop]
 obtain⟨d,hd⟩:=eX (l1.length)
 obtain⟨bb,hbb⟩:=eX (l2.length)
 have hai:yc nd.attrs nm=(d:Int):=by unfold yc;rw[if_pos hcase,←hd1,hd]
 have hget:nd.attrs[d]?=some p:=by rw[hL,←hd];simp
 have hdrop:jT nd.attrs nm=l1++l2:=by unfold jT;rw[←hd1,hL,List.eraseIdx_append_of_length_le (Nat.le_refl _),Nat.sub_self];rfl
 have hold:lD nd.attrs nm=p.2:=by unfold lD;rw[←hd1,hd,hget]
 have hlen:nd.attrs.length=d+1+bb:=by rw[hL,List.length_append,List.length_cons];omega
 rw[hai];have pz:TR w3 0 95 2 (av h).v nd.attrs.length (fF nd.attrs):=HAT.out w3 dA h nd nX.out;have Ta:(av h).n=d+1+bb:=by
  obtain⟨A',c',e⟩:=pz.form;unfold Tr.Sl.v at e;injection e with _ e _;rw[e,hlen]
 obtain⟨cp,hcp⟩:=eX ((av h).c)
 have hv3:(av h).v=.slice (av h).a (d+1+bb) cp:=by unfold Tr.Sl.v;rw[Ta,hcp]
 rw[hv3,hlen] at pz;have hcap:=pz.le;obtain⟨ga,oa,hA,_⟩:=pz.cells (by omega);have HDR:=zh (And.intro hdrop (And.intro hold (And.intro hL (And.intro hd (And.intro hbb (And.intro hlen hv3))))));have hreads:∀ W,Below w.heap.size w W→W.cell? ⟨gb,o+2,none⟩=some (.slice (some ⟨ga,oa,none⟩) (d+1+bb) cp)∧W.cell? ⟨ga,oa+d*2+1,none⟩=some (.string p.2)∧TR W 0 95 2 (.slice (some ⟨ga,oa,none⟩) (d+1+bb) cp) (d+1+bb) (fF nd.attrs):=fun W hb=>by
  obtain⟨_,_,c2,_⟩:=((HM.out W hb).np yE.out (Tr.aj nX.out)).cells;have hr:TR W 0 95 2 (av h).v nd.attrs.length (fF nd.attrs):=HAT.out W hb h nd nX.out;rw[show (Tr.bU g av h nd).av=av h from rfl,Ta,hcp,hA] at c2;rw[hv3,hlen,hA] at hr;refine⟨c2,?_,hr⟩;rw[Nat.add_assoc];exact hr.cellAt _ _ (by omega) (je _ _ _ hget).2
 have RP:=zh hreads;obtain⟨t3,a3,_⟩:=hreads w3 dA;have q0:(0:Int)≤(d:Int):=by omega
 have q1:(d:Int)<(d:Int)+1+(bb:Int):=by omega
 have q1b:(d:Int)<((d+1+bb:Nat):Int):=by omega
 obtain⟨K4,VJ⟩:=eX (w3.alloc (.cells #[.int .i64 0,.int .i64 0,.int .i64 0,.int .i64 0,.int .i64 0,.int .i64 0,.string ⟨#[]⟩,.string ⟨#[]⟩,.bool false,.int .i64 0,.int .i64 0] 48))
 have VK:Below w3.heap.size w3 K4:=gP VJ;have mM:Whole K4 w3.heap.size #[.int .i64 0,.int .i64 0,.int .i64 0,.int .i64 0,.int .i64 0,.int .i64 0,.string ⟨#[]⟩,.string ⟨#[]⟩,.bool false,.int .i64 0,.int .i64 0] 48:=by rw[←VJ];exact Whole.new w3 _ _
 have Nu:=dA.trans (VK.mono dA.size);have hs3:w.heap.size≤w3.heap.size:=dA.size;have y0:K4.cell? ⟨w3.heap.size,0,none⟩=some (.int .i64 0):=mM.cell 0;have AU:=mM.free 0;have y1:K4.cell? ⟨w3.heap.size,1,none⟩=some (.int .i64 0):=mM.cell 1;have AV:=mM.free 1;have y2:K4.cell? ⟨w3.heap.size,2,none⟩=some (.int .i64 0):=mM.cell 2;have AX:=mM.free 2;have y3:K4.cell? ⟨w3.heap.size,3,none⟩=some (.int .i64 0):=mM.cell 3;have AY:=mM.free 3;have y4:K4.cell? ⟨w3.heap.size,4,none⟩=some (.int .i64 0):=mM.cell 4;have AZ:=mM.free 4;have y5:K4.cell? ⟨w3.heap.size,5,none⟩=some (.int .i64 0):=mM.cell 5;have Ba:=mM.free 5;have y6:K4.cell? ⟨w3.heap.size,6,none⟩=some (.string ⟨#[]⟩):=mM.cell 6;have Bb:=mM.free 6;have y7:K4.cell? ⟨w3.heap.size,7,none⟩=some (.string ⟨#[]⟩):=mM.cell 7;have Bc:=mM.free 7;have y8:K4.cell? ⟨w3.heap.size,8,none⟩=some (.bool false):=mM.cell 8;have Bd:=mM.free 8;have y9:K4.cell? ⟨w3.heap.size,9,none⟩=some (.int .i64 0):=mM.cell 9;have EM:=mM.free 9;have wH:K4.cell? ⟨w3.heap.size,10,none⟩=some (.int .i64 0):=mM.cell 10;have rF:=mM.free 10;obtain⟨w4,hw4,bg,g4⟩:=kG mM (.int .i64 3) (.int .i64 h) (.int .i64 0) (.int .i64 0) (.int .i64 0) (.int .i64 0) (.string nm) (.string p.2) (.bool true) (.int .i64 0) (.int .i64 0);have bR:Below w.heap.size w w4:=Nu.grown g4 Nu.size (fun j hj=>by simp at hj;omega);have lW:Below w.heap.size w w4.drew:=bR.trans ((aZ _ w4).mono bR.size);have Nv:=bg.below (aZ _ w4) bg.lt;obtain⟨t4,_,r4⟩:=hreads w4.drew lW;have VL:w3.heap.size<w4.heap.size:=bg.lt;obtain⟨w5,fU⟩:=eX (w4.drew.alloc (.cells #[.slice (some ⟨ga,oa,none⟩) d cp,.slice (if cp=d+1 then some ⟨ga,oa,none⟩ else some ⟨ga,oa+(d+1)*2,none⟩) bb (cp - (d+1))] 40))
 have eY:Below w4.drew.heap.size w4.drew w5:=by rw[←fU];exact (Below.refl _ w4.drew).alloc (Nat.le_refl _) _
 have hS5:Whole w5 w4.heap.size #[.slice (some ⟨ga,oa,none⟩) d cp,.slice (if cp=d+1 then some ⟨ga,oa,none⟩ else some ⟨ga,oa+(d+1)*2,none⟩) bb (cp - (d+1))] 40:=by rw[←fU];exact Whole.new w4.drew _ _
 have dZ:=lW.trans (eY.mono lW.size);have r5:=(hreads w5 dZ).2.2;rw[hL] at r5;obtain⟨ra,rb⟩:=r5.Nr hd hbb;have hHC:=Ia w4.heap.size _ _ l1 l2 w5 (hS5.cell 0) (hS5.cell 1) hS5.lt (by show TR _ _ _ _ _ l1.length _;rw[hd];exact ra) (by show TR _ _ _ _ _ l2.length _;rw[hbb];exact rb) (by omega) (by omega);have HC:=zh hHC;have dR:=Nv.below eY Nv.lt;have gL:=zh dR;have Ib:=zh dZ;have hdc:(d:Int)≤(cp:Int):=by omega
 have hi2:(d:Int)+1≤((d+1+bb:Nat):Int):=by omega
 have hi3:(0:Int)≤(d:Int)+1:=by omega
 have VN:(d:Int)+1≤(d:Int)+1+(bb:Int):=by omega
 have ht1':((d:Int)+1).toNat=d+1:=by omega
 have hs2:IntKind.i64.wrap ((d:Int)+1)=(d:Int)+1:=by rw[IntKind.wrap_i64];omega
 have q4:¬ (d:Int)<0:=by omega
 clear pz hv3 Ta hcp hA hreads mM bg Nv dR g4 VK Nu dA bR lW eY dZ hS5 r4 r5 ra rb hL hd1 hget hdrop hold hlen hHC hai hcase hd hbb;go_wp2_with fail;(try rw[hw4]);go_wp2_with fail;refine wp_region_noPanic ?_;refine wp_region_held_drew (S:=(fun _=>True)) (by kernel_rfl) ?_ (fun ah=>?_)
 ·exact trivial
 refine bE [0,1,2,3,5,7,8,9,11,12] ?_;iterate 10 (refine jf ?_;try simp only[pS])
 refine bF ?_;apply yU
 ·intro KEY;refine yg 4 10 (fun K hK=>?_) fun K hK=>?_
  ·go_simp;refine hK.out _ _ (trivial) fun ah=>?_;clear hK K;(try simp only[pS]);refine bE [6] ?_
   (refine jf ?_;try simp only[pS])
   refine bF ?_;refine bI 10 fun K hK=>?_;go_simp;refine hK.out _ _ (trivial) fun ah=>?_;clear hK K;(try simp only[pS]);refine bE [13] ?_
   (refine jf ?_;try simp only[pS])
   refine bF ?_;exact KEY
  ·go_simp;refine hK.out _ _ (trivial) fun ah=>?_;clear hK K;(try simp only[pS]);refine bE [13] ?_
   (refine jf ?_;try simp only[pS])
   refine bF ?_;refine bI 4 fun K hK=>?_;go_simp;refine hK.out _ _ (trivial) fun ah=>?_;clear hK K;(try simp only[pS]);refine bE [6] ?_
   (refine jf ?_;try simp only[pS])
   refine bF ?_;exact KEY
 refine bI 14 fun K hK=>?_;go_simp;(try rw[fU]);refine hK.out _ _ (trivial) fun ah=>?_;clear hK K;(try simp only[pS]);refine bI 15 fun K hK=>?_;go_simp;refine HC.out.mono ?_;rintro e w6 ⟨v6,rfl,o6,hb6⟩;have fQ:=gL.out.below hb6 gL.out.lt;have iE:=Ib.out.trans (hb6.mono Ib.out.size);obtain⟨sl,rfl,-⟩:=VO o6;have o6':AR w6 0 sl.v (jT nd.attrs nm):=by rw[HDR.out.1];exact o6.zero
 obtain⟨qQ,qR,Tc,yh⟩:=(HM.out w6 iE).mY gI.out (HAT.out w6 iE) yE.out nX.out (fun n=>jT n.attrs nm) sl o6';have f6:=(((HM.out w6 iE).np yE.out (Tr.aj nX.out)) 2 (by omega)).2;have t6:=(RP.out w6 iE).1;obtain⟨w7,hw7⟩:=eX (w6.setCell ⟨gb,o+2,none⟩ sl.v)
 rw[hw7] at qQ Tc yh;have g7:w6.grownBy w7 (some gb):=by rw[←hw7];exact aK (au (Below.refl w6.heap.size w6) _) _ _
 have aP:=fQ.grown g7 (fun e=>by injection e with e;omega);have pY:=(Below.refl _ w7).alloc (Nat.le_refl _) (.cells #[.int .i64 3,.int .i64 h,.int .i64 0,.int .i64 0,.int .i64 0,.int .i64 0,.string nm,.string p.2,.bool true,.int .i64 0,.int .i64 0] 48);have bf:=zh (And.intro (mO w7 (jH h nm p.2 true) w.heap.size (Nat.le_trans iE.size g7.size)) (And.intro (qQ.below pY) (And.intro qR (And.intro (Tc.below pY) (((aB.of_below iE).trans yh).trans (.of_below pY))))));have s0:w7.cell? ⟨w3.heap.size,0,none⟩=some (.int .i64 3):=aP.cell 0;have VP:=aP.free 0;have s1:w7.cell? ⟨w3.heap.size,1,none⟩=some (.int .i64 h):=aP.cell 1;have VQ:=aP.free 1;have s2:w7.cell? ⟨w3.heap.size,2,none⟩=some (.int .i64 0):=aP.cell 2;have VR:=aP.free 2;have s3:w7.cell? ⟨w3.heap.size,3,none⟩=some (.int .i64 0):=aP.cell 3;have VT:=aP.free 3;have s4:w7.cell? ⟨w3.heap.size,4,none⟩=some (.int .i64 0):=aP.cell 4;have VU:=aP.free 4;have s5:w7.cell? ⟨w3.heap.size,5,none⟩=some (.int .i64 0):=aP.cell 5;have VW:=aP.free 5;have s6:w7.cell? ⟨w3.heap.size,6,none⟩=some (.string nm):=aP.cell 6;have VX:=aP.free 6;have s7:w7.cell? ⟨w3.heap.size,7,none⟩=some (.string p.2):=aP.cell 7;have VY:=aP.free 7;have s8:w7.cell? ⟨w3.heap.size,8,none⟩=some (.bool true):=aP.cell 8;have VZ:=aP.free 8;have s9:w7.cell? ⟨w3.heap.size,9,none⟩=some (.int .i64 0):=aP.cell 9;have V5:=aP.free 9;have s10:w7.cell? ⟨w3.heap.size,10,none⟩=some (.int .i64 0):=aP.cell 10;have Nw:=aP.free 10;clear qQ qR Tc yh pY aP fQ g7 o6 o6' hb6 iE;refine hK.out _ _ (trivial) fun ah=>?_;clear hK K;(try simp only[pS]);refine bE [16,17] ?_;iterate 2 (refine jf ?_;try simp only[pS])
 refine bF ?_;refine bI 18 fun K hK=>?_;go_simp;(try rw[hw7]);refine hK.out _ _ (trivial) fun ah=>?_;clear hK K;(try simp only[pS]);refine gq ?_;go_wp2_with fail;all_goals go_ret2
 all_goals
  obtain⟨z1,z2,z3,z4,z5⟩:=bf.out;refine⟨_,rfl,?_,sl,z2,z3,z4,z5⟩;rw[HDR.out.2.1];exact z1
end
end Go.Proofs.YtnbaadpgbcklaaaGreatDoor
