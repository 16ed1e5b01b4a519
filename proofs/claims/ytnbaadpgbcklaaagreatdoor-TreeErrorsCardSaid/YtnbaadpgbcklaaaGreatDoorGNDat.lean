/- Part of a proof about trees: NDat. -/
import Derived.Test.YtnbaadpgbcklaaaGreatDoorGNRsa
set_option linter.unusedVariables false
set_option linter.unusedSimpArgs false
set_option linter.unusedSectionVars false
set_option maxHeartbeats 2000000
set_option maxRecDepth 100000
namespace Go.Proofs.YtnbaadpgbcklaaaGreatDoor
section
open Go.RowKit
def lT (l:List (ByteArray×ByteArray)) (nm:ByteArray):List (ByteArray×ByteArray):=l.eraseIdx (oZ l nm)
theorem TR.Mq {w:World} {base g o d b cp:Nat} {e:TypeId} {l1 l2:List (ByteArray×ByteArray)} {p:ByteArray×ByteArray} (h:TR w base e 2 (.slice (some ⟨g,o,none⟩) (d+1+b) cp) (d+1+b) (fM (l1++p::l2))) (h1:l1.length=d) (h2:l2.length=b):
  TR w base e 2 (.slice (some ⟨g,o,none⟩) d cp) d (fM l1)∧TR w base e 2 (.slice (if cp=d+1 then some ⟨g,o,none⟩ else some ⟨g,o+(d+1)*2,none⟩) b (cp - (d+1))) b (fM l2):=by
 have a1:=h.head (k:=d) (by omega);have a2:=h.tail (k:=d+1) (by omega);rw[Mr,List.take_left' h1] at a1;rw[Ms,show l1++p::l2=(l1++[p])++l2 from by simp,List.drop_left' (by rw[List.length_append,h1];rfl),Nat.add_sub_cancel_left] at a2;have et:tailV (.slice (some ⟨g,o,none⟩) (d+1+b) cp) (d+1) 2=.slice (if cp=d+1 then some ⟨g,o,none⟩ else some ⟨g,o+(d+1)*2,none⟩) b (cp - (d+1)):=by
  unfold tailV;simp only[Option.map_some,Addr.add_lit,Nat.add_sub_cancel_left]
 rw[et] at a2;exact⟨a1,a2⟩
theorem yM (base B:Nat) (b s root h:Int) (live n:Nat) (g:Tr.G) (av:Int→Tr.Sl) (fr:List Nat) (vs vf:Value) (nm:ByteArray) (w:World) (hm:TV base w B b s vs n (Tr.raw g av) vf fr live root) (hS:Sound b s n (Tr.raw g av) fr live) (hh:lU h) (hk:∀ x m,g x=some m→m.kind≠0) (he:eX g h≠0):
  Calls Tryz.prog 20 #[.pointer (some ⟨B,0,none⟩),.int .i64 h,.string nm] w fun e w'=>e=.returned (nG (eX g h))∧Below w.heap.size w w':=by
 have hE:=iO base B b s root h live n g av fr vs vf w hm hS hh hk;obtain⟨z,hz⟩:∃ z,eX g h=z:=⟨_,rfl⟩
 rw[hz] at hE he ⊢;have q:=bne_true he;clear hm hz
 go_enter Tryz.func20,Tryz.ntmps20
 go_wp2_with fail;refine hE.mono ?_;rintro e w1 ⟨rfl,hb⟩;clear hE;go_wp2_with fail;go_ret2;exact⟨rfl,hb⟩
theorem Ey (base B:Nat) (b s root h:Int) (live n:Nat) (g:Tr.G) (av:Int→Tr.Sl) (fr:List Nat) (vs vf:Value) (nd:Tr.GN) (nm:ByteArray) (w:World) (hm:TV base w B b s vs n (Tr.raw g av) vf fr live root) (hS:Sound b s n (Tr.raw g av) fr live) (ha:AT w g av) (hk:∀ x m,g x=some m→m.kind≠0) (eg:g h=some nd) (he:nd.kind=2) (hl:nd.attrs.length≤1000) (hcase:¬ oZ nd.attrs nm<nd.attrs.length):
  Calls Tryz.prog 20 #[.pointer (some ⟨B,0,none⟩),.int .i64 h,.string nm] w fun e w'=>e=.returned (nG 0)∧Below w.heap.size w w':=by
 have hE:=iO base B b s root h live n g av fr vs vf w hm hS ((bR hS (h:=h) (by rw[aS,eg];rfl)).1) hk;have he0:eX g h=0:=by unfold eX;rw[eg];exact if_pos he
 rw[he0] at hE;have HM:=zh (fun (W:World) (hb:Below w.heap.size w W)=>hm.below hb);have HA:=zh (fun (W:World) (hb:Below w.heap.size w W)=>ig base B b s root h live n _ fr vs vf _ W (hm.below hb) hS (Tr.ah eg));have HAT:=zh (fun (W:World) (hb:Below w.heap.size w W)=>(ha.below hb));have Kh:=zh hm.lt;have gW:=zh hS;have qb:=zh eg;clear he0 hm ha hS he hk
 go_enter Tryz.func20,Tryz.ntmps20
 go_wp2_with fail;refine hE.mono ?_;rintro e w1 ⟨rfl,hb1⟩;have HA2:=HA.out w1 hb1;clear hE HA;go_wp2_with fail;refine HA2.mono ?_;rintro e w2 ⟨gb,o,rfl,hpt,hb2⟩;have fu:=hb1.trans (hb2.mono hb1.size);obtain⟨_,_,t2,_⟩:=((HM.out w2 fu).np hpt (Tr.ah qb.out)).cells;rw[show (Tr.fF g av h nd).av=av h from rfl] at t2;have hgw:gb<w.heap.size:=(Kh.out gb hpt.foot).2;have yx:=zh hpt;have HI:=zh (om _ nd.attrs nm w2 (HAT.out w2 fu h nd qb.out) hl);clear HA2 hb1 hb2 hpt;go_wp2_with fail;refine HI.out.mono ?_;rintro e w3 ⟨rfl,hb3⟩;have dB:=fu.trans (hb3.mono fu.size);clear HI fu hb3;have hai:yg nd.attrs nm = -1:=by unfold yg;rw[if_neg hcase]
 rw[hai];go_wp2_with fail;go_ret2;exact⟨rfl,dB⟩
theorem Ez (base B:Nat) (b s root h:Int) (live n:Nat) (g:Tr.G) (av:Int→Tr.Sl) (fr:List Nat) (vs vf:Value) (nd:Tr.GN) (nm:ByteArray) (w:World) (hm:TV base w B b s vs n (Tr.raw g av) vf fr live root) (hS:Sound b s n (Tr.raw g av) fr live) (ha:AT w g av) (hk:∀ x m,g x=some m→m.kind≠0) (eg:g h=some nd) (he:nd.kind=2) (hl:nd.attrs.length≤1000) (hcase:oZ nd.attrs nm<nd.attrs.length):
  Calls Tryz.prog 20 #[.pointer (some ⟨B,0,none⟩),.int .i64 h,.string nm] w fun e w'=>∃ r sl,e=.returned (.tuple #[r,.int .i64 0])∧bO w.heap.size w' r [jE h nm (kU nd.attrs nm) true]∧
   TV base w' B b s vs n (Tr.raw (Tr.dD g h fun n=>{ n with attrs:=lT n.attrs nm }) (Tr.fC av h sl)) vf fr live root∧Sound b s n (Tr.raw (Tr.dD g h fun n=>{ n with attrs:=lT n.attrs nm }) (Tr.fC av h sl)) fr live∧
   AT w' (Tr.dD g h fun n=>{ n with attrs:=lT n.attrs nm }) (Tr.fC av h sl)∧ay w w' (aD B vs vf) (aD B vs vf):=by
 have hE:=iO base B b s root h live n g av fr vs vf w hm hS ((bR hS (h:=h) (by rw[aS,eg];rfl)).1) hk;have he0:eX g h=0:=by unfold eX;rw[eg];exact if_pos he
 rw[he0] at hE;have HM:=zh (fun (W:World) (hb:Below w.heap.size w W)=>hm.below hb);have HA:=zh (fun (W:World) (hb:Below w.heap.size w W)=>ig base B b s root h live n _ fr vs vf _ W (hm.below hb) hS (Tr.ah eg));have HAT:=zh (fun (W:World) (hb:Below w.heap.size w W)=>(ha.below hb));have Kh:=zh hm.lt;have gW:=zh hS;have qb:=zh eg;clear he0 hm ha hS he hk
 go_enter Tryz.func20,Tryz.ntmps20
 go_wp2_with fail;refine hE.mono ?_;rintro e w1 ⟨rfl,hb1⟩;have HA2:=HA.out w1 hb1;clear hE HA;go_wp2_with fail;refine HA2.mono ?_;rintro e w2 ⟨gb,o,rfl,hpt,hb2⟩;have fu:=hb1.trans (hb2.mono hb1.size);obtain⟨_,_,t2,_⟩:=((HM.out w2 fu).np hpt (Tr.ah qb.out)).cells;rw[show (Tr.fF g av h nd).av=av h from rfl] at t2;have hgw:gb<w.heap.size:=(Kh.out gb hpt.foot).2;have yx:=zh hpt;have HI:=zh (om _ nd.attrs nm w2 (HAT.out w2 fu h nd qb.out) hl);clear HA2 hb1 hb2 hpt;go_wp2_with fail;refine HI.out.mono ?_;rintro e w3 ⟨rfl,hb3⟩;have dB:=fu.trans (hb3.mono fu.size);clear HI fu hb3;obtain⟨l1,p,l2,hL,hd1⟩:∃ l1 p l2,nd.attrs=l1++p::l2∧l1.length=oZ nd.attrs nm:=by
  refine⟨nd.attrs.take (oZ nd.attrs nm),nd.attrs[oZ nd.attrs nm],nd.attrs.drop (oZ nd.attrs nm+1),?_,by rw[List.length_take];omega⟩;rw[←List.drop_eq_getElem_cons hcase,List.take_append_drop]
 obtain⟨d,hd⟩:∃ d,l1.length=d:=⟨_,rfl⟩
 obtain⟨bb,hbb⟩:∃ bb,l2.length=bb:=⟨_,rfl⟩
 have hai:yg nd.attrs nm=(d:Int):=by unfold yg;rw[if_pos hcase,←hd1,hd]
 have hget:nd.attrs[d]?=some p:=by rw[hL,←hd];simp
 have hdrop:lT nd.attrs nm=l1++l2:=by unfold lT;rw[←hd1,hL,List.eraseIdx_append_of_length_le (Nat.le_refl _),Nat.sub_self];rfl
 have hold:kU nd.attrs nm=p.2:=by unfold kU;rw[←hd1,hd,hget]
 have hlen:nd.attrs.length=d+1+bb:=by rw[hL,List.length_append,List.length_cons];omega
 rw[hai];have pz:TR w3 0 95 2 (av h).v nd.attrs.length (fM nd.attrs):=HAT.out w3 dB h nd qb.out;have RG:(av h).n=d+1+bb:=by
  obtain⟨A',c',e⟩:=pz.form;unfold Tr.Sl.v at e;injection e with _ e _;rw[e,hlen]
 obtain⟨cp,hcp⟩:∃ cp,(av h).c=cp:=⟨_,rfl⟩
 have hv3:(av h).v=.slice (av h).a (d+1+bb) cp:=by unfold Tr.Sl.v;rw[RG,hcp]
 rw[hv3,hlen] at pz;have hcap:=pz.le;obtain⟨ga,oa,hA,_⟩:=pz.cells (by omega);have HDR:=zh (And.intro hdrop (And.intro hold (And.intro hL (And.intro hd (And.intro hbb (And.intro hlen hv3))))));have hreads:∀ W,Below w.heap.size w W→W.cell? ⟨gb,o+2,none⟩=some (.slice (some ⟨ga,oa,none⟩) (d+1+bb) cp)∧W.cell? ⟨ga,oa+d*2+1,none⟩=some (.string p.2)∧TR W 0 95 2 (.slice (some ⟨ga,oa,none⟩) (d+1+bb) cp) (d+1+bb) (fM nd.attrs):=fun W hb=>by
  obtain⟨_,_,c2,_⟩:=((HM.out W hb).np yx.out (Tr.ah qb.out)).cells;have hr:TR W 0 95 2 (av h).v nd.attrs.length (fM nd.attrs):=HAT.out W hb h nd qb.out;rw[show (Tr.fF g av h nd).av=av h from rfl,RG,hcp,hA] at c2;rw[hv3,hlen,hA] at hr;refine⟨c2,?_,hr⟩;rw[Nat.add_assoc];exact hr.cellAt _ _ (by omega) (gH _ _ _ hget).2
 have QI:=zh hreads;obtain⟨t3,a3,_⟩:=hreads w3 dB;have q0:(0:Int)≤(d:Int):=by omega
 have q1:(d:Int)<(d:Int)+1+(bb:Int):=by omega
 have q1b:(d:Int)<((d+1+bb:Nat):Int):=by omega
 obtain⟨GQ,UL⟩:∃ GQ,w3.alloc (.cells #[.int .i64 0,.int .i64 0,.int .i64 0,.int .i64 0,.int .i64 0,.int .i64 0,.string ⟨#[]⟩,.string ⟨#[]⟩,.bool false,.int .i64 0,.int .i64 0] 48)=GQ:=⟨_,rfl⟩
 have UM:Below w3.heap.size w3 GQ:=eP UL;have mK:Whole GQ w3.heap.size #[.int .i64 0,.int .i64 0,.int .i64 0,.int .i64 0,.int .i64 0,.int .i64 0,.string ⟨#[]⟩,.string ⟨#[]⟩,.bool false,.int .i64 0,.int .i64 0] 48:=by rw[←UL];exact Whole.new w3 _ _
 have Mt:=dB.trans (UM.mono dB.size);have hs3:w.heap.size≤w3.heap.size:=dB.size;have y0:GQ.cell? ⟨w3.heap.size,0,none⟩=some (.int .i64 0):=mK.cell 0;have Cy:=mK.free 0;have y1:GQ.cell? ⟨w3.heap.size,1,none⟩=some (.int .i64 0):=mK.cell 1;have Cz:=mK.free 1;have y2:GQ.cell? ⟨w3.heap.size,2,none⟩=some (.int .i64 0):=mK.cell 2;have CB:=mK.free 2;have y3:GQ.cell? ⟨w3.heap.size,3,none⟩=some (.int .i64 0):=mK.cell 3;have CF:=mK.free 3;have y4:GQ.cell? ⟨w3.heap.size,4,none⟩=some (.int .i64 0):=mK.cell 4;have CG:=mK.free 4;have y5:GQ.cell? ⟨w3.heap.size,5,none⟩=some (.int .i64 0):=mK.cell 5;have CJ:=mK.free 5;have y6:GQ.cell? ⟨w3.heap.size,6,none⟩=some (.string ⟨#[]⟩):=mK.cell 6;have CK:=mK.free 6;have y7:GQ.cell? ⟨w3.heap.size,7,none⟩=some (.string ⟨#[]⟩):=mK.cell 7;have CO:=mK.free 7;have y8:GQ.cell? ⟨w3.heap.size,8,none⟩=some (.bool false):=mK.cell 8;have CP:=mK.free 8;have y9:GQ.cell? ⟨w3.heap.size,9,none⟩=some (.int .i64 0):=mK.cell 9;have EA:=mK.free 9;have wJ:GQ.cell? ⟨w3.heap.size,10,none⟩=some (.int .i64 0):=mK.cell 10;have rH:=mK.free 10;obtain⟨w4,hw4,bI,g4⟩:=jZ mK (.int .i64 3) (.int .i64 h) (.int .i64 0) (.int .i64 0) (.int .i64 0) (.int .i64 0) (.string nm) (.string p.2) (.bool true) (.int .i64 0) (.int .i64 0);have bY:Below w.heap.size w w4:=Mt.grown g4 Mt.size (fun j hj=>by simp at hj;omega);have uD:Below w.heap.size w w4.drew:=bY.trans ((bB _ w4).mono bY.size);have Mv:=bI.below (bB _ w4) bI.lt;obtain⟨t4,_,r4⟩:=hreads w4.drew uD;have UN:w3.heap.size<w4.heap.size:=bI.lt;obtain⟨w5,eH⟩:∃ w5,w4.drew.alloc (.cells #[.slice (some ⟨ga,oa,none⟩) d cp,.slice (if cp=d+1 then some ⟨ga,oa,none⟩ else some ⟨ga,oa+(d+1)*2,none⟩) bb (cp - (d+1))] 40)=w5:=⟨_,rfl⟩
 have fG:Below w4.drew.heap.size w4.drew w5:=by rw[←eH];exact (Below.refl _ w4.drew).alloc (Nat.le_refl _) _
 have hS5:Whole w5 w4.heap.size #[.slice (some ⟨ga,oa,none⟩) d cp,.slice (if cp=d+1 then some ⟨ga,oa,none⟩ else some ⟨ga,oa+(d+1)*2,none⟩) bb (cp - (d+1))] 40:=by rw[←eH];exact Whole.new w4.drew _ _
 have eu:=uD.trans (fG.mono uD.size);have r5:=(hreads w5 eu).2.2;rw[hL] at r5;obtain⟨ra,rb⟩:=r5.Mq hd hbb;have hHC:=GR w4.heap.size _ _ l1 l2 w5 (hS5.cell 0) (hS5.cell 1) hS5.lt (by show TR _ _ _ _ _ l1.length _;rw[hd];exact ra) (by show TR _ _ _ _ _ l2.length _;rw[hbb];exact rb) (by omega) (by omega);have HC:=zh hHC;have dP:=Mv.below fG Mv.lt;have eT:=zh dP;have GU:=zh eu;have hdc:(d:Int)≤(cp:Int):=by omega
 have hi2:(d:Int)+1≤((d+1+bb:Nat):Int):=by omega
 have hi3:(0:Int)≤(d:Int)+1:=by omega
 have UO:(d:Int)+1≤(d:Int)+1+(bb:Int):=by omega
 have ht1':((d:Int)+1).toNat=d+1:=by omega
 have hs2:IntKind.i64.wrap ((d:Int)+1)=(d:Int)+1:=by rw[IntKind.wrap_i64];omega
 have q4:¬ (d:Int)<0:=by omega
 clear pz hv3 RG hcp hA hreads mK bI Mv dP g4 UM Mt dB bY uD fG eu hS5 r4 r5 ra rb hL hd1 hget hdrop hold hlen hHC hai hcase hd hbb;go_wp2_with fail;(try rw[hw4]);go_wp2_with fail;refine wp_region_noPanic ?_;refine wp_region_held_drew (S:=(fun _=>True)) (by kernel_rfl) ?_ (fun hHeld=>?_)
 ·exact trivial
 refine bD [0,1,2,3,5,7,8,9,11,12] ?_;iterate 10 (refine iZ ?_;try simp only[pS])
 refine bE ?_;apply Bq
 ·intro KEY;refine wpAnyH_ready (rs:=[4,10]) (by kernel_rfl) (by simp) ?_;refine AllReadyH.cons rfl (fun K hK=>?_) (AllReadyH.cons rfl (fun K hK=>?_) AllReadyH.nil)
  ·go_simp;refine hK.out _ _ (trivial) fun hHeld=>?_;clear hK K;(try simp only[pS]);refine bD [6] ?_
   (refine iZ ?_;try simp only[pS])
   refine bE ?_;refine bL 10 fun K hK=>?_;go_simp;refine hK.out _ _ (trivial) fun hHeld=>?_;clear hK K;(try simp only[pS]);refine bD [13] ?_
   (refine iZ ?_;try simp only[pS])
   refine bE ?_;exact KEY
  ·go_simp;refine hK.out _ _ (trivial) fun hHeld=>?_;clear hK K;(try simp only[pS]);refine bD [13] ?_
   (refine iZ ?_;try simp only[pS])
   refine bE ?_;refine bL 4 fun K hK=>?_;go_simp;refine hK.out _ _ (trivial) fun hHeld=>?_;clear hK K;(try simp only[pS]);refine bD [6] ?_
   (refine iZ ?_;try simp only[pS])
   refine bE ?_;exact KEY
 refine bL 14 fun K hK=>?_;go_simp;(try rw[eH]);refine hK.out _ _ (trivial) fun hHeld=>?_;clear hK K;(try simp only[pS]);refine bL 15 fun K hK=>?_;go_simp;refine HC.out.mono ?_;rintro e w6 ⟨v6,rfl,o6,hb6⟩;have gI:=eT.out.below hb6 eT.out.lt;have iC:=GU.out.trans (hb6.mono GU.out.size);obtain⟨sl,rfl,-⟩:=UQ o6;have o6':AR w6 0 sl.v (lT nd.attrs nm):=by rw[HDR.out.1];exact o6.zero
 obtain⟨qV,qW,RH,yh⟩:=(HM.out w6 iC).nk gW.out (HAT.out w6 iC) yx.out qb.out (fun n=>lT n.attrs nm) sl o6';have f6:=(((HM.out w6 iC).np yx.out (Tr.ah qb.out)) 2 (by omega)).2;have t6:=(QI.out w6 iC).1;obtain⟨w7,hw7⟩:∃ w7,w6.setCell ⟨gb,o+2,none⟩ sl.v=w7:=⟨_,rfl⟩
 rw[hw7] at qV RH yh;have g7:w6.grownBy w7 (some gb):=by rw[←hw7];exact aL (ak (Below.refl w6.heap.size w6) _) _ _
 have aO:=gI.grown g7 (fun e=>by injection e with e;omega);have qd:=(Below.refl _ w7).alloc (Nat.le_refl _) (.cells #[.int .i64 3,.int .i64 h,.int .i64 0,.int .i64 0,.int .i64 0,.int .i64 0,.string nm,.string p.2,.bool true,.int .i64 0,.int .i64 0] 48);have bf:=zh (And.intro (mM w7 (jE h nm p.2 true) w.heap.size (Nat.le_trans iC.size g7.size)) (And.intro (qV.below qd) (And.intro qW (And.intro (RH.below qd) (((ay.of_below iC).trans yh).trans (.of_below qd))))));have s0:w7.cell? ⟨w3.heap.size,0,none⟩=some (.int .i64 3):=aO.cell 0;have UR:=aO.free 0;have s1:w7.cell? ⟨w3.heap.size,1,none⟩=some (.int .i64 h):=aO.cell 1;have UU:=aO.free 1;have s2:w7.cell? ⟨w3.heap.size,2,none⟩=some (.int .i64 0):=aO.cell 2;have UW:=aO.free 2;have s3:w7.cell? ⟨w3.heap.size,3,none⟩=some (.int .i64 0):=aO.cell 3;have UY:=aO.free 3;have s4:w7.cell? ⟨w3.heap.size,4,none⟩=some (.int .i64 0):=aO.cell 4;have UZ:=aO.free 4;have s5:w7.cell? ⟨w3.heap.size,5,none⟩=some (.int .i64 0):=aO.cell 5;have U0:=aO.free 5;have s6:w7.cell? ⟨w3.heap.size,6,none⟩=some (.string nm):=aO.cell 6;have U3:=aO.free 6;have s7:w7.cell? ⟨w3.heap.size,7,none⟩=some (.string p.2):=aO.cell 7;have U4:=aO.free 7;have s8:w7.cell? ⟨w3.heap.size,8,none⟩=some (.bool true):=aO.cell 8;have U5:=aO.free 8;have s9:w7.cell? ⟨w3.heap.size,9,none⟩=some (.int .i64 0):=aO.cell 9;have U6:=aO.free 9;have s10:w7.cell? ⟨w3.heap.size,10,none⟩=some (.int .i64 0):=aO.cell 10;have Mw:=aO.free 10;clear qV qW RH yh qd aO gI g7 o6 o6' hb6 iC;refine hK.out _ _ (trivial) fun hHeld=>?_;clear hK K;(try simp only[pS]);refine bD [16,17] ?_;iterate 2 (refine iZ ?_;try simp only[pS])
 refine bE ?_;refine bL 18 fun K hK=>?_;go_simp;(try rw[hw7]);refine hK.out _ _ (trivial) fun hHeld=>?_;clear hK K;(try simp only[pS]);refine fB ?_;go_wp2_with fail;all_goals go_ret2
 all_goals
  obtain⟨z1,z2,z3,z4,z5⟩:=bf.out;refine⟨_,rfl,?_,sl,z2,z3,z4,z5⟩;rw[HDR.out.2.1];exact z1
end
end Go.Proofs.YtnbaadpgbcklaaaGreatDoor
