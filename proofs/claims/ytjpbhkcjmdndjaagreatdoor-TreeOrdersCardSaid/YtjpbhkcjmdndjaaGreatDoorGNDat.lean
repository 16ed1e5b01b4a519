/- Part of a proof about trees. -/
import Derived.Test.YtjpbhkcjmdndjaaGreatDoorGNRsa
set_option linter.unusedVariables false
set_option linter.unusedSimpArgs false
set_option maxHeartbeats 2000000
set_option maxRecDepth 100000
namespace Go.Proofs.YtjpbhkcjmdndjaaGreatDoor
section
open Go.RowKit
def jY (l:List (ByteArray×ByteArray)) (nm:ByteArray):List (ByteArray×ByteArray):=l.eraseIdx (pG l nm)
theorem TR.NV {w:World} {base g o d b cp:Nat} {e:TypeId} {l1 l2:List (ByteArray×ByteArray)} {p:ByteArray×ByteArray} (h:TR w base e 2 (.slice (some ⟨g,o,none⟩) (d+1+b) cp) (d+1+b) (fJ (l1++p::l2))) (h1:l1.length=d) (h2:l2.length=b):
  TR w base e 2 (.slice (some ⟨g,o,none⟩) d cp) d (fJ l1)∧TR w base e 2 (.slice (if cp=d+1 then some ⟨g,o,none⟩ else some ⟨g,o+(d+1)*2,none⟩) b (cp - (d+1))) b (fJ l2):=by
 have a1:=h.head (k:=d) (by omega);have a2:=h.tail (k:=d+1) (by omega);rw[NW,List.take_left' h1] at a1;rw[NY,show l1++p::l2=(l1++[p])++l2 from by simp,List.drop_left' (by rw[List.length_append,h1];rfl),Nat.add_sub_cancel_left] at a2;have et:tailV (.slice (some ⟨g,o,none⟩) (d+1+b) cp) (d+1) 2=.slice (if cp=d+1 then some ⟨g,o,none⟩ else some ⟨g,o+(d+1)*2,none⟩) b (cp - (d+1)):=by
  unfold tailV;simp only[Option.map_some,Addr.add_lit,Nat.add_sub_cancel_left]
 rw[et] at a2;exact⟨a1,a2⟩
theorem zl (base B:Nat) (b s root h:Int) (live n:Nat) (g:Tr.G) (av:Int→Tr.Sl) (fr:List Nat) (vs vf:Value) (nm:ByteArray) (w:World) (hm:TV base w B b s vs n (Tr.raw g av) vf fr live root) (hS:Sound b s n (Tr.raw g av) fr live) (hh:kM h) (hk:∀ x m,g x=some m→m.kind≠0) (he:fH g h≠0):
  Calls Tryz.prog 28 #[.pointer (some ⟨B,0,none⟩),.int .i64 h,.string nm] w fun e w'=>e=.returned (ou (fH g h))∧Below w.heap.size w w':=by
 have hE:=jd base B b s root h live n g av fr vs vf w hm hS hh hk;obtain⟨z,hz⟩:=eX (fH g h)
 rw[hz] at hE he ⊢;have q:=bne_true he;clear hm hz
 go_enter Tryz.func28,Tryz.ntmps28
 go_wp2_with fail;refine hE.mono ?_;rintro e w1 ⟨rfl,hb⟩;clear hE;go_wp2_with fail;go_ret2;exact⟨rfl,hb⟩
theorem EX (base B:Nat) (b s root h:Int) (live n:Nat) (g:Tr.G) (av:Int→Tr.Sl) (fr:List Nat) (vs vf:Value) (nd:Tr.GN) (nm:ByteArray) (w:World) (hm:TV base w B b s vs n (Tr.raw g av) vf fr live root) (hS:Sound b s n (Tr.raw g av) fr live) (ha:AT w g av) (hk:∀ x m,g x=some m→m.kind≠0) (eg:g h=some nd) (he:nd.kind=2) (hl:nd.attrs.length≤1000) (hcase:¬ pG nd.attrs nm<nd.attrs.length):
  Calls Tryz.prog 28 #[.pointer (some ⟨B,0,none⟩),.int .i64 h,.string nm] w fun e w'=>e=.returned (ou 0)∧Below w.heap.size w w':=by
 have hE:=jd base B b s root h live n g av fr vs vf w hm hS ((bN hS (h:=h) (by rw[aM,eg];rfl)).1) hk;have he0:fH g h=0:=by unfold fH;rw[eg];exact if_pos he
 rw[he0] at hE;have HM:=zh (fun (W:World) (hb:Below w.heap.size w W)=>hm.below hb);have HA:=zh (fun (W:World) (hb:Below w.heap.size w W)=>gW base B b s root h live n _ fr vs vf _ W (hm.below hb) hS (Tr.aj eg));have HAT:=zh (fun (W:World) (hb:Below w.heap.size w W)=>(ha.below hb));have LH:=zh hm.lt;have iU:=zh hS;have ql:=zh eg;clear he0 hm ha hS he hk
 go_enter Tryz.func28,Tryz.ntmps28
 go_wp2_with fail;refine hE.mono ?_;rintro e w1 ⟨rfl,hb1⟩;have HA2:=HA.out w1 hb1;clear hE HA;go_wp2_with fail;refine HA2.mono ?_;rintro e w2 ⟨gb,o,rfl,hpt,hb2⟩;have eU:=hb1.trans (hb2.mono hb1.size);obtain⟨_,_,t2,_⟩:=((HM.out w2 eU).np hpt (Tr.aj ql.out)).cells;rw[show (Tr.fA g av h nd).av=av h from rfl] at t2;have hgw:gb<w.heap.size:=(LH.out gb hpt.foot).2;have yH:=zh hpt;have HI:=zh (oC _ nd.attrs nm w2 (HAT.out w2 eU h nd ql.out) hl);clear HA2 hb1 hb2 hpt;go_wp2_with fail;refine HI.out.mono ?_;rintro e w3 ⟨rfl,hb3⟩;have dB:=eU.trans (hb3.mono eU.size);clear HI eU hb3;have hai:yI nd.attrs nm = -1:=by unfold yI;rw[if_neg hcase]
 rw[hai];go_wp2_with fail;go_ret2;exact⟨rfl,dB⟩
theorem EY (base B:Nat) (b s root h:Int) (live n:Nat) (g:Tr.G) (av:Int→Tr.Sl) (fr:List Nat) (vs vf:Value) (nd:Tr.GN) (nm:ByteArray) (w:World) (hm:TV base w B b s vs n (Tr.raw g av) vf fr live root) (hS:Sound b s n (Tr.raw g av) fr live) (ha:AT w g av) (hk:∀ x m,g x=some m→m.kind≠0) (eg:g h=some nd) (he:nd.kind=2) (hl:nd.attrs.length≤1000) (hcase:pG nd.attrs nm<nd.attrs.length):
  Calls Tryz.prog 28 #[.pointer (some ⟨B,0,none⟩),.int .i64 h,.string nm] w fun e w'=>∃ r sl,e=.returned (.tuple #[r,.int .i64 0])∧bH w.heap.size w' r [jK h nm (lJ nd.attrs nm) true]∧
   TV base w' B b s vs n (Tr.raw (Tr.cO g h fun n=>{ n with attrs:=jY n.attrs nm }) (Tr.eZ av h sl)) vf fr live root∧Sound b s n (Tr.raw (Tr.cO g h fun n=>{ n with attrs:=jY n.attrs nm }) (Tr.eZ av h sl)) fr live∧
   AT w' (Tr.cO g h fun n=>{ n with attrs:=jY n.attrs nm }) (Tr.eZ av h sl)∧aB w w' (aD B vs vf) (aD B vs vf):=by
 have hE:=jd base B b s root h live n g av fr vs vf w hm hS ((bN hS (h:=h) (by rw[aM,eg];rfl)).1) hk;have he0:fH g h=0:=by unfold fH;rw[eg];exact if_pos he
 rw[he0] at hE;have HM:=zh (fun (W:World) (hb:Below w.heap.size w W)=>hm.below hb);have HA:=zh (fun (W:World) (hb:Below w.heap.size w W)=>gW base B b s root h live n _ fr vs vf _ W (hm.below hb) hS (Tr.aj eg));have HAT:=zh (fun (W:World) (hb:Below w.heap.size w W)=>(ha.below hb));have LH:=zh hm.lt;have iU:=zh hS;have ql:=zh eg;clear he0 hm ha hS he hk
 go_enter Tryz.func28,Tryz.ntmps28
 go_wp2_with fail;refine hE.mono ?_;rintro e w1 ⟨rfl,hb1⟩;have HA2:=HA.out w1 hb1;clear hE HA;go_wp2_with fail;refine HA2.mono ?_;rintro e w2 ⟨gb,o,rfl,hpt,hb2⟩;have eU:=hb1.trans (hb2.mono hb1.size);obtain⟨_,_,t2,_⟩:=((HM.out w2 eU).np hpt (Tr.aj ql.out)).cells;rw[show (Tr.fA g av h nd).av=av h from rfl] at t2;have hgw:gb<w.heap.size:=(LH.out gb hpt.foot).2;have yH:=zh hpt;have HI:=zh (oC _ nd.attrs nm w2 (HAT.out w2 eU h nd ql.out) hl);clear HA2 hb1 hb2 hpt;go_wp2_with fail;refine HI.out.mono ?_;rintro e w3 ⟨rfl,hb3⟩;have dB:=eU.trans (hb3.mono eU.size);clear HI eU hb3;obtain⟨l1,p,l2,hL,hd1⟩:∃ l1 p l2,nd.attrs=l1++p::l2∧l1.length=pG nd.attrs nm:=by
  refine⟨nd.attrs.take (pG nd.attrs nm),nd.attrs[pG nd.attrs nm],nd.attrs.drop (pG nd.attrs nm+1),?_,by rw[List.length_take];omega⟩;rw[←List.drop_eq_getElem_cons hcase,List.take_append_drop]
 obtain⟨d,hd⟩:=eX (l1.length)
 obtain⟨bb,hbb⟩:=eX (l2.length)
 have hai:yI nd.attrs nm=(d:Int):=by unfold yI;rw[if_pos hcase,←hd1,hd]
 have hget:nd.attrs[d]?=some p:=by rw[hL,←hd];simp
 have hdrop:jY nd.attrs nm=l1++l2:=by unfold jY;rw[←hd1,hL,List.eraseIdx_append_of_length_le (Nat.le_refl _),Nat.sub_self];rfl
 have hold:lJ nd.attrs nm=p.2:=by unfold lJ;rw[←hd1,hd,hget]
 have hlen:nd.attrs.length=d+1+bb:=by rw[hL,List.length_append,List.length_cons];omega
 rw[hai];have pK:TR w3 0 73 2 (av h).v nd.attrs.length (fJ nd.attrs):=HAT.out w3 dB h nd ql.out;have Uk:(av h).n=d+1+bb:=by
  obtain⟨A',c',e⟩:=pK.form;unfold Tr.Sl.v at e;injection e with _ e _;rw[e,hlen]
 obtain⟨cp,hcp⟩:=eX ((av h).c)
 have hv3:(av h).v=.slice (av h).a (d+1+bb) cp:=by unfold Tr.Sl.v;rw[Uk,hcp]
 rw[hv3,hlen] at pK;have hcap:=pK.le;obtain⟨ga,oa,hA,_⟩:=pK.cells (by omega);have HDR:=zh (And.intro hdrop (And.intro hold (And.intro hL (And.intro hd (And.intro hbb (And.intro hlen hv3))))));have hreads:∀ W,Below w.heap.size w W→W.cell? ⟨gb,o+2,none⟩=some (.slice (some ⟨ga,oa,none⟩) (d+1+bb) cp)∧W.cell? ⟨ga,oa+d*2+1,none⟩=some (.string p.2)∧TR W 0 73 2 (.slice (some ⟨ga,oa,none⟩) (d+1+bb) cp) (d+1+bb) (fJ nd.attrs):=fun W hb=>by
  obtain⟨_,_,c2,_⟩:=((HM.out W hb).np yH.out (Tr.aj ql.out)).cells;have hr:TR W 0 73 2 (av h).v nd.attrs.length (fJ nd.attrs):=HAT.out W hb h nd ql.out;rw[show (Tr.fA g av h nd).av=av h from rfl,Uk,hcp,hA] at c2;rw[hv3,hlen,hA] at hr;refine⟨c2,?_,hr⟩;rw[Nat.add_assoc];exact hr.cellAt _ _ (by omega) (jk _ _ _ hget).2
 have Ta:=zh hreads;obtain⟨t3,a3,_⟩:=hreads w3 dB;have q0:(0:Int)≤(d:Int):=by omega
 have q1:(d:Int)<(d:Int)+1+(bb:Int):=by omega
 have q1b:(d:Int)<((d+1+bb:Nat):Int):=by omega
 obtain⟨LJ,Xc⟩:=eX (w3.alloc (.cells #[.int .i64 0,.int .i64 0,.int .i64 0,.int .i64 0,.int .i64 0,.int .i64 0,.string ⟨#[]⟩,.string ⟨#[]⟩,.bool false,.int .i64 0,.int .i64 0] 68))
 have Xd:Below w3.heap.size w3 LJ:=gU Xc;have mZ:Whole LJ w3.heap.size #[.int .i64 0,.int .i64 0,.int .i64 0,.int .i64 0,.int .i64 0,.int .i64 0,.string ⟨#[]⟩,.string ⟨#[]⟩,.bool false,.int .i64 0,.int .i64 0] 68:=by rw[←Xc];exact Whole.new w3 _ _
 have NZ:=dB.trans (Xd.mono dB.size);have hs3:w.heap.size≤w3.heap.size:=dB.size;have y0:LJ.cell? ⟨w3.heap.size,0,none⟩=some (.int .i64 0):=mZ.cell 0;have EZ:=mZ.free 0;have y1:LJ.cell? ⟨w3.heap.size,1,none⟩=some (.int .i64 0):=mZ.cell 1;have E5:=mZ.free 1;have y2:LJ.cell? ⟨w3.heap.size,2,none⟩=some (.int .i64 0):=mZ.cell 2;have E8:=mZ.free 2;have y3:LJ.cell? ⟨w3.heap.size,3,none⟩=some (.int .i64 0):=mZ.cell 3;have E9:=mZ.free 3;have y4:LJ.cell? ⟨w3.heap.size,4,none⟩=some (.int .i64 0):=mZ.cell 4;have Fa:=mZ.free 4;have y5:LJ.cell? ⟨w3.heap.size,5,none⟩=some (.int .i64 0):=mZ.cell 5;have Fb:=mZ.free 5;have y6:LJ.cell? ⟨w3.heap.size,6,none⟩=some (.string ⟨#[]⟩):=mZ.cell 6;have Fe:=mZ.free 6;have y7:LJ.cell? ⟨w3.heap.size,7,none⟩=some (.string ⟨#[]⟩):=mZ.cell 7;have Fg:=mZ.free 7;have y8:LJ.cell? ⟨w3.heap.size,8,none⟩=some (.bool false):=mZ.cell 8;have Fh:=mZ.free 8;have y9:LJ.cell? ⟨w3.heap.size,9,none⟩=some (.int .i64 0):=mZ.cell 9;have Fj:=mZ.free 9;have wP:LJ.cell? ⟨w3.heap.size,10,none⟩=some (.int .i64 0):=mZ.cell 10;have rJ:=mZ.free 10;obtain⟨w4,hw4,bB,g4⟩:=kQ mZ (.int .i64 3) (.int .i64 h) (.int .i64 0) (.int .i64 0) (.int .i64 0) (.int .i64 0) (.string nm) (.string p.2) (.bool true) (.int .i64 0) (.int .i64 0);have bU:Below w.heap.size w w4:=NZ.grown g4 NZ.size (fun j hj=>by simp at hj;omega);have uE:Below w.heap.size w w4.drew:=bU.trans ((aZ _ w4).mono bU.size);have N7:=bB.below (aZ _ w4) bB.lt;obtain⟨t4,_,r4⟩:=hreads w4.drew uE;have Xe:w3.heap.size<w4.heap.size:=bB.lt;obtain⟨w5,fT⟩:=eX (w4.drew.alloc (.cells #[.slice (some ⟨ga,oa,none⟩) d cp,.slice (if cp=d+1 then some ⟨ga,oa,none⟩ else some ⟨ga,oa+(d+1)*2,none⟩) bb (cp - (d+1))] 71))
 have fB:Below w4.drew.heap.size w4.drew w5:=by rw[←fT];exact (Below.refl _ w4.drew).alloc (Nat.le_refl _) _
 have hS5:Whole w5 w4.heap.size #[.slice (some ⟨ga,oa,none⟩) d cp,.slice (if cp=d+1 then some ⟨ga,oa,none⟩ else some ⟨ga,oa+(d+1)*2,none⟩) bb (cp - (d+1))] 71:=by rw[←fT];exact Whole.new w4.drew _ _
 have dY:=uE.trans (fB.mono uE.size);have r5:=(hreads w5 dY).2.2;rw[hL] at r5;obtain⟨ra,rb⟩:=r5.NV hd hbb;have hHC:=IQ w4.heap.size _ _ l1 l2 w5 (hS5.cell 0) (hS5.cell 1) hS5.lt (by show TR _ _ _ _ _ l1.length _;rw[hd];exact ra) (by show TR _ _ _ _ _ l2.length _;rw[hbb];exact rb) (by omega) (by omega);have HC:=zh hHC;have dU:=N7.below fB N7.lt;have gT:=zh dU;have IU:=zh dY;have hdc:(d:Int)≤(cp:Int):=by omega
 have hi2:(d:Int)+1≤((d+1+bb:Nat):Int):=by omega
 have hi3:(0:Int)≤(d:Int)+1:=by omega
 have Xf:(d:Int)+1≤(d:Int)+1+(bb:Int):=by omega
 have ht1':((d:Int)+1).toNat=d+1:=by omega
 have hs2:IntKind.i64.wrap ((d:Int)+1)=(d:Int)+1:=by rw[IntKind.wrap_i64];omega
 have q4:¬ (d:Int)<0:=by omega
 clear pK hv3 Uk hcp hA hreads mZ bB N7 dU g4 Xd NZ dB bU uE fB dY hS5 r4 r5 ra rb hL hd1 hget hdrop hold hlen hHC hai hcase hd hbb;go_wp2_with fail;(try rw[hw4]);go_wp2_with fail;refine wp_region_noPanic ?_;refine wp_region_held_drew (S:=(fun _=>True)) (by kernel_rfl) ?_ (fun ah=>?_)
 ·exact trivial
 refine bE [0,1,2,3,5,7,8,9,11,12] ?_;iterate 10 (refine jl ?_;try simp only[pS])
 refine bF ?_;apply Ce
 ·intro KEY;refine zm 4 10 (fun K hK=>?_) fun K hK=>?_
  ·go_simp;refine hK.out _ _ (trivial) fun ah=>?_;clear hK K;(try simp only[pS]);refine bE [6] ?_
   (refine jl ?_;try simp only[pS])
   refine bF ?_;refine bO 10 fun K hK=>?_;go_simp;refine hK.out _ _ (trivial) fun ah=>?_;clear hK K;(try simp only[pS]);refine bE [13] ?_
   (refine jl ?_;try simp only[pS])
   refine bF ?_;exact KEY
  ·go_simp;refine hK.out _ _ (trivial) fun ah=>?_;clear hK K;(try simp only[pS]);refine bE [13] ?_
   (refine jl ?_;try simp only[pS])
   refine bF ?_;refine bO 4 fun K hK=>?_;go_simp;refine hK.out _ _ (trivial) fun ah=>?_;clear hK K;(try simp only[pS]);refine bE [6] ?_
   (refine jl ?_;try simp only[pS])
   refine bF ?_;exact KEY
 refine bO 14 fun K hK=>?_;go_simp;(try rw[fT]);refine hK.out _ _ (trivial) fun ah=>?_;clear hK K;(try simp only[pS]);refine bO 15 fun K hK=>?_;go_simp;refine HC.out.mono ?_;rintro e w6 ⟨v6,rfl,o6,hb6⟩;have gI:=gT.out.below hb6 gT.out.lt;have iM:=IU.out.trans (hb6.mono IU.out.size);obtain⟨sl,rfl,-⟩:=Xg o6;have o6':AR w6 0 sl.v (jY nd.attrs nm):=by rw[HDR.out.1];exact o6.zero
 obtain⟨qW,pO,Ul,yJ⟩:=(HM.out w6 iM).nJ iU.out (HAT.out w6 iM) yH.out ql.out (fun n=>jY n.attrs nm) sl o6';have f6:=(((HM.out w6 iM).np yH.out (Tr.aj ql.out)) 2 (by omega)).2;have t6:=(Ta.out w6 iM).1;obtain⟨w7,hw7⟩:=eX (w6.setCell ⟨gb,o+2,none⟩ sl.v)
 rw[hw7] at qW Ul yJ;have g7:w6.grownBy w7 (some gb):=by rw[←hw7];exact aO (ay (Below.refl w6.heap.size w6) _) _ _
 have aK:=gI.grown g7 (fun e=>by injection e with e;omega);have qm:=(Below.refl _ w7).alloc (Nat.le_refl _) (.cells #[.int .i64 3,.int .i64 h,.int .i64 0,.int .i64 0,.int .i64 0,.int .i64 0,.string nm,.string p.2,.bool true,.int .i64 0,.int .i64 0] 68);have bf:=zh (And.intro (ng w7 (jK h nm p.2 true) w.heap.size (Nat.le_trans iM.size g7.size)) (And.intro (qW.below qm) (And.intro pO (And.intro (Ul.below qm) (((aB.of_below iM).trans yJ).trans (.of_below qm))))));have s0:w7.cell? ⟨w3.heap.size,0,none⟩=some (.int .i64 3):=aK.cell 0;have Xh:=aK.free 0;have s1:w7.cell? ⟨w3.heap.size,1,none⟩=some (.int .i64 h):=aK.cell 1;have Xi:=aK.free 1;have s2:w7.cell? ⟨w3.heap.size,2,none⟩=some (.int .i64 0):=aK.cell 2;have Xj:=aK.free 2;have s3:w7.cell? ⟨w3.heap.size,3,none⟩=some (.int .i64 0):=aK.cell 3;have Xk:=aK.free 3;have s4:w7.cell? ⟨w3.heap.size,4,none⟩=some (.int .i64 0):=aK.cell 4;have Xl:=aK.free 4;have s5:w7.cell? ⟨w3.heap.size,5,none⟩=some (.int .i64 0):=aK.cell 5;have Xm:=aK.free 5;have s6:w7.cell? ⟨w3.heap.size,6,none⟩=some (.string nm):=aK.cell 6;have Xn:=aK.free 6;have s7:w7.cell? ⟨w3.heap.size,7,none⟩=some (.string p.2):=aK.cell 7;have Xo:=aK.free 7;have s8:w7.cell? ⟨w3.heap.size,8,none⟩=some (.bool true):=aK.cell 8;have Xp:=aK.free 8;have s9:w7.cell? ⟨w3.heap.size,9,none⟩=some (.int .i64 0):=aK.cell 9;have Xq:=aK.free 9;have s10:w7.cell? ⟨w3.heap.size,10,none⟩=some (.int .i64 0):=aK.cell 10;have N8:=aK.free 10;clear qW pO Ul yJ qm aK gI g7 o6 o6' hb6 iM;refine hK.out _ _ (trivial) fun ah=>?_;clear hK K;(try simp only[pS]);refine bE [16,17] ?_;iterate 2 (refine jl ?_;try simp only[pS])
 refine bF ?_;refine bO 18 fun K hK=>?_;go_simp;(try rw[hw7]);refine hK.out _ _ (trivial) fun ah=>?_;clear hK K;(try simp only[pS]);refine gQ ?_;go_wp2_with fail;all_goals go_ret2
 all_goals
  obtain⟨z1,z2,z3,z4,z5⟩:=bf.out;refine⟨_,rfl,?_,sl,z2,z3,z4,z5⟩;rw[HDR.out.2.1];exact z1
end
end Go.Proofs.YtjpbhkcjmdndjaaGreatDoor
