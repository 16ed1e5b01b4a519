/- Part of a proof about trees. -/
import Derived.BigQuiet
import Derived.Deep.RegionHeld3
import Derived.Test.YtmhjlifmcadefaaGreatDoorGNCpw
import Derived.Test.YtmhjlifmcadefaaGreatDoorS06
set_option linter.unusedVariables false
set_option linter.unusedSimpArgs false
set_option linter.unusedSectionVars false
set_option maxHeartbeats 8000000
set_option maxRecDepth 100000
namespace Go.Proofs.YtmhjlifmcadefaaGreatDoor
section
open Go.RowKit
variable [mQ]
theorem Rs (base bM T B M:Nat) (b s:Int) (vs vf aP vh:Value) (n live m:Nat) (fr:List Nat) (av:Int→Tr.Sl) (f:Nat→RS) (hs:List Int) (g:Tr.G) (K:Nat) (ia:Nat) (deep:Bool) (w:World) (H:TW w base bM T B M b s vs vf aP vh n live m fr av f hs g K) (hia:ia<m) (hm:m≤300) (hK:K≤60):
  Calls Tryz.prog 43 #[.pointer (some ⟨T,0,none⟩),.int .i64 (ia:Int),.bool deep] w fun e w'=>∃ (vs' dw dP lV:Value) (n' aY m':Nat) (fr':List Nat) (iK:Int→Tr.Sl) (f':Nat→RS) (hs':List Int) (g':Tr.G),e=.returned (.bool true)∧TW w' base bM T B M b s vs' dw dP lV n' aY m' fr' iK f' hs' g' (K+1):=by
 cases hg:(f ia).gone with
 | true=>exact Mt base bM T B M b s vs vf aP vh n live m fr av f hs g K ia deep w H hia hg hm hK
 | false=>
  by_cases h0:ia=0
  ·exact Mv base bM T B M b s vs vf aP vh n live m fr av f hs g K ia deep w H hia hg h0 hm hK
  ·exact Mw base bM T B M b s vs vf aP vh n live m fr av f hs g K ia deep w H hia hg h0 hm hK
theorem Ue (base bM T B M:Nat) (b s:Int) (vs vf aP vh:Value) (n live m:Nat) (fr:List Nat) (av:Int→Tr.Sl) (f:Nat→RS) (hs:List Int) (g:Tr.G) (K:Nat) (o:qp) (w:World) (H:TW w base bM T B M b s vs vf aP vh n live m fr av f hs g K) (ho:pE o) (hkd:o.kind.tmod 10=8) (hm:m≤300) (hK:K≤60) (hT:Lit w):
  uL base bM T B M b s K o w:=by
 unfold uL;obtain⟨ia,hia,aI⟩:=aR ho.a.1 H.m0;obtain⟨ib,hib,iT⟩:=aR ho.b.1 H.m0;obtain⟨ic,hic,qw⟩:=aR (m:=m+1) ho.c.1 (by omega);rw[Int.natCast_add] at hic;have hlen:=H.len;have hm0:=H.m0;obtain⟨w1,gh,oh,ch,rfl,mz,IU,IV,IW,hw1,fQ,HB1,H1,ql,jM,HLEN,sG,sH,t0,t1,t2,x0,x1,x2,x3,x4,x5,x6,x7,IX,IY,IZ,I4,I5,I6,I7,I8⟩:=iB H ho hT;have ze:=zh (fun (W:World) (hb:Below w.heap.size w W)=>H.mv.below hb);have dZ:=zh (fun (W:World) (hb:Below w.heap.size w W) (j:Nat) (hj:j<m)=>bX bM M m aP f j W (H.mv.below hb) hj (by omega));clear H ho hT
 go_enter Tryz.func16,Tryz.ntmps16
 go_wp2_with fail;(try rw[hw1]);try go_wp2_with fail
 go_quiet (fail)
 obtain⟨V,hV⟩:=eX (w1.drewN nq)
 have dS:Below w1.heap.size w1 V:=Jg hV;have bK:=zh (HB1.out.trans (dS.mono HB1.out.size));have dH:=zh (fQ.out.below dS fQ.out.lt);have HV:=zh (H1.out.below dS);have vv:=zh (jM.out.below dS);obtain⟨t0',t1',t2'⟩:=sH.out V bK.out;have z0:V.cell? ⟨w.heap.size,0,none⟩=some (.int .u8 o.kind):=dH.out.cell 0;have z4:V.cell? ⟨w.heap.size,4,none⟩=some (.string o.s):=dH.out.cell 4;have z5:V.cell? ⟨w.heap.size,5,none⟩=some (.string o.t):=dH.out.cell 5;have z6:V.cell? ⟨w.heap.size,6,none⟩=some (.int .i8 o.n):=dH.out.cell 6;have z7:V.cell? ⟨w.heap.size,7,none⟩=some (.int .i8 o.k):=dH.out.cell 7;clear t0 t1 t2 x0 x1 x2 x3 x4 x5 x6 x7 dS;(try rw[hV]);go_wp2_with fail;refine (dZ.out V bK.out ia aI).mono ?_;rintro e w2 ⟨rfl,hw2⟩;rw[hw2];clear hw2;obtain⟨zn0,zn1⟩:=ql.out.n;have HC:=zh (fun (W:World) (hW:TW W base bM T B M b s vs vf aP (.slice (some ⟨gh,oh,none⟩) hs.length ch) n live m fr av f hs g K) (dp:Bool)=>Rs base bM T B M b s vs vf aP _ n live m fr av f hs g K ia dp W hW aI hm hK);go_wp2_with fail;refine (HC.out V HV.out _).mono ?_;rintro e w3 ⟨vs',dw,dP,lV,n',aY,m',fr',iK,f',hs',g',rfl,hT3⟩;have bC:=zh hT3;clear hT3 HC;go_wp2_with fail;go_ret2;exact⟨_,[],_,_,_,_,_,_,_,_,_,_,_,_,rfl,bC.out⟩
end
end Go.Proofs.YtmhjlifmcadefaaGreatDoor
