/- Part of a proof about trees: NRcut. -/
import Derived.Test.YtnbaadpgbcklaaaGreatDoorS02
set_option linter.unusedVariables false
set_option linter.unusedSimpArgs false
set_option linter.unusedSectionVars false
set_option maxHeartbeats 4000000
set_option maxRecDepth 100000
namespace Go.Proofs.YtnbaadpgbcklaaaGreatDoor
section
open Go.RowKit
theorem kD:(Tryz.prog.info? 3).map (fun i=>(i.zero,i.size,i.bytes))=some (some (.int .i64 0),1,8):=by kernel_rfl
def wR (l:List Int) (i:Int):Int:=if i<0 then -1 else (l[i.toNat]?).getD (-1)
abbrev rrV (r:Tr.Rec):Value:=Y9 r
def kE (m:Nat) (f:Nat→RS) (kind:Int) (i p:Nat):Tr.Rec:=⟨kind,p,i,wR (f p).kids (((f p).kids.idxOf (i:Int):Nat) - 1),wR (f p).kids (((f p).kids.idxOf (i:Int):Nat)+1),((f p).kids.idxOf (i:Int):Nat),⟨#[]⟩,⟨#[]⟩,false,0,0⟩
theorem lu (w:World) (E:TypeId) (size:Nat):TR (w.alloc (.cells #[] E)) w.heap.size E size (.slice (some ⟨w.heap.size,0,none⟩) 0 0) 0 []:=by
 have h:=World.ownsRow_lit (base:=w.heap.size) (e:=E) (size:=size) w #[] 0 (Nat.le_refl _) (Nat.zero_le _) (by simp);exact .jJ (by simpa using h)
theorem below_drewN (n:Nat) (w:World) (k:Nat):Below n w (w.drewN k):=⟨rfl,rfl,rfl,Nat.le_refl _,fun _ _=>rfl⟩
theorem bB (n:Nat) (w:World):Below n w w.drew:=⟨rfl,rfl,rfl,Nat.le_refl _,fun _ _=>rfl⟩
theorem Fy (base M m:Nat) (vs:Value) (f:Nat→RS) (i p:Nat) (w:World) (H:MV base w M vs m f) (hw:Tr.WF (-1) (mg m f)) (hi:i<m) (hg:(f i).gone=false) (hp:(f i).pa=(p:Int)) (hm:m≤100000):
  Calls Tryz.prog 117 #[.pointer (some ⟨M,0,none⟩),.int .i64 (i:Int)] w fun e w'=>e=.returned (rrV (kE m f 2 i p))∧∃ sl,MV base w' M vs m (bg (bg f p fun n=>{ n with k:=sl,kids:=n.kids.erase (i:Int) }) i fun n=>{ n with pa := -1 })∧ay w w' (aB M vs m f) (aB M vs m (bg (bg f p fun n=>{ n with k:=sl,kids:=n.kids.erase (i:Int) }) i fun n=>{ n with pa := -1 })):=by
 obtain⟨i0,hi0,hz0,hz1,hz2⟩:=info_parts kD;obtain⟨A,c,rfl⟩:=H.form;have hpl:(mg m f (p:Int)).isSome∧(i:Int)∈(f p).kids∧p<m∧(f p).gone=false:=by
  rcases hw.pa (aQ hi hg) with h1 | ⟨n,h1,h2⟩
  ·exact absurd (show (f i).pa = -1 from h1) (by omega)
  ·rw[show (jX (f i)).pa=(p:Int) from hp] at h1;obtain⟨p',e1,e2,e3,e4⟩:=lQ h1;obtain rfl:p=p':=by omega
   exact⟨by rw[h1];rfl,by rw[e4] at h2;exact h2,e2,e3⟩
 obtain⟨_,hmem,hpm,hpg⟩:=hpl;have hpi:p≠i:=fun e=>by
  have:=hw.iD (aQ hi hg);exact this (by show (f i).pa=_;rw[hp,e])
 obtain⟨l1,l2,hL⟩:=List.append_of_mem hmem;have hnd:(f p).kids.Nodup:=hw.nodup _ _ (aQ hpm hpg);have hno:(i:Int)∉l1:=by
  intro hx;rw[hL] at hnd;exact (List.nodup_append.1 hnd).2.2 _ hx _ (by simp) rfl
 have hix:(f p).kids.idxOf (i:Int)=l1.length:=by rw[hL,Tr.fq hno]
 have hidx:jl m f i=(l1.length:Nat):=by unfold jl;rw[if_neg (by omega),hp,Int.toNat_natCast,hix]
 have her:(f p).kids.erase (i:Int)=l1++l2:=by rw[hL,Tr.xL hno]
 have hle:=lC hw hpm hpg;have hlen:(f p).kids.length=l1.length+1+l2.length:=by rw[hL];simp;omega
 have hkn:=H.kn hpm;have XT:=H.kr p hpm;have hv:(f p).k.v=.slice (f p).k.a (l1.length+1+l2.length) (f p).k.c:=by unfold Tr.Sl.v;rw[hkn,hlen]
 rw[hv,hlen] at XT;have hcap:=XT.le;obtain⟨ga,o,hA⟩:∃ ga o,(f p).k.a=some ⟨ga,o,none⟩:=by
  obtain⟨ga,o,e,_⟩:=XT.cells (by omega);exact⟨ga,o,e⟩
 unfold kE;rw[hix];obtain⟨X1,hX1⟩:∃ x,wR (f p).kids ((l1.length:Nat) - 1)=x:=⟨_,rfl⟩
 obtain⟨X2,hX2⟩:∃ x,wR (f p).kids ((l1.length:Nat)+1)=x:=⟨_,rfl⟩
 rw[hX1,hX2];obtain⟨d,hd⟩:∃ d,l1.length=d:=⟨_,rfl⟩
 have aaN:=H.var.lt;have XU:base≤w.heap.size:=by have:=H.low;omega
 obtain⟨g,rfl,-⟩:=H.read hi;have q0:(0:Int)≤(i:Int):=by omega
 have q1:(i:Int)<(m:Int):=by omega
 have p0:(0:Int)≤(p:Int):=by omega
 have p1:(p:Int)<(m:Int):=by omega
 obtain⟨w1,hw1⟩:∃ w1,w.alloc (.cells #[.int .i64 0,.int .i64 0,.int .i64 0,.int .i64 0,.int .i64 0,.int .i64 0,.string ⟨#[]⟩,.string ⟨#[]⟩,.bool false,.int .i64 0,.int .i64 0] 147)=w1:=⟨_,rfl⟩
 have hb1:Below w.heap.size w w1:=eP hw1;have hZ1:w1.heap.size=w.heap.size+1:=by rw[←hw1];simp
 have Dp:Whole w1 w.heap.size #[.int .i64 0,.int .i64 0,.int .i64 0,.int .i64 0,.int .i64 0,.int .i64 0,.string ⟨#[]⟩,.string ⟨#[]⟩,.bool false,.int .i64 0,.int .i64 0] 147:=by rw[←hw1];exact Whole.new w _ _
 have hM1:=H.below hb1;have QV:=zh fun nq=>qC base M m _ f i (w1.drewN nq) (hM1.below (below_drewN _ w1 nq)) hw hi hg hm;rw[hidx,hd] at QV;have k1:=hM1.cell.1;obtain⟨g',e',_,_,_,_,c4,_,_⟩:=hM1.read hi;obtain rfl:g=g':=by injection e' with e';injection e'
 rw[hp] at c4;have Za:=zh H;have hgl:g<w.heap.size:=(H.row.lt g rfl).2;have vY:=zh (fun (W:World) (hb:Below w.heap.size w W)=>H.below hb);have Pq:=zh (fun (W:World) (hb:Below w.heap.size w W)=>(H.kr p hpm).below hb);have HL:=zh hL;have aU:=zh hX1;have fE:=zh hX2;have HD:=zh hd;have Zb:=zh her;have HV:=zh hv;have HZ1:=zh hZ1;have HB1:=zh hb1;have HR1:=zh Dp;have Q7:=zh hle;have HLEN:=zh hlen;have Zc:=zh hkn;have HPI:=zh hpi;rw[hlen] at hle;rw[hd] at hle hcap;clear hL hX1 hX2 hd her hv hZ1 hb1 Dp hlen hkn XT hM1 hix hidx hno hnd hmem H hw hpi
 go_enter Tryz.func117,Tryz.ntmps117
 go_wp2_with fail;(try rw[hw1]);go_wp2_with fail
 go_quiet (first | (go_at_call 95;exact Calls.quiet_of_same (QV.out _)))
 obtain⟨w2,hw2⟩:∃ w2,w1.drewN nq=w2:=⟨_,rfl⟩
 rw[hw2];have hb2:Below w.heap.size w w2:=by rw[←hw2];exact HB1.out.trans (below_drewN _ w1 nq)
 have hz2':w2.heap.size=w.heap.size+1:=by rw[←hw2];exact HZ1.out
 have hR2:Whole w2 w.heap.size #[.int .i64 0,.int .i64 0,.int .i64 0,.int .i64 0,.int .i64 0,.int .i64 0,.string ⟨#[]⟩,.string ⟨#[]⟩,.bool false,.int .i64 0,.int .i64 0] 147:=by rw[←hw2];exact HR1.out
 have hm2:=vY.out w2 hb2;have k2:=hm2.cell.1;obtain⟨g',e',_,_,_,_,_,c5,_⟩:=hm2.read hpm;obtain rfl:g=g':=by injection e' with e';injection e'
 obtain⟨b,hbn⟩:∃ b,l2.length=b:=⟨_,rfl⟩
 obtain⟨cp,hcp⟩:∃ cp,(f p).k.c=cp:=⟨_,rfl⟩
 rw[hcp,hbn] at hcap;rw[hbn] at hle;have xM:(f p).kids.length=d+1+b:=by rw[HLEN.out,HD.out,hbn]
 rw[Zc.out,xM,hA,hcp] at c5;have hK2:=Pq.out w2 hb2;rw[xM,HV.out,hA,hcp,HD.out,hbn] at hK2;have hn1:((d+1+b:Nat):Int)=(d:Int)+1+(b:Int):=by omega
 have HA1:=vB base (.slice (some ⟨ga,o,none⟩) (d+1+b) cp) (f p).kids ((d:Int) - 1) w2 (by rw[xM];exact hK2) (by constructor<;>omega) (by rw[xM];omega);have HA2:=vB base (.slice (some ⟨ga,o,none⟩) (d+1+b) cp) (f p).kids ((d:Int)+1) w2 (by rw[xM];exact hK2) (by constructor<;>omega) (by rw[xM];omega);have e1:=aU.out;have e2:=fE.out;rw[HD.out] at e1 e2;unfold wR at e1 e2;rw[e1] at HA1;rw[e2] at HA2;have HA1:=zh HA1;have HA2:=zh HA2;have hs1:IntKind.i64.wrap ((d:Int) - 1)=(d:Int) - 1:=by rw[IntKind.wrap_i64];omega
 have hs2:IntKind.i64.wrap ((d:Int)+1)=(d:Int)+1:=by rw[IntKind.wrap_i64];omega
 obtain⟨w3,hw3⟩:∃ w3,w2.alloc (.cells #[.int .i64 0,.int .i64 0,.int .i64 0,.int .i64 0,.int .i64 0,.int .i64 0,.string ⟨#[]⟩,.string ⟨#[]⟩,.bool false,.int .i64 0,.int .i64 0] 147)=w3:=⟨_,rfl⟩
 have hb3:Below w.heap.size w w3:=by rw[←hw3];exact hb2.alloc hb2.size _
 have hz3:w3.heap.size=w.heap.size+2:=by rw[←hw3];simp;omega
 have fQ:Whole w3 w2.heap.size #[.int .i64 0,.int .i64 0,.int .i64 0,.int .i64 0,.int .i64 0,.int .i64 0,.string ⟨#[]⟩,.string ⟨#[]⟩,.bool false,.int .i64 0,.int .i64 0] 147:=by rw[←hw3];exact Whole.new w2 _ _
 have hR3:Whole w3 w.heap.size #[.int .i64 0,.int .i64 0,.int .i64 0,.int .i64 0,.int .i64 0,.int .i64 0,.string ⟨#[]⟩,.string ⟨#[]⟩,.bool false,.int .i64 0,.int .i64 0] 147:=by rw[←hw3];exact hR2.alloc _
 have y0:w3.cell? ⟨w2.heap.size,0,none⟩=some (.int .i64 0):=fQ.cell 0;have Cy:=fQ.free 0;have y1:w3.cell? ⟨w2.heap.size,1,none⟩=some (.int .i64 0):=fQ.cell 1;have Cz:=fQ.free 1;have y2:w3.cell? ⟨w2.heap.size,2,none⟩=some (.int .i64 0):=fQ.cell 2;have CB:=fQ.free 2;have y3:w3.cell? ⟨w2.heap.size,3,none⟩=some (.int .i64 0):=fQ.cell 3;have CF:=fQ.free 3;have y4:w3.cell? ⟨w2.heap.size,4,none⟩=some (.int .i64 0):=fQ.cell 4;have CG:=fQ.free 4;have y5:w3.cell? ⟨w2.heap.size,5,none⟩=some (.int .i64 0):=fQ.cell 5;have CJ:=fQ.free 5;have y6:w3.cell? ⟨w2.heap.size,6,none⟩=some (.string ⟨#[]⟩):=fQ.cell 6;have CK:=fQ.free 6;have y7:w3.cell? ⟨w2.heap.size,7,none⟩=some (.string ⟨#[]⟩):=fQ.cell 7;have CO:=fQ.free 7;have y8:w3.cell? ⟨w2.heap.size,8,none⟩=some (.bool false):=fQ.cell 8;have CP:=fQ.free 8;have y9:w3.cell? ⟨w2.heap.size,9,none⟩=some (.int .i64 0):=fQ.cell 9;have EA:=fQ.free 9;have wJ:w3.cell? ⟨w2.heap.size,10,none⟩=some (.int .i64 0):=fQ.cell 10;have rH:=fQ.free 10;obtain⟨w4,hw4,Dh,g4⟩:=jZ fQ (.int .i64 2) (.int .i64 (p:Int)) (.int .i64 (i:Int)) (.int .i64 X1) (.int .i64 X2) (.int .i64 (d:Int)) (.string ⟨#[]⟩) (.string ⟨#[]⟩) (.bool false) (.int .i64 0) (.int .i64 0);have hb4:Below w.heap.size w w4:=hb3.grown g4 hb3.size (fun j hj=>by simp at hj;omega);have hR4:=hR3.grown g4 (fun e=>by simp at e;omega);have hz4:w.heap.size+2≤w4.heap.size:=by have:=g4.size;omega
 have EU:=zh hz4;have wh:=zh Dh;have HR4:=zh hR4;have uG:=zh hb4;have Un:=zh (And.intro hcp hbn);have HL2:=zh xM;have HZ2:=zh hz2';clear hz2' hb2 hR2 hm2 hK2 e1 e2 hb3 hz3 fQ hR3 hb4 hR4 Dh g4 hz4 QV hbn hcp xM HR1 HB1 aU fE;go_wp2_with fail;refine HA1.out.mono ?_;rintro e w2' ⟨rfl,H8⟩;obtain rfl:=H8.symm;go_wp2_with fail;refine HA2.out.mono ?_;rintro e w2' ⟨rfl,H8⟩;obtain rfl:=H8.symm;clear HA1 HA2;go_wp2_with fail;have uD:=uG.out.trans ((bB _ w4).mono uG.out.size);obtain⟨w5,eH⟩:∃ w5,w4.drew.alloc (.cells #[] 3)=w5:=⟨_,rfl⟩
 have hb5:Below w.heap.size w w5:=by rw[←eH];exact uD.alloc uD.size _
 have mq:=zh hb5;have JF:=zh (vY.out _ uD).cell.1;have H9:=zh (vY.out _ hb5).cell.1;have fG:Below w4.heap.size w4 w5:=by rw[←eH];exact (bB _ w4).alloc (Nat.le_refl _) _
 have Ia:=zh fG;have Nc:=fG.size;have e5:TR w5 w4.heap.size 3 1 (.slice (some ⟨w4.heap.size,0,none⟩) 0 0) 0 []:=by rw[←eH];exact lu w4.drew 3 1
 have Zd:∀ W,Below w.heap.size w W→TR W base 3 1 (.slice (some ⟨ga,o,none⟩) (d+1+b) cp) (d+1+b) (ints (f p).kids):=fun W hb=>by
  have:=Pq.out W hb;rw[HL2.out,HV.out,hA,Un.out.1,HD.out,Un.out.2] at this;exact this
 have ht1:(ints (f p).kids).take (d*1)=ints l1:=by rw[Nat.mul_one,BR,HL.out];congr 1;exact List.take_left' HD.out
 have ht2:(ints (f p).kids).drop ((d+1)*1)=ints l2:=by
  rw[Nat.mul_one,BS,HL.out];congr 1;rw[show l1++(i:Int)::l2=(l1++[(i:Int)])++l2 from by simp];exact List.drop_left' (by rw[List.length_append,HD.out];rfl)
 have VO:∀ W,Below w.heap.size w W→TR W base 3 1 (.slice (some ⟨ga,o,none⟩) d cp) d (ints l1)∧TR W base 3 1 (.slice (if cp=d+1 then some ⟨ga,o,none⟩ else some ⟨ga,o+(d+1),none⟩) b (cp - (d+1))) b (ints l2):=fun W hb=>by
  have h1:=(Zd W hb).head (k:=d) (by omega);have h2:=(Zd W hb).tail (k:=d+1) (by omega);rw[ht1] at h1;rw[ht2,Nat.add_sub_cancel_left] at h2;have et:tailV (.slice (some ⟨ga,o,none⟩) (d+1+b) cp) (d+1) 1=.slice (if cp=d+1 then some ⟨ga,o,none⟩ else some ⟨ga,o+(d+1),none⟩) b (cp - (d+1)):=by
   unfold tailV;simp only[Option.map_some,Nat.mul_one,Addr.add_lit,Nat.add_sub_cancel_left]
  rw[et] at h2;exact⟨h1,h2⟩
 have s1:=(VO w5 hb5).1.source;have hya:=(VO w5 hb5).1.1;have hyb:=(VO w5 hb5).2.1;have Fj:=zh VO;have hdc:(d:Int)≤(cp:Int):=by omega
 have hi2:(d:Int)+1≤((d+1+b:Nat):Int):=by omega
 have hi3:(0:Int)≤(d:Int)+1:=by omega
 have UO:(d:Int)+1≤(d:Int)+1+(b:Int):=by omega
 have ht1':((d:Int)+1).toNat=d+1:=by omega
 clear uD hb5 fG Zd ht1 ht2 VO;go_wp2_with fail;refine wp_region_noPanic ?_;refine wp_region_held_drew (S:=(fun W=>W.cell? ⟨M,0,none⟩=some (.slice (some ⟨g,0,none⟩) m c))) (by kernel_rfl) ?_ (fun hHeld=>?_)
 ·exact JF.out
 refine bD [0,1,2,3,4,6,7,8,10,11,12,13] ?_;iterate 12 (refine iZ ?_;try simp only[pS])
 refine bE ?_;refine bL 5 fun K hK=>?_;go_simp;(try rw[eH]);refine hK.out _ _ (H9.out) fun hHeld=>?_;clear hK K;(try simp only[pS]);refine bL 9 fun K hK=>?_;refine aM rfl _ _ 31 rfl w4.heap.size 3 i0 (.int .i64 0) 1 8 Tryz.underlying31 hi0 hz0 hz1 hz2 rfl (by decide) _ 0 [] rfl e5 _ d (ints l1) rfl hya s1 (dY _) ?c4 ?c5 Nc ?_
 case c4=>unfold maxLen;omega
 case c5=>omega
 intro v7 w7 o7 um f7;have g7:w5.grownBy w7 (Value.slice (some ⟨w4.heap.size,0,none⟩) 0 0).ownBlock:=um;clear um;(try simp only[Nat.zero_add,List.nil_append] at o7);obtain⟨A7,c7,rfl⟩:=o7.form;have zl:Below w4.heap.size w4 w7:=Ia.out.grown g7 Ia.out.size (fun j hj=>by simp[Value.ownBlock] at hj;omega);have lK:=uG.out.trans (zl.mono uG.out.size);have qV:=vY.out w7 lK;have s2:=(Fj.out w7 lK).2.source;have SB:=zl.size;refine hK.out _ _ (qV.cell.1) fun hHeld=>?_;clear hK K;(try simp only[pS]);refine bL 14 fun K hK=>?_;refine aM rfl _ _ 31 rfl w4.heap.size 3 i0 (.int .i64 0) 1 8 Tryz.underlying31 hi0 hz0 hz1 hz2 rfl (by decide) _ d (ints l1) rfl o7 _ b (ints l2) rfl hyb s2 (dY _) ?c4 ?c5 SB ?_
 case c4=>unfold maxLen;omega
 case c5=>omega
 intro v8 w8 o8 g8 f8;rw[←dX] at o8;have hb48:Below w4.heap.size w4 w8:=zl.grown g8 zl.size (fun j hj=>(o7.lt j hj).1);have jo:=uG.out.trans (hb48.mono uG.out.size);have PE:=vY.out w8 jo;obtain⟨A8,c8,rfl⟩:=o8.form;have VP:(l1++l2).length=d+b:=by rw[List.length_append,HD.out,Un.out.2]
 obtain⟨_,fz,hcells,tV,xH⟩:=(vY.out w4 uG.out).zi (sl:=⟨A8,d+b,c8⟩) (l':=l1++l2) hpm (Below.refl _ w4) (ak hb48 _) (by rw[VP];exact o8.lower (by have:=uG.out.size;omega)) (.inr fun k hk=>(o8.lt k hk).1);have hpc:=hcells p 5 hpm (by omega);have hY8:=wh.out.below hb48 wh.out.lt;have hR8:=HR4.out.below hb48 HR4.out.lt;have gg:w8.grownBy (w8.setCell ⟨g,p*7+5,none⟩ (.slice A8 (d+b) c8)) (some g):=aL (ak (Below.refl w8.heap.size w8) _) _ _;have GJ:=hY8.grown gg (fun e=>by simp at e;have:=HZ2.out;omega);have Ze:=hR8.grown gg (fun e=>by simp at e;omega);obtain⟨w9,wu⟩:∃ w9,w8.setCell ⟨g,p*7+5,none⟩ (.slice A8 (d+b) c8)=w9:=⟨_,rfl⟩
 rw[show (Tr.Sl.v ⟨A8,d+b,c8⟩)=.slice A8 (d+b) c8 from rfl,wu] at tV xH;rw[wu] at GJ Ze;rw[show (pR (f p))[5]?=some ((f p).k.v) from rfl] at hpc;have SC:=zh (And.intro tV xH);have MO:=zh GJ;have HR9:=zh Ze;have BI:=tV.cell.1;clear tV xH GJ Ze hY8 hR8 gg hcells hb48 zl lK qV o7 o8 g8 f7 f8 g7 s2 VP;refine hK.out _ _ (PE.cell.1) fun hHeld=>?_;clear hK K;(try simp only[pS]);refine bD [15,16] ?_;iterate 2 (refine iZ ?_;try simp only[pS])
 refine bE ?_;refine bL 17 fun K hK=>?_;go_simp;(try rw[wu]);refine hK.out _ _ (BI) fun hHeld=>?_;clear hK K;(try simp only[pS]);refine fB ?_;obtain⟨g',e',_,_,_,_,d4,_,_⟩:=SC.out.1.read hi;obtain rfl:g=g':=by injection e' with e';injection e'
 obtain⟨g',e',_,_,_,Q8⟩:=SC.out.1.node (by omega);obtain rfl:g=g':=by injection e' with e';injection e'
 have z4:=(Q8 i 4 hi (by omega)).2;obtain⟨eF,eZ⟩:=SC.out.1.put (v:=.int .i64 (-1)) hi (by omega:4<7) (fun n=>{ n with pa := -1 }) rfl ⟨rfl,rfl,rfl,rfl⟩;have g10:w9.grownBy (w9.setCell ⟨g,i*7+4,none⟩ (.int .i64 (-1))) (some g):=aL (ak (Below.refl w9.heap.size w9) _) _ _;have mU:=MO.out.grown g10 (fun e=>by simp at e;have:=HZ2.out;omega);have mD:=HR9.out.grown g10 (fun e=>by simp at e;omega);obtain⟨eD,gU⟩:∃ eD,w9.setCell ⟨g,i*7+4,none⟩ (.int .i64 (-1))=eD:=⟨_,rfl⟩
 rw[gU] at eF eZ mU mD;have y0:eD.cell? ⟨w2.heap.size,0,none⟩=some (.int .i64 2):=mU.cell 0;have Cy:=mU.free 0;have y1:eD.cell? ⟨w2.heap.size,1,none⟩=some (.int .i64 (p:Int)):=mU.cell 1;have Cz:=mU.free 1;have y2:eD.cell? ⟨w2.heap.size,2,none⟩=some (.int .i64 (i:Int)):=mU.cell 2;have CB:=mU.free 2;have y3:eD.cell? ⟨w2.heap.size,3,none⟩=some (.int .i64 X1):=mU.cell 3;have CF:=mU.free 3;have y4:eD.cell? ⟨w2.heap.size,4,none⟩=some (.int .i64 X2):=mU.cell 4;have CG:=mU.free 4;have y5:eD.cell? ⟨w2.heap.size,5,none⟩=some (.int .i64 (d:Int)):=mU.cell 5;have CJ:=mU.free 5;have y6:eD.cell? ⟨w2.heap.size,6,none⟩=some (.string ⟨#[]⟩):=mU.cell 6;have CK:=mU.free 6;have y7:eD.cell? ⟨w2.heap.size,7,none⟩=some (.string ⟨#[]⟩):=mU.cell 7;have CO:=mU.free 7;have y8:eD.cell? ⟨w2.heap.size,8,none⟩=some (.bool false):=mU.cell 8;have CP:=mU.free 8;have y9:eD.cell? ⟨w2.heap.size,9,none⟩=some (.int .i64 0):=mU.cell 9;have EA:=mU.free 9;have wJ:eD.cell? ⟨w2.heap.size,10,none⟩=some (.int .i64 0):=mU.cell 10;have rH:=mU.free 10;have r0:eD.cell? ⟨w.heap.size,0,none⟩=some (.int .i64 0):=mD.cell 0;have rf0:=mD.free 0;have r1:eD.cell? ⟨w.heap.size,1,none⟩=some (.int .i64 0):=mD.cell 1;have rf1:=mD.free 1;have r2:eD.cell? ⟨w.heap.size,2,none⟩=some (.int .i64 0):=mD.cell 2;have rf2:=mD.free 2;have r3:eD.cell? ⟨w.heap.size,3,none⟩=some (.int .i64 0):=mD.cell 3;have rf3:=mD.free 3;have r4:eD.cell? ⟨w.heap.size,4,none⟩=some (.int .i64 0):=mD.cell 4;have rf4:=mD.free 4;have r5:eD.cell? ⟨w.heap.size,5,none⟩=some (.int .i64 0):=mD.cell 5;have rf5:=mD.free 5;have r6:eD.cell? ⟨w.heap.size,6,none⟩=some (.string ⟨#[]⟩):=mD.cell 6;have rf6:=mD.free 6;have r7:eD.cell? ⟨w.heap.size,7,none⟩=some (.string ⟨#[]⟩):=mD.cell 7;have rf7:=mD.free 7;have r8:eD.cell? ⟨w.heap.size,8,none⟩=some (.bool false):=mD.cell 8;have rf8:=mD.free 8;have r9:eD.cell? ⟨w.heap.size,9,none⟩=some (.int .i64 0):=mD.cell 9;have rf9:=mD.free 9;have r10:eD.cell? ⟨w.heap.size,10,none⟩=some (.int .i64 0):=mD.cell 10;have aaO:=mD.free 10;obtain⟨jV,KO,nO,g11⟩:=jZ mD (.int .i64 2) (.int .i64 (p:Int)) (.int .i64 (i:Int)) (.int .i64 X1) (.int .i64 X2) (.int .i64 (d:Int)) (.string ⟨#[]⟩) (.string ⟨#[]⟩) (.bool false) (.int .i64 0) (.int .i64 0);have s0:jV.cell? ⟨w.heap.size,0,none⟩=some (.int .i64 2):=nO.cell 0;have UR:=nO.free 0;have s1:jV.cell? ⟨w.heap.size,1,none⟩=some (.int .i64 (p:Int)):=nO.cell 1;have UU:=nO.free 1;have s2:jV.cell? ⟨w.heap.size,2,none⟩=some (.int .i64 (i:Int)):=nO.cell 2;have UW:=nO.free 2;have s3:jV.cell? ⟨w.heap.size,3,none⟩=some (.int .i64 X1):=nO.cell 3;have UY:=nO.free 3;have s4:jV.cell? ⟨w.heap.size,4,none⟩=some (.int .i64 X2):=nO.cell 4;have UZ:=nO.free 4;have s5:jV.cell? ⟨w.heap.size,5,none⟩=some (.int .i64 (d:Int)):=nO.cell 5;have U0:=nO.free 5;have s6:jV.cell? ⟨w.heap.size,6,none⟩=some (.string ⟨#[]⟩):=nO.cell 6;have U3:=nO.free 6;have s7:jV.cell? ⟨w.heap.size,7,none⟩=some (.string ⟨#[]⟩):=nO.cell 7;have U4:=nO.free 7;have s8:jV.cell? ⟨w.heap.size,8,none⟩=some (.bool false):=nO.cell 8;have U5:=nO.free 8;have s9:jV.cell? ⟨w.heap.size,9,none⟩=some (.int .i64 0):=nO.cell 9;have U6:=nO.free 9;have s10:jV.cell? ⟨w.heap.size,10,none⟩=some (.int .i64 0):=nO.cell 10;have Mw:=nO.free 10;have VQ:∀ x,w.heap.size≤x→x<w4.heap.size→¬ aB M (.slice (some ⟨g,0,none⟩) m c) m (bg (bg f p fun n=>{ n with k:=⟨A8,d+b,c8⟩,kids:=l1++l2 }) i fun n=>{ n with pa := -1 }) x:=fun x h1 h2 hf=>by
  have h3:=(SC.out.2.trans eZ).2 x h2 hf;have h4:=(Za.out.lt x h3).2;omega
 have uZ:=eF.turns (S:=fun x=>x=w.heap.size) (.aZ g11 (fun k hk=>by simpa using hk.symm)) (fun x hx e=>VQ x (by omega) (by have:=EU.out;omega) hx);have KQ:Turns (fun x=>x=w.heap.size) eD jV:=.aZ g11 (fun k hk=>by simpa using hk.symm);have stA:=(ay.of_below (F:=aB M (.slice (some ⟨g,0,none⟩) m c) m f) uG.out).trans (SC.out.2.trans eZ);have Uo:ay w jV (aB M (.slice (some ⟨g,0,none⟩) m c) m f) (aB M (.slice (some ⟨g,0,none⟩) m c) m (bg (bg f p fun n=>{ n with k:=⟨A8,d+b,c8⟩,kids:=l1++l2 }) i fun n=>{ n with pa := -1 })):=
  ⟨stA.1.trans KQ (fun _ _ x=>x) (fun k hk e=>by omega),stA.2⟩
 have bf:=zh (And.intro uZ Uo);clear uZ Uo stA KQ VQ eF eZ;clear Q8 mD mU nO;go_wp2_with fail;all_goals
  refine bodyPost_ret (v:=rrV ⟨2,p,i,X1,X2,d,⟨#[]⟩,⟨#[]⟩,false,0,0⟩) ?_ rfl ⟨by rw[HD.out],?_⟩
  ·simp[results,Tryz.f117,go_sem,s0,s1,s2,s3,s4,s5,s6,s7,s8,s9,s10]
  ·have e:(bg (bg f p fun n=>{ n with k:=⟨A8,d+b,c8⟩,kids:=n.kids.erase (i:Int) }) i fun n=>{ n with pa := -1 })=(bg (bg f p fun n=>{ n with k:=⟨A8,d+b,c8⟩,kids:=l1++l2 }) i fun n=>{ n with pa := -1 }):=by
    funext j;unfold bg;dsimp only;rw[Zb.out]
   refine⟨⟨A8,d+b,c8⟩,?_⟩;rw[e];exact bf.out
end
end Go.Proofs.YtnbaadpgbcklaaaGreatDoor
