/- Part of a proof about trees. -/
import Derived.Test.YtnbaadpgbcklaaaGreatDoorS02
set_option linter.unusedVariables false
set_option linter.unusedSimpArgs false
set_option maxHeartbeats 4000000
set_option maxRecDepth 100000
namespace Go.Proofs.YtnbaadpgbcklaaaGreatDoor
section
open Go.RowKit
theorem rU:(Tryz.prog.info? 3).map (fun i=>(i.zero,i.size,i.bytes))=some (some (.int .i64 0),1,8):=by kernel_rfl
def wQ (l:List Int) (i:Int):Int:=if i<0 then -1 else (l[i.toNat]?).getD (-1)
abbrev rrV (r:Tr.Rec):Value:=Z7 r
def kH (m:Nat) (f:Nat→RS) (kind:Int) (i p:Nat):Tr.Rec:=⟨kind,p,i,wQ (f p).kids (((f p).kids.idxOf (i:Int):Nat) - 1),wQ (f p).kids (((f p).kids.idxOf (i:Int):Nat)+1),((f p).kids.idxOf (i:Int):Nat),⟨#[]⟩,⟨#[]⟩,false,0,0⟩
theorem lH (w:World) (E:TypeId) (size:Nat):TR (w.alloc (.cells #[] E)) w.heap.size E size (.slice (some ⟨w.heap.size,0,none⟩) 0 0) 0 []:=by
 have h:=World.ownsRow_lit (base:=w.heap.size) (e:=E) (size:=size) w #[] 0 (Nat.le_refl _) (Nat.zero_le _) (by simp);exact .jN (by simpa using h)
theorem below_drewN (n:Nat) (w:World) (k:Nat):Below n w (w.drewN k):=⟨rfl,rfl,rfl,Nat.le_refl _,fun _ _=>rfl⟩
theorem aZ (n:Nat) (w:World):Below n w w.drew:=⟨rfl,rfl,rfl,Nat.le_refl _,fun _ _=>rfl⟩
theorem FH (base M m:Nat) (vs:Value) (f:Nat→RS) (i p:Nat) (w:World) (H:MV base w M vs m f) (hw:Tr.WF (-1) (mg m f)) (hi:i<m) (hg:(f i).gone=false) (hp:(f i).pa=(p:Int)) (hm:m≤100000):
  Calls Tryz.prog 117 #[.pointer (some ⟨M,0,none⟩),.int .i64 (i:Int)] w fun e w'=>e=.returned (rrV (kH m f 2 i p))∧∃ sl,MV base w' M vs m (aV (aV f p fun n=>{ n with k:=sl,kids:=n.kids.erase (i:Int) }) i fun n=>{ n with pa := -1 })∧aB w w' (aC M vs m f) (aC M vs m (aV (aV f p fun n=>{ n with k:=sl,kids:=n.kids.erase (i:Int) }) i fun n=>{ n with pa := -1 })):=by
 obtain⟨i0,hi0,hz0,hz1,hz2⟩:=info_parts rU;obtain⟨A,c,rfl⟩:=H.form;have hpl:(mg m f (p:Int)).isSome∧(i:Int)∈(f p).kids∧p<m∧(f p).gone=false:=by
  rcases hw.pa (aQ hi hg) with h1 | ⟨n,h1,h2⟩
  ·exact absurd (show (f i).pa = -1 from h1) (by omega)
  ·rw[show (jD (f i)).pa=(p:Int) from hp] at h1;obtain⟨p',e1,e2,e3,e4⟩:=kK h1;obtain rfl:p=p':=by omega
   exact⟨by rw[h1];rfl,by rw[e4] at h2;exact h2,e2,e3⟩
 obtain⟨_,hmem,hpm,hpg⟩:=hpl;have hpi:p≠i:=fun e=>by
  have:=hw.iF (aQ hi hg);exact this (by show (f i).pa=_;rw[hp,e])
 obtain⟨l1,l2,hL⟩:=List.append_of_mem hmem;have hnd:(f p).kids.Nodup:=hw.nodup _ _ (aQ hpm hpg);have hno:(i:Int)∉l1:=by
  intro hx;rw[hL] at hnd;exact (List.nodup_append.1 hnd).2.2 _ hx _ (by simp) rfl
 have hix:(f p).kids.idxOf (i:Int)=l1.length:=by rw[hL,Tr.dW hno]
 have hidx:jO m f i=(l1.length:Nat):=by unfold jO;rw[if_neg (by omega),hp,Int.toNat_natCast,hix]
 have her:(f p).kids.erase (i:Int)=l1++l2:=by rw[hL,Tr.xK hno]
 have hle:=lI hw hpm hpg;have hlen:(f p).kids.length=l1.length+1+l2.length:=by rw[hL];simp;omega
 have hkn:=H.kn hpm;have YQ:=H.kr p hpm;have hv:(f p).k.v=.slice (f p).k.a (l1.length+1+l2.length) (f p).k.c:=by unfold Tr.Sl.v;rw[hkn,hlen]
 rw[hv,hlen] at YQ;have hcap:=YQ.le;obtain⟨ga,o,hA⟩:∃ ga o,(f p).k.a=some ⟨ga,o,none⟩:=by
  obtain⟨ga,o,e,_⟩:=YQ.cells (by omega);exact⟨ga,o,e⟩
 unfold kH;rw[hix];obtain⟨X1,hX1⟩:=eX (wQ (f p).kids ((l1.length:Nat) - 1))
 obtain⟨X2,hX2⟩:=eX (wQ (f p).kids ((l1.length:Nat)+1))
 rw[hX1,hX2];obtain⟨d,hd⟩:=eX (l1.length)
 have abx:=H.var.lt;have YR:base≤w.heap.size:=by have:=H.low;omega
 obtain⟨g,rfl,-⟩:=H.read hi;have q0:(0:Int)≤(i:Int):=by omega
 have q1:(i:Int)<(m:Int):=by omega
 have p0:(0:Int)≤(p:Int):=by omega
 have p1:(p:Int)<(m:Int):=by omega
 obtain⟨w1,hw1⟩:=eX (w.alloc (.cells #[.int .i64 0,.int .i64 0,.int .i64 0,.int .i64 0,.int .i64 0,.int .i64 0,.string ⟨#[]⟩,.string ⟨#[]⟩,.bool false,.int .i64 0,.int .i64 0] 147))
 have hb1:Below w.heap.size w w1:=gP hw1;have hZ1:w1.heap.size=w.heap.size+1:=by rw[←hw1];simp
 have DT:Whole w1 w.heap.size #[.int .i64 0,.int .i64 0,.int .i64 0,.int .i64 0,.int .i64 0,.int .i64 0,.string ⟨#[]⟩,.string ⟨#[]⟩,.bool false,.int .i64 0,.int .i64 0] 147:=by rw[←hw1];exact Whole.new w _ _
 have hM1:=H.below hb1;have Sb:=zh fun nq=>uE base M m _ f i (w1.drewN nq) (hM1.below (below_drewN _ w1 nq)) hw hi hg hm;rw[hidx,hd] at Sb;have k1:=hM1.cell.1;obtain⟨g',e',_,_,_,_,c4,_,_⟩:=hM1.read hi;obtain rfl:g=g':=by injection e' with e';injection e'
 rw[hp] at c4;have Z8:=zh H;have hgl:g<w.heap.size:=(H.row.lt g rfl).2;have yF:=zh (fun (W:World) (hb:Below w.heap.size w W)=>H.below hb);have Qf:=zh (fun (W:World) (hb:Below w.heap.size w W)=>(H.kr p hpm).below hb);have HL:=zh hL;have fu:=zh hX1;have gH:=zh hX2;have HD:=zh hd;have Z9:=zh her;have HV:=zh hv;have HZ1:=zh hZ1;have HB1:=zh hb1;have HR1:=zh DT;have Sc:=zh hle;have HLEN:=zh hlen;have HKN:=zh hkn;have HPI:=zh hpi;rw[hlen] at hle;rw[hd] at hle hcap;clear hL hX1 hX2 hd her hv hZ1 hb1 DT hlen hkn YQ hM1 hix hidx hno hnd hmem H hw hpi
 go_enter Tryz.func117,Tryz.ntmps117
 go_wp2_with fail;(try rw[hw1]);go_wp2_with fail
 go_quiet (first | (go_at_call 95;exact Calls.quiet_of_same (Sb.out _)))
 obtain⟨w2,hw2⟩:=eX (w1.drewN nq)
 rw[hw2];have hb2:Below w.heap.size w w2:=by rw[←hw2];exact HB1.out.trans (below_drewN _ w1 nq)
 have hz2':w2.heap.size=w.heap.size+1:=by rw[←hw2];exact HZ1.out
 have hR2:Whole w2 w.heap.size #[.int .i64 0,.int .i64 0,.int .i64 0,.int .i64 0,.int .i64 0,.int .i64 0,.string ⟨#[]⟩,.string ⟨#[]⟩,.bool false,.int .i64 0,.int .i64 0] 147:=by rw[←hw2];exact HR1.out
 have hm2:=yF.out w2 hb2;have k2:=hm2.cell.1;obtain⟨g',e',_,_,_,_,_,c5,_⟩:=hm2.read hpm;obtain rfl:g=g':=by injection e' with e';injection e'
 obtain⟨b,hbn⟩:=eX (l2.length)
 obtain⟨cp,hcp⟩:=eX ((f p).k.c)
 rw[hcp,hbn] at hcap;rw[hbn] at hle;have rP:(f p).kids.length=d+1+b:=by rw[HLEN.out,HD.out,hbn]
 rw[HKN.out,rP,hA,hcp] at c5;have hK2:=Qf.out w2 hb2;rw[rP,HV.out,hA,hcp,HD.out,hbn] at hK2;have hn1:((d+1+b:Nat):Int)=(d:Int)+1+(b:Int):=by omega
 have HA1:=vk base (.slice (some ⟨ga,o,none⟩) (d+1+b) cp) (f p).kids ((d:Int) - 1) w2 (by rw[rP];exact hK2) (by constructor<;>omega) (by rw[rP];omega);have HA2:=vk base (.slice (some ⟨ga,o,none⟩) (d+1+b) cp) (f p).kids ((d:Int)+1) w2 (by rw[rP];exact hK2) (by constructor<;>omega) (by rw[rP];omega);have e1:=fu.out;have e2:=gH.out;rw[HD.out] at e1 e2;unfold wQ at e1 e2;rw[e1] at HA1;rw[e2] at HA2;have HA1:=zh HA1;have HA2:=zh HA2;have hs1:IntKind.i64.wrap ((d:Int) - 1)=(d:Int) - 1:=by rw[IntKind.wrap_i64];omega
 have hs2:IntKind.i64.wrap ((d:Int)+1)=(d:Int)+1:=by rw[IntKind.wrap_i64];omega
 obtain⟨w3,hw3⟩:=eX (w2.alloc (.cells #[.int .i64 0,.int .i64 0,.int .i64 0,.int .i64 0,.int .i64 0,.int .i64 0,.string ⟨#[]⟩,.string ⟨#[]⟩,.bool false,.int .i64 0,.int .i64 0] 147))
 have hb3:Below w.heap.size w w3:=by rw[←hw3];exact hb2.alloc hb2.size _
 have hz3:w3.heap.size=w.heap.size+2:=by rw[←hw3];simp;omega
 have fG:Whole w3 w2.heap.size #[.int .i64 0,.int .i64 0,.int .i64 0,.int .i64 0,.int .i64 0,.int .i64 0,.string ⟨#[]⟩,.string ⟨#[]⟩,.bool false,.int .i64 0,.int .i64 0] 147:=by rw[←hw3];exact Whole.new w2 _ _
 have hR3:Whole w3 w.heap.size #[.int .i64 0,.int .i64 0,.int .i64 0,.int .i64 0,.int .i64 0,.int .i64 0,.string ⟨#[]⟩,.string ⟨#[]⟩,.bool false,.int .i64 0,.int .i64 0] 147:=by rw[←hw3];exact hR2.alloc _
 have y0:w3.cell? ⟨w2.heap.size,0,none⟩=some (.int .i64 0):=fG.cell 0;have AU:=fG.free 0;have y1:w3.cell? ⟨w2.heap.size,1,none⟩=some (.int .i64 0):=fG.cell 1;have AV:=fG.free 1;have y2:w3.cell? ⟨w2.heap.size,2,none⟩=some (.int .i64 0):=fG.cell 2;have AX:=fG.free 2;have y3:w3.cell? ⟨w2.heap.size,3,none⟩=some (.int .i64 0):=fG.cell 3;have AY:=fG.free 3;have y4:w3.cell? ⟨w2.heap.size,4,none⟩=some (.int .i64 0):=fG.cell 4;have AZ:=fG.free 4;have y5:w3.cell? ⟨w2.heap.size,5,none⟩=some (.int .i64 0):=fG.cell 5;have Ba:=fG.free 5;have y6:w3.cell? ⟨w2.heap.size,6,none⟩=some (.string ⟨#[]⟩):=fG.cell 6;have Bb:=fG.free 6;have y7:w3.cell? ⟨w2.heap.size,7,none⟩=some (.string ⟨#[]⟩):=fG.cell 7;have Bc:=fG.free 7;have y8:w3.cell? ⟨w2.heap.size,8,none⟩=some (.bool false):=fG.cell 8;have Bd:=fG.free 8;have y9:w3.cell? ⟨w2.heap.size,9,none⟩=some (.int .i64 0):=fG.cell 9;have EM:=fG.free 9;have wH:w3.cell? ⟨w2.heap.size,10,none⟩=some (.int .i64 0):=fG.cell 10;have rF:=fG.free 10;obtain⟨w4,hw4,wM,g4⟩:=kG fG (.int .i64 2) (.int .i64 (p:Int)) (.int .i64 (i:Int)) (.int .i64 X1) (.int .i64 X2) (.int .i64 (d:Int)) (.string ⟨#[]⟩) (.string ⟨#[]⟩) (.bool false) (.int .i64 0) (.int .i64 0);have hb4:Below w.heap.size w w4:=hb3.grown g4 hb3.size (fun j hj=>by simp at hj;omega);have hR4:=hR3.grown g4 (fun e=>by simp at e;omega);have YS:w.heap.size+2≤w4.heap.size:=by have:=g4.size;omega
 have E8:=zh YS;have vZ:=zh wM;have HR4:=zh hR4;have uy:=zh hb4;have IW:=zh (And.intro hcp hbn);have HL2:=zh rP;have HZ2:=zh hz2';clear hz2' hb2 hR2 hm2 hK2 e1 e2 hb3 hz3 fG hR3 hb4 hR4 wM g4 YS Sb hbn hcp rP HR1 HB1 fu gH;go_wp2_with fail;refine HA1.out.mono ?_;rintro e w2' ⟨rfl,IX⟩;obtain rfl:=IX.symm;go_wp2_with fail;refine HA2.out.mono ?_;rintro e w2' ⟨rfl,IX⟩;obtain rfl:=IX.symm;clear HA1 HA2;go_wp2_with fail;have lW:=uy.out.trans ((aZ _ w4).mono uy.out.size);obtain⟨w5,fU⟩:=eX (w4.drew.alloc (.cells #[] 3))
 have hb5:Below w.heap.size w w5:=by rw[←fU];exact lW.alloc lW.size _
 have oK:=zh hb5;have Kj:=zh (yF.out _ lW).cell.1;have IY:=zh (yF.out _ hb5).cell.1;have eY:Below w4.heap.size w4 w5:=by rw[←fU];exact (aZ _ w4).alloc (Nat.le_refl _) _
 have IZ:=zh eY;have N8:=eY.size;have e5:TR w5 w4.heap.size 3 1 (.slice (some ⟨w4.heap.size,0,none⟩) 0 0) 0 []:=by rw[←fU];exact lH w4.drew 3 1
 have hKS:∀ W,Below w.heap.size w W→TR W base 3 1 (.slice (some ⟨ga,o,none⟩) (d+1+b) cp) (d+1+b) (ints (f p).kids):=fun W hb=>by
  have:=Qf.out W hb;rw[HL2.out,HV.out,hA,IW.out.1,HD.out,IW.out.2] at this;exact this
 have ht1:(ints (f p).kids).take (d*1)=ints l1:=by rw[Nat.mul_one,Cq,HL.out];congr 1;exact List.take_left' HD.out
 have ht2:(ints (f p).kids).drop ((d+1)*1)=ints l2:=by
  rw[Nat.mul_one,Cr,HL.out];congr 1;rw[show l1++(i:Int)::l2=(l1++[(i:Int)])++l2 from by simp];exact List.drop_left' (by rw[List.length_append,HD.out];rfl)
 have WQ:∀ W,Below w.heap.size w W→TR W base 3 1 (.slice (some ⟨ga,o,none⟩) d cp) d (ints l1)∧TR W base 3 1 (.slice (if cp=d+1 then some ⟨ga,o,none⟩ else some ⟨ga,o+(d+1),none⟩) b (cp - (d+1))) b (ints l2):=fun W hb=>by
  have h1:=(hKS W hb).head (k:=d) (by omega);have h2:=(hKS W hb).tail (k:=d+1) (by omega);rw[ht1] at h1;rw[ht2,Nat.add_sub_cancel_left] at h2;have et:tailV (.slice (some ⟨ga,o,none⟩) (d+1+b) cp) (d+1) 1=.slice (if cp=d+1 then some ⟨ga,o,none⟩ else some ⟨ga,o+(d+1),none⟩) b (cp - (d+1)):=by
   unfold tailV;simp only[Option.map_some,Nat.mul_one,Addr.add_lit,Nat.add_sub_cancel_left]
  rw[et] at h2;exact⟨h1,h2⟩
 have s1:=(WQ w5 hb5).1.source;have hya:=(WQ w5 hb5).1.1;have hyb:=(WQ w5 hb5).2.1;have Fx:=zh WQ;have hdc:(d:Int)≤(cp:Int):=by omega
 have hi2:(d:Int)+1≤((d+1+b:Nat):Int):=by omega
 have hi3:(0:Int)≤(d:Int)+1:=by omega
 have VN:(d:Int)+1≤(d:Int)+1+(b:Int):=by omega
 have ht1':((d:Int)+1).toNat=d+1:=by omega
 clear lW hb5 eY hKS ht1 ht2 WQ;go_wp2_with fail;refine wp_region_noPanic ?_;refine wp_region_held_drew (S:=(fun W=>W.cell? ⟨M,0,none⟩=some (.slice (some ⟨g,0,none⟩) m c))) (by kernel_rfl) ?_ (fun ah=>?_)
 ·exact Kj.out
 refine bE [0,1,2,3,4,6,7,8,10,11,12,13] ?_;iterate 12 (refine jf ?_;try simp only[pS])
 refine bF ?_;refine bI 5 fun K hK=>?_;go_simp;(try rw[fU]);refine hK.out _ _ (IY.out) fun ah=>?_;clear hK K;(try simp only[pS]);refine bI 9 fun K hK=>?_;refine aO rfl _ _ 31 rfl w4.heap.size 3 i0 (.int .i64 0) 1 8 Tryz.underlying31 hi0 hz0 hz1 hz2 rfl (by decide) _ 0 [] rfl e5 _ d (ints l1) rfl hya s1 (gB _) ?c4 ?c5 N8 ?_
 case c4=>unfold maxLen;omega
 case c5=>omega
 intro v7 w7 o7 uh f7;have g7:w5.grownBy w7 (Value.slice (some ⟨w4.heap.size,0,none⟩) 0 0).ownBlock:=uh;clear uh;(try simp only[Nat.zero_add,List.nil_append] at o7);obtain⟨A7,c7,rfl⟩:=o7.form;have zA:Below w4.heap.size w4 w7:=IZ.out.grown g7 IZ.out.size (fun j hj=>by simp[Value.ownBlock] at hj;omega);have ng:=uy.out.trans (zA.mono uy.out.size);have qQ:=yF.out w7 ng;have s2:=(Fx.out w7 ng).2.source;have TK:=zA.size;refine hK.out _ _ (qQ.cell.1) fun ah=>?_;clear hK K;(try simp only[pS]);refine bI 14 fun K hK=>?_;refine aO rfl _ _ 31 rfl w4.heap.size 3 i0 (.int .i64 0) 1 8 Tryz.underlying31 hi0 hz0 hz1 hz2 rfl (by decide) _ d (ints l1) rfl o7 _ b (ints l2) rfl hyb s2 (gB _) ?c4 ?c5 TK ?_
 case c4=>unfold maxLen;omega
 case c5=>omega
 intro v8 w8 o8 g8 f8;rw[←gY] at o8;have hb48:Below w4.heap.size w4 w8:=zA.grown g8 zA.size (fun j hj=>(o7.lt j hj).1);have jr:=uy.out.trans (hb48.mono uy.out.size);have Qx:=yF.out w8 jr;obtain⟨A8,c8,rfl⟩:=o8.form;have WR:(l1++l2).length=d+b:=by rw[List.length_append,HD.out,IW.out.2]
 obtain⟨_,fz,hcells,tQ,xE⟩:=(yF.out w4 uy.out).zy (sl:=⟨A8,d+b,c8⟩) (l':=l1++l2) hpm (Below.refl _ w4) (au hb48 _) (by rw[WR];exact o8.lower (by have:=uy.out.size;omega)) (.inr fun k hk=>(o8.lt k hk).1);have hpc:=hcells p 5 hpm (by omega);have hY8:=vZ.out.below hb48 vZ.out.lt;have hR8:=HR4.out.below hb48 HR4.out.lt;have gg:w8.grownBy (w8.setCell ⟨g,p*7+5,none⟩ (.slice A8 (d+b) c8)) (some g):=aK (au (Below.refl w8.heap.size w8) _) _ _;have Hz:=hY8.grown gg (fun e=>by simp at e;have:=HZ2.out;omega);have hR9:=hR8.grown gg (fun e=>by simp at e;omega);obtain⟨w9,wu⟩:=eX (w8.setCell ⟨g,p*7+5,none⟩ (.slice A8 (d+b) c8))
 rw[show (Tr.Sl.v ⟨A8,d+b,c8⟩)=.slice A8 (d+b) c8 from rfl,wu] at tQ xE;rw[wu] at Hz hR9;rw[show (pQ (f p))[5]?=some ((f p).k.v) from rfl] at hpc;have TL:=zh (And.intro tQ xE);have HY9:=zh Hz;have HR9:=zh hR9;have FE:=tQ.cell.1;clear tQ xE Hz hR9 hY8 hR8 gg hcells hb48 zA ng qQ o7 o8 g8 f7 f8 g7 s2 WR;refine hK.out _ _ (Qx.cell.1) fun ah=>?_;clear hK K;(try simp only[pS]);refine bE [15,16] ?_;iterate 2 (refine jf ?_;try simp only[pS])
 refine bF ?_;refine bI 17 fun K hK=>?_;go_simp;(try rw[wu]);refine hK.out _ _ (FE) fun ah=>?_;clear hK K;(try simp only[pS]);refine gq ?_;obtain⟨g',e',_,_,_,_,d4,_,_⟩:=TL.out.1.read hi;obtain rfl:g=g':=by injection e' with e';injection e'
 obtain⟨g',e',_,_,_,Sd⟩:=TL.out.1.node (by omega);obtain rfl:g=g':=by injection e' with e';injection e'
 have z4:=(Sd i 4 hi (by omega)).2;obtain⟨eB,eG⟩:=TL.out.1.put (v:=.int .i64 (-1)) hi (by omega:4<7) (fun n=>{ n with pa := -1 }) rfl ⟨rfl,rfl,rfl,rfl⟩;have g10:w9.grownBy (w9.setCell ⟨g,i*7+4,none⟩ (.int .i64 (-1))) (some g):=aK (au (Below.refl w9.heap.size w9) _) _ _;have mR:=HY9.out.grown g10 (fun e=>by simp at e;have:=HZ2.out;omega);have mF:=HR9.out.grown g10 (fun e=>by simp at e;omega);obtain⟨fV,gT⟩:=eX (w9.setCell ⟨g,i*7+4,none⟩ (.int .i64 (-1)))
 rw[gT] at eB eG mR mF;have y0:fV.cell? ⟨w2.heap.size,0,none⟩=some (.int .i64 2):=mR.cell 0;have AU:=mR.free 0;have y1:fV.cell? ⟨w2.heap.size,1,none⟩=some (.int .i64 (p:Int)):=mR.cell 1;have AV:=mR.free 1;have y2:fV.cell? ⟨w2.heap.size,2,none⟩=some (.int .i64 (i:Int)):=mR.cell 2;have AX:=mR.free 2;have y3:fV.cell? ⟨w2.heap.size,3,none⟩=some (.int .i64 X1):=mR.cell 3;have AY:=mR.free 3;have y4:fV.cell? ⟨w2.heap.size,4,none⟩=some (.int .i64 X2):=mR.cell 4;have AZ:=mR.free 4;have y5:fV.cell? ⟨w2.heap.size,5,none⟩=some (.int .i64 (d:Int)):=mR.cell 5;have Ba:=mR.free 5;have y6:fV.cell? ⟨w2.heap.size,6,none⟩=some (.string ⟨#[]⟩):=mR.cell 6;have Bb:=mR.free 6;have y7:fV.cell? ⟨w2.heap.size,7,none⟩=some (.string ⟨#[]⟩):=mR.cell 7;have Bc:=mR.free 7;have y8:fV.cell? ⟨w2.heap.size,8,none⟩=some (.bool false):=mR.cell 8;have Bd:=mR.free 8;have y9:fV.cell? ⟨w2.heap.size,9,none⟩=some (.int .i64 0):=mR.cell 9;have EM:=mR.free 9;have wH:fV.cell? ⟨w2.heap.size,10,none⟩=some (.int .i64 0):=mR.cell 10;have rF:=mR.free 10;have r0:fV.cell? ⟨w.heap.size,0,none⟩=some (.int .i64 0):=mF.cell 0;have rf0:=mF.free 0;have r1:fV.cell? ⟨w.heap.size,1,none⟩=some (.int .i64 0):=mF.cell 1;have rf1:=mF.free 1;have r2:fV.cell? ⟨w.heap.size,2,none⟩=some (.int .i64 0):=mF.cell 2;have rf2:=mF.free 2;have r3:fV.cell? ⟨w.heap.size,3,none⟩=some (.int .i64 0):=mF.cell 3;have rf3:=mF.free 3;have r4:fV.cell? ⟨w.heap.size,4,none⟩=some (.int .i64 0):=mF.cell 4;have rf4:=mF.free 4;have r5:fV.cell? ⟨w.heap.size,5,none⟩=some (.int .i64 0):=mF.cell 5;have rf5:=mF.free 5;have r6:fV.cell? ⟨w.heap.size,6,none⟩=some (.string ⟨#[]⟩):=mF.cell 6;have rf6:=mF.free 6;have r7:fV.cell? ⟨w.heap.size,7,none⟩=some (.string ⟨#[]⟩):=mF.cell 7;have rf7:=mF.free 7;have r8:fV.cell? ⟨w.heap.size,8,none⟩=some (.bool false):=mF.cell 8;have rf8:=mF.free 8;have r9:fV.cell? ⟨w.heap.size,9,none⟩=some (.int .i64 0):=mF.cell 9;have rf9:=mF.free 9;have r10:fV.cell? ⟨w.heap.size,10,none⟩=some (.int .i64 0):=mF.cell 10;have aby:=mF.free 10;obtain⟨l9,LB,nM,g11⟩:=kG mF (.int .i64 2) (.int .i64 (p:Int)) (.int .i64 (i:Int)) (.int .i64 X1) (.int .i64 X2) (.int .i64 (d:Int)) (.string ⟨#[]⟩) (.string ⟨#[]⟩) (.bool false) (.int .i64 0) (.int .i64 0);have s0:l9.cell? ⟨w.heap.size,0,none⟩=some (.int .i64 2):=nM.cell 0;have VP:=nM.free 0;have s1:l9.cell? ⟨w.heap.size,1,none⟩=some (.int .i64 (p:Int)):=nM.cell 1;have VQ:=nM.free 1;have s2:l9.cell? ⟨w.heap.size,2,none⟩=some (.int .i64 (i:Int)):=nM.cell 2;have VR:=nM.free 2;have s3:l9.cell? ⟨w.heap.size,3,none⟩=some (.int .i64 X1):=nM.cell 3;have VT:=nM.free 3;have s4:l9.cell? ⟨w.heap.size,4,none⟩=some (.int .i64 X2):=nM.cell 4;have VU:=nM.free 4;have s5:l9.cell? ⟨w.heap.size,5,none⟩=some (.int .i64 (d:Int)):=nM.cell 5;have VW:=nM.free 5;have s6:l9.cell? ⟨w.heap.size,6,none⟩=some (.string ⟨#[]⟩):=nM.cell 6;have VX:=nM.free 6;have s7:l9.cell? ⟨w.heap.size,7,none⟩=some (.string ⟨#[]⟩):=nM.cell 7;have VY:=nM.free 7;have s8:l9.cell? ⟨w.heap.size,8,none⟩=some (.bool false):=nM.cell 8;have VZ:=nM.free 8;have s9:l9.cell? ⟨w.heap.size,9,none⟩=some (.int .i64 0):=nM.cell 9;have V5:=nM.free 9;have s10:l9.cell? ⟨w.heap.size,10,none⟩=some (.int .i64 0):=nM.cell 10;have Nw:=nM.free 10;have WS:∀ x,w.heap.size≤x→x<w4.heap.size→¬ aC M (.slice (some ⟨g,0,none⟩) m c) m (aV (aV f p fun n=>{ n with k:=⟨A8,d+b,c8⟩,kids:=l1++l2 }) i fun n=>{ n with pa := -1 }) x:=fun x h1 h2 hf=>by
  have h3:=(TL.out.2.trans eG).2 x h2 hf;have h4:=(Z8.out.lt x h3).2;omega
 have uU:=eB.turns (S:=fun x=>x=w.heap.size) (.aY g11 (fun k hk=>by simpa using hk.symm)) (fun x hx e=>WS x (by omega) (by have:=E8.out;omega) hx);have LC:Turns (fun x=>x=w.heap.size) fV l9:=.aY g11 (fun k hk=>by simpa using hk.symm);have stA:=(aB.of_below (F:=aC M (.slice (some ⟨g,0,none⟩) m c) m f) uy.out).trans (TL.out.2.trans eG);have Vj:aB w l9 (aC M (.slice (some ⟨g,0,none⟩) m c) m f) (aC M (.slice (some ⟨g,0,none⟩) m c) m (aV (aV f p fun n=>{ n with k:=⟨A8,d+b,c8⟩,kids:=l1++l2 }) i fun n=>{ n with pa := -1 })):=
  ⟨stA.1.trans LC (fun _ _ x=>x) (fun k hk e=>by omega),stA.2⟩
 have bf:=zh (And.intro uU Vj);clear uU Vj stA LC WS eB eG;clear Sd mF mR nM;go_wp2_with fail;all_goals
  refine bodyPost_ret (v:=rrV ⟨2,p,i,X1,X2,d,⟨#[]⟩,⟨#[]⟩,false,0,0⟩) ?_ rfl ⟨by rw[HD.out],?_⟩
  ·simp[results,Tryz.f117,go_sem,s0,s1,s2,s3,s4,s5,s6,s7,s8,s9,s10]
  ·have e:(aV (aV f p fun n=>{ n with k:=⟨A8,d+b,c8⟩,kids:=n.kids.erase (i:Int) }) i fun n=>{ n with pa := -1 })=(aV (aV f p fun n=>{ n with k:=⟨A8,d+b,c8⟩,kids:=l1++l2 }) i fun n=>{ n with pa := -1 }):=by
    funext j;unfold aV;dsimp only;rw[Z9.out]
   refine⟨⟨A8,d+b,c8⟩,?_⟩;rw[e];exact bf.out
end
end Go.Proofs.YtnbaadpgbcklaaaGreatDoor
