/- Part of a proof about trees. -/
import Derived.Test.YtmhjlifmcadefaaGreatDoorS02
set_option linter.unusedVariables false
set_option linter.unusedSimpArgs false
set_option maxHeartbeats 4000000
set_option maxRecDepth 100000
namespace Go.Proofs.YtmhjlifmcadefaaGreatDoor
section
open Go.RowKit
theorem lZ:(Tryz.prog.info? 3).map (fun i=>(i.zero,i.size,i.bytes))=some (some (.int .i64 0),1,8):=by kernel_rfl
def xg (l:List Int) (i:Int):Int:=if i<0 then -1 else (l[i.toNat]?).getD (-1)
abbrev rrV (r:Tr.Rec):Value:=rcV r
def kK (m:Nat) (f:Nat→RS) (kind:Int) (i p:Nat):Tr.Rec:=⟨kind,p,i,xg (f p).kids (((f p).kids.idxOf (i:Int):Nat) - 1),xg (f p).kids (((f p).kids.idxOf (i:Int):Nat)+1),((f p).kids.idxOf (i:Int):Nat),⟨#[]⟩,⟨#[]⟩,false,0,0⟩
theorem nK (w:World) (E:TypeId) (size:Nat):TR (w.alloc (.cells #[] E)) w.heap.size E size (.slice (some ⟨w.heap.size,0,none⟩) 0 0) 0 []:=by
 have h:=World.ownsRow_lit (base:=w.heap.size) (e:=E) (size:=size) w #[] 0 (Nat.le_refl _) (Nat.zero_le _) (by simp);exact .jP (by simpa using h)
theorem below_drewN (n:Nat) (w:World) (k:Nat):Below n w (w.drewN k):=⟨rfl,rfl,rfl,Nat.le_refl _,fun _ _=>rfl⟩
theorem bf (n:Nat) (w:World):Below n w w.drew:=⟨rfl,rfl,rfl,Nat.le_refl _,fun _ _=>rfl⟩
theorem Gm (base M m:Nat) (vs:Value) (f:Nat→RS) (i p:Nat) (w:World) (H:MV base w M vs m f) (hw:Tr.WF (-1) (mg m f)) (hi:i<m) (hg:(f i).gone=false) (hp:(f i).pa=(p:Int)) (hm:m≤100000):
  Calls Tryz.prog 84 #[.pointer (some ⟨M,0,none⟩),.int .i64 (i:Int)] w fun e w'=>e=.returned (rrV (kK m f 2 i p))∧∃ sl,MV base w' M vs m (aX (aX f p fun n=>{ n with k:=sl,kids:=n.kids.erase (i:Int) }) i fun n=>{ n with pa := -1 })∧aB w w' (aC M vs m f) (aC M vs m (aX (aX f p fun n=>{ n with k:=sl,kids:=n.kids.erase (i:Int) }) i fun n=>{ n with pa := -1 })):=by
 obtain⟨i0,hi0,hz0,hz1,hz2⟩:=info_parts lZ;obtain⟨A,c,rfl⟩:=H.form;have hpl:(mg m f (p:Int)).isSome∧(i:Int)∈(f p).kids∧p<m∧(f p).gone=false:=by
  rcases hw.pa (aM hi hg) with h1 | ⟨n,h1,h2⟩
  ·exact absurd (show (f i).pa = -1 from h1) (by omega)
  ·rw[show (jZ (f i)).pa=(p:Int) from hp] at h1;obtain⟨p',e1,e2,e3,e4⟩:=jk h1;obtain rfl:p=p':=by omega
   exact⟨by rw[h1];rfl,by rw[e4] at h2;exact h2,e2,e3⟩
 obtain⟨_,hmem,hpm,hpg⟩:=hpl;have hpi:p≠i:=fun e=>by
  have:=hw.iG (aM hi hg);exact this (by show (f i).pa=_;rw[hp,e])
 obtain⟨l1,l2,hL⟩:=List.append_of_mem hmem;have hnd:(f p).kids.Nodup:=hw.nodup _ _ (aM hpm hpg);have hno:(i:Int)∉l1:=by
  intro hx;rw[hL] at hnd;exact (List.nodup_append.1 hnd).2.2 _ hx _ (by simp) rfl
 have hix:(f p).kids.idxOf (i:Int)=l1.length:=by rw[hL,Tr.dU hno]
 have hidx:jQ m f i=(l1.length:Nat):=by unfold jQ;rw[if_neg (by omega),hp,Int.toNat_natCast,hix]
 have her:(f p).kids.erase (i:Int)=l1++l2:=by rw[hL,Tr.yj hno]
 have hle:=eP hw hpm hpg;have hlen:(f p).kids.length=l1.length+1+l2.length:=by rw[hL];simp;omega
 have hkn:=H.kn hpm;have hKR:=H.kr p hpm;have hv:(f p).k.v=.slice (f p).k.a (l1.length+1+l2.length) (f p).k.c:=by unfold Tr.Sl.v;rw[hkn,hlen]
 rw[hv,hlen] at hKR;have hcap:=hKR.le;obtain⟨ga,o,hA⟩:∃ ga o,(f p).k.a=some ⟨ga,o,none⟩:=by
  obtain⟨ga,o,e,_⟩:=hKR.cells (by omega);exact⟨ga,o,e⟩
 unfold kK;rw[hix];obtain⟨X1,hX1⟩:=eX (xg (f p).kids ((l1.length:Nat) - 1))
 obtain⟨X2,hX2⟩:=eX (xg (f p).kids ((l1.length:Nat)+1))
 rw[hX1,hX2];obtain⟨d,hd⟩:=eX (l1.length)
 have abM:=H.var.lt;have hMb:base≤w.heap.size:=by have:=H.low;omega
 obtain⟨g,rfl,-⟩:=H.read hi;have q0:(0:Int)≤(i:Int):=by omega
 have q1:(i:Int)<(m:Int):=by omega
 have p0:(0:Int)≤(p:Int):=by omega
 have p1:(p:Int)<(m:Int):=by omega
 obtain⟨w1,hw1⟩:=eX (w.alloc (.cells #[.int .i64 0,.int .i64 0,.int .i64 0,.int .i64 0,.int .i64 0,.int .i64 0,.string ⟨#[]⟩,.string ⟨#[]⟩,.bool false,.int .i64 0,.int .i64 0] 147))
 have hb1:Below w.heap.size w w1:=fI hw1;have hZ1:w1.heap.size=w.heap.size+1:=by rw[←hw1];simp
 have wN:Whole w1 w.heap.size #[.int .i64 0,.int .i64 0,.int .i64 0,.int .i64 0,.int .i64 0,.int .i64 0,.string ⟨#[]⟩,.string ⟨#[]⟩,.bool false,.int .i64 0,.int .i64 0] 147:=by rw[←hw1];exact Whole.new w _ _
 have hM1:=H.below hb1;have R9:=zh fun nq=>uR base M m _ f i (w1.drewN nq) (hM1.below (below_drewN _ w1 nq)) hw hi hg hm;rw[hidx,hd] at R9;have k1:=hM1.cell.1;obtain⟨g',e',_,_,_,_,c4,_,_⟩:=hM1.read hi;obtain rfl:g=g':=by injection e' with e';injection e'
 rw[hp] at c4;have aap:=zh H;have hgl:g<w.heap.size:=(H.row.lt g rfl).2;have ze:=zh (fun (W:World) (hb:Below w.heap.size w W)=>H.below hb);have VO:=zh (fun (W:World) (hb:Below w.heap.size w W)=>(H.kr p hpm).below hb);have HL:=zh hL;have fQ:=zh hX1;have gG:=zh hX2;have HD:=zh hd;have HER:=zh her;have HV:=zh hv;have HZ1:=zh hZ1;have HB1:=zh hb1;have HR1:=zh wN;have UD:=zh hle;have HLEN:=zh hlen;have HKN:=zh hkn;have HPI:=zh hpi;rw[hlen] at hle;rw[hd] at hle hcap;clear hL hX1 hX2 hd her hv hZ1 hb1 wN hlen hkn hKR hM1 hix hidx hno hnd hmem H hw hpi
 go_enter Tryz.func84,Tryz.ntmps84
 go_wp2_with fail;(try rw[hw1]);go_wp2_with fail
 go_quiet (first | (go_at_call 83;exact Calls.quiet_of_same (R9.out _)))
 obtain⟨w2,hw2⟩:=eX (w1.drewN nq)
 rw[hw2];have hb2:Below w.heap.size w w2:=by rw[←hw2];exact HB1.out.trans (below_drewN _ w1 nq)
 have hz2':w2.heap.size=w.heap.size+1:=by rw[←hw2];exact HZ1.out
 have hR2:Whole w2 w.heap.size #[.int .i64 0,.int .i64 0,.int .i64 0,.int .i64 0,.int .i64 0,.int .i64 0,.string ⟨#[]⟩,.string ⟨#[]⟩,.bool false,.int .i64 0,.int .i64 0] 147:=by rw[←hw2];exact HR1.out
 have hm2:=ze.out w2 hb2;have k2:=hm2.cell.1;obtain⟨g',e',_,_,_,_,_,c5,_⟩:=hm2.read hpm;obtain rfl:g=g':=by injection e' with e';injection e'
 obtain⟨b,hbn⟩:=eX (l2.length)
 obtain⟨cp,hcp⟩:=eX ((f p).k.c)
 rw[hcp,hbn] at hcap;rw[hbn] at hle;have yt:(f p).kids.length=d+1+b:=by rw[HLEN.out,HD.out,hbn]
 rw[HKN.out,yt,hA,hcp] at c5;have hK2:=VO.out w2 hb2;rw[yt,HV.out,hA,hcp,HD.out,hbn] at hK2;have hn1:((d+1+b:Nat):Int)=(d:Int)+1+(b:Int):=by omega
 have HA1:=vN base (.slice (some ⟨ga,o,none⟩) (d+1+b) cp) (f p).kids ((d:Int) - 1) w2 (by rw[yt];exact hK2) (by constructor<;>omega) (by rw[yt];omega);have HA2:=vN base (.slice (some ⟨ga,o,none⟩) (d+1+b) cp) (f p).kids ((d:Int)+1) w2 (by rw[yt];exact hK2) (by constructor<;>omega) (by rw[yt];omega);have e1:=fQ.out;have e2:=gG.out;rw[HD.out] at e1 e2;unfold xg at e1 e2;rw[e1] at HA1;rw[e2] at HA2;have HA1:=zh HA1;have HA2:=zh HA2;have hs1:IntKind.i64.wrap ((d:Int) - 1)=(d:Int) - 1:=by rw[IntKind.wrap_i64];omega
 have hs2:IntKind.i64.wrap ((d:Int)+1)=(d:Int)+1:=by rw[IntKind.wrap_i64];omega
 obtain⟨w3,hw3⟩:=eX (w2.alloc (.cells #[.int .i64 0,.int .i64 0,.int .i64 0,.int .i64 0,.int .i64 0,.int .i64 0,.string ⟨#[]⟩,.string ⟨#[]⟩,.bool false,.int .i64 0,.int .i64 0] 147))
 have hb3:Below w.heap.size w w3:=by rw[←hw3];exact hb2.alloc hb2.size _
 have hz3:w3.heap.size=w.heap.size+2:=by rw[←hw3];simp;omega
 have fG:Whole w3 w2.heap.size #[.int .i64 0,.int .i64 0,.int .i64 0,.int .i64 0,.int .i64 0,.int .i64 0,.string ⟨#[]⟩,.string ⟨#[]⟩,.bool false,.int .i64 0,.int .i64 0] 147:=by rw[←hw3];exact Whole.new w2 _ _
 have hR3:Whole w3 w.heap.size #[.int .i64 0,.int .i64 0,.int .i64 0,.int .i64 0,.int .i64 0,.int .i64 0,.string ⟨#[]⟩,.string ⟨#[]⟩,.bool false,.int .i64 0,.int .i64 0] 147:=by rw[←hw3];exact hR2.alloc _
 have y0:w3.cell? ⟨w2.heap.size,0,none⟩=some (.int .i64 0):=fG.cell 0;have yZ:=fG.free 0;have y1:w3.cell? ⟨w2.heap.size,1,none⟩=some (.int .i64 0):=fG.cell 1;have za:=fG.free 1;have y2:w3.cell? ⟨w2.heap.size,2,none⟩=some (.int .i64 0):=fG.cell 2;have CZ:=fG.free 2;have y3:w3.cell? ⟨w2.heap.size,3,none⟩=some (.int .i64 0):=fG.cell 3;have C8:=fG.free 3;have y4:w3.cell? ⟨w2.heap.size,4,none⟩=some (.int .i64 0):=fG.cell 4;have C9:=fG.free 4;have y5:w3.cell? ⟨w2.heap.size,5,none⟩=some (.int .i64 0):=fG.cell 5;have Da:=fG.free 5;have y6:w3.cell? ⟨w2.heap.size,6,none⟩=some (.string ⟨#[]⟩):=fG.cell 6;have Db:=fG.free 6;have y7:w3.cell? ⟨w2.heap.size,7,none⟩=some (.string ⟨#[]⟩):=fG.cell 7;have Dc:=fG.free 7;have y8:w3.cell? ⟨w2.heap.size,8,none⟩=some (.bool false):=fG.cell 8;have Df:=fG.free 8;have y9:w3.cell? ⟨w2.heap.size,9,none⟩=some (.int .i64 0):=fG.cell 9;have FN:=fG.free 9;have wT:w3.cell? ⟨w2.heap.size,10,none⟩=some (.int .i64 0):=fG.cell 10;have qZ:=fG.free 10;obtain⟨w4,hw4,EK,g4⟩:=kJ fG (.int .i64 2) (.int .i64 (p:Int)) (.int .i64 (i:Int)) (.int .i64 X1) (.int .i64 X2) (.int .i64 (d:Int)) (.string ⟨#[]⟩) (.string ⟨#[]⟩) (.bool false) (.int .i64 0) (.int .i64 0);have hb4:Below w.heap.size w w4:=hb3.grown g4 hb3.size (fun j hj=>by simp at hj;omega);have hR4:=hR3.grown g4 (fun e=>by simp at e;omega);have hz4:w.heap.size+2≤w4.heap.size:=by have:=g4.size;omega
 have F4:=zh hz4;have uP:=zh EK;have HR4:=zh hR4;have jy:=zh hb4;have Lm:=zh (And.intro hcp hbn);have HL2:=zh yt;have HZ2:=zh hz2';clear hz2' hb2 hR2 hm2 hK2 e1 e2 hb3 hz3 fG hR3 hb4 hR4 EK g4 hz4 R9 hbn hcp yt HR1 HB1 fQ gG;go_wp2_with fail;refine HA1.out.mono ?_;rintro e w2' ⟨rfl,JH⟩;obtain rfl:=JH.symm;go_wp2_with fail;refine HA2.out.mono ?_;rintro e w2' ⟨rfl,JH⟩;obtain rfl:=JH.symm;clear HA1 HA2;go_wp2_with fail;have uK:=jy.out.trans ((bf _ w4).mono jy.out.size);obtain⟨w5,fE⟩:=eX (w4.drew.alloc (.cells #[] 3))
 have hb5:Below w.heap.size w w5:=by rw[←fE];exact uK.alloc uK.size _
 have jg:=zh hb5;have Lp:=zh (ze.out _ uK).cell.1;have JI:=zh (ze.out _ hb5).cell.1;have eZ:Below w4.heap.size w4 w5:=by rw[←fE];exact (bf _ w4).alloc (Nat.le_refl _) _
 have JJ:=zh eZ;have Pn:=eZ.size;have e5:TR w5 w4.heap.size 3 1 (.slice (some ⟨w4.heap.size,0,none⟩) 0 0) 0 []:=by rw[←fE];exact nK w4.drew 3 1
 have hKS:∀ W,Below w.heap.size w W→TR W base 3 1 (.slice (some ⟨ga,o,none⟩) (d+1+b) cp) (d+1+b) (ints (f p).kids):=fun W hb=>by
  have:=VO.out W hb;rw[HL2.out,HV.out,hA,Lm.out.1,HD.out,Lm.out.2] at this;exact this
 have ht1:(ints (f p).kids).take (d*1)=ints l1:=by rw[Nat.mul_one,Dy,HL.out];congr 1;exact List.take_left' HD.out
 have ht2:(ints (f p).kids).drop ((d+1)*1)=ints l2:=by
  rw[Nat.mul_one,Dz,HL.out];congr 1;rw[show l1++(i:Int)::l2=(l1++[(i:Int)])++l2 from by simp];exact List.drop_left' (by rw[List.length_append,HD.out];rfl)
 have YP:∀ W,Below w.heap.size w W→TR W base 3 1 (.slice (some ⟨ga,o,none⟩) d cp) d (ints l1)∧TR W base 3 1 (.slice (if cp=d+1 then some ⟨ga,o,none⟩ else some ⟨ga,o+(d+1),none⟩) b (cp - (d+1))) b (ints l2):=fun W hb=>by
  have h1:=(hKS W hb).head (k:=d) (by omega);have h2:=(hKS W hb).tail (k:=d+1) (by omega);rw[ht1] at h1;rw[ht2,Nat.add_sub_cancel_left] at h2;have et:tailV (.slice (some ⟨ga,o,none⟩) (d+1+b) cp) (d+1) 1=.slice (if cp=d+1 then some ⟨ga,o,none⟩ else some ⟨ga,o+(d+1),none⟩) b (cp - (d+1)):=by
   unfold tailV;simp only[Option.map_some,Nat.mul_one,Addr.add_lit,Nat.add_sub_cancel_left]
  rw[et] at h2;exact⟨h1,h2⟩
 have s1:=(YP w5 hb5).1.source;have hya:=(YP w5 hb5).1.1;have hyb:=(YP w5 hb5).2.1;have Gg:=zh YP;have hdc:(d:Int)≤(cp:Int):=by omega
 have hi2:(d:Int)+1≤((d+1+b:Nat):Int):=by omega
 have hi3:(0:Int)≤(d:Int)+1:=by omega
 have Yb:(d:Int)+1≤(d:Int)+1+(b:Int):=by omega
 have ht1':((d:Int)+1).toNat=d+1:=by omega
 clear uK hb5 eZ hKS ht1 ht2 YP;go_wp2_with fail;refine wp_region_noPanic ?_;refine wp_region_held_drew (S:=(fun W=>W.cell? ⟨M,0,none⟩=some (.slice (some ⟨g,0,none⟩) m c))) (by kernel_rfl) ?_ (fun ah=>?_)
 ·exact Lp.out
 refine bn [0,1,2,3,4,6,7,8,10,11,12,13] ?_;iterate 12 (refine jf ?_;try simp only[pS])
 refine bq ?_;refine bG 5 fun K hK=>?_;go_simp;(try rw[fE]);refine hK.out _ _ (JI.out) fun ah=>?_;clear hK K;(try simp only[pS]);refine bG 9 fun K hK=>?_;refine aQ rfl _ _ 39 rfl w4.heap.size 3 i0 (.int .i64 0) 1 8 Tryz.underlying39 hi0 hz0 hz1 hz2 rfl (by decide) _ 0 [] rfl e5 _ d (ints l1) rfl hya s1 (eB _) ?c4 ?c5 Pn ?_
 case c4=>unfold maxLen;omega
 case c5=>omega
 intro v7 w7 o7 Ak f7;have g7:w5.grownBy w7 (Value.slice (some ⟨w4.heap.size,0,none⟩) 0 0).ownBlock:=Ak;clear Ak;(try simp only[Nat.zero_add,List.nil_append] at o7);obtain⟨A7,c7,rfl⟩:=o7.form;have Au:Below w4.heap.size w4 w7:=JJ.out.grown g7 JJ.out.size (fun j hj=>by simp[Value.ownBlock] at hj;omega);have lq:=jy.out.trans (Au.mono jy.out.size);have qM:=ze.out w7 lq;have s2:=(Gg.out w7 lq).2.source;have VP:=Au.size;refine hK.out _ _ (qM.cell.1) fun ah=>?_;clear hK K;(try simp only[pS]);refine bG 14 fun K hK=>?_;refine aQ rfl _ _ 39 rfl w4.heap.size 3 i0 (.int .i64 0) 1 8 Tryz.underlying39 hi0 hz0 hz1 hz2 rfl (by decide) _ d (ints l1) rfl o7 _ b (ints l2) rfl hyb s2 (eB _) ?c4 ?c5 VP ?_
 case c4=>unfold maxLen;omega
 case c5=>omega
 intro v8 w8 o8 g8 f8;rw[←gD] at o8;have hb48:Below w4.heap.size w4 w8:=Au.grown g8 Au.size (fun j hj=>(o7.lt j hj).1);have mX:=jy.out.trans (hb48.mono jy.out.size);have Sb:=ze.out w8 mX;obtain⟨A8,c8,rfl⟩:=o8.form;have YQ:(l1++l2).length=d+b:=by rw[List.length_append,HD.out,Lm.out.2]
 obtain⟨_,fz,hcells,uf,xX⟩:=(ze.out w4 jy.out).Aq (sl:=⟨A8,d+b,c8⟩) (l':=l1++l2) hpm (Below.refl _ w4) (ay hb48 _) (by rw[YQ];exact o8.lower (by have:=jy.out.size;omega)) (.inr fun k hk=>(o8.lt k hk).1);have hpc:=hcells p 5 hpm (by omega);have hY8:=uP.out.below hb48 uP.out.lt;have hR8:=HR4.out.below hb48 HR4.out.lt;have gg:w8.grownBy (w8.setCell ⟨g,p*7+5,none⟩ (.slice A8 (d+b) c8)) (some g):=aJ (ay (Below.refl w8.heap.size w8) _) _ _;have I9:=hY8.grown gg (fun e=>by simp at e;have:=HZ2.out;omega);have hR9:=hR8.grown gg (fun e=>by simp at e;omega);obtain⟨w9,wO⟩:=eX (w8.setCell ⟨g,p*7+5,none⟩ (.slice A8 (d+b) c8))
 rw[show (Tr.Sl.v ⟨A8,d+b,c8⟩)=.slice A8 (d+b) c8 from rfl,wO] at uf xX;rw[wO] at I9 hR9;rw[show (qO (f p))[5]?=some ((f p).k.v) from rfl] at hpc;have VQ:=zh (And.intro uf xX);have HY9:=zh I9;have HR9:=zh hR9;have R7:=uf.cell.1;clear uf xX I9 hR9 hY8 hR8 gg hcells hb48 Au lq qM o7 o8 g8 f7 f8 g7 s2 YQ;refine hK.out _ _ (Sb.cell.1) fun ah=>?_;clear hK K;(try simp only[pS]);refine bn [15,16] ?_;iterate 2 (refine jf ?_;try simp only[pS])
 refine bq ?_;refine bG 17 fun K hK=>?_;go_simp;(try rw[wO]);refine hK.out _ _ (R7) fun ah=>?_;clear hK K;(try simp only[pS]);refine eY ?_;obtain⟨g',e',_,_,_,_,d4,_,_⟩:=VQ.out.1.read hi;obtain rfl:g=g':=by injection e' with e';injection e'
 obtain⟨g',e',_,_,_,UE⟩:=VQ.out.1.node (by omega);obtain rfl:g=g':=by injection e' with e';injection e'
 have z4:=(UE i 4 hi (by omega)).2;obtain⟨iC,iM⟩:=VQ.out.1.put (v:=.int .i64 (-1)) hi (by omega:4<7) (fun n=>{ n with pa := -1 }) rfl ⟨rfl,rfl,rfl,rfl⟩;have g10:w9.grownBy (w9.setCell ⟨g,i*7+4,none⟩ (.int .i64 (-1))) (some g):=aJ (ay (Below.refl w9.heap.size w9) _) _ _;have mY:=HY9.out.grown g10 (fun e=>by simp at e;have:=HZ2.out;omega);have mH:=HR9.out.grown g10 (fun e=>by simp at e;omega);obtain⟨jJ,oK⟩:=eX (w9.setCell ⟨g,i*7+4,none⟩ (.int .i64 (-1)))
 rw[oK] at iC iM mY mH;have y0:jJ.cell? ⟨w2.heap.size,0,none⟩=some (.int .i64 2):=mY.cell 0;have yZ:=mY.free 0;have y1:jJ.cell? ⟨w2.heap.size,1,none⟩=some (.int .i64 (p:Int)):=mY.cell 1;have za:=mY.free 1;have y2:jJ.cell? ⟨w2.heap.size,2,none⟩=some (.int .i64 (i:Int)):=mY.cell 2;have CZ:=mY.free 2;have y3:jJ.cell? ⟨w2.heap.size,3,none⟩=some (.int .i64 X1):=mY.cell 3;have C8:=mY.free 3;have y4:jJ.cell? ⟨w2.heap.size,4,none⟩=some (.int .i64 X2):=mY.cell 4;have C9:=mY.free 4;have y5:jJ.cell? ⟨w2.heap.size,5,none⟩=some (.int .i64 (d:Int)):=mY.cell 5;have Da:=mY.free 5;have y6:jJ.cell? ⟨w2.heap.size,6,none⟩=some (.string ⟨#[]⟩):=mY.cell 6;have Db:=mY.free 6;have y7:jJ.cell? ⟨w2.heap.size,7,none⟩=some (.string ⟨#[]⟩):=mY.cell 7;have Dc:=mY.free 7;have y8:jJ.cell? ⟨w2.heap.size,8,none⟩=some (.bool false):=mY.cell 8;have Df:=mY.free 8;have y9:jJ.cell? ⟨w2.heap.size,9,none⟩=some (.int .i64 0):=mY.cell 9;have FN:=mY.free 9;have wT:jJ.cell? ⟨w2.heap.size,10,none⟩=some (.int .i64 0):=mY.cell 10;have qZ:=mY.free 10;have r0:jJ.cell? ⟨w.heap.size,0,none⟩=some (.int .i64 0):=mH.cell 0;have rf0:=mH.free 0;have r1:jJ.cell? ⟨w.heap.size,1,none⟩=some (.int .i64 0):=mH.cell 1;have rf1:=mH.free 1;have r2:jJ.cell? ⟨w.heap.size,2,none⟩=some (.int .i64 0):=mH.cell 2;have rf2:=mH.free 2;have r3:jJ.cell? ⟨w.heap.size,3,none⟩=some (.int .i64 0):=mH.cell 3;have rf3:=mH.free 3;have r4:jJ.cell? ⟨w.heap.size,4,none⟩=some (.int .i64 0):=mH.cell 4;have rf4:=mH.free 4;have r5:jJ.cell? ⟨w.heap.size,5,none⟩=some (.int .i64 0):=mH.cell 5;have rf5:=mH.free 5;have r6:jJ.cell? ⟨w.heap.size,6,none⟩=some (.string ⟨#[]⟩):=mH.cell 6;have rf6:=mH.free 6;have r7:jJ.cell? ⟨w.heap.size,7,none⟩=some (.string ⟨#[]⟩):=mH.cell 7;have rf7:=mH.free 7;have r8:jJ.cell? ⟨w.heap.size,8,none⟩=some (.bool false):=mH.cell 8;have rf8:=mH.free 8;have r9:jJ.cell? ⟨w.heap.size,9,none⟩=some (.int .i64 0):=mH.cell 9;have rf9:=mH.free 9;have r10:jJ.cell? ⟨w.heap.size,10,none⟩=some (.int .i64 0):=mH.cell 10;have abN:=mH.free 10;obtain⟨mq,M5,nN,g11⟩:=kJ mH (.int .i64 2) (.int .i64 (p:Int)) (.int .i64 (i:Int)) (.int .i64 X1) (.int .i64 X2) (.int .i64 (d:Int)) (.string ⟨#[]⟩) (.string ⟨#[]⟩) (.bool false) (.int .i64 0) (.int .i64 0);have s0:mq.cell? ⟨w.heap.size,0,none⟩=some (.int .i64 2):=nN.cell 0;have Yd:=nN.free 0;have s1:mq.cell? ⟨w.heap.size,1,none⟩=some (.int .i64 (p:Int)):=nN.cell 1;have Ye:=nN.free 1;have s2:mq.cell? ⟨w.heap.size,2,none⟩=some (.int .i64 (i:Int)):=nN.cell 2;have Yf:=nN.free 2;have s3:mq.cell? ⟨w.heap.size,3,none⟩=some (.int .i64 X1):=nN.cell 3;have Yg:=nN.free 3;have s4:mq.cell? ⟨w.heap.size,4,none⟩=some (.int .i64 X2):=nN.cell 4;have Yh:=nN.free 4;have s5:mq.cell? ⟨w.heap.size,5,none⟩=some (.int .i64 (d:Int)):=nN.cell 5;have Yi:=nN.free 5;have s6:mq.cell? ⟨w.heap.size,6,none⟩=some (.string ⟨#[]⟩):=nN.cell 6;have Yj:=nN.free 6;have s7:mq.cell? ⟨w.heap.size,7,none⟩=some (.string ⟨#[]⟩):=nN.cell 7;have Yk:=nN.free 7;have s8:mq.cell? ⟨w.heap.size,8,none⟩=some (.bool false):=nN.cell 8;have Yl:=nN.free 8;have s9:mq.cell? ⟨w.heap.size,9,none⟩=some (.int .i64 0):=nN.cell 9;have Ym:=nN.free 9;have s10:mq.cell? ⟨w.heap.size,10,none⟩=some (.int .i64 0):=nN.cell 10;have OQ:=nN.free 10;have YR:∀ x,w.heap.size≤x→x<w4.heap.size→¬ aC M (.slice (some ⟨g,0,none⟩) m c) m (aX (aX f p fun n=>{ n with k:=⟨A8,d+b,c8⟩,kids:=l1++l2 }) i fun n=>{ n with pa := -1 }) x:=fun x h1 h2 hf=>by
  have h3:=(VQ.out.2.trans iM).2 x h2 hf;have h4:=(aap.out.lt x h3).2;omega
 have vG:=iC.turns (S:=fun x=>x=w.heap.size) (.aU g11 (fun k hk=>by simpa using hk.symm)) (fun x hx e=>YR x (by omega) (by have:=F4.out;omega) hx);have M6:Turns (fun x=>x=w.heap.size) jJ mq:=.aU g11 (fun k hk=>by simpa using hk.symm);have stA:=(aB.of_below (F:=aC M (.slice (some ⟨g,0,none⟩) m c) m f) jy.out).trans (VQ.out.2.trans iM);have XF:aB w mq (aC M (.slice (some ⟨g,0,none⟩) m c) m f) (aC M (.slice (some ⟨g,0,none⟩) m c) m (aX (aX f p fun n=>{ n with k:=⟨A8,d+b,c8⟩,kids:=l1++l2 }) i fun n=>{ n with pa := -1 })):=
  ⟨stA.1.trans M6 (fun _ _ x=>x) (fun k hk e=>by omega),stA.2⟩
 have bC:=zh (And.intro vG XF);clear vG XF stA M6 YR iC iM;clear UE mH mY nN;go_wp2_with fail;all_goals
  refine bodyPost_ret (v:=rrV ⟨2,p,i,X1,X2,d,⟨#[]⟩,⟨#[]⟩,false,0,0⟩) ?_ rfl ⟨by rw[HD.out],?_⟩
  ·simp[results,Tryz.f84,go_sem,s0,s1,s2,s3,s4,s5,s6,s7,s8,s9,s10]
  ·have e:(aX (aX f p fun n=>{ n with k:=⟨A8,d+b,c8⟩,kids:=n.kids.erase (i:Int) }) i fun n=>{ n with pa := -1 })=(aX (aX f p fun n=>{ n with k:=⟨A8,d+b,c8⟩,kids:=l1++l2 }) i fun n=>{ n with pa := -1 }):=by
    funext j;unfold aX;dsimp only;rw[HER.out]
   refine⟨⟨A8,d+b,c8⟩,?_⟩;rw[e];exact bC.out
end
end Go.Proofs.YtmhjlifmcadefaaGreatDoor
