/- Part of a proof about trees. -/
import Derived.Test.YtjpbhkcjmdndjaaGreatDoorS02
set_option linter.unusedVariables false
set_option linter.unusedSimpArgs false
set_option maxHeartbeats 4000000
set_option maxRecDepth 100000
namespace Go.Proofs.YtjpbhkcjmdndjaaGreatDoor
section
open Go.RowKit
theorem rZ:(Tryz.prog.info? 3).map (fun i=>(i.zero,i.size,i.bytes))=some (some (.int .i64 0),1,8):=by kernel_rfl
def xg (l:List Int) (i:Int):Int:=if i<0 then -1 else (l[i.toNat]?).getD (-1)
abbrev rrV (r:Tr.Rec):Value:=rcV r
def kR (m:Nat) (f:Nat→RS) (kind:Int) (i p:Nat):Tr.Rec:=⟨kind,p,i,xg (f p).kids (((f p).kids.idxOf (i:Int):Nat) - 1),xg (f p).kids (((f p).kids.idxOf (i:Int):Nat)+1),((f p).kids.idxOf (i:Int):Nat),⟨#[]⟩,⟨#[]⟩,false,0,0⟩
theorem lQ (w:World) (E:TypeId) (size:Nat):TR (w.alloc (.cells #[] E)) w.heap.size E size (.slice (some ⟨w.heap.size,0,none⟩) 0 0) 0 []:=by
 have h:=World.ownsRow_lit (base:=w.heap.size) (e:=E) (size:=size) w #[] 0 (Nat.le_refl _) (Nat.zero_le _) (by simp);exact .jQ (by simpa using h)
theorem below_drewN (n:Nat) (w:World) (k:Nat):Below n w (w.drewN k):=⟨rfl,rfl,rfl,Nat.le_refl _,fun _ _=>rfl⟩
theorem aZ (n:Nat) (w:World):Below n w w.drew:=⟨rfl,rfl,rfl,Nat.le_refl _,fun _ _=>rfl⟩
theorem Ga (base M m:Nat) (vs:Value) (f:Nat→RS) (i p:Nat) (w:World) (H:MV base w M vs m f) (hw:Tr.WF (-1) (mg m f)) (hi:i<m) (hg:(f i).gone=false) (hp:(f i).pa=(p:Int)) (hm:m≤100000):
  Calls Tryz.prog 67 #[.pointer (some ⟨M,0,none⟩),.int .i64 (i:Int)] w fun e w'=>e=.returned (rrV (kR m f 2 i p))∧∃ sl,MV base w' M vs m (aV (aV f p fun n=>{ n with k:=sl,kids:=n.kids.erase (i:Int) }) i fun n=>{ n with pa := -1 })∧aB w w' (aC M vs m f) (aC M vs m (aV (aV f p fun n=>{ n with k:=sl,kids:=n.kids.erase (i:Int) }) i fun n=>{ n with pa := -1 })):=by
 obtain⟨i0,hi0,hz0,hz1,hz2⟩:=info_parts rZ;obtain⟨A,c,rfl⟩:=H.form;have hpl:(mg m f (p:Int)).isSome∧(i:Int)∈(f p).kids∧p<m∧(f p).gone=false:=by
  rcases hw.pa (aP hi hg) with h1 | ⟨n,h1,h2⟩
  ·exact absurd (show (f i).pa = -1 from h1) (by omega)
  ·rw[show (lH (f i)).pa=(p:Int) from hp] at h1;obtain⟨p',e1,e2,e3,e4⟩:=kZ h1;obtain rfl:p=p':=by omega
   exact⟨by rw[h1];rfl,by rw[e4] at h2;exact h2,e2,e3⟩
 obtain⟨_,hmem,hpm,hpg⟩:=hpl;have hpi:p≠i:=fun e=>by
  have:=hw.iO (aP hi hg);exact this (by show (f i).pa=_;rw[hp,e])
 obtain⟨l1,l2,hL⟩:=List.append_of_mem hmem;have hnd:(f p).kids.Nodup:=hw.nodup _ _ (aP hpm hpg);have hno:(i:Int)∉l1:=by
  intro hx;rw[hL] at hnd;exact (List.nodup_append.1 hnd).2.2 _ hx _ (by simp) rfl
 have hix:(f p).kids.idxOf (i:Int)=l1.length:=by rw[hL,Tr.dX hno]
 have hidx:jR m f i=(l1.length:Nat):=by unfold jR;rw[if_neg (by omega),hp,Int.toNat_natCast,hix]
 have her:(f p).kids.erase (i:Int)=l1++l2:=by rw[hL,Tr.xY hno]
 have hle:=lS hw hpm hpg;have hlen:(f p).kids.length=l1.length+1+l2.length:=by rw[hL];simp;omega
 have hkn:=H.kn hpm;have ZY:=H.kr p hpm;have hv:(f p).k.v=.slice (f p).k.a (l1.length+1+l2.length) (f p).k.c:=by unfold Tr.Sl.v;rw[hkn,hlen]
 rw[hv,hlen] at ZY;have hcap:=ZY.le;obtain⟨ga,o,hA⟩:∃ ga o,(f p).k.a=some ⟨ga,o,none⟩:=by
  obtain⟨ga,o,e,_⟩:=ZY.cells (by omega);exact⟨ga,o,e⟩
 unfold kR;rw[hix];obtain⟨X1,hX1⟩:=eX (xg (f p).kids ((l1.length:Nat) - 1))
 obtain⟨X2,hX2⟩:=eX (xg (f p).kids ((l1.length:Nat)+1))
 rw[hX1,hX2];obtain⟨d,hd⟩:=eX (l1.length)
 have abO:=H.var.lt;have Z0:base≤w.heap.size:=by have:=H.low;omega
 obtain⟨g,rfl,-⟩:=H.read hi;have q0:(0:Int)≤(i:Int):=by omega
 have q1:(i:Int)<(m:Int):=by omega
 have p0:(0:Int)≤(p:Int):=by omega
 have p1:(p:Int)<(m:Int):=by omega
 obtain⟨w1,hw1⟩:=eX (w.alloc (.cells #[.int .i64 0,.int .i64 0,.int .i64 0,.int .i64 0,.int .i64 0,.int .i64 0,.string ⟨#[]⟩,.string ⟨#[]⟩,.bool false,.int .i64 0,.int .i64 0] 114))
 have hb1:Below w.heap.size w w1:=gU hw1;have hZ1:w1.heap.size=w.heap.size+1:=by rw[←hw1];simp
 have Ec:Whole w1 w.heap.size #[.int .i64 0,.int .i64 0,.int .i64 0,.int .i64 0,.int .i64 0,.int .i64 0,.string ⟨#[]⟩,.string ⟨#[]⟩,.bool false,.int .i64 0,.int .i64 0] 114:=by rw[←hw1];exact Whole.new w _ _
 have hM1:=H.below hb1;have X8:=zh fun nq=>uO base M m _ f i (w1.drewN nq) (hM1.below (below_drewN _ w1 nq)) hw hi hg hm;rw[hidx,hd] at X8;have k1:=hM1.cell.1;obtain⟨g',e',_,_,_,_,c4,_,_⟩:=hM1.read hi;obtain rfl:g=g':=by injection e' with e';injection e'
 rw[hp] at c4;have aat:=zh H;have hgl:g<w.heap.size:=(H.row.lt g rfl).2;have yP:=zh (fun (W:World) (hb:Below w.heap.size w W)=>H.below hb);have UQ:=zh (fun (W:World) (hb:Below w.heap.size w W)=>(H.kr p hpm).below hb);have HL:=zh hL;have eP:=zh hX1;have gM:=zh hX2;have HD:=zh hd;have HER:=zh her;have HV:=zh hv;have HZ1:=zh hZ1;have HB1:=zh hb1;have HR1:=zh Ec;have Tz:=zh hle;have HLEN:=zh hlen;have X3:=zh hkn;have HPI:=zh hpi;rw[hlen] at hle;rw[hd] at hle hcap;clear hL hX1 hX2 hd her hv hZ1 hb1 Ec hlen hkn ZY hM1 hix hidx hno hnd hmem H hw hpi
 go_enter Tryz.func67,Tryz.ntmps67
 go_wp2_with fail;(try rw[hw1]);go_wp2_with fail
 go_quiet (first | (go_at_call 66;exact Calls.quiet_of_same (X8.out _)))
 obtain⟨w2,hw2⟩:=eX (w1.drewN nq)
 rw[hw2];have hb2:Below w.heap.size w w2:=by rw[←hw2];exact HB1.out.trans (below_drewN _ w1 nq)
 have hz2':w2.heap.size=w.heap.size+1:=by rw[←hw2];exact HZ1.out
 have hR2:Whole w2 w.heap.size #[.int .i64 0,.int .i64 0,.int .i64 0,.int .i64 0,.int .i64 0,.int .i64 0,.string ⟨#[]⟩,.string ⟨#[]⟩,.bool false,.int .i64 0,.int .i64 0] 114:=by rw[←hw2];exact HR1.out
 have hm2:=yP.out w2 hb2;have k2:=hm2.cell.1;obtain⟨g',e',_,_,_,_,_,c5,_⟩:=hm2.read hpm;obtain rfl:g=g':=by injection e' with e';injection e'
 obtain⟨b,hbn⟩:=eX (l2.length)
 obtain⟨cp,hcp⟩:=eX ((f p).k.c)
 rw[hcp,hbn] at hcap;rw[hbn] at hle;have xZ:(f p).kids.length=d+1+b:=by rw[HLEN.out,HD.out,hbn]
 rw[X3.out,xZ,hA,hcp] at c5;have hK2:=UQ.out w2 hb2;rw[xZ,HV.out,hA,hcp,HD.out,hbn] at hK2;have hn1:((d+1+b:Nat):Int)=(d:Int)+1+(b:Int):=by omega
 have HA1:=vJ base (.slice (some ⟨ga,o,none⟩) (d+1+b) cp) (f p).kids ((d:Int) - 1) w2 (by rw[xZ];exact hK2) (by constructor<;>omega) (by rw[xZ];omega);have HA2:=vJ base (.slice (some ⟨ga,o,none⟩) (d+1+b) cp) (f p).kids ((d:Int)+1) w2 (by rw[xZ];exact hK2) (by constructor<;>omega) (by rw[xZ];omega);have e1:=eP.out;have e2:=gM.out;rw[HD.out] at e1 e2;unfold xg at e1 e2;rw[e1] at HA1;rw[e2] at HA2;have HA1:=zh HA1;have HA2:=zh HA2;have hs1:IntKind.i64.wrap ((d:Int) - 1)=(d:Int) - 1:=by rw[IntKind.wrap_i64];omega
 have hs2:IntKind.i64.wrap ((d:Int)+1)=(d:Int)+1:=by rw[IntKind.wrap_i64];omega
 obtain⟨w3,hw3⟩:=eX (w2.alloc (.cells #[.int .i64 0,.int .i64 0,.int .i64 0,.int .i64 0,.int .i64 0,.int .i64 0,.string ⟨#[]⟩,.string ⟨#[]⟩,.bool false,.int .i64 0,.int .i64 0] 114))
 have hb3:Below w.heap.size w w3:=by rw[←hw3];exact hb2.alloc hb2.size _
 have hz3:w3.heap.size=w.heap.size+2:=by rw[←hw3];simp;omega
 have fM:Whole w3 w2.heap.size #[.int .i64 0,.int .i64 0,.int .i64 0,.int .i64 0,.int .i64 0,.int .i64 0,.string ⟨#[]⟩,.string ⟨#[]⟩,.bool false,.int .i64 0,.int .i64 0] 114:=by rw[←hw3];exact Whole.new w2 _ _
 have hR3:Whole w3 w.heap.size #[.int .i64 0,.int .i64 0,.int .i64 0,.int .i64 0,.int .i64 0,.int .i64 0,.string ⟨#[]⟩,.string ⟨#[]⟩,.bool false,.int .i64 0,.int .i64 0] 114:=by rw[←hw3];exact hR2.alloc _
 have y0:w3.cell? ⟨w2.heap.size,0,none⟩=some (.int .i64 0):=fM.cell 0;have EZ:=fM.free 0;have y1:w3.cell? ⟨w2.heap.size,1,none⟩=some (.int .i64 0):=fM.cell 1;have E5:=fM.free 1;have y2:w3.cell? ⟨w2.heap.size,2,none⟩=some (.int .i64 0):=fM.cell 2;have E8:=fM.free 2;have y3:w3.cell? ⟨w2.heap.size,3,none⟩=some (.int .i64 0):=fM.cell 3;have E9:=fM.free 3;have y4:w3.cell? ⟨w2.heap.size,4,none⟩=some (.int .i64 0):=fM.cell 4;have Fa:=fM.free 4;have y5:w3.cell? ⟨w2.heap.size,5,none⟩=some (.int .i64 0):=fM.cell 5;have Fb:=fM.free 5;have y6:w3.cell? ⟨w2.heap.size,6,none⟩=some (.string ⟨#[]⟩):=fM.cell 6;have Fe:=fM.free 6;have y7:w3.cell? ⟨w2.heap.size,7,none⟩=some (.string ⟨#[]⟩):=fM.cell 7;have Fg:=fM.free 7;have y8:w3.cell? ⟨w2.heap.size,8,none⟩=some (.bool false):=fM.cell 8;have Fh:=fM.free 8;have y9:w3.cell? ⟨w2.heap.size,9,none⟩=some (.int .i64 0):=fM.cell 9;have Fj:=fM.free 9;have wP:w3.cell? ⟨w2.heap.size,10,none⟩=some (.int .i64 0):=fM.cell 10;have rJ:=fM.free 10;obtain⟨w4,hw4,DX,g4⟩:=kQ fM (.int .i64 2) (.int .i64 (p:Int)) (.int .i64 (i:Int)) (.int .i64 X1) (.int .i64 X2) (.int .i64 (d:Int)) (.string ⟨#[]⟩) (.string ⟨#[]⟩) (.bool false) (.int .i64 0) (.int .i64 0);have hb4:Below w.heap.size w w4:=hb3.grown g4 hb3.size (fun j hj=>by simp at hj;omega);have hR4:=hR3.grown g4 (fun e=>by simp at e;omega);have hz4:w.heap.size+2≤w4.heap.size:=by have:=g4.size;omega
 have FI:=zh hz4;have uJ:=zh DX;have HR4:=zh hR4;have ow:=zh hb4;have KT:=zh (And.intro hcp hbn);have HL2:=zh xZ;have HZ2:=zh hz2';clear hz2' hb2 hR2 hm2 hK2 e1 e2 hb3 hz3 fM hR3 hb4 hR4 DX g4 hz4 X8 hbn hcp xZ HR1 HB1 eP gM;go_wp2_with fail;refine HA1.out.mono ?_;rintro e w2' ⟨rfl,Jt⟩;obtain rfl:=Jt.symm;go_wp2_with fail;refine HA2.out.mono ?_;rintro e w2' ⟨rfl,Jt⟩;obtain rfl:=Jt.symm;clear HA1 HA2;go_wp2_with fail;have uE:=ow.out.trans ((aZ _ w4).mono ow.out.size);obtain⟨w5,fT⟩:=eX (w4.drew.alloc (.cells #[] 3))
 have hb5:Below w.heap.size w w5:=by rw[←fT];exact uE.alloc uE.size _
 have mH:=zh hb5;have D6:=zh (yP.out _ uE).cell.1;have Ju:=zh (yP.out _ hb5).cell.1;have fB:Below w4.heap.size w4 w5:=by rw[←fT];exact (aZ _ w4).alloc (Nat.le_refl _) _
 have Jv:=zh fB;have OH:=fB.size;have e5:TR w5 w4.heap.size 3 1 (.slice (some ⟨w4.heap.size,0,none⟩) 0 0) 0 []:=by rw[←fT];exact lQ w4.drew 3 1
 have hKS:∀ W,Below w.heap.size w W→TR W base 3 1 (.slice (some ⟨ga,o,none⟩) (d+1+b) cp) (d+1+b) (ints (f p).kids):=fun W hb=>by
  have:=UQ.out W hb;rw[HL2.out,HV.out,hA,KT.out.1,HD.out,KT.out.2] at this;exact this
 have ht1:(ints (f p).kids).take (d*1)=ints l1:=by rw[Nat.mul_one,CJ,HL.out];congr 1;exact List.take_left' HD.out
 have ht2:(ints (f p).kids).drop ((d+1)*1)=ints l2:=by
  rw[Nat.mul_one,CK,HL.out];congr 1;rw[show l1++(i:Int)::l2=(l1++[(i:Int)])++l2 from by simp];exact List.drop_left' (by rw[List.length_append,HD.out];rfl)
 have X9:∀ W,Below w.heap.size w W→TR W base 3 1 (.slice (some ⟨ga,o,none⟩) d cp) d (ints l1)∧TR W base 3 1 (.slice (if cp=d+1 then some ⟨ga,o,none⟩ else some ⟨ga,o+(d+1),none⟩) b (cp - (d+1))) b (ints l2):=fun W hb=>by
  have h1:=(hKS W hb).head (k:=d) (by omega);have h2:=(hKS W hb).tail (k:=d+1) (by omega);rw[ht1] at h1;rw[ht2,Nat.add_sub_cancel_left] at h2;have et:tailV (.slice (some ⟨ga,o,none⟩) (d+1+b) cp) (d+1) 1=.slice (if cp=d+1 then some ⟨ga,o,none⟩ else some ⟨ga,o+(d+1),none⟩) b (cp - (d+1)):=by
   unfold tailV;simp only[Option.map_some,Nat.mul_one,Addr.add_lit,Nat.add_sub_cancel_left]
  rw[et] at h2;exact⟨h1,h2⟩
 have s1:=(X9 w5 hb5).1.source;have hya:=(X9 w5 hb5).1.1;have hyb:=(X9 w5 hb5).2.1;have FW:=zh X9;have hdc:(d:Int)≤(cp:Int):=by omega
 have hi2:(d:Int)+1≤((d+1+b:Nat):Int):=by omega
 have hi3:(0:Int)≤(d:Int)+1:=by omega
 have Xf:(d:Int)+1≤(d:Int)+1+(b:Int):=by omega
 have ht1':((d:Int)+1).toNat=d+1:=by omega
 clear uE hb5 fB hKS ht1 ht2 X9;go_wp2_with fail;refine wp_region_noPanic ?_;refine wp_region_held_drew (S:=(fun W=>W.cell? ⟨M,0,none⟩=some (.slice (some ⟨g,0,none⟩) m c))) (by kernel_rfl) ?_ (fun ah=>?_)
 ·exact D6.out
 refine bE [0,1,2,3,4,6,7,8,10,11,12,13] ?_;iterate 12 (refine jl ?_;try simp only[pS])
 refine bF ?_;refine bO 5 fun K hK=>?_;go_simp;(try rw[fT]);refine hK.out _ _ (Ju.out) fun ah=>?_;clear hK K;(try simp only[pS]);refine bO 9 fun K hK=>?_;refine aJ rfl _ _ 31 rfl w4.heap.size 3 i0 (.int .i64 0) 1 8 Tryz.underlying31 hi0 hz0 hz1 hz2 rfl (by decide) _ 0 [] rfl e5 _ d (ints l1) rfl hya s1 (gH _) ?c4 ?c5 OH ?_
 case c4=>unfold maxLen;omega
 case c5=>omega
 intro v7 w7 o7 uw f7;have g7:w5.grownBy w7 (Value.slice (some ⟨w4.heap.size,0,none⟩) 0 0).ownBlock:=uw;clear uw;(try simp only[Nat.zero_add,List.nil_append] at o7);obtain⟨A7,c7,rfl⟩:=o7.form;have zO:Below w4.heap.size w4 w7:=Jv.out.grown g7 Jv.out.size (fun j hj=>by simp[Value.ownBlock] at hj;omega);have nL:=ow.out.trans (zO.mono ow.out.size);have qW:=yP.out w7 nL;have s2:=(FW.out w7 nL).2.source;have UR:=zO.size;refine hK.out _ _ (qW.cell.1) fun ah=>?_;clear hK K;(try simp only[pS]);refine bO 14 fun K hK=>?_;refine aJ rfl _ _ 31 rfl w4.heap.size 3 i0 (.int .i64 0) 1 8 Tryz.underlying31 hi0 hz0 hz1 hz2 rfl (by decide) _ d (ints l1) rfl o7 _ b (ints l2) rfl hyb s2 (gH _) ?c4 ?c5 UR ?_
 case c4=>unfold maxLen;omega
 case c5=>omega
 intro v8 w8 o8 g8 f8;rw[←iB] at o8;have hb48:Below w4.heap.size w4 w8:=zO.grown g8 zO.size (fun j hj=>(o7.lt j hj).1);have jB:=ow.out.trans (hb48.mono ow.out.size);have Rm:=yP.out w8 jB;obtain⟨A8,c8,rfl⟩:=o8.form;have Ya:(l1++l2).length=d+b:=by rw[List.length_append,HD.out,KT.out.2]
 obtain⟨_,fz,hcells,tY,xU⟩:=(yP.out w4 ow.out).zN (sl:=⟨A8,d+b,c8⟩) (l':=l1++l2) hpm (Below.refl _ w4) (ay hb48 _) (by rw[Ya];exact o8.lower (by have:=ow.out.size;omega)) (.inr fun k hk=>(o8.lt k hk).1);have hpc:=hcells p 5 hpm (by omega);have hY8:=uJ.out.below hb48 uJ.out.lt;have hR8:=HR4.out.below hb48 HR4.out.lt;have gg:w8.grownBy (w8.setCell ⟨g,p*7+5,none⟩ (.slice A8 (d+b) c8)) (some g):=aO (ay (Below.refl w8.heap.size w8) _) _ _;have II:=hY8.grown gg (fun e=>by simp at e;have:=HZ2.out;omega);have hR9:=hR8.grown gg (fun e=>by simp at e;omega);obtain⟨w9,wK⟩:=eX (w8.setCell ⟨g,p*7+5,none⟩ (.slice A8 (d+b) c8))
 rw[show (Tr.Sl.v ⟨A8,d+b,c8⟩)=.slice A8 (d+b) c8 from rfl,wK] at tY xU;rw[wK] at II hR9;rw[show (p8 (f p))[5]?=some ((f p).k.v) from rfl] at hpc;have UU:=zh (And.intro tY xU);have HY9:=zh II;have HR9:=zh hR9;have F9:=tY.cell.1;clear tY xU II hR9 hY8 hR8 gg hcells hb48 zO nL qW o7 o8 g8 f7 f8 g7 s2 Ya;refine hK.out _ _ (Rm.cell.1) fun ah=>?_;clear hK K;(try simp only[pS]);refine bE [15,16] ?_;iterate 2 (refine jl ?_;try simp only[pS])
 refine bF ?_;refine bO 17 fun K hK=>?_;go_simp;(try rw[wK]);refine hK.out _ _ (F9) fun ah=>?_;clear hK K;(try simp only[pS]);refine gQ ?_;obtain⟨g',e',_,_,_,_,d4,_,_⟩:=UU.out.1.read hi;obtain rfl:g=g':=by injection e' with e';injection e'
 obtain⟨g',e',_,_,_,TA⟩:=UU.out.1.node (by omega);obtain rfl:g=g':=by injection e' with e';injection e'
 have z4:=(TA i 4 hi (by omega)).2;obtain⟨eu,eO⟩:=UU.out.1.put (v:=.int .i64 (-1)) hi (by omega:4<7) (fun n=>{ n with pa := -1 }) rfl ⟨rfl,rfl,rfl,rfl⟩;have g10:w9.grownBy (w9.setCell ⟨g,i*7+4,none⟩ (.int .i64 (-1))) (some g):=aO (ay (Below.refl w9.heap.size w9) _) _ _;have nD:=HY9.out.grown g10 (fun e=>by simp at e;have:=HZ2.out;omega);have mP:=HR9.out.grown g10 (fun e=>by simp at e;omega);obtain⟨fO,gZ⟩:=eX (w9.setCell ⟨g,i*7+4,none⟩ (.int .i64 (-1)))
 rw[gZ] at eu eO nD mP;have y0:fO.cell? ⟨w2.heap.size,0,none⟩=some (.int .i64 2):=nD.cell 0;have EZ:=nD.free 0;have y1:fO.cell? ⟨w2.heap.size,1,none⟩=some (.int .i64 (p:Int)):=nD.cell 1;have E5:=nD.free 1;have y2:fO.cell? ⟨w2.heap.size,2,none⟩=some (.int .i64 (i:Int)):=nD.cell 2;have E8:=nD.free 2;have y3:fO.cell? ⟨w2.heap.size,3,none⟩=some (.int .i64 X1):=nD.cell 3;have E9:=nD.free 3;have y4:fO.cell? ⟨w2.heap.size,4,none⟩=some (.int .i64 X2):=nD.cell 4;have Fa:=nD.free 4;have y5:fO.cell? ⟨w2.heap.size,5,none⟩=some (.int .i64 (d:Int)):=nD.cell 5;have Fb:=nD.free 5;have y6:fO.cell? ⟨w2.heap.size,6,none⟩=some (.string ⟨#[]⟩):=nD.cell 6;have Fe:=nD.free 6;have y7:fO.cell? ⟨w2.heap.size,7,none⟩=some (.string ⟨#[]⟩):=nD.cell 7;have Fg:=nD.free 7;have y8:fO.cell? ⟨w2.heap.size,8,none⟩=some (.bool false):=nD.cell 8;have Fh:=nD.free 8;have y9:fO.cell? ⟨w2.heap.size,9,none⟩=some (.int .i64 0):=nD.cell 9;have Fj:=nD.free 9;have wP:fO.cell? ⟨w2.heap.size,10,none⟩=some (.int .i64 0):=nD.cell 10;have rJ:=nD.free 10;have r0:fO.cell? ⟨w.heap.size,0,none⟩=some (.int .i64 0):=mP.cell 0;have rf0:=mP.free 0;have r1:fO.cell? ⟨w.heap.size,1,none⟩=some (.int .i64 0):=mP.cell 1;have rf1:=mP.free 1;have r2:fO.cell? ⟨w.heap.size,2,none⟩=some (.int .i64 0):=mP.cell 2;have rf2:=mP.free 2;have r3:fO.cell? ⟨w.heap.size,3,none⟩=some (.int .i64 0):=mP.cell 3;have rf3:=mP.free 3;have r4:fO.cell? ⟨w.heap.size,4,none⟩=some (.int .i64 0):=mP.cell 4;have rf4:=mP.free 4;have r5:fO.cell? ⟨w.heap.size,5,none⟩=some (.int .i64 0):=mP.cell 5;have rf5:=mP.free 5;have r6:fO.cell? ⟨w.heap.size,6,none⟩=some (.string ⟨#[]⟩):=mP.cell 6;have rf6:=mP.free 6;have r7:fO.cell? ⟨w.heap.size,7,none⟩=some (.string ⟨#[]⟩):=mP.cell 7;have rf7:=mP.free 7;have r8:fO.cell? ⟨w.heap.size,8,none⟩=some (.bool false):=mP.cell 8;have rf8:=mP.free 8;have r9:fO.cell? ⟨w.heap.size,9,none⟩=some (.int .i64 0):=mP.cell 9;have rf9:=mP.free 9;have r10:fO.cell? ⟨w.heap.size,10,none⟩=some (.int .i64 0):=mP.cell 10;have abP:=mP.free 10;obtain⟨iK,Mi,nU,g11⟩:=kQ mP (.int .i64 2) (.int .i64 (p:Int)) (.int .i64 (i:Int)) (.int .i64 X1) (.int .i64 X2) (.int .i64 (d:Int)) (.string ⟨#[]⟩) (.string ⟨#[]⟩) (.bool false) (.int .i64 0) (.int .i64 0);have s0:iK.cell? ⟨w.heap.size,0,none⟩=some (.int .i64 2):=nU.cell 0;have Xh:=nU.free 0;have s1:iK.cell? ⟨w.heap.size,1,none⟩=some (.int .i64 (p:Int)):=nU.cell 1;have Xi:=nU.free 1;have s2:iK.cell? ⟨w.heap.size,2,none⟩=some (.int .i64 (i:Int)):=nU.cell 2;have Xj:=nU.free 2;have s3:iK.cell? ⟨w.heap.size,3,none⟩=some (.int .i64 X1):=nU.cell 3;have Xk:=nU.free 3;have s4:iK.cell? ⟨w.heap.size,4,none⟩=some (.int .i64 X2):=nU.cell 4;have Xl:=nU.free 4;have s5:iK.cell? ⟨w.heap.size,5,none⟩=some (.int .i64 (d:Int)):=nU.cell 5;have Xm:=nU.free 5;have s6:iK.cell? ⟨w.heap.size,6,none⟩=some (.string ⟨#[]⟩):=nU.cell 6;have Xn:=nU.free 6;have s7:iK.cell? ⟨w.heap.size,7,none⟩=some (.string ⟨#[]⟩):=nU.cell 7;have Xo:=nU.free 7;have s8:iK.cell? ⟨w.heap.size,8,none⟩=some (.bool false):=nU.cell 8;have Xp:=nU.free 8;have s9:iK.cell? ⟨w.heap.size,9,none⟩=some (.int .i64 0):=nU.cell 9;have Xq:=nU.free 9;have s10:iK.cell? ⟨w.heap.size,10,none⟩=some (.int .i64 0):=nU.cell 10;have N8:=nU.free 10;have Yb:∀ x,w.heap.size≤x→x<w4.heap.size→¬ aC M (.slice (some ⟨g,0,none⟩) m c) m (aV (aV f p fun n=>{ n with k:=⟨A8,d+b,c8⟩,kids:=l1++l2 }) i fun n=>{ n with pa := -1 }) x:=fun x h1 h2 hf=>by
  have h3:=(UU.out.2.trans eO).2 x h2 hf;have h4:=(aat.out.lt x h3).2;omega
 have vC:=eu.turns (S:=fun x=>x=w.heap.size) (.aT g11 (fun k hk=>by simpa using hk.symm)) (fun x hx e=>Yb x (by omega) (by have:=FI.out;omega) hx);have Mj:Turns (fun x=>x=w.heap.size) fO iK:=.aT g11 (fun k hk=>by simpa using hk.symm);have stA:=(aB.of_below (F:=aC M (.slice (some ⟨g,0,none⟩) m c) m f) ow.out).trans (UU.out.2.trans eO);have WE:aB w iK (aC M (.slice (some ⟨g,0,none⟩) m c) m f) (aC M (.slice (some ⟨g,0,none⟩) m c) m (aV (aV f p fun n=>{ n with k:=⟨A8,d+b,c8⟩,kids:=l1++l2 }) i fun n=>{ n with pa := -1 })):=
  ⟨stA.1.trans Mj (fun _ _ x=>x) (fun k hk e=>by omega),stA.2⟩
 have bf:=zh (And.intro vC WE);clear vC WE stA Mj Yb eu eO;clear TA mP nD nU;go_wp2_with fail;all_goals
  refine bodyPost_ret (v:=rrV ⟨2,p,i,X1,X2,d,⟨#[]⟩,⟨#[]⟩,false,0,0⟩) ?_ rfl ⟨by rw[HD.out],?_⟩
  ·simp[results,Tryz.f67,go_sem,s0,s1,s2,s3,s4,s5,s6,s7,s8,s9,s10]
  ·have e:(aV (aV f p fun n=>{ n with k:=⟨A8,d+b,c8⟩,kids:=n.kids.erase (i:Int) }) i fun n=>{ n with pa := -1 })=(aV (aV f p fun n=>{ n with k:=⟨A8,d+b,c8⟩,kids:=l1++l2 }) i fun n=>{ n with pa := -1 }):=by
    funext j;unfold aV;dsimp only;rw[HER.out]
   refine⟨⟨A8,d+b,c8⟩,?_⟩;rw[e];exact bf.out
end
end Go.Proofs.YtjpbhkcjmdndjaaGreatDoor
