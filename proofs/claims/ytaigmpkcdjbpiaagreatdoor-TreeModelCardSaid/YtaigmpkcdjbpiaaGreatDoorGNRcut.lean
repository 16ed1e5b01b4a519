/- Part of a proof about trees: NRcut. -/
import Derived.Test.YtaigmpkcdjbpiaaGreatDoorS02
set_option linter.unusedVariables false
set_option linter.unusedSimpArgs false
set_option linter.unusedSectionVars false
set_option maxHeartbeats 4000000
set_option maxRecDepth 100000
namespace Go.Proofs.YtaigmpkcdjbpiaaGreatDoor
section
open Go.RowKit
theorem intInfoR:(Tryz.prog.info? 3).map (fun i=>(i.zero,i.size,i.bytes))=some (some (.int .i64 0),1,8):=by kernel_rfl
def atM (l:List Int) (i:Int):Int:=if i<0 then -1 else (l[i.toNat]?).getD (-1)
abbrev rrV (r:Tr.Rec):Value:=rcV r
def placeM (m:Nat) (f:Nat→RS) (kind:Int) (i p:Nat):Tr.Rec:=⟨kind,p,i,atM (f p).kids (((f p).kids.idxOf (i:Int):Nat) - 1),atM (f p).kids (((f p).kids.idxOf (i:Int):Nat)+1),((f p).kids.idxOf (i:Int):Nat),⟨#[]⟩,⟨#[]⟩,false,0,0⟩
theorem empty_rowI (w:World) (E:TypeId) (size:Nat):TR (w.alloc (.cells #[] E)) w.heap.size E size (.slice (some ⟨w.heap.size,0,none⟩) 0 0) 0 []:=by
 have h:=World.ownsRow_lit (base:=w.heap.size) (e:=E) (size:=size) w #[] 0 (Nat.le_refl _) (Nat.zero_le _) (by simp);exact .of_own (by simpa using h)
theorem below_drewN (n:Nat) (w:World) (k:Nat):Below n w (w.drewN k):=⟨rfl,rfl,rfl,Nat.le_refl _,fun _ _=>rfl⟩
theorem below_drew1 (n:Nat) (w:World):Below n w w.drew:=⟨rfl,rfl,rfl,Nat.le_refl _,fun _ _=>rfl⟩
theorem rcut_any (base M m:Nat) (vs:Value) (f:Nat→RS) (i p:Nat) (w:World) (H:MV base w M vs m f) (hw:Tr.WF (-1) (mg m f)) (hi:i<m) (hg:(f i).gone=false) (hp:(f i).pa=(p:Int)) (hm:m≤100000):
  Calls Tryz.prog 99 #[.pointer (some ⟨M,0,none⟩),.int .i64 (i:Int)] w fun e w'=>e=.returned (rrV (placeM m f 2 i p))∧∃ sl,MV base w' M vs m (updM (updM f p fun n=>{ n with k:=sl,kids:=n.kids.erase (i:Int) }) i fun n=>{ n with pa := -1 })∧AStep w w' (MFoot M vs m f) (MFoot M vs m (updM (updM f p fun n=>{ n with k:=sl,kids:=n.kids.erase (i:Int) }) i fun n=>{ n with pa := -1 })):=by
 obtain⟨i0,hi0,hz0,hz1,hz2⟩:=info_parts intInfoR;obtain⟨A,c,rfl⟩:=H.form;have hpl:(mg m f (p:Int)).isSome∧(i:Int)∈(f p).kids∧p<m∧(f p).gone=false:=by
  rcases hw.pa (mg_at hi hg) with h1 | ⟨n,h1,h2⟩
  ·exact absurd (show (f i).pa = -1 from h1) (by omega)
  ·rw[show (rsG (f i)).pa=(p:Int) from hp] at h1;obtain⟨p',e1,e2,e3,e4⟩:=mg_some h1;obtain rfl:p=p':=by omega
   exact⟨by rw[h1];rfl,by rw[e4] at h2;exact h2,e2,e3⟩
 obtain⟨_,hmem,hpm,hpg⟩:=hpl;have hpi:p≠i:=fun e=>by
  have:=hw.not_self (mg_at hi hg);exact this (by show (f i).pa=_;rw[hp,e])
 obtain⟨l1,l2,hL⟩:=List.append_of_mem hmem;have hnd:(f p).kids.Nodup:=hw.nodup _ _ (mg_at hpm hpg);have hno:(i:Int)∉l1:=by
  intro hx;rw[hL] at hnd;exact (List.nodup_append.1 hnd).2.2 _ hx _ (by simp) rfl
 have hix:(f p).kids.idxOf (i:Int)=l1.length:=by rw[hL,Tr.idxOf_split hno]
 have hidx:indexM m f i=(l1.length:Nat):=by unfold indexM;rw[if_neg (by omega),hp,Int.toNat_natCast,hix]
 have her:(f p).kids.erase (i:Int)=l1++l2:=by rw[hL,Tr.erase_split hno]
 have hle:=mg_kids_le hw hpm hpg;have hlen:(f p).kids.length=l1.length+1+l2.length:=by rw[hL];simp;omega
 have hkn:=H.kn hpm;have hKR:=H.kr p hpm;have hv:(f p).k.v=.slice (f p).k.a (l1.length+1+l2.length) (f p).k.c:=by unfold Tr.Sl.v;rw[hkn,hlen]
 rw[hv,hlen] at hKR;have hcap:=hKR.le;obtain⟨ga,o,hA⟩:∃ ga o,(f p).k.a=some ⟨ga,o,none⟩:=by
  obtain⟨ga,o,e,_⟩:=hKR.cells (by omega);exact⟨ga,o,e⟩
 unfold placeM;rw[hix];obtain⟨X1,hX1⟩:∃ x,atM (f p).kids ((l1.length:Nat) - 1)=x:=⟨_,rfl⟩
 obtain⟨X2,hX2⟩:∃ x,atM (f p).kids ((l1.length:Nat)+1)=x:=⟨_,rfl⟩
 rw[hX1,hX2];obtain⟨d,hd⟩:∃ d,l1.length=d:=⟨_,rfl⟩
 have hMlt:=H.var.lt;have hMb:base≤w.heap.size:=by have:=H.low;omega
 obtain⟨g,rfl,-⟩:=H.read hi;have q0:(0:Int)≤(i:Int):=by omega
 have q1:(i:Int)<(m:Int):=by omega
 have p0:(0:Int)≤(p:Int):=by omega
 have p1:(p:Int)<(m:Int):=by omega
 obtain⟨w1,hw1⟩:∃ w1,w.alloc (.cells #[.int .i64 0,.int .i64 0,.int .i64 0,.int .i64 0,.int .i64 0,.int .i64 0,.string ⟨#[]⟩,.string ⟨#[]⟩,.bool false,.int .i64 0,.int .i64 0] 137)=w1:=⟨_,rfl⟩
 have hb1:Below w.heap.size w w1:=bzA hw1;have hZ1:w1.heap.size=w.heap.size+1:=by rw[←hw1];simp
 have hR1:Whole w1 w.heap.size #[.int .i64 0,.int .i64 0,.int .i64 0,.int .i64 0,.int .i64 0,.int .i64 0,.string ⟨#[]⟩,.string ⟨#[]⟩,.bool false,.int .i64 0,.int .i64 0] 137:=by rw[←hw1];exact Whole.new w _ _
 have hM1:=H.below hb1;have HIX:=zh fun nq=>rindex_any base M m _ f i (w1.drewN nq) (hM1.below (below_drewN _ w1 nq)) hw hi hg hm;rw[hidx,hd] at HIX;have k1:=hM1.cell.1;obtain⟨g',e',_,_,_,_,c4,_,_⟩:=hM1.read hi;obtain rfl:g=g':=by injection e' with e';injection e'
 rw[hp] at c4;have HMV0:=zh H;have hgl:g<w.heap.size:=(H.row.lt g rfl).2;have HMV:=zh (fun (W:World) (hb:Below w.heap.size w W)=>H.below hb);have HKR:=zh (fun (W:World) (hb:Below w.heap.size w W)=>(H.kr p hpm).below hb);have HL:=zh hL;have HX1:=zh hX1;have HX2:=zh hX2;have HD:=zh hd;have HER:=zh her;have HV:=zh hv;have HZ1:=zh hZ1;have HB1:=zh hb1;have HR1:=zh hR1;have HLE:=zh hle;have HLEN:=zh hlen;have HKN:=zh hkn;have HPI:=zh hpi;rw[hlen] at hle;rw[hd] at hle hcap;clear hL hX1 hX2 hd her hv hZ1 hb1 hR1 hlen hkn hKR hM1 hix hidx hno hnd hmem H hw hpi
 go_enter Tryz.func99,Tryz.ntmps99
 go_wp2_with fail;(try rw[hw1]);go_wp2_with fail
 go_quiet (first | (go_at_call 51;exact Calls.quiet_of_same (HIX.out _)))
 obtain⟨w2,hw2⟩:∃ w2,w1.drewN nq=w2:=⟨_,rfl⟩
 rw[hw2];have hb2:Below w.heap.size w w2:=by rw[←hw2];exact HB1.out.trans (below_drewN _ w1 nq)
 have hz2':w2.heap.size=w.heap.size+1:=by rw[←hw2];exact HZ1.out
 have hR2:Whole w2 w.heap.size #[.int .i64 0,.int .i64 0,.int .i64 0,.int .i64 0,.int .i64 0,.int .i64 0,.string ⟨#[]⟩,.string ⟨#[]⟩,.bool false,.int .i64 0,.int .i64 0] 137:=by rw[←hw2];exact HR1.out
 have hm2:=HMV.out w2 hb2;have k2:=hm2.cell.1;obtain⟨g',e',_,_,_,_,_,c5,_⟩:=hm2.read hpm;obtain rfl:g=g':=by injection e' with e';injection e'
 obtain⟨b,hbn⟩:∃ b,l2.length=b:=⟨_,rfl⟩
 obtain⟨cp,hcp⟩:∃ cp,(f p).k.c=cp:=⟨_,rfl⟩
 rw[hcp,hbn] at hcap;rw[hbn] at hle;have hlen2:(f p).kids.length=d+1+b:=by rw[HLEN.out,HD.out,hbn]
 rw[HKN.out,hlen2,hA,hcp] at c5;have hK2:=HKR.out w2 hb2;rw[hlen2,HV.out,hA,hcp,HD.out,hbn] at hK2;have hn1:((d+1+b:Nat):Int)=(d:Int)+1+(b:Int):=by omega
 have HA1:=rat_any base (.slice (some ⟨ga,o,none⟩) (d+1+b) cp) (f p).kids ((d:Int) - 1) w2 (by rw[hlen2];exact hK2) (by constructor<;>omega) (by rw[hlen2];omega);have HA2:=rat_any base (.slice (some ⟨ga,o,none⟩) (d+1+b) cp) (f p).kids ((d:Int)+1) w2 (by rw[hlen2];exact hK2) (by constructor<;>omega) (by rw[hlen2];omega);have e1:=HX1.out;have e2:=HX2.out;rw[HD.out] at e1 e2;unfold atM at e1 e2;rw[e1] at HA1;rw[e2] at HA2;have HA1:=zh HA1;have HA2:=zh HA2;have hs1:IntKind.i64.wrap ((d:Int) - 1)=(d:Int) - 1:=by rw[IntKind.wrap_i64];omega
 have hs2:IntKind.i64.wrap ((d:Int)+1)=(d:Int)+1:=by rw[IntKind.wrap_i64];omega
 obtain⟨w3,hw3⟩:∃ w3,w2.alloc (.cells #[.int .i64 0,.int .i64 0,.int .i64 0,.int .i64 0,.int .i64 0,.int .i64 0,.string ⟨#[]⟩,.string ⟨#[]⟩,.bool false,.int .i64 0,.int .i64 0] 137)=w3:=⟨_,rfl⟩
 have hb3:Below w.heap.size w w3:=by rw[←hw3];exact hb2.alloc hb2.size _
 have hz3:w3.heap.size=w.heap.size+2:=by rw[←hw3];simp;omega
 have hY3:Whole w3 w2.heap.size #[.int .i64 0,.int .i64 0,.int .i64 0,.int .i64 0,.int .i64 0,.int .i64 0,.string ⟨#[]⟩,.string ⟨#[]⟩,.bool false,.int .i64 0,.int .i64 0] 137:=by rw[←hw3];exact Whole.new w2 _ _
 have hR3:Whole w3 w.heap.size #[.int .i64 0,.int .i64 0,.int .i64 0,.int .i64 0,.int .i64 0,.int .i64 0,.string ⟨#[]⟩,.string ⟨#[]⟩,.bool false,.int .i64 0,.int .i64 0] 137:=by rw[←hw3];exact hR2.alloc _
 have y0:w3.cell? ⟨w2.heap.size,0,none⟩=some (.int .i64 0):=hY3.cell 0;have yf0:=hY3.free 0;have y1:w3.cell? ⟨w2.heap.size,1,none⟩=some (.int .i64 0):=hY3.cell 1;have yf1:=hY3.free 1;have y2:w3.cell? ⟨w2.heap.size,2,none⟩=some (.int .i64 0):=hY3.cell 2;have yf2:=hY3.free 2;have y3:w3.cell? ⟨w2.heap.size,3,none⟩=some (.int .i64 0):=hY3.cell 3;have yf3:=hY3.free 3;have y4:w3.cell? ⟨w2.heap.size,4,none⟩=some (.int .i64 0):=hY3.cell 4;have yf4:=hY3.free 4;have y5:w3.cell? ⟨w2.heap.size,5,none⟩=some (.int .i64 0):=hY3.cell 5;have yf5:=hY3.free 5;have y6:w3.cell? ⟨w2.heap.size,6,none⟩=some (.string ⟨#[]⟩):=hY3.cell 6;have yf6:=hY3.free 6;have y7:w3.cell? ⟨w2.heap.size,7,none⟩=some (.string ⟨#[]⟩):=hY3.cell 7;have yf7:=hY3.free 7;have y8:w3.cell? ⟨w2.heap.size,8,none⟩=some (.bool false):=hY3.cell 8;have yf8:=hY3.free 8;have y9:w3.cell? ⟨w2.heap.size,9,none⟩=some (.int .i64 0):=hY3.cell 9;have yf9:=hY3.free 9;have y10:w3.cell? ⟨w2.heap.size,10,none⟩=some (.int .i64 0):=hY3.cell 10;have yf10:=hY3.free 10;obtain⟨w4,hw4,hY4,g4⟩:=box11 hY3 (.int .i64 2) (.int .i64 (p:Int)) (.int .i64 (i:Int)) (.int .i64 X1) (.int .i64 X2) (.int .i64 (d:Int)) (.string ⟨#[]⟩) (.string ⟨#[]⟩) (.bool false) (.int .i64 0) (.int .i64 0);have hb4:Below w.heap.size w w4:=hb3.grown g4 hb3.size (fun j hj=>by simp at hj;omega);have hR4:=hR3.grown g4 (fun e=>by simp at e;omega);have hz4:w.heap.size+2≤w4.heap.size:=by have:=g4.size;omega
 have HZ4:=zh hz4;have HY4:=zh hY4;have HR4:=zh hR4;have HB4:=zh hb4;have HKD:=zh (And.intro hcp hbn);have HL2:=zh hlen2;have HZ2:=zh hz2';clear hz2' hb2 hR2 hm2 hK2 e1 e2 hb3 hz3 hY3 hR3 hb4 hR4 hY4 g4 hz4 HIX hbn hcp hlen2 HR1 HB1 HX1 HX2;go_wp2_with fail;refine HA1.out.mono ?_;rintro e w2' ⟨rfl,hw2'⟩;obtain rfl:=hw2'.symm;go_wp2_with fail;refine HA2.out.mono ?_;rintro e w2' ⟨rfl,hw2'⟩;obtain rfl:=hw2'.symm;clear HA1 HA2;go_wp2_with fail;have hb4d:=HB4.out.trans ((below_drew1 _ w4).mono HB4.out.size);obtain⟨w5,hw5⟩:∃ w5,w4.drew.alloc (.cells #[] 3)=w5:=⟨_,rfl⟩
 have hb5:Below w.heap.size w w5:=by rw[←hw5];exact hb4d.alloc hb4d.size _
 have HB5:=zh hb5;have HS0:=zh (HMV.out _ hb4d).cell.1;have HS1:=zh (HMV.out _ hb5).cell.1;have hb45:Below w4.heap.size w4 w5:=by rw[←hw5];exact (below_drew1 _ w4).alloc (Nat.le_refl _) _
 have HB45:=zh hb45;have hbs5:=hb45.size;have e5:TR w5 w4.heap.size 3 1 (.slice (some ⟨w4.heap.size,0,none⟩) 0 0) 0 []:=by rw[←hw5];exact empty_rowI w4.drew 3 1
 have hKS:∀ W,Below w.heap.size w W→TR W base 3 1 (.slice (some ⟨ga,o,none⟩) (d+1+b) cp) (d+1+b) (ints (f p).kids):=fun W hb=>by
  have:=HKR.out W hb;rw[HL2.out,HV.out,hA,HKD.out.1,HD.out,HKD.out.2] at this;exact this
 have ht1:(ints (f p).kids).take (d*1)=ints l1:=by rw[Nat.mul_one,ints_take,HL.out];congr 1;exact List.take_left' HD.out
 have ht2:(ints (f p).kids).drop ((d+1)*1)=ints l2:=by
  rw[Nat.mul_one,ints_drop,HL.out];congr 1;rw[show l1++(i:Int)::l2=(l1++[(i:Int)])++l2 from by simp];exact List.drop_left' (by rw[List.length_append,HD.out];rfl)
 have hHT:∀ W,Below w.heap.size w W→TR W base 3 1 (.slice (some ⟨ga,o,none⟩) d cp) d (ints l1)∧TR W base 3 1 (.slice (if cp=d+1 then some ⟨ga,o,none⟩ else some ⟨ga,o+(d+1),none⟩) b (cp - (d+1))) b (ints l2):=fun W hb=>by
  have h1:=(hKS W hb).head (k:=d) (by omega);have h2:=(hKS W hb).tail (k:=d+1) (by omega);rw[ht1] at h1;rw[ht2,Nat.add_sub_cancel_left] at h2;have et:tailV (.slice (some ⟨ga,o,none⟩) (d+1+b) cp) (d+1) 1=.slice (if cp=d+1 then some ⟨ga,o,none⟩ else some ⟨ga,o+(d+1),none⟩) b (cp - (d+1)):=by
   unfold tailV;simp only[Option.map_some,Nat.mul_one,Addr.add_lit,Nat.add_sub_cancel_left]
  rw[et] at h2;exact⟨h1,h2⟩
 have s1:=(hHT w5 hb5).1.source;have hya:=(hHT w5 hb5).1.1;have hyb:=(hHT w5 hb5).2.1;have HHT:=zh hHT;have hdc:(d:Int)≤(cp:Int):=by omega
 have hi2:(d:Int)+1≤((d+1+b:Nat):Int):=by omega
 have hi3:(0:Int)≤(d:Int)+1:=by omega
 have hi2b:(d:Int)+1≤(d:Int)+1+(b:Int):=by omega
 have ht1':((d:Int)+1).toNat=d+1:=by omega
 clear hb4d hb5 hb45 hKS ht1 ht2 hHT;go_wp2_with fail;refine wp_region_noPanic ?_;refine wp_region_held_drew (S:=(fun W=>W.cell? ⟨M,0,none⟩=some (.slice (some ⟨g,0,none⟩) m c))) (by kernel_rfl) ?_ (fun hHeld=>?_)
 ·exact HS0.out
 refine agE [0,1,2,3,4,6,7,8,10,11,12,13] ?_;iterate 12 (refine tkA ?_;try simp only[pS])
 refine agN ?_;refine rd1 5 fun K hK=>?_;go_simp;(try rw[hw5]);refine hK.out _ _ (HS1.out) fun hHeld=>?_;clear hK K;(try simp only[pS]);refine rd1 9 fun K hK=>?_;refine step_append_tail rfl _ _ 31 rfl w4.heap.size 3 i0 (.int .i64 0) 1 8 Tryz.underlying31 hi0 hz0 hz1 hz2 rfl (by decide) _ 0 [] rfl e5 _ d (ints l1) rfl hya s1 (ints_one _) ?c4 ?c5 hbs5 ?_
 case c4=>unfold maxLen;omega
 case c5=>omega
 intro v7 w7 o7 g7x f7;have g7:w5.grownBy w7 (Value.slice (some ⟨w4.heap.size,0,none⟩) 0 0).ownBlock:=g7x;clear g7x;(try simp only[Nat.zero_add,List.nil_append] at o7);obtain⟨A7,c7,rfl⟩:=o7.form;have hb47:Below w4.heap.size w4 w7:=HB45.out.grown g7 HB45.out.size (fun j hj=>by simp[Value.ownBlock] at hj;omega);have hb7:=HB4.out.trans (hb47.mono HB4.out.size);have hm7:=HMV.out w7 hb7;have s2:=(HHT.out w7 hb7).2.source;have hbs7:=hb47.size;refine hK.out _ _ (hm7.cell.1) fun hHeld=>?_;clear hK K;(try simp only[pS]);refine rd1 14 fun K hK=>?_;refine step_append_tail rfl _ _ 31 rfl w4.heap.size 3 i0 (.int .i64 0) 1 8 Tryz.underlying31 hi0 hz0 hz1 hz2 rfl (by decide) _ d (ints l1) rfl o7 _ b (ints l2) rfl hyb s2 (ints_one _) ?c4 ?c5 hbs7 ?_
 case c4=>unfold maxLen;omega
 case c5=>omega
 intro v8 w8 o8 g8 f8;rw[←ints_append] at o8;have hb48:Below w4.heap.size w4 w8:=hb47.grown g8 hb47.size (fun j hj=>(o7.lt j hj).1);have hb8:=HB4.out.trans (hb48.mono HB4.out.size);have hm8:=HMV.out w8 hb8;obtain⟨A8,c8,rfl⟩:=o8.form;have hl8:(l1++l2).length=d+b:=by rw[List.length_append,HD.out,HKD.out.2]
 obtain⟨_,fz,hcells,hm9,st9⟩:=(HMV.out w4 HB4.out).put_kids (sl:=⟨A8,d+b,c8⟩) (l':=l1++l2) hpm (Below.refl _ w4) (gb_of_below hb48 _) (by rw[hl8];exact o8.lower (by have:=HB4.out.size;omega)) (.inr fun k hk=>(o8.lt k hk).1);have hpc:=hcells p 5 hpm (by omega);have hY8:=HY4.out.below hb48 HY4.out.lt;have hR8:=HR4.out.below hb48 HR4.out.lt;have gg:w8.grownBy (w8.setCell ⟨g,p*7+5,none⟩ (.slice A8 (d+b) c8)) (some g):=gb_put (gb_of_below (Below.refl w8.heap.size w8) _) _ _;have hY9:=hY8.grown gg (fun e=>by simp at e;have:=HZ2.out;omega);have hR9:=hR8.grown gg (fun e=>by simp at e;omega);obtain⟨w9,hw9⟩:∃ w9,w8.setCell ⟨g,p*7+5,none⟩ (.slice A8 (d+b) c8)=w9:=⟨_,rfl⟩
 rw[show (Tr.Sl.v ⟨A8,d+b,c8⟩)=.slice A8 (d+b) c8 from rfl,hw9] at hm9 st9;rw[hw9] at hY9 hR9;rw[show (rsC (f p))[5]?=some ((f p).k.v) from rfl] at hpc;have HM9:=zh (And.intro hm9 st9);have HY9:=zh hY9;have HR9:=zh hR9;have HS9:=hm9.cell.1;clear hm9 st9 hY9 hR9 hY8 hR8 gg hcells hb48 hb47 hb7 hm7 o7 o8 g8 f7 f8 g7 s2 hl8;refine hK.out _ _ (hm8.cell.1) fun hHeld=>?_;clear hK K;(try simp only[pS]);refine agE [15,16] ?_;iterate 2 (refine tkA ?_;try simp only[pS])
 refine agN ?_;refine rd1 17 fun K hK=>?_;go_simp;(try rw[hw9]);refine hK.out _ _ (HS9) fun hHeld=>?_;clear hK K;(try simp only[pS]);refine dnH ?_;obtain⟨g',e',_,_,_,_,d4,_,_⟩:=HM9.out.1.read hi;obtain rfl:g=g':=by injection e' with e';injection e'
 obtain⟨g',e',_,_,_,hnode⟩:=HM9.out.1.node (by omega);obtain rfl:g=g':=by injection e' with e';injection e'
 have z4:=(hnode i 4 hi (by omega)).2;obtain⟨hm10,st10⟩:=HM9.out.1.put (v:=.int .i64 (-1)) hi (by omega:4<7) (fun n=>{ n with pa := -1 }) rfl ⟨rfl,rfl,rfl,rfl⟩;have g10:w9.grownBy (w9.setCell ⟨g,i*7+4,none⟩ (.int .i64 (-1))) (some g):=gb_put (gb_of_below (Below.refl w9.heap.size w9) _) _ _;have hY10:=HY9.out.grown g10 (fun e=>by simp at e;have:=HZ2.out;omega);have hR10:=HR9.out.grown g10 (fun e=>by simp at e;omega);obtain⟨w10,hw10⟩:∃ w10,w9.setCell ⟨g,i*7+4,none⟩ (.int .i64 (-1))=w10:=⟨_,rfl⟩
 rw[hw10] at hm10 st10 hY10 hR10;have y0:w10.cell? ⟨w2.heap.size,0,none⟩=some (.int .i64 2):=hY10.cell 0;have yf0:=hY10.free 0;have y1:w10.cell? ⟨w2.heap.size,1,none⟩=some (.int .i64 (p:Int)):=hY10.cell 1;have yf1:=hY10.free 1;have y2:w10.cell? ⟨w2.heap.size,2,none⟩=some (.int .i64 (i:Int)):=hY10.cell 2;have yf2:=hY10.free 2;have y3:w10.cell? ⟨w2.heap.size,3,none⟩=some (.int .i64 X1):=hY10.cell 3;have yf3:=hY10.free 3;have y4:w10.cell? ⟨w2.heap.size,4,none⟩=some (.int .i64 X2):=hY10.cell 4;have yf4:=hY10.free 4;have y5:w10.cell? ⟨w2.heap.size,5,none⟩=some (.int .i64 (d:Int)):=hY10.cell 5;have yf5:=hY10.free 5;have y6:w10.cell? ⟨w2.heap.size,6,none⟩=some (.string ⟨#[]⟩):=hY10.cell 6;have yf6:=hY10.free 6;have y7:w10.cell? ⟨w2.heap.size,7,none⟩=some (.string ⟨#[]⟩):=hY10.cell 7;have yf7:=hY10.free 7;have y8:w10.cell? ⟨w2.heap.size,8,none⟩=some (.bool false):=hY10.cell 8;have yf8:=hY10.free 8;have y9:w10.cell? ⟨w2.heap.size,9,none⟩=some (.int .i64 0):=hY10.cell 9;have yf9:=hY10.free 9;have y10:w10.cell? ⟨w2.heap.size,10,none⟩=some (.int .i64 0):=hY10.cell 10;have yf10:=hY10.free 10;have r0:w10.cell? ⟨w.heap.size,0,none⟩=some (.int .i64 0):=hR10.cell 0;have rf0:=hR10.free 0;have r1:w10.cell? ⟨w.heap.size,1,none⟩=some (.int .i64 0):=hR10.cell 1;have rf1:=hR10.free 1;have r2:w10.cell? ⟨w.heap.size,2,none⟩=some (.int .i64 0):=hR10.cell 2;have rf2:=hR10.free 2;have r3:w10.cell? ⟨w.heap.size,3,none⟩=some (.int .i64 0):=hR10.cell 3;have rf3:=hR10.free 3;have r4:w10.cell? ⟨w.heap.size,4,none⟩=some (.int .i64 0):=hR10.cell 4;have rf4:=hR10.free 4;have r5:w10.cell? ⟨w.heap.size,5,none⟩=some (.int .i64 0):=hR10.cell 5;have rf5:=hR10.free 5;have r6:w10.cell? ⟨w.heap.size,6,none⟩=some (.string ⟨#[]⟩):=hR10.cell 6;have rf6:=hR10.free 6;have r7:w10.cell? ⟨w.heap.size,7,none⟩=some (.string ⟨#[]⟩):=hR10.cell 7;have rf7:=hR10.free 7;have r8:w10.cell? ⟨w.heap.size,8,none⟩=some (.bool false):=hR10.cell 8;have rf8:=hR10.free 8;have r9:w10.cell? ⟨w.heap.size,9,none⟩=some (.int .i64 0):=hR10.cell 9;have rf9:=hR10.free 9;have r10:w10.cell? ⟨w.heap.size,10,none⟩=some (.int .i64 0):=hR10.cell 10;have rf10:=hR10.free 10;obtain⟨w11,hw11,hR11,g11⟩:=box11 hR10 (.int .i64 2) (.int .i64 (p:Int)) (.int .i64 (i:Int)) (.int .i64 X1) (.int .i64 X2) (.int .i64 (d:Int)) (.string ⟨#[]⟩) (.string ⟨#[]⟩) (.bool false) (.int .i64 0) (.int .i64 0);have s0:w11.cell? ⟨w.heap.size,0,none⟩=some (.int .i64 2):=hR11.cell 0;have sf0:=hR11.free 0;have s1:w11.cell? ⟨w.heap.size,1,none⟩=some (.int .i64 (p:Int)):=hR11.cell 1;have sf1:=hR11.free 1;have s2:w11.cell? ⟨w.heap.size,2,none⟩=some (.int .i64 (i:Int)):=hR11.cell 2;have sf2:=hR11.free 2;have s3:w11.cell? ⟨w.heap.size,3,none⟩=some (.int .i64 X1):=hR11.cell 3;have sf3:=hR11.free 3;have s4:w11.cell? ⟨w.heap.size,4,none⟩=some (.int .i64 X2):=hR11.cell 4;have sf4:=hR11.free 4;have s5:w11.cell? ⟨w.heap.size,5,none⟩=some (.int .i64 (d:Int)):=hR11.cell 5;have sf5:=hR11.free 5;have s6:w11.cell? ⟨w.heap.size,6,none⟩=some (.string ⟨#[]⟩):=hR11.cell 6;have sf6:=hR11.free 6;have s7:w11.cell? ⟨w.heap.size,7,none⟩=some (.string ⟨#[]⟩):=hR11.cell 7;have sf7:=hR11.free 7;have s8:w11.cell? ⟨w.heap.size,8,none⟩=some (.bool false):=hR11.cell 8;have sf8:=hR11.free 8;have s9:w11.cell? ⟨w.heap.size,9,none⟩=some (.int .i64 0):=hR11.cell 9;have sf9:=hR11.free 9;have s10:w11.cell? ⟨w.heap.size,10,none⟩=some (.int .i64 0):=hR11.cell 10;have sf10:=hR11.free 10;have hbox:∀ x,w.heap.size≤x→x<w4.heap.size→¬ MFoot M (.slice (some ⟨g,0,none⟩) m c) m (updM (updM f p fun n=>{ n with k:=⟨A8,d+b,c8⟩,kids:=l1++l2 }) i fun n=>{ n with pa := -1 }) x:=fun x h1 h2 hf=>by
  have h3:=(HM9.out.2.trans st10).2 x h2 hf;have h4:=(HMV0.out.lt x h3).2;omega
 have hm11:=hm10.turns (S:=fun x=>x=w.heap.size) (.of_grown g11 (fun k hk=>by simpa using hk.symm)) (fun x hx e=>hbox x (by omega) (by have:=HZ4.out;omega) hx);have st11:Turns (fun x=>x=w.heap.size) w10 w11:=.of_grown g11 (fun k hk=>by simpa using hk.symm);have stA:=(AStep.of_below (F:=MFoot M (.slice (some ⟨g,0,none⟩) m c) m f) HB4.out).trans (HM9.out.2.trans st10);have stB:AStep w w11 (MFoot M (.slice (some ⟨g,0,none⟩) m c) m f) (MFoot M (.slice (some ⟨g,0,none⟩) m c) m (updM (updM f p fun n=>{ n with k:=⟨A8,d+b,c8⟩,kids:=l1++l2 }) i fun n=>{ n with pa := -1 })):=
  ⟨stA.1.trans st11 (fun _ _ x=>x) (fun k hk e=>by omega),stA.2⟩
 have HFIN:=zh (And.intro hm11 stB);clear hm11 stB stA st11 hbox hm10 st10;clear hnode hR10 hY10 hR11;go_wp2_with fail;all_goals
  refine bodyPost_ret (v:=rrV ⟨2,p,i,X1,X2,d,⟨#[]⟩,⟨#[]⟩,false,0,0⟩) ?_ rfl ⟨by rw[HD.out],?_⟩
  ·simp[results,Tryz.f99,go_sem,s0,s1,s2,s3,s4,s5,s6,s7,s8,s9,s10]
  ·have e:(updM (updM f p fun n=>{ n with k:=⟨A8,d+b,c8⟩,kids:=n.kids.erase (i:Int) }) i fun n=>{ n with pa := -1 })=(updM (updM f p fun n=>{ n with k:=⟨A8,d+b,c8⟩,kids:=l1++l2 }) i fun n=>{ n with pa := -1 }):=by
    funext j;unfold updM;dsimp only;rw[HER.out]
   refine⟨⟨A8,d+b,c8⟩,?_⟩;rw[e];exact HFIN.out
end
end Go.Proofs.YtaigmpkcdjbpiaaGreatDoor
