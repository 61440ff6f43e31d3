import Derived.Test.YtekekhgjobahaaaGreatDoorG58
set_option maxHeartbeats 25600000
set_option maxRecDepth 100000
open Go.Lib (hid)
open Go.Proofs.Tryz
namespace Go.Proofs.YtekekhgjobahaaaGreatDoor.rep
open Go.RowKit words cal
open tal (Rc Recs)

structure RcIn (r:Rc):Prop where
 cl:I64 r.cl
 ix:I64 r.ix
 ca:I64 r.ca
 ma:I64 r.ma
 re:I64 r.re
 e:I64 r.e
 k:I64 r.rk
 z:I64 r.z
 h:I64 r.wh
 d:I64 r.id
 t:r.x.size≤1048576
 n:r.N.length≤1048576
 N:∀x∈r.N,x.size≤1048576
theorem RcIn.fit {r:Rc} (h:RcIn r) (ht:r.x.size≤500) (hn:r.N.length≤50):RcFit r:=⟨h.cl,h.ix,h.ca,h.ma,h.re,⟨h.e,h.k,h.z,h.h,h.d,by omega,by omega,h.N⟩⟩
theorem strOf {l:List UInt8} {s:ByteArray} {w w':World} {e:Ending} (hs:s.data.toList=l) (h:StrOut l w e w'):e= .returned (.string s)∧Below w.heap.size w w':=by
 obtain⟨⟨r,h1,h2⟩,h3⟩:=h;exact⟨by rw [h1,Jak (h2.trans hs.symm)],h3⟩
theorem Jlh (F:List UInt8) (X:List UInt8) (a b:Int):F++(X++(([101,110,100,32]:List UInt8)++Lib.itoa a++[32,48,32]++Lib.itoa b++[10]))=F++(X++(joinM [endL,Lib.itoa a,Lib.itoa ((0:Nat):Int),Lib.itoa b]++[10])):=by
 rw [Jal (n:=((0:Nat):Int)) (by decide) (by decide)];simp [joinM,endL]
theorem law_lines (m:Int) (A:Option Addr) (c:Nat) (L:List Rc) (wr a b:Int) (w:World) (hE:Env m w) (hL:Recs w A L) (hN:∀r∈L,Sl w r.A r.N) (hf:∀r∈L,RcIn r) (hw:I64 wr) (ha:I64 a) (hb:I64 b) (hl:L.length≤1048576):
  Calls prog 4 #[.slice A L.length c,.int .i64 wr,.agg #[.int .i64 a,.int .i64 b]] w (AnsB true w):=by
 obtain⟨W1,hW1⟩:=words.nm (w.alloc (.cells #[.int .i64 a,.int .i64 b] 53));obtain⟨hx,hb1⟩:=stp.new hW1;obtain⟨gz,hgz⟩:∃g,g=w.heap.size:=⟨_,rfl⟩
 rw [←hgz] at hx;have HG:=hid hgz;have HX:=hid hx;have HB1:=hid hb1;have HE:=hid hE;have HL:=hid hL;have HN:=hid hN;have HF:=hid hf;have Hw:=hid hw;have Ha:=hid ha;have Hb:=hid hb;have HSp:=hid (Jhg m W1 (hE.later hb1));have HW:=hid hW1.symm;clear hW1 hx hb1 hgz hE hL hN hf hw ha hb;go_enter func4,ntmps4
 go_upto_region 1 with fail
 rw [HW.out];simp only [←HG.out];clear HW;go_wp2_with fail
 refine HSp.out.mono ?_;rintro e w2 ⟨rfl,hb2⟩;have HB2:=hid (HB1.out.trans (hb2.mono HB1.out.size));have HX2:=hid (stp.old hb2 HX.out);clear hb2 HSp;by_cases h60:60<L.length
 ·have g60:(60:Int)<(L.length:Int):=by omega
  go_wp2_with fail
  go_ret
  exact⟨rfl,HB2.out⟩
 have g60:¬(60:Int)<(L.length:Int):=by omega
 obtain⟨W3,hW3⟩:=words.nm (w2.alloc (.cells #[.slice none 0 0,.int .i64 0] 38));obtain⟨hx3,hb3⟩:=stp.new hW3;obtain⟨gs,hgs⟩:∃g,g=w2.heap.size:=⟨_,rfl⟩
 rw [←hgs] at hx3;have HGs:=hid hgs;have HX3:=hid hx3;have HB3:=hid (HB2.out.trans (hb3.mono HB2.out.size));have HZ3:=hid (stp.old hb3 HX2.out);have HW3:=hid hW3.symm;clear hW3 hx3 hb3 hgs;go_upto_region 6 with fail
 rw [HW3.out];simp only [←HGs.out];clear HW3 HX2;go_wp2_with fail
 go_loopw [8,18] (fun v8 v18 wx=>∃(k:Nat) (o:ByteArray),k≤L.length∧v18= .int .i64 (k:Int)∧v8= .string o∧Hid (o.data.toList=(L.take k).flatMap lnM∧∀r∈L.take k,RcFit r)∧Hid (Below W3.heap.size W3 wx)) (fun _ v18 _=>L.length - (intOf v18).toNat)
 case atStart=>exact⟨0,⟨#[]⟩,Nat.zero_le _,rfl,rfl,hid ⟨rfl,fun r hr=>by simp at hr⟩,hid (Below.refl _ _)⟩
 case round=>
  obtain⟨k,o,hk,rfl,rfl,HO,HBk⟩:=hrel;rename World=>wk;have HBw:=hid (HB3.out.trans (HBk.out.mono HB3.out.size));have i0:(0:Int)≤(k:Int):=by omega
  have hol:o.size≤15000000000:=by
   have h1:=Jdy (L.take k) HO.out.2;rw [←HO.out.1,size_list,List.length_take] at h1;have h2:min k L.length≤60:=by omega
   omega
  by_cases hlt:k<L.length
  ·have i1:(k:Int)<(L.length:Int):=by omega
   obtain⟨r,hr⟩:∃r,L[k]?=some r:=⟨_,List.getElem?_eq_getElem hlt⟩
   have hrm:=List.mem_of_getElem? hr;obtain⟨bb,off,hA,hbb,hrg⟩:=(HL.out.later HBw.out) k r hr;subst hA;obtain⟨W4,hW4⟩:=words.nm (wk.alloc (.cells #[.int .i64 r.cl,.int .i64 r.ix,.int .i64 r.k,.string r.p,.int .i64 r.o,.int .i64 r.n,.int .i64 r.i,.string r.g,.int .i64 r.e,.int .i64 r.rk,.int .i64 r.z,.int .i64 r.wh,.int .i64 r.id,.string r.x,.slice r.A r.N.length r.c,.bool r.fin,.int .i64 r.ca,.int .i64 r.ma,.int .i64 r.re] 59));obtain⟨hx4,hb4⟩:=stp.new hW4;obtain⟨g4,hg4⟩:∃g,g=wk.heap.size:=⟨_,rfl⟩
   rw [←hg4] at hx4;have HG4:=hid hg4;have HRg:Hid (wk.rangeAt bb (off+k*19) r.cs):=hid hrg;have HRb:Hid (∀w',Below W4.heap.size W4 w'→w'.rangeAt g4 0 r.cs∧w'.cell? ⟨g4,13,none⟩=some (.string r.x)∧w'.cell? ⟨g4,14,none⟩=some (.slice r.A r.N.length r.c)):=hid fun w' hb=>by
    have e:=stp.old hb hx4;exact⟨tal.range_box e,Jaa e 13,Jaa e 14⟩
   have HW4:=hid hW4.symm;have HBw4:=hid (HBw.out.trans (hb4.mono HBw.out.size));have HB34:=hid (HBk.out.trans (hb4.mono HBk.out.size));have HIn:=hid (HF.out r hrm);have HNr:=hid (HN.out r hrm);have HSn:=hid (Jfb hr);have HTk:=hid (Jay hr);clear hr hrm hbb hrg hW4 hx4 hb4 hg4;go_upto_region 10 with (first |(refine tal.wl_load rfl rfl rfl HRg.out ?_) |(refine tal.wl_put (r:=r) rfl rfl rfl rfl rfl ?_))
   rw [HW4.out];simp only [←HG4.out];clear HW4 HRg;have HBd:Hid (Below W4.heap.size W4 W4.drew):=hid (Below.refl _ _).drew;by_cases ht:500<r.x.size
   ·have g1:(500:Int)<(r.x.size:Int):=by omega
    refine held.wpT_start (S:=fun w'=>Below W4.heap.size W4 w') (T:=fun _=>false) (by kernel_rfl) ?_;refine stp.tk 0 22 ?_;refine stp.tk 1 23 ?_;refine stp.ld 2 24 (HBd.out) ?_ (hv:=by intro w' h;obtain⟨c0,c13,c14⟩:=HRb.out w' h;clear h c0;go_simp;(try with_reducible rfl));refine stp.tk 3 25 ?_;refine stp.tk 4 26 ?_;refine stp.tk 5 27 ?_;refine stp.un 6 28 ?_;refine stp.un 7 29 ?_;refine stp.un 8 30 ?_;refine stp.un 9 31 ?_;refine stp.un 10 32 ?_;refine stp.tk 11 33 ?_;refine stp.tk 12 34 ?_;refine stp.un 13 35 ?_;refine stp.un 14 36 ?_;refine stp.un 15 37 ?_;refine stp.un 16 38 ?_;refine stp.un 17 39 ?_;refine stp.tk 18 40 ?_;refine held.wpT_done (by kernel_rfl) ?_ _;obtain⟨c0,c13,c14⟩:=HRb.out _ HBd.out;clear c0;go_wp2_with fail
    go_ret
    exact⟨rfl,HBw4.out.trans (HBd.out.mono HBw4.out.size)⟩
   have g1:¬(500:Int)<(r.x.size:Int):=by omega
   by_cases hn:50<r.N.length
   ·have g2:(50:Int)<(r.N.length:Int):=by omega
    refine held.wpT_start (S:=fun w'=>Below W4.heap.size W4 w') (T:=fun _=>false) (by kernel_rfl) ?_;refine stp.tk 0 22 ?_;refine stp.tk 1 23 ?_;refine stp.ld 2 24 (HBd.out) ?_ (hv:=by intro w' h;obtain⟨c0,c13,c14⟩:=HRb.out w' h;clear h c0;go_simp;(try with_reducible rfl));refine stp.tk 3 25 ?_;refine stp.tk 4 26 ?_;refine stp.tk 5 27 ?_;refine stp.tk 6 28 ?_;refine stp.tk 7 29 ?_;refine stp.ld 8 30 (HBd.out) ?_ (hv:=by intro w' h;obtain⟨c0,c13,c14⟩:=HRb.out w' h;clear h c0;go_simp;(try with_reducible rfl));refine stp.tk 9 31 ?_;refine stp.tk 10 32 ?_;refine stp.tk 11 33 ?_;refine stp.tk 12 34 ?_;refine stp.un 13 35 ?_;refine stp.un 14 36 ?_;refine stp.un 15 37 ?_;refine stp.un 16 38 ?_;refine stp.un 17 39 ?_;refine stp.tk 18 40 ?_;refine held.wpT_done (by kernel_rfl) ?_ _;obtain⟨c0,c13,c14⟩:=HRb.out _ HBd.out;clear c0;go_wp2_with fail
    go_ret
    exact⟨rfl,HBw4.out.trans (HBd.out.mono HBw4.out.size)⟩
   have g2:¬(50:Int)<(r.N.length:Int):=by omega
   have hfit:=HIn.out.fit (by omega) (by omega);obtain⟨q,hq⟩:∃q:ByteArray,q.data.toList=lnM r:=⟨⟨(lnM r).toArray⟩,Jam _⟩
   have HLn1:Hid (∀w',Below W4.heap.size W4 w'→Calls prog 14 #[.agg #[.int .i64 r.cl,.int .i64 r.ix,.int .i64 r.k,.string r.p,.int .i64 r.o,.int .i64 r.n,.int .i64 r.i,.string r.g,.int .i64 r.e,.int .i64 r.rk,.int .i64 r.z,.int .i64 r.wh,.int .i64 r.id,.string r.x,.slice r.A r.N.length r.c,.bool r.fin,.int .i64 r.ca,.int .i64 r.ma,.int .i64 r.re]] w' fun e w''=>e= .returned (.string q)∧Below w'.heap.size w' w''):=hid fun w' hb=>(Jgv m r w' (HE.out.later (HBw4.out.trans (hb.mono HBw4.out.size))) (HNr.out.later (HBw4.out.trans (hb.mono HBw4.out.size))) hfit).mono fun e w'' h=>strOf hq h;have HLn2:Hid (∀w',Below W4.heap.size W4 w'→Calls prog 15 #[.agg #[.int .i64 r.cl,.int .i64 r.ix,.int .i64 r.k,.string r.p,.int .i64 r.o,.int .i64 r.n,.int .i64 r.i,.string r.g,.int .i64 r.e,.int .i64 r.rk,.int .i64 r.z,.int .i64 r.wh,.int .i64 r.id,.string r.x,.slice r.A r.N.length r.c,.bool r.fin,.int .i64 r.ca,.int .i64 r.ma,.int .i64 r.re]] w' fun e w''=>e= .returned (.string q)∧Below w'.heap.size w' w''):=hid fun w' hb=>(Jfm r w' (HNr.out.later (HBw4.out.trans (hb.mono HBw4.out.size))) hfit).mono fun e w'' h=>strOf hq h;have hqz:q.size≤220001000:=by rw [←size_list,hq];exact Jg3 hfit
   have gq:(q.toList !=q.toList)=false:=by simp
   have gq2:(q.toList==q.toList)=true:=by simp
   have y0:¬9223372036854775807<o.size+q.size:=by omega
   have HOn:Hid ((o++q).data.toList=(L.take (k+1)).flatMap lnM∧∀r∈L.take (k+1),RcFit r):=hid ⟨by rw [HSn.out,Jae,HO.out.1,hq],fun r' hr'=>by
     rw [HTk.out] at hr';rcases List.mem_append.1 hr' with h |h
     ·exact HO.out.2 r' h
     ·rw [List.mem_singleton.1 h];exact hfit⟩
   clear hq hfit;refine held.wpT_start (S:=fun w'=>Below W4.heap.size W4 w') (T:=fun _=>false) (by kernel_rfl) ?_;refine stp.tk 0 22 ?_;refine stp.tk 1 23 ?_;refine stp.ld 2 24 (HBd.out) ?_ (hv:=by intro w' h;obtain⟨c0,c13,c14⟩:=HRb.out w' h;clear h c0;go_simp;(try with_reducible rfl));refine stp.tk 3 25 ?_;refine stp.tk 4 26 ?_;refine stp.tk 5 27 ?_;refine stp.tk 6 28 ?_;refine stp.tk 7 29 ?_;refine stp.ld 8 30 (HBd.out) ?_ (hv:=by intro w' h;obtain⟨c0,c13,c14⟩:=HRb.out w' h;clear h c0;go_simp;(try with_reducible rfl));refine stp.tk 9 31 ?_;refine stp.tk 10 32 ?_;refine stp.tk 11 33 ?_;refine stp.tk 12 34 ?_;refine stp.ldm 13 35 (HBd.out) (yieldsIf_load_mid (by kernel_rfl) 59 (.tmp 10) rfl g4 0 rfl r.cs _ (fun w' h=>(HRb.out w' h).1) underlying59 rfl (by kernel_rfl)) ?_;refine stp.ldm 15 37 (HBd.out) (yieldsIf_load_mid (by kernel_rfl) 59 (.tmp 10) rfl g4 0 rfl r.cs _ (fun w' h=>(HRb.out w' h).1) underlying59 rfl (by kernel_rfl)) ?_;refine held.wpT_one (i:=14) (by kernel_rfl) rfl (fun Kc hK=>?_);go_simp
   go_at_call 14
   refine (HLn1.out _ HBd.out).mono ?_;rintro en w5 ⟨rfl,hb5⟩;have HBx:Hid (Below W4.heap.size W4 w5):=hid (HBd.out.trans (hb5.mono HBd.out.size));clear hb5;refine hK.out _ _ (fun _ _=>HBx.out) ?_;clear hK;try simp only [stp.pt]
   refine held.wpT_one (i:=16) (by kernel_rfl) rfl (fun Kc hK=>?_);go_simp
   go_at_call 15
   refine (HLn2.out _ HBx.out).mono ?_;rintro en w6 ⟨rfl,hb6⟩;have HBy:Hid (Below W4.heap.size W4 w6):=hid (HBx.out.trans (hb6.mono HBx.out.size));clear hb6;refine hK.out _ _ (fun _ _=>HBy.out) ?_;clear hK;try simp only [stp.pt]
   refine stp.tk 17 39 ?_;refine stp.tk 18 40 ?_;refine held.wpT_done (by kernel_rfl) ?_ _;go_wp2_with (refine tal.wl_load rfl rfl rfl (HRb.out _ HBy.out).1 ?_)
   refine (HLn2.out _ HBy.out).mono ?_;rintro en w7 ⟨rfl,hb7⟩;have HBn:Hid (Below W3.heap.size W3 w7):=hid (HB34.out.trans ((HBy.out.trans (hb7.mono HBy.out.size)).mono HB34.out.size));clear hb7 HLn1 HLn2 HRb;go_wp2_with fail
   go_roundw
   case rel=>exact⟨k+1,_,by omega,by go_num,rfl,HOn,HBn⟩
   case measure=>simp [intOf];omega
  obtain rfl:k=L.length:=by omega
  have i1:¬(L.length:Int)<(L.length:Int):=by omega
  have HOf:Hid (o.data.toList=L.flatMap lnM∧∀r∈L,RcFit r):=hid (by have:=HO.out;rwa [List.take_length] at this);clear HO;by_cases h0:0≤wr
  ·have HNw:=hid (Jaf wr Hw.out wk)
   go_wp2_with fail
   refine HNw.out.mono ?_;rintro en w11 ⟨⟨q0,rfl,hq0⟩,hb11⟩;have hz0:q0.size≤21:=Jaj hq0 Hw.out;have HQ0:=hid hq0;have x1:¬9223372036854775807<6+q0.size:=by omega
   have x2:¬9223372036854775807<6+q0.size+1:=by omega
   have x3:¬9223372036854775807<o.size+(6+q0.size+1):=by omega
   have HB11:=hid (HBk.out.trans (hb11.mono HBk.out.size));clear hb11 hq0 HNw;have HCz:Hid (∀w',Below w11.heap.size w11 w'→w'.cell? ⟨gz,0,none⟩=some (.int .i64 a)∧w'.cell? ⟨gz,1,none⟩=some (.int .i64 b)∧w'.cell? ⟨gs,0,none⟩=some (.slice none 0 0)∧w'.cell? ⟨gs,1,none⟩=some (.int .i64 0)):=hid fun w' hb=>by
    have e1:=stp.cs2 (stp.old (HB11.out.trans (hb.mono HB11.out.size)) HZ3.out);have e2:=stp.cs2 (stp.old (HB11.out.trans (hb.mono HB11.out.size)) HX3.out);exact⟨e1.1,e1.2,e2.1,e2.2⟩
   go_upto_region 16 with fail
   refine held.wpT_start (S:=fun w'=>Below w11.heap.size w11 w') (T:=fun _=>false) (by kernel_rfl) ?_;refine stp.tk 0 66 ?_;refine stp.tk 1 67 ?_;refine stp.ld 2 68 ((Below.refl _ _).drew) ?_ (hv:=by intro w' h;obtain⟨c0,c1,c2,c3⟩:=HCz.out w' h;clear h;go_simp;(try with_reducible rfl));refine stp.tk 6 72 ?_;refine stp.ld 7 73 ((Below.refl _ _).drew) ?_ (hv:=by intro w' h;obtain⟨c0,c1,c2,c3⟩:=HCz.out w' h;clear h;go_simp;(try with_reducible rfl));refine held.wpT_one (i:=3) (by kernel_rfl) rfl (fun Kc hK=>?_);go_simp
   go_at_call 10
   refine (Jaf a Ha.out _).mono ?_;rintro en w20 ⟨⟨q1,rfl,hq1⟩,hb20⟩;have HB20:Hid (Below w11.heap.size w11 w20):=hid ((Below.refl _ _).drew.trans hb20);have HQ1:=hid hq1;have hz1:q1.size≤21:=Jaj hq1 Ha.out;have y1:¬9223372036854775807<4+q1.size:=by omega
   have y2:¬9223372036854775807<4+q1.size+3:=by omega
   clear hb20 hq1;refine hK.out _ _ (fun _ _=>HB20.out) ?_;clear hK;try simp only [stp.pt]
   refine stp.tk 4 70 ?_;refine stp.tk 5 71 ?_;refine held.wpT_one (i:=8) (by kernel_rfl) rfl (fun Kc hK=>?_);go_simp
   go_at_call 10
   refine (Jaf b Hb.out _).mono ?_;rintro en w21 ⟨⟨q2,rfl,hq2⟩,hb21⟩;have HB21:Hid (Below w11.heap.size w11 w21):=hid (HB20.out.trans (hb21.mono HB20.out.size));have HQ2:=hid hq2;have hz2:q2.size≤21:=Jaj hq2 Hb.out;have y3:¬9223372036854775807<4+q1.size+3+q2.size:=by omega
   have y4:¬9223372036854775807<4+q1.size+3+q2.size+1:=by omega
   have y5:¬9223372036854775807<(o.size+(6+q0.size+1))+(4+q1.size+3+q2.size+1):=by omega
   clear hb21 hq2;refine hK.out _ _ (fun _ _=>HB21.out) ?_;clear hK;try simp only [stp.pt]
   refine stp.tk 9 75 ?_;refine stp.tk 10 76 ?_;refine stp.tk 11 77 ?_;refine stp.tk 12 8 ?_;refine held.wpT_done (by kernel_rfl) ?_ _;obtain⟨c0,c1,c2,c3⟩:=HCz.out w21 HB21.out;obtain⟨z,hz⟩:∃z:ByteArray,z.data.toList=repT L wr a 0 b:=⟨⟨(repT L wr a 0 b).toArray⟩,Jam _⟩
   have HBz:=hid (HB3.out.trans ((HB11.out.trans (HB21.out.mono HB11.out.size)).mono HB3.out.size));have HTx:=hid ((Jfo m 0 wr a 0 b L A none c 0 0 w21 (HE.out.later HBz.out) (HL.out.later HBz.out) (fun r hr=>(HN.out r hr).later HBz.out) HOf.out.2 (by omega) Hw.out Ha.out Hb.out (by decide)).mono fun e w' h=>strOf hz h);have hez:((o++(⟨#[119,114,111,110,103,32]⟩++q0++⟨#[10]⟩))++((⟨#[101,110,100,32]⟩++q1++⟨#[32,48,32]⟩)++q2++⟨#[10]⟩))=z:=Jak (by
     rw [hz];unfold repT;rw [if_pos h0,Jbh,Jae,Jae,HOf.out.1];simp only [Jae,HQ0.out,HQ1.out,HQ2.out];rw [←Jlh];simp [wrongL])
   have gz2:(z.toList==z.toList)=true:=by simp
   rw [hez];clear hez hz;go_wp2_with fail
   refine HTx.out.mono ?_;rintro en w22 ⟨rfl,hb22⟩;have HBf:=hid (HBz.out.trans (hb22.mono HBz.out.size));clear hb22 HTx;go_wp2_with fail
   go_ret
   exact⟨rfl,HBf.out⟩
  ·have HCz:Hid (∀w',Below wk.heap.size wk w'→w'.cell? ⟨gz,0,none⟩=some (.int .i64 a)∧w'.cell? ⟨gz,1,none⟩=some (.int .i64 b)∧w'.cell? ⟨gs,0,none⟩=some (.slice none 0 0)∧w'.cell? ⟨gs,1,none⟩=some (.int .i64 0)):=hid fun w' hb=>by
    have e1:=stp.cs2 (stp.old (HBk.out.trans (hb.mono HBk.out.size)) HZ3.out);have e2:=stp.cs2 (stp.old (HBk.out.trans (hb.mono HBk.out.size)) HX3.out);exact⟨e1.1,e1.2,e2.1,e2.2⟩
   go_upto_region 16 with fail
   refine held.wpT_start (S:=fun w'=>Below wk.heap.size wk w') (T:=fun _=>false) (by kernel_rfl) ?_;refine stp.tk 0 66 ?_;refine stp.tk 1 67 ?_;refine stp.ld 2 68 ((Below.refl _ _).drew) ?_ (hv:=by intro w' h;obtain⟨c0,c1,c2,c3⟩:=HCz.out w' h;clear h;go_simp;(try with_reducible rfl));refine stp.tk 6 72 ?_;refine stp.ld 7 73 ((Below.refl _ _).drew) ?_ (hv:=by intro w' h;obtain⟨c0,c1,c2,c3⟩:=HCz.out w' h;clear h;go_simp;(try with_reducible rfl));refine held.wpT_one (i:=3) (by kernel_rfl) rfl (fun Kc hK=>?_);go_simp
   go_at_call 10
   refine (Jaf a Ha.out _).mono ?_;rintro en w20 ⟨⟨q1,rfl,hq1⟩,hb20⟩;have HB20:Hid (Below wk.heap.size wk w20):=hid ((Below.refl _ _).drew.trans hb20);have HQ1:=hid hq1;have hz1:q1.size≤21:=Jaj hq1 Ha.out;have y1:¬9223372036854775807<4+q1.size:=by omega
   have y2:¬9223372036854775807<4+q1.size+3:=by omega
   clear hb20 hq1;refine hK.out _ _ (fun _ _=>HB20.out) ?_;clear hK;try simp only [stp.pt]
   refine stp.tk 4 70 ?_;refine stp.tk 5 71 ?_;refine held.wpT_one (i:=8) (by kernel_rfl) rfl (fun Kc hK=>?_);go_simp
   go_at_call 10
   refine (Jaf b Hb.out _).mono ?_;rintro en w21 ⟨⟨q2,rfl,hq2⟩,hb21⟩;have HB21:Hid (Below wk.heap.size wk w21):=hid (HB20.out.trans (hb21.mono HB20.out.size));have HQ2:=hid hq2;have hz2:q2.size≤21:=Jaj hq2 Hb.out;have y3:¬9223372036854775807<4+q1.size+3+q2.size:=by omega
   have y4:¬9223372036854775807<4+q1.size+3+q2.size+1:=by omega
   have y5:¬9223372036854775807<o.size+(4+q1.size+3+q2.size+1):=by omega
   clear hb21 hq2;refine hK.out _ _ (fun _ _=>HB21.out) ?_;clear hK;try simp only [stp.pt]
   refine stp.tk 9 75 ?_;refine stp.tk 10 76 ?_;refine stp.tk 11 77 ?_;refine stp.tk 12 8 ?_;refine held.wpT_done (by kernel_rfl) ?_ _;obtain⟨c0,c1,c2,c3⟩:=HCz.out w21 HB21.out;obtain⟨z,hz⟩:∃z:ByteArray,z.data.toList=repT L wr a 0 b:=⟨⟨(repT L wr a 0 b).toArray⟩,Jam _⟩
   have HBz:=hid (HB3.out.trans ((HBk.out.trans (HB21.out.mono HBk.out.size)).mono HB3.out.size));have HTx:=hid ((Jfo m 0 wr a 0 b L A none c 0 0 w21 (HE.out.later HBz.out) (HL.out.later HBz.out) (fun r hr=>(HN.out r hr).later HBz.out) HOf.out.2 (by omega) Hw.out Ha.out Hb.out (by decide)).mono fun e w' h=>strOf hz h);have hez:(o++((⟨#[101,110,100,32]⟩++q1++⟨#[32,48,32]⟩)++q2++⟨#[10]⟩))=z:=Jak (by
     rw [hz];unfold repT;rw [if_neg (by omega),List.nil_append,Jae,HOf.out.1];simp only [Jae,HQ1.out,HQ2.out];have:=Jlh (L.flatMap lnM) [] a b;rwa [List.nil_append,List.nil_append] at this)
   have gz2:(z.toList==z.toList)=true:=by simp
   rw [hez];clear hez hz;go_wp2_with fail
   refine HTx.out.mono ?_;rintro en w22 ⟨rfl,hb22⟩;have HBf:=hid (HBz.out.trans (hb22.mono HBz.out.size));clear hb22 HTx;go_wp2_with fail
   go_ret
   exact⟨rfl,HBf.out⟩
end Go.Proofs.YtekekhgjobahaaaGreatDoor.rep
