import Derived.Test.YtekekhgjobahaaaGreatDoorD3
import Derived.Test.YtekekhgjobahaaaGreatDoorD7
import Derived.Test.YtekekhgjobahaaaGreatDoorB6
set_option maxHeartbeats 12800000
set_option maxRecDepth 100000
open Go.Lib (hid)
open Go.Proofs.Tryz
namespace Go.Proofs.YtekekhgjobahaaaGreatDoor.rep
open Go.RowKit words cal
open tal (Rc)

def lnM (r:Rc):List UInt8:=joinM [Lib.itoa r.cl,Lib.itoa r.ix,Lib.itoa r.ca,Lib.itoa r.ma,Lib.itoa r.re,showM r.k r.e r.rk r.z r.wh r.id r.x.data.toList (dataL r.N) r.fin]++[10]
structure RcFit (r:Rc):Prop where
 cl:I64 r.cl
 ix:I64 r.ix
 ca:I64 r.ca
 ma:I64 r.ma
 re:I64 r.re
 res:ResFit r.e r.rk r.z r.wh r.id r.x r.N
 er:r.e≠0
theorem Jue {q e k z h d:Int} {t:ByteArray} {N:List ByteArray} {en:Bool} (hf:ResFit e k z h d t N):(showM q e k z h d t.data.toList (dataL N) en).length≤220000000:=by
 unfold showM;split
 ·obtain⟨h1,h2⟩:=Jxe (q:=q) (en:=en) hf
  rw [join_cons,List.length_append];have:=Jmg 2097153 _ h1;have h3:(ansM q k z h d t.data.toList (dataL N) en).length*(2097153+1)≤101*(2097153+1):=Nat.mul_le_mul_right _ h2;have h4:okL.length=2:=rfl;omega
 ·have:=Lib.itoa_length_le e hf.e.1 hf.e.2
  rw [Jeo,List.length_append,List.length_cons];have h4:errL.length=5:=rfl;omega
theorem Jqr {r:Rc} (hf:RcFit r):(lnM r).length≤220001000:=by
 have h1:=Lib.itoa_length_le r.cl hf.cl.1 hf.cl.2;have h2:=Lib.itoa_length_le r.ix hf.ix.1 hf.ix.2;have h3:=Lib.itoa_length_le r.ca hf.ca.1 hf.ca.2;have h4:=Lib.itoa_length_le r.ma hf.ma.1 hf.ma.2;have h5:=Lib.itoa_length_le r.re hf.re.1 hf.re.2;have h6:=Jue (q:=r.k) (en:=r.fin) hf.res;unfold lnM;simp only [joinM,List.length_append,List.length_cons,List.length_nil];omega
def LineO (L:List (List UInt8)) (w:World) (e:Ending) (w':World):Prop:=(∃r:ByteArray,e= .returned (.string r)∧r.data.toList=joinM L++[10])∧Below w.heap.size w w'
theorem Jct (g:Nat) (c:Nat) (Q:List ByteArray) (L:List (List UInt8)) (n:Nat) (w:World) (hn:n=Q.length) (hc:n≤c) (hQ:dataL Q=L) (hS:Sl w (some ⟨g,0,none⟩) Q) (h0:0<Q.length) (hN:Q.length≤1000) (hl:(joinM L).length≤1000000000000):
  Calls prog 32 #[.slice (some ⟨g,0,none⟩) n c] w (LineO L w):=by
 subst hn;have he:Lib.join (Q.map (·.data.toList)) (⟨#[32]⟩:ByteArray).data.toList=joinM L:=by rw [←hQ];exact Jln _
 have hj:=Tryz.strings_Join g 0 c Q ⟨#[32]⟩ w (fun j x hx=>by
   obtain⟨b,off,e1,_,e3⟩:=hS j x hx;injection e1 with e1;injection e1 with e1 e2;subst e1;subst e2;exact e3) (by
   obtain⟨b,off,e1,e2,_⟩:=hS 0 _ (List.getElem?_eq_getElem h0);injection e1 with e1;injection e1 with e1;subst e1;exact e2) (by omega) hc (by rw [he];omega)
 rw [he] at hj;obtain⟨j,hjj⟩:∃j:ByteArray,j=⟨(joinM L).toArray⟩:=⟨_,rfl⟩
 rw [←hjj] at hj;have HJ:=hid hj;have HD:=hid (show j.data.toList=joinM L by rw [hjj]);have hjz:j.size≤1000000000000:=by rw [←size_list,HD.out];exact hl
 have y0:¬9223372036854775807<j.size+1:=by omega
 clear hj he hS hQ hjj hl h0;go_enter func32,ntmps32
 go_wp2_with fail
 refine HJ.out.mono ?_;rintro e w2 ⟨rfl,hb2⟩;have HB2:=hid hb2;clear hb2 HJ;go_wp2_with fail
 go_ret
 exact⟨⟨_,rfl,by rw [Jd5,HD.out]⟩,HB2.out⟩
theorem Jt3 (m:Int) (r:Rc) (w:World) (hE:Env m w) (hN:Sl w r.A r.N) (hf:RcFit r):
  Calls prog 14 #[.agg #[.int .i64 r.cl,.int .i64 r.ix,.int .i64 r.k,.string r.p,.int .i64 r.o,.int .i64 r.n,.int .i64 r.i,.string r.g,.int .i64 r.e,.int .i64 r.rk,.int .i64 r.z,.int .i64 r.wh,.int .i64 r.id,.string r.x,.slice r.A r.N.length r.c,.bool r.fin,.int .i64 r.ca,.int .i64 r.ma,.int .i64 r.re]] w (StrOut (lnM r) w):=by
 obtain⟨W1,hW1⟩:=words.nm (w.alloc (.cells #[.int .i64 r.cl,.int .i64 r.ix,.int .i64 r.k,.string r.p,.int .i64 r.o,.int .i64 r.n,.int .i64 r.i,.string r.g,.int .i64 r.e,.int .i64 r.rk,.int .i64 r.z,.int .i64 r.wh,.int .i64 r.id,.string r.x,.slice r.A r.N.length r.c,.bool r.fin,.int .i64 r.ca,.int .i64 r.ma,.int .i64 r.re] 59));obtain⟨hx,hb1⟩:=stp.new hW1;obtain⟨g0,hg0⟩:=words.nm (w.heap.size);rw [←hg0] at hx;have HG:=hid hg0;clear hg0;have HC:Hid (∀w':World,Below W1.heap.size W1 w'→w'.cell? ⟨g0,0,none⟩=some (.int .i64 r.cl)∧w'.cell? ⟨g0,1,none⟩=some (.int .i64 r.ix)∧w'.cell? ⟨g0,2,none⟩=some (.int .i64 r.k)∧w'.cell? ⟨g0,8,none⟩=some (.int .i64 r.e)∧w'.cell? ⟨g0,9,none⟩=some (.int .i64 r.rk)∧w'.cell? ⟨g0,10,none⟩=some (.int .i64 r.z)∧w'.cell? ⟨g0,11,none⟩=some (.int .i64 r.wh)∧w'.cell? ⟨g0,12,none⟩=some (.int .i64 r.id)∧w'.cell? ⟨g0,13,none⟩=some (.string r.x)∧w'.cell? ⟨g0,14,none⟩=some (.slice r.A r.N.length r.c)∧w'.cell? ⟨g0,15,none⟩=some (.bool r.fin)∧w'.cell? ⟨g0,16,none⟩=some (.int .i64 r.ca)∧w'.cell? ⟨g0,17,none⟩=some (.int .i64 r.ma)∧w'.cell? ⟨g0,18,none⟩=some (.int .i64 r.re)):=hid fun w' hb=>by
  have e1:=stp.old hb hx;exact⟨Jaa e1 0,Jaa e1 1,Jaa e1 2,Jaa e1 8,Jaa e1 9,Jaa e1 10,Jaa e1 11,Jaa e1 12,Jaa e1 13,Jaa e1 14,Jaa e1 15,Jaa e1 16,Jaa e1 17,Jaa e1 18⟩
 have HE:=hid (hE.later hb1);have HN:=hid (hN.later hb1);have HF:=hid hf;have HB1:=hid hb1;have HW:=hid hW1.symm;have HBd:Hid (Below W1.heap.size W1 W1.drew):=hid (Below.refl _ _).drew;have HI:Hid (∀(n:Int) (w':World),I64 n→Below W1.heap.size W1 w'→Calls prog 33 #[.int .i64 n] w' fun e w''=>(∃q:ByteArray,e= .returned (.string q)∧q.data.toList=Lib.itoa n)∧Below W1.heap.size W1 w''):=hid fun n w' hn hb=>(Jc1 m n w' hn (HE.out.later hb)).mono fun e w'' ⟨h1,h2⟩=>⟨h1,hb.trans (h2.mono hb.size)⟩
 have HS:Hid (∀w':World,Below W1.heap.size W1 w'→Calls prog 34 #[.int .i64 r.k,.agg #[.int .i64 r.e,.int .i64 r.rk,.int .i64 r.z,.int .i64 r.wh,.int .i64 r.id,.string r.x,.slice r.A r.N.length r.c,.bool r.fin]] w' fun e w''=>(∃q:ByteArray,e= .returned (.string q)∧q.data.toList=showM r.k r.e r.rk r.z r.wh r.id r.x.data.toList (dataL r.N) r.fin)∧Below W1.heap.size W1 w''):=hid fun w' hb=>(Jtc m r.k r.e r.rk r.z r.wh r.id r.x r.A r.N r.c r.fin w' (HE.out.later hb) (HN.out.later hb) HF.out.res HF.out.er).mono fun e w'' ⟨h1,h2⟩=>⟨h1,hb.trans (h2.mono hb.size)⟩
 clear hE hN hf hb1 hx hW1;go_enter func14,ntmps14
 go_upto_region 1 with fail
 rw [HW.out];simp only [←HG.out];clear HW;refine held.wpT_start (S:=fun w'=>Below W1.heap.size W1 w') (T:=fun _=>false) (by kernel_rfl) ?_;refine stp.tk 0 3 ?_;refine stp.ld 1 4 (HBd.out) ?_ (hv:=by intro w' h;obtain⟨c0,c1,c2,c8,c9,c10,c11,c12,c13,c14,c15,c16,c17,c18⟩:=HC.out w' h;clear h;go_simp;(try with_reducible rfl));refine stp.tk 3 6 ?_;refine stp.ld 4 7 (HBd.out) ?_ (hv:=by intro w' h;obtain⟨c0,c1,c2,c8,c9,c10,c11,c12,c13,c14,c15,c16,c17,c18⟩:=HC.out w' h;clear h;go_simp;(try with_reducible rfl));refine stp.tk 6 9 ?_;refine stp.ld 7 10 (HBd.out) ?_ (hv:=by intro w' h;obtain⟨c0,c1,c2,c8,c9,c10,c11,c12,c13,c14,c15,c16,c17,c18⟩:=HC.out w' h;clear h;go_simp;(try with_reducible rfl));refine stp.tk 9 12 ?_;refine stp.ld 10 13 (HBd.out) ?_ (hv:=by intro w' h;obtain⟨c0,c1,c2,c8,c9,c10,c11,c12,c13,c14,c15,c16,c17,c18⟩:=HC.out w' h;clear h;go_simp;(try with_reducible rfl));refine stp.tk 12 15 ?_;refine stp.ld 13 16 (HBd.out) ?_ (hv:=by intro w' h;obtain⟨c0,c1,c2,c8,c9,c10,c11,c12,c13,c14,c15,c16,c17,c18⟩:=HC.out w' h;clear h;go_simp;(try with_reducible rfl));refine stp.tk 15 18 ?_;refine stp.tk 16 19 ?_;refine stp.ld 17 20 (HBd.out) ?_ (hv:=by intro w' h;obtain⟨c0,c1,c2,c8,c9,c10,c11,c12,c13,c14,c15,c16,c17,c18⟩:=HC.out w' h;clear h;go_simp;(try with_reducible rfl));refine stp.tk 18 21 ?_;refine stp.ld 19 22 (HBd.out) ?_ (hv:=by intro w' h;obtain⟨c0,c1,c2,c8,c9,c10,c11,c12,c13,c14,c15,c16,c17,c18⟩:=HC.out w' h;clear h;go_simp;(try with_reducible rfl));refine held.wpT_one (i:=2) (by kernel_rfl) rfl (fun Kc hK=>?_);go_simp
 go_at_call 33
 refine (HI.out r.cl _ HF.out.cl HBd.out).mono ?_;rintro en w2 ⟨⟨q0,rfl,hq0⟩,hb⟩;have HB2:=hid hb;have HQ0:=hid hq0;clear hb hq0;refine hK.out _ _ (fun _ _=>HB2.out) ?_;clear hK;try simp only [stp.pt]
 refine held.wpT_one (i:=5) (by kernel_rfl) rfl (fun Kc hK=>?_);go_simp
 go_at_call 33
 refine (HI.out r.ix _ HF.out.ix HB2.out).mono ?_;rintro en w3 ⟨⟨q1,rfl,hq1⟩,hb⟩;have HB3:=hid hb;have HQ1:=hid hq1;clear hb hq1;refine hK.out _ _ (fun _ _=>HB3.out) ?_;clear hK;try simp only [stp.pt]
 refine held.wpT_one (i:=8) (by kernel_rfl) rfl (fun Kc hK=>?_);go_simp
 go_at_call 33
 refine (HI.out r.ca _ HF.out.ca HB3.out).mono ?_;rintro en w4 ⟨⟨q2,rfl,hq2⟩,hb⟩;have HB4:=hid hb;have HQ2:=hid hq2;clear hb hq2;refine hK.out _ _ (fun _ _=>HB4.out) ?_;clear hK;try simp only [stp.pt]
 refine held.wpT_one (i:=11) (by kernel_rfl) rfl (fun Kc hK=>?_);go_simp
 go_at_call 33
 refine (HI.out r.ma _ HF.out.ma HB4.out).mono ?_;rintro en w5 ⟨⟨q3,rfl,hq3⟩,hb⟩;have HB5:=hid hb;have HQ3:=hid hq3;clear hb hq3;refine hK.out _ _ (fun _ _=>HB5.out) ?_;clear hK;try simp only [stp.pt]
 refine held.wpT_one (i:=14) (by kernel_rfl) rfl (fun Kc hK=>?_);go_simp
 go_at_call 33
 refine (HI.out r.re _ HF.out.re HB5.out).mono ?_;rintro en w6 ⟨⟨q4,rfl,hq4⟩,hb⟩;have HB6:=hid hb;have HQ4:=hid hq4;clear hb hq4;refine hK.out _ _ (fun _ _=>HB6.out) ?_;clear hK;try simp only [stp.pt]
 refine held.wpT_one (i:=20) (by kernel_rfl) rfl (fun Kc hK=>?_);go_simp
 go_at_call 34
 refine (HS.out _ HB6.out).mono ?_;rintro en w7 ⟨⟨q5,rfl,hq5⟩,hb⟩;have HB7:=hid hb;have HQ5:=hid hq5;clear hb hq5;refine hK.out _ _ (fun _ _=>HB7.out) ?_;clear hK;try simp only [stp.pt]
 refine held.wpT_one (i:=21) (by kernel_rfl) rfl (fun Kc hK=>?_);go_simp
 obtain⟨W8,hW8⟩:=words.nm (w7.alloc (.cells #[.string q0,.string q1,.string q2,.string q3,.string q4,.string q5] 9));have hSl:Sl W8 (some ⟨w7.heap.size,0,none⟩) [q0,q1,q2,q3,q4,q5]:=by rw [hW8];exact Jhg w7 _
 have HB8:=hid (HB7.out.trans ((stp.new hW8).2.mono HB7.out.size));rw [←hW8];have hL:dataL [q0,q1,q2,q3,q4,q5]=[Lib.itoa r.cl,Lib.itoa r.ix,Lib.itoa r.ca,Lib.itoa r.ma,Lib.itoa r.re,showM r.k r.e r.rk r.z r.wh r.id r.x.data.toList (dataL r.N) r.fin]:=by simp only [dataL,List.map_cons,List.map_nil,HQ0.out,HQ1.out,HQ2.out,HQ3.out,HQ4.out,HQ5.out]
 have hjl:(joinM [Lib.itoa r.cl,Lib.itoa r.ix,Lib.itoa r.ca,Lib.itoa r.ma,Lib.itoa r.re,showM r.k r.e r.rk r.z r.wh r.id r.x.data.toList (dataL r.N) r.fin]).length≤1000000000000:=by have:=Jqr HF.out;unfold lnM at this;rw [List.length_append] at this;omega
 have HJ:=hid (Jct w7.heap.size 6 _ _ 6 W8 rfl (Nat.le_refl _) hL hSl (by simp) (by simp) hjl);clear hW8 hSl hL hjl;refine hK.out _ _ (fun _ _=>HB8.out) ?_;clear hK;try simp only [stp.pt]
 refine held.wpT_one (i:=22) (by kernel_rfl) rfl (fun Kc hK=>?_);go_simp
 go_at_call 32
 refine (HJ.out).mono ?_;rintro en w9 ⟨⟨q6,rfl,hq6⟩,hb9⟩;have HB9:=hid (HB8.out.trans (hb9.mono HB8.out.size));have HQ6:=hid hq6;clear hb9 hq6;refine hK.out _ _ (fun _ _=>HB9.out) ?_;clear hK;try simp only [stp.pt]
 refine stp.tk 23 2 ?_;refine held.wpT_done (by kernel_rfl) ?_ _;go_wp2_with fail
 go_ret
 exact⟨⟨q6,rfl,HQ6.out⟩,HB1.out.trans (HB9.out.mono HB1.out.size)⟩
end Go.Proofs.YtekekhgjobahaaaGreatDoor.rep

namespace Go.Proofs.YtekekhgjobahaaaGreatDoor.rep
open Go.RowKit words cal scr
open tal (Rc Recs)

def wrongL:List UInt8:=[119,114,111,110,103]
def errT (ln er:Int):List UInt8:=joinM [errL,Lib.itoa ln,Lib.itoa er]++[10]
def repT (L:List Rc) (wr ep:Int) (sn:Nat) (cu:Int):List UInt8:=L.flatMap lnM++((if 0≤wr then joinM [wrongL,Lib.itoa wr]++[10] else [])++(joinM [endL,Lib.itoa ep,Lib.itoa (sn:Int),Lib.itoa cu]++[10]))
theorem Jmh (m:Int) (ln er wr ep sad cu:Int) (L:List Rc) (A As:Option Addr) (c sn sc:Nat) (w:World) (hE:Env m w) (h0:er≠0) (h1:I64 ln) (h2:I64 er):
  Calls prog 16 #[.agg #[.int .i64 ln,.int .i64 er,.slice A L.length c,.int .i64 wr,.int .i64 ep,.slice As sn sc,.int .i64 sad,.int .i64 cu]] w (StrOut (errT ln er) w):=by
 obtain⟨W1,hW1⟩:=words.nm (w.alloc (.cells #[.int .i64 ln,.int .i64 er,.slice A L.length c,.int .i64 wr,.int .i64 ep,.slice As sn sc,.int .i64 sad,.int .i64 cu] 40));obtain⟨hx,hb1⟩:=stp.new hW1;obtain⟨g,hg⟩:=words.nm (w.heap.size);rw [←hg] at hx;have HG:=hid hg;clear hg;have HC:Hid (∀w':World,Below W1.heap.size W1 w'→w'.cell? ⟨g,0,none⟩=some (.int .i64 ln)∧w'.cell? ⟨g,1,none⟩=some (.int .i64 er)):=hid fun w' hb=>by
  have e:=stp.cs8 (stp.old hb hx);exact⟨e.1,e.2.1⟩
 have c1:=(HC.out W1 (Below.refl _ _)).2;have ge:(er !=0)=true:=by rw [bne_iff_ne];exact h0
 have HE:=hid (hE.later hb1);have HI:Hid (∀(n:Int) (w':World),I64 n→Below W1.heap.size W1 w'→Calls prog 33 #[.int .i64 n] w' fun e w''=>(∃q:ByteArray,e= .returned (.string q)∧q.data.toList=Lib.itoa n)∧Below W1.heap.size W1 w''):=hid fun n w' hn hb=>(Jc1 m n w' hn (HE.out.later hb)).mono fun e w'' ⟨h1,h2⟩=>⟨h1,hb.trans (h2.mono hb.size)⟩
 have H1:=hid h1;have H2:=hid h2;have HBd:Hid (Below W1.heap.size W1 W1.drew):=hid (Below.refl _ _).drew;have HB1:=hid hb1;have HW:=hid hW1.symm;clear hx hb1 hW1 hE h0 h1 h2;go_enter func16,ntmps16
 go_upto_region 1 with fail
 rw [HW.out];simp only [←HG.out];clear HW;go_upto_region 2 with fail
 clear c1 ge;refine held.wpT_start (S:=fun w'=>Below W1.heap.size W1 w') (T:=fun _=>false) (by kernel_rfl) ?_;refine stp.tk 0 9 ?_;refine stp.ld 1 10 (HBd.out) ?_ (hv:=by intro w' h;obtain⟨c0,c1⟩:=HC.out w' h;clear h;go_simp;(try with_reducible rfl));refine stp.tk 3 12 ?_;refine stp.ld 4 13 (HBd.out) ?_ (hv:=by intro w' h;obtain⟨c0,c1⟩:=HC.out w' h;clear h;go_simp;(try with_reducible rfl));refine held.wpT_one (i:=2) (by kernel_rfl) rfl (fun Kc hK=>?_);go_simp
 go_at_call 33
 refine (HI.out ln _ H1.out HBd.out).mono ?_;rintro en w2 ⟨⟨q0,rfl,hq0⟩,hb⟩;have HBw2:=hid hb;have HQ0:=hid hq0;clear hb hq0;refine hK.out _ _ (fun _ _=>HBw2.out) ?_;clear hK;try simp only [stp.pt]
 refine held.wpT_one (i:=5) (by kernel_rfl) rfl (fun Kc hK=>?_);go_simp
 go_at_call 33
 refine (HI.out er _ H2.out HBw2.out).mono ?_;rintro en w3 ⟨⟨q1,rfl,hq1⟩,hb⟩;have HBw3:=hid hb;have HQ1:=hid hq1;clear hb hq1;refine hK.out _ _ (fun _ _=>HBw3.out) ?_;clear hK;try simp only [stp.pt]
 refine held.wpT_one (i:=6) (by kernel_rfl) rfl (fun Kc hK=>?_);go_simp
 obtain⟨W4,hW⟩:∃W,W=w3.alloc (.cells #[.string ⟨#[101,114,114,111,114]⟩,.string q0,.string q1] 9):=⟨_,rfl⟩
 have hSl:Sl W4 (some ⟨w3.heap.size,0,none⟩) [⟨#[101,114,114,111,114]⟩,q0,q1]:=by rw [hW];exact Jhg w3 _
 have HBW4:=hid (HBw3.out.trans ((stp.new hW).2.mono HBw3.out.size));rw [←hW];have hL:dataL [⟨#[101,114,114,111,114]⟩,q0,q1]=[errL,Lib.itoa ln,Lib.itoa er]:=by simp only [dataL,List.map_cons,List.map_nil,HQ0.out,HQ1.out];rfl
 have hjl:(joinM [errL,Lib.itoa ln,Lib.itoa er]).length≤1000000000000:=by have a1:=Lib.itoa_length_le ln H1.out.1 H1.out.2;have a2:=Lib.itoa_length_le er H2.out.1 H2.out.2;simp only [joinM,List.length_append,List.length_cons];have a3:errL.length=5:=rfl;omega
 have HJ:=hid (Jct w3.heap.size 3 _ _ 3 W4 rfl (Nat.le_refl _) hL hSl (by simp) (by simp) hjl);clear hW hSl hL hjl;refine hK.out _ _ (fun _ _=>HBW4.out) ?_;clear hK;try simp only [stp.pt]
 refine held.wpT_one (i:=7) (by kernel_rfl) rfl (fun Kc hK=>?_);go_simp
 go_at_call 32
 refine (HJ.out).mono ?_;rintro en w5 ⟨⟨q6,rfl,hq6⟩,hb9⟩;have HBw5:=hid (HBW4.out.trans (hb9.mono HBW4.out.size));have HQ6:=hid hq6;clear hb9 hq6;refine hK.out _ _ (fun _ _=>HBw5.out) ?_;clear hK;try simp only [stp.pt]
 refine stp.tk 8 2 ?_;refine held.wpT_done (by kernel_rfl) ?_ _;go_wp2_with fail
 go_ret
 exact⟨⟨q6,rfl,HQ6.out⟩,HB1.out.trans (HBw5.out.mono HB1.out.size)⟩
theorem Jpj {L:List Rc} {k:Nat} {r:Rc} (h:L[k]?=some r):(L.take (k+1)).flatMap lnM=(L.take k).flatMap lnM++lnM r:=by
 rw [Juz h,List.flatMap_append];simp
theorem Jm1 (L:List Rc) (h:∀r∈L,RcFit r):(L.flatMap lnM).length≤L.length*220001000:=by
 induction L with
 |nil=>simp
 |cons r L ih=>
  have h1:=ih fun x hx=>h x (List.mem_cons_of_mem _ hx);have h2:=Jqr (h r (List.mem_cons_self ..));rw [List.flatMap_cons,List.length_append,List.length_cons];omega
theorem Jsc (m:Int) (ln wr ep sad cu:Int) (L:List Rc) (A As:Option Addr) (c sn sc:Nat) (w:World) (hE:Env m w) (hL:Recs w A L) (hN:∀r∈L,Sl w r.A r.N) (hf:∀r∈L,RcFit r) (hl:L.length≤65) (h1:I64 wr) (h2:I64 ep) (h3:I64 cu) (h4:sn≤1000000):
  Calls prog 16 #[.agg #[.int .i64 ln,.int .i64 0,.slice A L.length c,.int .i64 wr,.int .i64 ep,.slice As sn sc,.int .i64 sad,.int .i64 cu]] w (StrOut (repT L wr ep sn cu) w):=by
 obtain⟨W1,hW1⟩:=words.nm (w.alloc (.cells #[.int .i64 ln,.int .i64 0,.slice A L.length c,.int .i64 wr,.int .i64 ep,.slice As sn sc,.int .i64 sad,.int .i64 cu] 40));obtain⟨hx,hb1⟩:=stp.new hW1;obtain⟨g,hg⟩:=words.nm (w.heap.size);rw [←hg] at hx;have HG:=hid hg;clear hg;obtain⟨β,hβ⟩:=words.nm (W1.heap.size);obtain⟨W2,hW2⟩:=words.nm (W1.alloc (.cells #[.pointer none,.slice none 0 0] 100));have hb2:Below β W1 W2:=by rw [hβ,hW2];exact (Below.refl _ _).alloc (Nat.le_refl _) _
 have hwr:Wrt β β [] W2:=by rw [hβ,hW2];exact Jga W1
 have HC:Hid (∀w':World,Below β W1 w'→w'.cell? ⟨g,0,none⟩=some (.int .i64 ln)∧w'.cell? ⟨g,1,none⟩=some (.int .i64 0)∧w'.cell? ⟨g,2,none⟩=some (.slice A L.length c)∧w'.cell? ⟨g,3,none⟩=some (.int .i64 wr)∧w'.cell? ⟨g,4,none⟩=some (.int .i64 ep)∧w'.cell? ⟨g,5,none⟩=some (.slice As sn sc)∧w'.cell? ⟨g,6,none⟩=some (.int .i64 sad)∧w'.cell? ⟨g,7,none⟩=some (.int .i64 cu)):=hid fun w' hb=>stp.cs8 (by rw [hβ] at hb;exact stp.old hb hx);have HE:Hid (∀w',Below β W1 w'→Env m w'):=hid fun w' hb=>(hE.later hb1).later (by rw [hβ] at hb;exact hb);have HL:Hid (∀w',Below β W1 w'→Recs w' A L∧∀r∈L,Sl w' r.A r.N):=hid fun w' hb=>by
  rw [hβ] at hb;exact⟨(hL.later hb1).later hb,fun r hr=>((hN r hr).later hb1).later hb⟩
 have HF:=hid hf;have H1:=hid h1;have H2:=hid h2;have H3:=hid h3;have H4:=hid h4;have HI:Hid (∀(n:Int) (w':World),I64 n→Below β W1 w'→Calls prog 33 #[.int .i64 n] w' fun e w''=>(∃q:ByteArray,e= .returned (.string q)∧q.data.toList=Lib.itoa n)∧Below w'.heap.size w' w''):=hid fun n w' hn hb=>Jc1 m n w' hn (HE.out w' hb);have HB1:=hid hb1;have HB2:=hid hb2;have HWr:=hid hwr;have HBe:=hid hβ;have HW:=hid hW1.symm;have HW2:=hid hW2.symm;obtain⟨c0,c1,c2,c3,c4,c5,c6,c7⟩:=HC.out W1 (Below.refl _ _);clear hx hb1 hW1 hE hL hN hf h1 h2 h3 h4 hβ hb2 hwr hW2;go_enter func16,ntmps16
 go_upto_region 1 with fail
 rw [HW.out];simp only [←HG.out];clear HW;go_upto_region 4 with fail
 rw [HW2.out];simp only [←HBe.out];clear HW2 c0 c1 c2 c3 c4 c5 c6 c7;obtain⟨c0,c1,c2,c3,c4,c5,c6,c7⟩:=HC.out W2 HB2.out;go_wp2_with fail
 clear c0 c1 c2 c3 c4 c5 c6 c7;go_loopw [20] (fun v wx=>∃k:Nat,k≤L.length∧v= .int .i64 (k:Int)∧Hid (Wrt β β ((L.take k).flatMap lnM) wx)∧Hid (Below β W1 wx∧β≤wx.heap.size)) (fun v _=>L.length - (intOf v).toNat)
 case atStart=>exact⟨0,Nat.zero_le _,rfl,HWr,hid ⟨HB2.out,by rw [HBe.out];exact HB2.out.size⟩⟩
 case round=>
  obtain⟨k,hk,rfl,HWk,HBk⟩:=hrel;rename World=>wk;have i0:(0:Int)≤(k:Int):=by omega
  by_cases hlt:k<L.length
  ·have i1:(k:Int)<(L.length:Int):=by omega
   obtain⟨r,hr⟩:∃r,L[k]?=some r:=⟨_,List.getElem?_eq_getElem hlt⟩
   have hrm:=List.mem_of_getElem? hr;obtain⟨b,off,hA,hb,hrg⟩:=(HL.out wk HBk.out.1).1 k r hr;subst hA;obtain⟨W3,hW3⟩:=words.nm (wk.alloc (.cells #[.int .i64 r.cl,.int .i64 r.ix,.int .i64 r.k,.string r.p,.int .i64 r.o,.int .i64 r.n,.int .i64 r.i,.string r.g,.int .i64 r.e,.int .i64 r.rk,.int .i64 r.z,.int .i64 r.wh,.int .i64 r.id,.string r.x,.slice r.A r.N.length r.c,.bool r.fin,.int .i64 r.ca,.int .i64 r.ma,.int .i64 r.re] 59));obtain⟨hx3,hb3⟩:=stp.new hW3;obtain⟨g3,hg3⟩:∃g,g=wk.heap.size:=⟨_,rfl⟩
   rw [←hg3] at hx3;have HG3:=hid hg3;have HRg:Hid (wk.rangeAt b (off+k*19) r.cs):=hid hrg;have HRb:Hid (W3.rangeAt g3 0 r.cs):=hid (tal.range_box hx3);have HLn:=hid (Jt3 m r W3 (HE.out W3 (HBk.out.1.trans (hb3.mono HBk.out.2))) ((HL.out W3 (HBk.out.1.trans (hb3.mono HBk.out.2))).2 r hrm) (HF.out r hrm));have HW3:=hid hW3.symm;have HB3:Hid (Below β W1 W3∧β≤W3.heap.size):=hid ⟨HBk.out.1.trans (hb3.mono HBk.out.2),Nat.le_trans HBk.out.2 hb3.size⟩;have HWr3:=hid (Jb0 HWk.out hb3);have HSn:=hid (Jpj hr);have hlen:=Jm1 (L.take k) fun x hx=>HF.out x (List.mem_of_mem_take hx);rw [List.length_take,Nat.min_eq_left hk] at hlen;have hlen2:((L.take k).flatMap lnM).length≤40000000000:=by omega
   have HLen:=hid hlen2;have hrz:=Jqr (HF.out r hrm);have HRz:=hid hrz;clear hr hrm hb hrg hW3 hx3 hb3 hg3 hlen hlen2 hrz HWk;go_upto_region 7 with (first |(refine tal.wl_load rfl rfl rfl HRg.out ?_) |(refine tal.wl_put (r:=r) rfl rfl rfl rfl rfl ?_))
   rw [HW3.out];simp only [←HG3.out];clear HW3 HRg;go_wp2_with (refine tal.wl_load rfl rfl rfl HRb.out ?_)
   refine HLn.out.mono ?_;rintro en w4 ⟨⟨q,rfl,hq⟩,hb4⟩;have hqz:q.size≤4000000000:=by rw [←size_list,hq];have:=HRz.out;omega
   have HSt:=hid (Jdq β β _ q w4 (Jb0 HWr3.out hb4) HLen.out hqz (Nat.le_trans HB3.out.2 hb4.size));have HQ:=hid hq;have HB4:Hid (Below β W1 w4∧β≤w4.heap.size):=hid ⟨HB3.out.1.trans (hb4.mono HB3.out.2),Nat.le_trans HB3.out.2 hb4.size⟩;clear hq hb4 hqz HLn HRb HWr3;go_wp2_with fail
   refine HSt.out.mono ?_;rintro en w5 ⟨rfl,hbl,hb5⟩;have HW5:Hid (Wrt β β ((L.take (k+1)).flatMap lnM) w5):=hid (by rw [HSn.out,←HQ.out];exact .inr hbl);have HB5:Hid (Below β W1 w5∧β≤w5.heap.size):=hid ⟨HB4.out.1.trans hb5,Nat.le_trans HB4.out.2 hb5.size⟩;clear hbl hb5 HSt;go_wp2_with fail
   go_roundw
   case rel=>exact⟨k+1,by omega,by go_num,HW5,HB5⟩
   case measure=>simp [intOf];omega
  obtain rfl:k=L.length:=by omega
  have i1:¬(L.length:Int)<(L.length:Int):=by omega
  have hlen:=Jm1 L HF.out;have HLen:=hid (show (L.flatMap lnM).length≤15000000000 by omega);rw [List.take_length] at HWk;clear hlen;obtain⟨c0,c1,c2,c3,c4,c5,c6,c7⟩:=HC.out wk HBk.out.1;by_cases h0:0≤wr
  ·have HIw:=hid (HI.out wr wk H1.out HBk.out.1)
   go_wp2_with fail
   refine HIw.out.mono ?_;rintro en w10 ⟨⟨q10,rfl,hq10⟩,hb10⟩;obtain⟨W11,hW⟩:∃W,W=w10.alloc (.cells #[.string ⟨#[119,114,111,110,103]⟩,.string q10] 9):=⟨_,rfl⟩
   have hSl:Sl W11 (some ⟨w10.heap.size,0,none⟩) [⟨#[119,114,111,110,103]⟩,q10]:=by rw [hW];exact Jhg w10 _
   have hL:dataL [⟨#[119,114,111,110,103]⟩,q10]=[wrongL,Lib.itoa wr]:=by simp only [dataL,List.map_cons,List.map_nil,hq10];rfl
   have hjz:(joinM [wrongL,Lib.itoa wr]).length≤200:=by have a1:=Lib.itoa_length_le wr H1.out.1 H1.out.2;simp only [joinM,List.length_append,List.length_cons];have a4:wrongL.length=5:=rfl;omega
   have HJz:=hid hjz;have HJ1:=hid (Jct w10.heap.size 2 _ _ 2 W11 rfl (Nat.le_refl _) hL hSl (by simp) (by simp) (by omega));have HB11:Hid (Below wk.heap.size wk W11):=hid (hb10.trans ((stp.new hW).2.mono hb10.size));have HW11:=hid hW.symm;clear hW hSl hL hjz hq10 hb10 HIw;go_wp2_with fail
   rw [HW11.out];clear HW11;refine HJ1.out.mono ?_;rintro en w12 ⟨⟨q12,rfl,hq12⟩,hb12⟩;have HB12:Hid (Below wk.heap.size wk w12):=hid (HB11.out.trans (hb12.mono HB11.out.size));have hqz:q12.size≤4000000000:=by rw [←size_list,hq12,List.length_append,List.length_singleton];have:=HJz.out;omega
   have HSt1:=hid (Jdq β β _ q12 w12 (Jb0 HWk.out HB12.out) (by have:=HLen.out;omega) hqz (Nat.le_trans HBk.out.2 HB12.out.size));have HQ12:=hid hq12;clear hb12 hqz hq12 HJ1 HB11;go_wp2_with fail
   refine HSt1.out.mono ?_;rintro en w13 ⟨rfl,hbl,hb13⟩;have HWz:Hid (Wrt β β (L.flatMap lnM++q12.data.toList) w13):=hid (.inr hbl);have HBz:Hid (Below β W1 w13∧β≤w13.heap.size):=hid ⟨(HBk.out.1.trans (HB12.out.mono HBk.out.2)).trans hb13,Nat.le_trans (Nat.le_trans HBk.out.2 HB12.out.size) hb13.size⟩;have HLz:=hid (show (L.flatMap lnM++q12.data.toList).length≤40000000000 by rw [List.length_append,HQ12.out,List.length_append,List.length_singleton];have:=HLen.out;have:=HJz.out;omega);clear hbl hb13 HSt1 HB12 HJz c0 c1 c2 c3 c4 c5 c6 c7;obtain⟨c0,c1,c2,c3,c4,c5,c6,c7⟩:=HC.out w13 HBz.out.1;go_upto_region 11 with fail
   clear c0 c1 c2 c3 c4 c5 c6 c7;refine held.wpT_start (S:=fun w'=>Below β W1 w') (T:=fun _=>false) (by kernel_rfl) ?_;refine stp.tk 0 37 ?_;refine stp.ld 1 38 (HBz.out.1.drew) ?_ (hv:=by intro w' h;obtain⟨c0,c1,c2,c3,c4,c5,c6,c7⟩:=HC.out w' h;clear h;go_simp;(try with_reducible rfl));refine stp.tk 3 40 ?_;refine stp.ld 4 41 (HBz.out.1.drew) ?_ (hv:=by intro w' h;obtain⟨c0,c1,c2,c3,c4,c5,c6,c7⟩:=HC.out w' h;clear h;go_simp;(try with_reducible rfl));refine stp.tk 7 44 ?_;refine stp.ld 8 45 (HBz.out.1.drew) ?_ (hv:=by intro w' h;obtain⟨c0,c1,c2,c3,c4,c5,c6,c7⟩:=HC.out w' h;clear h;go_simp;(try with_reducible rfl));refine held.wpT_one (i:=2) (by kernel_rfl) rfl (fun Kc hK=>?_);go_simp
   go_at_call 33
   refine (HI.out ep _ H2.out HBz.out.1.drew).mono ?_;rintro en w20 ⟨⟨q20,rfl,hq20⟩,hb⟩;have HBa:Hid (Below β W1 w20∧Below w13.heap.size w13 w20):=hid ⟨HBz.out.1.drew.trans (hb.mono HBz.out.2),(Below.refl _ _).drew.trans hb⟩;have HQ20:=hid hq20;clear hb hq20;refine hK.out _ _ (fun _ _=>HBa.out.1) ?_;clear hK;try simp only [stp.pt]
   refine held.wpT_one (i:=5) (by kernel_rfl) rfl (fun Kc hK=>?_);go_simp
   go_at_call 37
   refine (stk.slen_any As sn sc sad w20).mono ?_;rintro en w21 ⟨rfl,hb⟩;have HBb:Hid (Below β W1 w21∧Below w13.heap.size w13 w21):=hid ⟨HBa.out.1.trans (hb.mono (Nat.le_trans HBz.out.2 HBa.out.2.size)),HBa.out.2.trans (hb.mono HBa.out.2.size)⟩;clear hb;refine hK.out _ _ (fun _ _=>HBb.out.1) ?_;clear hK;try simp only [stp.pt]
   refine held.wpT_one (i:=6) (by kernel_rfl) rfl (fun Kc hK=>?_);go_simp
   go_at_call 33
   refine (HI.out (sn:Int) _ ⟨by omega,by have:=H4.out;omega⟩ HBb.out.1).mono ?_;rintro en w22 ⟨⟨q22,rfl,hq22⟩,hb⟩;have HBc:Hid (Below β W1 w22∧Below w13.heap.size w13 w22):=hid ⟨HBb.out.1.trans (hb.mono (Nat.le_trans HBz.out.2 HBb.out.2.size)),HBb.out.2.trans (hb.mono HBb.out.2.size)⟩;have HQ22:=hid hq22;clear hb hq22;refine hK.out _ _ (fun _ _=>HBc.out.1) ?_;clear hK;try simp only [stp.pt]
   refine held.wpT_one (i:=9) (by kernel_rfl) rfl (fun Kc hK=>?_);go_simp
   go_at_call 33
   refine (HI.out cu _ H3.out HBc.out.1).mono ?_;rintro en w23 ⟨⟨q23,rfl,hq23⟩,hb⟩;have HBd:Hid (Below β W1 w23∧Below w13.heap.size w13 w23):=hid ⟨HBc.out.1.trans (hb.mono (Nat.le_trans HBz.out.2 HBc.out.2.size)),HBc.out.2.trans (hb.mono HBc.out.2.size)⟩;have HQ23:=hid hq23;clear hb hq23;refine hK.out _ _ (fun _ _=>HBd.out.1) ?_;clear hK;try simp only [stp.pt]
   refine held.wpT_one (i:=10) (by kernel_rfl) rfl (fun Kc hK=>?_);go_simp
   obtain⟨W24,hW⟩:∃W,W=w23.alloc (.cells #[.string ⟨#[101,110,100]⟩,.string q20,.string q22,.string q23] 9):=⟨_,rfl⟩
   have hSl:Sl W24 (some ⟨w23.heap.size,0,none⟩) [⟨#[101,110,100]⟩,q20,q22,q23]:=by rw [hW];exact Jhg w23 _
   have HBe4:Hid (Below β W1 W24∧Below w13.heap.size w13 W24):=hid ⟨HBd.out.1.trans ((stp.new hW).2.mono (Nat.le_trans HBz.out.2 HBd.out.2.size)),HBd.out.2.trans ((stp.new hW).2.mono HBd.out.2.size)⟩;rw [←hW];have hL:dataL [⟨#[101,110,100]⟩,q20,q22,q23]=[endL,Lib.itoa ep,Lib.itoa (sn:Int),Lib.itoa cu]:=by simp only [dataL,List.map_cons,List.map_nil,HQ20.out,HQ22.out,HQ23.out];rfl
   have hjz:(joinM [endL,Lib.itoa ep,Lib.itoa (sn:Int),Lib.itoa cu]).length≤200:=by have a1:=Lib.itoa_length_le ep H2.out.1 H2.out.2;have a2:=Lib.itoa_length_le cu H3.out.1 H3.out.2;have a3:=Lib.itoa_length_le (sn:Int) (by omega) (by have:=H4.out;omega);simp only [joinM,List.length_append,List.length_cons];have a4:endL.length=3:=rfl;omega
   have HJz:=hid hjz;have HJ:=hid (Jct w23.heap.size 4 _ _ 4 W24 rfl (Nat.le_refl _) hL hSl (by simp) (by simp) (by omega));clear hW hSl hL hjz;refine hK.out _ _ (fun _ _=>HBe4.out.1) ?_;clear hK;try simp only [stp.pt]
   refine held.wpT_one (i:=11) (by kernel_rfl) rfl (fun Kc hK=>?_);go_simp
   go_at_call 32
   refine (HJ.out).mono ?_;rintro en w25 ⟨⟨q25,rfl,hq25⟩,hb⟩;have HBf:Hid (Below β W1 w25∧Below w13.heap.size w13 w25):=hid ⟨HBe4.out.1.trans (hb.mono (Nat.le_trans HBz.out.2 HBe4.out.2.size)),HBe4.out.2.trans (hb.mono HBe4.out.2.size)⟩;have hqz:q25.size≤4000000000:=by rw [←size_list,hq25,List.length_append,List.length_singleton];have:=HJz.out;omega
   have HSt:=hid (Jdq β β _ q25 w25 (Jb0 HWz.out HBf.out.2) HLz.out hqz (Nat.le_trans HBz.out.2 HBf.out.2.size));have HQ25:=hid hq25;clear hb hq25 hqz;refine hK.out _ _ (fun _ _=>HBf.out.1) ?_;clear hK;try simp only [stp.pt]
   refine held.wpT_one (i:=12) (by kernel_rfl) rfl (fun Kc hK=>?_);go_simp
   go_at_call 36
   refine (HSt.out).mono ?_;rintro en w26 ⟨rfl,hbl,hb⟩;have HBg:Hid (Below β W1 w26∧β≤w26.heap.size):=hid ⟨HBf.out.1.trans hb,Nat.le_trans (Nat.le_trans HBz.out.2 HBf.out.2.size) hb.size⟩;have HStr:=hid (Jbn β β _ w26 hbl HBg.out.2);clear hbl hb HSt;refine hK.out _ _ (fun _ _=>HBg.out.1) ?_;clear hK;try simp only [stp.pt]
   refine held.wpT_done (by kernel_rfl) ?_ _;go_wp2_with fail
   refine HStr.out.mono ?_;rintro en w27 ⟨rfl,hb⟩;have HF9:Hid (StrOut (repT L wr ep sn cu) w (.returned (.string ⟨(L.flatMap lnM++(q12.data.toList++q25.data.toList)).toArray⟩)) w27):=hid ⟨⟨_,rfl,by rw [Ja9,HQ25.out];unfold repT;rw [if_pos h0,HQ12.out]⟩,HB1.out.trans ((HBg.out.1.trans hb).mono (by rw [HBe.out];exact HB1.out.size))⟩;clear hb HStr;go_wp2_with fail
   go_ret
   exact HF9.out
  ·have gw:¬0≤wr:=h0
   have HLz:=hid (show (L.flatMap lnM).length≤40000000000 by have:=HLen.out;omega);go_upto_region 11 with fail
   clear c0 c1 c2 c3 c4 c5 c6 c7;refine held.wpT_start (S:=fun w'=>Below β W1 w') (T:=fun _=>false) (by kernel_rfl) ?_;refine stp.tk 0 37 ?_;refine stp.ld 1 38 (HBk.out.1.drew) ?_ (hv:=by intro w' h;obtain⟨c0,c1,c2,c3,c4,c5,c6,c7⟩:=HC.out w' h;clear h;go_simp;(try with_reducible rfl));refine stp.tk 3 40 ?_;refine stp.ld 4 41 (HBk.out.1.drew) ?_ (hv:=by intro w' h;obtain⟨c0,c1,c2,c3,c4,c5,c6,c7⟩:=HC.out w' h;clear h;go_simp;(try with_reducible rfl));refine stp.tk 7 44 ?_;refine stp.ld 8 45 (HBk.out.1.drew) ?_ (hv:=by intro w' h;obtain⟨c0,c1,c2,c3,c4,c5,c6,c7⟩:=HC.out w' h;clear h;go_simp;(try with_reducible rfl));refine held.wpT_one (i:=2) (by kernel_rfl) rfl (fun Kc hK=>?_);go_simp
   go_at_call 33
   refine (HI.out ep _ H2.out HBk.out.1.drew).mono ?_;rintro en w20 ⟨⟨q20,rfl,hq20⟩,hb⟩;have HBa:Hid (Below β W1 w20∧Below wk.heap.size wk w20):=hid ⟨HBk.out.1.drew.trans (hb.mono HBk.out.2),(Below.refl _ _).drew.trans hb⟩;have HQ20:=hid hq20;clear hb hq20;refine hK.out _ _ (fun _ _=>HBa.out.1) ?_;clear hK;try simp only [stp.pt]
   refine held.wpT_one (i:=5) (by kernel_rfl) rfl (fun Kc hK=>?_);go_simp
   go_at_call 37
   refine (stk.slen_any As sn sc sad w20).mono ?_;rintro en w21 ⟨rfl,hb⟩;have HBb:Hid (Below β W1 w21∧Below wk.heap.size wk w21):=hid ⟨HBa.out.1.trans (hb.mono (Nat.le_trans HBk.out.2 HBa.out.2.size)),HBa.out.2.trans (hb.mono HBa.out.2.size)⟩;clear hb;refine hK.out _ _ (fun _ _=>HBb.out.1) ?_;clear hK;try simp only [stp.pt]
   refine held.wpT_one (i:=6) (by kernel_rfl) rfl (fun Kc hK=>?_);go_simp
   go_at_call 33
   refine (HI.out (sn:Int) _ ⟨by omega,by have:=H4.out;omega⟩ HBb.out.1).mono ?_;rintro en w22 ⟨⟨q22,rfl,hq22⟩,hb⟩;have HBc:Hid (Below β W1 w22∧Below wk.heap.size wk w22):=hid ⟨HBb.out.1.trans (hb.mono (Nat.le_trans HBk.out.2 HBb.out.2.size)),HBb.out.2.trans (hb.mono HBb.out.2.size)⟩;have HQ22:=hid hq22;clear hb hq22;refine hK.out _ _ (fun _ _=>HBc.out.1) ?_;clear hK;try simp only [stp.pt]
   refine held.wpT_one (i:=9) (by kernel_rfl) rfl (fun Kc hK=>?_);go_simp
   go_at_call 33
   refine (HI.out cu _ H3.out HBc.out.1).mono ?_;rintro en w23 ⟨⟨q23,rfl,hq23⟩,hb⟩;have HBd:Hid (Below β W1 w23∧Below wk.heap.size wk w23):=hid ⟨HBc.out.1.trans (hb.mono (Nat.le_trans HBk.out.2 HBc.out.2.size)),HBc.out.2.trans (hb.mono HBc.out.2.size)⟩;have HQ23:=hid hq23;clear hb hq23;refine hK.out _ _ (fun _ _=>HBd.out.1) ?_;clear hK;try simp only [stp.pt]
   refine held.wpT_one (i:=10) (by kernel_rfl) rfl (fun Kc hK=>?_);go_simp
   obtain⟨W24,hW⟩:∃W,W=w23.alloc (.cells #[.string ⟨#[101,110,100]⟩,.string q20,.string q22,.string q23] 9):=⟨_,rfl⟩
   have hSl:Sl W24 (some ⟨w23.heap.size,0,none⟩) [⟨#[101,110,100]⟩,q20,q22,q23]:=by rw [hW];exact Jhg w23 _
   have HBe4:Hid (Below β W1 W24∧Below wk.heap.size wk W24):=hid ⟨HBd.out.1.trans ((stp.new hW).2.mono (Nat.le_trans HBk.out.2 HBd.out.2.size)),HBd.out.2.trans ((stp.new hW).2.mono HBd.out.2.size)⟩;rw [←hW];have hL:dataL [⟨#[101,110,100]⟩,q20,q22,q23]=[endL,Lib.itoa ep,Lib.itoa (sn:Int),Lib.itoa cu]:=by simp only [dataL,List.map_cons,List.map_nil,HQ20.out,HQ22.out,HQ23.out];rfl
   have hjz:(joinM [endL,Lib.itoa ep,Lib.itoa (sn:Int),Lib.itoa cu]).length≤200:=by have a1:=Lib.itoa_length_le ep H2.out.1 H2.out.2;have a2:=Lib.itoa_length_le cu H3.out.1 H3.out.2;have a3:=Lib.itoa_length_le (sn:Int) (by omega) (by have:=H4.out;omega);simp only [joinM,List.length_append,List.length_cons];have a4:endL.length=3:=rfl;omega
   have HJz:=hid hjz;have HJ:=hid (Jct w23.heap.size 4 _ _ 4 W24 rfl (Nat.le_refl _) hL hSl (by simp) (by simp) (by omega));clear hW hSl hL hjz;refine hK.out _ _ (fun _ _=>HBe4.out.1) ?_;clear hK;try simp only [stp.pt]
   refine held.wpT_one (i:=11) (by kernel_rfl) rfl (fun Kc hK=>?_);go_simp
   go_at_call 32
   refine (HJ.out).mono ?_;rintro en w25 ⟨⟨q25,rfl,hq25⟩,hb⟩;have HBf:Hid (Below β W1 w25∧Below wk.heap.size wk w25):=hid ⟨HBe4.out.1.trans (hb.mono (Nat.le_trans HBk.out.2 HBe4.out.2.size)),HBe4.out.2.trans (hb.mono HBe4.out.2.size)⟩;have hqz:q25.size≤4000000000:=by rw [←size_list,hq25,List.length_append,List.length_singleton];have:=HJz.out;omega
   have HSt:=hid (Jdq β β _ q25 w25 (Jb0 HWk.out HBf.out.2) HLz.out hqz (Nat.le_trans HBk.out.2 HBf.out.2.size));have HQ25:=hid hq25;clear hb hq25 hqz;refine hK.out _ _ (fun _ _=>HBf.out.1) ?_;clear hK;try simp only [stp.pt]
   refine held.wpT_one (i:=12) (by kernel_rfl) rfl (fun Kc hK=>?_);go_simp
   go_at_call 36
   refine (HSt.out).mono ?_;rintro en w26 ⟨rfl,hbl,hb⟩;have HBg:Hid (Below β W1 w26∧β≤w26.heap.size):=hid ⟨HBf.out.1.trans hb,Nat.le_trans (Nat.le_trans HBk.out.2 HBf.out.2.size) hb.size⟩;have HStr:=hid (Jbn β β _ w26 hbl HBg.out.2);clear hbl hb HSt;refine hK.out _ _ (fun _ _=>HBg.out.1) ?_;clear hK;try simp only [stp.pt]
   refine held.wpT_done (by kernel_rfl) ?_ _;go_wp2_with fail
   refine HStr.out.mono ?_;rintro en w27 ⟨rfl,hb⟩;have HF9:Hid (StrOut (repT L wr ep sn cu) w (.returned (.string ⟨(L.flatMap lnM++q25.data.toList).toArray⟩)) w27):=hid ⟨⟨_,rfl,by rw [Ja9,HQ25.out];unfold repT;rw [if_neg (by omega)];simp⟩,HB1.out.trans ((HBg.out.1.trans hb).mono (by rw [HBe.out];exact HB1.out.size))⟩;clear hb HStr;go_wp2_with fail
   go_ret
   exact HF9.out
end Go.Proofs.YtekekhgjobahaaaGreatDoor.rep
