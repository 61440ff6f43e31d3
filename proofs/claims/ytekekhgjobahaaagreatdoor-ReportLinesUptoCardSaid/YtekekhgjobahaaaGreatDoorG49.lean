import Derived.Test.YtekekhgjobahaaaGreatDoorG48
import Derived.Test.YtekekhgjobahaaaGreatDoorG7
set_option maxHeartbeats 6400000
set_option maxRecDepth 100000
open Go.Lib (hid)
open Go.Proofs.Tryz
namespace Go.Proofs.YtekekhgjobahaaaGreatDoor.rep
open Go.RowKit words cal
open tal (Rc)

def lnM (r:Rc):List UInt8:=joinM [Lib.itoa r.cl,Lib.itoa r.ix,Lib.itoa r.ca,Lib.itoa r.ma,Lib.itoa r.re,showM r.k r.e r.rk r.z r.wh r.id r.x.data.toList (dataL r.N) r.fin]++[10]
structure RcFit (r:Rc):Prop where
 cl:I64 r.cl
 ix:I64 r.ix
 ca:I64 r.ca
 ma:I64 r.ma
 re:I64 r.re
 res:ResFit r.e r.rk r.z r.wh r.id r.x r.N
theorem Jg2 {q e k z h d:Int} {t:ByteArray} {N:List ByteArray} {en:Bool} (hf:ResFit e k z h d t N):(showM q e k z h d t.data.toList (dataL N) en).length≤220000000:=by
 unfold showM;split
 ·obtain⟨h1,h2⟩:=Ji0 (q:=q) (en:=en) hf
  rw [join_cons,List.length_append];have:=Jd9 2097153 _ h1;have h3:(ansM q k z h d t.data.toList (dataL N) en).length*(2097153+1)≤101*(2097153+1):=Nat.mul_le_mul_right _ h2;have h4:okL.length=2:=rfl;omega
 ·have:=Lib.itoa_length_le e hf.e.1 hf.e.2
  rw [Jbh,List.length_append,List.length_cons];have h4:errL.length=5:=rfl;omega
theorem Jg3 {r:Rc} (hf:RcFit r):(lnM r).length≤220001000:=by
 have h1:=Lib.itoa_length_le r.cl hf.cl.1 hf.cl.2;have h2:=Lib.itoa_length_le r.ix hf.ix.1 hf.ix.2;have h3:=Lib.itoa_length_le r.ca hf.ca.1 hf.ca.2;have h4:=Lib.itoa_length_le r.ma hf.ma.1 hf.ma.2;have h5:=Lib.itoa_length_le r.re hf.re.1 hf.re.2;have h6:=Jg2 (q:=r.k) (en:=r.fin) hf.res;unfold lnM;simp only [joinM,List.length_append,List.length_cons,List.length_nil];omega
def LineO (L:List (List UInt8)) (w:World) (e:Ending) (w':World):Prop:=(∃r:ByteArray,e= .returned (.string r)∧r.data.toList=joinM L++[10])∧Below w.heap.size w w'
theorem Jbf (g:Nat) (c:Nat) (Q:List ByteArray) (L:List (List UInt8)) (n:Nat) (w:World) (hn:n=Q.length) (hc:n≤c) (hQ:dataL Q=L) (hS:Sl w (some ⟨g,0,none⟩) Q) (h0:0<Q.length) (hN:Q.length≤1000) (hl:(joinM L).length≤1000000000000):
  Calls prog 32 #[.slice (some ⟨g,0,none⟩) n c] w (LineO L w):=by
 subst hn;have he:Lib.join (Q.map (·.data.toList)) (⟨#[32]⟩:ByteArray).data.toList=joinM L:=by rw [←hQ];exact Jfj _
 have hj:=Tryz.strings_Join g 0 c Q ⟨#[32]⟩ w (fun j x hx=>by
   obtain⟨b,off,e1,_,e3⟩:=hS j x hx;injection e1 with e1;injection e1 with e1 e2;subst e1;subst e2;exact e3) (by
   obtain⟨b,off,e1,e2,_⟩:=hS 0 _ (List.getElem?_eq_getElem h0);injection e1 with e1;injection e1 with e1;subst e1;exact e2) (by omega) hc (by rw [he];omega)
 rw [he] at hj;obtain⟨j,hjj⟩:∃j:ByteArray,j=⟨(joinM L).toArray⟩:=⟨_,rfl⟩
 rw [←hjj] at hj;have HJ:=hid hj;have HD:=hid (show j.data.toList=joinM L by rw [hjj]);have hjz:j.size≤1000000000000:=by rw [←size_list,HD.out];exact hl
 have y0:¬9223372036854775807<j.size+1:=by omega
 clear hj he hS hQ hjj hl h0;go_enter func32,ntmps32
 go_wp2_with fail
 refine HJ.out.mono ?_;rintro e w2 ⟨rfl,hb2⟩;have HB2:=hid hb2;clear hb2 HJ;go_wp2_with fail
 go_ret
 exact⟨⟨_,rfl,by rw [Jae,HD.out]⟩,HB2.out⟩
theorem Jgv (m:Int) (r:Rc) (w:World) (hE:Env m w) (hN:Sl w r.A r.N) (hf:RcFit r):
  Calls prog 14 #[.agg #[.int .i64 r.cl,.int .i64 r.ix,.int .i64 r.k,.string r.p,.int .i64 r.o,.int .i64 r.n,.int .i64 r.i,.string r.g,.int .i64 r.e,.int .i64 r.rk,.int .i64 r.z,.int .i64 r.wh,.int .i64 r.id,.string r.x,.slice r.A r.N.length r.c,.bool r.fin,.int .i64 r.ca,.int .i64 r.ma,.int .i64 r.re]] w (StrOut (lnM r) w):=by
 obtain⟨W1,hW1⟩:=words.nm (w.alloc (.cells #[.int .i64 r.cl,.int .i64 r.ix,.int .i64 r.k,.string r.p,.int .i64 r.o,.int .i64 r.n,.int .i64 r.i,.string r.g,.int .i64 r.e,.int .i64 r.rk,.int .i64 r.z,.int .i64 r.wh,.int .i64 r.id,.string r.x,.slice r.A r.N.length r.c,.bool r.fin,.int .i64 r.ca,.int .i64 r.ma,.int .i64 r.re] 59));obtain⟨hx,hb1⟩:=stp.new hW1;obtain⟨g0,hg0⟩:=words.nm (w.heap.size);rw [←hg0] at hx;have HG:=hid hg0;clear hg0;have HC:Hid (∀w':World,Below W1.heap.size W1 w'→w'.cell? ⟨g0,0,none⟩=some (.int .i64 r.cl)∧w'.cell? ⟨g0,1,none⟩=some (.int .i64 r.ix)∧w'.cell? ⟨g0,2,none⟩=some (.int .i64 r.k)∧w'.cell? ⟨g0,8,none⟩=some (.int .i64 r.e)∧w'.cell? ⟨g0,9,none⟩=some (.int .i64 r.rk)∧w'.cell? ⟨g0,10,none⟩=some (.int .i64 r.z)∧w'.cell? ⟨g0,11,none⟩=some (.int .i64 r.wh)∧w'.cell? ⟨g0,12,none⟩=some (.int .i64 r.id)∧w'.cell? ⟨g0,13,none⟩=some (.string r.x)∧w'.cell? ⟨g0,14,none⟩=some (.slice r.A r.N.length r.c)∧w'.cell? ⟨g0,15,none⟩=some (.bool r.fin)∧w'.cell? ⟨g0,16,none⟩=some (.int .i64 r.ca)∧w'.cell? ⟨g0,17,none⟩=some (.int .i64 r.ma)∧w'.cell? ⟨g0,18,none⟩=some (.int .i64 r.re)):=hid fun w' hb=>by
  have e1:=stp.old hb hx;exact⟨Jaa e1 0,Jaa e1 1,Jaa e1 2,Jaa e1 8,Jaa e1 9,Jaa e1 10,Jaa e1 11,Jaa e1 12,Jaa e1 13,Jaa e1 14,Jaa e1 15,Jaa e1 16,Jaa e1 17,Jaa e1 18⟩
 have HE:=hid (hE.later hb1);have HN:=hid (hN.later hb1);have HF:=hid hf;have HB1:=hid hb1;have HW:=hid hW1.symm;have HBd:Hid (Below W1.heap.size W1 W1.drew):=hid (Below.refl _ _).drew;have HI:Hid (∀(n:Int) (w':World),I64 n→Below W1.heap.size W1 w'→Calls prog 33 #[.int .i64 n] w' fun e w''=>(∃q:ByteArray,e= .returned (.string q)∧q.data.toList=Lib.itoa n)∧Below W1.heap.size W1 w''):=hid fun n w' hn hb=>(Jap m n w' hn (HE.out.later hb)).mono fun e w'' ⟨h1,h2⟩=>⟨h1,hb.trans (h2.mono hb.size)⟩
 have HS:Hid (∀w':World,Below W1.heap.size W1 w'→Calls prog 34 #[.int .i64 r.k,.agg #[.int .i64 r.e,.int .i64 r.rk,.int .i64 r.z,.int .i64 r.wh,.int .i64 r.id,.string r.x,.slice r.A r.N.length r.c,.bool r.fin]] w' fun e w''=>(∃q:ByteArray,e= .returned (.string q)∧q.data.toList=showM r.k r.e r.rk r.z r.wh r.id r.x.data.toList (dataL r.N) r.fin)∧Below W1.heap.size W1 w''):=hid fun w' hb=>(Jj7 m r.k r.e r.rk r.z r.wh r.id r.x r.A r.N r.c r.fin w' (HE.out.later hb) (HN.out.later hb) HF.out.res).mono fun e w'' ⟨h1,h2⟩=>⟨h1,hb.trans (h2.mono hb.size)⟩
 clear hE hN hf hb1 hx hW1;go_enter func14,ntmps14
 go_upto_region 1 with fail
 rw [HW.out];simp only [←HG.out];clear HW;refine held.wpT_start (S:=fun w'=>Below W1.heap.size W1 w') (T:=fun _=>false) (by kernel_rfl) ?_;refine stp.tk 0 3 ?_;refine stp.ld 1 4 (HBd.out) ?_ (hv:=by intro w' h;obtain⟨c0,c1,c2,c8,c9,c10,c11,c12,c13,c14,c15,c16,c17,c18⟩:=HC.out w' h;clear h;go_simp;(try with_reducible rfl));refine stp.tk 3 6 ?_;refine stp.ld 4 7 (HBd.out) ?_ (hv:=by intro w' h;obtain⟨c0,c1,c2,c8,c9,c10,c11,c12,c13,c14,c15,c16,c17,c18⟩:=HC.out w' h;clear h;go_simp;(try with_reducible rfl));refine stp.tk 6 9 ?_;refine stp.ld 7 10 (HBd.out) ?_ (hv:=by intro w' h;obtain⟨c0,c1,c2,c8,c9,c10,c11,c12,c13,c14,c15,c16,c17,c18⟩:=HC.out w' h;clear h;go_simp;(try with_reducible rfl));refine stp.tk 9 12 ?_;refine stp.ld 10 13 (HBd.out) ?_ (hv:=by intro w' h;obtain⟨c0,c1,c2,c8,c9,c10,c11,c12,c13,c14,c15,c16,c17,c18⟩:=HC.out w' h;clear h;go_simp;(try with_reducible rfl));refine stp.tk 12 15 ?_;refine stp.ld 13 16 (HBd.out) ?_ (hv:=by intro w' h;obtain⟨c0,c1,c2,c8,c9,c10,c11,c12,c13,c14,c15,c16,c17,c18⟩:=HC.out w' h;clear h;go_simp;(try with_reducible rfl));refine stp.tk 15 18 ?_;refine stp.tk 16 19 ?_;refine stp.ld 17 20 (HBd.out) ?_ (hv:=by intro w' h;obtain⟨c0,c1,c2,c8,c9,c10,c11,c12,c13,c14,c15,c16,c17,c18⟩:=HC.out w' h;clear h;go_simp;(try with_reducible rfl));refine stp.tk 18 21 ?_;refine stp.ld 19 22 (HBd.out) ?_ (hv:=by intro w' h;obtain⟨c0,c1,c2,c8,c9,c10,c11,c12,c13,c14,c15,c16,c17,c18⟩:=HC.out w' h;clear h;go_simp;(try with_reducible rfl));refine held.wpT_one (i:=2) (by kernel_rfl) rfl (fun Kc hK=>?_);go_simp
 go_at_call 33
 refine (HI.out r.cl _ HF.out.cl HBd.out).mono ?_;rintro en w2 ⟨⟨q0,rfl,hq0⟩,hb⟩;have HB2:=hid hb;have HQ0:=hid hq0;clear hb hq0;refine hK.out _ _ (fun _ _=>HB2.out) ?_;clear hK;try simp only [stp.pt]
 refine held.wpT_one (i:=5) (by kernel_rfl) rfl (fun Kc hK=>?_);go_simp
 go_at_call 33
 refine (HI.out r.ix _ HF.out.ix HB2.out).mono ?_;rintro en w3 ⟨⟨q1,rfl,hq1⟩,hb⟩;have HB3:=hid hb;have HQ1:=hid hq1;clear hb hq1;refine hK.out _ _ (fun _ _=>HB3.out) ?_;clear hK;try simp only [stp.pt]
 refine held.wpT_one (i:=8) (by kernel_rfl) rfl (fun Kc hK=>?_);go_simp
 go_at_call 33
 refine (HI.out r.ca _ HF.out.ca HB3.out).mono ?_;rintro en w4 ⟨⟨q2,rfl,hq2⟩,hb⟩;have HB4:=hid hb;have HQ2:=hid hq2;clear hb hq2;refine hK.out _ _ (fun _ _=>HB4.out) ?_;clear hK;try simp only [stp.pt]
 refine held.wpT_one (i:=11) (by kernel_rfl) rfl (fun Kc hK=>?_);go_simp
 go_at_call 33
 refine (HI.out r.ma _ HF.out.ma HB4.out).mono ?_;rintro en w5 ⟨⟨q3,rfl,hq3⟩,hb⟩;have HB5:=hid hb;have HQ3:=hid hq3;clear hb hq3;refine hK.out _ _ (fun _ _=>HB5.out) ?_;clear hK;try simp only [stp.pt]
 refine held.wpT_one (i:=14) (by kernel_rfl) rfl (fun Kc hK=>?_);go_simp
 go_at_call 33
 refine (HI.out r.re _ HF.out.re HB5.out).mono ?_;rintro en w6 ⟨⟨q4,rfl,hq4⟩,hb⟩;have HB6:=hid hb;have HQ4:=hid hq4;clear hb hq4;refine hK.out _ _ (fun _ _=>HB6.out) ?_;clear hK;try simp only [stp.pt]
 refine held.wpT_one (i:=20) (by kernel_rfl) rfl (fun Kc hK=>?_);go_simp
 go_at_call 34
 refine (HS.out _ HB6.out).mono ?_;rintro en w7 ⟨⟨q5,rfl,hq5⟩,hb⟩;have HB7:=hid hb;have HQ5:=hid hq5;clear hb hq5;refine hK.out _ _ (fun _ _=>HB7.out) ?_;clear hK;try simp only [stp.pt]
 refine held.wpT_one (i:=21) (by kernel_rfl) rfl (fun Kc hK=>?_);go_simp
 obtain⟨W8,hW8⟩:=words.nm (w7.alloc (.cells #[.string q0,.string q1,.string q2,.string q3,.string q4,.string q5] 9));have hSl:Sl W8 (some ⟨w7.heap.size,0,none⟩) [q0,q1,q2,q3,q4,q5]:=by rw [hW8];exact Jcy w7 _
 have HB8:=hid (HB7.out.trans ((stp.new hW8).2.mono HB7.out.size));rw [←hW8];have hL:dataL [q0,q1,q2,q3,q4,q5]=[Lib.itoa r.cl,Lib.itoa r.ix,Lib.itoa r.ca,Lib.itoa r.ma,Lib.itoa r.re,showM r.k r.e r.rk r.z r.wh r.id r.x.data.toList (dataL r.N) r.fin]:=by simp only [dataL,List.map_cons,List.map_nil,HQ0.out,HQ1.out,HQ2.out,HQ3.out,HQ4.out,HQ5.out]
 have hjl:(joinM [Lib.itoa r.cl,Lib.itoa r.ix,Lib.itoa r.ca,Lib.itoa r.ma,Lib.itoa r.re,showM r.k r.e r.rk r.z r.wh r.id r.x.data.toList (dataL r.N) r.fin]).length≤1000000000000:=by have:=Jg3 HF.out;unfold lnM at this;rw [List.length_append] at this;omega
 have HJ:=hid (Jbf w7.heap.size 6 _ _ 6 W8 rfl (Nat.le_refl _) hL hSl (by simp) (by simp) hjl);clear hW8 hSl hL hjl;refine hK.out _ _ (fun _ _=>HB8.out) ?_;clear hK;try simp only [stp.pt]
 refine held.wpT_one (i:=22) (by kernel_rfl) rfl (fun Kc hK=>?_);go_simp
 go_at_call 32
 refine (HJ.out).mono ?_;rintro en w9 ⟨⟨q6,rfl,hq6⟩,hb9⟩;have HB9:=hid (HB8.out.trans (hb9.mono HB8.out.size));have HQ6:=hid hq6;clear hb9 hq6;refine hK.out _ _ (fun _ _=>HB9.out) ?_;clear hK;try simp only [stp.pt]
 refine stp.tk 23 2 ?_;refine held.wpT_done (by kernel_rfl) ?_ _;go_wp2_with fail
 go_ret
 exact⟨⟨q6,rfl,HQ6.out⟩,HB1.out.trans (HB9.out.mono HB1.out.size)⟩
def outM (l:List Int):List UInt8:=l.flatMap fun n=>Lib.itoa n++[32]
theorem Jms (r:Rc):lnM r=outM [r.cl,r.ix,r.ca,r.ma,r.re]++(showM r.k r.e r.rk r.z r.wh r.id r.x.data.toList (dataL r.N) r.fin++[10]):=by
 unfold lnM outM;simp [joinM]
theorem Jjl (l:List Int) (h:∀n∈l,I64 n):(outM l).length≤l.length*22:=by
 induction l with
 |nil=>simp [outM]
 |cons n l ih=>
  have h1:=ih fun x hx=>h x (List.mem_cons_of_mem _ hx);have h2:=h n (List.mem_cons_self ..);have h3:=Lib.itoa_length_le n h2.1 h2.2;unfold outM at h1 ⊢;simp only [List.flatMap_cons,List.length_append,List.length_cons,List.length_nil];omega
theorem Jj8 {l:List Int} {k:Nat} {n:Int} (h:l[k]?=some n):outM (l.take (k+1))=outM (l.take k)++(Lib.itoa n++[32]):=by
 rw [Jay h];simp [outM]
theorem Jfm (r:Rc) (w:World) (hN:Sl w r.A r.N) (hf:RcFit r):
  Calls prog 15 #[.agg #[.int .i64 r.cl,.int .i64 r.ix,.int .i64 r.k,.string r.p,.int .i64 r.o,.int .i64 r.n,.int .i64 r.i,.string r.g,.int .i64 r.e,.int .i64 r.rk,.int .i64 r.z,.int .i64 r.wh,.int .i64 r.id,.string r.x,.slice r.A r.N.length r.c,.bool r.fin,.int .i64 r.ca,.int .i64 r.ma,.int .i64 r.re]] w (StrOut (lnM r) w):=by
 obtain⟨W1,hW1⟩:=words.nm (w.alloc (.cells #[.int .i64 r.cl,.int .i64 r.ix,.int .i64 r.k,.string r.p,.int .i64 r.o,.int .i64 r.n,.int .i64 r.i,.string r.g,.int .i64 r.e,.int .i64 r.rk,.int .i64 r.z,.int .i64 r.wh,.int .i64 r.id,.string r.x,.slice r.A r.N.length r.c,.bool r.fin,.int .i64 r.ca,.int .i64 r.ma,.int .i64 r.re] 59));obtain⟨hx,hb1⟩:=stp.new hW1;obtain⟨g0,hg0⟩:=words.nm (w.heap.size);rw [←hg0] at hx;have HG:=hid hg0;clear hg0;have HC:Hid (∀w':World,Below W1.heap.size W1 w'→w'.cell? ⟨g0,0,none⟩=some (.int .i64 r.cl)∧w'.cell? ⟨g0,1,none⟩=some (.int .i64 r.ix)∧w'.cell? ⟨g0,2,none⟩=some (.int .i64 r.k)∧w'.cell? ⟨g0,8,none⟩=some (.int .i64 r.e)∧w'.cell? ⟨g0,9,none⟩=some (.int .i64 r.rk)∧w'.cell? ⟨g0,10,none⟩=some (.int .i64 r.z)∧w'.cell? ⟨g0,11,none⟩=some (.int .i64 r.wh)∧w'.cell? ⟨g0,12,none⟩=some (.int .i64 r.id)∧w'.cell? ⟨g0,13,none⟩=some (.string r.x)∧w'.cell? ⟨g0,14,none⟩=some (.slice r.A r.N.length r.c)∧w'.cell? ⟨g0,15,none⟩=some (.bool r.fin)∧w'.cell? ⟨g0,16,none⟩=some (.int .i64 r.ca)∧w'.cell? ⟨g0,17,none⟩=some (.int .i64 r.ma)∧w'.cell? ⟨g0,18,none⟩=some (.int .i64 r.re)):=hid fun w' hb=>by
  have e1:=stp.old hb hx;exact⟨Jaa e1 0,Jaa e1 1,Jaa e1 2,Jaa e1 8,Jaa e1 9,Jaa e1 10,Jaa e1 11,Jaa e1 12,Jaa e1 13,Jaa e1 14,Jaa e1 15,Jaa e1 16,Jaa e1 17,Jaa e1 18⟩
 have HN:=hid (hN.later hb1);have HF:=hid hf;have HB1:=hid hb1;have HW:=hid hW1.symm;obtain⟨W2,hW2⟩:=words.nm (W1.alloc (.cells #[.int .i64 r.cl,.int .i64 r.ix,.int .i64 r.ca,.int .i64 r.ma,.int .i64 r.re] 3));obtain⟨hx2,hb2⟩:=stp.new hW2;have HX2:=hid hx2;have HB2:=hid hb2;have HW2:=hid hW2.symm;obtain⟨c0,c1,c2,c8,c9,c10,c11,c12,c13,c14,c15,c16,c17,c18⟩:=HC.out W1 (Below.refl _ _);obtain⟨l,hl⟩:∃l:List Int,l=[r.cl,r.ix,r.ca,r.ma,r.re]:=⟨_,rfl⟩
 have HL:=hid hl;have HI:Hid (∀n∈l,I64 n):=hid fun n hn=>by
  rw [hl] at hn;simp only [List.mem_cons,List.mem_nil_iff,or_false] at hn;rcases hn with rfl |rfl |rfl |rfl |rfl
  ·exact hf.cl
  ·exact hf.ix
  ·exact hf.ca
  ·exact hf.ma
  ·exact hf.re
 have HZ:Hid (l.length=5):=hid (by rw [hl];rfl);have HAt:Hid (∀(k:Nat) (n:Int) (w':World),l[k]?=some n→Below W2.heap.size W2 w'→w'.cell? ⟨W1.heap.size,k,none⟩=some (.int .i64 n)):=hid fun k n w' hk hb=>by
  have e2:=stp.old hb HX2.out;rw [Jaa e2];rw [hl] at hk;rcases k with _ |_ |_ |_ |_ |k
  ·injection hk with hk;rw [←hk];rfl
  ·injection hk with hk;rw [←hk];rfl
  ·injection hk with hk;rw [←hk];rfl
  ·injection hk with hk;rw [←hk];rfl
  ·injection hk with hk;rw [←hk];rfl
  ·simp at hk
 clear hN hf hb1 hx hW1 hx2 hb2 hW2 hl;go_enter func15,ntmps15
 go_upto_region 1 with fail
 rw [HW.out];simp only [←HG.out];clear HW;go_wp2_with fail
 rw [HW2.out];clear HW2;go_loopw [3,18] (fun v3 v18 wr=>∃(k:Nat) (o:ByteArray),k≤5∧v18= .int .i64 (k:Int)∧v3= .string o∧Hid (o.data.toList=outM (l.take k))∧Hid (Below W2.heap.size W2 wr)) (fun _ v18 _=>5 - (intOf v18).toNat)
 case atStart=>exact⟨0,⟨#[]⟩,by omega,rfl,rfl,hid rfl,hid (Below.refl _ _)⟩
 case round=>
  obtain⟨k,o,hk,rfl,rfl,HO,HBr⟩:=hrel;have i0:(0:Int)≤(k:Int):=by omega
  by_cases hlt:k<5
  ·have i1:(k:Int)<5:=by omega
   obtain⟨n,hn⟩:∃n,l[k]?=some n:=⟨_,List.getElem?_eq_getElem (by rw [HZ.out];exact hlt)⟩
   have d0:=HAt.out k n wr hn HBr.out;have hin:=HI.out n (List.mem_of_getElem? hn);have HNu:=hid (Jaf n hin wr);have HS:=hid (Jj8 hn);have hol:=Jjl (l.take k) fun x hx=>HI.out x (List.mem_of_mem_take hx);rw [←HO.out,size_list,List.length_take,HZ.out] at hol;have ho2:o.size≤200:=by have:min k 5≤5:=Nat.min_le_right _ _;omega
   have HIn:=hid hin;clear hn hin hol;go_wp2_with fail
   refine HNu.out.mono ?_;rintro en w5 ⟨⟨q,rfl,hq⟩,hb5⟩;have hqs:q.size≤21:=by have:=Lib.itoa_length_le n HIn.out.1 HIn.out.2;rw [←hq,size_list] at this;omega
   have HR:Hid ((o++(q++⟨#[32]⟩)).data.toList=outM (l.take (k+1))):=hid (by rw [HS.out,Jae,Jae,HO.out,hq]);have HB5:=hid (HBr.out.trans (hb5.mono HBr.out.size));clear hq hb5 HNu HO HS HBr;go_wp2_with fail
   go_roundw
   case rel=>exact⟨k+1,_,by omega,by go_num,rfl,HR,HB5⟩
   case measure=>simp [intOf];omega
  obtain rfl:k=5:=by omega
  have HFull:Hid (o.data.toList=outM [r.cl,r.ix,r.ca,r.ma,r.re]):=hid (by rw [HO.out,HL.out];rfl);have HBw:Hid (Below W1.heap.size W1 wr):=hid (HB2.out.trans (HBr.out.mono HB2.out.size));have hol:=Jjl [r.cl,r.ix,r.ca,r.ma,r.re] (by rw [←HL.out];exact HI.out);rw [←HFull.out,size_list] at hol;have ho2:o.size≤200:=by simp only [List.length_cons,List.length_nil] at hol;omega
  have HSh:=hid (Jfk r.k r.e r.rk r.z r.wh r.id r.x r.A r.N r.c r.fin wr (HN.out.later HBw.out) HF.out.res);unfold resV at HSh;clear HO hol c0 c1 c2 c8 c9 c10 c11 c12 c13 c14 c15 c16 c17 c18;obtain⟨c0,c1,c2,c8,c9,c10,c11,c12,c13,c14,c15,c16,c17,c18⟩:=HC.out wr HBw.out;go_wp2_with fail
  refine HSh.out.mono ?_;rintro en w6 ⟨⟨q,rfl,hq⟩,hb6⟩;have hqs:q.size≤220000000:=by have:=Jg2 (q:=r.k) (en:=r.fin) HF.out.res;rw [←hq,size_list] at this;exact this
  have HR:Hid ((o++q++⟨#[10]⟩).data.toList=lnM r):=hid (by rw [Jae,Jae,HFull.out,hq,Jms,List.append_assoc]);have HB6:Hid (Below w.heap.size w w6):=hid (HB1.out.trans ((HBw.out.trans (hb6.mono HBw.out.size)).mono HB1.out.size));clear hq hb6 HSh;go_wp2_with fail
  go_ret
  exact⟨⟨_,rfl,HR.out⟩,HB6.out⟩
end Go.Proofs.YtekekhgjobahaaaGreatDoor.rep
