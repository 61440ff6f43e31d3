import Derived.Test.YtcoimjbhoiipoaaGreatDoorG17
set_option maxHeartbeats 3200000
set_option maxRecDepth 100000
open Go.Lib (hid)
open Go.Proofs.Tryz
namespace Go.Proofs.YtcoimjbhoiipoaaGreatDoor.tre
open Go.RowKit words ext name

theorem Jsk (b:Bool) (n:Nd) (r:Raw) (w:World) (hN:NdAt w w.heap.size n r) (hb:oneB n=b):Calls prog 34 #[ndV n r] w fun e w'=>e= .returned (.bool b)∧Below w.heap.size w w':=
 (Jrl n r w hN).mono fun _ _ ⟨he,hw⟩=>⟨by rw [he,hb],hw⟩
theorem wrap_add (a b:Int):wrap64 (wrap64 a+wrap64 b)=wrap64 (a+b):=by unfold wrap64;omega
theorem Jd3:∀L M:List Nd,countL (L++M)=countL L+countL M
 |[],M=>by rw [List.nil_append,Jak,Nat.zero_add]
 |x::L,M=>by rw [List.cons_append,Jaf,Jaf,Jd3 L M,Nat.add_assoc]
theorem Jdw:∀L M:List Nd,depthL (L++M)=max (depthL L) (depthL M)
 |[],M=>by rw [List.nil_append,Jan,Nat.zero_max]
 |x::L,M=>by rw [List.cons_append,Jaj,Jaj,Jdw L M,Nat.max_assoc]
theorem Jji {L:List Nd} {k:Nat} {x:Nd} (h:L[k]?=some x):countL (L.take (k+1))=countL (L.take k)+count x:=by
 rw [take_at h,Jd3,Jaf,Jak];rfl
theorem Jjl {L:List Nd} {k:Nat} {x:Nd} (h:L[k]?=some x):depthL (L.take (k+1))=max (depthL (L.take k)) (depth x+1):=by
 rw [take_at h,Jdw,Jaj,Jan,Nat.max_zero]
theorem Jsg (W0:World):∀(k:Nat) (n:Nd) (r:Raw) (w:World),depth n<k→NdAt W0 W0.heap.size n r→Below W0.heap.size W0 w→
  Calls prog 20 #[ndV n r] w fun e w'=>e= .returned (.bool (allB n))∧Below w.heap.size w w':=by
 intro k
 induction k with
 |zero=>intro n r w hk;omega
 |succ k ih=>
  intro n r w hk hN hb;have IH:=hid ih;have f4:=hN.fit.li;have HN:=hid hN;have HB:=hid hb;obtain⟨W1,hW1⟩:=words.nm (w.alloc (.cells (rawCells n r) 28));have HX1:Hid (Box W1 w.heap.size n r):=by rw [hW1];exact hid (Box.new w n r)
  have HB1:Hid (Below w.heap.size w W1):=by rw [hW1];exact hid ((Below.refl _ _).alloc (Nat.le_refl _) _)
  unfold rawCells at hW1;have HW1:=hid hW1;have HS:=hid (Jbt n);clear hN hb hW1 ih;unfold ndV rawCells;go_enter func20,ntmps20
  go_upto_region 1 with fail
  rw [←HW1.out];go_wp2_with fail
  go_loopw [3] (fun v wr=>∃(j:Nat),j≤n.I.length∧v= .int .i64 j∧Hid (allL n.I=allL (n.I.drop j))∧Below W1.heap.size W1 wr)
   (fun v _=>n.I.length - (intOf v).toNat)
  case atStart=>exact⟨0,Nat.zero_le _,rfl,hid rfl,Below.refl _ _⟩
  case round=>
   obtain⟨j,hj,rfl,HL,hbw⟩:=hrel;have HBr:=hid hbw;have HX:=hid (HX1.out.below hbw);have HBw:=hid (HB.out.trans (HB1.out.trans (hbw.mono HB1.out.size) |>.mono HB.out.size));clear hbw;obtain⟨b0,b1,b2,b3,b4,b5,b6⟩:=HX.out.cells;by_cases hlt:j<n.I.length
   ·obtain⟨x,hx⟩:∃x,n.I[j]?=some x:=⟨_,List.getElem?_eq_getElem hlt⟩
    obtain⟨r',hr',b,off,hAi,hB,c0,c1,c2,c3,c4,c5,c6⟩:=HN.out.entry hx HBw.out;have hdx:depth x<k:=by have:=Ja9 hx;have:=Jah n;omega
    obtain⟨q1,hq1⟩:=words.nm (allB x);have HLX:=hid (show allL (n.I.drop j)=(q1&&allL (n.I.drop (j+1))) by rw [drop_at hx,Jav,←hq1]);have HI:=hid (IH.out x r' wr hdx hr' HBw.out);rw [←hq1] at HI;unfold ndV rawCells at HI;rw [hAi] at b3;have i0:(0:Int)≤(j:Int):=by omega
    clear hx hr' hq1 hAi;go_wp2_with fail
    refine HI.out.mono ?_;rintro e w5 ⟨rfl,hb5⟩;have HB5:=hid (HBr.out.trans (hb5.mono HBr.out.size));clear hb5 HI b0 b1 b2 b3 b4 b5 b6 c0 c1 c2 c3 c4 c5 c6;cases q1
    ·have HF:=hid (show false=allB n by rw [HS.out,HL.out,HLX.out];rfl)
     go_wp2_with fail
     go_ret
     exact⟨Jac HF.out,HB1.out.trans (HB5.out.mono HB1.out.size)⟩
    ·have HN2:=hid (show allL n.I=allL (n.I.drop (j+1)) by rw [HL.out,HLX.out,Bool.true_and])
     go_wp2_with fail
     go_roundw
     case rel=>exact⟨j+1,by omega,by go_num,HN2,HB5.out⟩
     case measure=>simp [intOf];omega
   ·obtain⟨ob,hob⟩:=words.nm (oneB n)
    have HF:=hid (show ob=allB n by rw [HS.out,HL.out,List.drop_of_length_le (by omega),Jko,Bool.true_and,hob]);have HI:=hid (Jsk ob n r wr ((HN.out.later HBw.out)) hob.symm);unfold ndV rawCells at HI;clear hob;go_wp2_with fail
    refine HI.out.mono ?_;rintro e w5 ⟨rfl,hb5⟩;have HB5:=hid (HBr.out.trans (hb5.mono HBr.out.size));clear hb5 HI;go_wp2_with fail
    go_ret
    exact⟨Jac HF.out,HB1.out.trans (HB5.out.mono HB1.out.size)⟩

theorem Jnl {a b:Int} (h:a=b):Ending.returned (.int .i64 a)= .returned (.int .i64 b):=by rw [h]
theorem Jiz (W0:World):∀(k:Nat) (n:Nd) (r:Raw) (w:World),depth n<k→NdAt W0 W0.heap.size n r→Below W0.heap.size W0 w→
  Calls prog 21 #[ndV n r] w fun e w'=>e= .returned (.int .i64 (wrap64 (count n:Int)))∧Below w.heap.size w w':=by
 intro k
 induction k with
 |zero=>intro n r w hk;omega
 |succ k ih=>
  intro n r w hk hN hb;have IH:=hid ih;have f4:=hN.fit.li;have HN:=hid hN;have HB:=hid hb;obtain⟨W1,hW1⟩:=words.nm (w.alloc (.cells (rawCells n r) 28));have HX1:Hid (Box W1 w.heap.size n r):=by rw [hW1];exact hid (Box.new w n r)
  have HB1:Hid (Below w.heap.size w W1):=by rw [hW1];exact hid ((Below.refl _ _).alloc (Nat.le_refl _) _)
  unfold rawCells at hW1;have HW1:=hid hW1;have HS:=hid (Jam n);clear hN hb hW1 ih;unfold ndV rawCells;go_enter func21,ntmps21
  go_upto_region 1 with fail
  rw [←HW1.out];go_wp2_with fail
  go_loopw [3,4] (fun s v wr=>∃(j:Nat) (kk:Int),j≤n.I.length∧v= .int .i64 j∧s= .int .i64 kk∧Hid (kk=wrap64 ((1+countL (n.I.take j):Nat):Int))∧Below W1.heap.size W1 wr)
   (fun _ v _=>n.I.length - (intOf v).toNat)
  case atStart=>exact⟨0,1,Nat.zero_le _,rfl,rfl,hid (by rw [List.take_zero,Jak];decide+kernel),Below.refl _ _⟩
  case round=>
   obtain⟨j,kk,hj,rfl,rfl,HL,hbw⟩:=hrel;have HBr:=hid hbw;have HX:=hid (HX1.out.below hbw);have HBw:=hid (HB.out.trans (HB1.out.trans (hbw.mono HB1.out.size) |>.mono HB.out.size));clear hbw;obtain⟨b0,b1,b2,b3,b4,b5,b6⟩:=HX.out.cells;by_cases hlt:j<n.I.length
   ·obtain⟨x,hx⟩:∃x,n.I[j]?=some x:=⟨_,List.getElem?_eq_getElem hlt⟩
    obtain⟨r',hr',b,off,hAi,hB,c0,c1,c2,c3,c4,c5,c6⟩:=HN.out.entry hx HBw.out;have hdx:depth x<k:=by have:=Ja9 hx;have:=Jah n;omega
    obtain⟨q1,hq1⟩:=words.nm (wrap64 (count x:Int));have HLX:=hid (show wrap64 (kk+q1)=wrap64 ((1+countL (n.I.take (j+1)):Nat):Int) by
      rw [HL.out,hq1,wrap_add,Jji hx];congr 1;omega)
    have HI:=hid (IH.out x r' wr hdx hr' HBw.out);rw [←hq1] at HI;unfold ndV rawCells at HI;rw [hAi] at b3;have i0:(0:Int)≤(j:Int):=by omega
    clear hx hr' hq1 hAi;go_wp2_with fail
    refine HI.out.mono ?_;rintro e w5 ⟨rfl,hb5⟩;have HB5:=hid (HBr.out.trans (hb5.mono HBr.out.size));clear hb5 HI b0 b1 b2 b3 b4 b5 b6 c0 c1 c2 c3 c4 c5 c6;go_wp2_with fail
    go_roundw
    case rel=>exact⟨j+1,_,by omega,by go_num,rfl,HLX,HB5.out⟩
    case measure=>simp [intOf];omega
   ·have HF:=hid (show kk=wrap64 (count n:Int) by rw [HL.out,HS.out,List.take_of_length_le (by omega)])
    go_wp2_with fail
    go_ret
    exact⟨Jnl HF.out,HB1.out.trans (HBr.out.mono HB1.out.size)⟩
theorem Ji1 (W0:World):∀(k:Nat) (n:Nd) (r:Raw) (w:World),depth n<k→k≤10000→NdAt W0 W0.heap.size n r→Below W0.heap.size W0 w→
  Calls prog 22 #[ndV n r] w fun e w'=>e= .returned (.int .i64 (depth n:Int))∧Below w.heap.size w w':=by
 intro k
 induction k with
 |zero=>intro n r w hk;omega
 |succ k ih=>
  intro n r w hk hk2 hN hb;have IH:=hid ih;have f4:=hN.fit.li;have HN:=hid hN;have HB:=hid hb;obtain⟨W1,hW1⟩:=words.nm (w.alloc (.cells (rawCells n r) 28));have HX1:Hid (Box W1 w.heap.size n r):=by rw [hW1];exact hid (Box.new w n r)
  have HB1:Hid (Below w.heap.size w W1):=by rw [hW1];exact hid ((Below.refl _ _).alloc (Nat.le_refl _) _)
  unfold rawCells at hW1;have HW1:=hid hW1;have HS:=hid (Jah n);clear hN hb hW1 ih;unfold ndV rawCells;go_enter func22,ntmps22
  go_upto_region 1 with fail
  rw [←HW1.out];go_wp2_with fail
  go_loopw [3,4] (fun s v wr=>∃(j dd:Nat),j≤n.I.length∧v= .int .i64 j∧s= .int .i64 dd∧Hid (dd=depthL (n.I.take j))∧dd≤k∧Below W1.heap.size W1 wr)
   (fun _ v _=>n.I.length - (intOf v).toNat)
  case atStart=>exact⟨0,0,Nat.zero_le _,rfl,rfl,hid (by rw [List.take_zero,Jan]),Nat.zero_le _,Below.refl _ _⟩
  case round=>
   obtain⟨j,dd,hj,rfl,rfl,HL,hdd,hbw⟩:=hrel;have HBr:=hid hbw;have HX:=hid (HX1.out.below hbw);have HBw:=hid (HB.out.trans (HB1.out.trans (hbw.mono HB1.out.size) |>.mono HB.out.size));clear hbw;obtain⟨b0,b1,b2,b3,b4,b5,b6⟩:=HX.out.cells;by_cases hlt:j<n.I.length
   ·obtain⟨x,hx⟩:∃x,n.I[j]?=some x:=⟨_,List.getElem?_eq_getElem hlt⟩
    obtain⟨r',hr',b,off,hAi,hB,c0,c1,c2,c3,c4,c5,c6⟩:=HN.out.entry hx HBw.out;have hdx:depth x<k:=by have:=Ja9 hx;have:=Jah n;omega
    obtain⟨q1,hq1⟩:=words.nm (depth x);have HLX:=hid (show depthL (n.I.take (j+1))=max dd (q1+1) by rw [Jjl hx,HL.out,hq1]);have hq2:q1<k:=by rw [hq1];exact hdx
    have HI:=hid (IH.out x r' wr hdx (by omega) hr' HBw.out);rw [←hq1] at HI;unfold ndV rawCells at HI;rw [hAi] at b3;have i0:(0:Int)≤(j:Int):=by omega
    clear hx hr' hq1 hAi;go_wp2_with fail
    refine HI.out.mono ?_;rintro e w5 ⟨rfl,hb5⟩;have HB5:=hid (HBr.out.trans (hb5.mono HBr.out.size));clear hb5 HI b0 b1 b2 b3 b4 b5 b6 c0 c1 c2 c3 c4 c5 c6;by_cases hg:dd<q1+1
    ·have g1:(dd:Int)<(q1:Int)+1:=by omega
     have HN2:=hid (show q1+1=depthL (n.I.take (j+1)) by rw [HLX.out];omega);go_wp2_with fail
     go_roundw
     case rel=>exact⟨j+1,q1+1,by omega,by go_num,by go_num,HN2,by omega,HB5.out⟩
     case measure=>simp [intOf];omega
    ·have g1:¬(dd:Int)<(q1:Int)+1:=by omega
     have HN2:=hid (show dd=depthL (n.I.take (j+1)) by rw [HLX.out];omega);go_wp2_with fail
     go_roundw
     case rel=>exact⟨j+1,dd,by omega,by go_num,rfl,HN2,by omega,HB5.out⟩
     case measure=>simp [intOf];omega
   ·have HF:=hid (show (dd:Int)=(depth n:Int) by rw [HS.out,HL.out,List.take_of_length_le (by omega)])
    go_wp2_with fail
    go_ret
    exact⟨Jnl HF.out,HB1.out.trans (HBr.out.mono HB1.out.size)⟩
theorem Jb3 (n:Nd) (r:Raw) (w:World) (hN:NdAt w w.heap.size n r) (hd:depth n≤1000):
  Calls prog 12 #[ndV n r] w fun e w'=>e= .returned (.bool (refB n))∧Below w.heap.size w w':=by
 obtain⟨W1,hW1⟩:=words.nm (w.alloc (.cells (rawCells n r) 28));have hb1:=words.b1 hW1;have HX1:Hid (Box W1 w.heap.size n r):=by rw [hW1];exact hid (Box.new w n r)
 have HB1:=hid hb1;have HN:=hid hN;unfold rawCells at hW1;have HW1:=hid hW1;clear hN hb1 hW1;unfold ndV rawCells;by_cases k2:n.K=2
 ·have g2:(n.K==2)=true:=by rw [k2];rfl
  obtain⟨ab,hab⟩:=words.nm (allB n);have HAb:=hid hab;have HR:=hid (show refB n=(ab&&decide (wrap64 (count n:Int)≤4096)&&decide (depth n≤15)) by unfold refB;rw [g2,hab,Bool.true_and]);have HA:=hid (Jsg w (depth n+1) n r W1 (by omega) HN.out HB1.out);rw [←hab] at HA;unfold ndV rawCells at HA;obtain⟨cn,hcn⟩:=words.nm (wrap64 (count n:Int));have HCn:=hid hcn;rw [←hcn] at HR;obtain⟨dn,hdn⟩:=words.nm (depth n);have HDn:=hid hdn;rw [←hdn] at HR;clear k2 hab hcn;go_enter func12,ntmps12
  go_upto_region 1 with fail
  rw [←HW1.out];obtain⟨b0,b1,b2,b3,b4,b5,b6⟩:=HX1.out.cells;have HD0:=hid hdn;clear hdn;go_wp2_with fail
  refine HA.out.mono ?_;rintro e w2 ⟨rfl,hb2⟩;have HB2:=hid (HB1.out.trans (hb2.mono HB1.out.size));have HX2:=hid (HX1.out.below hb2);clear hb2 HA b0 b1 b2 b3 b4 b5 b6;cases ab
  ·go_wp2_with fail
   go_ret
   exact⟨Jac (by rw [HR.out];rfl),HB2.out⟩
  ·obtain⟨b0,b1,b2,b3,b4,b5,b6⟩:=HX2.out.cells
   have HC:=hid (Jiz w (depth n+1) n r w2 (by omega) HN.out HB2.out);rw [←HCn.out] at HC;unfold ndV rawCells at HC;go_wp2_with fail
   refine HC.out.mono ?_;rintro e w3 ⟨rfl,hb3⟩;have HB3:=hid (HB2.out.trans (hb3.mono HB2.out.size));have HX3:=hid (HX2.out.below hb3);clear hb3 HC b0 b1 b2 b3 b4 b5 b6;by_cases h1:cn≤4096
   ·have g1:decide (cn≤4096)=true:=decide_eq_true h1
    obtain⟨b0,b1,b2,b3,b4,b5,b6⟩:=HX3.out.cells;have HD:=hid (Ji1 w (depth n+1) n r w3 (by omega) (by omega) HN.out HB3.out);rw [←HDn.out] at HD;unfold ndV rawCells at HD;clear h1;go_wp2_with fail
    refine HD.out.mono ?_;rintro e w4 ⟨rfl,hb4⟩;have HB4:=hid (HB3.out.trans (hb4.mono HB3.out.size));clear hb4 HD b0 b1 b2 b3 b4 b5 b6;by_cases h2:dn≤15
    ·have g2':(dn:Int)≤15:=by omega
     go_wp2_with fail
     go_ret
     exact⟨Jac (by rw [HR.out,g1,decide_eq_true h2];first |(simp;done) |(simp;omega)),HB4.out⟩
    ·have g2':¬(dn:Int)≤15:=by omega
     go_wp2_with fail
     go_ret
     exact⟨Jac (by rw [HR.out,g1,decide_eq_false (by omega)];first |(simp;done) |(simp;omega)),HB4.out⟩
   ·have g1:decide (cn≤4096)=false:=decide_eq_false h1
    clear h1;go_wp2_with fail
    go_ret
    exact⟨Jac (by rw [HR.out,g1];rfl),HB3.out⟩
 ·have g2:(n.K==2)=false:=by rw [beq_eq_false_iff_ne];exact k2
  have HF:=hid (show false=refB n by unfold refB;rw [g2,Bool.false_and,Bool.false_and,Bool.false_and]);clear k2;go_enter func12,ntmps12
  go_wp2_with fail
  go_ret
  exact⟨Jac HF.out,(Below.refl _ _).alloc (Nat.le_refl _) _⟩
theorem Jlp (n:Nd) (r:Raw) (w:World) (hN:NdAt w w.heap.size n r):
  Calls prog 11 #[ndV n r] w fun e w'=>e= .returned (.int .i64 (if smallB n=true then 1 else 0))∧Below w.heap.size w w':=by
 obtain⟨W1,hW1⟩:=words.nm ((w.alloc (.cells (rawCells n r) 28)).alloc (.cells #[.int .i64 400] 3));have hb1:Below w.heap.size w W1:=by rw [hW1];exact ((Below.refl _ _).alloc (Nat.le_refl _) _).alloc (by simp) _
 have HX1:Hid (Box W1 w.heap.size n r):=by rw [hW1];exact hid ((Box.new w n r).alloc _)
 have hc1:Cnt W1 (w.heap.size+1) 400:=by rw [hW1];exact Jes _ _ _
 have HI:=hid (Joy w (depth n+1) n r 30 400 (w.heap.size+1) W1 (by omega) hN hb1 (by omega) hc1 (by omega) (by omega) (by omega) (by omega));obtain⟨sb,hsb⟩:=words.nm (smallB n);rw [show (smallS n 30 400).1=sb from hsb.symm] at HI;rw [←hsb];have HB1:=hid hb1;unfold rawCells at hW1;have HW1:=hid hW1;unfold ndV rawCells at HI;clear hN hb1 hc1 hW1 hsb;unfold ndV rawCells;go_enter func11,ntmps11
 go_upto_region 2 with fail
 rw [←HW1.out];obtain⟨b0,b1,b2,b3,b4,b5,b6⟩:=HX1.out.cells;go_wp2_with fail
 refine HI.out.mono ?_;rintro e w2 ⟨rfl,_,hg2⟩;have HB2:=hid (below_grown HB1.out (Nat.le_refl _) hg2 (by omega));clear hg2 HI;cases sb
 ·go_wp2_with fail
  go_ret
  exact⟨rfl,HB2.out⟩
 ·go_wp2_with fail
  go_ret
  exact⟨rfl,HB2.out⟩

mutual
theorem Jfk:∀(n:Nd) (d l:Int),(smallS n d l).1=true→(depth n:Int)≤d
 | .mk K O N I S E T,d,l,h=>by
  rw [Jcp] at h;split at h
  ·cases h
  ·rename_i hc
   rw [Jah];have:=Jek I (d - 1) _ h (by omega);show (depthL I:Int)≤d;omega
theorem Jek:∀(L:List Nd) (d l:Int),(smallL L d l).1=true→ -1≤d→(depthL L:Int)≤d+1
 |[],d,l,_,hd=>by rw [Jan];omega
 |x::L,d,l,h,hd=>by
  rw [Jbo] at h;split at h
  ·rename_i hx
   have h1:=Jfk x d l hx;have h2:=Jek L d _ h hd;rw [Jaj];omega
  ·cases h
end
theorem Jeh {n:Nd} (h:smallB n=true):depth n≤30:=by
 have:=Jfk n 30 400 h;omega

def total:List Ex→Nat
 |[]=>0
 |x::L=>x.D.size+total L
theorem Jkx:∀(L:List Ex) (size e:Int),rightFrom size e L=true→0≤e→e≤size→e+(total L:Int)≤size∧L.length≤total L
 |[],size,e,_,_,h=>by simp [total];exact h
 |x::L,size,e,h,h0,h1=>by
  rw [Ja7,Bool.and_eq_true] at h;have hf:=of_decide_eq_true h.1;have:=Jkx L size (x.O+(x.D.size:Int)) h.2 (by omega) hf.2.2;simp only [total,List.length_cons];omega
theorem Jd6:∀(E:List Ex) (l:Int),-9000000000000000000≤l - (total E:Int)→l≤400→E.foldl (fun a x=>wrap64 (a - (x.D.size:Int))) l=l - (total E:Int)
 |[],l,_,_=>by simp [total]
 |x::E,l,h1,h2=>by
  simp only [total] at h1;rw [List.foldl_cons,Jcd (n:=l - (x.D.size:Int)) ⟨by omega,by omega⟩,Jd6 E _ (by omega) (by omega)];simp only [total];omega
theorem Jhj {n:Nd} (h:oneB n=true):total n.E≤1048576∧n.E.length≤1048576:=by
 have nil:emptyB n=true→total n.E≤1048576∧n.E.length≤1048576:=fun he=>by
  have hl:n.E.length=0:=by
   unfold emptyB at he;rw [Bool.and_eq_true] at he;exact beq_iff_eq.1 he.2
  rw [List.eq_nil_of_length_eq_zero hl];simp [total]
 by_cases k1:n.K=1
 ·rw [Jil k1,Bool.and_eq_true] at h
  have hr:=h.2;unfold rightB at hr;rw [Bool.and_eq_true,decide_eq_true_iff] at hr;have:=Jkx n.E n.S 0 hr.2 (Int.le_refl _) hr.1.1;omega
 by_cases k2:n.K=2
 ·rw [Jfy k2,Bool.and_eq_true,Bool.and_eq_true] at h
  exact nil h.1.1
 by_cases k3:n.K=3
 ·rw [Jfw k3,Bool.and_eq_true,Bool.and_eq_true] at h
  exact nil h.1.2
 by_cases k4:n.K=4
 ·rw [Jhr k4,Bool.and_eq_true,Bool.and_eq_true] at h
  exact nil h.1.2
 rw [Jhi k1 k2 k3 k4] at h;cases h
inductive Tame:Nd→Prop
 |mk {n:Nd} (h1:n.N.length≤140737488355328) (h2:n.T.size≤140737488355328) (h3:∀x∈n.I,Tame x):Tame n
theorem Tame.item {n:Nd} (h:Tame n):∀x∈n.I,Tame x:=by cases h;assumption
theorem NdAt.tame {w:World} {B:Nat} {n:Nd} {r:Raw} (h:NdAt w B n r):Tame n:=by
 induction h with
 |mk rs fit _ _ _ _ ih=>
  have h1:=fit.ln;refine .mk (by omega) fit.t fun x hx=>?_;obtain⟨i,hi⟩:=List.mem_iff_getElem?.1 hx;exact ih i x hi
theorem Jkp {n:Nd} {l:Int} (h1:oneB n=true) (h2:Tame n) (h3:0≤l) (h4:l≤400) (h5:0≤spend l n):spend l n+1≤l:=by
 obtain⟨t1,t2⟩:=Jhj h1;obtain⟨n1,n2,_⟩:=h2;unfold spend at h5 ⊢;rw [Jcd (n:=l - (1+(n.N.length:Int)+(n.E.length:Int))) ⟨by omega,by omega⟩,Jd6 _ _ (by omega) (by omega),Jcd ⟨by omega,by omega⟩] at h5 ⊢;omega
mutual
theorem Jb7:∀(n:Nd) (d l:Int),allB n=true→Tame n→0≤l→l≤400→(smallS n d l).1=true→0≤(smallS n d l).2∧(smallS n d l).2+(count n:Int)≤l
 | .mk K O N I S E T,d,l,ha,ht,h0,h1,h=>by
  rw [Jbt,Bool.and_eq_true] at ha;rw [Jcp] at h ⊢;split at h
  ·cases h
  ·rename_i hc
   rw [if_neg hc];have hs:=Jkp ha.2 ht h0 h1 (by omega);have:=Jee I (d - 1) _ ha.1 (fun x hx=>ht.item x hx) (by omega) (by omega) h;rw [Jam];show _∧_+((1+countL I:Nat):Int)≤l;refine⟨this.1,?_⟩;have h2:=this.2;show (smallL I (d - 1) (spend l (.mk K O N I S E T))).2+((1+countL I:Nat):Int)≤l;omega
theorem Jee:∀(L:List Nd) (d l:Int),allL L=true→(∀x∈L,Tame x)→0≤l→l≤400→(smallL L d l).1=true→0≤(smallL L d l).2∧(smallL L d l).2+(countL L:Int)≤l
 |[],d,l,_,_,h0,_,_=>by rw [Jcs,Jak];exact⟨h0,by simp⟩
 |x::L,d,l,ha,ht,h0,h1,h=>by
  rw [Jav,Bool.and_eq_true] at ha;rw [Jbo] at h ⊢;split at h
  ·rename_i hx
   rw [if_pos hx];have a:=Jb7 x d l ha.1 (ht x (List.mem_cons_self ..)) h0 h1 hx;have b:=Jee L d _ ha.2 (fun y hy=>ht y (List.mem_cons_of_mem _ hy)) a.1 (by omega) h;rw [Jaf];omega
  ·cases h
end
theorem Jej {n:Nd} (h:smallB n=true) (ha:allB n=true) (ht:Tame n):count n≤400:=by
 have:=Jb7 n 30 400 ha ht (by omega) (by omega) h;omega

mutual
theorem Jct:∀(n:Nd) (d c:Int),(eachS stR n d c).1=true→allB n=true∧d+(depth n:Int)≤15
 | .mk K O N I S E T,d,c,h=>by
  rw [Jdq] at h;split at h
  ·rename_i hs
   unfold stR at hs;rw [Bool.and_eq_true,Bool.and_eq_true,decide_eq_true_iff,decide_eq_true_iff] at hs;have:=Jfa I (d+1) _ h (by omega);rw [Jbt,Jah,hs.2];refine⟨by rw [show allL (Nd.I (.mk K O N I S E T))=true from this.1];rfl,?_⟩;have h2:=this.2;show d+(depthL I:Int)≤15;omega
  ·cases h
theorem Jfa:∀(L:List Nd) (d c:Int),(eachL stR L d c).1=true→d≤16→allL L=true∧d+(depthL L:Int)≤16
 |[],d,c,_,hd=>by rw [Jko,Jan];exact⟨rfl,by omega⟩
 |x::L,d,c,h,hd=>by
  rw [Jbx] at h;split at h
  ·rename_i hx
   have a:=Jct x d c hx;have b:=Jfa L d _ h hd;rw [Jav,a.1,b.1,Jaj];refine⟨rfl,?_⟩;have:=a.2;have:=b.2;omega
  ·cases h
end
mutual
theorem Jfi:∀(n:Nd) (d c:Int),allB n=true→d+(depth n:Int)≤15→0≤c→c+(count n:Int)≤4096→eachS stR n d c=(true,c+(count n:Int))
 | .mk K O N I S E T,d,c,ha,hd,h0,hc=>by
  rw [Jbt,Bool.and_eq_true] at ha;rw [Jah] at hd;rw [Jam] at hc ⊢;have hd':d+(depthL I:Int)≤15:=hd;have hc':c+((1+countL I:Nat):Int)≤4096:=hc;have hst:stR (.mk K O N I S E T) d c=(true,c+1):=by
   unfold stR;rw [Jcd ⟨by omega,by omega⟩,ha.2,decide_eq_true (by omega),decide_eq_true (by omega)];rfl
  rw [Jdq,hst,if_pos rfl];show eachL stR I (d+1) (c+1)=(true,c+((1+countL I:Nat):Int))
  rw [Jgi I (d+1) (c+1) ha.1 (by omega) (by omega) (by omega)];congr 1;omega
theorem Jgi:∀(L:List Nd) (d c:Int),allL L=true→d+(depthL L:Int)≤16→0≤c→c+(countL L:Int)≤4096→eachL stR L d c=(true,c+(countL L:Int))
 |[],d,c,_,_,_,_=>by rw [Jdg,Jak];simp
 |x::L,d,c,ha,hd,h0,hc=>by
  rw [Jav,Bool.and_eq_true] at ha;rw [Jaj] at hd;rw [Jaf] at hc ⊢;rw [Jbx,Jfi x d c ha.1 (by omega) h0 (by omega),if_pos rfl];show eachL stR L d (c+(count x:Int))=_;rw [Jgi L d _ ha.2 (by omega) (by omega) (by omega)];congr 1;omega
end
theorem Jfh {n:Nd} (h:smallB n=true) (ht:Tame n):treeB n=refB n:=by
 unfold treeB refB;rcases ha:allB n with _ |_
 ·rcases hs:(eachS stR n 0 0).1 with _ |_
  ·simp
  ·have:=(Jct n 0 0 hs).1
   rw [ha] at this;cases this
 ·have hc:=Jej h ha ht
  rw [Jcd ⟨by omega,by omega⟩,decide_eq_true (show (count n:Int)≤4096 by omega),Bool.and_true,Bool.and_true];by_cases hd:depth n≤15
  ·rw [Jfi n 0 0 ha (by omega) (by omega) (by omega),decide_eq_true hd]
  ·rw [decide_eq_false hd]
   rcases hs:(eachS stR n 0 0).1 with _ |_
   ·rfl
   ·have:=(Jct n 0 0 hs).2
    omega
mutual
theorem Jf1:∀(n:Nd) (d c:Int),d+(depth n:Int)≤65536→eachS stC n d (wrap64 c)=(true,wrap64 (c+(count n:Int)))
 | .mk K O N I S E T,d,c,hd=>by
  rw [Jah] at hd;have hd':d+(depthL I:Int)≤65536:=hd;have hw:wrap64 (wrap64 c+1)=wrap64 (c+1):=by unfold wrap64;omega
  have hst:stC (.mk K O N I S E T) d (wrap64 c)=(true,wrap64 (c+1)):=by
   unfold stC;rw [hw,decide_eq_true (by omega)]
  rw [Jdq,hst,if_pos rfl,Jam];show eachL stC I (d+1) (wrap64 (c+1))=(true,wrap64 (c+((1+countL I:Nat):Int)))
  rw [Jfr I (d+1) (c+1) (by omega)];congr 2;omega
theorem Jfr:∀(L:List Nd) (d c:Int),d+(depthL L:Int)≤65537→eachL stC L d (wrap64 c)=(true,wrap64 (c+(countL L:Int)))
 |[],d,c,_=>by rw [Jdg,Jak];simp
 |x::L,d,c,hd=>by
  rw [Jaj] at hd;rw [Jbx,Jf1 x d c (by omega),if_pos rfl,Jaf];show eachL stC L d (wrap64 (c+(count x:Int)))=_;rw [Jfr L d _ (by omega)];congr 2;omega
end
theorem Jh7 {n:Nd} (hd:depth n≤1000):countC n=wrap64 (count n:Int):=by
 unfold countC;have h:=Jf1 n 0 0 (by omega);rw [show wrap64 0=0 by decide+kernel] at h;rw [h,Int.zero_add]
mutual
theorem Jnx:∀(n:Nd) (d c:Int),d+(depth n:Int)≤65536→(eachS stE n d c).1=true
 | .mk K O N I S E T,d,c,hd=>by
  rw [Jah] at hd;have hd':d+(depthL I:Int)≤65536:=hd;have hst:stE (.mk K O N I S E T) d c=(true,c):=by
   unfold stE;rw [decide_eq_true (by omega)]
  rw [Jdq,hst,if_pos rfl];exact Jf8 I (d+1) c (by omega)
theorem Jf8:∀(L:List Nd) (d c:Int),d+(depthL L:Int)≤65537→(eachL stE L d c).1=true
 |[],d,c,_=>by rw [Jdg]
 |x::L,d,c,hd=>by
  rw [Jaj] at hd;rw [Jbx,if_pos (Jnx x d c (by omega))];exact Jf8 L d _ (by omega)
end

theorem Jsz {x y:ByteArray} (h:x≠y):(x.toList !=y.toList)=true:=by
 rw [bne_iff_ne,name.to_list,name.to_list];intro e;refine h ?_;obtain⟨⟨a⟩⟩:=x;obtain⟨⟨b⟩⟩:=y;simp only at e;rw [e]

def pr (x:Ex):Int×ByteArray:=(x.O,x.D)
end Go.Proofs.YtcoimjbhoiipoaaGreatDoor.tre
